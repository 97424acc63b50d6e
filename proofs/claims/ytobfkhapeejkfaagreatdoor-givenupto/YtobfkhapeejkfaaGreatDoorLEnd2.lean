/- What the program reads at an archive's end. -/
import Derived.Test.YtobfkhapeejkfaaGreatDoorLEnd
namespace Go.Proofs.YtobfkhapeejkfaaGreatDoor
open Go.RowKit
set_option linter.unusedSimpArgs false
set_option linter.unusedVariables false

/-- Is it in one piece? -/
def oneB (d1 d2 c1 c2 : Nat) : Bool := decide (d1 = 0) && decide (d2 = 0) && decide (c2 = c1)
set_option maxRecDepth 100000 in
set_option maxHeartbeats 1000000 in
theorem takeEnding_c (w : World) (b : Nat) (s : ByteArray) (E q d c z : Nat) (hd : d ≤ 8) (hc : c ≤ 8) (hz : z ≤ 8) (h : FR w b s E (some q)) (hf : q + d + d + c + c + z + z ≤ E) (hs : s.size ≤ 140737488355328) :
    Calls Tryz.prog 128 #[.pointer (some ⟨b, 0, none⟩), .int .i64 (d : Int), .int .i64 (c : Int), .int .i64 (z : Int)] w fun e w' =>
      e = .returned (.agg #[.int .i64 (numIn s (q + d + d + c) c : Nat), .int .i64 (numIn s (q + d + d + c + c) z : Nat), .int .i64 (numIn s (q + d + d + c + c + z) z : Nat), .int .i64 0, .bool (oneB (numIn s q d) (numIn s (q + d) d) (numIn s (q + d + d) c) (numIn s (q + d + d + c) c))]) ∧ FR w' b s E (some (q + d + d + c + c + z + z)) ∧ Touch (fun k => k = b) w w' := by
  have hb := World.block_lt_of_cell? w _ h.rest
  go_enter Tryz.func128, Tryz.ntmps128
  have h0 : FR (w.alloc (Obj.cells #[.int .i64 0, .int .i64 0, .int .i64 0, .int .i64 0, .bool false] 164)) b s E (some q) := h.keep ((Touch.refl (fun _ => False) w).alloc _) (fun e => e)
  go_wp2_with fail
  refine (fnum_some _ _ s E (q) d h0 (by omega) (by omega) hs).mono ?_
  rintro e w1 ⟨rfl, f1, t1⟩
  have T1 := t1
  clear t1 h0
  go_wp2_with fail
  refine (fnum_some _ _ s E (q + d) d f1 (by omega) (by omega) hs).mono ?_
  rintro e w2 ⟨rfl, f2, t2⟩
  have T2 := T1.trans t2
  clear t2 T1 f1
  go_wp2_with fail
  refine (fnum_some _ _ s E (q + d + d) c f2 (by omega) (by omega) hs).mono ?_
  rintro e w3 ⟨rfl, f3, t3⟩
  have T3 := T2.trans t3
  clear t3 T2 f2
  go_wp2_with fail
  refine (fnum_some _ _ s E (q + d + d + c) c f3 (by omega) (by omega) hs).mono ?_
  rintro e w4 ⟨rfl, f4, t4⟩
  have T4 := T3.trans t4
  clear t4 T3 f3
  go_wp2_with fail
  refine (fnum_some _ _ s E (q + d + d + c + c) z f4 (by omega) (by omega) hs).mono ?_
  rintro e w5 ⟨rfl, f5, t5⟩
  have T5 := T4.trans t5
  clear t5 T4 f4
  go_wp2_with fail
  refine (fnum_some _ _ s E (q + d + d + c + c + z) z f5 (by omega) (by omega) hs).mono ?_
  rintro e w6 ⟨rfl, f6, t6⟩
  have T6 := T5.trans t6
  clear t6 T5 f5
  have hne : ¬ w.heap.size = b := by omega
  have nb := heap_alloc_new w (Obj.cells #[.int .i64 0, .int .i64 0, .int .i64 0, .int .i64 0, .bool false] 164)
  have nb6 : w6.heap[w.heap.size]? = some (Obj.cells #[.int .i64 0, .int .i64 0, .int .i64 0, .int .i64 0, .bool false] 164) := (T6.block w.heap.size (by simp) hne).trans nb
  obtain ⟨n1, e1⟩ : ∃ n, n = numIn s q d := ⟨_, rfl⟩
  obtain ⟨n2, e2⟩ : ∃ n, n = numIn s (q + d) d := ⟨_, rfl⟩
  obtain ⟨n3, e3⟩ : ∃ n, n = numIn s (q + d + d) c := ⟨_, rfl⟩
  obtain ⟨n4, e4⟩ : ∃ n, n = numIn s (q + d + d + c) c := ⟨_, rfl⟩
  obtain ⟨n5, e5⟩ : ∃ n, n = numIn s (q + d + d + c + c) z := ⟨_, rfl⟩
  obtain ⟨n6, e6⟩ : ∃ n, n = numIn s (q + d + d + c + c + z) z := ⟨_, rfl⟩
  rw [← e1, ← e2, ← e3, ← e4, ← e5, ← e6]
  have HN : Hid (n1 = numIn s q d ∧ n2 = numIn s (q + d) d ∧ n3 = numIn s (q + d + d) c ∧ n4 = numIn s (q + d + d + c) c ∧ n5 = numIn s (q + d + d + c + c) z ∧ n6 = numIn s (q + d + d + c + c + z) z) := ⟨e1, e2, e3, e4, e5, e6⟩
  clear e1 e2 e3 e4 e5 e6 nb
  have g0 : w6.cell? ⟨w.heap.size, 0, none⟩ = some (.int .i64 0) := by rw [row_cell nb6 0]; rfl
  have g1 : w6.cell? ⟨w.heap.size, 1, none⟩ = some (.int .i64 0) := by rw [row_cell nb6 1]; rfl
  have g2 : w6.cell? ⟨w.heap.size, 2, none⟩ = some (.int .i64 0) := by rw [row_cell nb6 2]; rfl
  have g3 : w6.cell? ⟨w.heap.size, 3, none⟩ = some (.int .i64 0) := by rw [row_cell nb6 3]; rfl
  have g4 : w6.cell? ⟨w.heap.size, 4, none⟩ = some (.bool false) := by rw [row_cell nb6 4]; rfl
  have fz : ∀ o, w6.frozen? ⟨w.heap.size, o, none⟩ = false := fun o => by rw [T6.frozen (p := ⟨w.heap.size, o, none⟩) (by simp) hne]; simp [go_sem]
  have TB : Touch (fun k => k = b) w w6 := ((Touch.refl (fun k => k = b) w).alloc _).trans T6
  have hsz : w.heap.size ≤ w6.heap.size := TB.size
  clear T6 nb6 h hne
  have FIN : Hid (∀ x : Bool, FR (((((w6.setCell ⟨w.heap.size, 0, none⟩ (.int .i64 n4)).setCell ⟨w.heap.size, 1, none⟩ (.int .i64 n5)).setCell ⟨w.heap.size, 2, none⟩ (.int .i64 n6)).setCell ⟨w.heap.size, 3, none⟩ (.int .i64 0)).setCell ⟨w.heap.size, 4, none⟩ (.bool x)) b s E (some (q + d + d + c + c + z + z)) ∧ Touch (fun k => k = b) w (((((w6.setCell ⟨w.heap.size, 0, none⟩ (.int .i64 n4)).setCell ⟨w.heap.size, 1, none⟩ (.int .i64 n5)).setCell ⟨w.heap.size, 2, none⟩ (.int .i64 n6)).setCell ⟨w.heap.size, 3, none⟩ (.int .i64 0)).setCell ⟨w.heap.size, 4, none⟩ (.bool x))) := by
    intro x
    have ne : ∀ o v, ∀ W : World, FR W b s E (some (q + d + d + c + c + z + z)) → FR (W.setCell ⟨w.heap.size, o, none⟩ v) b s E (some (q + d + d + c + c + z + z)) := fun o v W hW => hW.keep (S := fun k => k = w.heap.size) (touch_set W w.heap.size o v) (by show ¬ b = w.heap.size; omega)
    exact ⟨ne _ _ _ (ne _ _ _ (ne _ _ _ (ne _ _ _ (ne _ _ _ f6)))), ((((TB.setNew (Nat.le_refl _) _).setNew (Nat.le_refl _) _).setNew (Nat.le_refl _) _).setNew (Nat.le_refl _) _).setNew (Nat.le_refl _) _⟩
  by_cases z1 : n1 = 0
  · have b1 : ((n1 : Int) == 0) = true := by simp; exact z1
    by_cases z2 : n2 = 0
    · have b2 : ((n2 : Int) == 0) = true := by simp; exact z2
      by_cases z3 : n4 = n3
      · have b3 : ((n4 : Int) == (n3 : Int)) = true := by simp; omega
        have HO : Hid (oneB n1 n2 n3 n4 = true) := by unfold Hid oneB; simp [z1, z2, z3]
        clear z1 z2 z3
        go_wp2
        refine bodyPost_ret (v := .agg #[.int .i64 n4, .int .i64 n5, .int .i64 n6, .int .i64 0, .bool true]) (by simp [results, Tryz.results128, go_sem, cell_set_if, g0, g1, g2, g3, g4]) rfl ⟨?_, FIN.out _⟩
        obtain ⟨e1, e2, e3, e4, e5, e6⟩ := HN.out
        rw [← e1, ← e2, ← e3, ← e4, ← e5, ← e6, HO.out]
      · have b3 : ((n4 : Int) == (n3 : Int)) = false := by simp; omega
        have HO : Hid (oneB n1 n2 n3 n4 = false) := by unfold Hid oneB; simp [z1, z2, z3]
        clear z1 z2 z3
        go_wp2
        refine bodyPost_ret (v := .agg #[.int .i64 n4, .int .i64 n5, .int .i64 n6, .int .i64 0, .bool false]) (by simp [results, Tryz.results128, go_sem, cell_set_if, g0, g1, g2, g3, g4]) rfl ⟨?_, FIN.out _⟩
        obtain ⟨e1, e2, e3, e4, e5, e6⟩ := HN.out
        rw [← e1, ← e2, ← e3, ← e4, ← e5, ← e6, HO.out]
    · have b2 : ((n2 : Int) == 0) = false := by simp; exact z2
      have HO : Hid (oneB n1 n2 n3 n4 = false) := by unfold Hid oneB; simp [z1, z2]
      clear z1 z2
      go_wp2
      refine bodyPost_ret (v := .agg #[.int .i64 n4, .int .i64 n5, .int .i64 n6, .int .i64 0, .bool false]) (by simp [results, Tryz.results128, go_sem, cell_set_if, g0, g1, g2, g3, g4]) rfl ⟨?_, FIN.out _⟩
      obtain ⟨e1, e2, e3, e4, e5, e6⟩ := HN.out
      rw [← e1, ← e2, ← e3, ← e4, ← e5, ← e6, HO.out]
  · have b1 : ((n1 : Int) == 0) = false := by simp; exact z1
    have HO : Hid (oneB n1 n2 n3 n4 = false) := by unfold Hid oneB; simp [z1]
    clear z1
    go_wp2
    refine bodyPost_ret (v := .agg #[.int .i64 n4, .int .i64 n5, .int .i64 n6, .int .i64 0, .bool false]) (by simp [results, Tryz.results128, go_sem, cell_set_if, g0, g1, g2, g3, g4]) rfl ⟨?_, FIN.out _⟩
    obtain ⟨e1, e2, e3, e4, e5, e6⟩ := HN.out
    rw [← e1, ← e2, ← e3, ← e4, ← e5, ← e6, HO.out]

end Go.Proofs.YtobfkhapeejkfaaGreatDoor
