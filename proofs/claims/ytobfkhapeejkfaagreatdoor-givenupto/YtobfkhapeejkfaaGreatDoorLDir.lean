/- Where an archive's directory lies, as its end says (not by PK 6 6). -/
import Derived.Test.YtobfkhapeejkfaaGreatDoorLEnd2
namespace Go.Proofs.YtobfkhapeejkfaaGreatDoor
open Go.RowKit
set_option linter.unusedSimpArgs false
set_option linter.unusedVariables false

theorem tcell {W w1 : World} (hb : Touch (fun _ => False) W w1) : (∀ b o, b < W.heap.size → w1.cell? ⟨b, o, none⟩ = W.cell? ⟨b, o, none⟩) ∧ (∀ b o, b < W.heap.size → w1.frozen? ⟨b, o, none⟩ = W.frozen? ⟨b, o, none⟩) :=
  ⟨fun b o h => hb.cell (p := ⟨b, o, none⟩) h (fun e => e), fun b o h => hb.frozen (p := ⟨b, o, none⟩) h (fun e => e)⟩
theorem frozen_row {w : World} {b : Nat} {cs : Array Value} {t : TypeId} (h : w.heap[b]? = some (Obj.cells cs t)) (o : Nat) : w.frozen? ⟨b, o, none⟩ = false := by
  unfold World.frozen?; rw [h]; simp [go_sem]
/-- What the end at the place p says: is it in one piece? -/
def endOne (s : ByteArray) (p : Nat) : Bool := oneB (numIn s (p + 4) 2) (numIn s (p + 6) 2) (numIn s (p + 8) 2) (numIn s (p + 10) 2)

set_option maxRecDepth 100000 in
set_option maxHeartbeats 1000000 in
theorem readEnd_c (w : World) (s : ByteArray) (p : Nat) (hp : p + 22 ≤ s.size) (hs : s.size ≤ 140737488355328) :
    Calls Tryz.prog 80 #[.string s, .int .i64 (p : Int)] w fun e w' =>
      e = .returned (.agg #[.int .i64 (numIn s (p + 10) 2 : Nat), .int .i64 (numIn s (p + 12) 4 : Nat), .int .i64 (numIn s (p + 16) 4 : Nat), .int .i64 (p : Int), .bool (endOne s p)]) ∧ Touch (fun _ => False) w w' := by
  have c1 : (p : Int) + 4 ≤ (s.size : Int) := by omega
  have W1 : Touch (fun _ => False) w (w.alloc (Obj.cells #[.int .i64 0, .int .i64 0, .int .i64 0, .int .i64 0, .bool false] 164)) := (Touch.refl _ w).alloc _
  have f0 := FR.new (w.alloc (Obj.cells #[.int .i64 0, .int .i64 0, .int .i64 0, .int .i64 0, .bool false] 164)) s (p + 4) (by omega) _ rfl
  rw [World.size_alloc] at f0
  go_enter Tryz.func80, Tryz.ntmps80
  go_wp2_with fail
  refine (takeEnding_c _ _ s s.size (p + 4) 2 2 4 (by omega) (by omega) (by omega) f0 (by omega) hs).mono ?_
  rintro e w1 ⟨rfl, f1, t1⟩
  have T1 : Touch (fun _ => False) w w1 := (W1.alloc _).onNew t1 (by simp)
  have nb : w1.heap[w.heap.size]? = some (Obj.cells #[.int .i64 0, .int .i64 0, .int .i64 0, .int .i64 0, .bool false] 164) := by
    rw [t1.block w.heap.size (by simp; omega) (by simp)]
    exact (Below.heap_alloc _ _ _ (by simp)).trans (heap_alloc_new w _)
  have g0 : w1.cell? ⟨w.heap.size, 0, none⟩ = some (.int .i64 0) := by rw [row_cell nb 0]; rfl
  have g1 : w1.cell? ⟨w.heap.size, 1, none⟩ = some (.int .i64 0) := by rw [row_cell nb 1]; rfl
  have g2 : w1.cell? ⟨w.heap.size, 2, none⟩ = some (.int .i64 0) := by rw [row_cell nb 2]; rfl
  have g3 : w1.cell? ⟨w.heap.size, 3, none⟩ = some (.int .i64 0) := by rw [row_cell nb 3]; rfl
  have g4 : w1.cell? ⟨w.heap.size, 4, none⟩ = some (.bool false) := by rw [row_cell nb 4]; rfl
  have fz : ∀ o, w1.frozen? ⟨w.heap.size, o, none⟩ = false := fun o => by rw [t1.frozen (p := ⟨w.heap.size, o, none⟩) (by simp; omega) (by simp)]; simp [go_sem]
  have hsz : w.heap.size + 1 < w1.heap.size := World.block_lt_of_cell? w1 _ f1.rest
  have hs0 : w.heap.size < w1.heap.size := by omega
  clear hsz
  obtain ⟨n1, e1⟩ : ∃ n, n = numIn s (p + 4 + 2 + 2 + 2) 2 := ⟨_, rfl⟩
  obtain ⟨n2, e2⟩ : ∃ n, n = numIn s (p + 4 + 2 + 2 + 2 + 2) 4 := ⟨_, rfl⟩
  obtain ⟨n3, e3⟩ : ∃ n, n = numIn s (p + 4 + 2 + 2 + 2 + 2 + 4) 4 := ⟨_, rfl⟩
  obtain ⟨x, e4⟩ : ∃ x, x = oneB (numIn s (p + 4) 2) (numIn s (p + 4 + 2) 2) (numIn s (p + 4 + 2 + 2) 2) (numIn s (p + 4 + 2 + 2 + 2) 2) := ⟨_, rfl⟩
  have HN : Hid (n1 = numIn s (p + 10) 2 ∧ n2 = numIn s (p + 12) 4 ∧ n3 = numIn s (p + 16) 4 ∧ x = endOne s p) := ⟨e1, e2, e3, e4⟩
  rw [← e4, ← e1, ← e2, ← e3]
  clear e1 e2 e3 e4 nb t1 f0 f1 W1
  go_wp2
  refine bodyPost_ret (v := .agg #[.int .i64 n1, .int .i64 n2, .int .i64 n3, .int .i64 p, .bool x]) (by simp [results, Tryz.results80, go_sem, cell_set_if, size_setCell, hs0, g0, g1, g2, g3, g4]) rfl ⟨?_, ?_⟩
  · obtain ⟨e1, e2, e3, e4⟩ := HN.out; rw [← e1, ← e2, ← e3, ← e4]
  · exact (((((T1.setNew (Nat.le_refl _) _).setNew (Nat.le_refl _) _).setNew (Nat.le_refl _) _).setNew (Nat.le_refl _) _).setNew (Nat.le_refl _) _).alloc _

set_option maxRecDepth 100000 in
set_option maxHeartbeats 1000000 in
theorem isElsewhere_c (w : World) (n1 n2 n3 n4 : Nat) (x : Bool) :
    Calls Tryz.prog 81 #[.agg #[.int .i64 (n1 : Int), .int .i64 (n2 : Int), .int .i64 (n3 : Int), .int .i64 (n4 : Int), .bool x]] w fun e w' =>
      e = .returned (.bool (decide (n1 = 65535) || decide (n2 = 4294967295) || decide (n3 = 4294967295))) ∧ Touch (fun _ => False) w w' := by
  have T1 : Touch (fun _ => False) w (w.alloc (Obj.cells #[.int .i64 (n1 : Int), .int .i64 (n2 : Int), .int .i64 (n3 : Int), .int .i64 (n4 : Int), .bool x] 164)) := (Touch.refl _ w).alloc _
  by_cases h1 : n1 = 65535
  · have b1 : ((n1 : Int) == 65535) = true := by simp; omega
    have HE : Hid ((decide (n1 = 65535) || decide (n2 = 4294967295) || decide (n3 = 4294967295)) = true) := by unfold Hid; rw [decide_eq_true h1]; rfl
    clear h1
    go_enter Tryz.func81, Tryz.ntmps81
    go_wp2
    go_ret
    exact ⟨by rw [HE.out]; rfl, T1⟩
  · have b1 : ((n1 : Int) == 65535) = false := by simp; omega
    by_cases h2 : n2 = 4294967295
    · have b2 : ((n2 : Int) == 4294967295) = true := by simp; omega
      have HE : Hid ((decide (n1 = 65535) || decide (n2 = 4294967295) || decide (n3 = 4294967295)) = true) := by unfold Hid; rw [decide_eq_true h2, Bool.or_true]; rfl
      clear h1 h2
      go_enter Tryz.func81, Tryz.ntmps81
      go_wp2
      go_ret
      exact ⟨by rw [HE.out]; rfl, T1⟩
    · have b2 : ((n2 : Int) == 4294967295) = false := by simp; omega
      have HE : Hid ((decide (n1 = 65535) || decide (n2 = 4294967295) || decide (n3 = 4294967295)) = ((n3 : Int) == 4294967295)) := by
        unfold Hid; rw [decide_eq_false h1, decide_eq_false h2]; by_cases h3 : n3 = 4294967295 <;> simp [h3] <;> omega
      clear h1 h2
      go_enter Tryz.func81, Tryz.ntmps81
      go_wp2
      go_ret
      exact ⟨by rw [HE.out]; rfl, T1⟩

set_option maxRecDepth 100000 in
set_option maxHeartbeats 1000000 in
/-- The directory, as the end says, where PK 6 6 does not count. -/
theorem findDirectory_plain (w : World) (s : ByteArray) (p : Nat) (hp : endFrom s 101 0 = some p) (hp22 : p + 22 ≤ s.size) (he : (decide (numIn s (p + 10) 2 = 65535) || decide (numIn s (p + 12) 4 = 4294967295) || decide (numIn s (p + 16) 4 = 4294967295)) = false) (ho : endOne s p = true) (hs : s.size ≤ 140737488355328) :
    Calls Tryz.prog 50 #[.string s] w fun e w' =>
      e = .returned (.tuple #[.agg #[.int .i64 (numIn s (p + 10) 2 : Nat), .int .i64 (numIn s (p + 12) 4 : Nat), .int .i64 (numIn s (p + 16) 4 : Nat), .int .i64 (p : Int)], .int .i64 0]) ∧ Touch (fun _ => False) w w' := by
  have hc := fun W => findEnd_c W s hs
  rw [hp] at hc
  have HC : Hid (∀ W, Calls Tryz.prog 79 #[.string s] W fun e w' => e = .returned (.tuple #[.int .i64 (p : Int), .bool true]) ∧ Touch (fun _ => False) W w') := hc
  clear hc hp
  have W1 : Touch (fun _ => False) w (w.alloc (Obj.cells #[.int .i64 0, .int .i64 0, .int .i64 0, .int .i64 0] 120)) := (Touch.refl _ w).alloc _
  have HN := fun W => readEnd_c W s p hp22 hs
  rw [ho] at HN
  have HI := fun W => isElsewhere_c W (numIn s (p + 10) 2) (numIn s (p + 12) 4) (numIn s (p + 16) 4) p true
  rw [he] at HI
  revert HN HI
  generalize numIn s (p + 10) 2 = n1
  generalize numIn s (p + 12) 4 = n2
  generalize numIn s (p + 16) 4 = n3
  intro HN HI
  have HN' : Hid (∀ W, Calls Tryz.prog 80 #[.string s, .int .i64 (p : Int)] W fun e w' => e = .returned (.agg #[.int .i64 (n1 : Int), .int .i64 (n2 : Int), .int .i64 (n3 : Int), .int .i64 (p : Int), .bool true]) ∧ Touch (fun _ => False) W w') := HN
  have HI' : Hid (∀ W, Calls Tryz.prog 81 #[.agg #[.int .i64 (n1 : Int), .int .i64 (n2 : Int), .int .i64 (n3 : Int), .int .i64 (p : Int), .bool true]] W fun e w' => e = .returned (.bool false) ∧ Touch (fun _ => False) W w') := HI
  clear HN HI he ho
  go_enter Tryz.func50, Tryz.ntmps50
  go_wp2_with fail
  refine (HC.out _).mono ?_
  rintro e w1 ⟨rfl, t1⟩
  have b1 : w1.heap[w.heap.size]? = some (Obj.cells #[.int .i64 0, .int .i64 0, .int .i64 0, .int .i64 0] 120) := (t1.block _ (by simp) (fun e => e)).trans (heap_alloc_new w _)
  have z1 : w.heap.size < w1.heap.size := by have := t1.size; simp at this; omega
  have T1 := W1.trans t1
  clear t1 W1
  go_wp2_with fail
  refine (HN'.out _).mono ?_
  rintro e w2 ⟨rfl, t2⟩
  have b2 := (t2.block _ z1 (fun e => e)).trans b1
  have z2 : w.heap.size < w2.heap.size := by have := t2.size; omega
  have T2 := T1.trans t2
  clear t2 T1 b1
  go_wp2_with fail
  refine (HI'.out _).mono ?_
  rintro e w3 ⟨rfl, t3⟩
  have T3 := (T2.alloc _).trans t3
  have z3 : w2.heap.size < w3.heap.size := by have := t3.size; simp at this; omega
  have z4 : w.heap.size < w3.heap.size := by omega
  have b3 := (t3.block w.heap.size (by simp; omega) (fun e => e)).trans ((Below.heap_alloc _ _ _ z2).trans b2)
  have b4 := (t3.block w2.heap.size (by simp) (fun e => e)).trans (heap_alloc_new w2 _)
  have g0 : w3.cell? ⟨w.heap.size, 0, none⟩ = some (.int .i64 0) := by rw [row_cell b3 0]; rfl
  have g1 : w3.cell? ⟨w.heap.size, 1, none⟩ = some (.int .i64 0) := by rw [row_cell b3 1]; rfl
  have g2 : w3.cell? ⟨w.heap.size, 2, none⟩ = some (.int .i64 0) := by rw [row_cell b3 2]; rfl
  have g3 : w3.cell? ⟨w.heap.size, 3, none⟩ = some (.int .i64 0) := by rw [row_cell b3 3]; rfl
  have q0 : w3.cell? ⟨w2.heap.size, 0, none⟩ = some (.int .i64 n1) := by rw [row_cell b4 0]; rfl
  have q1 : w3.cell? ⟨w2.heap.size, 1, none⟩ = some (.int .i64 n2) := by rw [row_cell b4 1]; rfl
  have q2 : w3.cell? ⟨w2.heap.size, 2, none⟩ = some (.int .i64 n3) := by rw [row_cell b4 2]; rfl
  have q3 : w3.cell? ⟨w2.heap.size, 3, none⟩ = some (.int .i64 p) := by rw [row_cell b4 3]; rfl
  have q4 : w3.cell? ⟨w2.heap.size, 4, none⟩ = some (.bool true) := by rw [row_cell b4 4]; rfl
  have fz : ∀ o, w3.frozen? ⟨w.heap.size, o, none⟩ = false := fun o => frozen_row b3 o
  clear t3 T2 b2 b3 b4 z3 z2 z1
  go_wp2
  refine bodyPost_ret (v := .tuple #[.agg #[.int .i64 n1, .int .i64 n2, .int .i64 n3, .int .i64 p], .int .i64 0]) (by simp [results, Tryz.results50, go_sem, cell_set_if, g0, g1, g2, g3]) rfl ⟨rfl, ?_⟩
  exact (((T3.setNew (Nat.le_refl _) _).setNew (Nat.le_refl _) _).setNew (Nat.le_refl _) _).setNew (Nat.le_refl _) _
end Go.Proofs.YtobfkhapeejkfaaGreatDoor
