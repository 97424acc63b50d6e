/- Texts of this seat, joined. -/
import Derived.Test.YtnmkmmgaoplfiaaGreatDoorJ08
set_option linter.unusedSimpArgs false
set_option linter.unusedVariables false
set_option maxRecDepth 100000
set_option maxHeartbeats 20000000
namespace Go.Proofs.YtnmkmmgaoplfiaaGreatDoor
open Go.RowKit
theorem endFrom_le (s : ByteArray) : ∀ (f b p : Nat), endFrom s f b = some p → p + 22 ≤ s.size
 | 0, _, _, h => by simp [endFrom] at h
 | f + 1, b, p, h => by
  unfold endFrom at h
  split at h
  ·split at h
   ·cases h; omega
   ·exact endFrom_le s f _ p h
  ·cases h
def dirV : Except Nat Dir → Value
 | .ok d => .tuple #[.agg #[.int .i64 (d.count : Int), .int .i64 (d.size : Int), .int .i64 (d.place : Int), .int .i64 (d.stop : Int)], .int .i64 0]
 | .error x => .tuple #[.agg #[.int .i64 0, .int .i64 0, .int .i64 0, .int .i64 0], .int .i64 (x : Int)]
theorem findDirectory_c (w : World) (s : ByteArray) (hs : s.size ≤ 140737488355328) :
  Calls Tryz.prog 23 #[.string s] w fun e w' => e = .returned (dirV (dirOf s)) ∧ Touch (fun _ => False) w w' := by
 have hc := fun W => findEnd_c W s hs
 have W1 : Touch (fun _ => False) w (w.alloc (Obj.cells #[.int .i64 0, .int .i64 0, .int .i64 0, .int .i64 0] 66)) := (Touch.refl _ w).alloc _
 cases hp : endFrom s 101 0 with
 | none =>
  rw [hp] at hc
  have HC : Hid (∀ W, Calls Tryz.prog 44 #[.string s] W fun e w' => e = .returned (.tuple #[.int .i64 0, .bool false]) ∧ Touch (fun _ => False) W w') := hc
  have HD : Hid (dirOf s = .error 3) := by unfold Hid dirOf; rw [hp]
  clear hc hp
  go_enter Tryz.func23, Tryz.ntmps23
  go_wp2_with fail
  refine (HC.out _).mono ?_
  rintro e w1 ⟨rfl, t1⟩
  have b1 : w1.heap[w.heap.size]? = some (Obj.cells #[.int .i64 0, .int .i64 0, .int .i64 0, .int .i64 0] 66) := (t1.block _ (by simp) (fun e => e)).trans (heap_alloc_new w _)
  have T1 := W1.trans t1
  have g0 : w1.cell? ⟨w.heap.size, 0, none⟩ = some (.int .i64 0) := by rw [row_cell b1 0]; rfl
  have g1 : w1.cell? ⟨w.heap.size, 1, none⟩ = some (.int .i64 0) := by rw [row_cell b1 1]; rfl
  have g2 : w1.cell? ⟨w.heap.size, 2, none⟩ = some (.int .i64 0) := by rw [row_cell b1 2]; rfl
  have g3 : w1.cell? ⟨w.heap.size, 3, none⟩ = some (.int .i64 0) := by rw [row_cell b1 3]; rfl
  have fz : ∀ o, w1.frozen? ⟨w.heap.size, o, none⟩ = false := fun o => frozen_row b1 o
  clear t1 W1 b1
  go_wp2
  refine bodyPost_ret (v := .tuple #[.agg #[.int .i64 0, .int .i64 0, .int .i64 0, .int .i64 0], .int .i64 3]) (by simp [results, Tryz.results23, go_sem, cell_set_if, g0, g1, g2, g3]) rfl ⟨by rw [HD.out]; rfl, ?_⟩
  exact (((T1.setNew (Nat.le_refl _) _).setNew (Nat.le_refl _) _).setNew (Nat.le_refl _) _).setNew (Nat.le_refl _) _
 | some p =>
  have hp22 := endFrom_le s _ _ _ hp
  rw [hp] at hc
  have HC : Hid (∀ W, Calls Tryz.prog 44 #[.string s] W fun e w' => e = .returned (.tuple #[.int .i64 (p : Int), .bool true]) ∧ Touch (fun _ => False) W w') := hc
  have HN := fun W => readEnd_c W s p hp22 hs
  have HI := fun W => isElsewhere_c W (numIn s (p + 10) 2) (numIn s (p + 12) 4) (numIn s (p + 16) 4) p (endOne s p)
  have HW := fun W => readWideEnd_c W s p (by omega) hs
  have HD : Hid (dirOf s = if elseB s p then (if wideOk s p then (if endOne s p && wideOne s p then .ok ⟨numIn s (p - 76 + 32) 8, numIn s (p - 76 + 40) 8, numIn s (p - 76 + 48) 8, p - 76⟩ else .error 4) else .error 3) else if endOne s p then .ok ⟨numIn s (p + 10) 2, numIn s (p + 12) 4, numIn s (p + 16) 4, p⟩ else .error 4) := by unfold Hid dirOf; rw [hp]
  have HE : elseB s p = (decide (numIn s (p + 10) 2 = 65535) || decide (numIn s (p + 12) 4 = 4294967295) || decide (numIn s (p + 16) 4 = 4294967295)) := rfl
  rw [← HE] at HI
  obtain ⟨n1, e1⟩ : ∃ n, n = numIn s (p + 10) 2 := ⟨_, rfl⟩
  obtain ⟨n2, e2⟩ : ∃ n, n = numIn s (p + 12) 4 := ⟨_, rfl⟩
  obtain ⟨n3, e3⟩ : ∃ n, n = numIn s (p + 16) 4 := ⟨_, rfl⟩
  obtain ⟨eb, e4⟩ : ∃ n, n = elseB s p := ⟨_, rfl⟩
  obtain ⟨ob, e5⟩ : ∃ n, n = endOne s p := ⟨_, rfl⟩
  obtain ⟨wb, e6⟩ : ∃ n, n = wideOk s p := ⟨_, rfl⟩
  rw [← e1, ← e2, ← e3, ← e5] at HN
  rw [← e1, ← e2, ← e3, ← e4, ← e5] at HI
  rw [← e1, ← e2, ← e3, ← e4, ← e5, ← e6] at HD
  rw [← e6] at HW
  have HN' : Hid (∀ W, Calls Tryz.prog 45 #[.string s, .int .i64 (p : Int)] W fun e w' => e = .returned (.agg #[.int .i64 (n1 : Int), .int .i64 (n2 : Int), .int .i64 (n3 : Int), .int .i64 (p : Int), .bool ob]) ∧ Touch (fun _ => False) W w') := HN
  have HI' : Hid (∀ W, Calls Tryz.prog 46 #[.agg #[.int .i64 (n1 : Int), .int .i64 (n2 : Int), .int .i64 (n3 : Int), .int .i64 (p : Int), .bool ob]] W fun e w' => e = .returned (.bool eb) ∧ Touch (fun _ => False) W w') := HI
  have HW' : Hid (∀ W, Calls Tryz.prog 47 #[.string (s.extract 0 p)] W _) := HW
  have pl : (p : Int) ≤ (s.size : Int) := by omega
  clear HN HI hc hp HE e1 e2 e3 e4 e5 e6 HW
  go_enter Tryz.func23, Tryz.ntmps23
  go_wp2_with fail
  refine (HC.out _).mono ?_
  rintro e w1 ⟨rfl, t1⟩
  have b1 : w1.heap[w.heap.size]? = some (Obj.cells #[.int .i64 0, .int .i64 0, .int .i64 0, .int .i64 0] 66) := (t1.block _ (by simp) (fun e => e)).trans (heap_alloc_new w _)
  have z1 : w.heap.size < w1.heap.size := by have := t1.size; simp at this; omega
  have T1 := W1.trans t1
  clear t1 W1
  go_wp2_with fail
  refine (HN'.out _).mono ?_
  rintro e w2 ⟨rfl, t2⟩
  have b2 := (t2.block _ z1 (fun e => e)).trans b1
  have z2 : w.heap.size < w2.heap.size := by have := t2.size; omega
  have T2 := T1.trans t2
  clear t2 T1 b1
  go_wp2_with fail
  refine (HI'.out _).mono ?_
  rintro e w3 ⟨rfl, t3⟩
  have T3 := (T2.alloc _).trans t3
  have z3 : w2.heap.size < w3.heap.size := by have := t3.size; simp at this; omega
  have z4 : w.heap.size < w3.heap.size := by omega
  have b3 := (t3.block w.heap.size (by simp; omega) (fun e => e)).trans ((Below.heap_alloc _ _ _ z2).trans b2)
  have b4 := (t3.block w2.heap.size (by simp) (fun e => e)).trans (heap_alloc_new w2 _)
  clear t3 T2 b2
  have ne : ¬ w2.heap.size = w.heap.size := by omega
  have ne' : ¬ w.heap.size = w2.heap.size := by omega
  have zl : w.heap.size ≤ w2.heap.size := by omega
  cases eb with
  | false =>
   have g0 : w3.cell? ⟨w.heap.size, 0, none⟩ = some (.int .i64 0) := by rw [row_cell b3 0]; rfl
   have g1 : w3.cell? ⟨w.heap.size, 1, none⟩ = some (.int .i64 0) := by rw [row_cell b3 1]; rfl
   have g2 : w3.cell? ⟨w.heap.size, 2, none⟩ = some (.int .i64 0) := by rw [row_cell b3 2]; rfl
   have g3 : w3.cell? ⟨w.heap.size, 3, none⟩ = some (.int .i64 0) := by rw [row_cell b3 3]; rfl
   have q0 : w3.cell? ⟨w2.heap.size, 0, none⟩ = some (.int .i64 n1) := by rw [row_cell b4 0]; rfl
   have q1 : w3.cell? ⟨w2.heap.size, 1, none⟩ = some (.int .i64 n2) := by rw [row_cell b4 1]; rfl
   have q2 : w3.cell? ⟨w2.heap.size, 2, none⟩ = some (.int .i64 n3) := by rw [row_cell b4 2]; rfl
   have q3 : w3.cell? ⟨w2.heap.size, 3, none⟩ = some (.int .i64 p) := by rw [row_cell b4 3]; rfl
   have fz : ∀ o, w3.frozen? ⟨w.heap.size, o, none⟩ = false := fun o => frozen_row b3 o
   clear b3 b4 z3 z2 z1
   cases ob with
   | true =>
    go_wp2
    refine bodyPost_ret (v := .tuple #[.agg #[.int .i64 n1, .int .i64 n2, .int .i64 n3, .int .i64 p], .int .i64 0]) (by simp [results, Tryz.results23, go_sem, cell_set_if, g0, g1, g2, g3]) rfl ⟨by rw [HD.out]; rfl, ?_⟩
    exact (((T3.setNew (Nat.le_refl _) _).setNew (Nat.le_refl _) _).setNew (Nat.le_refl _) _).setNew (Nat.le_refl _) _
   | false =>
    go_wp2
    refine bodyPost_ret (v := .tuple #[.agg #[.int .i64 0, .int .i64 0, .int .i64 0, .int .i64 0], .int .i64 4]) (by simp [results, Tryz.results23, go_sem, cell_set_if, g0, g1, g2, g3]) rfl ⟨by rw [HD.out]; rfl, ?_⟩
    exact (((T3.setNew (Nat.le_refl _) _).setNew (Nat.le_refl _) _).setNew (Nat.le_refl _) _).setNew (Nat.le_refl _) _
  | true =>
   go_wp2_with fail
   refine (HW'.out _).mono ?_
   intro e w4 hh
   obtain ⟨m1, hh⟩ := hh
   obtain ⟨m2, hh⟩ := hh
   obtain ⟨m3, hh⟩ := hh
   obtain ⟨m4, hh⟩ := hh
   obtain ⟨x, hh⟩ := hh
   obtain ⟨he, hx, t4⟩ := hh
   subst he
   have T4 := T3.trans t4
   have b5 := (t4.block w.heap.size z4 (fun e => e)).trans b3
   have b6 := (t4.block w2.heap.size z3 (fun e => e)).trans b4
   have g0 : w4.cell? ⟨w.heap.size, 0, none⟩ = some (.int .i64 0) := by rw [row_cell b5 0]; rfl
   have g1 : w4.cell? ⟨w.heap.size, 1, none⟩ = some (.int .i64 0) := by rw [row_cell b5 1]; rfl
   have g2 : w4.cell? ⟨w.heap.size, 2, none⟩ = some (.int .i64 0) := by rw [row_cell b5 2]; rfl
   have g3 : w4.cell? ⟨w.heap.size, 3, none⟩ = some (.int .i64 0) := by rw [row_cell b5 3]; rfl
   have q0 : w4.cell? ⟨w2.heap.size, 0, none⟩ = some (.int .i64 n1) := by rw [row_cell b6 0]; rfl
   have q1 : w4.cell? ⟨w2.heap.size, 1, none⟩ = some (.int .i64 n2) := by rw [row_cell b6 1]; rfl
   have q2 : w4.cell? ⟨w2.heap.size, 2, none⟩ = some (.int .i64 n3) := by rw [row_cell b6 2]; rfl
   have q3 : w4.cell? ⟨w2.heap.size, 3, none⟩ = some (.int .i64 p) := by rw [row_cell b6 3]; rfl
   have q4 : w4.cell? ⟨w2.heap.size, 4, none⟩ = some (.bool ob) := by rw [row_cell b6 4]; rfl
   have fz : ∀ o, w4.frozen? ⟨w.heap.size, o, none⟩ = false := fun o => frozen_row b5 o
   have fy : ∀ o, w4.frozen? ⟨w2.heap.size, o, none⟩ = false := fun o => frozen_row b6 o
   have HX : Hid (wb = true → m1 = numIn s (p - 76 + 32) 8 ∧ m2 = numIn s (p - 76 + 40) 8 ∧ m3 = numIn s (p - 76 + 48) 8 ∧ m4 = p - 76 ∧ x = wideOne s p) := hx
   clear b3 b4 z3 z2 z1 t4 T3 b5 b6 hx
   cases wb with
   | false =>
    go_wp2
    refine bodyPost_ret (v := .tuple #[.agg #[.int .i64 0, .int .i64 0, .int .i64 0, .int .i64 0], .int .i64 3]) (by simp [results, Tryz.results23, go_sem, cell_set_if, g0, g1, g2, g3, ne, ne']) rfl ⟨by rw [HD.out]; rfl, ?_⟩
    iterate 9 refine Touch.setNew ?_ (by first | exact Nat.le_refl _ | exact zl) _
    exact T4
   | true =>
    cases ob with
    | false =>
     go_wp2
     refine bodyPost_ret (v := .tuple #[.agg #[.int .i64 0, .int .i64 0, .int .i64 0, .int .i64 0], .int .i64 4]) (by simp [results, Tryz.results23, go_sem, cell_set_if, g0, g1, g2, g3, ne, ne']) rfl ⟨by rw [HD.out]; rfl, ?_⟩
     iterate 9 refine Touch.setNew ?_ (by first | exact Nat.le_refl _ | exact zl) _
     exact T4
    | true =>
     obtain ⟨k1, k2, k3, k4, k5⟩ := HX.out rfl
     rw [← k1, ← k2, ← k3, ← k4, ← k5] at HD
     clear k1 k2 k3 k4 k5 HX
     cases x with
     | false =>
      go_wp2
      refine bodyPost_ret (v := .tuple #[.agg #[.int .i64 0, .int .i64 0, .int .i64 0, .int .i64 0], .int .i64 4]) (by simp [results, Tryz.results23, go_sem, cell_set_if, g0, g1, g2, g3, ne, ne']) rfl ⟨by rw [HD.out]; rfl, ?_⟩
      iterate 9 refine Touch.setNew ?_ (by first | exact Nat.le_refl _ | exact zl) _
      exact T4
     | true =>
      go_wp2
      refine bodyPost_ret (v := .tuple #[.agg #[.int .i64 m1, .int .i64 m2, .int .i64 m3, .int .i64 m4], .int .i64 0]) (by simp [results, Tryz.results23, go_sem, cell_set_if, g0, g1, g2, g3, ne, ne']) rfl ⟨by rw [HD.out]; rfl, ?_⟩
      iterate 9 refine Touch.setNew ?_ (by first | exact Nat.le_refl _ | exact zl) _
      exact T4
end Go.Proofs.YtnmkmmgaoplfiaaGreatDoor
