/- Texts of this seat, joined. -/
import Derived.Test.YtpckiobjpikmlaaGreatDoorJ10
import Derived.Test.YtpckiobjpikmlaaGreatDoorJ11
import Derived.BigRegion
set_option linter.unusedSimpArgs false
set_option linter.unusedVariables false
set_option maxRecDepth 100000
set_option maxHeartbeats 20000000
namespace Go.Proofs.YtpckiobjpikmlaaGreatDoor
open Go.RowKit
theorem rmark_in (w : World) (s : ByteArray) (A : Nat) (x y : UInt8) (X Y : Int) (hX : X = (x.toNat : Int)) (hY : Y = (y.toNat : Int)) (hs : s.size ≤ 140737488355328) (hA : A + 4 ≤ s.size) :
  Calls Tryz.prog 144 #[.string s, .int .i64 (A : Int), .int .u8 X, .int .u8 Y] w fun e w' => e = .returned (.bool (markB s A x y)) ∧ Touch (fun _ => False) w w' := by
 subst hX hY
 have HE : Hid (markB s A x y = ((s.extract A (A + 4)).toList == ((⟨#[80, 75]⟩ : ByteArray) ++ (⟨#[x, y]⟩ : ByteArray)).toList)) := by
  have e : ((⟨#[80, 75]⟩ : ByteArray) ++ (⟨#[x, y]⟩ : ByteArray)).toList = [80, 75, x, y] := by rw [ByteArray.toList_eq]; simp
  unfold Hid markB; rw [e, Bool.eq_iff_iff]; simp
 have d0 : (0 : Int) ≤ (A : Int) := by omega
 have d2 : (A : Int) ≤ (s.size : Int) - 4 := by omega
 go_enter Tryz.func144, Tryz.ntmps144
 go_wp2
 have hcv : (convert 60 9 (.slice (some ⟨w.heap.size, 0, none⟩) 2 2)).run Tryz.prog (w.alloc (.cells #[.int .u8 (x.toNat : Int), .int .u8 (y.toNat : Int)] 5)).drew = .ok (.string ⟨#[x, y]⟩) (w.alloc (.cells #[.int .u8 (x.toNat : Int), .int .u8 (y.toNat : Int)] 5)).drew := conv2 w.drew x y
 have g7 : ((A : Int) + 4).toNat = A + 4 := by omega
 have g1 : IntKind.i64.wrap ((s.size : Int) - 4) = (s.size : Int) - 4 := by simp [IntKind.wrap, IntKind.bits, IntKind.signed]; omega
 have g2 : IntKind.i64.wrap ((A : Int) + 4) = (A : Int) + 4 := by simp [IntKind.wrap, IntKind.bits, IntKind.signed]; omega
 have g3 : decide ((A : Int) ≤ (s.size : Int) - 4) = true := by simp; omega
 have g4 : decide ((0 : Int) ≤ (A : Int)) = true := by simp
 have g5 : (A : Int) + 4 ≤ (s.size : Int) := by omega
 have g6 : (A : Int) ≤ (A : Int) + 4 := by omega
 go_region
 all_goals
  go_wp2
  go_ret
  exact ⟨by rw [HE.out]; rfl, ((Touch.refl _ w).alloc _).drew⟩
end Go.Proofs.YtpckiobjpikmlaaGreatDoor
namespace Go.Proofs.YtpckiobjpikmlaaGreatDoor
open Go.RowKit
def refNum (s : ByteArray) (A : Int) (n : Nat) : Int := if 0 ≤ A ∧ A + n ≤ s.size then (numIn s A.toNat n : Nat) else -1
theorem refNum_in (s : ByteArray) (a n : Nat) (h : a + n ≤ s.size) : refNum s (a : Int) n = (numIn s a n : Nat) := by
 unfold refNum; rw [if_pos ⟨by omega, by omega⟩]; rfl
theorem refNum_out (s : ByteArray) (A : Int) (n : Nat) (h : A < 0 ∨ (s.size : Int) < A + n) : refNum s A n = -1 := by
 unfold refNum; rw [if_neg (by omega)]
theorem rnum_c (w : World) (s : ByteArray) (A N : Int) (n : Nat) (hN : N = (n : Int)) (hs : s.size ≤ 140737488355328) (hA : -4611686018427387904 ≤ A ∧ A ≤ 4611686018427387904) (hn : 1 ≤ n ∧ n ≤ 8) :
  Calls Tryz.prog 145 #[.string s, .int .i64 A, .int .i64 N] w fun e w' => e = .returned (.int .i64 (refNum s A n)) ∧ w = w' := by
 subst hN
 by_cases h : 0 ≤ A ∧ A + n ≤ s.size
 ·obtain ⟨a, rfl⟩ : ∃ a : Nat, A = (a : Int) := ⟨A.toNat, by omega⟩
  rw [refNum_in s a n (by omega)]
  exact rnum_some w s a n _ _ rfl rfl hs (by omega) hn.2 hn.1
 ·rw [refNum_out s A n (by omega)]
  exact rnum_none w s A n hs (by omega) hA (by omega)
def refMark (s : ByteArray) (A : Int) (x y : UInt8) : Bool := decide (0 ≤ A) && decide (A + 4 ≤ s.size) && markB s A.toNat x y
theorem refMark_in (s : ByteArray) (A : Int) (a : Nat) (x y : UInt8) (hA : A = (a : Int)) (h : a + 4 ≤ s.size) : refMark s A x y = markB s a x y := by
 subst hA
 unfold refMark; rw [decide_eq_true (by omega), decide_eq_true (by omega)]; rfl
theorem refMark_out (s : ByteArray) (A : Int) (x y : UInt8) (h : A < 0 ∨ (s.size : Int) < A + 4) : refMark s A x y = false := by
 unfold refMark
 by_cases h0 : 0 ≤ A
 ·rw [decide_eq_false (p := A + 4 ≤ s.size) (by omega)]; simp
 ·rw [decide_eq_false h0]; rfl
theorem rmark_c (w : World) (s : ByteArray) (A : Int) (x y : UInt8) (X Y : Int) (hX : X = (x.toNat : Int)) (hY : Y = (y.toNat : Int)) (hs : s.size ≤ 140737488355328) (hA : -4611686018427387904 ≤ A ∧ A ≤ 4611686018427387904) :
  Calls Tryz.prog 144 #[.string s, .int .i64 A, .int .u8 X, .int .u8 Y] w fun e w' => e = .returned (.bool (refMark s A x y)) ∧ Touch (fun _ => False) w w' := by
 by_cases h : 0 ≤ A ∧ A + 4 ≤ s.size
 ·obtain ⟨a, rfl⟩ : ∃ a : Nat, A = (a : Int) := ⟨A.toNat, by omega⟩
  rw [refMark_in s _ a x y rfl (by omega)]
  exact rmark_in w s a x y X Y hX hY hs (by omega)
 ·rw [refMark_out s A x y (by omega)]
  refine (rmark_out w s A x y X Y hX hY hs hA (by omega)).mono ?_
  rintro e w' ⟨h1, h2⟩
  have e0 : markOf s A x y = false := by
   unfold markOf
   by_cases h0 : 0 ≤ A
   ·rw [decide_eq_false (p := A ≤ (s.size : Int) - 4) (by omega)]; simp
   ·rw [decide_eq_false h0]; rfl
  exact ⟨by rw [h1, e0], h2⟩
end Go.Proofs.YtpckiobjpikmlaaGreatDoor
