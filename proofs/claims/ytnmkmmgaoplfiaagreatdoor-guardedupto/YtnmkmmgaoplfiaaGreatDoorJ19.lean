/- Texts of this seat, joined. -/
import Derived.Test.YtnmkmmgaoplfiaaGreatDoorJ17
import Derived.Deep.RegionHeld3
set_option linter.unusedSimpArgs false
set_option linter.unusedVariables false
set_option maxRecDepth 100000
set_option maxHeartbeats 20000000
namespace Go.Proofs.YtnmkmmgaoplfiaaGreatDoor
open Go.RowKit
def rangedOf (s : ByteArray) (p idx group : Nat) : Nat × Nat :=
 if idx < 2 * group then (idx, p) else ((group + idx % group) * 2 ^ (idx / group - 1) + numAt s p (idx / group - 1), p + (idx / group - 1))
theorem ranged_4 (w : World) (b : Nat) (s : ByteArray) (p idx : Nat) (hi : idx ≤ 30) (hs : s.size ≤ maxLen) (hr : Rd w b s p) :
  Calls Tryz.prog 135 #[.pointer (some ⟨b, 0, none⟩), .int .i64 (idx : Int), .int .i64 4] w fun e w' => e = .returned (.int .i64 ((rangedOf s p idx 4).1 : Nat)) ∧ Rd w' b s (rangedOf s p idx 4).2 ∧ RN b w w' := by
 by_cases hlt : idx < 2 * 4
 ·have HE : Hid (rangedOf s p idx 4 = (idx, p)) := by unfold Hid rangedOf; rw [if_pos hlt]
  go_enter Tryz.func135, Tryz.ntmps135
  go_wp2
  go_ret
  rw [HE.out]
  exact ⟨rfl, hr, RN.refl _ _⟩
 ·obtain ⟨q, hq⟩ : ∃ q, q = idx / 4 - 1 := ⟨_, rfl⟩
  obtain ⟨r, hrr⟩ : ∃ r, r = idx % 4 := ⟨_, rfl⟩
  have HE : Hid (rangedOf s p idx 4 = ((4 + r) * 2 ^ q + numAt s p q, p + q)) := by unfold Hid rangedOf; rw [if_neg hlt, ← hq, ← hrr]
  have hq14 : q ≤ 14 := by omega
  have hr4 : r ≤ 3 := by omega
  have k1 : (idx : Int) / 4 - 1 = (q : Int) := by omega
  have k2 : (idx : Int) % 4 = (r : Int) := by omega
  have k3 : (idx : Int).tmod 4 = (r : Int) := by rw [Int.tmod_eq_emod_of_nonneg (by omega)]; exact k2
  clear hq hrr
  have p2 : 2 ^ q ≤ 2 ^ 14 := Nat.pow_le_pow_right (by omega) hq14
  have n2 := numAt_lt s p q
  have wr1 : ∀ n : Int, 0 ≤ n → n < 4611686018427387904 → IntKind.i64.wrap n = n := by intro n h0 h1; simp [IntKind.wrap, IntKind.bits, IntKind.signed]; omega
  have k4 : IntKind.i64.wrap (r : Int) = (r : Int) := wr1 _ (by omega) (by omega)
  have k5 : IntKind.i64.wrap (4 + (r : Int)) = 4 + (r : Int) := wr1 _ (by omega) (by omega)
  have m1 : (4 + r) * 2 ^ q ≤ 7 * 2 ^ 14 := Nat.mul_le_mul (by omega) p2
  obtain ⟨X, hX⟩ : ∃ X, X = (4 + r) * 2 ^ q := ⟨_, rfl⟩
  rw [← hX] at m1 HE
  have k6 : (4 + (r : Int)) * 2 ^ q = (X : Int) := by rw [hX]; push_cast; rfl
  clear hX
  have k7 : IntKind.i64.wrap (X : Int) = (X : Int) := wr1 _ (by omega) (by omega)
  have k8 : IntKind.i64.wrap ((X : Int) + ((numAt s p q : Nat) : Int)) = (X : Int) + ((numAt s p q : Nat) : Int) := wr1 _ (by omega) (by omega)
  have k9 : (0 : Int) ≤ (q : Int) := by omega
  have k10 : ¬ (q : Int) < 0 := by omega
  clear wr1
  go_enter Tryz.func135, Tryz.ntmps135
  go_wp2
  go_region_held3 (fun _ => True) (trivial) (first | (go_at_call 62; refine (number_i b w.drew s p q _ rfl (by omega) hs hr.drew).mono ?_; rintro e w3 ⟨rfl, hrd3, hrt3⟩))
  all_goals go_wp2
  all_goals go_ret
  all_goals rw [HE.out]
  all_goals exact ⟨by go_light; simp, hrd3, ((RN.refl b w).drew).trans hrt3.rn⟩
theorem ranged_2 (w : World) (b : Nat) (s : ByteArray) (p idx : Nat) (hi : idx ≤ 30) (hs : s.size ≤ maxLen) (hr : Rd w b s p) :
  Calls Tryz.prog 135 #[.pointer (some ⟨b, 0, none⟩), .int .i64 (idx : Int), .int .i64 2] w fun e w' => e = .returned (.int .i64 ((rangedOf s p idx 2).1 : Nat)) ∧ Rd w' b s (rangedOf s p idx 2).2 ∧ RN b w w' := by
 by_cases hlt : idx < 2 * 2
 ·have HE : Hid (rangedOf s p idx 2 = (idx, p)) := by unfold Hid rangedOf; rw [if_pos hlt]
  go_enter Tryz.func135, Tryz.ntmps135
  go_wp2
  go_ret
  rw [HE.out]
  exact ⟨rfl, hr, RN.refl _ _⟩
 ·obtain ⟨q, hq⟩ : ∃ q, q = idx / 2 - 1 := ⟨_, rfl⟩
  obtain ⟨r, hrr⟩ : ∃ r, r = idx % 2 := ⟨_, rfl⟩
  have HE : Hid (rangedOf s p idx 2 = ((2 + r) * 2 ^ q + numAt s p q, p + q)) := by unfold Hid rangedOf; rw [if_neg hlt, ← hq, ← hrr]
  have hq14 : q ≤ 14 := by omega
  have hr4 : r ≤ 3 := by omega
  have k1 : (idx : Int) / 2 - 1 = (q : Int) := by omega
  have k2 : (idx : Int) % 2 = (r : Int) := by omega
  have k3 : (idx : Int).tmod 2 = (r : Int) := by rw [Int.tmod_eq_emod_of_nonneg (by omega)]; exact k2
  clear hq hrr
  have p2 : 2 ^ q ≤ 2 ^ 14 := Nat.pow_le_pow_right (by omega) hq14
  have n2 := numAt_lt s p q
  have wr1 : ∀ n : Int, 0 ≤ n → n < 4611686018427387904 → IntKind.i64.wrap n = n := by intro n h0 h1; simp [IntKind.wrap, IntKind.bits, IntKind.signed]; omega
  have k4 : IntKind.i64.wrap (r : Int) = (r : Int) := wr1 _ (by omega) (by omega)
  have k5 : IntKind.i64.wrap (2 + (r : Int)) = 2 + (r : Int) := wr1 _ (by omega) (by omega)
  have m1 : (2 + r) * 2 ^ q ≤ 7 * 2 ^ 14 := Nat.mul_le_mul (by omega) p2
  obtain ⟨X, hX⟩ : ∃ X, X = (2 + r) * 2 ^ q := ⟨_, rfl⟩
  rw [← hX] at m1 HE
  have k6 : (2 + (r : Int)) * 2 ^ q = (X : Int) := by rw [hX]; push_cast; rfl
  clear hX
  have k7 : IntKind.i64.wrap (X : Int) = (X : Int) := wr1 _ (by omega) (by omega)
  have k8 : IntKind.i64.wrap ((X : Int) + ((numAt s p q : Nat) : Int)) = (X : Int) + ((numAt s p q : Nat) : Int) := wr1 _ (by omega) (by omega)
  have k9 : (0 : Int) ≤ (q : Int) := by omega
  have k10 : ¬ (q : Int) < 0 := by omega
  clear wr1
  go_enter Tryz.func135, Tryz.ntmps135
  go_wp2
  go_region_held3 (fun _ => True) (trivial) (first | (go_at_call 62; refine (number_i b w.drew s p q _ rfl (by omega) hs hr.drew).mono ?_; rintro e w3 ⟨rfl, hrd3, hrt3⟩))
  all_goals go_wp2
  all_goals go_ret
  all_goals rw [HE.out]
  all_goals exact ⟨by go_light; simp, hrd3, ((RN.refl b w).drew).trans hrt3.rn⟩
end Go.Proofs.YtnmkmmgaoplfiaaGreatDoor
