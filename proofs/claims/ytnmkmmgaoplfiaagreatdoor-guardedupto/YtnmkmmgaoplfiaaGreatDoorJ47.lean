/- Texts of this seat, joined. -/
import Derived.Test.YtnmkmmgaoplfiaaGreatDoorJ45
import Derived.Test.YtnmkmmgaoplfiaaGreatDoorJ46
set_option linter.unusedSimpArgs false
set_option linter.unusedVariables false
set_option maxRecDepth 100000
set_option maxHeartbeats 20000000
namespace Go.Proofs.YtnmkmmgaoplfiaaGreatDoor
open Go.RowKit
theorem list_e (w : World) (s : ByteArray) (hs : s = emptyA) :
  Calls Tryz.prog 8 #[.string s, .agg #[.int .i64 0, .int .i64 0, .int .i64 0]] w fun e w' => ∃ a, e = .returned (.tuple #[.slice a 0 0, .int .i64 0]) ∧ Below w.heap.size w w' := by
 subst hs
 exact (list_none w).mono fun _ _ ⟨a, h, t⟩ => ⟨a, h, t.toBelow (Nat.le_refl _) (fun _ _ e => e)⟩
theorem newStore_c (w : World) : Calls Tryz.prog 17 #[] w fun e w' => ∃ b, e = .returned (.pointer (some ⟨b, 0, none⟩)) ∧ Below w.heap.size w w' := by
 go_enter Tryz.func17, Tryz.ntmps17
 go_wp2
 go_ret
 exact ⟨_, rfl, (Below.refl _ _).alloc (Nat.le_refl _) _⟩
theorem awake_c (w : World) (ho : Ord w) (h0 : 0 < w.heap.size) :
  Calls Tryz.prog 5 #[] w fun e w' => e = .returned (.bool true) ∧ Below w.heap.size w w' := by
 go_enter Tryz.func5, Tryz.ntmps5
 go_wp2_with fail
 refine (sum_e w _ 3421780262 (by rw [ex_sum]; rfl) (by unfold maxLen; decide)).mono ?_
 rintro e w1 ⟨rfl, b1⟩
 have o1 := ho.below b1 h0
 have s1 := b1.size
 go_wp2_with fail
 refine (inflate_e w1 _ 0 [] 10 ⟨#[]⟩ 2 ex_inf1 rfl rfl (by omega) (by decide) o1 (by omega)).mono ?_
 rintro e w2 ⟨rfl, b2⟩
 have o2 := o1.below b2 (by omega)
 have s2 := b2.size
 go_wp2_with fail
 refine (inflate_e w2 _ 2 [97, 98] 56 ⟨#[97, 98]⟩ 7 ex_inf2 rfl rfl (by omega) (by decide) o2 (by omega)).mono ?_
 rintro e w3 ⟨rfl, b3⟩
 have o3 := o2.below b3 (by omega)
 have s3 := b3.size
 go_wp2_with fail
 refine (inflate_e w3 _ 5 [97] 18 ⟨#[97]⟩ 3 ex_inf3 rfl rfl (by omega) (by decide) o3 (by omega)).mono ?_
 rintro e w4 ⟨rfl, b4⟩
 have B4 := bNext (bNext (bNext b1 b2) b3) b4
 clear o1 o2 o3 b1 b2 b3 b4 s1 s2 s3
 go_wp2_with fail
 refine (low_c w4 0 18 (by omega) (by omega)).mono ?_
 rintro e w5 ⟨rfl, b5⟩
 have B5 := bNext B4 b5
 clear B4 b5
 go_wp2_with fail
 refine (list_e w5 _ (by decide +kernel)).mono ?_
 rintro e w6 ⟨la, rfl, b6⟩
 have B6 := bNext B5 b6
 clear B5 b6
 go_wp2_with fail
 refine (newStore_c w6).mono ?_
 rintro e w7 ⟨nb, rfl, b7⟩
 have B7 := bNext B6 b7
 clear B6 b7
 go_wp2
 go_ret
 exact ⟨rfl, B7⟩
end Go.Proofs.YtnmkmmgaoplfiaaGreatDoor
