/- Texts of this seat, joined. -/
import Derived.Test.YtpckiobjpikmlaaGreatDoorJ10
import Derived.Test.YtpckiobjpikmlaaGreatDoorJ04
import Derived.Test.YtpckiobjpikmlaaGreatDoorJ45
set_option linter.unusedSimpArgs false
set_option linter.unusedVariables false
set_option maxRecDepth 100000
set_option maxHeartbeats 20000000
namespace Go.Proofs.YtpckiobjpikmlaaGreatDoor
open Go.RowKit
theorem ex_inf4 : inflateOf ⟨#[75, 4, 0]⟩ 1 = .inr ([97], 18) := by decide +kernel
theorem Ord.below {w w' : World} (h : Ord w) (hb : Below w.heap.size w w') (h0 : 0 < w.heap.size) : Ord w' := fun j hj => (hb.cell (p := ⟨0, j, none⟩) h0).trans (h j hj)
theorem inflate_e (w : World) (s : ByteArray) (most : Int) (out : List UInt8) (q : Nat) (B : ByteArray) (T : Int) (hR : inflateOf s most = .inr (out, q)) (hB : B = ⟨out.toArray⟩) (hT : T = (((q + 7) / 8 : Nat) : Int)) (hm : most ≤ 9223372036854775807) (hs : s.size ≤ 2147483648) (ho : Ord w) (hb : 0 < w.heap.size) :
  Calls Tryz.prog 5 #[.string s, .int .i64 most] w fun e w' => e = .returned (.tuple #[.string B, .int .i64 T, .int .i64 0]) ∧ Below w.heap.size w w' := by
 subst hB hT
 refine (inflate_c w s most hm hs ho hb).mono ?_
 rintro e w' ⟨rfl, hb⟩
 rw [hR]; exact ⟨rfl, hb⟩
end Go.Proofs.YtpckiobjpikmlaaGreatDoor
namespace Go.Proofs.YtpckiobjpikmlaaGreatDoor
open Go.RowKit
end Go.Proofs.YtpckiobjpikmlaaGreatDoor
