/- The document's examples of sums and packed bytes. -/
import Derived.Test.YtobfkhapeejkfaaGreatDoorWInflate
import Derived.Test.YtobfkhapeejkfaaGreatDoorWSum
namespace Go.Proofs.YtobfkhapeejkfaaGreatDoor
open Go.RowKit
set_option linter.unusedSimpArgs false
set_option linter.unusedVariables false

set_option maxRecDepth 100000 in
theorem ex_sum : sumOf ⟨#[49, 50, 51, 52, 53, 54, 55, 56, 57]⟩ = 3421780262 := by decide +kernel
set_option maxRecDepth 100000 in
theorem ex_inf1 : inflateOf ⟨#[3, 0]⟩ 0 = .inr ([], 10) := by decide +kernel
set_option maxRecDepth 100000 in
theorem ex_inf2 : inflateOf ⟨#[1, 2, 0, 253, 255, 97, 98, 120]⟩ 2 = .inr ([97, 98], 56) := by decide +kernel
set_option maxRecDepth 100000 in
theorem ex_inf3 : inflateOf ⟨#[75, 4, 0]⟩ 5 = .inr ([97], 18) := by decide +kernel

set_option maxRecDepth 100000 in
theorem ex_inf4 : inflateOf ⟨#[75, 4, 0]⟩ 1 = .inr ([97], 18) := by decide +kernel
theorem Ord.below {w w' : World} (h : Ord w) (hb : Below w.heap.size w w') (h0 : 0 < w.heap.size) : Ord w' := fun j hj => (hb.cell (p := ⟨0, j, none⟩) h0).trans (h j hj)
theorem inflate_e (w : World) (s : ByteArray) (most : Int) (out : List UInt8) (q : Nat) (B : ByteArray) (T : Int) (hR : inflateOf s most = .inr (out, q)) (hB : B = ⟨out.toArray⟩) (hT : T = (((q + 7) / 8 : Nat) : Int)) (hm : most ≤ 9223372036854775807) (hs : s.size ≤ 2147483648) (ho : Ord w) (hb : 0 < w.heap.size) :
    Calls Tryz.prog 16 #[.string s, .int .i64 most] w fun e w' => e = .returned (.tuple #[.string B, .int .i64 T, .int .i64 0]) ∧ Below w.heap.size w w' := by
  subst hB hT
  refine (inflate_c w s most hm hs ho hb).mono ?_
  rintro e w' ⟨rfl, hb⟩
  rw [hR]; exact ⟨rfl, hb⟩
theorem sum_e (w : World) (s : ByteArray) (V : Int) (hV : V = ((sumOf s : Nat) : Int)) (hs : s.size ≤ maxLen) :
    Calls Tryz.prog 18 #[.string s] w fun e w' => e = .returned (.int .u32 V) ∧ Below w.heap.size w w' := by
  subst hV; exact sum_c w s hs
theorem bNext {x y z : World} (h : Below x.heap.size x y) (k : Below y.heap.size y z) : Below x.heap.size x z := h.trans (k.mono h.size)
end Go.Proofs.YtobfkhapeejkfaaGreatDoor
