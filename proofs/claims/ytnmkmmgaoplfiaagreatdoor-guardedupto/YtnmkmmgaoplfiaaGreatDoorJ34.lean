/- Texts of this seat, joined. -/
import Derived.Test.YtnmkmmgaoplfiaaGreatDoorJ31
import Derived.Test.YtnmkmmgaoplfiaaGreatDoorJ33
import Derived.BigQuiet
import Derived.Sort.Walk0
set_option linter.unusedSimpArgs false
set_option linter.unusedVariables false
set_option maxHeartbeats 20000000
namespace Go.Proofs.YtnmkmmgaoplfiaaGreatDoor
open Go.RowKit Go.Shelf Go.Lib
structure StrsAt (w : World) (g : Nat) (X : List (List UInt8)) : Prop where
 cells : ∀ i (h : i < X.length), w.cell? ⟨g, i, none⟩ = some (strV X[i])
 lt : g < w.heap.size
theorem StrsAt.keep {S : Nat → Prop} {w w' : World} {g : Nat} {X : List (List UInt8)} (h : StrsAt w g X) (ht : Touch S w w') (hs : ¬ S g) : StrsAt w' g X :=
 ⟨fun i hi => (ht.cell (p := ⟨g, i, none⟩) h.lt hs).trans (h.cells i hi), Nat.lt_of_lt_of_le h.lt ht.size⟩
theorem StrsAt.owned {w : World} {base : Nat} {v : Value} {X : List (List UInt8)} (h : w.ownsRow base 9 1 v X.length (strs X)) (hX : 0 < X.length) : ∃ g cap, v = .slice (some ⟨g, 0, none⟩) X.length cap ∧ StrsAt w g X := by
 obtain ⟨h1, ⟨h2, h3⟩ | ⟨g', cap', cur, rfl, hb, hg, h3, h4, h5, h6⟩⟩ := h
 ·omega
 ·refine ⟨g', cap', rfl, fun i hi => ?_, (Array.getElem?_eq_some_iff.1 hg).1⟩
  have e : (strs X)[i]? = some (strV X[i]) := by unfold strs; rw [List.getElem?_map, List.getElem?_eq_getElem hi]; rfl
  rw [row_cell hg i, ← e, ← h6, List.getElem?_take_of_lt (by omega)]; simp
end Go.Proofs.YtnmkmmgaoplfiaaGreatDoor
