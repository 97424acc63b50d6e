/- Texts of this seat, joined. -/
import Derived.Test.YtnmkmmgaoplfiaaGreatDoorJ26
import Derived.Test.YtnmkmmgaoplfiaaGreatDoorJ21
set_option linter.unusedSimpArgs false
set_option linter.unusedVariables false
set_option maxHeartbeats 20000000
namespace Go.Proofs.YtnmkmmgaoplfiaaGreatDoor
open Go.RowKit
structure XB (w : World) (b : Nat) (l : List Value) : Prop where
 cells : ∀ i, i < 13 → w.cell? ⟨b, i, none⟩ = l[i]?
 len : l.length = 13
 frozen : ∀ i, w.frozen? ⟨b, i, none⟩ = false
 lt : b < w.heap.size
theorem XB.keep {S : Nat → Prop} {w w' : World} {b : Nat} {l : List Value} (h : XB w b l) (ht : Touch S w w') (hs : ¬ S b) : XB w' b l :=
 ⟨fun i hi => (ht.cell (p := ⟨b, i, none⟩) h.lt hs).trans (h.cells i hi), h.len, fun i => (ht.frozen (p := ⟨b, i, none⟩) h.lt hs).trans (h.frozen i), Nat.lt_of_lt_of_le h.lt ht.size⟩
theorem XB.set {w : World} {b : Nat} {l : List Value} (h : XB w b l) (k : Nat) (v : Value) (hk : k < 13) : XB (w.setCell ⟨b, k, none⟩ v) b (l.set k v) := by
 refine ⟨fun i hi => ?_, by rw [List.length_set]; exact h.len, fun i => by rw [World.frozen?_setCell]; exact h.frozen i, by simpa using h.lt⟩
 have h1 := h.cells i hi
 have h2 := h.cells k hk
 have hl := h.len
 rw [cell_set_if, List.getElem?_set]
 by_cases hik : i = k
 ·subst hik
  have hex : (w.cell? ⟨b, i, none⟩).isSome = true := by
   rw [h2, List.getElem?_eq_getElem (by omega)]; rfl
  have hex' := Option.isSome_iff_exists.1 hex
  simp [hl, hi, hex']
 ·have hik' : ¬ k = i := fun e => hik e.symm
  simp [hik, hik', h1]
end Go.Proofs.YtnmkmmgaoplfiaaGreatDoor
