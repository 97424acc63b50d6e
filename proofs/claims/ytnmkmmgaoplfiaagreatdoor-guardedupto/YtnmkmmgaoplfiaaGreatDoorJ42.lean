/- Texts of this seat, joined. -/
import Derived.Test.YtnmkmmgaoplfiaaGreatDoorJ39
import Derived.Test.YtnmkmmgaoplfiaaGreatDoorJ41
import Derived.Test.YtnmkmmgaoplfiaaGreatDoorJ31
import Derived.Test.YtnmkmmgaoplfiaaGreatDoorJ34
import Derived.Test.YtnmkmmgaoplfiaaGreatDoorJ27
import Derived.Deep.RegionHeld3
set_option linter.unusedSimpArgs false
set_option linter.unusedVariables false
set_option maxHeartbeats 20000000
namespace Go.Proofs.YtnmkmmgaoplfiaaGreatDoor
open Go.RowKit Go.Shelf Go.Lib
structure CB (w : World) (b : Nat) (l : List Value) : Prop where
 cells : ∀ i, i < l.length → w.cell? ⟨b, i, none⟩ = l[i]?
 lt : b < w.heap.size
theorem CB.keep {S : Nat → Prop} {w w' : World} {b : Nat} {l : List Value} (h : CB w b l) (ht : Touch S w w') (hs : ¬ S b) : CB w' b l :=
 ⟨fun i hi => (ht.cell (p := ⟨b, i, none⟩) h.lt hs).trans (h.cells i hi), Nat.lt_of_lt_of_le h.lt ht.size⟩
theorem CB.drewN {w : World} {b : Nat} {l : List Value} (h : CB w b l) (n : Nat) : CB (w.drewN n) b l := h.keep ((Touch.refl (fun _ => False) w).drewN n) (fun e => e)
theorem CB.new (w : World) (l : List Value) (t : TypeId) : CB (w.alloc (Obj.cells l.toArray t)) w.heap.size l := by
 have hb := heap_alloc_new w (Obj.cells l.toArray t)
 refine ⟨fun i hi => ?_, by simp⟩
 rw [row_cell hb i]; simp
theorem CB.three {w : World} {b : Nat} {x y z : Value} (h0 : w.cell? ⟨b, 0, none⟩ = some x) (h1 : w.cell? ⟨b, 1, none⟩ = some y) (h2 : w.cell? ⟨b, 2, none⟩ = some z) (hl : b < w.heap.size) : CB w b [x, y, z] := by
 refine ⟨fun i hi => ?_, hl⟩
 have : i < 3 := hi
 rcases i with _ | _ | _ | i
 ·exact h0
 ·exact h1
 ·exact h2
 ·omega
end Go.Proofs.YtnmkmmgaoplfiaaGreatDoor
namespace Go.Proofs.YtnmkmmgaoplfiaaGreatDoor
open Go.RowKit Go.Shelf Go.Lib
end Go.Proofs.YtnmkmmgaoplfiaaGreatDoor
