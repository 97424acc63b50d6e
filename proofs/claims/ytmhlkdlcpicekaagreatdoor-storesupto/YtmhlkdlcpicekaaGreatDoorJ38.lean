/- Joined. -/
import Derived.Test.YtmhlkdlcpicekaaGreatDoorJ26
set_option linter.unusedSimpArgs false
set_option linter.unusedVariables false
set_option maxHeartbeats 20000000
namespace Go.Proofs.YtmhlkdlcpicekaaGreatDoor
open Go.RowKit Go.Shelf
theorem Qc3(w:World)(x y z:Value)(t:TypeId):(w.alloc (Obj.cells #[x,y,z] t)).cell? ⟨w.heap.size,0,none⟩=some x/\(w.alloc (Obj.cells #[x,y,z] t)).cell? ⟨w.heap.size,1,none⟩=some y/\(w.alloc (Obj.cells #[x,y,z] t)).cell? ⟨w.heap.size,2,none⟩=some z:=by
 have hb:=heap_alloc_new w (Obj.cells #[x,y,z] t);refine⟨?_,?_,?_⟩<;>rw[Ac hb]<;>rfl
theorem Ti(w:World)(l:List Value)(t:TypeId):∀(j:Nat) (v:Value),l[j]?=some v->(w.alloc (Obj.cells l.toArray t)).cell? ⟨w.heap.size,j,none⟩=some v:=fun j v h=>by
 rw[Ac (heap_alloc_new w _)];simpa using h
end Go.Proofs.YtmhlkdlcpicekaaGreatDoor
