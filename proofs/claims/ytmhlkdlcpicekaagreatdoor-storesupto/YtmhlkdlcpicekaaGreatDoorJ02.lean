/- Joined. -/
import Derived.Test.YtmhlkdlcpicekaaGreatDoorCards
import Derived.Test.YtmhlkdlcpicekaaGreatDoorTie
import Derived.Test.YtmhlkdlcpicekaaGreatDoorJ01
import Derived.ProofKit
import Derived.OpenShut
import Derived.Deep.DeepHandedRow
import Derived.Lib.LaidTab
import Derived.Lay
set_option linter.unusedSimpArgs false
set_option linter.unusedVariables false
set_option maxHeartbeats 20000000
namespace Go.Proofs.YtmhlkdlcpicekaaGreatDoor
namespace PHead
open Go.ChangeShapes Go.WideShapes Go.ChangeAt Go.RowKit
theorem own:ownKnob Tryz.prog.godebug=none:=by kernel_rfl
theorem gTab:Tryz.prog.globalNamed "crate/crate.lengthOrder"=some 1:=by kernel_rfl
theorem Qea:(Tryz.prog.globals[1]?).map (·.type)=some 321:=by kernel_rfl
theorem Qe6:Tryz.prog.cellsOf 321=19:=by kernel_rfl
theorem Lr:Tryz.prog.cellsOf 3=1:=by kernel_rfl
theorem dV{P:Program}{W:World}{name:String}{k:IntKind}{zs:List Int}{g:Nat}{t e:TypeId}{n:Nat}(hg:P.globalNamed name=some g)(hty:(P.globals[g]?).map (·.type)=some t)(ht:P.underlying t=some (.array n e))(he:P.underlying e=some (.int k))(hce:P.cellsOf e=1)(hct:P.cellsOf t=n): ∀{l:List (String×DataW Unit)} {ps:List MemPlace},DataW.LaidVars P W l ps->(name,Lib.tabData k zs)∈l->Lib.TabIs P W name k zs
 | [],_,_,hm=>by cases hm
 |y::r,ps,h,hm=>by
  obtain⟨g',t',cs,fuel,p,q,hg',ht',hvar,hd,hrest,_⟩:=h;rcases List.mem_cons.1 hm with e1|e1
  .subst e1;obtain rfl:=Option.some.inj (hg.symm.trans hg');obtain rfl:=Option.some.inj (hty.symm.trans ht');unfold Lib.TabIs;rw[hvar,<-Lib.cells_of_tab ht he hce hct hd]
  exact dV hg hty ht he hce hct hrest e1
theorem ord{l:List (String×DataW Unit)}{W:World}(h:laidMetH Tryz.prog l W)(hp:∀w,laidMetH Tryz.prog l w=laidMet Tryz.prog l w)(hm:("crate/crate.lengthOrder",(Rows.laid_crate_crate_lengthOrder:DataW Unit))∈l):Ord W:=by
 rw[hp]at h;obtain⟨ps,hv,_⟩:=h;have ht:Lib.TabIs Tryz.prog W "crate/crate.lengthOrder" .i64 [16,17,18,0,8,7,9,6,10,5,11,4,12,3,13,2,14,1,15]:=dV gTab Qea Tryz.underlying321 Tryz.underlying3 Lr Qe6 hv hm;intro j hj;rw[ht.cell gTab j (by simpa using hj)];congr 2;have:∀j:Fin 19,([16,17,18,0,8,7,9,6,10,5,11,4,12,3,13,2,14,1,15]:List Int).getD j.val 0=((order.getD j.val 0:Nat):Int):=by decide
 exact this ⟨j,hj⟩
end PHead
end Go.Proofs.YtmhlkdlcpicekaaGreatDoor
