/- Joined. -/
import Derived.Test.YtmhlkdlcpicekaaGreatDoorJ48
import Derived.Test.YtmhlkdlcpicekaaGreatDoorJ46
set_option linter.unusedSimpArgs false
set_option linter.unusedVariables false
set_option maxRecDepth 100000
set_option maxHeartbeats 20000000
namespace Go.Proofs.YtmhlkdlcpicekaaGreatDoor
open Go.RowKit Go.Shelf Go.Lib
theorem Pl.arch{B wb c d:Nat}{V:World}{own:Nat->Nat}{PS:List (Nat×Nat)}{sx:Nat->Nc}(hP:Pl B wb c d V own PS sx)(K W N:Int)(S T:ByteArray)(qe qn qb:Int)(F:Bool)(hK:K=3\/K=4)(hn:I64 qn)(hb:I64 qb)(hS:S.size<=1048576)(ho:Ord V)(h0:1<B)(hc:c<=2000000): Calls Tryz.prog 22 #[.pointer (some ⟨wb,0,none⟩),.agg #[.int .i64 K,.int .i64 W,.int .i64 N,.string S,.string T,.int .i64 qe,.int .i64 qn,.int .i64 qb,.bool F]] V fun r w'=>r=.returned (.bool true)/\(∃own',Pl B wb (c+1) (d+1) w' own' PS sx)/\Touch (fun q=>B<=q) V w':=by
 rcases hK with rfl|rfl
 .have T0:=(Touch.refl (fun _=>False) V).alloc (Obj.cells #[.int .i64 3,.int .i64 W,.int .i64 N,.string S,.string T,.int .i64 qe,.int .i64 qn,.int .i64 qb,.bool F] 65);have HA:Hid (Calls Tryz.prog 54 #[.pointer (some ⟨wb,0,none⟩),.agg #[.int .i64 3,.int .i64 W,.int .i64 N,.string S,.string T,.int .i64 qe,.int .i64 qn,.int .i64 qb,.bool F]] (V.alloc (Obj.cells #[.int .i64 3,.int .i64 W,.int .i64 N,.string S,.string T,.int .i64 qe,.int .i64 qn,.int .i64 qb,.bool F] 65)) fun r w'=>r=.returned (.bool true)/\(∃own',Pl B wb (c+1) (d+1) w' own' PS sx)/\Touch (fun q=>B<=q) V w'):=by
   have hbl:=hP.Gp;obtain⟨⟨m,FL,EL,NL,h1,h2,h3,h4,h5⟩,h6⟩:=hP;refine(Qdf _ wb B m own FL EL NL PS sx N S _ _ _ qe qn qb hn hb hS (ho.keep T0 (fun e=>e)) (Nat.lt_of_lt_of_le (by omega) T0.size) (h1.same T0) (by omega) (by omega)).mono ?_;rintro r w' ⟨e,⟨own',L',k1,k2⟩,t⟩;exact⟨e,⟨own',⟨m+1,FL,L',NL,k2,by omega,by omega,by omega,by omega⟩,fun j=>(h6 j).more⟩,(T0.mono (fun _ _ h=>h.elim)).trans t⟩
  clear T0 hP ho;go_enter Tryz.func22,Tryz.ntmps22;go_wp2_with (go_at_call 54;refine HA.out.mono ?_;rintro e w1 ⟨rfl,h1,t1⟩);go_ret;exact⟨rfl,h1,t1⟩
 have T0:=(Touch.refl (fun _=>False) V).alloc (Obj.cells #[.int .i64 4,.int .i64 W,.int .i64 N,.string S,.string T,.int .i64 qe,.int .i64 qn,.int .i64 qb,.bool F] 65);have HA:Hid (Calls Tryz.prog 54 #[.pointer (some ⟨wb,0,none⟩),.agg #[.int .i64 4,.int .i64 W,.int .i64 N,.string S,.string T,.int .i64 qe,.int .i64 qn,.int .i64 qb,.bool F]] (V.alloc (Obj.cells #[.int .i64 4,.int .i64 W,.int .i64 N,.string S,.string T,.int .i64 qe,.int .i64 qn,.int .i64 qb,.bool F] 65)) fun r w'=>r=.returned (.bool true)/\(∃own',Pl B wb (c+1) (d+1) w' own' PS sx)/\Touch (fun q=>B<=q) V w'):=by
  have hbl:=hP.Gp;obtain⟨⟨m,FL,EL,NL,h1,h2,h3,h4,h5⟩,h6⟩:=hP;refine(Qdd _ wb B m own FL EL NL PS sx N S _ _ _ qe qn qb hn hb hS (ho.keep T0 (fun e=>e)) (Nat.lt_of_lt_of_le (by omega) T0.size) (h1.same T0) (by omega) (by omega)).mono ?_;rintro r w' ⟨e,⟨own',L',k1,k2⟩,t⟩;exact⟨e,⟨own',⟨m+1,L',EL,NL,k2,by omega,by omega,by omega,by omega⟩,fun j=>(h6 j).more⟩,(T0.mono (fun _ _ h=>h.elim)).trans t⟩
 clear T0 hP ho;go_enter Tryz.func22,Tryz.ntmps22;go_wp2_with (go_at_call 54;refine HA.out.mono ?_;rintro e w1 ⟨rfl,h1,t1⟩);go_ret;exact⟨rfl,h1,t1⟩
theorem yE(B:Nat)(h0:1<B):rG 1 B:=by
 intro wb c d V own PS sx K W N S T qe qn qb F hK1 hK2 hP hl0 hl hW hN hn hb hS hT ho hc hd;by_cases h5:5<=K;.exact Xr B h0 wb c d V own PS sx K W N S T qe qn qb F h5 hK2 hP hl0 hl hW hN hn hb hS hT ho hc hd
 by_cases h3:3<=K
 .refine(hP.arch K W N S T qe qn qb F (by omega) hn hb hS ho h0 hc).mono ?_;rintro r w' ⟨e,⟨own',h1⟩,t⟩;exact⟨e,⟨own',PS,sx,hl0,by omega,h1⟩,t⟩
 have hbl:=hP.Gp;refine(yD V _ K N S _ _ _ _ _ _ (by omega) hN.2 (by omega) ho (by omega)).mono ?_;rintro r w' ⟨e,b⟩;have t:=Touch.Lt b (fun _=>False);exact⟨e,⟨own,PS,sx,hl0,by omega,(hP.same t).more⟩,t.mono (fun _ _ h=>h.elim)⟩
theorem Qee(w:World)(ao:Option Addr)(len cap:Nat)(ho:Ord w)(h0:1<w.heap.size)(hlen:len<=1048576)(hop:∀i,i<len->∃sb so K W N S T qe qn qb F,ao=some ⟨sb,so,none⟩/\OpB w sb (so+i*9) K W N S T qe qn qb F): Calls Tryz.prog 5 #[.slice ao len cap] w fun e w'=>e=.returned (.bool true)/\Below w.heap.size w w':=by
 go_enter Tryz.func5,Tryz.ntmps5;go_wp2_with fail;refine(xJ 1 w ao len cap ⟨by omega,by omega⟩ ho h0 hlen (yE _ h0) hop).mono ?_;rintro e w1 ⟨rfl,b1⟩;go_wp2;go_ret;exact⟨rfl,b1⟩
end Go.Proofs.YtmhlkdlcpicekaaGreatDoor
