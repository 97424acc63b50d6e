/- For every script of steps (each a Sum, an Inflate, a List, an Unpack, or a step on any number of stores, in every order) the program's answers are the document's, every one; each list that came out stays its owner's; at the end every store is asked for all that it shows. Conditions: the script is of bulk at most 1048576; the package's table lengthOrder starts as its text lays it (the card ties that to the program's text). -/
import Derived.Test.YtmhlkdlcpicekaaGreatDoorJ02
import Derived.Test.YtmhlkdlcpicekaaGreatDoorJ49
import Derived.Deep.Slices
import Derived.WideKeyArgs
import Derived.ChangeSame
set_option linter.unusedSimpArgs false
set_option linter.unusedVariables false
set_option maxRecDepth 100000
set_option maxHeartbeats 20000000
namespace Go.Proofs.YtmhlkdlcpicekaaGreatDoor
namespace PAll
open Go.ChangeShapes Go.WideShapes Go.ChangeAt Go.RowKit
theorem cellsStr:Tryz.prog.cellsOf 9=1:=by kernel_rfl
theorem cellsBool:Tryz.prog.cellsOf 4=1:=by kernel_rfl
theorem cellsQ:Tryz.prog.cellsOf 63=3:=by kernel_rfl
theorem cellsOp:Tryz.prog.cellsOf 65=9:=by kernel_rfl
theorem laidOut:laidOutB Tryz.prog=true:=by kernel_rfl
theorem ord{W:World}(h:laidMetH Tryz.prog Rows.allUptoRow.laid W):Ord W :=PHead.ord h (fun _=>MakeChecks.laidMetH_plain _ _ _ (by kernel_rfl)) (by first|exact .head _|exact .tail _ (.head _)|exact .tail _ (.tail _ (.head _)))
theorem part_bulk{H:Type}{d:DataW H}:∀{l:List (DataW H)},d∈l->Rows.uptoBulk d<=Rows.uptoBulkAll l
 |x::r,h=>by
  simp only[Rows.uptoBulkAll];rcases List.mem_cons.1 h with rfl|h;.omega
  have:=part_bulk h;omega
theorem bulk_pos{H:Type}(d:DataW H):1<=Rows.uptoBulk d:=by
 cases d with
 |lit l=>cases l<;>simp[Rows.uptoBulk]
 |_=>simp[Rows.uptoBulk]
theorem len_bulk{H:Type}:∀l:List (DataW H),l.length<=Rows.uptoBulkAll l
 | []=>by simp[Rows.uptoBulkAll]
 |d::r=>by
  have:=bulk_pos d;have:=len_bulk r;simp only[Rows.uptoBulkAll,List.length_cons];omega
theorem list3{α:Type}{l:List α}(h:l.length=3):∃a b c,l=[a,b,c]:=by
 match l,h with
 | [a,b,c],_=>exact⟨a,b,c,rfl⟩
theorem in64{n:Int}(h:(Lit.int .i64 n).wf=true):I64 n:=by
 simp only[Lit.wf,Bool.and_eq_true,decide_eq_true_eq]at h;obtain⟨h1,h2⟩:=h;simp[IntKind.min,IntKind.max,IntKind.bits,IntKind.signed]at h1 h2;exact⟨by omega,by omega⟩
theorem list7{α:Type}{l:List α}(h:l.length=7):∃a b c d e f g,l=[a,b,c,d,e,f,g]:=by
 match l,h with
 | [a,b,c,d,e,f,g],_=>exact⟨a,b,c,d,e,f,g,rfl⟩
theorem list9{α:Type}{l:List α}(h:l.length=9):∃a b c d e f g i j,l=[a,b,c,d,e,f,g,i,j]:=by
 match l,h with
 | [a,b,c,d,e,f,g,i,j],_=>exact⟨a,b,c,d,e,f,g,i,j,rfl⟩
theorem open_ops{H:Type}{enc:TypeId×Value->H}{W:World}{c0:Value}{d:DataW H}{p:List MemPlace}(h:DataW.Trod enc Tryz.prog W 0 (fun _=>true) true 22 c0 d p)(hv:∃a l c,c0=.slice a l c): ∃ao len cap,c0=.slice ao len cap/\(Rows.uptoBulk d<=1048576->len<=1048576/\∀i,i<len->∃sb so K W' N S T qe qn qb F,ao=some ⟨sb,so,none⟩/\OpB W sb (so+i*9) K W' N S T qe qn qb F):=by
 obtain⟨a0,l0,k0,rfl⟩:=hv;obtain⟨n,h⟩:=h;rcases Go.Deep.open_slice Tryz.underlying22 h with⟨hc,hx⟩|⟨a,len,cap,m,n,D,Pl,hc,_,hl,hm,hmm,hx,hall⟩
 .simp only[Value.cells,List.cons.injEq,and_true]at hc;cases hc;exact⟨_,_,_,rfl,fun _=>⟨Nat.zero_le _,fun i hi=>by omega⟩⟩
 simp only[Value.cells,List.cons.injEq,and_true]at hc;cases hc;simp only[if_true]at hmm;subst hmm;simp only[Prod.mk.injEq]at hx;obtain⟨rfl,rfl⟩:=hx;refine⟨_,_,_,rfl,fun hb=>⟨?_,fun i hi=>?_⟩⟩
 .have hlb:=len_bulk ((List.range l0).map D);rw[List.length_map,List.length_range]at hlb;simp only[Rows.uptoBulk]at hb;omega
 obtain⟨cs',h1,h2⟩:=hall i (by omega);rw[cellsOp]at h1;obtain⟨_,hlen,hcell⟩:=World.cells?_some h1;obtain⟨sb,so,spot⟩:=a;obtain⟨x0,x1,x2,x3,x4,x5,x6,x7,x8,rfl⟩:=list9 hlen;have hspot:spot=none:=by
  obtain⟨cs0,k1,_⟩:=hall 0 (by omega);rw[cellsOp]at k1;obtain⟨_,klen,kcell⟩:=World.cells?_some k1;obtain⟨z0,z1,z2,z3,z4,z5,z6,z7,z8,rfl⟩:=list9 klen;have ea:∀a:Addr,a.add 0=a:=fun a=>by unfold Addr.add;simp
  have k0:W.cell? ⟨sb,so,spot⟩=some z0:=by
   have:=kcell 0 (by omega);rw[Nat.zero_mul,ea,ea]at this;simpa using this
  exact World.cell?_spot k0
 subst hspot;have hcl:∀j,j<9->W.cell? ⟨sb,so+i*9+j,none⟩=[x0,x1,x2,x3,x4,x5,x6,x7,x8][j]?:=fun j hj=>by
  rw[<-hcell j hj];congr 1;unfold Addr.add;split<;>split<;>simp_all<;>omega
 obtain⟨xs,k,hk,hxy,_,hxl,hf⟩:=DataW.trod_struct Tryz.underlying65 h2;obtain⟨y0,y1,y2,y3,y4,y5,y6,rfl⟩:=list7 hxl;have g0:DataW.trod enc Tryz.prog W 0 (fun _=>true) true k 3 (([x0,x1,x2,x3,x4,x5,x6,x7,x8].drop 0).take (Tryz.prog.cellsOf 3))=some y0:=hf 0 _ rfl;rw[PHead.Lr]at g0;change DataW.trod enc Tryz.prog W 0 (fun _=>true) true k 3 [x0]=some y0 at g0;have g1:DataW.trod enc Tryz.prog W 0 (fun _=>true) true k 3 (([x0,x1,x2,x3,x4,x5,x6,x7,x8].drop 1).take (Tryz.prog.cellsOf 3))=some y1:=hf 1 _ rfl;rw[PHead.Lr]at g1;change DataW.trod enc Tryz.prog W 0 (fun _=>true) true k 3 [x1]=some y1 at g1;have g4:DataW.trod enc Tryz.prog W 0 (fun _=>true) true k 9 (([x0,x1,x2,x3,x4,x5,x6,x7,x8].drop 4).take (Tryz.prog.cellsOf 9))=some y4:=hf 4 _ rfl;rw[cellsStr]at g4;change DataW.trod enc Tryz.prog W 0 (fun _=>true) true k 9 [x4]=some y4 at g4;have g6:DataW.trod enc Tryz.prog W 0 (fun _=>true) true k 4 (([x0,x1,x2,x3,x4,x5,x6,x7,x8].drop 8).take (Tryz.prog.cellsOf 4))=some y6:=hf 6 _ rfl;rw[cellsBool]at g6;change DataW.trod enc Tryz.prog W 0 (fun _=>true) true k 4 [x8]=some y6 at g6;have g2:DataW.trod enc Tryz.prog W 0 (fun _=>true) true k 3 (([x0,x1,x2,x3,x4,x5,x6,x7,x8].drop 2).take (Tryz.prog.cellsOf 3))=some y2:=hf 2 _ rfl;rw[PHead.Lr]at g2;change DataW.trod enc Tryz.prog W 0 (fun _=>true) true k 3 [x2]=some y2 at g2;have g3:DataW.trod enc Tryz.prog W 0 (fun _=>true) true k 9 (([x0,x1,x2,x3,x4,x5,x6,x7,x8].drop 3).take (Tryz.prog.cellsOf 9))=some y3:=hf 3 _ rfl;rw[cellsStr]at g3;change DataW.trod enc Tryz.prog W 0 (fun _=>true) true k 9 [x3]=some y3 at g3;have g5:DataW.trod enc Tryz.prog W 0 (fun _=>true) true k 63 (([x0,x1,x2,x3,x4,x5,x6,x7,x8].drop 5).take (Tryz.prog.cellsOf 63))=some y5:=hf 5 _ rfl;rw[cellsQ]at g5;change DataW.trod enc Tryz.prog W 0 (fun _=>true) true k 63 [x5,x6,x7]=some y5 at g5;obtain⟨us,k',hk',_,_,hul,hg⟩:=DataW.trod_struct Tryz.underlying63 g5;obtain⟨u0,u1,u2,rfl⟩:=list3 hul;have q0:DataW.trod enc Tryz.prog W 0 (fun _=>true) true k' 3 (([x5,x6,x7].drop 0).take (Tryz.prog.cellsOf 3))=some u0:=hg 0 _ rfl;have q1:DataW.trod enc Tryz.prog W 0 (fun _=>true) true k' 3 (([x5,x6,x7].drop 1).take (Tryz.prog.cellsOf 3))=some u1:=hg 1 _ rfl;have q2:DataW.trod enc Tryz.prog W 0 (fun _=>true) true k' 3 (([x5,x6,x7].drop 2).take (Tryz.prog.cellsOf 3))=some u2:=hg 2 _ rfl;rw[PHead.Lr]at q0 q1 q2;change DataW.trod enc Tryz.prog W 0 (fun _=>true) true k' 3 [x5]=some u0 at q0;change DataW.trod enc Tryz.prog W 0 (fun _=>true) true k' 3 [x6]=some u1 at q1;change DataW.trod enc Tryz.prog W 0 (fun _=>true) true k' 3 [x7]=some u2 at q2;obtain⟨qe,e5,_,wqe⟩:=DataW.trod_int Tryz.underlying3 q0;obtain⟨qn,e6,_,wqn⟩:=DataW.trod_int Tryz.underlying3 q1;obtain⟨qb,e7,_,wqb⟩:=DataW.trod_int Tryz.underlying3 q2;simp only[List.cons.injEq,and_true]at e5 e6 e7;obtain⟨K,e0,_,wK⟩:=DataW.trod_int Tryz.underlying3 g0;obtain⟨W',e1,_,wW⟩:=DataW.trod_int Tryz.underlying3 g1;obtain⟨T,e4,e4',wT⟩:=DataW.trod_string Tryz.underlying9 g4;obtain⟨F,e8,_⟩:=DataW.trod_bool Tryz.underlying4 g6;obtain⟨N,e2,_,wN⟩:=DataW.trod_int Tryz.underlying3 g2;obtain⟨S,e3,e3',wS⟩:=DataW.trod_string Tryz.underlying9 g3;simp only[List.cons.injEq,and_true]at e0 e1 e2 e3 e4 e8;subst e0 e1 e2 e3 e4 e5 e6 e7 e8;simp only[Prod.mk.injEq]at hxy;have hS:S.size+1<=1048576:=by
  have b1:Rows.uptoBulk (DataW.lit (H:=H) (.string S.data.toList))=S.data.toList.length+1:=by simp[Rows.uptoBulk]
  have b2:Rows.uptoBulk y3.1<=Rows.uptoBulkAll ([y0,y1,y2,y3,y4,y5,y6].map (·.1)):=part_bulk (by simp);have b3:Rows.uptoBulk (D i)=Rows.uptoBulkAll ([y0,y1,y2,y3,y4,y5,y6].map (·.1))+1:=by rw[hxy.1];simp only[Rows.uptoBulk]
  have b4:Rows.uptoBulk (D i)<=Rows.uptoBulkAll ((List.range l0).map D):=part_bulk (List.mem_map.2 ⟨i,List.mem_range.2 hi,rfl⟩);simp only[Rows.uptoBulk]at hb;have b6:Rows.uptoBulk y3.1=S.data.toList.length+1:=by rw[e3'];exact b1
  have b5:S.data.toList.length=S.size:=Array.length_toList;omega
 have hT:T.size+1<=1048576:=by
  have b1:Rows.uptoBulk (DataW.lit (H:=H) (.string T.data.toList))=T.data.toList.length+1:=by simp[Rows.uptoBulk]
  have b2:Rows.uptoBulk y4.1<=Rows.uptoBulkAll ([y0,y1,y2,y3,y4,y5,y6].map (·.1)):=part_bulk (by simp);have b3:Rows.uptoBulk (D i)=Rows.uptoBulkAll ([y0,y1,y2,y3,y4,y5,y6].map (·.1))+1:=by rw[hxy.1];simp only[Rows.uptoBulk]
  have b4:Rows.uptoBulk (D i)<=Rows.uptoBulkAll ((List.range l0).map D):=part_bulk (List.mem_map.2 ⟨i,List.mem_range.2 hi,rfl⟩);simp only[Rows.uptoBulk]at hb;have b6:Rows.uptoBulk y4.1=T.data.toList.length+1:=by rw[e4'];exact b1
  have b5:T.data.toList.length=T.size:=Array.length_toList;omega
 have c0:=hcl 0 (by omega);have c1:=hcl 1 (by omega);have c2:=hcl 2 (by omega);have c3:=hcl 3 (by omega);have c4:=hcl 4 (by omega);have c5:=hcl 5 (by omega);have c6:=hcl 6 (by omega);have c7:=hcl 7 (by omega);have c8:=hcl 8 (by omega);have lt:=World.block_lt_of_cell? W _ c0;exact⟨sb,so,K,W',N,S,T,qe,qn,qb,F,rfl,⟨c0,c1,c2,c3,c4,c5,c6,c7,c8,lt,by omega,by omega,in64 wW,in64 wN,in64 wqn,in64 wqb⟩⟩
theorem contract(H:Type)(enc:TypeId×Value->H)(W:World)(base:Nat)(args:Array Value)(ds gs:List (DataW H))(before:List MemPlace)(hval:∀(j:Nat) t v,Tryz.f5.params[j]?=some t->args[j]?=some v->Value.okWide Tryz.prog W .any base t v)(hW:DataW.Whole enc Tryz.prog Tryz.f5.params.toList Rows.allSpec.vars false W args.toList ds gs before)(hk:Rows.uptoSmall H (ds++gs)=true)(hL:laidMetH Tryz.prog Rows.allUptoRow.laid W): Calls Tryz.prog 5 args W fun e W'=>∃v,e=.returned v/\Rows.allSpec.post enc Tryz.prog Tryz.f5 false true false false W args v W':=by
 have hW':=hW;obtain⟨p,q,hA0,hV,rfl,hfz,hnd⟩:=hW;have hA:DataW.TrodAll enc Tryz.prog W 0 (fun _=>true) true Tryz.f5.params.toList args.toList ds p:=hA0;rw[Tryz.params5]at hA hval;obtain⟨v0,vs0,d0,ds0,p0,q0,hargs,rfl,rfl,h0,r0⟩:=trodAll_cons hA;obtain⟨rfl,rfl,rfl⟩:=trodAll_nil r0;obtain rfl:args=#[v0]:=by cases args;simp_all
 obtain⟨rfl,rfl⟩:=trodVars_none hV;clear hA0;simp only[List.append_nil]at hW';have hb:Rows.uptoBulk d0<=1048576:=by
  have h:=of_decide_eq_true hk;simp only[Rows.uptoBulkAll,List.append_nil]at h;omega
 obtain⟨ao,len,cap,rfl,hop⟩:=open_ops h0 (okWide_slice Tryz.underlying22 (hval 0 22 v0 rfl rfl));have ho:=ord hL;have hz:1<W.heap.size:=World.block_lt_of_cell? W _ (ho 0 (by omega));refine(Qee W ao len cap ho hz (hop hb).1 (hop hb).2).mono fun e W' ⟨he,hg⟩=>?_;subst he;have hlt:=hW'.lt;have again:=trodAll_cons_mk (WideElems.Trod_stays (P:=Tryz.prog) (sp':=fun b=>decide (b<W.heap.size)) laidOut (by kernel_rfl) (of_decide_eq_true (by kernel_rfl)) h0 (fun x hx=>hg.same (hlt x hx)) (fun x hx=>by simpa using hlt x hx)) (trodAll_mk0 (enc:=enc) (P:=Tryz.prog) (w:=W') (base:=0) (spare:=fun b=>decide (b<W.heap.size)) (held:=true));rw[List.append_nil]at again;exact⟨_,rfl,_,_,_,[],p0,[],hW',trodAll_cons_mk (shut_bool Tryz.underlying4 _) trodAll_mk0,again,rfl,hg.frame _,fun h=>by cases h⟩
/- The world of the witness,typed out at each use: the settled one,the listed variables laid;the script is nil. -/
theorem laid_met(os:Os):laidMet Tryz.prog Rows.allUptoRow.laid ((World.laidAll Tryz.prog os Rows.allUptoRow.laid).forCall (fun _ _=>0) ⟨#[],#[.slice none 0 0],[]⟩).memory :=laidMet_laidAll _ (by kernel_rfl) (by kernel_rfl)
theorem reads(os:Os){H:Type}(enc:TypeId×Value->H):∃places,DataW.whole enc Tryz.prog ((World.laidAll Tryz.prog os Rows.allUptoRow.laid).forCall (fun _ _=>0) ⟨#[],#[.slice none 0 0],[]⟩).memory Tryz.f5.params.toList Rows.allSpec.vars false #[Value.slice none 0 0].toList 8=some ([.nil],[],places) :=⟨[],by kernel_rfl⟩
theorem lifted(os:Os)(started:os.Started)(H:Type)(enc:TypeId×Value->H)(F:Stop.Interp): ReturnsInHanded {} Tryz.checked os 5 .any ((Rows.OpenSpec.upto Rows.allSpec).preRow enc Tryz.prog Tryz.f5 Rows.allUptoRow.domain false Rows.allUptoRow.laid) (((Rows.OpenSpec.upto Rows.allSpec).at F).post enc Tryz.prog Tryz.f5 false true false false):=by
 obtain⟨places,hx⟩:=reads os enc;refine returnsInHanded_of_row (C:=Tryz.checked) (s:=Rows.OpenSpec.upto Rows.allSpec) PHead.own started (by kernel_rfl) Tryz.func5 (witness_row_at (enc:=enc) (C:=Tryz.checked) false (World.laidAll Tryz.prog os Rows.allUptoRow.laid) #[.slice none 0 0] (World.laidAll_os _ _ _) (by kernel_rfl) (by kernel_rfl) (by kernel_rfl) (OpenSpec.preRow_of_cond 8 hx (by kernel_rfl) (fun k hk=>by cases hk;kernel_rfl) (by kernel_rfl) (laid_met os))) ?_;intro W base args ds gs before hval hW _ hk _ hL _ _;exact contract H enc W base args ds gs before hval hW (hk _ rfl) hL
theorem said:Rows.AllUptoSaid :=OpenClaim.holds_of_cond 5 Tryz.f5 rfl rfl rfl rfl rfl rfl rfl ⟨rfl,rfl,rfl,rfl,rfl⟩ rfl rfl rfl rfl rfl (by kernel_rfl) Tryz.func5 (by kernel_rfl) (of_decide_eq_true (by kernel_rfl)) (by unfold Func.isWrapper;first|(rw[if_pos (by decide +kernel)];kernel_rfl)|(rw[if_neg (by decide +kernel)];exact⟨rfl,rfl⟩)) (fun os started H enc _ F=>by rw[OpenClaim.pre_eq_preRow];exact lifted os started H enc F)
theorem plain(f:FuncId)(fn:Func)(hf:Tryz.pinned.checked.prog.funcNamed "crate/cratelaw.All"=some f)(hfn:Tryz.pinned.checked.prog.funcs[f]?=some fn): false=Tryz.pinned.checked.prog.looks []/\∀(j:Nat) t,fn.params[j]?=some t->Tryz.pinned.checked.prog.wantsStandIn t=false:=by
 obtain rfl:f=5:=Option.some.inj ((show Tryz.prog.funcNamed "crate/cratelaw.All"=some 5 by kernel_rfl).symm.trans hf) |>.symm;obtain rfl:fn=Tryz.f5:=(Option.some.inj (Tryz.func5.symm.trans hfn)).symm;refine⟨by kernel_rfl,fun j t ht=>?_⟩;rw[Tryz.params5]at ht;obtain rfl:t=22:=by simpa using Array.mem_of_getElem? ht
 exact(show Tryz.prog.wantsStandIn 22=false by kernel_rfl)
end PAll
theorem allUpto_card:Rows.AllUptoCardSaid :=Claim7.holds_tied_plain_at .later [] _ _ _ _ PAll.said (fun _ h=>by cases h) (by kernel_rfl) (fun _ h=>by cases h) allUpto_row_tie rfl ⟨rfl,rfl⟩ (by kernel_rfl) rfl PAll.plain (by kernel_rfl)
end Go.Proofs.YtmhlkdlcpicekaaGreatDoor
