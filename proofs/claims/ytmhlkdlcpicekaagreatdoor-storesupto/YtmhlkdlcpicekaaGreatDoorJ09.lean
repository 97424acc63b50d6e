/- Joined. -/
import Derived.Test.YtmhlkdlcpicekaaGreatDoorJ07
import Derived.Test.YtmhlkdlcpicekaaGreatDoorShelf
import Derived.RangeFuncNested
import Derived.RangeFuncBound
import Derived.RangeFuncCalls
import Derived.RangeFuncLeaves
import Derived.Shelf.Abstract
import Derived.Shelf.RegionOpen
import Derived.OwnWalkIn
import Derived.TacticsInMore
import Derived.LoopNIn
import Derived.LoopIn
import Derived.Lib.IndexLaws
set_option linter.unusedSimpArgs false
set_option linter.unusedVariables false
set_option maxRecDepth 100000
set_option maxHeartbeats 20000000
namespace Go.Proofs.YtmhlkdlcpicekaaGreatDoor
open Go.RowKit Go.Shelf
theorem oH(s:ByteArray)(w:World):Calls Tryz.prog 127 #[.string s,.string ⟨#[47]⟩] w fun e w'=>e=.returned (.int .i64 (Lib.indexByte s.data.toList 47))/\w=w':=
 (Any.strings_Index_one Tryz.lays143 s 47 w).mono fun _ _ h=>⟨h.1,h.2.symm⟩
theorem aS:∀(l part:List UInt8),Lib.indexByte l 47=-1->Az l part=[part++l]
 | [],part,_=>by simp[Az]
 |c::l,part,h=>by
  unfold Lib.indexByte at h;by_cases hc:c=47;.simp[hc]at h
  have hb:(c==47)=false:=by simpa using hc
  rw[hb]at h;simp only[Bool.false_eq_true,if_false]at h;have h':Lib.indexByte l 47=-1:=by
   by_cases h2:Lib.indexByte l 47=-1;.exact h2
   have:=Lib.indexByte_ge l 47;simp[h2]at h;omega
  rw[Az,if_neg hc,aS l _ h'];simp
theorem Yv:∀(l part:List UInt8) (i:Nat),Lib.indexByte l 47=(i:Int)->Az l part=(part++l.take i)::Az (l.drop (i+1)) []/\i<l.length
 | [],part,i,h=>by unfold Lib.indexByte at h;omega
 |c::l,part,i,h=>by
  unfold Lib.indexByte at h;by_cases hc:c=47
  .simp[hc]at h;obtain rfl:i=0:=by omega
   simp[Az,hc]
  have hb:(c==47)=false:=by simpa using hc
  rw[hb]at h;simp only[Bool.false_eq_true,if_false]at h;by_cases h2:Lib.indexByte l 47=-1;.simp[h2]at h
  have:=Lib.indexByte_ge l 47;simp[h2]at h;obtain⟨j,rfl⟩:∃j,i=j+1:=⟨i-1,by omega⟩;obtain⟨k1,k2⟩:=Yv l (part++[c]) j (by omega);rw[Az,if_neg hc,k1];exact⟨by simp,by simp;omega⟩
theorem setCell_setCell(w:World)(b o:Nat)(u v:Value):(w.setCell ⟨b,o,none⟩ u).setCell ⟨b,o,none⟩ v=w.setCell ⟨b,o,none⟩ v:=by
 have h:∀x:Obj,(match (match x with|.cells c e f=>Obj.cells (c.setIfInBounds o u) e f|o=>o)with|.cells c e f=>Obj.cells (c.setIfInBounds o v) e f|o=>o)=(match x with|.cells c e f=>Obj.cells (c.setIfInBounds o v) e f|o=>o):=by
  intro x;cases x<;>simp[Array.setIfInBounds_setIfInBounds]
 unfold World.setCell;congr 1;apply Array.ext_getElem?;intro i;simp only[Array.getElem?_modify];by_cases hi:b=i
 .simp only[hi,if_true,Option.map_map];congr 1;funext x;have:=h x;cases x<;>simp_all
 simp[hi]
def strLen(w:World)(b:Nat):Nat:=match w.cell? ⟨b,0,none⟩with
 |some (.string x)=>x.size
 |_=>0
def Ii(l:List UInt8):Bool:=(Az l []).all Jb
attribute [local go_sem] Oper.semAt_some
theorem split_c(m l sb pb vb:Nat)(W0:World)(Jx:World->Prop)(t:ByteArray)(ht:t.size<=1000)(hp:∀x,(W0.setCell ⟨sb,0,none⟩ (.string x)).cell? ⟨pb,0,none⟩=some (.string ⟨#[47]⟩))(hv:∀x,(W0.setCell ⟨sb,0,none⟩ (.string x)).cell? ⟨vb,0,none⟩=some (.int .i64 0))(hs:∀x,(W0.setCell ⟨sb,0,none⟩ (.string x)).cell? ⟨sb,0,none⟩=some (.string x))(hf:∀x,(W0.setCell ⟨sb,0,none⟩ (.string x)).frozen? ⟨sb,0,none⟩=false)(hY:∀x t':ByteArray,YieldAt Fence.wide (m-1) Tryz.prog l #[.string x] (W0.setCell ⟨sb,0,none⟩ (.string t')) fun e W' =>(Jb x.data.toList=true/\e=.returned (.bool true)/\W0.setCell ⟨sb,0,none⟩ (.string t')=W')\/(Jb x.data.toList=false/\e=.returned (.bool false)/\Jx W')): CallsIn Fence.wide m Tryz.prog 235 (#[.func (.yield l) #[] #[]]++#[.pointer (some ⟨pb,0,none⟩),.pointer (some ⟨sb,0,none⟩),.pointer (some ⟨vb,0,none⟩)]) (W0.setCell ⟨sb,0,none⟩ (.string t)) fun e W'=>
   (∃v,e=.returned v)/\((Ii t.data.toList=true/\∃t',W'=W0.setCell ⟨sb,0,none⟩ (.string t'))\/(Ii t.data.toList=false/\Jx W')):=by
 have p0:=hp t;have v0:=hv t;have s0:=hs t;refine callsIn_of_wp Tryz.func235 rfl trivial ?_ rfl;simp only[Tryz.ntmps235,List.size_toArray,List.length_cons,List.length_nil,Nat.reduceAdd,Nat.reduceSub,Array.replicate_succ,Array.replicate_zero,List.push_toArray,List.append_toArray,List.nil_append,List.cons_append];gi_wp2;clear p0 v0 s0
 gi_loopw [7] (fun i wr=>∃t':ByteArray,wr=W0.setCell ⟨sb,0,none⟩ (.string t')/\t'.size<=1000/\Hid (Ii t.data.toList=Ii t'.data.toList)) (fun i wr=>strLen wr sb)
 case atStart=>exact⟨t,rfl,ht,rfl⟩
 case round=>
  obtain⟨t',rfl,hz,HP⟩:=hrel;have p0:=hp t';have v0:=hv t';have s0:=hs t';have f0:=hf t';by_cases hi:Lib.indexByte t'.data.toList 47=-1
  .obtain⟨fn,tmps,assign,body,hy,hR⟩:=hY t' t';have HC:=fun W=>callsIn_wide (n:=m-1) |>.2 (oH t' W);rw[hi]at HC;gi_wp2_with fail;refine⟨trivial,(fun h=>by cases h),(HC _).mono ?_⟩;rintro e w' ⟨rfl,rfl⟩;gi_wp2;have HE:Hid (Ii t.data.toList=Jb t'.data.toList):=by unfold Hid;rw[HP.out];unfold Ii;rw[aS _ _ hi];simp
   refine⟨(fun h=>by cases h),hR.mono ?_⟩;rintro e W3 (⟨hk,rfl,rfl⟩|⟨hk,rfl,hJ⟩)
   .gi_wp2;go_end0;exact⟨⟨_,rfl⟩,.inl ⟨by rw[HE.out,hk],t',rfl⟩⟩
   gi_wp2;go_end0;exact⟨⟨_,rfl⟩,.inr ⟨by rw[HE.out,hk],hJ⟩⟩
  have hg:=Lib.indexByte_ge t'.data.toList 47;obtain⟨i,hI⟩:∃i:Nat,Lib.indexByte t'.data.toList 47=(i:Int):=⟨(Lib.indexByte t'.data.toList 47).toNat,by omega⟩;have HC:=fun W=>callsIn_wide (n:=m-1) |>.2 (oH t' W);obtain⟨pp,il⟩:=Yv t'.data.toList [] i hI;have il':i<t'.size:=by rw[Lib.size_eq];exact il
  rw[hI]at HC;obtain⟨fn,tmps,assign,body,hy,hR⟩:=hY (t'.extract 0 i) t';clear hi hg hI;have HI:Hid (Ii t'.data.toList=(Jb (t'.extract 0 i).data.toList&&Ii (t'.extract (i+1) t'.size).data.toList)):=by
   have e1:(t'.extract 0 i).data.toList=t'.data.toList.take i:=by simp[ByteArray.data_extract]
   have e2:(t'.extract (i+1) t'.size).data.toList=t'.data.toList.drop (i+1):=by
    rw[ByteArray.data_extract,Array.toList_extract];simp only[List.extract_eq_take_drop];apply List.take_of_length_le;rw[List.length_drop,<-Lib.size_eq];exact Nat.le_refl _
   unfold Hid Ii;rw[pp,e1,e2];simp
  have c1:¬(i:Int)<0:=by omega
  have c2:(i:Int)<=(t'.size:Int):=by omega
  have c3:(i:Int)+1<=(t'.size:Int):=by omega
  clear pp il;gi_wp2_with fail;refine⟨trivial,(fun h=>by cases h),(HC _).mono ?_⟩;rintro e w' ⟨rfl,rfl⟩;gi_wp2;refine⟨(fun h=>by cases h),hR.mono ?_⟩;rintro e W3 (⟨hk,rfl,rfl⟩|⟨hk,rfl,hJ⟩)
  .gi_wp2;rw[setCell_setCell];refine⟨⟨t'.extract (i+1) t'.size,rfl,by rw[ByteArray.size_extract];omega,?_⟩,?_⟩;.unfold Hid;rw[HP.out,HI.out,hk,Bool.true_and]
   unfold strLen;rw[hs,hs];simp only[ByteArray.size_extract];omega
  gi_wp2;refine bodyPost_ret (results_none rfl _ _ _) rfl ?_;exact⟨⟨_,rfl⟩,.inr ⟨by rw[HP.out,HI.out,hk];rfl,hJ⟩⟩
theorem Touch.bQ{S:Nat->Prop}{a b:World}(h:Touch S a b){l:Nat}(hl:a.heap.size<=l)(o:Obj):Touch S a (b.putObj l o) :=⟨h.os,h.tape,h.output,by rw[World.putObj_size];exact h.size,fun k hk hs=>(World.putObj_heap_other (by omega)).trans (h.block k hk hs)⟩
theorem vP(w:World)(l:Nat)(o o':Obj)(h:w.heap[l]?=some o):(w.putObj l o').putObj l o=w:=by
 unfold World.putObj;congr 1;apply Array.ext_getElem?;intro i;by_cases e:l=i
 .subst e;obtain⟨hl,_⟩:=Array.getElem?_eq_some_iff.1 h;rw[Array.getElem?_setIfInBounds_self_of_lt (by simpa using hl),h]
 rw[Array.getElem?_setIfInBounds_ne e,Array.getElem?_setIfInBounds_ne e]
theorem Dw(w:World)(b o:Nat)(v:Value)(h:w.cell? ⟨b,o,none⟩=some v):w.setCell ⟨b,o,none⟩ v=w:=by
 unfold World.setCell;congr 1;apply Array.ext_getElem?;intro i;rw[Array.getElem?_modify];by_cases e:b=i
 .subst e;simp only[if_true];unfold World.cell? at h;cases hc:w.heap[b]? with
  |none=>rfl
  |some x=>
   rw[hc]at h;cases x with
   |cells c t f=>
    simp at h;simp;obtain⟨h1,h2⟩:=Array.getElem?_eq_some_iff.1 h;apply Array.ext_getElem?;intro j;by_cases e:o=j;.subst e;rw[Array.getElem?_setIfInBounds_self_of_lt h1,h]
    rw[Array.getElem?_setIfInBounds_ne e]
   |_=>rfl
 simp[e]
theorem Jr{w:World}{l b o:Nat}(x:Obj)(h:b≠l):(w.putObj l x).cell? ⟨b,o,none⟩=w.cell? ⟨b,o,none⟩:=World.cell?_of_block (World.putObj_heap_other h)
theorem Jz{w:World}{l b o:Nat}(x:Obj)(h:b≠l):(w.putObj l x).frozen? ⟨b,o,none⟩=w.frozen? ⟨b,o,none⟩:=World.frozen?_of_block (World.putObj_heap_other h)
theorem Qhj{P:Program}{F:Fence}{n:Nat}{g:Operand}{ps:Array Tmp}{assign body:Code}{Q:Exit->Act->World->Prop}{a:Act}{w:World}{gf:Nat}{lb:Array Value}(hro:F.round=none)(hF:∀f,F.fn f)(hd:F.depth.isSome=true->1<=n)(hg:a.eval g=.func (.func gf) #[] lb)(eg:∀args w,(callFunc gf args).run P w=.ok (.enter gf args) w)(h:∀fn:FuncId,CallsIn F (n-1) P gf (#[.func (.yield (w.heap.size+1)) #[] #[]]++lb) ((w.alloc (.deferred (some []))).alloc (.loop { state:=.ready,pending:=none,fn:=fn,tmps:=a.tmps,params:=ps,assign:=assign,body:=body,defers:=w.heap.size })) (rangePost F n P (w.heap.size+1) Q { a with defers:=[{ target:=.collected w.heap.size,args:=#[] }]++a.defers })): (Code.rangeFunc g ps assign body).wpIn F n P Q a w:=by
 refine wpIn_rangeFunc ?_;intro fn hfn;rw[hro];obtain⟨W1,hW1⟩:∃W1,(w.alloc (.deferred (some []))).alloc (.loop { state:=.ready,pending:=none,fn:=fn,tmps:=a.tmps,params:=ps,assign:=assign,body:=body,defers:=w.heap.size })=W1:=⟨_,rfl⟩;have hc:=h fn;rw[hW1]at hc;refine⟨w.heap.size+1,[{ target:=.collected w.heap.size,args:=#[] }],W1,{ target:=.fn (.func gf) lb,args:=#[.func (.yield (w.heap.size+1)) #[] #[]] },W1,gf,#[.func (.yield (w.heap.size+1)) #[] #[]]++lb,W1,?_,?_,?_,?_,hd,?_⟩;.rw[<-hW1];exact run_enterLoop_outer _ _ _ _ _
 .simp only[resolve,hg];simp[go_sem]
 .intro f' _;exact hF f'
 .simp[invoke,go_sem,eg]
 exact hc
theorem Dn{w:World}{b o l:Nat}{v:Value}(h:l≠b):(w.setCell ⟨b,o,none⟩ v).heap[l]?=w.heap[l]?:=Below.heap_setCell _ _ _ _ h
structure Behind (w W:World) (D rb:Nat) (b:Bool):Prop where
 touch:Touch (fun _=>False) w W
 defer:W.heap[D]?=some (.deferred (some []))
 cell:W.cell? ⟨rb,0,none⟩=some (.bool b)
 frozen:W.frozen? ⟨rb,0,none⟩=false
theorem yB{n:Nat}{g:Operand}{ps:Array Tmp}{assign body:Code}{Q:Exit->Act->World->Prop}{a:Act}{w W4:World}(sb pb vb rb:Nat)(b0:Bool)(t:ByteArray)(ht:t.size<=1000)(hg:a.eval g=.func (.func 235) #[] #[.pointer (some ⟨pb,0,none⟩),.pointer (some ⟨sb,0,none⟩),.pointer (some ⟨vb,0,none⟩)])(hps:ps.size=1)(hw:w.heap.size<=rb)(hsb:w.heap.size<=sb)(htw:Touch (fun _=>False) w W4)(q0:W4.heap[rb]?=some (.cells #[.bool b0] 4))(q1:W4.heap[sb]?=some (.cells #[.string t] 9))(q2:W4.heap[pb]?=some (.cells #[.string ⟨#[47]⟩] 9))(q3:W4.heap[vb]?=some (.cells #[.int .i64 0] 3))(n1:rb≠sb)(n2:pb≠sb)(n3:vb≠sb)(a₁:ByteArray->Act)(hassign:∀(l:Nat) (x:ByteArray) (W:World) (K:Act->World->Prop),K (a₁ x) W->assign.wpIn (Fence.wide.inRound l) (n-1-1) Tryz.prog (Exit.then K (fun _ _ _=>False)) { tmps:=(ps.zip #[.string x]).foldl (fun t (p,v)=>t.setIfInBounds p v) a.tmps,defers:=[] } W)(hgo:∀(l:Nat) (x:ByteArray) (W:World),Jb x.data.toList=true->body.wpIn (Fence.wide.inRound l) (n-1-1) Tryz.prog (fun e _ W'=>e=.normal/\W'=W) (a₁ x) W)(hout:∀(l:Nat) (x:ByteArray) (W:World),Jb x.data.toList=false->W.cell? ⟨rb,0,none⟩=some (.bool b0)->W.frozen? ⟨rb,0,none⟩=false->body.wpIn (Fence.wide.inRound l) (n-1-1) Tryz.prog (fun e _ W'=>e=.ret/\W'=W.setCell ⟨rb,0,none⟩ (.bool false)) (a₁ x) W)(hdone:Ii t.data.toList=true->∀W,Behind w W W4.heap.size rb b0->Q .normal { a with defers:={ target:=.collected W4.heap.size,args:=#[] }::a.defers } W)(hstop:Ii t.data.toList=false->∀W,Behind w W W4.heap.size rb false->Code.ret.wpIn Fence.wide n Tryz.prog Q { a with defers:={ target:=.collected W4.heap.size,args:=#[] }::a.defers } W): (Code.rangeFunc g ps assign body).wpIn Fence.wide n Tryz.prog Q a W4:=by
 refine Qhj rfl (fun _=>trivial) (fun h=>by cases h) hg (enters_of Tryz.func235 (by kernel_rfl) rfl) (fun fn=>?_);obtain⟨rec,hrec⟩:∃rec:LoopState->Option Code->Loop,rec=fun st pe=>{ state:=st,pending:=pe,fn:=fn,tmps:=a.tmps,params:=ps,assign:=assign,body:=body,defers:=W4.heap.size }:=⟨_,rfl⟩;obtain⟨W1,hW1⟩:∃W1,(W4.alloc (.deferred (some []))).alloc (.loop (rec .ready none))=W1:=⟨_,rfl⟩;have hW1':(W4.alloc (.deferred (some []))).alloc (.loop { state:=.ready,pending:=none,fn:=fn,tmps:=a.tmps,params:=ps,assign:=assign,body:=body,defers:=W4.heap.size })=W1:=by rw[<-hW1,hrec]
 rw[hW1'];have z1:W1.heap.size=W4.heap.size+2:=by rw[<-hW1];simp
 have l1:W1.heap[W4.heap.size+1]?=some (.loop (rec .ready none)):=by
  rw[<-hW1];have:=World.alloc_heap_new (W4.alloc (.deferred (some []))) (.loop (rec .ready none));rwa [World.size_alloc]at this
 have d1:W1.heap[W4.heap.size]?=some (.deferred (some [])):=by
  rw[<-hW1];exact(Below.heap_alloc _ _ _ (by simp)).trans (World.alloc_heap_new W4 _)
 have k1:∀k,k<W4.heap.size->W1.heap[k]?=W4.heap[k]?:=fun k hk=>by
  rw[<-hW1];exact(Below.heap_alloc _ _ _ (by simp;omega)).trans (Below.heap_alloc _ _ _ hk)
 have T1:Touch (fun _=>False) w W1:=by rw[<-hW1];exact(htw.alloc _).alloc _
 have lr:=(Array.getElem?_eq_some_iff.1 q0).1;have ls:=(Array.getElem?_eq_some_iff.1 q1).1;have lp:=(Array.getElem?_eq_some_iff.1 q2).1;have lv:=(Array.getElem?_eq_some_iff.1 q3).1;have q0':=(k1 rb lr).trans q0;have q1':=(k1 sb ls).trans q1;have q2':=(k1 pb lp).trans q2;have q3':=(k1 vb lv).trans q3;have c1:W1.cell? ⟨sb,0,none⟩=some (.string t):=by rw[Ac q1' 0];rfl
 clear hW1 hW1';have hs:=split_c (n-1) (W4.heap.size+1) sb pb vb W1 (fun W=>W.heap[W4.heap.size+1]?=some (.loop (rec .done (some .ret)))/\Behind w W W4.heap.size rb false) t ht (fun x=>by rw[World.cell?_of_block (Dn n2),Ac q2' 0];rfl) (fun x=>by rw[World.cell?_of_block (Dn n3),Ac q3' 0];rfl) (fun x=>World.cell?_setCell_same' _ _ _ (by rw[c1];rfl)) (fun x=>by rw[World.frozen?_setCell];exact Cb q1' 0) ?_
 .rw[Dw W1 sb 0 _ c1]at hs;refine hs.mono ?_;rintro e W' ⟨⟨v,rfl⟩,(⟨hp,t',rfl⟩|⟨hp,hl,hb⟩)⟩
  .have lt:(W1.setCell ⟨sb,0,none⟩ (.string t')).heap[W4.heap.size+1]?=some (.loop (rec .ready none)):=(Dn (by omega)).trans l1;have he:(Instr.endLoop (W4.heap.size+1)).run Tryz.prog (W1.setCell ⟨sb,0,none⟩ (.string t'))=.ok none ((W1.setCell ⟨sb,0,none⟩ (.string t')).putObj (W4.heap.size+1) (.loop { rec .ready none with state:=.exhausted })):=by
    have:=run_endLoop (P:=Tryz.prog) lt (by rw[hrec];simp);rw[hrec]at this ⊢;exact this
   refine⟨none,_,he,hdone hp _ ⟨(T1.Ag (p:=⟨sb,0,none⟩) hsb _).bQ (l:=W4.heap.size+1) (by have:=htw.size;omega) _,?_,?_,?_⟩⟩;.rw[World.putObj_heap_other (by omega),Dn (by omega)];exact d1
   .rw[Jr _ (by omega),World.cell?_of_block (Dn n1),Ac q0' 0];rfl
   rw[Jz _ (by omega),World.frozen?_of_block (Dn n1)];exact Cb q0' 0
  have he:(Instr.endLoop (W4.heap.size+1)).run Tryz.prog W'=.ok (some .ret) (W'.putObj (W4.heap.size+1) (.loop { rec .done (some .ret)with state:=.exhausted })):=by
   have:=run_endLoop (P:=Tryz.prog) hl (by rw[hrec];simp);rw[hrec]at this ⊢;exact this
  refine⟨some .ret,_,he,hstop hp _ ⟨hb.touch.bQ (l:=W4.heap.size+1) (by have:=htw.size;omega) _,?_,?_,?_⟩⟩;.rw[World.putObj_heap_other (by omega)];exact hb.defer
  .rw[Jr _ (by omega)];exact hb.cell
  rw[Jz _ (by omega)];exact hb.frozen
 intro x t';have lt:(W1.setCell ⟨sb,0,none⟩ (.string t')).heap[W4.heap.size+1]?=some (.loop (rec .ready none)):=(Dn (by omega)).trans l1;have dt:(W1.setCell ⟨sb,0,none⟩ (.string t')).heap[W4.heap.size]?=some (.deferred (some [])):=(Dn (by omega)).trans d1;have ct:(W1.setCell ⟨sb,0,none⟩ (.string t')).cell? ⟨rb,0,none⟩=some (.bool b0):=by rw[World.cell?_of_block (Dn n1),Ac q0' 0];rfl
 have ft:(W1.setCell ⟨sb,0,none⟩ (.string t')).frozen? ⟨rb,0,none⟩=false:=by rw[World.frozen?_of_block (Dn n1)];exact Cb q0' 0
 have Tt:Touch (fun _=>False) w (W1.setCell ⟨sb,0,none⟩ (.string t')):=T1.Ag (p:=⟨sb,0,none⟩) hsb _;revert lt dt ct ft Tt;generalize W1.setCell ⟨sb,0,none⟩ (.string t')=Wt;intro lt dt ct ft Tt;have hy:=run_yield (P:=Tryz.prog) (args:=#[.string x]) lt (by rw[hrec];simpa using hps.symm);rw[hrec]at hy;refine⟨fn,_,assign,body,hy,roundIn_of_wpIn trivial (hassign _ x Wt _ ⟨_,run_beginRound lt (by rw[hrec]),?_⟩)⟩;have ll:=(Array.getElem?_eq_some_iff.1 lt).1;cases hx:Jb x.data.toList with
 |true=>
  refine wpIn_mono (hgo _ x _ hx) ?_;rintro e a' W' ⟨rfl,rfl⟩;have l2:(Wt.putObj (W4.heap.size+1) (.loop { rec .ready none with state:=.busy })).heap[W4.heap.size+1]?=some (.loop { rec .ready none with state:=.busy }):=World.putObj_heap_same ll;refine⟨_,_,run_endRound none l2,.inl ⟨rfl,rfl,?_⟩⟩;have:=vP Wt (W4.heap.size+1) (.loop (rec .ready none)) (.loop { rec .ready none with state:=.busy }) lt;rw[hrec]at this ⊢;exact this.symm
 |false=>
  refine wpIn_mono (hout _ x _ hx (by rw[Jr _ (by omega)];exact ct) (by rw[Jz _ (by omega)];exact ft)) ?_;rintro e a' W' ⟨rfl,rfl⟩;have l2:((Wt.putObj (W4.heap.size+1) (.loop { rec .ready none with state:=.busy })).setCell ⟨rb,0,none⟩ (.bool false)).heap[W4.heap.size+1]?=some (.loop { rec .ready none with state:=.busy }):=(Dn (by omega)).trans (World.putObj_heap_same ll);refine⟨_,_,run_endRound (some .ret) l2,.inr ⟨rfl,rfl,?_,?_⟩⟩
  .rw[World.putObj_heap_same (by simpa [size_setCell]using ll)];rw[hrec];rfl
  refine⟨((Tt.bQ (by have:=htw.size;omega) _).Ag (p:=⟨rb,0,none⟩) hw _).bQ (by have:=htw.size;omega) _,?_,?_,?_⟩;.rw[World.putObj_heap_other (by omega),Dn (by omega),World.putObj_heap_other (by omega)];exact dt
  .rw[Jr _ (by omega)];exact World.cell?_setCell_same' _ _ _ (by rw[Jr _ (by omega),ct];rfl)
  rw[Jz _ (by omega),World.frozen?_setCell,Jz _ (by omega)];exact ft
theorem qQ(w:World)(b:UInt8): Calls Tryz.prog 124 #[.int .u8 (b.toNat:Int)] w fun e w'=>e=.returned (.bool (Ik b))/\w=w':=by
 have HB:Hid (Ik b=(decide (32<=b.toNat)&&decide (b.toNat<=126)&&decide (b.toNat≠92)&&decide (b.toNat≠58)&&decide (b.toNat≠34))):=by
  have e:∀n:UInt8,(b≠n)↔b.toNat≠n.toNat:=fun n=>not_congr ⟨fun h=>by rw[h],fun h=>UInt8.toNat_inj.1 h⟩;unfold Hid Ik;simp only[UInt8.le_iff_toNat_le,e];rfl
 obtain⟨n,hn⟩:∃n,n=b.toNat:=⟨_,rfl⟩;rw[<-hn]at HB ⊢;clear hn;go_enter Tryz.func124,Tryz.ntmps124;go_wp2;all_goals go_ret
 all_goals refine⟨?_,rfl⟩
 all_goals rw[HB.out]
 all_goals refine congrArg Ending.returned (congrArg Value.bool ?_)
 all_goals rw[Bool.eq_iff_iff]
 all_goals simp only[Bool.and_eq_true,bne_iff_ne,decide_eq_true_eq,ne_eq,Bool.false_eq_true,false_iff]
 all_goals omega
theorem nR(s:ByteArray):Lib.hasSuffix s.data.toList [47]=Aj s:=by
 unfold Aj Lib.hasSuffix;rw[ByteArray.toList_eq];rcases List.eq_nil_or_concat s.data.toList with h|⟨l,a,h⟩;.rw[h];rfl
 rw[h];simp[List.isSuffixOf,List.isPrefixOf];by_cases ha:a=47;.simp[ha]
 have hb:¬47=a:=fun e=>ha e.symm;simp[ha,hb]
theorem bare_eq(s:ByteArray):Lib.trimSuffix s.data.toList [47]=Ak s:=by
 unfold Lib.trimSuffix Ak;rw[nR,ByteArray.toList_eq];split;.simp[List.dropLast_eq_take]
 rfl
theorem Us(w:World)(s:ByteArray)(hs:s.size<=140737488355328): Calls Tryz.prog 64 #[.string s] w fun e w'=>e=.returned (.bool (Aj s))/\w=w':=by
 have hc:=fun W=>Any.strings_HasSuffix Tryz.lays100 s ⟨#[47]⟩ W (by omega);change∀W,Calls Tryz.prog 110 _ _ _ at hc;have HC:Hid (∀W,Calls Tryz.prog 110 #[.string s,.string ⟨#[47]⟩] W fun e w'=>e=.returned (.bool (Aj s))/\W=w') :=fun W=>(hc W).mono fun e w' h=>⟨by rw[h.1,<-nR],h.2.symm⟩;clear hc;go_enter Tryz.func64,Tryz.ntmps64;go_wp2_with fail;refine(HC.out _).mono ?_;rintro e w' ⟨rfl,rfl⟩;go_wp2;go_ret;exact⟨rfl,rfl⟩
theorem wC(w:World)(s:ByteArray)(hs:s.size<=140737488355328): Calls Tryz.prog 126 #[.string s] w fun e w'=>e=.returned (.string ⟨(Ak s).toArray⟩)/\w=w':=by
 have hc:=fun W=>Any.strings_TrimSuffix Tryz.lays102 s ⟨#[47]⟩ W (by omega);change∀W,Calls Tryz.prog 184 _ _ _ at hc;have HC:Hid (∀W,Calls Tryz.prog 184 #[.string s,.string ⟨#[47]⟩] W fun e w'=>e=.returned (.string ⟨(Ak s).toArray⟩)/\W=w') :=fun W=>(hc W).mono fun e w' h=>⟨by rw[h.1,<-bare_eq],h.2.symm⟩;clear hc;go_enter Tryz.func126,Tryz.ntmps126;go_wp2_with fail;refine(HC.out _).mono ?_;rintro e w' ⟨rfl,rfl⟩;go_wp2;go_ret;exact⟨rfl,rfl⟩
theorem Qd1(s:ByteArray)(i:Nat)(h:i<s.size):(s.data.toList.drop i).all Ik=(Ik s[i]&&(s.data.toList.drop (i+1)).all Ik):=by
 rw[List.drop_eq_getElem_cons (by rw[<-Lib.size_eq];exact h)];rfl
theorem zJ(w:World)(t:ByteArray): Calls Tryz.prog 125 #[.string t,.string ⟨#[47]⟩] w fun e w'=>e=.returned (.func (.func 235) #[] #[.pointer (some ⟨w.heap.size+1,0,none⟩),.pointer (some ⟨w.heap.size,0,none⟩),.pointer (some ⟨w.heap.size+2,0,none⟩)]) /\ ((w.alloc (.cells #[.string t] 9)).alloc (.cells #[.string ⟨#[47]⟩] 9)).alloc (.cells #[.int .i64 0] 3)=w':=by
 have HC:Hid (∀W,Calls Tryz.prog 183 #[.string t,.string ⟨#[47]⟩,.int .i64 0] W fun e w'=>e=.returned (.func (.func 235) #[] #[.pointer (some ⟨W.heap.size+1,0,none⟩),.pointer (some ⟨W.heap.size,0,none⟩),.pointer (some ⟨W.heap.size+2,0,none⟩)]) /\ ((W.alloc (.cells #[.string t] 9)).alloc (.cells #[.string ⟨#[47]⟩] 9)).alloc (.cells #[.int .i64 0] 3)=w'):=by
  intro W;go_enter Tryz.func183,Tryz.ntmps183;go_wp2;go_ret;exact⟨rfl,rfl⟩
 go_enter Tryz.func125,Tryz.ntmps125;go_wp2_with fail;refine(HC.out _).mono ?_;rintro e w' ⟨rfl,rfl⟩;go_wp2;go_ret;exact⟨rfl,rfl⟩
theorem four(w:World)(o0 o1 o2 o3:Obj):((((w.alloc o0).alloc o1).alloc o2).alloc o3).heap[w.heap.size]?=some o0/\((((w.alloc o0).alloc o1).alloc o2).alloc o3).heap[w.heap.size+1]?=some o1 /\ ((((w.alloc o0).alloc o1).alloc o2).alloc o3).heap[w.heap.size+1+1]?=some o2/\((((w.alloc o0).alloc o1).alloc o2).alloc o3).heap[w.heap.size+1+2]?=some o3:=by
 have h1:(w.alloc o0).heap.size=w.heap.size+1:=by simp
 have h2:((w.alloc o0).alloc o1).heap.size=w.heap.size+1+1:=by simp
 have h3:(((w.alloc o0).alloc o1).alloc o2).heap.size=w.heap.size+1+2:=by simp
 refine⟨?_,?_,?_,?_⟩;.rw[Below.heap_alloc _ _ _ (by omega),Below.heap_alloc _ _ _ (by omega),Below.heap_alloc _ _ _ (by omega)];exact World.alloc_heap_new w o0
 .rw[Below.heap_alloc _ _ _ (by omega),Below.heap_alloc _ _ _ (by omega),<-h1];exact World.alloc_heap_new _ o1
 .rw[Below.heap_alloc _ _ _ (by omega),<-h2];exact World.alloc_heap_new _ o2
 rw[<-h3];exact World.alloc_heap_new _ o3
theorem zS(x:ByteArray):Jb x.data.toList=(decide (¬x.toList=[])&&decide (¬x.toList=[46])&&decide (¬x.toList=[46,46])):=by
 rw[ByteArray.toList_eq];rfl
theorem iQ(x:ByteArray):Jb x.data.toList=(!x.toList.isEmpty&&!(x.toList==[46])&&!(x.toList==[46,46])):=by
 rw[zS,Bool.eq_iff_iff];simp
theorem nH(s:ByteArray):(⟨(Ak s).toArray⟩:ByteArray).size<=s.size:=by
 have:(Ak s).length<=s.size:=by
  unfold Ak;rw[ByteArray.toList_eq];split;.rw[List.length_dropLast,<-Lib.size_eq];omega
  rw[<-Lib.size_eq];omega
 show(Ak s).toArray.size<=_;rw[List.size_toArray];exact this
attribute [local go_sem] Oper.semAt_some
theorem tX(w:World)(s:ByteArray)(hs:s.size<=140737488355328): Calls Tryz.prog 71 #[.string s] w fun e w'=>e=.returned (.bool (Ci s))/\Touch (fun _=>False) w w':=by
 refine(callsIn_wide (n:=9)).1 ?_;have T0:Touch (fun _=>False) w (w.alloc (.cells #[.bool false] 4)):=(Touch.refl _ w).alloc _;refine callsIn_of_wp_marks Tryz.func71 rfl trivial ?_;simp only[Tryz.ntmps71,List.size_toArray,List.length_cons,List.length_nil,Nat.reduceAdd,Nat.reduceSub,Array.replicate_succ,Array.replicate_zero,List.push_toArray,List.append_toArray,List.nil_append,List.cons_append];by_cases h60:s.size<=60
 .have HN:Hid (Ci s=((s.data.toList.drop 0).all Ik&&Ii (Ak s))):=by
   unfold Hid Ci Ii;rw[decide_eq_true h60,ByteArray.toList_eq,Bool.true_and];rfl
  have hP:=fun W=>(callsIn_wide (n:=8)).2 (wC W s hs);gi_wp2
  gi_loopw [10] (fun i wr=>∃k:Nat,k<=s.size/\i=.int .i64 (k:Int)/\wr=w.alloc (.cells #[.bool false] 4)/\Hid ((s.data.toList.drop 0).all Ik=(s.data.toList.drop k).all Ik)) (fun i wr=>s.size-(intOf i).toNat)
  case atStart=>exact⟨0,Nat.zero_le _,rfl,rfl,rfl⟩
  case round=>
   obtain⟨k,hk,rfl,rfl,HA⟩:=hrel;by_cases hlt:k<s.size
   .have hB:=fun W=>(callsIn_wide (n:=8)).2 (qQ W s[k]);have HS:Hid ((s.data.toList.drop 0).all Ik=(Ik s[k]&&(s.data.toList.drop (k+1)).all Ik)):=by
     unfold Hid;rw[HA.out,Qd1 s k hlt]
    cases hb:Ik s[k]with
    |true=>
     rw[hb]at hB HS;gi_wp2_with fail;refine⟨trivial,(hB _).mono ?_⟩;rintro e w' ⟨rfl,rfl⟩;gi_wp2;exact⟨⟨k+1,by omega,by go_num,trivial,by unfold Hid;rw[HS.out];rfl⟩,by simp[intOf];omega⟩
    |false=>
     rw[hb]at hB HS;gi_wp2_with fail;refine⟨trivial,(hB _).mono ?_⟩;rintro e w' ⟨rfl,rfl⟩;gi_wp2;refine⟨.bool false,by simp[results,Tryz.results71,go_sem],?_,T0⟩;rw[HN.out,HS.out];rfl
   obtain rfl:k=s.size:=by omega
   have HE:Hid (Ci s=Ii (Ak s)):=by
    unfold Hid;rw[HN.out,HA.out,List.drop_of_length_le (by rw[<-Lib.size_eq];exact Nat.le_refl _)];rfl
   gi_wp2_with fail;refine⟨trivial,(hP _).mono ?_⟩;rintro e w' ⟨rfl,rfl⟩;gi_wp2_with fail;refine⟨trivial,((callsIn_wide (n:=8)).2 (zJ _ _)).mono ?_⟩;rintro e w' ⟨rfl,rfl⟩;gi_wp2;obtain⟨q0,q1,q2,q3⟩:=four w (Obj.cells #[Value.bool false] 4) (Obj.cells #[Value.string ⟨(Ak s).toArray⟩] 9) (Obj.cells #[Value.string ⟨#[47]⟩] 9) (Obj.cells #[Value.int IntKind.i64 0] 3);refine yB (w:=w) (w.heap.size+1) (w.heap.size+1+1) (w.heap.size+1+2) w.heap.size false ⟨(Ak s).toArray⟩ (by have:=nH s;omega) rfl rfl (Nat.le_refl _) (by omega) (((T0.alloc _).alloc _).alloc _) q0 q1 q2 q3 (by omega) (by omega) (by omega) (fun x=>{ tmps:=#[.string s,undef,.pointer (some ⟨w.heap.size,0,none⟩),u3,.string x,.string s,.int .i64 (s.size:Int),.bool (decide ((60:Int)<(s.size:Int))),.string s,.int .i64 (s.size:Int),.int .i64 (s.size:Int),.bool false,u12,u13,u14,u15,u16,u17,u18,.string s,.string ⟨(Ak s).toArray⟩,.func (.func 235) #[] #[.pointer (some ⟨w.heap.size+1+1,0,none⟩),.pointer (some ⟨w.heap.size+1,0,none⟩),.pointer (some ⟨w.heap.size+1+2,0,none⟩)],.string x,undef,undef,undef,undef,undef,undef,undef,undef,undef,undef],defers:=[] }) ?assign ?go ?out ?done ?stop
   case assign=>
    intro l x W K hK;gi_wp2;exact hK
   case go=>
    intro l x W hx;rw[iQ]at hx;have h1:x.toList.isEmpty=false:=(by cases hh:x.toList.isEmpty<;>simp_all);have h2:(x.toList==[46])=false:=(by cases hh:(x.toList==[46])<;>simp_all);have h3:(x.toList==[46,46])=false:=(by cases hh:(x.toList==[46,46])<;>simp_all);clear hx;gi_wp2
   case out=>
    intro l x W hx hc hf;rw[iQ]at hx;cases h1:x.toList.isEmpty with
    |true=>
     clear hx;gi_wp2
    |false=>
     cases h2:(x.toList==[46])with
     |true=>
      clear hx;gi_wp2
     |false=>
      have h3:(x.toList==[46,46])=true:=(by cases hh:(x.toList==[46,46])<;>simp_all);clear hx;gi_wp2
   case done=>
    intro hp W hb;have hf:=hb.frozen;have hc:=hb.cell;have hK:=hb.defer;simp only[World.size_alloc]at hK;gi_wp2;refine⟨by simp,.inl ⟨_,_,rfl,run_takeDeferred ((Dn (by omega)).trans hK),?_⟩⟩;refine⟨.bool true,?_,?_,?_⟩
    .have e1:((W.setCell ⟨w.heap.size,0,none⟩ (.bool true)).putObj (w.heap.size+1+1+1+1) (.deferred none)).cell? ⟨w.heap.size,0,none⟩=some (.bool true):=by
      rw[Jr _ (by omega)];exact World.cell?_setCell_same' _ _ _ (by rw[hc];rfl)
     simp[results,Tryz.results71,go_sem,e1]
    .rw[HE.out,show Ii (Ak s)=true from hp]
    exact(hb.touch.Ag (p:=⟨w.heap.size,0,none⟩) (Nat.le_refl _) _).bQ (by omega) _
   case stop=>
    intro hp W hb;have hf:=hb.frozen;have hc:=hb.cell;have hK:=hb.defer;simp only[World.size_alloc]at hK;gi_wp2;refine⟨by simp,.inl ⟨_,_,rfl,run_takeDeferred hK,?_⟩⟩;refine⟨.bool false,?_,?_,?_⟩
    .have e1:(W.putObj (w.heap.size+1+1+1+1) (.deferred none)).cell? ⟨w.heap.size,0,none⟩=some (.bool false):=by
      rw[Jr _ (by omega)];exact hc
     simp[results,Tryz.results71,go_sem,e1]
    .rw[HE.out,show Ii (Ak s)=false from hp]
    exact hb.touch.bQ (by omega) _
 have c1:(60:Int)<(s.size:Int):=by omega
 have HN:Hid (Ci s=false):=by unfold Hid Ci;rw[decide_eq_false h60];rfl
 gi_wp2;refine⟨.bool false,by simp[results,Tryz.results71,go_sem],?_,T0⟩;rw[HN.out]
def Jj(e:Eo)(place stop:Nat):List Value:=[.string e.name,.int .i64 (e.method:Int),.int .u32 (e.sum:Int),.int .i64 (e.packed:Int),.int .i64 (e.size:Int),.int .i64 (place:Int),.int .i64 (e.maker:Int),.int .i64 (e.flags:Int),.int .i64 (e.disk:Int),.int .i64 (e.outer:Int),.string e.three,.int .i64 (e.ahead:Int),.int .i64 (stop:Int)]
def Gg(w:World)(b o:Nat)(e:Eo)(place stop:Nat):Prop:=∀i,i<13->w.cell? ⟨b,o+i,none⟩=(Jj e place stop)[i]?
structure Na (e:Eo):Prop where
 method:e.method<65536
 sum:e.sum<4294967296
 packed:e.packed<=1099511627776
 size:e.size<=1099511627776
 ahead:e.ahead<=1099511627776
 maker:e.maker<65536
 flags:e.flags<65536
 outer:e.outer<4294967296
 name:e.name.size<65536
theorem pJ(f:Nat)(h:f<65536):bits .andNot .i64 (f:Int) 2062=((f&&&63473:Nat):Int):=by
 have e1:(BitVec.ofInt IntKind.i64.bits (f:Int) &&& ~~~ BitVec.ofInt IntKind.i64.bits 2062).toNat=f&&&63473:=by
  show(BitVec.ofInt 64 (f:Int) &&& ~~~ BitVec.ofInt 64 2062).toNat=_;rw[BitVec.toNat_and,BitVec.ofInt_natCast,BitVec.toNat_ofNat,Nat.mod_eq_of_lt (by omega)];have e2:(~~~ BitVec.ofInt 64 2062).toNat=18446744073709549553:=by decide
  rw[e2];have e3:f&&&65535=f:=by rw[Nat.and_two_pow_sub_one_eq_mod f 16];omega
  rw[<-e3,Nat.and_assoc,Nat.and_assoc];congr 1
 unfold bits;simp only[e1];have:f&&&63473<=f:=Nat.and_le_left;simp[IntKind.wrap,IntKind.bits,IntKind.signed];omega
theorem Qdg(w:World)(b o:Nat)(e:Eo)(p t:Nat)(h:Gg w b o e p t): Calls Tryz.prog 141 #[.pointer (some ⟨b,o,none⟩)] w fun r w'=>r=.returned (.bool (aT e))/\w=w':=by
 have h6:w.cell? ⟨b,o+6,none⟩=some (.int .i64 (e.maker:Int)):=h 6 (by omega);have h9:w.cell? ⟨b,o+9,none⟩=some (.int .i64 (e.outer:Int)):=h 9 (by omega);have H:Hid (aT e=(((e.maker:Int)/256==3)&&((e.outer:Int)/268435456==10))):=by
  unfold Hid aT;rw[Bool.eq_iff_iff];simp;omega
 go_enter Tryz.func141,Tryz.ntmps141;go_wp2
 .have hm:(e.maker:Int)/256=3:=by assumption
  go_ret;exact⟨by rw[H.out,hm];rfl,rfl⟩
 have hm:¬(e.maker:Int)/256=3:=by assumption
 have hm':((e.maker:Int)/256==3)=false:=by simpa using hm
 go_ret;exact⟨by rw[H.out,hm'];rfl,rfl⟩
theorem Gg.keep{S:Nat->Prop}{w w':World}{b o:Nat}{e:Eo}{p t:Nat}(h:Gg w b o e p t)(ht:Touch S w w')(hs:¬S b):Gg w' b o e p t:=fun i hi=>by
 have h1:=h i hi;have h2:(Jj e p t)[i]?=some ((Jj e p t)[i]'(by simpa [Jj]using hi)):=List.getElem?_eq_getElem _;rw[h2]at h1 ⊢;exact ht.at h1 hs
theorem Qhu(w:World)(b o:Nat)(e:Eo)(p t:Nat)(h:Gg w b o e p t)(ho:Na e): Calls Tryz.prog 89 #[.pointer (some ⟨b,o,none⟩)] w fun r w'=>r=.returned (.int .i64 (Aw e:Int))/\Touch (fun _=>False) w w':=by
 have h0:w.cell? ⟨b,o,none⟩=some (.string e.name):=h 0 (by omega);have h1:w.cell? ⟨b,o+1,none⟩=some (.int .i64 (e.method:Int)):=h 1 (by omega);have h3:w.cell? ⟨b,o+3,none⟩=some (.int .i64 (e.packed:Int)):=h 3 (by omega);have h4:w.cell? ⟨b,o+4,none⟩=some (.int .i64 (e.size:Int)):=h 4 (by omega);have h7:w.cell? ⟨b,o+7,none⟩=some (.int .i64 (e.flags:Int)):=h 7 (by omega);have h8:w.cell? ⟨b,o+8,none⟩=some (.int .i64 (e.disk:Int)):=h 8 (by omega);have HL:Hid (∀W,Gg W b o e p t->Calls Tryz.prog 141 #[.pointer (some ⟨b,o,none⟩)] W fun r w'=>r=.returned (.bool (aT e))/\W=w'):=fun W hW=>Qdg W b o e p t hW;have HN:Hid (∀W,Calls Tryz.prog 71 #[.string e.name] W fun r w'=>r=.returned (.bool (Ci e.name))/\Touch (fun _=>False) W w'):=fun W=>tX W e.name (by have:=ho.name;omega);have HD:Hid (∀W,Calls Tryz.prog 64 #[.string e.name] W fun r w'=>r=.returned (.bool (Aj e.name))/\W=w'):=fun W=>Us W e.name (by have:=ho.name;omega);have HA:=pJ e.flags ho.flags;have HF:Hid (Aw e=if e.disk≠0 then 4 else if decide (e.flags&&&63473≠0)||(decide (e.method≠0)&&decide (e.method≠8))||aT e then 6 else if Ci e.name=false then 7 else if(Aj e.name&&(decide (e.size≠0)||decide (e.packed≠0)))||(decide (e.method=0)&&decide (e.size≠e.packed))then 11 else 0):=rfl;have HLA:Hid (Gg w b o e p t):=h;clear h;revert HF HA;generalize e.flags&&&63473=g;intro HA HF;by_cases d0:(e.disk:Int)=0
 .by_cases g0:(g:Int)=0
  .by_cases m0:(e.method:Int)=0
   .have m8:¬(e.method:Int)=8:=(by omega);go_enter Tryz.func89,Tryz.ntmps89;skip;go_wp2_with fail;refine(HL.out _ HLA.out).mono ?_;rintro r w' ⟨rfl,rfl⟩;cases hl:aT e with
    |true=>
     go_wp2;go_ret;exact⟨by rw[HF.out,if_neg (by omega),hl,Bool.or_true];rfl,Touch.refl _ _⟩
    |false=>
     have HF2:Hid (Aw e=if Ci e.name=false then 7 else if(Aj e.name&&(decide (e.size≠0)||decide (e.packed≠0)))||(decide (e.method=0)&&decide (e.size≠e.packed))then 11 else 0):=by
      unfold Hid;rw[HF.out,if_neg (by omega),hl,Bool.or_false];rw[if_neg];simp;omega
     go_wp2_with fail;refine(HN.out _).mono ?_;rintro r w1 ⟨rfl,t1⟩;have L1:=HLA.out.keep t1 (fun e=>e);have k0:w1.cell? ⟨b,o,none⟩=some (.string e.name):=L1 0 (by omega);have k1:w1.cell? ⟨b,o+1,none⟩=some (.int .i64 (e.method:Int)):=L1 1 (by omega);have k3:w1.cell? ⟨b,o+3,none⟩=some (.int .i64 (e.packed:Int)):=L1 3 (by omega);have k4:w1.cell? ⟨b,o+4,none⟩=some (.int .i64 (e.size:Int)):=L1 4 (by omega);clear L1;cases hn:Ci e.name with
     |false=>
      go_wp2;go_ret;exact⟨by rw[HF2.out,if_pos hn];rfl,t1⟩
     |true=>
      go_wp2_with fail;refine(HD.out _).mono ?_;rintro r w' ⟨rfl,rfl⟩;have HF3:Hid (Aw e=if(Aj e.name&&(decide (e.size≠0)||decide (e.packed≠0)))||(decide (e.method=0)&&decide (e.size≠e.packed))then 11 else 0):=by
       unfold Hid;rw[HF2.out,if_neg (by rw[hn];simp)]
      clear HF2 HF;have FIN:Hid (∀x:Nat,x=Aw e->∀W:World,Touch (fun _=>False) w W->Ending.returned (.int .i64 (x:Int))=Ending.returned (.int .i64 (Aw e:Int))/\Touch (fun _=>False) w W):=fun x hx W hW=>⟨by rw[hx],hW⟩;cases hf:Aj e.name with
      |true=>
       by_cases z0:(e.size:Int)=0
       .by_cases y0:(e.packed:Int)=0
        .go_wp2;go_quiet (fail);go_wp2;go_ret;exact FIN.out 0 (by rw[HF3.out,hf];simp;omega) _ (t1.drewN _)
        have y1:((e.packed:Int) != 0)=true:=(by simpa using y0);go_wp2;go_ret;exact FIN.out 11 (by rw[HF3.out,hf];simp;omega) _ t1
       have z1:((e.size:Int) != 0)=true:=(by simpa using z0);go_wp2;go_ret;exact FIN.out 11 (by rw[HF3.out,hf];simp;omega) _ t1
      |false=>
       by_cases zp:(e.size:Int)=(e.packed:Int)
       .have zp':((e.size:Int) != (e.packed:Int))=false:=(by simpa using zp);go_wp2;go_quiet (fail);go_wp2;go_ret;exact FIN.out 0 (by rw[HF3.out,hf];simp;omega) _ (t1.drewN _)
       have zp':((e.size:Int) != (e.packed:Int))=true:=(by simpa using zp);go_wp2;go_quiet (fail);go_wp2;go_ret;exact FIN.out 11 (by rw[HF3.out,hf];simp;omega) _ (t1.drewN _)
   by_cases m8:(e.method:Int)=8
   .go_enter Tryz.func89,Tryz.ntmps89;go_wp2_with fail;refine(HL.out _ HLA.out).mono ?_;rintro r w' ⟨rfl,rfl⟩;cases hl:aT e with
    |true=>
     go_wp2;go_ret;exact⟨by rw[HF.out,if_neg (by omega),hl,Bool.or_true];rfl,Touch.refl _ _⟩
    |false=>
     have HF2:Hid (Aw e=if Ci e.name=false then 7 else if(Aj e.name&&(decide (e.size≠0)||decide (e.packed≠0)))||(decide (e.method=0)&&decide (e.size≠e.packed))then 11 else 0):=by
      unfold Hid;rw[HF.out,if_neg (by omega),hl,Bool.or_false];rw[if_neg];simp;omega
     go_wp2_with fail;refine(HN.out _).mono ?_;rintro r w1 ⟨rfl,t1⟩;have L1:=HLA.out.keep t1 (fun e=>e);have k0:w1.cell? ⟨b,o,none⟩=some (.string e.name):=L1 0 (by omega);have k1:w1.cell? ⟨b,o+1,none⟩=some (.int .i64 (e.method:Int)):=L1 1 (by omega);have k3:w1.cell? ⟨b,o+3,none⟩=some (.int .i64 (e.packed:Int)):=L1 3 (by omega);have k4:w1.cell? ⟨b,o+4,none⟩=some (.int .i64 (e.size:Int)):=L1 4 (by omega);clear L1;cases hn:Ci e.name with
     |false=>
      go_wp2;go_ret;exact⟨by rw[HF2.out,if_pos hn];rfl,t1⟩
     |true=>
      go_wp2_with fail;refine(HD.out _).mono ?_;rintro r w' ⟨rfl,rfl⟩;have HF3:Hid (Aw e=if(Aj e.name&&(decide (e.size≠0)||decide (e.packed≠0)))||(decide (e.method=0)&&decide (e.size≠e.packed))then 11 else 0):=by
       unfold Hid;rw[HF2.out,if_neg (by rw[hn];simp)]
      clear HF2 HF;have FIN:Hid (∀x:Nat,x=Aw e->∀W:World,Touch (fun _=>False) w W->Ending.returned (.int .i64 (x:Int))=Ending.returned (.int .i64 (Aw e:Int))/\Touch (fun _=>False) w W):=fun x hx W hW=>⟨by rw[hx],hW⟩;cases hf:Aj e.name with
      |true=>
       by_cases z0:(e.size:Int)=0
       .by_cases y0:(e.packed:Int)=0
        .go_wp2;go_quiet (fail);go_wp2;go_ret;exact FIN.out 0 (by rw[HF3.out,hf];simp;omega) _ (t1.drewN _)
        have y1:((e.packed:Int) != 0)=true:=(by simpa using y0);go_wp2;go_ret;exact FIN.out 11 (by rw[HF3.out,hf];simp;omega) _ t1
       have z1:((e.size:Int) != 0)=true:=(by simpa using z0);go_wp2;go_ret;exact FIN.out 11 (by rw[HF3.out,hf];simp;omega) _ t1
      |false=>
       go_wp2;go_quiet (fail);go_wp2;go_ret;exact FIN.out 0 (by rw[HF3.out,hf];simp;omega) _ (t1.drewN _)
   go_enter Tryz.func89,Tryz.ntmps89;have n0:((e.method:Int) != 0)=true:=by simpa using m0
   have n8:((e.method:Int) != 8)=true:=by simpa using m8
   go_wp2;go_ret;exact⟨by rw[HF.out,if_neg (by omega),if_pos (by simp;omega)];rfl,Touch.refl _ _⟩
  have g1:((g:Int) != 0)=true:=by simpa using g0
  go_enter Tryz.func89,Tryz.ntmps89;go_wp2;go_ret;exact⟨by rw[HF.out,if_neg (by omega),decide_eq_true (by omega)];rfl,Touch.refl _ _⟩
 have d1:((e.disk:Int) != 0)=true:=by simpa using d0
 go_enter Tryz.func89,Tryz.ntmps89;go_wp2;go_ret;exact⟨by rw[HF.out,if_pos (by omega)];rfl,Touch.refl _ _⟩
structure Iq (w:World) (g:Nat) (L:List Ai):Prop where
 cells:∀i (h:i<L.length),Gg w g (i*13) L[i].Af L[i].place L[i].stop
 lt:g<w.heap.size
theorem Iq.keep{S:Nat->Prop}{w w':World}{g:Nat}{L:List Ai}(h:Iq w g L)(ht:Touch S w w')(hs:¬S g):Iq w' g L:=
 ⟨fun i hi=>(h.cells i hi).keep ht hs,Nat.lt_of_lt_of_le h.lt ht.size⟩
theorem kL(w:World)(e:Eo)(p t:Nat): Calls Tryz.prog 46 #[.agg #[.string e.name,.int .i64 (e.method:Int),.int .u32 (e.sum:Int),.int .i64 (e.packed:Int),.int .i64 (e.size:Int),.int .i64 (p:Int),.int .i64 (e.maker:Int),.int .i64 (e.flags:Int),.int .i64 (e.disk:Int),.int .i64 (e.outer:Int),.string e.three,.int .i64 (e.ahead:Int),.int .i64 (t:Int)]] w fun r w'=>r=.returned (.int .i64 (e.name.size:Int))/\Touch (fun _=>False) w w':=by
 have T:=(Touch.refl (fun _=>False) w).alloc (Obj.cells #[.string e.name,.int .i64 (e.method:Int),.int .u32 (e.sum:Int),.int .i64 (e.packed:Int),.int .i64 (e.size:Int),.int .i64 (p:Int),.int .i64 (e.maker:Int),.int .i64 (e.flags:Int),.int .i64 (e.disk:Int),.int .i64 (e.outer:Int),.string e.three,.int .i64 (e.ahead:Int),.int .i64 (t:Int)] 179);go_enter Tryz.func46,Tryz.ntmps46;go_wp2;go_ret;exact⟨rfl,T⟩
theorem jD(w:World)(e:Eo)(p t:Nat): Calls Tryz.prog 50 #[.agg #[.string e.name,.int .i64 (e.method:Int),.int .u32 (e.sum:Int),.int .i64 (e.packed:Int),.int .i64 (e.size:Int),.int .i64 (p:Int),.int .i64 (e.maker:Int),.int .i64 (e.flags:Int),.int .i64 (e.disk:Int),.int .i64 (e.outer:Int),.string e.three,.int .i64 (e.ahead:Int),.int .i64 (t:Int)]] w fun r w'=>r=.returned (.int .i64 (e.size:Int))/\Touch (fun _=>False) w w':=by
 have T:=(Touch.refl (fun _=>False) w).alloc (Obj.cells #[.string e.name,.int .i64 (e.method:Int),.int .u32 (e.sum:Int),.int .i64 (e.packed:Int),.int .i64 (e.size:Int),.int .i64 (p:Int),.int .i64 (e.maker:Int),.int .i64 (e.flags:Int),.int .i64 (e.disk:Int),.int .i64 (e.outer:Int),.string e.three,.int .i64 (e.ahead:Int),.int .i64 (t:Int)] 179);go_enter Tryz.func50,Tryz.ntmps50;go_wp2;go_ret;exact⟨rfl,T⟩
def sumTo(L:List Ai)(sz:Eo->Nat)(i:Nat):Nat:=((L.take i).map fun x=>sz x.Af).sum
theorem jA(L:List Ai)(sz:Eo->Nat)(i:Nat)(h:i<L.length):sumTo L sz (i+1)=sumTo L sz i+sz L[i].Af:=by
 unfold sumTo;rw[List.take_succ_eq_append_getElem h,List.map_append,List.sum_append];simp
theorem sumTo_le(L:List Ai)(sz:Eo->Nat):∀i,sumTo L sz i<=sumTo L sz L.length:=by
 intro i;have:sumTo L sz L.length=sumTo L sz i+(((L.drop i).map fun x=>sz x.Af).sum):=by
  unfold sumTo;rw[List.take_length,<-List.sum_append,<-List.map_append,List.take_append_drop]
 omega
theorem Qb5(w:World)(A:Int)(hA:-9223372036854775808<=A/\A<=9223372036854775807)(a:Option Addr)(g cap:Nat)(L:List Ai)(ha:0<L.length->a=some ⟨g,0,none⟩)(hl:0<L.length->Iq w g L)(hn:L.length<=1000000000000)(hok:∀x∈L,Na x.Af): Calls Tryz.prog 45 #[.int .i64 A,.slice a L.length cap,.func (.func 46) #[] #[]] w fun r w'=>r=.returned (.bool (decide ((sumTo L (fun e=>e.name.size) L.length:Int)<=A)))/\Touch (fun _=>False) w w':=by
 obtain⟨n,hN⟩:∃n,n=L.length:=⟨_,rfl⟩;rw[<-hN];have ha':Hid (0<L.length->a=some ⟨g,0,none⟩):=ha;have hl':Hid (0<L.length->Iq w g L):=hl;have hN':Hid (n=L.length):=hN;have hn':n<=1000000000000:=by omega
 have hs1:Hid (∀k (h:k<L.length),sumTo L (fun e=>e.name.size) (k+1)=sumTo L (fun e=>e.name.size) k+(fun e:Eo=>e.name.size) L[k].Af):=fun k h=>jA L _ k h;have hs2:Hid (∀k,sumTo L (fun e=>e.name.size) k<=sumTo L (fun e=>e.name.size) n):=fun k=>by rw[hN];exact sumTo_le L _ k
 obtain⟨S,hS⟩:∃S:Nat->Nat,S=sumTo L (fun e=>e.name.size):=⟨_,rfl⟩;have HS0:Hid (S 0=0):=by rw[hS];rfl
 rw[<-hS]at hs1 hs2 ⊢;clear ha hl hN hn hS;go_enter Tryz.func45,Tryz.ntmps45;go_wp2;go_loopw [0,11] (fun al i wr=>∃k:Nat,k<=n/\i=.int .i64 (k:Int)/\(∃B:Int,al=.int .i64 B/\Hid (B=A-(S k:Int))/\-9223372036854775808<=B/\B<=9223372036854775807)/\Touch (fun _=>False) w wr) (fun al i wr=>n-(intOf i).toNat)
 case atStart=>exact⟨0,Nat.zero_le _,rfl,⟨A,rfl,by unfold Hid;rw[HS0.out];simp,hA.1,hA.2⟩,Touch.refl _ _⟩
 case round=>
  obtain⟨k,hk,rfl,⟨B,rfl,HB,hB1,hB2⟩,ht⟩:=hrel;by_cases hlt:k<n
  .have hlt':k<L.length:=by have:=hN'.out;omega
   obtain rfl:=ha'.out (by omega);have hL:=(hl'.out (by omega)).keep ht (fun e=>e);have hC:=hL.cells k hlt';have HX:=hs1.out k hlt';have hz:=hok L[k] (List.getElem_mem hlt');revert hC HX hz;generalize L[k]=x;intro hC HX hz;have c0:=hC 0 (by omega);have c1:=hC 1 (by omega);have c2:=hC 2 (by omega);have c3:=hC 3 (by omega);have c4:=hC 4 (by omega);have c5:=hC 5 (by omega);have c6:=hC 6 (by omega);have c7:=hC 7 (by omega);have c8:=hC 8 (by omega);have c9:=hC 9 (by omega);have c10:=hC 10 (by omega);have c11:=hC 11 (by omega);have c12:=hC 12 (by omega);simp only[Jj,List.getElem?_cons_zero,List.getElem?_cons_succ,Nat.add_zero]at c0 c1 c2 c3 c4 c5 c6 c7 c8 c9 c10 c11 c12;have HX':Hid (S (k+1)=S k+x.Af.name.size):=HX;have hb:x.Af.name.size<=1099511627776:=by have:=hz.name;have:=hz.size;omega
   clear hC HX hlt' hL hz;go_wp2_with fail;refine(kL _ x.Af x.place x.stop).mono ?_;rintro r w1 ⟨rfl,t1⟩;have T1:=(ht.alloc _).trans t1;have b1:=(t1.block wr.heap.size (by simp) (fun e=>e)).trans (heap_alloc_new wr (Obj.cells #[.string x.Af.name,.int .i64 (x.Af.method:Int),.int .u32 (x.Af.sum:Int),.int .i64 (x.Af.packed:Int),.int .i64 (x.Af.size:Int),.int .i64 (x.place:Int),.int .i64 (x.Af.maker:Int),.int .i64 (x.Af.flags:Int),.int .i64 (x.Af.disk:Int),.int .i64 (x.Af.outer:Int),.string x.Af.three,.int .i64 (x.Af.ahead:Int),.int .i64 (x.stop:Int)] 179));clear c0 c1 c2 c3 c4 c5 c6 c7 c8 c9 c10 c11 c12 t1;by_cases hgt:B<(x.Af.name.size:Nat)
   .go_wp2;go_ret;refine⟨?_,T1⟩;have h1:=hs2.out (k+1);have h2:=HB.out;have h3:=HX'.out;rw[decide_eq_false (by omega)];rfl
   have g0:w1.cell? ⟨wr.heap.size,0,none⟩=some (.string x.Af.name):=by rw[Ac b1 0];rfl
   have g1:w1.cell? ⟨wr.heap.size,1,none⟩=some (.int .i64 (x.Af.method:Int)):=by rw[Ac b1 1];rfl
   have g2:w1.cell? ⟨wr.heap.size,2,none⟩=some (.int .u32 (x.Af.sum:Int)):=by rw[Ac b1 2];rfl
   have g3:w1.cell? ⟨wr.heap.size,3,none⟩=some (.int .i64 (x.Af.packed:Int)):=by rw[Ac b1 3];rfl
   have g4:w1.cell? ⟨wr.heap.size,4,none⟩=some (.int .i64 (x.Af.size:Int)):=by rw[Ac b1 4];rfl
   have g5:w1.cell? ⟨wr.heap.size,5,none⟩=some (.int .i64 (x.place:Int)):=by rw[Ac b1 5];rfl
   have g6:w1.cell? ⟨wr.heap.size,6,none⟩=some (.int .i64 (x.Af.maker:Int)):=by rw[Ac b1 6];rfl
   have g7:w1.cell? ⟨wr.heap.size,7,none⟩=some (.int .i64 (x.Af.flags:Int)):=by rw[Ac b1 7];rfl
   have g8:w1.cell? ⟨wr.heap.size,8,none⟩=some (.int .i64 (x.Af.disk:Int)):=by rw[Ac b1 8];rfl
   have g9:w1.cell? ⟨wr.heap.size,9,none⟩=some (.int .i64 (x.Af.outer:Int)):=by rw[Ac b1 9];rfl
   have g10:w1.cell? ⟨wr.heap.size,10,none⟩=some (.string x.Af.three):=by rw[Ac b1 10];rfl
   have g11:w1.cell? ⟨wr.heap.size,11,none⟩=some (.int .i64 (x.Af.ahead:Int)):=by rw[Ac b1 11];rfl
   have g12:w1.cell? ⟨wr.heap.size,12,none⟩=some (.int .i64 (x.stop:Int)):=by rw[Ac b1 12];rfl
   clear b1;go_wp2_with fail;refine(kL _ x.Af x.place x.stop).mono ?_;rintro r w2 ⟨rfl,t2⟩;have T2:=T1.trans t2;clear t2 g0 g1 g2 g3 g4 g5 g6 g7 g8 g9 g10 g11 g12;go_wp2;refine⟨⟨k+1,by omega,by go_num,⟨B-(x.Af.name.size:Nat),by go_num,?_,by omega,by omega⟩,T2⟩,by simp[intOf];omega⟩;have h2:=HB.out;have h3:=HX'.out;unfold Hid;omega
  obtain rfl:k=n:=by omega
  go_wp2;go_ret;refine⟨?_,ht⟩;have h2:=HB.out;refine congrArg Ending.returned (congrArg Value.bool ?_);rw[Bool.eq_iff_iff];simp only[decide_eq_true_eq];omega
theorem Qc5(w:World)(A:Int)(hA:-9223372036854775808<=A/\A<=9223372036854775807)(a:Option Addr)(g cap:Nat)(L:List Ai)(ha:0<L.length->a=some ⟨g,0,none⟩)(hl:0<L.length->Iq w g L)(hn:L.length<=1000000000000)(hok:∀x∈L,Na x.Af): Calls Tryz.prog 45 #[.int .i64 A,.slice a L.length cap,.func (.func 50) #[] #[]] w fun r w'=>r=.returned (.bool (decide ((sumTo L (fun e=>e.size) L.length:Int)<=A)))/\Touch (fun _=>False) w w':=by
 obtain⟨n,hN⟩:∃n,n=L.length:=⟨_,rfl⟩;rw[<-hN];have ha':Hid (0<L.length->a=some ⟨g,0,none⟩):=ha;have hl':Hid (0<L.length->Iq w g L):=hl;have hN':Hid (n=L.length):=hN;have hn':n<=1000000000000:=by omega
 have hs1:Hid (∀k (h:k<L.length),sumTo L (fun e=>e.size) (k+1)=sumTo L (fun e=>e.size) k+(fun e:Eo=>e.size) L[k].Af):=fun k h=>jA L _ k h;have hs2:Hid (∀k,sumTo L (fun e=>e.size) k<=sumTo L (fun e=>e.size) n):=fun k=>by rw[hN];exact sumTo_le L _ k
 obtain⟨S,hS⟩:∃S:Nat->Nat,S=sumTo L (fun e=>e.size):=⟨_,rfl⟩;have HS0:Hid (S 0=0):=by rw[hS];rfl
 rw[<-hS]at hs1 hs2 ⊢;clear ha hl hN hn hS;go_enter Tryz.func45,Tryz.ntmps45;go_wp2;go_loopw [0,11] (fun al i wr=>∃k:Nat,k<=n/\i=.int .i64 (k:Int)/\(∃B:Int,al=.int .i64 B/\Hid (B=A-(S k:Int))/\-9223372036854775808<=B/\B<=9223372036854775807)/\Touch (fun _=>False) w wr) (fun al i wr=>n-(intOf i).toNat)
 case atStart=>exact⟨0,Nat.zero_le _,rfl,⟨A,rfl,by unfold Hid;rw[HS0.out];simp,hA.1,hA.2⟩,Touch.refl _ _⟩
 case round=>
  obtain⟨k,hk,rfl,⟨B,rfl,HB,hB1,hB2⟩,ht⟩:=hrel;by_cases hlt:k<n
  .have hlt':k<L.length:=by have:=hN'.out;omega
   obtain rfl:=ha'.out (by omega);have hL:=(hl'.out (by omega)).keep ht (fun e=>e);have hC:=hL.cells k hlt';have HX:=hs1.out k hlt';have hz:=hok L[k] (List.getElem_mem hlt');revert hC HX hz;generalize L[k]=x;intro hC HX hz;have c0:=hC 0 (by omega);have c1:=hC 1 (by omega);have c2:=hC 2 (by omega);have c3:=hC 3 (by omega);have c4:=hC 4 (by omega);have c5:=hC 5 (by omega);have c6:=hC 6 (by omega);have c7:=hC 7 (by omega);have c8:=hC 8 (by omega);have c9:=hC 9 (by omega);have c10:=hC 10 (by omega);have c11:=hC 11 (by omega);have c12:=hC 12 (by omega);simp only[Jj,List.getElem?_cons_zero,List.getElem?_cons_succ,Nat.add_zero]at c0 c1 c2 c3 c4 c5 c6 c7 c8 c9 c10 c11 c12;have HX':Hid (S (k+1)=S k+x.Af.size):=HX;have hb:x.Af.size<=1099511627776:=by have:=hz.name;have:=hz.size;omega
   clear hC HX hlt' hL hz;go_wp2_with fail;refine(jD _ x.Af x.place x.stop).mono ?_;rintro r w1 ⟨rfl,t1⟩;have T1:=(ht.alloc _).trans t1;have b1:=(t1.block wr.heap.size (by simp) (fun e=>e)).trans (heap_alloc_new wr (Obj.cells #[.string x.Af.name,.int .i64 (x.Af.method:Int),.int .u32 (x.Af.sum:Int),.int .i64 (x.Af.packed:Int),.int .i64 (x.Af.size:Int),.int .i64 (x.place:Int),.int .i64 (x.Af.maker:Int),.int .i64 (x.Af.flags:Int),.int .i64 (x.Af.disk:Int),.int .i64 (x.Af.outer:Int),.string x.Af.three,.int .i64 (x.Af.ahead:Int),.int .i64 (x.stop:Int)] 179));clear c0 c1 c2 c3 c4 c5 c6 c7 c8 c9 c10 c11 c12 t1;by_cases hgt:B<(x.Af.size:Nat)
   .go_wp2;go_ret;refine⟨?_,T1⟩;have h1:=hs2.out (k+1);have h2:=HB.out;have h3:=HX'.out;rw[decide_eq_false (by omega)];rfl
   have g0:w1.cell? ⟨wr.heap.size,0,none⟩=some (.string x.Af.name):=by rw[Ac b1 0];rfl
   have g1:w1.cell? ⟨wr.heap.size,1,none⟩=some (.int .i64 (x.Af.method:Int)):=by rw[Ac b1 1];rfl
   have g2:w1.cell? ⟨wr.heap.size,2,none⟩=some (.int .u32 (x.Af.sum:Int)):=by rw[Ac b1 2];rfl
   have g3:w1.cell? ⟨wr.heap.size,3,none⟩=some (.int .i64 (x.Af.packed:Int)):=by rw[Ac b1 3];rfl
   have g4:w1.cell? ⟨wr.heap.size,4,none⟩=some (.int .i64 (x.Af.size:Int)):=by rw[Ac b1 4];rfl
   have g5:w1.cell? ⟨wr.heap.size,5,none⟩=some (.int .i64 (x.place:Int)):=by rw[Ac b1 5];rfl
   have g6:w1.cell? ⟨wr.heap.size,6,none⟩=some (.int .i64 (x.Af.maker:Int)):=by rw[Ac b1 6];rfl
   have g7:w1.cell? ⟨wr.heap.size,7,none⟩=some (.int .i64 (x.Af.flags:Int)):=by rw[Ac b1 7];rfl
   have g8:w1.cell? ⟨wr.heap.size,8,none⟩=some (.int .i64 (x.Af.disk:Int)):=by rw[Ac b1 8];rfl
   have g9:w1.cell? ⟨wr.heap.size,9,none⟩=some (.int .i64 (x.Af.outer:Int)):=by rw[Ac b1 9];rfl
   have g10:w1.cell? ⟨wr.heap.size,10,none⟩=some (.string x.Af.three):=by rw[Ac b1 10];rfl
   have g11:w1.cell? ⟨wr.heap.size,11,none⟩=some (.int .i64 (x.Af.ahead:Int)):=by rw[Ac b1 11];rfl
   have g12:w1.cell? ⟨wr.heap.size,12,none⟩=some (.int .i64 (x.stop:Int)):=by rw[Ac b1 12];rfl
   clear b1;go_wp2_with fail;refine(jD _ x.Af x.place x.stop).mono ?_;rintro r w2 ⟨rfl,t2⟩;have T2:=T1.trans t2;clear t2 g0 g1 g2 g3 g4 g5 g6 g7 g8 g9 g10 g11 g12;go_wp2;refine⟨⟨k+1,by omega,by go_num,⟨B-(x.Af.size:Nat),by go_num,?_,by omega,by omega⟩,T2⟩,by simp[intOf];omega⟩;have h2:=HB.out;have h3:=HX'.out;unfold Hid;omega
  obtain rfl:k=n:=by omega
  go_wp2;go_ret;refine⟨?_,ht⟩;have h2:=HB.out;refine congrArg Ending.returned (congrArg Value.bool ?_);rw[Bool.eq_iff_iff];simp only[decide_eq_true_eq];omega
end Go.Proofs.YtmhlkdlcpicekaaGreatDoor
