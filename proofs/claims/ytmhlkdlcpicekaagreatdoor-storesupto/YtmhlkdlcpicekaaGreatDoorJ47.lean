/- Joined. -/
import Derived.Test.YtmhlkdlcpicekaaGreatDoorJ43
set_option linter.unusedSimpArgs false
set_option linter.unusedVariables false
set_option maxRecDepth 100000
set_option maxHeartbeats 20000000
namespace Go.Proofs.YtmhlkdlcpicekaaGreatDoor
def Si(P:Program)(md:Region.Mode)(ops:Array Oper)(Q:Exit->Act->World->Prop)(S:World->Prop)(st:Nat):Nat->Array Bool->Act->World->Prop
 |0,listed,a,w=>Region.ready md ops listed=[]/\Q .normal a w
 |fuel+1,listed,a,w=>
  (Region.ready md ops listed=[]->Q .normal a w) /\
  ∀i∈Region.ready md ops listed,wpOp P ops Q i (fun a' w'=>(i<st->S w')/\Si P md ops Q S st fuel (listed.setIfInBounds i true) a' w') a w
theorem Xz{P:Program}{ops:Array Oper}{Q:Exit->Act->World->Prop}{md:Region.Mode}{S:World->Prop}{st:Nat}:∀(fuel:Nat) (listed:Array Bool) (a:Act) (w:World),Si P md ops Q S st fuel listed a w->wpAny P md ops Q fuel listed a w
 |0,_,_,_,h=>h
 |fuel+1,_,_,_,h=>⟨h.1,fun i hi=>wpOp_mono (fun a' w' h'=>Xz fuel _ a' w' h'.2) (h.2 i hi)⟩
def wZ(md:Region.Mode)(ops:Array Oper)(i st:Nat):Bool:=(List.range ops.size).all fun j=>j<st||Yf md ops i 30 j
theorem pX{P:Program}{ops:Array Oper}{Q:Exit->Act->World->Prop}{md:Region.Mode}{S:World->Prop}{st:Nat}{i:Nat}{oi:Oper}{v:Value}(hi:ops[i]?=some oi)(hsel:∀(j:Nat) (o:Oper) cs b,ops[j]?=some o->o.op≠.select cs b)(hQ:∀c a w,Q (.panic c) (a.put oi.dst v) w->Q (.panic c) a w)(hst:wZ md ops i st=true): ∀(fuel:Nat) (listed:Array Bool) (a:Act) (w:World),(∀j oj,ops[j]?=some oj->j≠i->listed.getD j true=false->(∀e∈oj.after,Region.binds md e=true->e.on≠i)->oi.apart ops oj=true) ->i∈Region.ready md ops listed->Closed md ops listed->YieldsIf P ops S oi v a->S w ->Si P md ops Q S st fuel (listed.setIfInBounds i true) (a.put oi.dst v) w->Si P md ops Q S st (fuel+1) listed a w:=by
 intro fuel
 induction fuel with
 |zero=>
  intro listed a w _ hr hcl hy hS H;refine⟨fun h=>(by rw[h]at hr;cases hr),fun j hj=>?_⟩;by_cases hji:j=i;.subst hji;exact hy.wpOp hi hS ⟨fun _=>hS,H⟩
  have:=ready_mono hj hji;rw[H.1]at this;cases this
 |succ fuel ih=>
  intro listed a w hfree hr hcl hy hS H;refine⟨fun h=>(by rw[h]at hr;cases hr),fun j hj=>?_⟩;by_cases hji:j=i;.subst hji;exact hy.wpOp hi hS ⟨fun _=>hS,H⟩
  have h1:=H.2 j (ready_mono hj hji);obtain⟨hjun,oj,hoj,hall⟩:=mem_ready.1 hj;have hjst:j<st:=Nat.lt_of_not_le fun e=>by
   have hn:Yf md ops i 30 j=true:=by
    have h3:=List.all_eq_true.1 hst j (List.mem_range.2 (Array.getElem?_eq_some_iff.1 hoj).1);simp only[Bool.or_eq_true,decide_eq_true_eq]at h3;exact h3.resolve_left (by omega)
   have h2:=Un hcl 30 j hn (fun o ho e he hb=>by
    have:o=oj:=Option.some.inj (ho.symm.trans hoj);subst this;simpa using hall e he hb)
   have h0:=(mem_ready.1 hr).1;simp only[Array.getD_eq_getD_getElem?]at h0 h2;cases hg:listed[i]? with
   |none=>rw[hg]at h2;cases h2
   |some b=>
    rw[hg]at h0 h2;simp only[Option.getD_some]at h0 h2;rw[h2]at h0;cases h0
  have hnot:∀e∈oj.after,Region.binds md e=true->e.on≠i:=fun e he hb heq=>by
   have h1:=hall e he hb;have h0:=(mem_ready.1 hr).1;rw[heq]at h1;rcases Nat.lt_or_ge i listed.size with h'|h';.simp[h']at h0 h1;rw[h0]at h1;cases h1
   simp[Array.getElem?_eq_none h']at h1
  have h2:=wpOp_putIf hoj (hfree j oj hoj hji hjun hnot) (fun cs b=>hsel i oi cs b hi) (fun cs b=>hsel j oj cs b hoj) hQ hy h1;have hfree':∀k ok,ops[k]?=some ok->k≠i->(listed.setIfInBounds j true).getD k true=false ->(∀e∈ok.after,Region.binds md e=true->e.on≠i)->oi.apart ops ok=true:=fun k ok hk hki hun hno=>by
   refine hfree k ok hk hki ?_ hno;by_cases hjk:j=k;.subst hjk;exact hjun
   rw[getD_set_ne true hjk]at hun;exact hun
  refine wpOp_mono (fun a' w' h3=>⟨h3.2.1,ih (listed.setIfInBounds j true) a' w' hfree' (ready_mono hr (Ne.symm hji)) (hcl.step hj) h3.1 (h3.2.1 hjst) ?_⟩) h2;rw[Array.setIfInBounds_comm _ _ hji];exact h3.2.2
theorem Ej{P:Program}{ops:Array Oper}{Q:Exit->Act->World->Prop}{md:Region.Mode}{S:World->Prop}{st:Nat}{i:Nat}{oi:Oper}{v:Value}{fuel:Nat}{listed:Array Bool}{a:Act}{w:World}(hi:ops[i]?=some oi)(hs:Region.noSelect ops=true)(hf:Region.free md ops listed i=true)(hr:(Region.ready md ops listed).contains i=true)(hc:rZ md ops listed=true)(hw:wZ md ops i st=true)(hQ:∀c a w,Q (.panic c) (a.put oi.dst v) w->Q (.panic c) a w)(hy:YieldsIf P ops S oi v a)(hS:S w)(h:Si P md ops Q S st fuel (listed.setIfInBounds i true) (a.put oi.dst v) w):Si P md ops Q S st (fuel+1) listed a w :=pX hi (Region.noSelect_spec hs) hQ hw fuel listed a w (Region.free_spec hi hf) (by simpa using hr) (dO hc) hy hS h
theorem Yg{P:Program}{ops:Array Oper}{Q:Exit->Act->World->Prop}{md:Region.Mode}{S:World->Prop}{st:Nat}{i:Nat}{o:Oper}{fuel:Nat}{listed:Array Bool}{a:Act}{w:World}(hr:Region.ready md ops listed=[i])(ho:ops[i]?=some o)(h:∀K':Act->World->Prop,Shut (∀a w,(i<st->S w)->Si P md ops Q S st fuel (listed.setIfInBounds i true) a w->K' a w)->if Region.wanted o (yielded ops a.tmps)=true then Oper.wp P o a w K' Q else K' (a.put o.dst undef) w): Si P md ops Q S st (fuel+1) listed a w :=⟨fun h0=>(by rw[hr]at h0;cases h0),fun j hj=>by
  rw[hr,List.mem_singleton]at hj;subst hj;exact wpOp_step ho (fun K' hK=>h K' (fun a w hS hW=>hK a w ⟨hS,hW⟩))⟩
theorem vI{P:Program}{ops:Array Oper}{Q:Exit->Act->World->Prop}{md:Region.Mode}{S:World->Prop}{st:Nat}{listed:Array Bool}{a:Act}{w:World}(hr:Region.ready md ops listed=[])(h:Q .normal a w): ∀fuel,Si P md ops Q S st fuel listed a w
 |0=>⟨hr,h⟩
 |_+1=>⟨fun _=>h,by rw[hr];simp⟩
theorem iD{P:Program}{ops:Array Oper}{Q:Exit->Act->World->Prop}{id:Nat}{a:Act}{w:World}(S:World->Prop)(st:Nat)(hm:P.follows .mixedOrders=true)(h:Si P .any ops Q S st ops.size (Array.replicate ops.size false) a w.drew):(Code.region id ops true).wp P Q a w:=
 wp_region_any hm (Xz _ _ _ _ h)
open Go.RowKit Go.Shelf Go.Lib
theorem Qg9(w:World)(c:Int)(n k:Nat)(N:Int)(hN:N=(n:Int))(hk:Nr c n=k)(h1:1<=n)(hn:n<=1099511627776)(c0:-9223372036854775808<=c)(c1:c<=9223372036854775807): Calls Tryz.prog 56 #[.int .i64 c,.int .i64 N] w fun e w'=>e=.returned (.int .i64 (k:Int))/\w=w':=by
 subst hN hk;have lt:=lS c n (by omega);have n0:((n:Int)==0)=false:=by simp;omega
 have n0':¬(n:Int)=0:=by omega
 by_cases hc:c<0
 .obtain⟨d,hd⟩:∃d:Nat,-(c+1)=(d:Int):=⟨(-(c+1)).toNat,by omega⟩;have e:(d:Int).tmod (n:Int)=((Nr c n:Nat):Int):=by
   unfold Nr;have h2:=Int.emod_nonneg (d:Int) n0';rw[if_pos hc,hd,Int.tmod_eq_emod_of_nonneg (by omega)];omega
  have hd2:-1+-c=(d:Int):=by omega
  have hd3:-c-1=(d:Int):=by omega
  have db:d<=9223372036854775807:=by omega
  generalize Nr c n=k at *;go_enter Tryz.func56,Tryz.ntmps56;go_wp2;go_ret;exact⟨rfl,rfl⟩
 obtain⟨d,rfl⟩:∃d:Nat,c=(d:Int):=⟨c.toNat,by omega⟩;have e:(d:Int).tmod (n:Int)=((Nr (d:Int) n:Nat):Int):=by
  unfold Nr;have h2:=Int.emod_nonneg (d:Int) n0';rw[if_neg hc,Int.tmod_eq_emod_of_nonneg (by omega)];omega
 generalize Nr (d:Int) n=k at *;go_enter Tryz.func56,Tryz.ntmps56;go_wp2;go_ret;exact⟨rfl,rfl⟩
theorem Qa7(base:Nat)(w:World)(wb m:Nat)(own:Nat->Nat)(FL EL NL:List (Value×Nat))(PS:List (Nat×Nat))(sx:Nat->Nc)(h:Inv base w wb m own FL EL NL PS sx sx)(W N:Int)(S T:ByteArray)(qe qn qb:Int)(F:Bool)(hPS:0<PS.length)(hPS2:PS.length<=1000)(hW:I64 W)(K:Int)(hK5:K=6\/K=7\/K=8\/K=9\/K=10)(i:Nat)(hi:Nr W PS.length=i)(hil:i<PS.length)(P:World->Prop)(HST:Hid (∀V,Touch (fun _=>False) w V->Calls Tryz.prog 55 #[.pointer (some ⟨wb,0,none⟩),.agg #[.pointer (some ⟨PS[i].1,0,none⟩),.pointer (some ⟨PS[i].2,0,none⟩)],.agg #[.int .i64 K,.int .i64 W,.int .i64 N,.string S,.string T,.int .i64 qe,.int .i64 qn,.int .i64 qb,.bool F]] V fun r w'=>r=.returned (.bool true)/\P w')): Calls Tryz.prog 22 #[.pointer (some ⟨wb,0,none⟩),.agg #[.int .i64 K,.int .i64 W,.int .i64 N,.string S,.string T,.int .i64 qe,.int .i64 qn,.int .i64 qb,.bool F]] w fun r w'=>r=.returned (.bool true)/\P w':=by
 obtain⟨vA,vF,vE,vNm,vM,vNu,vO,hb⟩:=h.box;have hbl:=h.Gp;obtain⟨n,hn⟩:∃n,n=PS.length:=⟨_,rfl⟩;obtain⟨a,cap,hvA⟩:=Ei hb.rA;subst hvA;obtain⟨g,ha,hcl⟩:∃g,a=some ⟨g,0,none⟩/\∀j u,(Qc PS)[j]?=some u->w.cell? ⟨g,j,none⟩=some u:=by
  obtain⟨h1,⟨h2,h3⟩|⟨g,cap',cur,e,hbb,hg,h3,h4,h5,h6⟩⟩:=hb.rA;.omega
  cases e;refine⟨g,rfl,fun j u hu=>?_⟩;have hlt:=(List.getElem?_eq_some_iff.1 hu).1;rw[h1]at hlt;rw[<-h6,List.getElem?_take_of_lt hlt]at hu;rw[Ac hg j];simpa using hu
 obtain⟨x,hx⟩:∃x,x=PS[i].1:=⟨_,rfl⟩;obtain⟨y,hy⟩:∃y,y=PS[i].2:=⟨_,rfl⟩;obtain⟨pg1,pg2⟩:=bW PS i hil;rw[<-hx]at pg1 HST;rw[<-hy]at pg2 HST;have HC:Hid (∀V,Touch (fun _=>False) w V->V.cell? ⟨wb,0,none⟩=some (.slice a n cap)/\V.cell? ⟨g,i*2,none⟩=some (.pointer (some ⟨x,0,none⟩))/\V.cell? ⟨g,i*2+1,none⟩=some (.pointer (some ⟨y,0,none⟩))):=fun V t=>by
  rw[hn];exact⟨t.at (by rw[Ac hb.hp];rfl) (fun e=>e),t.at (hcl _ _ pg1) (fun e=>e),t.at (hcl _ _ pg2) (fun e=>e)⟩
 subst ha;have HPK:Hid (∀V,Calls Tryz.prog 56 #[.int .i64 W,.int .i64 (n:Int)] V fun e w'=>e=.returned (.int .i64 (i:Int))/\V=w'):=fun V=>Qg9 V W n i _ rfl (by rw[hn];exact hi) (by omega) (by omega) hW.1 hW.2;have i0:(0:Int)<=(i:Int):=by omega
 have i1:(i:Int)<(n:Int):=by omega
 have i2:i<n:=by omega
 have i3:IntKind.i64.wrap (i:Int)=(i:Int):=IntWalk.i64_in _ ⟨by omega,by omega⟩;clear h hb hcl pg1 pg2 hx hy hi hn hil;obtain⟨SP,hSP⟩:∃SP:World->Prop,SP=(fun X=>X.cell? ⟨wb,0,none⟩=some (.slice (some ⟨g,0,none⟩) n cap)/\X.cell? ⟨w.heap.size,0,none⟩=some (.int .i64 K)/\X.cell? ⟨w.heap.size,1,none⟩=some (.int .i64 W)/\X.cell? ⟨w.heap.size,2,none⟩=some (.int .i64 N)/\X.cell? ⟨w.heap.size,3,none⟩=some (.string S)/\X.cell? ⟨w.heap.size,4,none⟩=some (.string T)/\X.cell? ⟨w.heap.size,5,none⟩=some (.int .i64 qe)/\X.cell? ⟨w.heap.size,6,none⟩=some (.int .i64 qn)/\X.cell? ⟨w.heap.size,7,none⟩=some (.int .i64 qb)/\X.cell? ⟨w.heap.size,8,none⟩=some (.bool F)/\X.cell? ⟨g,i*2,none⟩=some (.pointer (some ⟨x,0,none⟩))/\X.cell? ⟨g,i*2+1,none⟩=some (.pointer (some ⟨y,0,none⟩))):=⟨_,rfl⟩;have T0:=(Touch.refl (fun _=>False) w).alloc (Obj.cells #[.int .i64 K,.int .i64 W,.int .i64 N,.string S,.string T,.int .i64 qe,.int .i64 qn,.int .i64 qb,.bool F] 65);have CB:SP (w.alloc (Obj.cells #[.int .i64 K,.int .i64 W,.int .i64 N,.string S,.string T,.int .i64 qe,.int .i64 qn,.int .i64 qb,.bool F] 65)).drew:=by
  have hc:=Ti w [.int .i64 K,.int .i64 W,.int .i64 N,.string S,.string T,.int .i64 qe,.int .i64 qn,.int .i64 qb,.bool F] 65;obtain⟨k1,k2,k3⟩:=HC.out _ T0;rw[hSP];exact⟨k1,hc 0 _ rfl,hc 1 _ rfl,hc 2 _ rfl,hc 3 _ rfl,hc 4 _ rfl,hc 5 _ rfl,hc 6 _ rfl,hc 7 _ rfl,hc 8 _ rfl,k2,k3⟩
 have b0:(w.alloc (Obj.cells #[.int .i64 K,.int .i64 W,.int .i64 N,.string S,.string T,.int .i64 qe,.int .i64 qn,.int .i64 qb,.bool F] 65)).cell? ⟨w.heap.size,0,none⟩=some (.int .i64 K):=Ti w [.int .i64 K,.int .i64 W,.int .i64 N,.string S,.string T,.int .i64 qe,.int .i64 qn,.int .i64 qb,.bool F] 65 0 _ rfl;have hwl:wb<(w.alloc (Obj.cells #[.int .i64 K,.int .i64 W,.int .i64 N,.string S,.string T,.int .i64 qe,.int .i64 qn,.int .i64 qb,.bool F] 65)).heap.size:=by rw[World.size_alloc];omega
 obtain⟨W0,hW0⟩:∃V,V=w.alloc (Obj.cells #[.int .i64 K,.int .i64 W,.int .i64 N,.string S,.string T,.int .i64 qe,.int .i64 qn,.int .i64 qb,.bool F] 65):=⟨_,rfl⟩;rcases hK5 with rfl|rfl|rfl|rfl|rfl;all_goals
  go_enter Tryz.func22,Tryz.ntmps22;go_upto_region 15 with fail;rw[<-hW0]at T0 CB b0 hwl ⊢;have HT0:Hid (Touch (fun _=>False) w W0.drew):=T0.drew;clear hW0 b0 T0;refine iD SP 16 (by kernel_rfl) ?_;refine Ej (i:=0) (v:=?_) rfl (by kernel_rfl) (by kernel_rfl) (by kernel_rfl) (by kernel_rfl) (by kernel_rfl) (fun _ _ _ h=>h) (Or.inl ⟨by rfl,?_⟩) CB ?_;rotate_left
  ·((intro wx h;rw[hSP]at h;obtain⟨s0,o0,o1,o2,o3,o4,o5,o6,o7,o8,p0,p1⟩:=h;go_simp)<;>(with_reducible rfl))
  try simp only[Act.put,List.setIfInBounds_toArray,List.set_cons_zero,List.set_cons_succ]
  refine Ej (i:=1) (v:=?_) rfl (by kernel_rfl) (by kernel_rfl) (by kernel_rfl) (by kernel_rfl) (by kernel_rfl) (fun _ _ _ h=>h) (Or.inl ⟨by rfl,?_⟩) CB ?_;rotate_left
  ·((intro wx h;rw[hSP]at h;obtain⟨s0,o0,o1,o2,o3,o4,o5,o6,o7,o8,p0,p1⟩:=h;go_simp)<;>(with_reducible rfl))
  try simp only[Act.put,List.setIfInBounds_toArray,List.set_cons_zero,List.set_cons_succ]
  refine Ej (i:=2) (v:=?_) rfl (by kernel_rfl) (by kernel_rfl) (by kernel_rfl) (by kernel_rfl) (by kernel_rfl) (fun _ _ _ h=>h) (Or.inl ⟨by rfl,?_⟩) CB ?_;rotate_left
  ·((intro wx h;rw[hSP]at h;obtain⟨s0,o0,o1,o2,o3,o4,o5,o6,o7,o8,p0,p1⟩:=h;go_simp)<;>(with_reducible rfl))
  try simp only[Act.put,List.setIfInBounds_toArray,List.set_cons_zero,List.set_cons_succ]
  refine Ej (i:=3) (v:=?_) rfl (by kernel_rfl) (by kernel_rfl) (by kernel_rfl) (by kernel_rfl) (by kernel_rfl) (fun _ _ _ h=>h) (Or.inl ⟨by rfl,?_⟩) CB ?_;rotate_left
  ·((intro wx h;rw[hSP]at h;obtain⟨s0,o0,o1,o2,o3,o4,o5,o6,o7,o8,p0,p1⟩:=h;go_simp)<;>(with_reducible rfl))
  try simp only[Act.put,List.setIfInBounds_toArray,List.set_cons_zero,List.set_cons_succ]
  refine Ej (i:=4) (v:=?_) rfl (by kernel_rfl) (by kernel_rfl) (by kernel_rfl) (by kernel_rfl) (by kernel_rfl) (fun _ _ _ h=>h) (Or.inl ⟨by rfl,?_⟩) CB ?_;rotate_left
  ·((intro wx h;rw[hSP]at h;obtain⟨s0,o0,o1,o2,o3,o4,o5,o6,o7,o8,p0,p1⟩:=h;go_simp)<;>(with_reducible rfl))
  try simp only[Act.put,List.setIfInBounds_toArray,List.set_cons_zero,List.set_cons_succ]
  refine Ej (i:=5) (v:=?_) rfl (by kernel_rfl) (by kernel_rfl) (by kernel_rfl) (by kernel_rfl) (by kernel_rfl) (fun _ _ _ h=>h) (Or.inl ⟨by rfl,?_⟩) CB ?_;rotate_left
  ·((intro wx h;rw[hSP]at h;obtain⟨s0,o0,o1,o2,o3,o4,o5,o6,o7,o8,p0,p1⟩:=h;go_simp)<;>(with_reducible rfl))
  try simp only[Act.put,List.setIfInBounds_toArray,List.set_cons_zero,List.set_cons_succ]
  refine Ej (i:=6) (v:=?_) rfl (by kernel_rfl) (by kernel_rfl) (by kernel_rfl) (by kernel_rfl) (by kernel_rfl) (fun _ _ _ h=>h) (Or.inl ⟨by rfl,?_⟩) CB ?_;rotate_left
  ·((intro wx h;rw[hSP]at h;obtain⟨s0,o0,o1,o2,o3,o4,o5,o6,o7,o8,p0,p1⟩:=h;go_simp)<;>(with_reducible rfl))
  try simp only[Act.put,List.setIfInBounds_toArray,List.set_cons_zero,List.set_cons_succ]
  refine Ej (i:=7) (v:=?_) rfl (by kernel_rfl) (by kernel_rfl) (by kernel_rfl) (by kernel_rfl) (by kernel_rfl) (fun _ _ _ h=>h) (Or.inl ⟨by rfl,?_⟩) CB ?_;rotate_left
  ·((intro wx h;rw[hSP]at h;obtain⟨s0,o0,o1,o2,o3,o4,o5,o6,o7,o8,p0,p1⟩:=h;go_simp)<;>(with_reducible rfl))
  try simp only[Act.put,List.setIfInBounds_toArray,List.set_cons_zero,List.set_cons_succ]
  refine Ej (i:=8) (v:=?_) rfl (by kernel_rfl) (by kernel_rfl) (by kernel_rfl) (by kernel_rfl) (by kernel_rfl) (fun _ _ _ h=>h) (Or.inl ⟨by rfl,?_⟩) CB ?_;rotate_left
  ·((intro wx h;rw[hSP]at h;obtain⟨s0,o0,o1,o2,o3,o4,o5,o6,o7,o8,p0,p1⟩:=h;go_simp)<;>(with_reducible rfl))
  try simp only[Act.put,List.setIfInBounds_toArray,List.set_cons_zero,List.set_cons_succ]
  refine Ej (i:=9) (v:=?_) rfl (by kernel_rfl) (by kernel_rfl) (by kernel_rfl) (by kernel_rfl) (by kernel_rfl) (fun _ _ _ h=>h) (Or.inl ⟨by rfl,?_⟩) CB ?_;rotate_left
  ·((intro wx h;rw[hSP]at h;obtain⟨s0,o0,o1,o2,o3,o4,o5,o6,o7,o8,p0,p1⟩:=h;go_simp)<;>(with_reducible rfl))
  try simp only[Act.put,List.setIfInBounds_toArray,List.set_cons_zero,List.set_cons_succ]
  refine Ej (i:=10) (v:=?_) rfl (by kernel_rfl) (by kernel_rfl) (by kernel_rfl) (by kernel_rfl) (by kernel_rfl) (fun _ _ _ h=>h) (Or.inl ⟨by rfl,?_⟩) CB ?_;rotate_left
  ·((intro wx h;rw[hSP]at h;obtain⟨s0,o0,o1,o2,o3,o4,o5,o6,o7,o8,p0,p1⟩:=h;go_simp)<;>(with_reducible rfl))
  try simp only[Act.put,List.setIfInBounds_toArray,List.set_cons_zero,List.set_cons_succ]
  refine Ej (i:=11) (v:=?_) rfl (by kernel_rfl) (by kernel_rfl) (by kernel_rfl) (by kernel_rfl) (by kernel_rfl) (fun _ _ _ h=>h) (Or.inl ⟨by rfl,?_⟩) CB ?_;rotate_left
  ·((intro wx h;rw[hSP]at h;obtain⟨s0,o0,o1,o2,o3,o4,o5,o6,o7,o8,p0,p1⟩:=h;go_simp)<;>(with_reducible rfl))
  try simp only[Act.put,List.setIfInBounds_toArray,List.set_cons_zero,List.set_cons_succ]
  refine Ej (i:=15) (v:=?_) rfl (by kernel_rfl) (by kernel_rfl) (by kernel_rfl) (by kernel_rfl) (by kernel_rfl) (fun _ _ _ h=>h) (Or.inl ⟨by rfl,?_⟩) CB ?_;rotate_left
  ·((intro wx h;rw[hSP]at h;obtain⟨s0,o0,o1,o2,o3,o4,o5,o6,o7,o8,p0,p1⟩:=h;go_simp)<;>(with_reducible rfl))
  try simp only[Act.put,List.setIfInBounds_toArray,List.set_cons_zero,List.set_cons_succ]
  refine Yg (i:=12) (by kernel_rfl) rfl (fun K' hK=>?_);go_simp;refine(HPK.out _).mono ?_;rintro e w2 ⟨rfl,rfl⟩;go_wp2_with fail;refine hK.out _ _ (fun _=>CB) ?_;clear hK K';try simp only[Act.put,List.setIfInBounds_toArray,List.set_cons_zero,List.set_cons_succ]
  refine Ej (i:=13) (v:=?_) rfl (by kernel_rfl) (by kernel_rfl) (by kernel_rfl) (by kernel_rfl) (by kernel_rfl) (fun _ _ _ h=>h) (Or.inl ⟨by rfl,?_⟩) CB ?_;rotate_left
  ·((intro wx h;rw[hSP]at h;obtain⟨s0,o0,o1,o2,o3,o4,o5,o6,o7,o8,p0,p1⟩:=h;go_simp)<;>(with_reducible rfl))
  try simp only[Act.put,List.setIfInBounds_toArray,List.set_cons_zero,List.set_cons_succ]
  refine Ej (i:=14) (v:=?_) rfl (by kernel_rfl) (by kernel_rfl) (by kernel_rfl) (by kernel_rfl) (by kernel_rfl) (fun _ _ _ h=>h) (Or.inl ⟨by rfl,?_⟩) CB ?_;rotate_left
  ·((intro wx h;rw[hSP]at h;obtain⟨s0,o0,o1,o2,o3,o4,o5,o6,o7,o8,p0,p1⟩:=h;go_simp)<;>(with_reducible rfl))
  try simp only[Act.put,List.setIfInBounds_toArray,List.set_cons_zero,List.set_cons_succ]
  refine Yg (i:=16) (by kernel_rfl) rfl (fun K' hK=>?_);go_simp;refine(HST.out _ HT0.out).mono ?_;rintro e w3 ⟨rfl,hP⟩;have HP:Hid (P w3):=hP;clear hP;go_wp2_with fail;refine hK.out _ _ (fun e=>absurd e (by decide)) ?_;clear hK K';try simp only[Act.put,List.setIfInBounds_toArray,List.set_cons_zero,List.set_cons_succ]
  refine Yg (i:=17) (by kernel_rfl) rfl (fun K' hK=>?_);go_simp;refine hK.out _ _ (fun e=>absurd e (by decide)) ?_;clear hK K';try simp only[Act.put,List.setIfInBounds_toArray,List.set_cons_zero,List.set_cons_succ]
  refine vI (by kernel_rfl) ?_ _;go_wp2;go_ret;exact⟨rfl,HP.out⟩
end Go.Proofs.YtmhlkdlcpicekaaGreatDoor
