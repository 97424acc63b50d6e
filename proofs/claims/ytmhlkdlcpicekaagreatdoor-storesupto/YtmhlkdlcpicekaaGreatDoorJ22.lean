/- Joined. -/
import Derived.Test.YtmhlkdlcpicekaaGreatDoorJ21
import Derived.Test.YtmhlkdlcpicekaaGreatDoorJ03
import Derived.RegionTactic
set_option linter.unusedSimpArgs false
set_option linter.unusedVariables false
set_option maxRecDepth 100000
set_option maxHeartbeats 20000000
namespace Go.Proofs.YtmhlkdlcpicekaaGreatDoor
def Rq(P:Program)(md:Region.Mode)(ops:Array Oper)(Q:Exit->Act->World->Prop)(S:World->Prop)(st:Nat):Nat->Array Bool->Act->World->Prop
 |0,listed,a,w=>Region.ready md ops listed=[]/\Q .normal a w
 |fuel+1,listed,a,w=>
  (Region.ready md ops listed=[]->Q .normal a w) /\
  ∀i∈Region.ready md ops listed,wpOp P ops Q i (fun a' w'=>(i≠st->S w')/\Rq P md ops Q S st fuel (listed.setIfInBounds i true) a' w') a w
theorem Wq{P:Program}{ops:Array Oper}{Q:Exit->Act->World->Prop}{md:Region.Mode}{S:World->Prop}{st:Nat}:∀(fuel:Nat) (listed:Array Bool) (a:Act) (w:World),Rq P md ops Q S st fuel listed a w->wpAny P md ops Q fuel listed a w
 |0,_,_,_,h=>h
 |fuel+1,_,_,_,h=>⟨h.1,fun i hi=>wpOp_mono (fun a' w' h'=>Wq fuel _ a' w' h'.2) (h.2 i hi)⟩
def Closed(md:Region.Mode)(ops:Array Oper)(listed:Array Bool):Prop:=∀j oj,ops[j]?=some oj->listed.getD j false=true->∀e∈oj.after,Region.binds md e=true->listed.getD e.on false=true
theorem Xx{l:Array Bool}{i k:Nat}(h:l.getD k false=true):(l.setIfInBounds i true).getD k false=true:=by
 simp only[Array.getD_eq_getD_getElem?,Array.getElem?_setIfInBounds]at h ⊢;split
 .rename_i e;subst e;split;.rfl
  rename_i h';rw[Array.getElem?_eq_none (by omega)]at h;exact h
 exact h
theorem Closed.step{ops:Array Oper}{md:Region.Mode}{listed:Array Bool}(h:Closed md ops listed){i:Nat}(hi:i∈Region.ready md ops listed):Closed md ops (listed.setIfInBounds i true):=by
 intro j oj hj hl e he hb;obtain⟨hun,oi,hoi,hall⟩:=mem_ready.1 hi;by_cases hij:j=i
 .subst hij;have:oj=oi:=Option.some.inj (hj.symm.trans hoi);subst this;exact Xx (by simpa using hall e he hb)
 refine Xx (h j oj hj ?_ e he hb);simp only[Array.getD_eq_getD_getElem?,Array.getElem?_setIfInBounds]at hl ⊢;rw[if_neg (fun e=>hij e.symm)]at hl;exact hl
def Yf(md:Region.Mode)(ops:Array Oper)(i:Nat):Nat->Nat->Bool
 |0,_=>false
 |n+1,j=>match ops[j]? with
  |none=>false
  |some o=>o.after.any fun e=>Region.binds md e&&(e.on==i||Yf md ops i n e.on)
theorem Un{ops:Array Oper}{md:Region.Mode}{listed:Array Bool}(h:Closed md ops listed){i:Nat}:∀(n j:Nat),Yf md ops i n j=true->(∀oj,ops[j]?=some oj->∀e∈oj.after,Region.binds md e=true->listed.getD e.on false=true)->listed.getD i false=true
 |0,_,hw,_=>by cases hw
 |n+1,j,hw,hl=>by
  unfold Yf at hw;cases ho:ops[j]? with
  |none=>rw[ho]at hw;cases hw
  |some o=>
   rw[ho]at hw;simp only at hw;obtain⟨e,he,hb⟩:=Array.any_eq_true'.1 hw;simp only[Bool.and_eq_true,Bool.or_eq_true,beq_iff_eq]at hb;have hle:=hl o ho e he hb.1;rcases hb.2 with e1|e1;.rw[<-e1];exact hle
   exact Un h n e.on e1 (fun oj hj e2 he2 hb2=>h e.on oj hj hle e2 he2 hb2)
theorem qV{P:Program}{ops:Array Oper}{Q:Exit->Act->World->Prop}{md:Region.Mode}{S:World->Prop}{st:Nat}{i:Nat}{oi:Oper}{v:Value}(hi:ops[i]?=some oi)(hsel:∀(j:Nat) (o:Oper) cs b,ops[j]?=some o->o.op≠.select cs b)(hQ:∀c a w,Q (.panic c) (a.put oi.dst v) w->Q (.panic c) a w)(hst:∃n,Yf md ops i n st=true): ∀(fuel:Nat) (listed:Array Bool) (a:Act) (w:World),(∀j oj,ops[j]?=some oj->j≠i->listed.getD j true=false->(∀e∈oj.after,Region.binds md e=true->e.on≠i)->oi.apart ops oj=true) ->i∈Region.ready md ops listed->Closed md ops listed->YieldsIf P ops S oi v a->S w ->Rq P md ops Q S st fuel (listed.setIfInBounds i true) (a.put oi.dst v) w->Rq P md ops Q S st (fuel+1) listed a w:=by
 intro fuel
 induction fuel with
 |zero=>
  intro listed a w _ hr hcl hy hS H;refine⟨fun h=>(by rw[h]at hr;cases hr),fun j hj=>?_⟩;by_cases hji:j=i;.subst hji;exact hy.wpOp hi hS ⟨fun _=>hS,H⟩
  have:=ready_mono hj hji;rw[H.1]at this;cases this
 |succ fuel ih=>
  intro listed a w hfree hr hcl hy hS H;refine⟨fun h=>(by rw[h]at hr;cases hr),fun j hj=>?_⟩;by_cases hji:j=i;.subst hji;exact hy.wpOp hi hS ⟨fun _=>hS,H⟩
  have h1:=H.2 j (ready_mono hj hji);obtain⟨hjun,oj,hoj,hall⟩:=mem_ready.1 hj;have hjst:j≠st:=fun e=>by
   subst e;obtain⟨n,hn⟩:=hst;have h2:=Un hcl n j hn (fun o ho e he hb=>by
    have:o=oj:=Option.some.inj (ho.symm.trans hoj);subst this;simpa using hall e he hb)
   have h0:=(mem_ready.1 hr).1;simp only[Array.getD_eq_getD_getElem?]at h0 h2;cases hg:listed[i]? with
   |none=>rw[hg]at h2;cases h2
   |some b=>
    rw[hg]at h0 h2;simp only[Option.getD_some]at h0 h2;rw[h2]at h0;cases h0
  have hnot:∀e∈oj.after,Region.binds md e=true->e.on≠i:=fun e he hb heq=>by
   have h1:=hall e he hb;have h0:=(mem_ready.1 hr).1;rw[heq]at h1;rcases Nat.lt_or_ge i listed.size with h'|h';.simp[h']at h0 h1;rw[h0]at h1;cases h1
   simp[Array.getElem?_eq_none h']at h1
  have h2:=wpOp_putIf hoj (hfree j oj hoj hji hjun hnot) (fun cs b=>hsel i oi cs b hi) (fun cs b=>hsel j oj cs b hoj) hQ hy h1;have hfree':∀k ok,ops[k]?=some ok->k≠i->(listed.setIfInBounds j true).getD k true=false ->(∀e∈ok.after,Region.binds md e=true->e.on≠i)->oi.apart ops ok=true:=fun k ok hk hki hun hno=>by
   refine hfree k ok hk hki ?_ hno;by_cases hjk:j=k;.subst hjk;exact hjun
   rw[getD_set_ne true hjk]at hun;exact hun
  refine wpOp_mono (fun a' w' h3=>⟨h3.2.1,ih (listed.setIfInBounds j true) a' w' hfree' (ready_mono hr (Ne.symm hji)) (hcl.step hj) h3.1 (h3.2.1 hjst) ?_⟩) h2;rw[Array.setIfInBounds_comm _ _ hji];exact h3.2.2
def rZ(md:Region.Mode)(ops:Array Oper)(listed:Array Bool):Bool:=(List.range ops.size).all fun j=>match ops[j]? with
 |none=>true
 |some o=>!listed.getD j false||o.after.all fun e=>!Region.binds md e||listed.getD e.on false
theorem dO{ops:Array Oper}{md:Region.Mode}{listed:Array Bool}(h:rZ md ops listed=true):Closed md ops listed:=by
 intro j oj hj hl e he hb;have hlt:j<ops.size:=(Array.getElem?_eq_some_iff.1 hj).1;have h1:=List.all_eq_true.1 h j (List.mem_range.2 hlt);rw[hj]at h1;simp only[hl,Bool.not_true,Bool.false_or]at h1;have h2:=Array.all_eq_true'.1 h1 e he;rw[hb]at h2;simpa using h2
theorem Bh{P:Program}{ops:Array Oper}{Q:Exit->Act->World->Prop}{md:Region.Mode}{S:World->Prop}{st:Nat}{i:Nat}{oi:Oper}{v:Value}{fuel:Nat}{listed:Array Bool}{a:Act}{w:World}(hi:ops[i]?=some oi)(hs:Region.noSelect ops=true)(hf:Region.free md ops listed i=true)(hr:(Region.ready md ops listed).contains i=true)(hc:rZ md ops listed=true)(hw:Yf md ops i 30 st=true)(hQ:∀c a w,Q (.panic c) (a.put oi.dst v) w->Q (.panic c) a w)(hy:YieldsIf P ops S oi v a)(hS:S w)(h:Rq P md ops Q S st fuel (listed.setIfInBounds i true) (a.put oi.dst v) w):Rq P md ops Q S st (fuel+1) listed a w :=qV hi (Region.noSelect_spec hs) hQ ⟨30,hw⟩ fuel listed a w (Region.free_spec hi hf) (by simpa using hr) (dO hc) hy hS h
theorem Qb{P:Program}{ops:Array Oper}{Q:Exit->Act->World->Prop}{md:Region.Mode}{S:World->Prop}{st:Nat}{i:Nat}{o:Oper}{fuel:Nat}{listed:Array Bool}{a:Act}{w:World}(hr:Region.ready md ops listed=[i])(ho:ops[i]?=some o)(h:∀K':Act->World->Prop,Shut (∀a w,(i≠st->S w)->Rq P md ops Q S st fuel (listed.setIfInBounds i true) a w->K' a w)->if Region.wanted o (yielded ops a.tmps)=true then Oper.wp P o a w K' Q else K' (a.put o.dst undef) w): Rq P md ops Q S st (fuel+1) listed a w :=⟨fun h0=>(by rw[hr]at h0;cases h0),fun j hj=>by
  rw[hr,List.mem_singleton]at hj;subst hj;exact wpOp_step ho (fun K' hK=>h K' (fun a w hS hW=>hK a w ⟨hS,hW⟩))⟩
theorem dP{P:Program}{ops:Array Oper}{Q:Exit->Act->World->Prop}{md:Region.Mode}{S:World->Prop}{st:Nat}{listed:Array Bool}{a:Act}{w:World}(hr:Region.ready md ops listed=[])(h:Q .normal a w): ∀fuel,Rq P md ops Q S st fuel listed a w
 |0=>⟨hr,h⟩
 |_+1=>⟨fun _=>h,by rw[hr];simp⟩
theorem Vf{P:Program}{ops:Array Oper}{Q:Exit->Act->World->Prop}{id:Nat}{a:Act}{w:World}(S:World->Prop)(st:Nat)(hm:P.follows .mixedOrders=true)(h:Rq P .any ops Q S st ops.size (Array.replicate ops.size false) a w.drew):(Code.region id ops true).wp P Q a w:=
 wp_region_any hm (Wq _ _ _ _ h)
open Go.RowKit Go.Maps
theorem pK(w:World)(S m:Nat)(be:Option Nat)(c:Bo)(np:Bool)(h:SB w S 1 (some m) be c np): Calls Tryz.prog 73 #[.pointer (some ⟨S,0,none⟩)] w fun r w'=>r=.returned (.tuple #[])/\w'=w:=by
 have heq:=run_eql_map_nil (P:=Tryz.prog) w 84 9 30 (some m) Tryz.underlying84;obtain⟨c0,c2,c3,c4,c5,c6,c7⟩:=h.cs;go_enter Tryz.func73,Tryz.ntmps73;go_wp2;go_end0;exact⟨rfl,rfl⟩
theorem Qd8{c:Bo}(h:Vk c=false):Ri c=c:=by
 rcases c with _|⟨_|n,f⟩;.rfl
 .rfl
 cases h
theorem Qa1(w:World)(S:Nat)(sh be:Option Nat)(c:Bo)(np:Bool)(h:SB w S 1 sh be c np)(hp:Vk c=false)(kd:Int)(path bytes:ByteArray): Calls Tryz.prog 76 #[.pointer (some ⟨S,0,none⟩),.agg #[.int .i64 kd,.string path,.string bytes]] w fun r w'=>r=.returned (.bool false)/\SB w' S 1 sh be c np/\Touch (fun k=>k=S) w w':=by
 have ta:Touch (fun k=>k=S) w (w.alloc (.cells #[.int .i64 kd,.string path,.string bytes] 161)):=(Touch.refl _ _).alloc _;have h1:=h.keep ((Touch.refl (fun _=>False) w).alloc (.cells #[.int .i64 kd,.string path,.string bytes] 161)) (fun e=>e);go_enter Tryz.func76,Tryz.ntmps76;go_wp2_with (go_at_call 129;refine(Zw _ S 1 sh be c np h1).mono ?_;rintro e w2 ⟨rfl,h2,t2⟩;rw[Qd8 hp]at h2;rw[hp]);go_ret;exact⟨rfl,h2,ta.trans t2⟩
theorem Qaj(w:World)(S b n:Nat)(f:List UInt8->Option Value)(sh:Option Nat)(c:Bo)(np:Bool)(h:SB w S 1 sh (some b) c np)(hb:Ap w b n f)(hn:n<maxLen)(hp:Vk c=true)(kd:Int)(hk:kd=0\/kd=1)(path bytes:ByteArray)(hpa:path.size<=maxLen): Calls Tryz.prog 76 #[.pointer (some ⟨S,0,none⟩),.agg #[.int .i64 kd,.string path,.string bytes]] w fun r w'=>r=.returned (.bool true)/\SB w' S 1 sh (some b) (Ri c) np/\Ap w' b (n+1) (Jf f path.data.toList (some Qn))/\Touch (fun k=>k=S\/k=b) w w':=by
 have ta:Touch (fun _=>False) w (w.alloc (.cells #[.int .i64 kd,.string path,.string bytes] 161)):=(Touch.refl _ _).alloc _;have h1:=h.keep ta (fun e=>e);have hb1:=hb.keep ta (fun e=>e);have hne:=hb.Gf h.hp;have hlt:=h.lt;have bx:(w.alloc (.cells #[.int .i64 kd,.string path,.string bytes] 161)).heap[w.heap.size]?=some (.cells #[.int .i64 kd,.string path,.string bytes] 161 (0,0)):=heap_alloc_new w _;have x0:=Ac bx 0;have x1:=Ac bx 1;have sne:¬w.heap.size=S:=by omega
 have HB:Hid (n<maxLen):=hn;clear hn bx;rcases hk with rfl|rfl;all_goals
  go_enter Tryz.func76,Tryz.ntmps76;go_wp2_with (go_at_call 129;refine(Zw _ S 1 sh (some b) c np h1).mono ?_;rintro e w2 ⟨rfl,h2,t2⟩;rw[hp];have y0:=t2.at x0 sne;have y1:=t2.at x1 sne;have hb2:=hb1.keep t2 hne;obtain⟨d0,d2,d3,d4,d5,d6,d7⟩:=h2.cs);obtain⟨w3,hput,hb3,hg3⟩:=Ap.put (w:=w2.drew) hb2 Tryz.underlying86 path hpa HB.out Qn;go_region;all_goals
   go_wp2;go_ret;exact⟨rfl,h2.keep ((Touch.refl (fun k=>k=b) w2).drew.trans (Touch.turned hg3)) (fun e=>hne e.symm),hb3,((ta.wide (fun k e=>e.elim)).trans (t2.wide (fun k e=>Or.inl e))).trans (((Touch.refl _ w2).drew.trans (Touch.turned hg3)).wide (fun k e=>Or.inr e))⟩
theorem fU{P:Program}{o:Oper}{a:Act}{w:World}{K:Act->World->Prop}{Q:Exit->Act->World->Prop}(s x:Operand)(t tx:TypeId)(hop:o.op=.call { callee:=.builtin .append,args:=#[s,x],argTypes:=#[t,tx] })(base:Nat)(e:TypeId)(i:TypeInfo)(z:Value)(bytes:Nat)(h1:P.underlying t=some (.slice e))(h2:P.info? e=some i)(h3:i.zero=some z)(h4:i.size=1)(h5:i.bytes=bytes)(h6:z.cells.size=1)(v:Value)(n:Nat)(xs:List Value)(hv:a.eval s=v)(hown:w.ownsRow base e 1 v n xs)(y:Value)(m:Nat)(news:List Value)(hy:a.eval x=y)(hs:Src P 1 tx y m news w)(b1:n+m<=maxLen)(b2:(n+m)*bytes<=140737488355328)(b3:base<=w.heap.size)(h:∀v' w',w'.ownsRow base e 1 v' (n+m) (xs++news)->w.grownBy w' v.ownBlock->K (a.put o.dst v') w'):Oper.wp P o a w K Q:=by
 obtain⟨v',w',hrun,r1,r2⟩:=Ky (P:=P) w base t tx o.type e i z bytes h1 h2 h3 h4 h5 h6 v n xs hown y m news hs b1 b2 b3;unfold Oper.wp;simp[execOp,hop,resolve,invoke,builtin,hv,hy,hrun,Result.andThen];exact h v' w' r1 r2
theorem wB(s:ByteArray):byteCells s=Dy s.data.toList:=rfl
theorem Kq{w:World}{base:Nat}{e:TypeId}{size:Nat}{v:Value}{n:Nat}{xs:List Value}(h:w.ownsRow base e size v n xs){k:Nat}(hk:v.ownBlock=some k):∃cs z,w.heap[k]?=some (.cells cs e z):=by
 obtain⟨_,⟨h2,h3⟩|⟨g,cap,cur,e1,hb,hg,_⟩⟩:=h;.rw[h2]at hk;cases hk
 rw[e1]at hk;cases hk;exact⟨_,_,hg⟩
theorem Qex(w:World):(zeroValue 114).run Tryz.prog w=.ok Qn w:=by kernel_rfl
theorem Qdy(w:World)(S b n lim len:Nat)(f:List UInt8->Option Value)(v:Value)(bs:List UInt8)(sh:Option Nat)(c:Bo)(np:Bool)(h:SB w S 1 sh (some b) c np)(hb:Ap w b n f)(hn:n<maxLen)(hp:Vk c=true)(path bytes:ByteArray)(hpa:path.size<=maxLen)(hf:f path.data.toList=some v)(hown:w.ownsRow lim 5 1 v len (Dy bs))(hlim:lim<=w.heap.size)(hS:S<lim)(hlen:len+bytes.size<=140737488355328): Calls Tryz.prog 76 #[.pointer (some ⟨S,0,none⟩),.agg #[.int .i64 2,.string path,.string bytes]] w fun r w'=>r=.returned (.bool true)/\SB w' S 1 sh (some b) (Ri c) np/\∃v',Ap w' b n (Jf f path.data.toList (some v'))/\w'.ownsRow lim 5 1 v' (len+bytes.size) (Dy (bs++bytes.data.toList))/\Touch (fun k=>k=S\/k=b\/v.ownBlock=some k) w w':=by
 obtain⟨i0,hi,hz0,hz1,hz2⟩:=info_parts Tryz.infoByte;have ta:Touch (fun _=>False) w (w.alloc (.cells #[.int .i64 2,.string path,.string bytes] 161)):=(Touch.refl _ _).alloc _;have h1:=h.keep ta (fun e=>e);have hb1:=hb.keep ta (fun e=>e);have ho1:=ta.owns hown (fun _ _ e=>e);have hne:=hb.Gf h.hp;have hlt:=h.lt;have hblt:=hb.lt;have hbo:v.ownBlock≠some b:=fun e=>by
  obtain⟨g1,g2,g3⟩:=Kq hown e;exact hb.Gf g3 rfl
 have bx:(w.alloc (.cells #[.int .i64 2,.string path,.string bytes] 161)).heap[w.heap.size]?=some (.cells #[.int .i64 2,.string path,.string bytes] 161 (0,0)):=heap_alloc_new w _;have x0:=Ac bx 0;have x1:=Ac bx 1;have x2:=Ac bx 2;have sne:¬w.heap.size=S:=by omega
 have HB:Hid (n<maxLen):=hn;have HO:Hid (∀k,v.ownBlock=some k->lim<=k/\k<w.heap.size):=fun k hk=>hown.lt k hk;clear hn bx;go_enter Tryz.func76,Tryz.ntmps76;go_wp2_with (go_at_call 129;refine(Zw _ S 1 sh (some b) c np h1).mono ?_;rintro e w2 ⟨rfl,h2,t2⟩;rw[hp];have y0:=t2.at x0 sne;have y1:=t2.at x1 sne;have y2:=t2.at x2 sne;have hb2:=hb1.keep t2 hne;obtain⟨d0,d2,d3,d4,d5,d6,d7⟩:=h2.cs);have ho2:w2.ownsRow lim 5 1 v len (Dy bs):=t2.owns ho1 (fun k hk e=>by have h1:=HO.out k hk;have h2:k=S:=e;omega);have hlook:(Instr.lookup 86 (.map (some b)) (.string path) false).run Tryz.prog w2.drew=.ok v w2.drew:=by
  have:=Ap.get (w:=w2.drew) hb2 Tryz.underlying86 (Qex _) path hpa;rw[hf]at this;exact this
 have hsz:=t2.size;rw[World.size_alloc]at hsz;have CB:w2.drew.cell? ⟨S,3,none⟩=some (.map (some b))/\w2.drew.cell? ⟨w.heap.size,1,none⟩=some (.string path)/\w2.drew.cell? ⟨w.heap.size,2,none⟩=some (.string bytes):=⟨d3,y1,y2⟩;refine Vf (fun X=>X.cell? ⟨S,3,none⟩=some (.map (some b))/\X.cell? ⟨w.heap.size,1,none⟩=some (.string path)/\X.cell? ⟨w.heap.size,2,none⟩=some (.string bytes)) 16 (by kernel_rfl) ?_;refine Bh (i:=0) (v:=?va0) rfl (by kernel_rfl) (by kernel_rfl) (by kernel_rfl) (by kernel_rfl) (by kernel_rfl) (fun _ _ _ h=>h) (Or.inl ⟨by rfl,?hya0⟩) CB ?resta0
 case hya0=>((intro wx hSw;(try dsimp only at hSw);(try obtain⟨hs1,hs2,hs3⟩:=hSw);go_simp)<;>(with_reducible rfl))
 try simp only[Act.put,List.setIfInBounds_toArray,List.set_cons_zero,List.set_cons_succ]
 refine Bh (i:=1) (v:=?va1) rfl (by kernel_rfl) (by kernel_rfl) (by kernel_rfl) (by kernel_rfl) (by kernel_rfl) (fun _ _ _ h=>h) (Or.inl ⟨by rfl,?hya1⟩) CB ?resta1
 case hya1=>((intro wx hSw;(try dsimp only at hSw);(try obtain⟨hs1,hs2,hs3⟩:=hSw);go_simp)<;>(with_reducible rfl))
 try simp only[Act.put,List.setIfInBounds_toArray,List.set_cons_zero,List.set_cons_succ]
 refine Bh (i:=2) (v:=?va2) rfl (by kernel_rfl) (by kernel_rfl) (by kernel_rfl) (by kernel_rfl) (by kernel_rfl) (fun _ _ _ h=>h) (Or.inl ⟨by rfl,?hya2⟩) CB ?resta2
 case hya2=>((intro wx hSw;(try dsimp only at hSw);(try obtain⟨hs1,hs2,hs3⟩:=hSw);go_simp)<;>(with_reducible rfl))
 try simp only[Act.put,List.setIfInBounds_toArray,List.set_cons_zero,List.set_cons_succ]
 refine Bh (i:=3) (v:=?va3) rfl (by kernel_rfl) (by kernel_rfl) (by kernel_rfl) (by kernel_rfl) (by kernel_rfl) (fun _ _ _ h=>h) (Or.inl ⟨by rfl,?hya3⟩) CB ?resta3
 case hya3=>((intro wx hSw;(try dsimp only at hSw);(try obtain⟨hs1,hs2,hs3⟩:=hSw);go_simp)<;>(with_reducible rfl))
 try simp only[Act.put,List.setIfInBounds_toArray,List.set_cons_zero,List.set_cons_succ]
 refine Bh (i:=4) (v:=?va4) rfl (by kernel_rfl) (by kernel_rfl) (by kernel_rfl) (by kernel_rfl) (by kernel_rfl) (fun _ _ _ h=>h) (Or.inl ⟨by rfl,?hya4⟩) CB ?resta4
 case hya4=>((intro wx hSw;(try dsimp only at hSw);(try obtain⟨hs1,hs2,hs3⟩:=hSw);go_simp)<;>(with_reducible rfl))
 try simp only[Act.put,List.setIfInBounds_toArray,List.set_cons_zero,List.set_cons_succ]
 refine Bh (i:=5) (v:=?va5) rfl (by kernel_rfl) (by kernel_rfl) (by kernel_rfl) (by kernel_rfl) (by kernel_rfl) (fun _ _ _ h=>h) (Or.inl ⟨by rfl,?hya5⟩) CB ?resta5
 case hya5=>((intro wx hSw;(try dsimp only at hSw);(try obtain⟨hs1,hs2,hs3⟩:=hSw);go_simp)<;>(with_reducible rfl))
 try simp only[Act.put,List.setIfInBounds_toArray,List.set_cons_zero,List.set_cons_succ]
 refine Bh (i:=6) (v:=?va6) rfl (by kernel_rfl) (by kernel_rfl) (by kernel_rfl) (by kernel_rfl) (by kernel_rfl) (fun _ _ _ h=>h) (Or.inl ⟨by rfl,?hya6⟩) CB ?resta6
 case hya6=>((intro wx hSw;(try dsimp only at hSw);(try obtain⟨hs1,hs2,hs3⟩:=hSw);go_simp)<;>(with_reducible rfl))
 try simp only[Act.put,List.setIfInBounds_toArray,List.set_cons_zero,List.set_cons_succ]
 refine Bh (i:=7) (v:=?va7) rfl (by kernel_rfl) (by kernel_rfl) (by kernel_rfl) (by kernel_rfl) (by kernel_rfl) (fun _ _ _ h=>h) (Or.inl ⟨by rfl,?hya7⟩) CB ?resta7
 case hya7=>((intro wx hSw;(try dsimp only at hSw);(try obtain⟨hs1,hs2,hs3⟩:=hSw);go_simp)<;>(with_reducible rfl))
 try simp only[Act.put,List.setIfInBounds_toArray,List.set_cons_zero,List.set_cons_succ]
 refine Bh (i:=8) (v:=?va8) rfl (by kernel_rfl) (by kernel_rfl) (by kernel_rfl) (by kernel_rfl) (by kernel_rfl) (fun _ _ _ h=>h) (Or.inl ⟨by rfl,?hya8⟩) CB ?resta8
 case hya8=>((intro wx hSw;(try dsimp only at hSw);(try obtain⟨hs1,hs2,hs3⟩:=hSw);go_simp)<;>(with_reducible rfl))
 try simp only[Act.put,List.setIfInBounds_toArray,List.set_cons_zero,List.set_cons_succ]
 refine Bh (i:=9) (v:=?va9) rfl (by kernel_rfl) (by kernel_rfl) (by kernel_rfl) (by kernel_rfl) (by kernel_rfl) (fun _ _ _ h=>h) (Or.inl ⟨by rfl,?hya9⟩) CB ?resta9
 case hya9=>((intro wx hSw;(try dsimp only at hSw);(try obtain⟨hs1,hs2,hs3⟩:=hSw);go_simp)<;>(with_reducible rfl))
 try simp only[Act.put,List.setIfInBounds_toArray,List.set_cons_zero,List.set_cons_succ]
 refine Bh (i:=10) (v:=?va10) rfl (by kernel_rfl) (by kernel_rfl) (by kernel_rfl) (by kernel_rfl) (by kernel_rfl) (fun _ _ _ h=>h) (Or.inl ⟨by rfl,?hya10⟩) CB ?resta10
 case hya10=>((intro wx hSw;(try dsimp only at hSw);(try obtain⟨hs1,hs2,hs3⟩:=hSw);go_simp)<;>(with_reducible rfl))
 try simp only[Act.put,List.setIfInBounds_toArray,List.set_cons_zero,List.set_cons_succ]
 refine Bh (i:=11) (v:=?va11) rfl (by kernel_rfl) (by kernel_rfl) (by kernel_rfl) (by kernel_rfl) (by kernel_rfl) (fun _ _ _ h=>h) (Or.inl ⟨by rfl,?hya11⟩) CB ?resta11
 case hya11=>((intro wx hSw;(try dsimp only at hSw);(try obtain⟨hs1,hs2,hs3⟩:=hSw);go_simp)<;>(with_reducible rfl))
 try simp only[Act.put,List.setIfInBounds_toArray,List.set_cons_zero,List.set_cons_succ]
 refine Bh (i:=13) (v:=?va13) rfl (by kernel_rfl) (by kernel_rfl) (by kernel_rfl) (by kernel_rfl) (by kernel_rfl) (fun _ _ _ h=>h) (Or.inl ⟨by rfl,?hya13⟩) CB ?resta13
 case hya13=>((intro wx hSw;(try dsimp only at hSw);(try obtain⟨hs1,hs2,hs3⟩:=hSw);go_simp)<;>(with_reducible rfl))
 try simp only[Act.put,List.setIfInBounds_toArray,List.set_cons_zero,List.set_cons_succ]
 refine Bh (i:=14) (v:=?va14) rfl (by kernel_rfl) (by kernel_rfl) (by kernel_rfl) (by kernel_rfl) (by kernel_rfl) (fun _ _ _ h=>h) (Or.inl ⟨by rfl,?hya14⟩) CB ?resta14
 case hya14=>((intro wx hSw;(try dsimp only at hSw);(try obtain⟨hs1,hs2,hs3⟩:=hSw);go_simp)<;>(with_reducible rfl))
 try simp only[Act.put,List.setIfInBounds_toArray,List.set_cons_zero,List.set_cons_succ]
 refine Qb (i:=12) (by kernel_rfl) rfl (fun K hK=>?_);go_simp;refine hK.out _ _ (fun _=>CB) ?_;clear hK K;try simp only[Act.put,List.setIfInBounds_toArray,List.set_cons_zero,List.set_cons_succ]
 refine Qb (i:=15) (by kernel_rfl) rfl (fun K hK=>?_);rw[if_pos (by rfl)];refine fU (.tmp 35) (.tmp 37) 114 9 rfl lim 5 i0 (.int .u8 0) 1 Tryz.underlying114 hi hz0 hz1 hz2 rfl v len (Dy bs) rfl ho2.drew (.string bytes) bytes.size (byteCells bytes) rfl (Src.ofString _ Tryz.underlying9 bytes) (by unfold maxLen;omega) (by omega) (by show lim<=w2.heap.size;omega) ?_;intro v' w4 hown' hgrow;rw[wB,<-Xc]at hown';have t4:Touch (fun k=>v.ownBlock=some k) w2 w4:=(Touch.refl _ w2).drew.grown hgrow (fun k hk=>hk);have nS:¬v.ownBlock=some S:=fun e=>by have:=HO.out S e;omega
 have nX:¬v.ownBlock=some w.heap.size:=fun e=>by have:=HO.out _ e;omega
 replace CB:w4.cell? ⟨S,3,none⟩=some (.map (some b))/\w4.cell? ⟨w.heap.size,1,none⟩=some (.string path)/\w4.cell? ⟨w.heap.size,2,none⟩=some (.string bytes):=⟨t4.at d3 nS,t4.at y1 nX,t4.at y2 nX⟩;have hb4:=hb2.keep t4 hbo;have h4:=h2.keep t4 nS;refine hK.out _ _ (fun _=>CB) ?_;clear hK K;try simp only[Act.put,List.setIfInBounds_toArray,List.set_cons_zero,List.set_cons_succ]
 obtain⟨w5,hput,hb5,hg5⟩:=hb4.Qhv Tryz.underlying86 path hpa HB.out v' (by rw[hf];rfl);refine Qb (i:=16) (by kernel_rfl) rfl (fun K hK=>?_);go_simp;refine hK.out _ _ (fun h=>absurd rfl h) ?_;clear hK K;try simp only[Act.put,List.setIfInBounds_toArray,List.set_cons_zero,List.set_cons_succ]
 refine dP (by kernel_rfl) ?_ _;have t5:=Touch.turned hg5;have hvb:∀k,v'.ownBlock=some k->¬k=b:=fun k hk e=>by
  subst e;obtain⟨g1,g2,g3⟩:=Kq hown' hk;exact hb4.Gf g3 rfl
 go_wp2;go_ret;exact⟨rfl,h4.keep t5 (fun e=>hne e.symm),v',hb5,t5.owns hown' hvb,(((ta.wide (fun k e=>e.elim)).trans (t2.wide (fun k e=>Or.inl e))).trans (t4.wide (fun k e=>Or.inr (Or.inr e)))).trans (t5.wide (fun k e=>Or.inr (Or.inl e)))⟩
end Go.Proofs.YtmhlkdlcpicekaaGreatDoor
