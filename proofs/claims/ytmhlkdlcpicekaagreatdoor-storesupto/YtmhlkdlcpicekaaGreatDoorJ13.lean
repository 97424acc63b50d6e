/- Joined. -/
import Derived.Test.YtmhlkdlcpicekaaGreatDoorJ12
set_option linter.unusedSimpArgs false
set_option linter.unusedVariables false
set_option maxRecDepth 100000
set_option maxHeartbeats 20000000
namespace Go.Proofs.YtmhlkdlcpicekaaGreatDoor
open Go.RowKit
/-! ### Names -/
def Vg(p:List UInt8)(i n:Nat)(x:List UInt8):Prop:=∃j,i<=j/\j<i+n/\p[j]?=some 47/\x=p.take j
theorem Qa0(p:List UInt8)(i j:Nat)(h:i<j)(hj:p[j]?=some 47):p.take j≠p.take i:=by
 intro e;have hl:=(List.getElem?_eq_some_iff.1 hj).1;have:=congrArg List.length e;simp only[List.length_take]at this;omega
theorem Qx(p:List UInt8):∀(f i:Nat) (U:List UInt8->Nat),Iu p f i U=none↔∃x,Vg p i f x/\U x=3
 |0,i,U=>by
  simp only[Iu,Vg];constructor;.intro h;cases h
  rintro⟨x,⟨j,h1,h2,_⟩,_⟩;omega
 |f+1,i,U=>by
  unfold Iu;by_cases h47:p[i]?=some 47
  .rw[if_pos h47];by_cases h3:U (p.take i)=3
   .rw[if_pos h3];exact⟨fun _=>⟨p.take i,⟨i,Nat.le_refl _,by omega,h47,rfl⟩,h3⟩,fun _=>rfl⟩
   rw[if_neg h3,Qx p f (i+1)];constructor
   .rintro⟨x,⟨j,h1,h2,h4,rfl⟩,hx⟩;unfold Vr at hx;rw[if_neg (Qa0 p i j (by omega) h4)]at hx;exact⟨_,⟨j,by omega,by omega,h4,rfl⟩,hx⟩
   rintro⟨x,⟨j,h1,h2,h4,rfl⟩,hx⟩;have hne:i≠j:=fun e=>by rw[<-e]at hx;exact h3 hx
   refine⟨_,⟨j,by omega,by omega,h4,rfl⟩,?_⟩;unfold Vr;rw[if_neg (Qa0 p i j (by omega) h4)];exact hx
  rw[if_neg h47,Qx p f (i+1)];constructor
  .rintro⟨x,⟨j,h1,h2,h4,rfl⟩,hx⟩;exact⟨_,⟨j,by omega,by omega,h4,rfl⟩,hx⟩
  rintro⟨x,⟨j,h1,h2,h4,rfl⟩,hx⟩;have hne:i≠j:=fun e=>by rw[<-e]at h4;exact h47 h4
  exact⟨_,⟨j,by omega,by omega,h4,rfl⟩,hx⟩
open Classical in
theorem Rf(p:List UInt8):∀(f i:Nat) (U V:List UInt8->Nat),Iu p f i U=some V->∀x,V x=if Vg p i f x then max (U x) 1 else U x
 |0,i,U,V,h,x=>by
  cases h;rw[if_neg];rintro⟨j,h1,h2,_⟩;omega
 |f+1,i,U,V,h,x=>by
  unfold Iu at h;by_cases h47:p[i]?=some 47
  .rw[if_pos h47]at h;by_cases h3:U (p.take i)=3;.rw[if_pos h3]at h;cases h
   rw[if_neg h3]at h;rw[Rf p f (i+1) _ V h x];unfold Vr;by_cases hx:x=p.take i
   .have hr:Vg p i (f+1) x:=⟨i,Nat.le_refl _,by omega,h47,hx⟩;rw[if_pos hx,<-hx,if_pos hr];split<;>omega
   rw[if_neg hx];have e:Vg p (i+1) f x↔Vg p i (f+1) x:=by
    constructor;.rintro⟨j,h1,h2,h4,h5⟩;exact⟨j,by omega,by omega,h4,h5⟩
    rintro⟨j,h1,h2,h4,h5⟩;have hne:i≠j:=fun e=>by rw[<-e]at h5;exact hx h5
    exact⟨j,by omega,by omega,h4,h5⟩
   by_cases hr:Vg p i (f+1) x;.rw[if_pos hr,if_pos (e.2 hr)]
   rw[if_neg hr,if_neg (fun h=>hr (e.1 h))]
  rw[if_neg h47]at h;rw[Rf p f (i+1) _ V h x];have e:Vg p (i+1) f x↔Vg p i (f+1) x:=by
   constructor;.rintro⟨j,h1,h2,h4,h5⟩;exact⟨j,by omega,by omega,h4,h5⟩
   rintro⟨j,h1,h2,h4,h5⟩;have hne:i≠j:=fun e=>by rw[<-e]at h4;exact h47 h4
   exact⟨j,by omega,by omega,h4,h5⟩
  by_cases hr:Vg p i (f+1) x;.rw[if_pos hr,if_pos (e.2 hr)]
  rw[if_neg hr,if_neg (fun h=>hr (e.1 h))]
theorem Ub(p x:List UInt8):Vg p 0 p.length x↔Fg x p=true:=by
 unfold Vg Fg;rw[List.isPrefixOf_iff_prefix];constructor
 .rintro⟨j,_,h2,h4,rfl⟩;have hl:j<p.length:=by omega
  obtain⟨hl',he⟩:=List.getElem?_eq_some_iff.1 h4;have:p.take j++[47]=p.take (j+1):=by rw[List.take_succ_eq_append_getElem hl,he]
  rw[this];exact List.take_prefix _ _
 rintro⟨t,rfl⟩;refine⟨x.length,Nat.zero_le _,by simp,?_,?_⟩;.simp
 simp
theorem iP(p:List UInt8):Fg p p=false:=by
 cases h:Fg p p with
 |false=>rfl
 |true=>
  unfold Fg at h;rw[List.isPrefixOf_iff_prefix]at h;have:=h.length_le;simp at this;omega
structure Rep (S:List ByteArray) (U:List UInt8->Nat):Prop where
 three:∀x,U x=3↔∃a∈S,Ak a=x/\Aj a=false
 two:∀x,2<=U x↔∃a∈S,Ak a=x
 one:∀x,1<=U x↔∃a∈S,Ak a=x\/Fg x (Ak a)=true
 most:∀x,U x<=3
theorem Rep.nil:Rep [] (fun _=>0):=⟨fun x=>by simp,fun x=>by simp,fun x=>by simp,fun x=>by simp⟩
theorem jC{S:List ByteArray}{U:List UInt8->Nat}(h:Rep S U)(s:ByteArray):Jv U s=none↔S.any (fun a=>Dj a s)=true:=by
 have key:Jv U s=none↔(∃x,Fg x (Ak s)=true/\U x=3)\/1<U (Ak s)\/(U (Ak s)=1/\Aj s=false):=by
  unfold Jv;cases hl:Iu (Ak s) (Ak s).length 0 U with
  |none=>
   have:=(Qx _ _ _ _).1 hl;obtain⟨x,h1,h2⟩:=this;exact⟨fun _=>.inl ⟨x,(Ub _ _).1 h1,h2⟩,fun _=>rfl⟩
  |some V=>
   have hV:=Rf _ _ _ _ _ hl (Ak s);rw[if_neg (by rw[Ub,iP];simp)]at hV;have hn:¬∃x,Fg x (Ak s)=true/\U x=3:=by
    rintro⟨x,h1,h2⟩;have:=(Qx (Ak s) (Ak s).length 0 U).2 ⟨x,(Ub _ _).2 h1,h2⟩;rw[hl]at this;cases this
   simp only[Option.bind_some,hV];constructor
   .intro h;split at h;.rename_i hc;exact .inr hc
    cases h
   rintro(h|h);.exact absurd h hn
   rw[if_pos h]
 rw[key,List.any_eq_true];have a2:=h.two (Ak s);have a1:=h.one (Ak s);constructor
 .rintro(⟨x,h1,h2⟩|h1|⟨h1,h2⟩)
  .obtain⟨a,ha,rfl,hf⟩:=(h.three x).1 h2;exact⟨a,ha,by unfold Dj;simp[h1,hf]⟩
  .obtain⟨a,ha,hb⟩:=a2.1 h1;exact⟨a,ha,by unfold Dj;simp[hb]⟩
  obtain⟨a,ha,hb⟩:=a1.1 (by omega);exact⟨a,ha,by unfold Dj;rcases hb with hb|hb<;>simp[hb,h2]⟩
 rintro⟨a,ha,hc⟩;unfold Dj at hc;simp only[Bool.or_eq_true,Bool.and_eq_true,Bool.not_eq_true',decide_eq_true_eq]at hc;rcases hc with(hc|⟨hc,hf⟩)|⟨hc,hf⟩;.exact .inr (.inl (a2.2 ⟨a,ha,hc⟩))
 .exact .inl ⟨Ak a,hc,(h.three _).2 ⟨a,ha,rfl,hf⟩⟩
 have:=a1.2 ⟨a,ha,.inr hc⟩;by_cases hg:1<U (Ak s);.exact .inr (.inl hg)
 exact .inr (.inr ⟨by omega,hf⟩)
theorem yI{S:List ByteArray}{U V:List UInt8->Nat}(h:Rep S U)(s:ByteArray)(hc:Jv U s=some V):Rep (S++[s]) V:=by
 unfold Jv at hc;cases hl:Iu (Ak s) (Ak s).length 0 U with
 |none=>rw[hl]at hc;cases hc
 |some V0=>
  rw[hl]at hc;simp only[Option.bind_some]at hc;split at hc;.cases hc
  rename_i hn;cases hc;have hV:∀x,(Fg x (Ak s)=true/\V0 x=max (U x) 1)\/(Fg x (Ak s)=false/\V0 x=U x):=by
   intro x;have:=Rf _ _ _ _ _ hl x;cases hx:Fg x (Ak s)with
   |true=>rw[if_pos ((Ub _ _).2 hx)]at this;exact .inl ⟨rfl,this⟩
   |false=>rw[if_neg (by rw[Ub,hx];simp)]at this;exact .inr ⟨rfl,this⟩
  have h0:U (Ak s)<=1:=by
   rcases hV (Ak s)with⟨h1,_⟩|⟨_,h1⟩;.rw[iP]at h1;cases h1
   rw[h1]at hn;apply Classical.byContradiction;intro h2;exact hn (.inl (by omega))
  have hno:¬∃a∈S,Ak a=Ak s:=fun e=>by have:=(h.two _).2 e;omega
  refine⟨fun x=>?_,fun x=>?_,fun x=>?_,fun x=>?_⟩<;>unfold Vr
  .by_cases hx:x=Ak s
   .rw[if_pos hx];cases hf:Aj s with
    |true=>
     simp only[if_true];constructor;.intro e;omega
     rintro⟨a,ha,hb,hg⟩;rw[List.mem_append]at ha;rcases ha with ha|ha;.exact absurd ⟨a,ha,hb.trans hx⟩ hno
     simp at ha;rw[ha,hf]at hg;cases hg
    |false=>
     simp only[Bool.false_eq_true,if_false];exact⟨fun _=>⟨s,by simp,hx.symm,hf⟩,fun _=>trivial⟩
   rw[if_neg hx];have e:V0 x=3↔U x=3:=by rcases hV x with⟨_,h1⟩|⟨_,h1⟩<;>rw[h1]<;>omega
   rw[e,h.three x];constructor;.rintro⟨a,ha,hb⟩;exact⟨a,List.mem_append_left _ ha,hb⟩
   rintro⟨a,ha,hb,hg⟩;rw[List.mem_append]at ha;rcases ha with ha|ha;.exact⟨a,ha,hb,hg⟩
   simp at ha;rw[ha]at hb;exact absurd hb.symm hx
  .by_cases hx:x=Ak s
   .rw[if_pos hx];exact⟨fun _=>⟨s,by simp,hx.symm⟩,fun _=>by split<;>omega⟩
   rw[if_neg hx];have e:2<=V0 x↔2<=U x:=by rcases hV x with⟨_,h1⟩|⟨_,h1⟩<;>rw[h1]<;>omega
   rw[e,h.two x];constructor;.rintro⟨a,ha,hb⟩;exact⟨a,List.mem_append_left _ ha,hb⟩
   rintro⟨a,ha,hb⟩;rw[List.mem_append]at ha;rcases ha with ha|ha;.exact⟨a,ha,hb⟩
   simp at ha;rw[ha]at hb;exact absurd hb.symm hx
  .by_cases hx:x=Ak s
   .rw[if_pos hx];exact⟨fun _=>⟨s,by simp,.inl hx.symm⟩,fun _=>by split<;>omega⟩
   rw[if_neg hx];have e:1<=V0 x↔Fg x (Ak s)=true\/1<=U x:=by
    rcases hV x with⟨h2,h1⟩|⟨h2,h1⟩;.rw[h1,h2];simp;omega
    rw[h1,h2];simp
   rw[e,h.one x];constructor
   .rintro(h1|⟨a,ha,hb⟩);.exact⟨s,by simp,.inr h1⟩
    exact⟨a,List.mem_append_left _ ha,hb⟩
   rintro⟨a,ha,hb⟩;rw[List.mem_append]at ha;rcases ha with ha|ha;.exact .inr ⟨a,ha,hb⟩
   simp at ha;rw[ha]at hb;rcases hb with hb|hb;.exact absurd hb.symm hx
   exact .inl hb
  split;.split<;>omega
  have:=h.most x;rcases hV x with⟨_,h1⟩|⟨_,h1⟩<;>rw[h1]<;>omega
theorem iH:∀(L:List Ai) (S:List ByteArray) (U:List UInt8->Nat),Rep S U->Md L U=((L.any fun x=>S.any fun a=>Dj a x.Af.name)||Bl (fun a b=>Dj a.name b.name) (L.map (·.Af)))
 | [],S,U,_=>rfl
 |x::l,S,U,h=>by
  unfold Md;cases hc:Jv U x.Af.name with
  |none=>
   have:=(jC h x.Af.name).1 hc;simp[this]
  |some V=>
   have hf:(S.any fun a=>Dj a x.Af.name)=false:=by
    cases e:(S.any fun a=>Dj a x.Af.name)with
    |false=>rfl
    |true=>rw[(jC h x.Af.name).2 e]at hc;cases hc
   simp only[];rw[iH l (S++[x.Af.name]) V (yI h _ hc)];simp only[List.any_cons,hf,Bool.false_or,List.map_cons,Bl,List.any_map];rw[<-Bool.or_assoc];congr 1;simp only[List.any_append,List.any_cons,List.any_nil,Bool.or_false];clear hc hf h
   induction l with
   |nil=>rfl
   |cons y l ih=>
    simp only[List.any_cons,ih,Function.comp];cases (S.any fun a=>Dj a y.Af.name)<;>cases Dj x.Af.name y.Af.name<;>simp
theorem Qfa(L:List Ai):Md L (fun _=>0)=Bl (fun a b=>Dj a.name b.name) (L.map (·.Af)):=by
 rw[iH L [] _ Rep.nil];simp
/-! ### Sums -/
theorem Xn(L:List Ai)(sz:Eo->Nat):sumTo L sz L.length=((L.map (·.Af)).map sz).sum:=by
 unfold sumTo;rw[List.take_length,List.map_map];rfl
/-! ### Spans -/
theorem kR(s:ByteArray)(E:Nat)(hE:E<=s.size):∀L:List Ai,spansOf s E (L.map (·.Af))=if(L.all fun x=>Kr E s x.Af)then some (L.map (lI E s))else none
 | []=>rfl
 |x::l=>by
  simp only[List.map_cons,spansOf,lV s E x.Af hE,kR s E hE l,List.all_cons];cases Kr E s x.Af<;>cases (l.all fun x=>Kr E s x.Af)<;>rfl
theorem Qax:∀L:List Ai,Bl Tc (L.map Hu)=Bl Ot L
 | []=>rfl
 |x::l=>by
  simp only[List.map_cons,Bl,Qax l,List.any_map];rfl
open Go.Shelf Go.Lib
theorem Tryz.Qb9:(Tryz.prog.info? 134).map (fun i=>(i.zero,i.size,i.bytes))=some (some (.agg #[.string ⟨#[]⟩,.int .i64 0,.int .u32 0,.int .i64 0,.int .i64 0,.int .i64 0]),6,56):=by kernel_rfl
def Zf(x:Ai):List Value:=[.string x.Af.name,.int .i64 (x.Af.method:Int),.int .u32 (x.Af.sum:Int),.int .i64 (x.Af.packed:Int),.int .i64 (x.Af.size:Int),.int .i64 (x.place:Int)]
def kV(l:List Ai):List Value:=l.flatMap Zf
theorem Qcr(l:List Ai)(x:Ai):kV (l++[x])=kV l++Zf x:=by simp[kV]
theorem qG(w:World)(s:ByteArray)(hs:s.size<=281474976710656):Calls Tryz.prog 37 #[.string s] w fun e w'=>e=.returned (.string s)/\Touch (fun _=>False) w w':=by
 have hc:=fun W=>Any.stringslite_Clone Tryz.laysM316 s W hs;change∀W,Calls Tryz.prog 77 _ _ _ at hc;have HC:Hid (∀W,Calls Tryz.prog 77 #[.string s] W fun e w'=>e=.returned (.string s)/\Touch (fun _=>False) W w'):=fun W=>(hc W).mono fun e w' h=>⟨h.1,Touch.Lt h.2 _⟩;clear hc;go_enter Tryz.func37,Tryz.ntmps37;go_wp2_with fail;refine(HC.out _).mono ?_;rintro e w' ⟨rfl,t⟩;go_wp2;go_ret;exact⟨rfl,t⟩
theorem qO(w:World)(u0 u1 u2 u3 u4 u5:Value)(t:TypeId):∀(j:Nat) (x:Value),[u0,u1,u2,u3,u4,u5][j]?=some x->(w.alloc (.cells #[u0,u1,u2,u3,u4,u5] t)).cell? ((⟨w.heap.size,0,none⟩:Addr).add j)=some x:=by
 intro j x h;have hb:=heap_alloc_new w (.cells #[u0,u1,u2,u3,u4,u5] t);have hj:j<6:=by
  have:=(List.getElem?_eq_some_iff.1 h).1;simpa using this
 have e:∀i,i<6->(w.alloc (.cells #[u0,u1,u2,u3,u4,u5] t)).cell? ⟨w.heap.size,i,none⟩=[u0,u1,u2,u3,u4,u5][i]?:=by
  intro i hi;rw[Ac hb i];rcases(by omega:i=0\/i=1\/i=2\/i=3\/i=4\/i=5)with rfl|rfl|rfl|rfl|rfl|rfl<;>rfl
 rcases(by omega:j=0\/j=1\/j=2\/j=3\/j=4\/j=5)with rfl|rfl|rfl|rfl|rfl|rfl;.exact(e 0 (by omega)).trans h
 .exact(e 1 (by omega)).trans h
 .exact(e 2 (by omega)).trans h
 .exact(e 3 (by omega)).trans h
 .exact(e 4 (by omega)).trans h
 exact(e 5 (by omega)).trans h
theorem vU(w:World)(a:Option Addr)(g cap:Nat)(L:List Ai)(ha:0<L.length->a=some ⟨g,0,none⟩)(hl:0<L.length->Iq w g L)(hn:L.length<=1000000000)(hok:∀x∈L,x.Af.name.size<=65536): Calls Tryz.prog 51 #[.slice a L.length cap] w fun r w'=>∃v,r=.returned v/\v≠.slice none 0 0/\w'.ownsRow w.heap.size 134 6 v L.length (kV L)/\Touch (fun _=>False) w w':=by
 obtain⟨i0,hi,hz0,hz1,hz2⟩:=info_parts Tryz.Qb9;obtain⟨n,hN⟩:∃n,n=L.length:=⟨_,rfl⟩;rw[<-hN];have ha':Hid (0<L.length->a=some ⟨g,0,none⟩):=ha;have hl':Hid (0<L.length->Iq w g L):=hl;have hN':Hid (n=L.length):=hN;have hn':n<=1000000000:=by omega
 have hby:i0.bytes*n<=281474976710656:=by rw[hz2];omega
 have hnm:n<=maxLen:=by unfold maxLen;omega
 clear ha hl hN hn;go_enter Tryz.func51,Tryz.ntmps51;go_wp2_with (at_make;refine wpList_make_own _ rfl _ _ 59 rfl w.heap.size 134 i0 (.agg #[.string ⟨#[]⟩,.int .i64 0,.int .u32 0,.int .i64 0,.int .i64 0,.int .i64 0]) 6 Tryz.underlying59 hi hz0 hz1 .i64 .i64 _ n rfl rfl rfl hby hnm (Nat.le_refl _) ?_;intro w0 ho0 hg0);have T0:Touch (fun _=>False) w w0:=(Touch.refl (fun _=>False) w).Fa hg0 (fun k e=>by cases e);clear hg0;go_loopw [3,11] (fun v i wr=>∃k:Nat,k<=n/\i=.int .i64 (k:Int)/\wr.ownsRow w.heap.size 134 6 v k (kV (L.take k))/\v≠.slice none 0 0/\Touch (fun _=>False) w wr) (fun v i wr=>n-(intOf i).toNat)
 case atStart=>exact⟨0,Nat.zero_le _,rfl,ho0,by simp,T0⟩
 case round=>
  obtain⟨k,hk,rfl,ho,hnn,ht⟩:=hrel;have hsz:=ht.size;by_cases hlt:k<n
  .have hlt':k<L.length:=by have:=hN'.out;omega
   obtain rfl:=ha'.out (by omega);have hL:=(hl'.out (by omega)).keep ht (fun e=>e);have hC:=hL.cells k hlt';have HX:Hid (L.take (k+1)=L.take k++[L[k]]):=by
    unfold Hid;rw[List.take_succ_eq_append_getElem hlt']
   have hns:=hok L[k] (List.getElem_mem hlt');revert hC HX hns;generalize L[k]=x;intro hC HX hns;have c0:=hC 0 (by omega);have c1:=hC 1 (by omega);have c2:=hC 2 (by omega);have c3:=hC 3 (by omega);have c4:=hC 4 (by omega);have c5:=hC 5 (by omega);have c6:=hC 6 (by omega);have c7:=hC 7 (by omega);have c8:=hC 8 (by omega);have c9:=hC 9 (by omega);have c10:=hC 10 (by omega);have c11:=hC 11 (by omega);have c12:=hC 12 (by omega);simp only[Jj,List.getElem?_cons_zero,List.getElem?_cons_succ,Nat.add_zero]at c0 c1 c2 c3 c4 c5 c6 c7 c8 c9 c10 c11 c12;clear hC hlt' hL;have b1:k+1<=maxLen:=by unfold maxLen;omega
   have b2:(k+1)*56<=140737488355328:=by omega
   go_wp2_with fail;refine(qG _ x.Af.name (by omega)).mono ?_;rintro e w1 ⟨rfl,t1⟩;have T1:=(ht.alloc _).trans t1;have bb:=(t1.block wr.heap.size (by simp) (fun e=>e)).trans (heap_alloc_new wr _);have ho1:=t1.owns (ho.alloc _) (fun k _ h=>h);have hw1:wr.heap.size<w1.heap.size:=by have:=t1.size;simp at this;omega
   clear c0 c1 c2 c3 c4 c5 c6 c7 c8 c9 c10 c11 c12 t1;have g0:w1.cell? ⟨wr.heap.size,0,none⟩=some (.string x.Af.name):=by rw[Ac bb 0];rfl
   have g1:w1.cell? ⟨wr.heap.size,1,none⟩=some (.int .i64 (x.Af.method:Int)):=by rw[Ac bb 1];rfl
   have g2:w1.cell? ⟨wr.heap.size,2,none⟩=some (.int .u32 (x.Af.sum:Int)):=by rw[Ac bb 2];rfl
   have g3:w1.cell? ⟨wr.heap.size,3,none⟩=some (.int .i64 (x.Af.packed:Int)):=by rw[Ac bb 3];rfl
   have g4:w1.cell? ⟨wr.heap.size,4,none⟩=some (.int .i64 (x.Af.size:Int)):=by rw[Ac bb 4];rfl
   have g5:w1.cell? ⟨wr.heap.size,5,none⟩=some (.int .i64 (x.place:Int)):=by rw[Ac bb 5];rfl
   have fz:∀o,w1.frozen? ⟨wr.heap.size,o,none⟩=false:=fun o=>Cb bb o;have es:=Dw w1 wr.heap.size 0 _ g0;have HQ:Hid (∀(j:Nat) (y:Value),(Zf x)[j]?=some y->(w1.alloc (Obj.cells #[.string x.Af.name,.int .i64 (x.Af.method:Int),.int .u32 (x.Af.sum:Int),.int .i64 (x.Af.packed:Int),.int .i64 (x.Af.size:Int),.int .i64 (x.place:Int)] 134)).cell? ((⟨w1.heap.size,0,none⟩:Addr).add j)=some y):=qO w1 _ _ _ _ _ _ _;have hsz1:w.heap.size<=w1.heap.size:=T1.size;clear bb;go_wp2_with (at_builtin;refine wpList_append_own _ rfl _ _ 59 rfl w.heap.size 134 i0 (.agg #[.string ⟨#[]⟩,.int .i64 0,.int .u32 0,.int .i64 0,.int .i64 0,.int .i64 0]) 6 56 Tryz.underlying59 hi hz0 hz1 hz2 rfl (by decide) _ _ _ rfl (ho1.alloc _) ⟨w1.heap.size,0,none⟩ 1 1 (Zf x) rfl rfl HQ.out (by simp[Zf,Value.oneCell']) b1 b2 (by simp;omega) ?_;intro v' w2 hown' hgrow hnil);refine⟨⟨k+1,by omega,by go_num,?_,?_,?_⟩,by simp[intOf];omega⟩;.rw[HX.out,Qcr];exact hown'
   .intro e;have:=(hnil.1 e).2;omega
   exact(T1.alloc _).Fa hgrow (fun j hj=>(ho.lt j hj).1)
  obtain rfl:k=n:=by omega
  rw[List.take_of_length_le (by have:=hN'.out;omega)]at ho;go_wp2;go_ret;exact⟨_,rfl,hnn,ho,ht⟩
end Go.Proofs.YtmhlkdlcpicekaaGreatDoor
