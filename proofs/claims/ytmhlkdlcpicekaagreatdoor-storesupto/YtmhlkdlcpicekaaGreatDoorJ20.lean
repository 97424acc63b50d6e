/- Joined. -/
import Derived.Test.YtmhlkdlcpicekaaGreatDoorJ19
import Derived.Deep.RegionHeldLaw
set_option linter.unusedSimpArgs false
set_option linter.unusedVariables false
set_option maxRecDepth 100000
set_option maxHeartbeats 20000000
namespace Go.Proofs.YtmhlkdlcpicekaaGreatDoor
open Go.RowKit
def Nk(n:Nat)(pat:List Value):List Value:=(List.replicate n pat).flatten
theorem kJ(n:Nat)(pat:List Value):(Nk n pat).length=n*pat.length:=by simp[Nk]
theorem bI(n:Nat)(pat:List Value):Nk (n+1) pat=Nk n pat++pat:=by
 unfold Nk;rw[List.replicate_succ',List.flatten_append];simp
theorem We(pat:List Value):∀(n j c:Nat),j<n->c<pat.length->(Nk n pat)[j*pat.length+c]?=pat[c]?
 |0,j,c,h,_=>by omega
 |n+1,j,c,h,hc=>by
  have e:Nk (n+1) pat=pat++Nk n pat:=by unfold Nk;rw[List.replicate_succ,List.flatten_cons]
  rw[e];cases j with
  |zero=>rw[Nat.zero_mul,Nat.zero_add,List.getElem?_append_left hc]
  |succ j=>
   rw[List.getElem?_append_right (by rw[Nat.add_mul];omega)];have:(j+1)*pat.length+c-pat.length=j*pat.length+c:=by rw[Nat.add_mul];omega
   rw[this];exact We pat n j c (by omega) hc
def Io(w:World)(t:TypeId)(pat:List Value)(v:Value):Prop:=∃a n cap,v=.slice a n cap/\n<=1000000000/\((a=none/\n=0)\/∃g,a=some ⟨g,0,none⟩/\Typed w g t/\∀j,j<n->∀c,c<pat.length->w.cell? ⟨g,j*pat.length+c,none⟩=pat[c]?)
def Qi9:Value->Nat
 |.slice _ n _=>n
 |_=>0
theorem Io.keep{S:Nat->Prop}{w w':World}{t:TypeId}{pat:List Value}{v:Value}(h:Io w t pat v)(ht:Touch S w w')(hs:∀q,S q->q<w.heap.size->v.ownBlock=some q->¬Typed w q t):Io w' t pat v:=by
 obtain⟨a,n,cap,rfl,hn,h|⟨g,rfl,hty,hc⟩⟩:=h;.exact⟨a,n,cap,rfl,hn,.inl h⟩
 have hg:¬S g:=fun hh=>hs g hh hty.lt rfl hty;exact⟨_,n,cap,rfl,hn,.inr ⟨g,rfl,hty.keep ht hg,fun j hj c hc'=>(ht.cell (p:=⟨g,j*pat.length+c,none⟩) hty.lt hg).trans (hc j hj c hc')⟩⟩
theorem Io.same{w w':World}{t:TypeId}{pat:List Value}{v:Value}(h:Io w t pat v)(ht:Touch (fun _=>False) w w'):Io w' t pat v:=h.keep ht (fun _ h _ _=>h.elim)
theorem Io.owned{w:World}{base:Nat}{t:TypeId}{pat:List Value}{v:Value}{n:Nat}(h:w.ownsRow base t pat.length v n (Nk n pat))(hn:n<=1000000000):Io w t pat v:=by
 have hty:=fun k hk=>Typed.owned h (k:=k) hk;obtain⟨h1,⟨rfl,rfl⟩|⟨g,cap,cur,rfl,hb,hg,h3,h4,h5,h6⟩⟩:=h;.exact⟨none,0,0,rfl,Nat.zero_le _,.inl ⟨rfl,rfl⟩⟩
 refine⟨_,n,cap,rfl,hn,.inr ⟨g,rfl,hty g rfl,fun j hj c hc=>?_⟩⟩;have hlt:j*pat.length+c<n*pat.length:=by
  have:(j+1)*pat.length<=n*pat.length:=Nat.mul_le_mul_right _ hj;rw[Nat.add_mul]at this;omega
 rw[Ac hg,<-We pat n j c hj hc,<-h6,List.getElem?_take_of_lt hlt];simp
theorem Io.block{w:World}{t:TypeId}{pat:List Value}{v:Value}(h:Io w t pat v){q:Nat}(hq:v.ownBlock=some q):Typed w q t:=by
 obtain⟨a,n,cap,rfl,hn,⟨rfl,_⟩|⟨g,rfl,hty,hc⟩⟩:=h;.cases hq
 cases hq;exact hty
structure Chain (w:World) (t:TypeId) (pat:Nat->List Value) (z:Nat) (K:List (Value×Nat)) (l:Value) (n m:Nat):Prop where
 len:∀k,(pat k).length=z
 kept:∀x∈K,Io w t (pat x.2) x.1
 same:∀x∈K,∀q,x.1.ownBlock=some q->l.ownBlock=some q->x.2=m/\Qi9 x.1<=n
theorem Chain.push{w:World}{t:TypeId}{pat:Nat->List Value}{z:Nat}{K:List (Value×Nat)}{l:Value}{n m base:Nat}(h:Chain w t pat z K l n m)(ho:w.ownsRow base t z l n (Nk n (pat m)))(hn:n<=1000000000):Chain w t pat z (K++[(l,m)]) l n m:=by
 refine⟨h.len,fun x hx=>?_,fun x hx q h1 h2=>?_⟩
 .rcases List.mem_append.1 hx with hx|hx;.exact h.kept x hx
  rw[List.mem_singleton.1 hx];exact Io.owned (by rw[h.len];exact ho) hn
 rcases List.mem_append.1 hx with hx|hx;.exact h.same x hx q h1 h2
 rw[List.mem_singleton.1 hx];refine⟨rfl,?_⟩;obtain⟨_,⟨rfl,rfl⟩|⟨g,cap,cur,rfl,_⟩⟩:=ho;.exact Nat.zero_le _
 exact Nat.le_refl _
theorem Chain.append{w W w':World}{t:TypeId}{pat:Nat->List Value}{z:Nat}{K:List (Value×Nat)}{l:Value}{n m base g cap:Nat}(h:Chain w t pat z K l n m)(ho:w.ownsRow base t z l n (Nk n (pat m)))(hW:Touch (fun _=>False) w W)(ho':w'.ownsRow base t z (.slice (some ⟨g,0,none⟩) (n+1) cap) (n+1) (Nk (n+1) (pat m)))(hg:(l.ownBlock=some g/\W.grownBy w' (some g))\/(W.heap.size<=g/\W.grownBy w' none))(hn:n+1<=1000000000): Chain w' t pat z K (.slice (some ⟨g,0,none⟩) (n+1) cap) (n+1) m:=by
 have hK':Io w' t (pat m) (.slice (some ⟨g,0,none⟩) (n+1) cap):=Io.owned (by rw[h.len];exact ho') hn;refine⟨h.len,fun x hx=>?_,fun x hx q h1 h2=>?_⟩
 .have hk:=h.kept x hx;have hsm:=h.same x hx;obtain⟨xv,xm⟩:=x;simp only at hk hsm ⊢;obtain⟨a,k,cp,rfl,hk1,hk2|⟨q,rfl,hty,hc⟩⟩:=hk;.exact⟨a,k,cp,rfl,hk1,.inl hk2⟩
  have hlt:q<W.heap.size:=Nat.lt_of_lt_of_le hty.lt hW.size;have hWq:=hW.block q hty.lt (fun e=>e);by_cases hq:l.ownBlock=some g/\q=g
  .obtain⟨hlg,rfl⟩:=hq;obtain⟨rfl,hle⟩:=hsm q rfl hlg;obtain⟨a2,n2,cap2,e2,_,⟨e3,_⟩|⟨g2,e3,hty2,hc2⟩⟩:=hK';.cases e2;cases e3
   cases e2;cases e3;have hle':k<=n:=hle;exact⟨_,k,cp,rfl,hk1,.inr ⟨q,rfl,hty2,fun j hj c hc'=>hc2 j (by omega) c hc'⟩⟩
  have hb:w'.heap[q]?=w.heap[q]?:=by
   rcases hg with⟨hlg,hgr⟩|⟨hgs,hgr⟩;.exact(hgr.block q hlt (fun e=>hq ⟨hlg,Option.some.inj e⟩)).trans hWq
   exact(hgr.block q hlt (by simp)).trans hWq
  refine⟨_,k,cp,rfl,hk1,.inr ⟨q,rfl,?_,fun j hj c hc'=>?_⟩⟩;.obtain⟨cs,fr,hcs⟩:=hty;exact⟨cs,fr,hb.trans hcs⟩
  exact(World.cell?_of_block (w:=w) (w':=w') (a:=⟨q,j*(pat xm).length+c,none⟩) hb).trans (hc j hj c hc')
 have hq:q=g:=by cases h2;rfl
 subst hq;rcases hg with⟨hlg,hgr⟩|⟨hgs,hgr⟩
 .obtain⟨e1,e2⟩:=h.same x hx q h1 hlg;exact⟨e1,by omega⟩
 have:=(h.kept x hx).block h1;have h3:=this.lt;have h4:=hW.size;omega
def dE(w:World)(g:Nat)(t:TypeId)(len:Nat):Prop:=∃cur,w.heap[g]?=some (.cells cur t)/\cur.size=len
theorem dE.set{w:World}{g:Nat}{t:TypeId}{len:Nat}(h:dE w g t len)(b i:Nat)(v:Value):dE (w.setCell ⟨b,i,none⟩ v) g t len:=by
 obtain⟨cur,h1,h2⟩:=h;by_cases e:b=g
 .subst e;refine⟨cur.setIfInBounds i v,?_,by simpa using h2⟩;simp only[World.setCell,Array.getElem?_modify,if_true,h1];rfl
 refine⟨cur,?_,h2⟩;have:=(Bf w b i v).block g (Array.getElem?_eq_some_iff.1 h1).1 (fun h=>e h.symm);rw[this];exact h1
theorem dE.cell{w:World}{g:Nat}{t:TypeId}{len:Nat}(h:dE w g t len)(i:Nat)(hi:i<len):(∃v,w.cell? ⟨g,i,none⟩=some v)/\w.frozen? ⟨g,i,none⟩=false:=by
 obtain⟨cur,h1,h2⟩:=h;refine⟨⟨cur[i]'(by omega),?_⟩,Cb h1 i⟩;rw[Ac h1 i,Array.getElem?_eq_getElem (by omega)]
theorem dE.owns{w:World}{g base cap n z:Nat}{t:TypeId}{xs:List Value}(h:dE w g t (cap*z))(hb:base<=g)(hn:n<=cap)(hc:cap<=maxLen)(hl:xs.length=n*z)(hx:∀j,j<n*z->w.cell? ⟨g,j,none⟩=xs[j]?):w.ownsRow base t z (.slice (some ⟨g,0,none⟩) n cap) n xs:=by
 obtain⟨cur,h1,h2⟩:=h;refine⟨hl,.inr ⟨g,cap,cur,rfl,hb,h1,hn,hc,h2,?_⟩⟩;have hle:n*z<=cap*z:=Nat.mul_le_mul_right _ hn;apply List.ext_getElem?;intro j;by_cases hj:j<n*z;.rw[List.getElem?_take_of_lt hj,<-hx j hj,Ac h1 j];simp
 rw[List.getElem?_eq_none (by rw[List.length_take];omega),List.getElem?_eq_none (by omega)]
structure KB (w:World) (wb base m:Nat) (FA FB EA EB:List (Value×Nat)) (vF vM vE vN:Value):Prop where
 c0:w.cell? ⟨wb,0,none⟩=some (.slice none 0 0)
 c1:w.cell? ⟨wb,1,none⟩=some (vF)
 c2:w.cell? ⟨wb,2,none⟩=some (vE)
 c3:w.cell? ⟨wb,3,none⟩=some (.slice none 0 0)
 c4:w.cell? ⟨wb,4,none⟩=some (vM)
 c5:w.cell? ⟨wb,5,none⟩=some (vN)
 c6:w.cell? ⟨wb,6,none⟩=some (.slice none 0 0)
 c7:w.cell? ⟨wb,7,none⟩=some (.int .i64 (m:Int))
 fz:∀i,w.frozen? ⟨wb,i,none⟩=false
 ty:Typed w wb 56
 low:wb<base
 rF:w.ownsRow base 30 1 vF FA.length (FA.map (·.1))
 rM:w.ownsRow base 9 1 vM FB.length (FB.map (fun x=>Value.string (Dk x.2)))
 rE:w.ownsRow base 59 1 vE EA.length (EA.map (·.1))
 rN:w.ownsRow base 3 1 vN EB.length (EB.map (fun x=>Value.int .i64 (-(x.2:Int))))
def Other(w:World)(S:Nat->Prop):Prop:=∀q,S q->q<w.heap.size->∃t,Typed w q t/\t≠56/\t≠30/\t≠9/\t≠59/\t≠3
open Go.Shelf Go.Lib
theorem Tryz.sZ:(Tryz.prog.info? 59).map (fun i=>(i.zero,i.size,i.bytes))=some (some (.slice none 0 0),1,24):=by kernel_rfl
theorem Tryz.Qd2:(Tryz.prog.info? 134).map (fun i=>(i.zero,i.size,i.bytes))=some (some (.agg #[.string ⟨#[]⟩,.int .i64 0,.int .u32 0,.int .i64 0,.int .i64 0,.int .i64 0]),6,56):=by kernel_rfl
def Zx(k:Nat):List Value:=[.string ⟨#[]⟩,.int .i64 0,.int .u32 0,.int .i64 0,.int .i64 0,.int .i64 (-(k:Int))]
def gG(k:Nat):List Value:=[.string (Dk k),.string (Dk k)]
theorem Zc(k:Nat):(Zx k).length=6:=rfl
structure Wi (w:World) (l:Value) (n k m:Nat):Prop where
 row:∀a cap,l=.slice a n cap->∀g,a=some ⟨g,0,none⟩->dE w g 134 (cap*6)/\∀j,j<k->∀c,c<6->w.cell? ⟨g,j*6+c,none⟩=(Zx m)[c]?
theorem Wi.start{w:World}{base n:Nat}{l:Value}{xs:List Value}(h:w.ownsRow base 134 6 l n xs)(m:Nat):Wi w l n 0 m:=by
 refine⟨fun a cap hl g ha=>⟨?_,fun j hj=>by omega⟩⟩;obtain⟨h1,⟨h2,_⟩|⟨g',cap',cur,e,hb,hg,h3,h4,h5,h6⟩⟩:=h;.rw[hl]at h2;cases h2;cases ha
 rw[hl]at e;cases e;cases ha;exact⟨cur,hg,h5⟩
theorem Wi.owns{w w':World}{base n m:Nat}{l:Value}{xs:List Value}(h:w.ownsRow base 134 6 l n xs)(hM:Wi w' l n n m):w'.ownsRow base 134 6 l n (Nk n (Zx m)):=by
 obtain⟨h1,⟨rfl,rfl⟩|⟨g,cap,cur,rfl,hb,hg,h3,h4,h5,h6⟩⟩:=h;.exact World.ownsRow_nil _ _ _ _
 obtain⟨hr,hc⟩:=hM.row _ cap rfl g rfl;refine hr.owns hb h3 h4 (by rw[kJ,Zc]) (fun j hj=>?_);have e:=hc (j/6) (by omega) (j%6) (by omega);have e2:=We (Zx m) n (j/6) (j%6) (by omega) (by rw[Zc];omega);rw[Zc]at e2;rw[show j/6*6+j%6=j by omega]at e e2;rw[e,e2]
theorem Wi.set{w w':World}{l:Value}{n k m g cap:Nat}(h:Wi w l n k m)(hl:l=.slice (some ⟨g,0,none⟩) n cap)(hw:w'=(((((w.setCell ⟨g,k*6,none⟩ (.string ⟨#[]⟩)).setCell ⟨g,k*6+1,none⟩ (.int .i64 0)).setCell ⟨g,k*6+2,none⟩ (.int .u32 0)).setCell ⟨g,k*6+3,none⟩ (.int .i64 0)).setCell ⟨g,k*6+4,none⟩ (.int .i64 0)).setCell ⟨g,k*6+5,none⟩ (.int .i64 (-(m:Int))))(hk:k<n)(hc:n<=cap):Wi w' l n (k+1) m:=by
 refine⟨fun a cap' hl' g' ha=>?_⟩;rw[hl]at hl';cases hl';cases ha;obtain⟨hr,hcl⟩:=h.row _ cap hl g rfl;have hr':dE w' g 134 (cap*6):=by rw[hw];exact(((((hr.set _ _ _).set _ _ _).set _ _ _).set _ _ _).set _ _ _).set _ _ _
 refine⟨hr',fun j hj c hc'=>?_⟩;rw[hw,Ad,Ad,Ad,Ad,Ad,Ad];by_cases e:j=k
 .subst e;obtain⟨⟨u,hu⟩,_⟩:=hr.cell (j*6+c) (by omega);rcases(by omega:c=0\/c=1\/c=2\/c=3\/c=4\/c=5)with rfl|rfl|rfl|rfl|rfl|rfl<;>simp[hu,Zx]<;>(simp at hu;simp[hu])
 have h1:=hcl j (by omega) c hc';have e0:¬k*6=j*6+c:=by omega
 have e1:¬k*6+1=j*6+c:=by omega
 have e2:¬k*6+2=j*6+c:=by omega
 have e3:¬k*6+3=j*6+c:=by omega
 have e4:¬k*6+4=j*6+c:=by omega
 have e5:¬k*6+5=j*6+c:=by omega
 simp[e0,e1,e2,e3,e4,e5,h1]
theorem Tz{w:World}{base:Nat}{e:TypeId}{size n:Nat}{v:Value}{xs:List Value}(h:w.ownsRow base e size v n xs):∃ao cap,v=.slice ao n cap:=by
 rcases h.2 with⟨e,h0⟩|⟨g,cap',cur,e,_⟩;.exact⟨none,0,by rw[e,h0]⟩
 exact⟨_,_,e⟩
structure qF (w:World) (wb base m:Nat) (FL EL:List (Value×Nat)):Prop where
 box:∃vF vM vE vN,KB w wb base m FL FL EL EL vF vM vE vN
 files:∀x∈FL,Io w 41 (gG x.2) x.1
 ents:∀x∈EL,Io w 134 (Zx x.2) x.1
theorem Tryz.zW:(Tryz.prog.info? 30).map (fun i=>(i.zero,i.size,i.bytes))=some (some (.slice none 0 0),1,24):=by kernel_rfl
theorem Tryz.Qbk:(Tryz.prog.info? 41).map (fun i=>(i.zero,i.size,i.bytes))=some (some (.agg #[.string ⟨#[]⟩,.string ⟨#[]⟩]),2,32):=by kernel_rfl
theorem Tryz.jW:(Tryz.prog.info? 9).map (fun i=>(i.zero,i.size,i.bytes))=some (some (.string ⟨#[]⟩),1,16):=by kernel_rfl
theorem Zn(k:Nat):(gG k).length=2:=rfl
structure Vt (w:World) (l:Value) (n k m:Nat):Prop where
 row:∀a cap,l=.slice a n cap->∀g,a=some ⟨g,0,none⟩->dE w g 41 (cap*2)/\∀j,j<k->∀c,c<2->w.cell? ⟨g,j*2+c,none⟩=(gG m)[c]?
theorem Vt.start{w:World}{base n:Nat}{l:Value}{xs:List Value}(h:w.ownsRow base 41 2 l n xs)(m:Nat):Vt w l n 0 m:=by
 refine⟨fun a cap hl g ha=>⟨?_,fun j hj=>by omega⟩⟩;obtain⟨h1,⟨h2,_⟩|⟨g',cap',cur,e,hb,hg,h3,h4,h5,h6⟩⟩:=h;.rw[hl]at h2;cases h2;cases ha
 rw[hl]at e;cases e;cases ha;exact⟨cur,hg,h5⟩
theorem Vt.owns{w w':World}{base n m:Nat}{l:Value}{xs:List Value}(h:w.ownsRow base 41 2 l n xs)(hM:Vt w' l n n m):w'.ownsRow base 41 2 l n (Nk n (gG m)):=by
 obtain⟨h1,⟨rfl,rfl⟩|⟨g,cap,cur,rfl,hb,hg,h3,h4,h5,h6⟩⟩:=h;.exact World.ownsRow_nil _ _ _ _
 obtain⟨hr,hc⟩:=hM.row _ cap rfl g rfl;refine hr.owns hb h3 h4 (by rw[kJ,Zn]) (fun j hj=>?_);have e:=hc (j/2) (by omega) (j%2) (by omega);have e2:=We (gG m) n (j/2) (j%2) (by omega) (by rw[Zn];omega);rw[Zn]at e2;rw[show j/2*2+j%2=j by omega]at e e2;rw[e,e2]
theorem Vt.set{w w':World}{l:Value}{n k m g cap:Nat}(h:Vt w l n k m)(hl:l=.slice (some ⟨g,0,none⟩) n cap)(hw:w'=(w.setCell ⟨g,k*2,none⟩ (.string (Dk m))).setCell ⟨g,k*2+1,none⟩ (.string (Dk m)))(hk:k<n)(hc:n<=cap):Vt w' l n (k+1) m:=by
 refine⟨fun a cap' hl' g' ha=>?_⟩;rw[hl]at hl';cases hl';cases ha;obtain⟨hr,hcl⟩:=h.row _ cap hl g rfl;have hr':dE w' g 41 (cap*2):=by rw[hw];exact(hr.set _ _ _).set _ _ _
 refine⟨hr',fun j hj c hc'=>?_⟩;rw[hw,Ad,Ad];by_cases e:j=k
 .subst e;obtain⟨⟨u,hu⟩,_⟩:=hr.cell (j*2+c) (by omega);rcases(by omega:c=0\/c=1)with rfl|rfl<;>simp[hu,gG]<;>(simp at hu;simp[hu])
 have h1:=hcl j (by omega) c hc';have e0:¬k*2=j*2+c:=by omega
 have e1:¬k*2+1=j*2+c:=by omega
 simp[e0,e1,h1]
structure Kd where
 tL:TypeId
 tM:TypeId
 tE:TypeId
 z:Nat
 pat:Nat->List Value
 mkv:Nat->Value
 len:∀k,(pat k).length=z
theorem Io.vT{S:Nat->Prop}{w w':World}{t:TypeId}{pat:List Value}{v:Value}(h:Io w t pat v)(ht:Touch S w w')(hs:∀q,v.ownBlock=some q->¬S q):Io w' t pat v:=h.keep ht (fun q h1 _ h2 _=>hs q h2 h1)
theorem Chain.vT{S:Nat->Prop}{w w':World}{t:TypeId}{pat:Nat->List Value}{z:Nat}{K:List (Value×Nat)}{l:Value}{n m:Nat}(h:Chain w t pat z K l n m)(ht:Touch S w w')(hs:∀x∈K,∀q,x.1.ownBlock=some q->¬S q):Chain w' t pat z K l n m:=
 ⟨h.len,fun x hx=>(h.kept x hx).vT ht (hs x hx),h.same⟩
structure aY (w:World) (κ:Kd) (D:Nat->Prop) (vL vM:Value) (K:List (Value×Nat)):Prop where
 rL:w.ownsRow 0 κ.tL 1 vL K.length (K.map (·.1))
 rM:w.ownsRow 0 κ.tM 1 vM K.length (K.map fun x=>κ.mkv x.2)
 kept:∀x∈K,Io w κ.tE (κ.pat x.2) x.1
 dL:∀q,vL.ownBlock=some q->D q
 dM:∀q,vM.ownBlock=some q->D q
 dK:∀x∈K,∀q,x.1.ownBlock=some q->D q
 nLM:∀q,vL.ownBlock=some q->vM.ownBlock≠some q
 nK:∀x∈K,∀q,x.1.ownBlock=some q->vL.ownBlock≠some q/\vM.ownBlock≠some q
theorem aY.keep{S:Nat->Prop}{w w':World}{κ:Kd}{D:Nat->Prop}{vL vM:Value}{K:List (Value×Nat)}(h:aY w κ D vL vM K)(t:Touch S w w')(hs:∀q,D q->¬S q):aY w' κ D vL vM K:=
 ⟨t.owns h.rL (fun q hq=>hs q (h.dL q hq)),t.owns h.rM (fun q hq=>hs q (h.dM q hq)),fun x hx=>(h.kept x hx).vT t (fun q hq=>hs q (h.dK x hx q hq)),h.dL,h.dM,h.dK,h.nLM,h.nK⟩
theorem aY.nil(w:World)(κ:Kd)(D:Nat->Prop):aY w κ D (.slice none 0 0) (.slice none 0 0) [] :=⟨World.ownsRow_nil _ _ _ _,World.ownsRow_nil _ _ _ _,fun x hx=>(by cases hx),fun q hq=>(by cases hq),fun q hq=>(by cases hq),fun x hx=>(by cases hx),fun q hq=>(by cases hq),fun x hx=>(by cases hx)⟩
def Grew(W w':World)(v:Value)(g:Nat):Prop:=(v.ownBlock=some g/\W.grownBy w' (some g))\/(W.heap.size<=g/\W.grownBy w' none)
theorem Grew.touch{w W w':World}{v:Value}{g:Nat}(h:Grew W w' v g)(t:Touch (fun _=>False) w W):Touch (fun q=>v.ownBlock=some q) w w':=by
 rcases h with⟨e,h⟩|⟨e,h⟩;.exact(t.mono (fun _ _ h=>h.elim)).grown h (fun q hq=>by cases hq;exact e)
 exact(t.mono (fun _ _ h=>h.elim)).grown h (fun q hq=>by cases hq)
structure YS (w0 w:World) (wb:Nat) (κ:Kd) (cs:Value->Value->Array Value) (E:Nat->Prop) (KL KM:List (Value×Nat)) (vL vM l:Value) (n m:Nat):Prop where
 hp:w.heap[wb]?=some (.cells (cs vL vM) 56 (0,0))
 rL:w.ownsRow 0 κ.tL 1 vL KL.length (KL.map (·.1))
 rM:w.ownsRow 0 κ.tM 1 vM KM.length (KM.map fun x=>κ.mkv x.2)
 ch:Chain w κ.tE κ.pat κ.z KL l n m
 ro:w.ownsRow 0 κ.tE κ.z l n (Nk n (κ.pat m))
 eL:∀q,vL.ownBlock=some q->E q
 eM:∀q,vM.ownBlock=some q->E q
 el:∀q,l.ownBlock=some q->E q
 eK:∀x∈KL,∀q,x.1.ownBlock=some q->E q
 nLM:∀q,vL.ownBlock=some q->vM.ownBlock≠some q
 nl:∀q,l.ownBlock=some q->vL.ownBlock≠some q/\vM.ownBlock≠some q
 nK:∀x∈KL,∀q,x.1.ownBlock=some q->vL.ownBlock≠some q/\vM.ownBlock≠some q
 nw:¬E wb
 tch:Touch (fun q=>q=wb\/E q) w0 w
 new:∀q,w0.heap.size<=q->E q
theorem YS.lt{w0 w:World}{wb:Nat}{κ:Kd}{cs:Value->Value->Array Value}{E:Nat->Prop}{KL KM:List (Value×Nat)}{vL vM l:Value}{n m:Nat}(h:YS w0 w wb κ cs E KL KM vL vM l n m):wb<w.heap.size:=(Array.getElem?_eq_some_iff.1 h.hp).1
theorem qY{w:World}{t:TypeId}{pat:List Value}{v:Value}(h:Io w t pat v){q:Nat}(hq:v.ownBlock=some q):q<w.heap.size:=(h.block hq).lt
theorem YS.Qba{w0 w W w3:World}{wb:Nat}{κ:Kd}{cs:Value->Value->Array Value}{E:Nat->Prop}{KL KM:List (Value×Nat)}{vL vM l:Value}{n m g cap:Nat}(h:YS w0 w wb κ cs E KL KM vL vM l n m)(hW:Touch (fun _=>False) w W)(ho:w3.ownsRow 0 κ.tL 1 (.slice (some ⟨g,0,none⟩) (KL.length+1) cap) (KL.length+1) (KL.map (·.1)++[l]))(hg:Grew W w3 vL g)(a:Nat)(hcs:∀v,(cs vL vM).setIfInBounds a v=cs v vM)(hn:n<=1000000000): YS w0 (w3.setCell ⟨wb,a,none⟩ (.slice (some ⟨g,0,none⟩) (KL.length+1) cap)) wb κ cs E (KL++[(l,m)]) KM (.slice (some ⟨g,0,none⟩) (KL.length+1) cap) vM l n m:=by
 have t3:=hg.touch hW;have tt:Touch (fun q=>q=wb\/vL.ownBlock=some q) w (w3.setCell ⟨wb,a,none⟩ (.slice (some ⟨g,0,none⟩) (KL.length+1) cap)):=(t3.mono (fun _ _ e=>.inr e)).setCell (p:=⟨wb,a,none⟩) (.inl rfl) _;have hwL:vL.ownBlock≠some wb:=fun e=>h.nw (h.eL wb e);have hlt:=h.lt;have hp3:w3.heap[wb]?=some (.cells (cs vL vM) 56 (0,0)):=(t3.block wb hlt hwL).trans h.hp;have hp':=Dz hp3 a (.slice (some ⟨g,0,none⟩) (KL.length+1) cap);rw[hcs]at hp';have hgw:g≠wb:=fun e=>by
  rcases hg with⟨e1,_⟩|⟨e1,_⟩;.exact hwL (e▸e1)
  have:=hW.size;omega
 have hgE:E g:=by
  rcases hg with⟨e1,_⟩|⟨e1,_⟩;.exact h.eL g e1
  have:=hW.size;have:=h.tch.size;exact h.new g (by omega)
 have hother:∀q,(vL.ownBlock≠some q)->q<w.heap.size->g≠q:=fun q h1 h2 e=>by
  rcases hg with⟨e1,_⟩|⟨e1,_⟩;.exact h1 (e▸e1)
  have:=hW.size;omega
 have hkl:∀x∈KL++[(l,m)],∀q,x.1.ownBlock=some q->E q/\vL.ownBlock≠some q/\vM.ownBlock≠some q/\q<w.heap.size:=fun x hx q hq=>by
  rcases List.mem_append.1 hx with hx|hx;.exact⟨h.eK x hx q hq,(h.nK x hx q hq).1,(h.nK x hx q hq).2,qY (h.ch.kept x hx) hq⟩
  rw[List.mem_singleton.1 hx]at hq;exact⟨h.el q hq,(h.nl q hq).1,(h.nl q hq).2,(h.ro.lt q hq).2⟩
 refine⟨hp',?_,tt.owns h.rM (fun q hq e=>?_),(h.ch.push h.ro hn).vT tt (fun x hx q hq e=>?_),tt.owns h.ro (fun q hq e=>?_),fun q hq=>?_,h.eM,h.el,fun x hx q hq=>(hkl x hx q hq).1,fun q hq e=>?_,fun q hq=>⟨fun e=>?_,(h.nl q hq).2⟩,fun x hx q hq=>⟨fun e=>?_,(hkl x hx q hq).2.2.1⟩,h.nw,?_,h.new⟩
 .have:=(Bf w3 wb a (.slice (some ⟨g,0,none⟩) (KL.length+1) cap)).owns ho (fun q hq e=>by cases hq;exact hgw e);rw[List.length_append,List.map_append];exact this
 .rcases e with rfl|e;.exact h.nw (h.eM _ hq)
  exact h.nLM q e hq
 .obtain⟨k1,k2,_⟩:=hkl x hx q hq;rcases e with rfl|e;.exact h.nw k1
  exact k2 e
 .rcases e with rfl|e;.exact h.nw (h.el _ hq)
  exact(h.nl q hq).1 e
 .cases hq;exact hgE
 .cases hq;have k:=(h.rM.lt g e).2;rcases hg with⟨e1,_⟩|⟨e1,_⟩;.exact h.nLM g e1 e
  have:=hW.size;omega
 .cases e;exact hother g (h.nl g hq).1 (h.ro.lt g hq).2 rfl
 .cases e;exact hother g (hkl x hx g hq).2.1 (hkl x hx g hq).2.2.2 rfl
 exact h.tch.trans (tt.mono (fun q _ e=>e.imp (fun e=>e) (fun e=>h.eL q e)))
theorem YS.yU{w0 w W w3:World}{wb:Nat}{κ:Kd}{cs:Value->Value->Array Value}{E:Nat->Prop}{KL KM:List (Value×Nat)}{vL vM l:Value}{n m g cap:Nat}(h:YS w0 w wb κ cs E KL KM vL vM l n m)(hW:Touch (fun _=>False) w W)(ho:w3.ownsRow 0 κ.tM 1 (.slice (some ⟨g,0,none⟩) (KM.length+1) cap) (KM.length+1) (KM.map (fun x=>κ.mkv x.2)++[κ.mkv m]))(hg:Grew W w3 vM g)(a:Nat)(hcs:∀v,(cs vL vM).setIfInBounds a v=cs vL v): YS w0 (w3.setCell ⟨wb,a,none⟩ (.slice (some ⟨g,0,none⟩) (KM.length+1) cap)) wb κ cs E KL (KM++[(l,m)]) vL (.slice (some ⟨g,0,none⟩) (KM.length+1) cap) l n m:=by
 have t3:=hg.touch hW;have tt:Touch (fun q=>q=wb\/vM.ownBlock=some q) w (w3.setCell ⟨wb,a,none⟩ (.slice (some ⟨g,0,none⟩) (KM.length+1) cap)):=(t3.mono (fun _ _ e=>.inr e)).setCell (p:=⟨wb,a,none⟩) (.inl rfl) _;have hwL:vM.ownBlock≠some wb:=fun e=>h.nw (h.eM wb e);have hlt:=h.lt;have hp3:w3.heap[wb]?=some (.cells (cs vL vM) 56 (0,0)):=(t3.block wb hlt hwL).trans h.hp;have hp':=Dz hp3 a (.slice (some ⟨g,0,none⟩) (KM.length+1) cap);rw[hcs]at hp';have hgw:g≠wb:=fun e=>by
  rcases hg with⟨e1,_⟩|⟨e1,_⟩;.exact hwL (e▸e1)
  have:=hW.size;omega
 have hgE:E g:=by
  rcases hg with⟨e1,_⟩|⟨e1,_⟩;.exact h.eM g e1
  have:=hW.size;have:=h.tch.size;exact h.new g (by omega)
 have hother:∀q,(vM.ownBlock≠some q)->q<w.heap.size->g≠q:=fun q h1 h2 e=>by
  rcases hg with⟨e1,_⟩|⟨e1,_⟩;.exact h1 (e▸e1)
  have:=hW.size;omega
 refine⟨hp',tt.owns h.rL (fun q hq e=>?_),?_,h.ch.vT tt (fun x hx q hq e=>?_),tt.owns h.ro (fun q hq e=>?_),h.eL,fun q hq=>?_,h.el,h.eK,fun q hq e=>?_,fun q hq=>⟨(h.nl q hq).1,fun e=>?_⟩,fun x hx q hq=>⟨(h.nK x hx q hq).1,fun e=>?_⟩,h.nw,?_,h.new⟩
 .rcases e with rfl|e;.exact h.nw (h.eL _ hq)
  exact h.nLM q hq e
 .have:=(Bf w3 wb a (.slice (some ⟨g,0,none⟩) (KM.length+1) cap)).owns ho (fun q hq e=>by cases hq;exact hgw e);rw[List.length_append,List.map_append];exact this
 .rcases e with rfl|e;.exact h.nw (h.eK x hx _ hq)
  exact(h.nK x hx q hq).2 e
 .rcases e with rfl|e;.exact h.nw (h.el _ hq)
  exact(h.nl q hq).2 e
 .cases hq;exact hgE
 .cases e;exact hother g (h.nLM g hq) (h.rL.lt g hq).2 rfl
 .cases e;exact hother g (h.nl g hq).2 (h.ro.lt g hq).2 rfl
 .cases e;exact hother g (h.nK x hx g hq).2 (qY (h.ch.kept x hx) hq) rfl
 exact h.tch.trans (tt.mono (fun q _ e=>e.imp (fun e=>e) (fun e=>h.eM q e)))
theorem YS.grow{w0 w W w2:World}{wb:Nat}{κ:Kd}{cs:Value->Value->Array Value}{E:Nat->Prop}{KL KM:List (Value×Nat)}{vL vM l:Value}{n m g cap:Nat}(h:YS w0 w wb κ cs E KL KM vL vM l n m)(hW:Touch (fun _=>False) w W)(ho:w2.ownsRow 0 κ.tE κ.z (.slice (some ⟨g,0,none⟩) (n+1) cap) (n+1) (Nk (n+1) (κ.pat m)))(hg:Grew W w2 l g)(hn:n+1<=1000000000): YS w0 w2 wb κ cs E KL KM vL vM (.slice (some ⟨g,0,none⟩) (n+1) cap) (n+1) m:=by
 have t2:=hg.touch hW;have hwl:l.ownBlock≠some wb:=fun e=>h.nw (h.el wb e);have hgE:E g:=by
  rcases hg with⟨e1,_⟩|⟨e1,_⟩;.exact h.el g e1
  have:=hW.size;have:=h.tch.size;exact h.new g (by omega)
 have hgn:vL.ownBlock≠some g/\vM.ownBlock≠some g:=by
  rcases hg with⟨e1,_⟩|⟨e1,_⟩;.exact h.nl g e1
  have:=hW.size;exact⟨fun e=>by have:=(h.rL.lt g e).2;omega,fun e=>by have:=(h.rM.lt g e).2;omega⟩
 exact⟨(t2.block wb h.lt hwl).trans h.hp,t2.owns h.rL (fun q hq e=>(h.nl q e).1 hq),t2.owns h.rM (fun q hq e=>(h.nl q e).2 hq),h.ch.append h.ro hW ho hg hn,ho,h.eL,h.eM,fun q hq=>(by cases hq;exact hgE),h.eK,h.nLM,fun q hq=>(by cases hq;exact hgn),h.nK,h.nw,h.tch.trans (t2.mono (fun q _ e=>.inr (h.el q e))),h.new⟩
def wP(D:Nat->Prop)(l:Value)(lo hi:Nat):Nat->Prop:=fun q=>D q\/l.ownBlock=some q\/(lo<=q/\q<hi)
def Jl(D:Nat->Prop)(l:Value)(lo:Nat):Nat->Prop:=fun q=>D q\/l.ownBlock=some q\/lo<=q
theorem YS.grp{w0 w:World}{wb:Nat}{κ:Kd}{cs:Value->Value->Array Value}{D:Nat->Prop}{l0:Value}{K:List (Value×Nat)}{vL vM l:Value}{n m:Nat}(h:YS w0 w wb κ cs (Jl D l0 w0.heap.size) K K vL vM l n m):aY w κ (wP D l0 w0.heap.size w.heap.size) vL vM K:=by
 have hin:∀q,Jl D l0 w0.heap.size q->q<w.heap.size->wP D l0 w0.heap.size w.heap.size q:=fun q e hq=>e.imp (fun e=>e) (fun e=>e.imp (fun e=>e) (fun e=>⟨e,hq⟩));exact⟨h.rL,h.rM,h.ch.kept,fun q hq=>hin q (h.eL q hq) (h.rL.lt q hq).2,fun q hq=>hin q (h.eM q hq) (h.rM.lt q hq).2,fun x hx q hq=>hin q (h.eK x hx q hq) (qY (h.ch.kept x hx) hq),h.nLM,h.nK⟩
theorem YS.Qiz{w0 w:World}{wb:Nat}{κ:Kd}{cs:Value->Value->Array Value}{D:Nat->Prop}{l0:Value}{KL KM:List (Value×Nat)}{vL vM l:Value}{n m:Nat}(h:YS w0 w wb κ cs (Jl D l0 w0.heap.size) KL KM vL vM l n m):Touch (fun q=>q=wb\/D q\/l0.ownBlock=some q) w0 w :=h.tch.mono (fun q hq e=>e.imp (fun e=>e) (fun e=>e.imp (fun e=>e) (fun e=>e.elim (fun e=>e) (fun e=>by omega))))
theorem YS.start{w0 w:World}{wb:Nat}{κ:Kd}{cs:Value->Value->Array Value}{D:Nat->Prop}{K:List (Value×Nat)}{vL vM l:Value}{n m:Nat}(hG:aY w0 κ D vL vM K)(hp:w.heap[wb]?=some (.cells (cs vL vM) 56 (0,0)))(t:Touch (fun q=>q=wb\/l.ownBlock=some q) w0 w)(ro:w.ownsRow 0 κ.tE κ.z l n (Nk n (κ.pat m)))(hD:¬D wb)(hl:∀q,l.ownBlock=some q->¬D q/\q≠wb)(hw:wb<w0.heap.size): YS w0 w wb κ cs (Jl D l w0.heap.size) K K vL vM l n m:=by
 have hs:∀q,D q->¬(q=wb\/l.ownBlock=some q):=fun q hq e=>e.elim (fun e=>hD (e▸hq)) (fun e=>(hl q e).1 hq);have hG':=hG.keep t hs;refine⟨hp,hG'.rL,hG'.rM,⟨κ.len,hG'.kept,fun x hx q h1 h2=>absurd (hG.dK x hx q h1) (hl q h2).1⟩,ro,fun q hq=>.inl (hG.dL q hq),fun q hq=>.inl (hG.dM q hq),fun q hq=>.inr (.inl hq),fun x hx q hq=>.inl (hG.dK x hx q hq),hG.nLM,fun q hq=>⟨fun e=>(hl q hq).1 (hG.dL q e),fun e=>(hl q hq).1 (hG.dM q e)⟩,hG.nK,fun e=>?_,t.mono (fun q _ e=>e.imp (fun e=>e) (fun e=>.inr (.inl e))),fun q hq=>.inr (.inr hq)⟩;rcases e with e|e|e;.exact hD e
 .exact(hl wb e).2 rfl
 omega
@[reducible] def kF:Kd:=⟨30,9,41,2,gG,fun k=>.string (Dk k),Zn⟩
@[reducible] def csF(v0 v2 v3 v5 v6:Value)(M:Int):Value->Value->Array Value:=fun vL vM=>#[v0,vL,v2,v3,vM,v5,v6,.int .i64 M]
theorem Qf0(w:World)(wb m n:Nat)(v0 v2 v3 v5 v6 vL vM:Value)(D:Nat->Prop)(K:List (Value×Nat))(l:Value)(xs:List Value)(hp:w.heap[wb]?=some (.cells #[v0,vL,v2,v3,vM,v5,v6,.int .i64 (m:Int)] 56 (0,0)))(hG:aY w kF D vL vM K)(hD:¬D wb)(ho:w.ownsRow 0 41 2 l n xs)(hlq:∀q,l.ownBlock=some q->¬D q/\q≠wb)(hn:n<=10000000)(hm:m<=1073741823)(hfl:K.length<=1000000000): Calls Tryz.prog 104 #[.pointer (some ⟨wb,0,none⟩),l] w fun r w'=>r=.returned (.tuple #[])/\∃vL' vM' K',K'.length=K.length+9/\w'.heap[wb]?=some (.cells #[v0,vL',v2,v3,vM',v5,v6,.int .i64 ((m:Int)+1)] 56 (0,0))/\aY w' kF (wP D l w.heap.size w'.heap.size) vL' vM' K'/\Touch (fun q=>q=wb\/D q\/l.ownBlock=some q) w w':=by
 obtain⟨iE,hiE,hzE0,hzE1,hzE2⟩:=info_parts Tryz.zW;obtain⟨i6,hi6,hz60,hz61,hz62⟩:=info_parts Tryz.Qbk;obtain⟨iI,hiI,hzI0,hzI1,hzI2⟩:=info_parts Tryz.jW;have hwlt:wb<w.heap.size:=(Array.getElem?_eq_some_iff.1 hp).1;have HMK:Hid (Calls Tryz.prog 160 #[.pointer (some ⟨wb,0,none⟩)] w fun r w'=>r=.returned (.string (Dk (m+1)))/\w'=w.setCell ⟨wb,7,none⟩ (.int .i64 ((m:Int)+1))):=Qei w wb m (by rw[Ac hp];rfl) (Ew hp 7) (by omega);have T1:Touch (fun q=>q=wb) w (w.setCell ⟨wb,7,none⟩ (.int .i64 ((m:Int)+1))):=Bf w wb 7 _;have hp1:(w.setCell ⟨wb,7,none⟩ (.int .i64 ((m:Int)+1))).heap[wb]?=some (.cells #[v0,vL,v2,v3,vM,v5,v6,.int .i64 ((m:Int)+1)] 56 (0,0)):=(Dz hp 7 _).trans rfl;have ho1:=T1.owns ho (fun q hq e=>(hlq q hq).2 e);have ho1c:=ho1;obtain⟨a,cap,hl,hcap⟩:∃a cap,l=.slice a n cap/\n<=cap:=by
  obtain⟨_,⟨rfl,rfl⟩|⟨g,cap,cur,rfl,_,_,h3,_⟩⟩:=ho1c;.exact⟨none,0,rfl,Nat.le_refl _⟩
  exact⟨_,cap,rfl,h3⟩
 have HA:Hid (0<n->∃g,a=some ⟨g,0,none⟩):=fun h0=>by
  obtain⟨_,⟨_,e⟩|⟨g,cap2,cur,e,_⟩⟩:=ho1c;.omega
  rw[hl]at e;cases e;exact⟨g,rfl⟩
 have hM0:=Vt.start ho1 (m+1);have HG:Hid (aY w kF D vL vM K):=hG;obtain⟨l0,hl0⟩:∃l0,l0=l:=⟨_,rfl⟩;have HL0:Hid (l0=l):=hl0;rw[<-hl0];subst hl;obtain⟨nn,hnn⟩:∃nn,nn=n:=⟨_,rfl⟩;clear ho1c ho hG hl0;go_enter Tryz.func104,Tryz.ntmps104;rw[HL0.out];go_wp2_with fail;refine HMK.out.mono ?_;rintro e W1 ⟨rfl,hW1⟩;rw[<-hW1]at T1 hp1 ho1 hM0;clear hW1 HMK;go_wp2;go_loopw [5] (fun i wr=>∃k:Nat,k<=n/\i=.int .i64 (k:Int)/\Vt wr (.slice a n cap) n k (m+1)/\Touch (fun q=>(Value.slice a n cap).ownBlock=some q) W1 wr) (fun i wr=>n-(intOf i).toNat)
 case atStart=>exact⟨0,Nat.zero_le _,rfl,hM0,Touch.refl _ _⟩
 case round=>
  obtain⟨k,hk,rfl,hM,T2⟩:=hrel;by_cases hlt:k<n
  .obtain⟨g,rfl⟩:=HA.out (by omega);obtain⟨hr,_⟩:=hM.row _ cap rfl g rfl;obtain⟨⟨u0,e0⟩,f0⟩:=hr.cell (k*2) (by omega);obtain⟨⟨u1',e1⟩,f1⟩:=hr.cell (k*2+1) (by omega);have i1:(k:Int)<(n:Int):=by omega
   have HMS:Hid (∀w',w'=(wr.setCell ⟨g,k*2,none⟩ (.string (Dk (m+1)))).setCell ⟨g,k*2+1,none⟩ (.string (Dk (m+1)))->Vt w' (.slice (some ⟨g,0,none⟩) n cap) n (k+1) (m+1)):=fun w' hw'=>hM.set rfl hw' hlt hcap;have HTS:Hid (∀(i:Nat) (v:Value) (X:World),Touch (fun q=>(Value.slice (some ⟨g,0,none⟩) n cap).ownBlock=some q) W1 X->Touch (fun q=>(Value.slice (some ⟨g,0,none⟩) n cap).ownBlock=some q) W1 (X.setCell ⟨g,i,none⟩ v)):=fun i v X h=>h.setCell (p:=⟨g,i,none⟩) rfl v;clear hr hM;go_wp2;refine⟨⟨k+1,by omega,by go_num,HMS.out _ rfl,?_⟩,by simp[intOf];omega⟩;exact HTS.out _ _ _ (HTS.out _ _ _ T2)
  obtain rfl:n=k:=by omega
  have ro:=Vt.owns ho1 hM;have hwl:¬(Value.slice a n cap).ownBlock=some wb:=fun e=>(hlq wb e).2 rfl;have hp2:=(T2.block wb (Nat.lt_of_lt_of_le hwlt T1.size) hwl).trans hp1;have tt:Touch (fun q=>q=wb\/(Value.slice a n cap).ownBlock=some q) w wr:=(T1.mono (fun _ _ e=>.inl e)).trans (T2.mono (fun _ _ e=>.inr e));have hS:YS w wr wb kF (csF v0 v2 v3 v5 v6 ((m:Int)+1)) (Jl D (.slice a n cap) w.heap.size) K K vL vM (.slice a n cap) n (m+1):=YS.start HG.out hp2 tt ro hD hlq hwlt;rw[<-HL0.out]at hS;rw[HL0.out]at hS;rw[show(Jl D (Value.slice a n cap) w.heap.size)=Jl D l0 w.heap.size by rw[HL0.out]]at hS;clear hM T2 T1 hp1 ho1 HA hM0 ro hp2 tt HG hwl;subst hnn;have b1:K.length+1<=maxLen:=by unfold maxLen;omega
  have b2:(K.length+1)*24<=140737488355328:=by omega
  have b3:(K.length+1)*16<=140737488355328:=by omega
  have ca:wr.cell? ⟨wb,1,none⟩=some vL:=by rw[Ac hS.hp];rfl
  have HZ2:Hid (∀w3,Touch (fun q=>vL.ownBlock=some q) wr w3->w3.cell? ⟨wb,1,none⟩=some vL/\w3.frozen? ⟨wb,1,none⟩=false):=fun w3 t=>by
   have hw:¬vL.ownBlock=some wb:=fun e=>hS.nw (hS.eL wb e);exact⟨t.at ca hw,(t.frozen (p:=⟨wb,1,none⟩) hS.lt hw).trans (Ew hS.hp 1)⟩
  have HRE:Hid (∀o,(wr.alloc o).ownsRow 0 30 1 vL K.length (K.map (·.1))):=fun o=>hS.rL.alloc o;have HS0:Hid (YS w wr wb kF (csF v0 v2 v3 v5 v6 ((m:Int)+1)) (Jl D l0 w.heap.size) K K vL vM (.slice a nn cap) nn (m+1)):=hS;clear hS;go_upto_region 6 with(at_builtin;refine Bi rfl _ _ 52 rfl 0 30 iE (.slice none 0 0) 1 24 Tryz.underlying52 hiE hzE0 hzE1 hzE2 rfl (by decide) vL K.length (K.map (·.1)) rfl (HRE.out _) ⟨_,0,none⟩ 1 1 [.slice a nn cap] rfl rfl (cell_one_new _ _ _) (by simp[Value.oneCell']) (by decide) b1 b2 (Nat.zero_le _) ?_;intro g3 cap3 w3 ho3 hg3;have t3:=Grew.touch (w:=wr) hg3 ((Touch.refl _ wr).alloc _);obtain⟨z2,z3⟩:=HZ2.out w3 t3);have hS3:=HS0.out.Qba ((Touch.refl _ wr).alloc _) ho3 hg3 1 (fun v=>rfl) (by omega);clear ho3 hg3 t3 z2 z3 HZ2 HRE ca b2 HS0;obtain⟨vL3,hv3⟩:∃v,v=Value.slice (some ⟨g3,0,none⟩) (K.length+1) cap3:=⟨_,rfl⟩;rw[<-hv3]at hS3 ⊢;clear hv3;obtain⟨W3,hW3⟩:∃W,W=w3.setCell ⟨wb,1,none⟩ vL3:=⟨_,rfl⟩;rw[<-hW3]at hS3 ⊢;clear hW3;have cb:W3.cell? ⟨wb,4,none⟩=some vM:=by rw[Ac hS3.hp];rfl
  have HZ5:Hid (∀w5,Touch (fun q=>vM.ownBlock=some q) W3 w5->w5.cell? ⟨wb,4,none⟩=some vM/\w5.frozen? ⟨wb,4,none⟩=false):=fun w5 t=>by
   have hw:¬vM.ownBlock=some wb:=fun e=>hS3.nw (hS3.eM wb e);exact⟨t.at cb hw,(t.frozen (p:=⟨wb,4,none⟩) hS3.lt hw).trans (Ew hS3.hp 4)⟩
  have HRN:Hid (∀o,(W3.alloc o).ownsRow 0 9 1 vM K.length (K.map (fun x=>Value.string (Dk x.2)))):=fun o=>hS3.rM.alloc o;have HS3:Hid (YS w W3 wb kF (csF v0 v2 v3 v5 v6 ((m:Int)+1)) (Jl D l0 w.heap.size) (K++[(.slice a nn cap,m+1)]) K vL3 vM (.slice a nn cap) nn (m+1)):=hS3;clear hS3;go_upto_region 7 with(at_builtin;refine Bi rfl _ _ 45 rfl 0 9 iI (.string ⟨#[]⟩) 1 16 Tryz.underlying45 hiI hzI0 hzI1 hzI2 rfl (by decide) vM K.length (K.map (fun x=>Value.string (Dk x.2))) rfl (HRN.out _) ⟨_,0,none⟩ 1 1 [.string (Dk (m+1))] rfl rfl (cell_one_new _ _ _) (by simp[Value.oneCell']) (by decide) b1 b3 (Nat.zero_le _) ?_;intro g5 cap5 w5 ho5 hg5;have t5:=Grew.touch (w:=W3) hg5 ((Touch.refl _ W3).alloc _);obtain⟨y5,yf⟩:=HZ5.out w5 t5);have hcut:=HS3.out.yU ((Touch.refl _ W3).alloc _) ho5 hg5 4 (fun v=>rfl);clear ho5 hg5 t5 y5 yf HZ5 HRN cb b1 b3 HS3;obtain⟨v5',hv5⟩:∃v,v=Value.slice (some ⟨g5,0,none⟩) (K.length+1) cap5:=⟨_,rfl⟩;rw[<-hv5]at hcut ⊢;clear hv5;obtain⟨W5,hW5⟩:∃W,W=w5.setCell ⟨wb,4,none⟩ v5':=⟨_,rfl⟩;rw[<-hW5]at hcut ⊢;clear hW5;go_wp2;go_loopw [1,6] (fun lv i wr=>∃(i':Nat) (K':List (Value×Nat)) (n':Nat) (vL' vM':Value),i'<=8/\i=.int .i64 (i':Int)/\Hid (K'.length=K.length+1+i')/\Hid (n'=nn+i')/\YS w wr wb kF (csF v0 v2 v3 v5 v6 ((m:Int)+1)) (Jl D l0 w.heap.size) K' K' vL' vM' lv n' (m+1)) (fun lv i wr=>8-(intOf i).toNat)
  case atStart=>exact⟨0,_,nn,_,_,by omega,rfl,by unfold Hid;simp,by unfold Hid;omega,hcut⟩
  case round=>
   clear hcut;obtain⟨i,K2,n2,vL,vM,hi2,rfl,HL2,HN2,hS⟩:=hrel;have hl2:K2.length<=1000000009:=by have:=HL2.out;omega
   have hn2:n2<=10000008:=by have:=HN2.out;omega
   by_cases hlt:i<8
   .have i1:(i:Int)<8:=(by omega);have k1:n2+1<=maxLen:=(by unfold maxLen;omega);have k2:(n2+1)*32<=140737488355328:=(by omega);have HRL:Hid (∀o,(wr.alloc o).ownsRow 0 41 2 u1 n2 (Nk n2 (gG (m+1)))):=fun o=>hS.ro.alloc o;have HSR:Hid (YS w wr wb kF (csF v0 v2 v3 v5 v6 ((m:Int)+1)) (Jl D l0 w.heap.size) K2 K2 vL vM u1 n2 (m+1)):=hS;clear hS;go_upto_region 11 with(at_builtin;refine Bi rfl _ _ 30 rfl 0 41 i6 (.agg #[.string ⟨#[]⟩,.string ⟨#[]⟩]) 2 32 Tryz.underlying30 hi6 hz60 hz61 hz62 rfl (by decide) u1 n2 (Nk n2 (gG (m+1))) rfl (HRL.out _) ⟨wr.heap.size,0,none⟩ 1 1 [.string (Dk (m+1)),.string (Dk (m+1))] rfl rfl (Ia wr [.string (Dk (m+1)),.string (Dk (m+1))] 41) (by simp[Value.oneCell']) (by decide) k1 k2 (Nat.zero_le _) ?_;intro g2 cap2 w2 ho2 hg2);have tA:Touch (fun _=>False) wr (wr.alloc (Obj.cells #[.string (Dk (m+1)),.string (Dk (m+1))] 41)):=(Touch.refl (fun _=>False) wr).alloc _;have ho2':w2.ownsRow 0 41 2 (.slice (some ⟨g2,0,none⟩) (n2+1) cap2) (n2+1) (Nk (n2+1) (gG (m+1))):=by
     rw[bI];exact ho2
    have hS2:YS w w2 wb kF (csF v0 v2 v3 v5 v6 ((m:Int)+1)) (Jl D l0 w.heap.size) K2 K2 vL vM (.slice (some ⟨g2,0,none⟩) (n2+1) cap2) (n2+1) (m+1):=HSR.out.grow tA ho2' hg2 (by omega);clear hg2 tA ho2 ho2' HRL k1 k2 HSR;obtain⟨nn,hnn⟩:∃nn,nn=n2+1:=⟨_,rfl⟩;rw[<-hnn]at hS2 ⊢;have HNN:Hid (nn=n2+1):=hnn;have hnb:nn<=10000009:=(by omega);clear hnn;have b1:K2.length+1<=maxLen:=(by unfold maxLen;omega);have b2:(K2.length+1)*24<=140737488355328:=(by omega);have b3:(K2.length+1)*16<=140737488355328:=(by omega);have ca:w2.cell? ⟨wb,1,none⟩=some vL:=(by rw[Ac hS2.hp];rfl);have HZ2:Hid (∀w3,Touch (fun q=>vL.ownBlock=some q) w2 w3->w3.cell? ⟨wb,1,none⟩=some vL/\w3.frozen? ⟨wb,1,none⟩=false):=fun w3 t=>by
     have hw:¬vL.ownBlock=some wb:=fun e=>hS2.nw (hS2.eL wb e);exact⟨t.at ca hw,(t.frozen (p:=⟨wb,1,none⟩) hS2.lt hw).trans (Ew hS2.hp 1)⟩
    have HRE:Hid (∀o,(w2.alloc o).ownsRow 0 30 1 vL K2.length (K2.map (·.1))):=fun o=>hS2.rL.alloc o;have HS0:Hid (YS w w2 wb kF (csF v0 v2 v3 v5 v6 ((m:Int)+1)) (Jl D l0 w.heap.size) K2 K2 vL vM (.slice (some ⟨g2,0,none⟩) nn cap2) nn (m+1)):=hS2;clear hS2;go_upto_region 12 with(at_builtin;refine Bi rfl _ _ 52 rfl 0 30 iE (.slice none 0 0) 1 24 Tryz.underlying52 hiE hzE0 hzE1 hzE2 rfl (by decide) vL K2.length (K2.map (·.1)) rfl (HRE.out _) ⟨_,0,none⟩ 1 1 [.slice (some ⟨g2,0,none⟩) nn cap2] rfl rfl (cell_one_new _ _ _) (by simp[Value.oneCell']) (by decide) b1 b2 (Nat.zero_le _) ?_;intro g3 cap3 w3 ho3 hg3;have t3:=Grew.touch (w:=w2) hg3 ((Touch.refl _ w2).alloc _);obtain⟨z2,z3⟩:=HZ2.out w3 t3);have hS3:=HS0.out.Qba ((Touch.refl _ w2).alloc _) ho3 hg3 1 (fun v=>rfl) (by omega);clear ho3 hg3 t3 z2 z3 HZ2 HRE ca b2 HS0;obtain⟨vL3,hv3⟩:∃v,v=Value.slice (some ⟨g3,0,none⟩) (K2.length+1) cap3:=⟨_,rfl⟩;rw[<-hv3]at hS3 ⊢;clear hv3;obtain⟨W3,hW3⟩:∃W,W=w3.setCell ⟨wb,1,none⟩ vL3:=⟨_,rfl⟩;rw[<-hW3]at hS3 ⊢;clear hW3;have cb:W3.cell? ⟨wb,4,none⟩=some vM:=(by rw[Ac hS3.hp];rfl);have HZ5:Hid (∀w5,Touch (fun q=>vM.ownBlock=some q) W3 w5->w5.cell? ⟨wb,4,none⟩=some vM/\w5.frozen? ⟨wb,4,none⟩=false):=fun w5 t=>by
     have hw:¬vM.ownBlock=some wb:=fun e=>hS3.nw (hS3.eM wb e);exact⟨t.at cb hw,(t.frozen (p:=⟨wb,4,none⟩) hS3.lt hw).trans (Ew hS3.hp 4)⟩
    have HRN:Hid (∀o,(W3.alloc o).ownsRow 0 9 1 vM K2.length (K2.map (fun x=>Value.string (Dk x.2)))):=fun o=>hS3.rM.alloc o;have HS3:Hid (YS w W3 wb kF (csF v0 v2 v3 v5 v6 ((m:Int)+1)) (Jl D l0 w.heap.size) (K2++[(.slice (some ⟨g2,0,none⟩) nn cap2,m+1)]) K2 vL3 vM (.slice (some ⟨g2,0,none⟩) nn cap2) nn (m+1)):=hS3;clear hS3;go_upto_region 13 with(at_builtin;refine Bi rfl _ _ 45 rfl 0 9 iI (.string ⟨#[]⟩) 1 16 Tryz.underlying45 hiI hzI0 hzI1 hzI2 rfl (by decide) vM K2.length (K2.map (fun x=>Value.string (Dk x.2))) rfl (HRN.out _) ⟨_,0,none⟩ 1 1 [.string (Dk (m+1))] rfl rfl (cell_one_new _ _ _) (by simp[Value.oneCell']) (by decide) b1 b3 (Nat.zero_le _) ?_;intro g5 cap5 w5 ho5 hg5;have t5:=Grew.touch (w:=W3) hg5 ((Touch.refl _ W3).alloc _);obtain⟨y5,yf⟩:=HZ5.out w5 t5);have hcut:=HS3.out.yU ((Touch.refl _ W3).alloc _) ho5 hg5 4 (fun v=>rfl);clear ho5 hg5 t5 y5 yf HZ5 HRN cb b1 b3 HS3;obtain⟨v5',hv5⟩:∃v,v=Value.slice (some ⟨g5,0,none⟩) (K2.length+1) cap5:=⟨_,rfl⟩;rw[<-hv5]at hcut ⊢;clear hv5;obtain⟨W5,hW5⟩:∃W,W=w5.setCell ⟨wb,4,none⟩ v5':=⟨_,rfl⟩;rw[<-hW5]at hcut ⊢;clear hW5;go_wp2;exact⟨⟨i+1,_,_,_,_,by omega,by go_num,by have:=HL2.out;unfold Hid;simp;omega,by have:=HN2.out;have:=HNN.out;unfold Hid;omega,hcut⟩,by simp[intOf];omega⟩
   obtain rfl:8=i:=by omega
   have FIN:Hid (∃vL' vM' K',K'.length=K.length+9/\wr.heap[wb]?=some (.cells #[v0,vL',v2,v3,vM',v5,v6,.int .i64 ((m:Int)+1)] 56 (0,0))/\aY wr kF (wP D l0 w.heap.size wr.heap.size) vL' vM' K'/\Touch (fun q=>q=wb\/D q\/l0.ownBlock=some q) w wr):=⟨vL,vM,K2,by have:=HL2.out;omega,hS.hp,hS.grp,hS.Qiz⟩;clear hS;go_wp2;go_end0;have hfin:=FIN.out;rw[HL0.out]at hfin;exact⟨rfl,hfin⟩
theorem Tryz.Qbx:(Tryz.prog.info? 45).map (fun i=>(i.zero,i.size,i.bytes))=some (some (.slice none 0 0),1,24):=by kernel_rfl
def oK(k:Nat):List Value:=[.string (Dk k)]
theorem Wl(k:Nat):(oK k).length=1:=rfl
@[reducible] def kN:Kd:=⟨45,9,9,1,oK,fun k=>.string (Dk k),Wl⟩
@[reducible] def csN(v0 v1 v2 v4 v5:Value)(M:Int):Value->Value->Array Value:=fun vL vM=>#[v0,v1,v2,vL,v4,v5,vM,.int .i64 M]
structure Wy (w:World) (l:Value) (n k m:Nat):Prop where
 row:∀a cap,l=.slice a n cap->∀g,a=some ⟨g,0,none⟩->dE w g 9 (cap*1)/\∀j,j<k->w.cell? ⟨g,j,none⟩=some (.string (Dk m))
theorem Wy.start{w:World}{base n:Nat}{l:Value}{xs:List Value}(h:w.ownsRow base 9 1 l n xs)(m:Nat):Wy w l n 0 m:=by
 refine⟨fun a cap hl g ha=>⟨?_,fun j hj=>by omega⟩⟩;obtain⟨h1,⟨h2,_⟩|⟨g',cap',cur,e,hb,hg,h3,h4,h5,h6⟩⟩:=h;.rw[hl]at h2;cases h2;cases ha
 rw[hl]at e;cases e;cases ha;exact⟨cur,hg,h5⟩
theorem Wy.owns{w w':World}{base n m:Nat}{l:Value}{xs:List Value}(h:w.ownsRow base 9 1 l n xs)(hM:Wy w' l n n m):w'.ownsRow base 9 1 l n (Nk n (oK m)):=by
 obtain⟨h1,⟨rfl,rfl⟩|⟨g,cap,cur,rfl,hb,hg,h3,h4,h5,h6⟩⟩:=h;.exact World.ownsRow_nil _ _ _ _
 obtain⟨hr,hc⟩:=hM.row _ cap rfl g rfl;refine hr.owns hb h3 h4 (by rw[kJ,Wl]) (fun j hj=>?_);have e2:=We (oK m) n j 0 (by omega) (by rw[Wl];omega);rw[Wl,Nat.mul_one,Nat.add_zero]at e2;rw[hc j (by omega),e2];rfl
theorem Wy.set{w w':World}{l:Value}{n k m g cap:Nat}(h:Wy w l n k m)(hl:l=.slice (some ⟨g,0,none⟩) n cap)(hw:w'=w.setCell ⟨g,k,none⟩ (.string (Dk m)))(hk:k<n)(hc:n<=cap):Wy w' l n (k+1) m:=by
 refine⟨fun a cap' hl' g' ha=>?_⟩;rw[hl]at hl';cases hl';cases ha;obtain⟨hr,hcl⟩:=h.row _ cap hl g rfl;have hr':dE w' g 9 (cap*1):=by rw[hw];exact hr.set _ _ _
 refine⟨hr',fun j hj=>?_⟩;rw[hw,Ad];by_cases e:k=j
 .subst e;obtain⟨⟨u,hu⟩,_⟩:=hr.cell k (by omega);rw[if_pos ⟨rfl,rfl⟩,hu];rfl
 rw[if_neg (fun h=>e h.2)];exact hcl j (by omega)
theorem Qd3(w:World)(wb m n:Nat)(v0 v1 v2 v4 v5 vL vM:Value)(D:Nat->Prop)(K:List (Value×Nat))(l:Value)(xs:List Value)(hp:w.heap[wb]?=some (.cells #[v0,v1,v2,vL,v4,v5,vM,.int .i64 (m:Int)] 56 (0,0)))(hG:aY w kN D vL vM K)(hD:¬D wb)(ho:w.ownsRow 0 9 1 l n xs)(hlq:∀q,l.ownBlock=some q->¬D q/\q≠wb)(hn:n<=10000000)(hm:m<=1073741823)(hfl:K.length<=1000000000): Calls Tryz.prog 108 #[.pointer (some ⟨wb,0,none⟩),l] w fun r w'=>r=.returned (.tuple #[])/\∃vL' vM' K',K'.length=K.length+9/\w'.heap[wb]?=some (.cells #[v0,v1,v2,vL',v4,v5,vM',.int .i64 ((m:Int)+1)] 56 (0,0))/\aY w' kN (wP D l w.heap.size w'.heap.size) vL' vM' K'/\Touch (fun q=>q=wb\/D q\/l.ownBlock=some q) w w':=by
 obtain⟨iE,hiE,hzE0,hzE1,hzE2⟩:=info_parts Tryz.Qbx;obtain⟨i6,hi6,hz60,hz61,hz62⟩:=info_parts Tryz.jW;obtain⟨iI,hiI,hzI0,hzI1,hzI2⟩:=info_parts Tryz.jW;have hwlt:wb<w.heap.size:=(Array.getElem?_eq_some_iff.1 hp).1;have HMK:Hid (Calls Tryz.prog 160 #[.pointer (some ⟨wb,0,none⟩)] w fun r w'=>r=.returned (.string (Dk (m+1)))/\w'=w.setCell ⟨wb,7,none⟩ (.int .i64 ((m:Int)+1))):=Qei w wb m (by rw[Ac hp];rfl) (Ew hp 7) (by omega);have T1:Touch (fun q=>q=wb) w (w.setCell ⟨wb,7,none⟩ (.int .i64 ((m:Int)+1))):=Bf w wb 7 _;have hp1:(w.setCell ⟨wb,7,none⟩ (.int .i64 ((m:Int)+1))).heap[wb]?=some (.cells #[v0,v1,v2,vL,v4,v5,vM,.int .i64 ((m:Int)+1)] 56 (0,0)):=(Dz hp 7 _).trans rfl;have ho1:=T1.owns ho (fun q hq e=>(hlq q hq).2 e);have ho1c:=ho1;obtain⟨a,cap,hl,hcap⟩:∃a cap,l=.slice a n cap/\n<=cap:=by
  obtain⟨_,⟨rfl,rfl⟩|⟨g,cap,cur,rfl,_,_,h3,_⟩⟩:=ho1c;.exact⟨none,0,rfl,Nat.le_refl _⟩
  exact⟨_,cap,rfl,h3⟩
 have HA:Hid (0<n->∃g,a=some ⟨g,0,none⟩):=fun h0=>by
  obtain⟨_,⟨_,e⟩|⟨g,cap2,cur,e,_⟩⟩:=ho1c;.omega
  rw[hl]at e;cases e;exact⟨g,rfl⟩
 have hM0:=Wy.start ho1 (m+1);have HG:Hid (aY w kN D vL vM K):=hG;obtain⟨l0,hl0⟩:∃l0,l0=l:=⟨_,rfl⟩;have HL0:Hid (l0=l):=hl0;rw[<-hl0];subst hl;obtain⟨nn,hnn⟩:∃nn,nn=n:=⟨_,rfl⟩;clear ho1c ho hG hl0;go_enter Tryz.func108,Tryz.ntmps108;rw[HL0.out];go_wp2_with fail;refine HMK.out.mono ?_;rintro e W1 ⟨rfl,hW1⟩;rw[<-hW1]at T1 hp1 ho1 hM0;clear hW1 HMK;go_wp2;go_loopw [5] (fun i wr=>∃k:Nat,k<=n/\i=.int .i64 (k:Int)/\Wy wr (.slice a n cap) n k (m+1)/\Touch (fun q=>(Value.slice a n cap).ownBlock=some q) W1 wr) (fun i wr=>n-(intOf i).toNat)
 case atStart=>exact⟨0,Nat.zero_le _,rfl,hM0,Touch.refl _ _⟩
 case round=>
  obtain⟨k,hk,rfl,hM,T2⟩:=hrel;by_cases hlt:k<n
  .obtain⟨g,rfl⟩:=HA.out (by omega);obtain⟨hr,_⟩:=hM.row _ cap rfl g rfl;obtain⟨⟨u0,e0⟩,f0⟩:=hr.cell k (by omega);have i1:(k:Int)<(n:Int):=by omega
   have HMS:Hid (∀w',w'=wr.setCell ⟨g,k,none⟩ (.string (Dk (m+1)))->Wy w' (.slice (some ⟨g,0,none⟩) n cap) n (k+1) (m+1)):=fun w' hw'=>hM.set rfl hw' hlt hcap;have HTS:Hid (∀(i:Nat) (v:Value) (X:World),Touch (fun q=>(Value.slice (some ⟨g,0,none⟩) n cap).ownBlock=some q) W1 X->Touch (fun q=>(Value.slice (some ⟨g,0,none⟩) n cap).ownBlock=some q) W1 (X.setCell ⟨g,i,none⟩ v)):=fun i v X h=>h.setCell (p:=⟨g,i,none⟩) rfl v;clear hr hM;go_wp2;refine⟨⟨k+1,by omega,by go_num,HMS.out _ rfl,?_⟩,by simp[intOf];omega⟩;exact HTS.out _ _ _ T2
  obtain rfl:n=k:=by omega
  have ro:=Wy.owns ho1 hM;have hwl:¬(Value.slice a n cap).ownBlock=some wb:=fun e=>(hlq wb e).2 rfl;have hp2:=(T2.block wb (Nat.lt_of_lt_of_le hwlt T1.size) hwl).trans hp1;have tt:Touch (fun q=>q=wb\/(Value.slice a n cap).ownBlock=some q) w wr:=(T1.mono (fun _ _ e=>.inl e)).trans (T2.mono (fun _ _ e=>.inr e));have hS:YS w wr wb kN (csN v0 v1 v2 v4 v5 ((m:Int)+1)) (Jl D (.slice a n cap) w.heap.size) K K vL vM (.slice a n cap) n (m+1):=YS.start HG.out hp2 tt ro hD hlq hwlt;rw[<-HL0.out]at hS;rw[HL0.out]at hS;rw[show(Jl D (Value.slice a n cap) w.heap.size)=Jl D l0 w.heap.size by rw[HL0.out]]at hS;clear hM T2 T1 hp1 ho1 HA hM0 ro hp2 tt HG hwl;subst hnn;have b1:K.length+1<=maxLen:=by unfold maxLen;omega
  have b2:(K.length+1)*24<=140737488355328:=by omega
  have b3:(K.length+1)*16<=140737488355328:=by omega
  have ca:wr.cell? ⟨wb,3,none⟩=some vL:=by rw[Ac hS.hp];rfl
  have HZ2:Hid (∀w3,Touch (fun q=>vL.ownBlock=some q) wr w3->w3.cell? ⟨wb,3,none⟩=some vL/\w3.frozen? ⟨wb,3,none⟩=false):=fun w3 t=>by
   have hw:¬vL.ownBlock=some wb:=fun e=>hS.nw (hS.eL wb e);exact⟨t.at ca hw,(t.frozen (p:=⟨wb,3,none⟩) hS.lt hw).trans (Ew hS.hp 3)⟩
  have HRE:Hid (∀o,(wr.alloc o).ownsRow 0 45 1 vL K.length (K.map (·.1))):=fun o=>hS.rL.alloc o;have HS0:Hid (YS w wr wb kN (csN v0 v1 v2 v4 v5 ((m:Int)+1)) (Jl D l0 w.heap.size) K K vL vM (.slice a nn cap) nn (m+1)):=hS;clear hS;go_upto_region 6 with(at_builtin;refine Bi rfl _ _ 54 rfl 0 45 iE (.slice none 0 0) 1 24 Tryz.underlying54 hiE hzE0 hzE1 hzE2 rfl (by decide) vL K.length (K.map (·.1)) rfl (HRE.out _) ⟨_,0,none⟩ 1 1 [.slice a nn cap] rfl rfl (cell_one_new _ _ _) (by simp[Value.oneCell']) (by decide) b1 b2 (Nat.zero_le _) ?_;intro g3 cap3 w3 ho3 hg3;have t3:=Grew.touch (w:=wr) hg3 ((Touch.refl _ wr).alloc _);obtain⟨z2,z3⟩:=HZ2.out w3 t3);have hS3:=HS0.out.Qba ((Touch.refl _ wr).alloc _) ho3 hg3 3 (fun v=>rfl) (by omega);clear ho3 hg3 t3 z2 z3 HZ2 HRE ca b2 HS0;obtain⟨vL3,hv3⟩:∃v,v=Value.slice (some ⟨g3,0,none⟩) (K.length+1) cap3:=⟨_,rfl⟩;rw[<-hv3]at hS3 ⊢;clear hv3;obtain⟨W3,hW3⟩:∃W,W=w3.setCell ⟨wb,3,none⟩ vL3:=⟨_,rfl⟩;rw[<-hW3]at hS3 ⊢;clear hW3;have cb:W3.cell? ⟨wb,6,none⟩=some vM:=by rw[Ac hS3.hp];rfl
  have HZ5:Hid (∀w5,Touch (fun q=>vM.ownBlock=some q) W3 w5->w5.cell? ⟨wb,6,none⟩=some vM/\w5.frozen? ⟨wb,6,none⟩=false):=fun w5 t=>by
   have hw:¬vM.ownBlock=some wb:=fun e=>hS3.nw (hS3.eM wb e);exact⟨t.at cb hw,(t.frozen (p:=⟨wb,6,none⟩) hS3.lt hw).trans (Ew hS3.hp 6)⟩
  have HRN:Hid (∀o,(W3.alloc o).ownsRow 0 9 1 vM K.length (K.map (fun x=>Value.string (Dk x.2)))):=fun o=>hS3.rM.alloc o;have HS3:Hid (YS w W3 wb kN (csN v0 v1 v2 v4 v5 ((m:Int)+1)) (Jl D l0 w.heap.size) (K++[(.slice a nn cap,m+1)]) K vL3 vM (.slice a nn cap) nn (m+1)):=hS3;clear hS3;go_upto_region 7 with(at_builtin;refine Bi rfl _ _ 45 rfl 0 9 iI (.string ⟨#[]⟩) 1 16 Tryz.underlying45 hiI hzI0 hzI1 hzI2 rfl (by decide) vM K.length (K.map (fun x=>Value.string (Dk x.2))) rfl (HRN.out _) ⟨_,0,none⟩ 1 1 [.string (Dk (m+1))] rfl rfl (cell_one_new _ _ _) (by simp[Value.oneCell']) (by decide) b1 b3 (Nat.zero_le _) ?_;intro g5 cap5 w5 ho5 hg5;have t5:=Grew.touch (w:=W3) hg5 ((Touch.refl _ W3).alloc _);obtain⟨y5,yf⟩:=HZ5.out w5 t5);have hcut:=HS3.out.yU ((Touch.refl _ W3).alloc _) ho5 hg5 6 (fun v=>rfl);clear ho5 hg5 t5 y5 yf HZ5 HRN cb b1 b3 HS3;obtain⟨v5',hv5⟩:∃v,v=Value.slice (some ⟨g5,0,none⟩) (K.length+1) cap5:=⟨_,rfl⟩;rw[<-hv5]at hcut ⊢;clear hv5;obtain⟨W5,hW5⟩:∃W,W=w5.setCell ⟨wb,6,none⟩ v5':=⟨_,rfl⟩;rw[<-hW5]at hcut ⊢;clear hW5;go_wp2;go_loopw [1,6] (fun lv i wr=>∃(i':Nat) (K':List (Value×Nat)) (n':Nat) (vL' vM':Value),i'<=8/\i=.int .i64 (i':Int)/\Hid (K'.length=K.length+1+i')/\Hid (n'=nn+i')/\YS w wr wb kN (csN v0 v1 v2 v4 v5 ((m:Int)+1)) (Jl D l0 w.heap.size) K' K' vL' vM' lv n' (m+1)) (fun lv i wr=>8-(intOf i).toNat)
  case atStart=>exact⟨0,_,nn,_,_,by omega,rfl,by unfold Hid;simp,by unfold Hid;omega,hcut⟩
  case round=>
   clear hcut;obtain⟨i,K2,n2,vL,vM,hi2,rfl,HL2,HN2,hS⟩:=hrel;have hl2:K2.length<=1000000009:=by have:=HL2.out;omega
   have hn2:n2<=10000008:=by have:=HN2.out;omega
   by_cases hlt:i<8
   .have i1:(i:Int)<8:=(by omega);have k1:n2+1<=maxLen:=(by unfold maxLen;omega);have k2:(n2+1)*16<=140737488355328:=(by omega);have HRL:Hid (∀o,(wr.alloc o).ownsRow 0 9 1 u1 n2 (Nk n2 (oK (m+1)))):=fun o=>hS.ro.alloc o;have HSR:Hid (YS w wr wb kN (csN v0 v1 v2 v4 v5 ((m:Int)+1)) (Jl D l0 w.heap.size) K2 K2 vL vM u1 n2 (m+1)):=hS;clear hS;go_upto_region 11 with(at_builtin;refine Bi rfl _ _ 45 rfl 0 9 i6 (.string ⟨#[]⟩) 1 16 Tryz.underlying45 hi6 hz60 hz61 hz62 rfl (by decide) u1 n2 (Nk n2 (oK (m+1))) rfl (HRL.out _) ⟨wr.heap.size,0,none⟩ 1 1 [.string (Dk (m+1))] rfl rfl (Ia wr [.string (Dk (m+1))] 9) (by simp[Value.oneCell']) (by decide) k1 k2 (Nat.zero_le _) ?_;intro g2 cap2 w2 ho2 hg2);have tA:Touch (fun _=>False) wr (wr.alloc (Obj.cells #[.string (Dk (m+1))] 9)):=(Touch.refl (fun _=>False) wr).alloc _;have ho2':w2.ownsRow 0 9 1 (.slice (some ⟨g2,0,none⟩) (n2+1) cap2) (n2+1) (Nk (n2+1) (oK (m+1))):=by
     rw[bI];exact ho2
    have hS2:YS w w2 wb kN (csN v0 v1 v2 v4 v5 ((m:Int)+1)) (Jl D l0 w.heap.size) K2 K2 vL vM (.slice (some ⟨g2,0,none⟩) (n2+1) cap2) (n2+1) (m+1):=HSR.out.grow tA ho2' hg2 (by omega);clear hg2 tA ho2 ho2' HRL k1 k2 HSR;obtain⟨nn,hnn⟩:∃nn,nn=n2+1:=⟨_,rfl⟩;rw[<-hnn]at hS2 ⊢;have HNN:Hid (nn=n2+1):=hnn;have hnb:nn<=10000009:=(by omega);clear hnn;have b1:K2.length+1<=maxLen:=(by unfold maxLen;omega);have b2:(K2.length+1)*24<=140737488355328:=(by omega);have b3:(K2.length+1)*16<=140737488355328:=(by omega);have ca:w2.cell? ⟨wb,3,none⟩=some vL:=(by rw[Ac hS2.hp];rfl);have HZ2:Hid (∀w3,Touch (fun q=>vL.ownBlock=some q) w2 w3->w3.cell? ⟨wb,3,none⟩=some vL/\w3.frozen? ⟨wb,3,none⟩=false):=fun w3 t=>by
     have hw:¬vL.ownBlock=some wb:=fun e=>hS2.nw (hS2.eL wb e);exact⟨t.at ca hw,(t.frozen (p:=⟨wb,3,none⟩) hS2.lt hw).trans (Ew hS2.hp 3)⟩
    have HRE:Hid (∀o,(w2.alloc o).ownsRow 0 45 1 vL K2.length (K2.map (·.1))):=fun o=>hS2.rL.alloc o;have HS0:Hid (YS w w2 wb kN (csN v0 v1 v2 v4 v5 ((m:Int)+1)) (Jl D l0 w.heap.size) K2 K2 vL vM (.slice (some ⟨g2,0,none⟩) nn cap2) nn (m+1)):=hS2;clear hS2;go_upto_region 12 with(at_builtin;refine Bi rfl _ _ 54 rfl 0 45 iE (.slice none 0 0) 1 24 Tryz.underlying54 hiE hzE0 hzE1 hzE2 rfl (by decide) vL K2.length (K2.map (·.1)) rfl (HRE.out _) ⟨_,0,none⟩ 1 1 [.slice (some ⟨g2,0,none⟩) nn cap2] rfl rfl (cell_one_new _ _ _) (by simp[Value.oneCell']) (by decide) b1 b2 (Nat.zero_le _) ?_;intro g3 cap3 w3 ho3 hg3;have t3:=Grew.touch (w:=w2) hg3 ((Touch.refl _ w2).alloc _);obtain⟨z2,z3⟩:=HZ2.out w3 t3);have hS3:=HS0.out.Qba ((Touch.refl _ w2).alloc _) ho3 hg3 3 (fun v=>rfl) (by omega);clear ho3 hg3 t3 z2 z3 HZ2 HRE ca b2 HS0;obtain⟨vL3,hv3⟩:∃v,v=Value.slice (some ⟨g3,0,none⟩) (K2.length+1) cap3:=⟨_,rfl⟩;rw[<-hv3]at hS3 ⊢;clear hv3;obtain⟨W3,hW3⟩:∃W,W=w3.setCell ⟨wb,3,none⟩ vL3:=⟨_,rfl⟩;rw[<-hW3]at hS3 ⊢;clear hW3;have cb:W3.cell? ⟨wb,6,none⟩=some vM:=(by rw[Ac hS3.hp];rfl);have HZ5:Hid (∀w5,Touch (fun q=>vM.ownBlock=some q) W3 w5->w5.cell? ⟨wb,6,none⟩=some vM/\w5.frozen? ⟨wb,6,none⟩=false):=fun w5 t=>by
     have hw:¬vM.ownBlock=some wb:=fun e=>hS3.nw (hS3.eM wb e);exact⟨t.at cb hw,(t.frozen (p:=⟨wb,6,none⟩) hS3.lt hw).trans (Ew hS3.hp 6)⟩
    have HRN:Hid (∀o,(W3.alloc o).ownsRow 0 9 1 vM K2.length (K2.map (fun x=>Value.string (Dk x.2)))):=fun o=>hS3.rM.alloc o;have HS3:Hid (YS w W3 wb kN (csN v0 v1 v2 v4 v5 ((m:Int)+1)) (Jl D l0 w.heap.size) (K2++[(.slice (some ⟨g2,0,none⟩) nn cap2,m+1)]) K2 vL3 vM (.slice (some ⟨g2,0,none⟩) nn cap2) nn (m+1)):=hS3;clear hS3;go_upto_region 13 with(at_builtin;refine Bi rfl _ _ 45 rfl 0 9 iI (.string ⟨#[]⟩) 1 16 Tryz.underlying45 hiI hzI0 hzI1 hzI2 rfl (by decide) vM K2.length (K2.map (fun x=>Value.string (Dk x.2))) rfl (HRN.out _) ⟨_,0,none⟩ 1 1 [.string (Dk (m+1))] rfl rfl (cell_one_new _ _ _) (by simp[Value.oneCell']) (by decide) b1 b3 (Nat.zero_le _) ?_;intro g5 cap5 w5 ho5 hg5;have t5:=Grew.touch (w:=W3) hg5 ((Touch.refl _ W3).alloc _);obtain⟨y5,yf⟩:=HZ5.out w5 t5);have hcut:=HS3.out.yU ((Touch.refl _ W3).alloc _) ho5 hg5 6 (fun v=>rfl);clear ho5 hg5 t5 y5 yf HZ5 HRN cb b1 b3 HS3;obtain⟨v5',hv5⟩:∃v,v=Value.slice (some ⟨g5,0,none⟩) (K2.length+1) cap5:=⟨_,rfl⟩;rw[<-hv5]at hcut ⊢;clear hv5;obtain⟨W5,hW5⟩:∃W,W=w5.setCell ⟨wb,6,none⟩ v5':=⟨_,rfl⟩;rw[<-hW5]at hcut ⊢;clear hW5;go_wp2;exact⟨⟨i+1,_,_,_,_,by omega,by go_num,by have:=HL2.out;unfold Hid;simp;omega,by have:=HN2.out;have:=HNN.out;unfold Hid;omega,hcut⟩,by simp[intOf];omega⟩
   obtain rfl:8=i:=by omega
   have FIN:Hid (∃vL' vM' K',K'.length=K.length+9/\wr.heap[wb]?=some (.cells #[v0,v1,v2,vL',v4,v5,vM',.int .i64 ((m:Int)+1)] 56 (0,0))/\aY wr kN (wP D l0 w.heap.size wr.heap.size) vL' vM' K'/\Touch (fun q=>q=wb\/D q\/l0.ownBlock=some q) w wr):=⟨vL,vM,K2,by have:=HL2.out;omega,hS.hp,hS.grp,hS.Qiz⟩;clear hS;go_wp2;go_end0;have hfin:=FIN.out;rw[HL0.out]at hfin;exact⟨rfl,hfin⟩
end Go.Proofs.YtmhlkdlcpicekaaGreatDoor
