/- Joined. -/
import Derived.Test.YtmhlkdlcpicekaaGreatDoorRows
import Derived.WalkKit
import Derived.WalkSpells
import Derived.WalkLawsBesides
import Derived.Deep.Draws
import Derived.BigRegion
import Derived.Deep.QuietTactic
import Derived.BigQuiet
import Derived.Deep.Light
import Derived.Deep.RegionWith
set_option linter.unusedSimpArgs false
set_option linter.unusedVariables false
set_option maxRecDepth 100000
set_option maxHeartbeats 20000000
namespace Go.Proofs.YtmhlkdlcpicekaaGreatDoor
open Go.RowKit
structure Touch (S:Nat->Prop) (w w':World):Prop where
 os:w'.os=w.os
 tape:w'.tape=w.tape
 output:w'.output=w.output
 size:w.heap.size<=w'.heap.size
 block:∀k,k<w.heap.size->¬S k->w'.heap[k]?=w.heap[k]?
theorem Touch.refl(S:Nat->Prop)(w:World):Touch S w w:=⟨rfl,rfl,rfl,Nat.le_refl _,fun _ _ _=>rfl⟩
theorem Touch.trans{S:Nat->Prop}{a b c:World}(h:Touch S a b)(k:Touch S b c):Touch S a c:=
 ⟨k.os.trans h.os,k.tape.trans h.tape,k.output.trans h.output,Nat.le_trans h.size k.size,fun i hi hs=>(k.block i (Nat.lt_of_lt_of_le hi h.size) hs).trans (h.block i hi hs)⟩
theorem Touch.mono{S T:Nat->Prop}{a b:World}(h:Touch S a b)(hs:∀k,k<a.heap.size->S k->T k):Touch T a b:=
 ⟨h.os,h.tape,h.output,h.size,fun k hk ht=>h.block k hk (fun e=>ht (hs k hk e))⟩
theorem Touch.drew{S:Nat->Prop}{a b:World}(h:Touch S a b):Touch S a b.drew:=⟨h.os,h.tape,h.output,h.size,h.block⟩
theorem Touch.drewN{S:Nat->Prop}{a b:World}(h:Touch S a b)(n:Nat):Touch S a (b.drewN n):=⟨h.os,h.tape,h.output,h.size,h.block⟩
theorem Touch.setCell{S:Nat->Prop}{a b:World}(h:Touch S a b){p:Addr}(hp:S p.block)(u:Value):Touch S a (b.setCell p u) :=h.trans ⟨rfl,rfl,rfl,by simp[World.setCell],fun k _ hs=>Below.heap_setCell _ _ _ _ (fun e=>hs (e▸hp))⟩
theorem Touch.Ag{S:Nat->Prop}{a b:World}(h:Touch S a b){p:Addr}(hp:a.heap.size<=p.block)(u:Value):Touch S a (b.setCell p u) :=⟨h.os,h.tape,h.output,by simp[World.setCell];exact h.size,fun k hk hs=>(Below.heap_setCell _ _ _ _ (by omega)).trans (h.block k hk hs)⟩
theorem Touch.setRow{S:Nat->Prop}{a b:World}(h:Touch S a b){g:Nat}(hp:a.heap.size<=g)(cs:Array Value):Touch S a (b.setRow g cs) :=⟨h.os,h.tape,h.output,by simpa using h.size,fun k hk hs=>(setRow_other b g k _ (by omega)).trans (h.block k hk hs)⟩
theorem Touch.Fa{S:Nat->Prop}{a w w':World}{row:Option Nat}(h:Touch S a w)(hg:w.grownBy w' row)(hr:∀k,row=some k->a.heap.size<=k):Touch S a w' :=⟨hg.os.trans h.os,hg.tape.trans h.tape,hg.output.trans h.output,Nat.le_trans h.size hg.size,fun k hk hs=>(hg.block k (Nat.lt_of_lt_of_le hk h.size) (fun e=>by have:=hr k e.symm;omega)).trans (h.block k hk hs)⟩
theorem Touch.alloc{S:Nat->Prop}{a b:World}(h:Touch S a b)(o:Obj):Touch S a (b.alloc o) :=h.trans ⟨rfl,rfl,rfl,by simp,fun k hk _=>Below.heap_alloc _ _ _ hk⟩
theorem Touch.grown{S:Nat->Prop}{a w w':World}{row:Option Nat}(h:Touch S a w)(hg:w.grownBy w' row)(hr:∀k,row=some k->S k):Touch S a w':=
 h.trans ⟨hg.os,hg.tape,hg.output,hg.size,fun k hk hs=>hg.block k hk (fun e=>hs (hr k e.symm))⟩
theorem Touch.fresh{w w':World}(h:Touch (fun k=>w.heap.size<=k) w w'):Touch (fun _=>False) w w':=h.mono (fun _ hk hs=>Nat.not_lt.2 hs hk)
theorem Touch.Lt{w w':World}(h:Below w.heap.size w w')(S:Nat->Prop):Touch S w w':=⟨h.os,h.tape,h.output,h.size,fun k hk _=>h.block k hk⟩
theorem Touch.toBelow{S:Nat->Prop}{w w':World}(h:Touch S w w'){B:Nat}(hB:B<=w.heap.size)(hs:∀k,k<B->¬S k):Below B w w':=
 ⟨h.os,h.tape,h.output,h.size,fun k hk=>h.block k (Nat.lt_of_lt_of_le hk hB) (hs k hk)⟩
theorem Touch.cell{S:Nat->Prop}{w w':World}(h:Touch S w w'){p:Addr}(hp:p.block<w.heap.size)(hs:¬S p.block):w'.cell? p=w.cell? p:=World.cell?_of_block (w:=w) (h.block p.block hp hs)
theorem Touch.frozen{S:Nat->Prop}{w w':World}(h:Touch S w w'){p:Addr}(hp:p.block<w.heap.size)(hs:¬S p.block):w'.frozen? p=w.frozen? p:=World.frozen?_of_block (w:=w) (h.block p.block hp hs)
theorem Touch.at{S:Nat->Prop}{w w':World}(h:Touch S w w'){p:Addr}{v:Value}(hv:w.cell? p=some v)(hs:¬S p.block):w'.cell? p=some v:=
 (h.cell (World.block_lt_of_cell? w p hv) hs).trans hv
theorem Touch.owns{S:Nat->Prop}{w w':World}(h:Touch S w w'){base:Nat}{e:TypeId}{size:Nat}{v:Value}{n:Nat}{xs:List Value}(ho:w.ownsRow base e size v n xs)(hs:∀k,v.ownBlock=some k->¬S k):w'.ownsRow base e size v n xs:=by
 refine⟨ho.1,?_⟩;rcases ho.2 with hn|⟨g,cap,cur,rfl,hb,hgg,rest⟩;.exact .inl hn
 refine .inr ⟨g,cap,cur,rfl,hb,?_,rest⟩;rw[h.block g (Array.getElem?_eq_some_iff.1 hgg).1 (hs g rfl)];exact hgg
def Typed(w:World)(k:Nat)(t:TypeId):Prop:=∃cs fr,w.heap[k]?=some (.cells cs t fr)
theorem Typed.lt{w:World}{k:Nat}{t:TypeId}(h:Typed w k t):k<w.heap.size:=by
 obtain⟨cs,fr,h⟩:=h;exact(Array.getElem?_eq_some_iff.1 h).1
theorem Typed.keep{S:Nat->Prop}{w w':World}{k:Nat}{t:TypeId}(h:Typed w k t)(ht:Touch S w w')(hs:¬S k):Typed w' k t:=by
 have hl:=h.lt;obtain⟨cs,fr,h⟩:=h;exact⟨cs,fr,(ht.block k hl hs).trans h⟩
theorem Typed.ne{w:World}{k:Nat}{t u:TypeId}(h:Typed w k t)(h':Typed w k u):t=u:=by
 obtain⟨cs,fr,h⟩:=h;obtain⟨cs',fr',h'⟩:=h';rw[h]at h';cases h';rfl
theorem Typed.owned{w:World}{base:Nat}{e:TypeId}{size:Nat}{v:Value}{n:Nat}{xs:List Value}(h:w.ownsRow base e size v n xs){k:Nat}(hk:v.ownBlock=some k):Typed w k e:=by
 rcases h.2 with⟨rfl,_⟩|⟨g,cap,cur,rfl,_,hg,_⟩;.cases hk
 cases hk;exact⟨_,_,hg⟩
theorem Typed.set{w:World}{k:Nat}{t:TypeId}(h:Typed w k t)(a:Addr)(v:Value):Typed (w.setCell a v) k t:=by
 obtain⟨cs,fr,h⟩:=h;by_cases e:k=a.block
 .subst e;simp only[Typed,World.setCell,Array.getElem?_modify,if_true,h];exact⟨_,_,rfl⟩
 exact⟨cs,fr,(Below.heap_setCell _ _ _ _ e).trans h⟩
theorem Typed.alloc{w:World}{k:Nat}{t:TypeId}(h:Typed w k t)(o:Obj):Typed (w.alloc o) k t:=by
 have hl:=h.lt;obtain⟨cs,fr,h⟩:=h;exact⟨cs,fr,(Below.heap_alloc _ _ _ hl).trans h⟩
theorem Cc(w:World)(n:Nat)(a:Addr):(w.drewN n).cell? a=w.cell? a:=rfl
theorem aK(w:World)(n:Nat)(a:Addr):(w.drewN n).frozen? a=w.frozen? a:=rfl
theorem jL(w:World)(n:Nat):(w.drewN n).heap.size=w.heap.size:=rfl
theorem size_setCell(w:World)(a:Addr)(v:Value):(w.setCell a v).heap.size=w.heap.size:=by simp[World.setCell]
theorem Qie{b i j:Nat}(h:i≠j):(⟨b,i,none⟩:Addr)≠⟨b,j,none⟩:=by intro e;cases e;exact h rfl
theorem Aq{w:World}{b i j:Nat}{v:Value}(h:i≠j):(w.setCell ⟨b,i,none⟩ v).cell? ⟨b,j,none⟩=w.cell? ⟨b,j,none⟩:=by apply World.cell?_setCell_other;exact Qie h
theorem Ad(w:World)(b i b' j:Nat)(v:Value):(w.setCell ⟨b,i,none⟩ v).cell? ⟨b',j,none⟩=if b=b'/\i=j then(w.cell? ⟨b',j,none⟩).map (fun _=>v)else w.cell? ⟨b',j,none⟩:=by
 by_cases h:b=b'/\i=j
 .obtain⟨rfl,rfl⟩:=h;rw[if_pos ⟨rfl,rfl⟩];cases hc:w.cell? ⟨b,i,none⟩with
  |none=>
   rw[Option.map_none];by_cases hn:(w.setCell ⟨b,i,none⟩ v).cell? ⟨b,i,none⟩=none;.exact hn
   exfalso;revert hn hc;simp only[World.cell?,World.setCell,Array.getElem?_modify];simp only[if_true];cases w.heap[b]? with
   |none=>simp
   |some o=>cases o<;>simp
  |some u=>rw[Option.map_some];apply World.cell?_setCell_same;exact hc
 rw[if_neg h];apply World.cell?_setCell_other;intro e;cases e;exact h ⟨rfl,rfl⟩
theorem Uh{k:IntKind}{a b:Int}(h:a=b):Ending.returned (.int k a)=.returned (.int k b):=by rw[h]
def Ea(s:ByteArray)(i:Nat):Nat:=if h:i/8<s.size then(s[i/8].toNat/2^(i%8))%2 else 0
def numAt(s:ByteArray)(p:Nat):Nat->Nat
 |0=>0
 |n+1=>numAt s p n+Ea s (p+n)*2^n
theorem Sm(s:ByteArray)(i:Nat):Ea s i<2:=by unfold Ea;split<;>omega
theorem Dl(s:ByteArray)(p n:Nat):numAt s p n<2^n:=by
 induction n with
 |zero=>simp[numAt]
 |succ n ih=>
  have:=Sm s (p+n);simp only[numAt];have:Ea s (p+n)*2^n<=1*2^n:=Nat.mul_le_mul_right _ (by omega);rw[Nat.pow_succ];omega
theorem bZ(s:ByteArray)(i:Nat)(h:8*s.size<=i):Ea s i=0:=by unfold Ea;rw[dif_neg (by omega)]
theorem Ko(s:ByteArray)(k j:Nat)(hk:k<s.size)(hj:j<8):Ea s (8*k+j)=(s[k].toNat/2^j)%2:=by
 unfold Ea;have h1:(8*k+j)/8=k:=by omega
 have h2:(8*k+j)%8=j:=by omega
 simp only[h1,h2];rw[dif_pos hk]
def cnt(L:List Nat)(n:Nat):Nat:=if n=0 then 0 else L.count n
def Bd(L:List Nat):Nat->Nat
 |0=>0
 |n+1=>2*(Bd L n+cnt L n)
def placeOf(L:List Nat):Nat->Nat
 |0=>0
 |n+1=>placeOf L n+cnt L n
def Du(L:List Nat):Nat->Int
 |0=>1
 |n+1=>2*Du L n-(cnt L (n+1):Nat)
def nth:List Nat->Nat->Nat->Nat
 | [],_,_=>0
 |x::xs,n,r=>if x=n then(if r=0 then 0 else 1+nth xs n (r-1))else 1+nth xs n r
def Sz(L:List Nat)(s:ByteArray)(p:Nat):Nat->Nat->Nat->Option (Nat×Nat)
 |0,_,_=>none
 |f+1,n,x=>
  let y:=2*x+Ea s (p+n)
  if 8*s.size<p+n+1 then none
  else if Bd L (n+1)<=y/\y<Bd L (n+1)+cnt L (n+1)then some (nth L (n+1) (y-Bd L (n+1)),p+n+1)
  else Sz L s p f (n+1) y
def dec(L:List Nat)(s:ByteArray)(p:Nat):Option (Nat×Nat):=Sz L s p 15 0 0
theorem cnt_le(L:List Nat)(n:Nat):cnt L n<=L.length:=by unfold cnt;split;omega;exact List.count_le_length
theorem qA:∀(L:List Nat) (n i:Nat) (h:i<L.length),L[i]=n->nth L n ((L.take i).count n)=i
 |x::xs,n,0,_,e=>by simp at e;subst e;simp[nth]
 |x::xs,n,i+1,h,e=>by
  simp only[List.length_cons]at h;simp at e;have ih:=qA xs n i (by omega) e;by_cases hx:x=n;.subst hx;simp[nth,ih];omega
  simp[nth,hx,List.count_cons,ih];omega
theorem rD:∀(L:List Nat) (n r:Nat),r<L.count n->∃i,∃h:i<L.length,L[i]=n/\(L.take i).count n=r
 | [],n,r,h=>by simp at h
 |x::xs,n,r,h=>by
  by_cases hx:x=n
  .subst hx;by_cases hr:r=0;.subst hr;exact⟨0,by simp,by simp,by simp⟩
   rw[List.count_cons_self]at h;obtain⟨i,hi,h1,h2⟩:=rD xs x (r-1) (by omega);exact⟨i+1,by simpa using hi,by simpa using h1,by simp[h2];omega⟩
  rw[List.count_cons_of_ne hx]at h;obtain⟨i,hi,h1,h2⟩:=rD xs n r h;exact⟨i+1,by simpa using hi,by simpa using h1,by simp[List.count_cons,h2,hx]⟩
theorem Qin(L:List Nat)(n r:Nat)(h:r<L.count n):nth L n r<L.length:=by
 obtain⟨i,hi,h1,h2⟩:=rD L n r h;rw[<-h2,qA L n i hi h1];exact hi
theorem zN(L:List Nat)(n:Nat):placeOf L n<=n*L.length:=by
 induction n with
 |zero=>simp[placeOf]
 |succ n ih=>simp only[placeOf,Nat.succ_mul];have:=cnt_le L n;omega
theorem Jt(L:List Nat){m n:Nat}(h:m<=n):placeOf L m<=placeOf L n:=by
 induction h with
 |refl=>exact Nat.le_refl _
 |step _ ih=>simp only[placeOf];omega
theorem Vy(L:List Nat){n r:Nat}(hn:n<16)(hr:r<cnt L n):placeOf L n+r<placeOf L 16:=by
 have:=Jt L (show n+1<=16 by omega);simp only[placeOf]at this ⊢;omega
theorem Qge(L:List Nat)(hL:L.length<=400)(n:Nat):-(((2^n:Nat):Int)-1)*400<=Du L n/\Du L n<=((2^n:Nat):Int):=by
 induction n with
 |zero=>simp[Du]
 |succ n ih=>
  have h:=cnt_le L (n+1);simp only[Du,Nat.pow_succ];generalize 2^n=x at *;generalize Du L n=y at *;generalize cnt L (n+1)=z at *;omega
theorem Qc7(L:List Nat)(hL:L.length<=400)(n:Nat)(hn:n<=15):-13107200<=Du L n/\Du L n<=32768:=by
 have h:=Qge L hL n;have h2:2^n<=2^15:=Nat.pow_le_pow_right (by omega) hn;generalize 2^n=x at *;generalize Du L n=y at *;omega
theorem oO(x:Nat)(xs:List Nat)(m:Nat):placeOf (x::xs) m=placeOf xs m+if 0<x/\x<m then 1 else 0:=by
 induction m with
 |zero=>simp[placeOf]
 |succ m ih=>
  simp only[placeOf,ih,cnt,List.count_cons];by_cases hm:m=0;.subst hm;simp;intro;omega
  simp only[hm,if_false,beq_iff_eq];by_cases hx:x=m
  .subst hx;rw[if_pos rfl,if_neg (by omega),if_pos (by omega)];omega
  rw[if_neg hx];by_cases h1:0<x/\x<m;.rw[if_pos h1,if_pos (by omega)];omega
  rw[if_neg h1,if_neg (by omega)];omega
theorem Xq:∀(L:List Nat),(∀x∈L,x<=15)->placeOf L 16+L.count 0=L.length
 | [],_=>by simp[placeOf,cnt]
 |x::xs,h=>by
  have ih:=Xq xs (fun y hy=>h y (List.mem_cons_of_mem _ hy));have hx:=h x List.mem_cons_self;rw[oO,List.count_cons,List.length_cons];by_cases h0:x=0;.subst h0;simp;omega
  rw[if_pos (by omega),if_neg (by simpa using h0)];omega
def order:List Nat:=[16,17,18,0,8,7,9,6,10,5,11,4,12,3,13,2,14,1,15]
def Fq(s:ByteArray)(p:Nat):Nat->List Nat
 |0=>List.replicate 19 0
 |n+1=>(Fq s p n).set (order.getD n 0) (numAt s (p+3*n) 3)
theorem Xk(s:ByteArray)(p n:Nat):(Fq s p n).length=19:=by
 induction n with
 |zero=>rfl
 |succ n ih=>simp[Fq,ih]
theorem Qev(s:ByteArray)(p n:Nat):∀x∈Fq s p n,x<=15:=by
 induction n with
 |zero=>intro x hx;simp only[Fq,List.mem_replicate]at hx;omega
 |succ n ih=>
  intro x hx;rcases List.mem_or_eq_of_mem_set hx with h|h;.exact ih x h
  have:=Dl s (p+3*n) 3;omega
theorem sK(n:Nat)(h:n<19):order.getD n 0<19:=by
 have:∀n:Fin 19,order.getD n.val 0<19:=by decide
 exact this ⟨n,h⟩
theorem Qfd(r:Int)(h0:0<=r)(h1:r<=255):wrap64 (bits BinOp.and IntKind.u8 r 1)=r%2:=by
 have h:=bits_mask .u8 8 (by decide) wraps_u8 1 (by decide) r h0 (by simp;omega);simp at h;rw[h];unfold wrap64;omega
theorem Qfc(b:Nat)(w:World)(rest left:Int)(hl:1<=left)(hl8:left<=8)(hr0:0<=rest)(hr1:rest<=255)(h2:w.cell? ⟨b,2,none⟩=some (.int .u8 rest))(h3:w.cell? ⟨b,3,none⟩=some (.int .i64 left))(f2:w.frozen? ⟨b,2,none⟩=false)(f3:w.frozen? ⟨b,3,none⟩=false): Calls Tryz.prog 81 #[.pointer (some ⟨b,0,none⟩)] w fun e w'=>e=.returned (.int .i64 (rest%2))/\w'=(w.setCell ⟨b,2,none⟩ (.int .u8 (rest/2))).setCell ⟨b,3,none⟩ (.int .i64 (left-1)):=by
 have hb:=Qfd rest hr0 hr1;go_enter Tryz.func81,Tryz.ntmps81;go_wp2;go_ret;exact⟨by simp[hb],rfl⟩
theorem Qgh(b:Nat)(w:World)(s:ByteArray)(h0:w.cell? ⟨b,0,none⟩=some (.string s))(h1:w.cell? ⟨b,1,none⟩=some (.int .i64 s.size))(h3:w.cell? ⟨b,3,none⟩=some (.int .i64 0))(f4:w.frozen? ⟨b,4,none⟩=false)(old:Value)(h4:w.cell? ⟨b,4,none⟩=some old): Calls Tryz.prog 81 #[.pointer (some ⟨b,0,none⟩)] w fun e w'=>e=.returned (.int .i64 0)/\∃n,w'=(w.drewN n).setCell ⟨b,4,none⟩ (.bool true):=by
 go_enter Tryz.func81,Tryz.ntmps81;go_wp2;go_quiet (fail);go_wp2;go_ret;exact⟨rfl,_,rfl⟩
theorem Qdn(b:Nat)(w:World)(s:ByteArray)(k:Nat)(hk:k<s.size)(hs:s.size<=maxLen)(h0:w.cell? ⟨b,0,none⟩=some (.string s))(h1:w.cell? ⟨b,1,none⟩=some (.int .i64 k))(h3:w.cell? ⟨b,3,none⟩=some (.int .i64 0))(f1:w.frozen? ⟨b,1,none⟩=false)(f2:w.frozen? ⟨b,2,none⟩=false)(f3:w.frozen? ⟨b,3,none⟩=false)(old:Int)(h2:w.cell? ⟨b,2,none⟩=some (.int .u8 old)): Calls Tryz.prog 81 #[.pointer (some ⟨b,0,none⟩)] w fun e w'=>e=.returned (.int .i64 (s[k].toNat%2)) /\∃n,w'=(((((w.drewN n).setCell ⟨b,2,none⟩ (.int .u8 s[k].toNat)).setCell ⟨b,3,none⟩ (.int .i64 8)).setCell ⟨b,1,none⟩ (.int .i64 (k+1))).setCell ⟨b,2,none⟩ (.int .u8 (s[k].toNat/2))).setCell ⟨b,3,none⟩ (.int .i64 7):=by
 unfold maxLen at hs;have hbit:=Qfd s[k].toNat (by omega) (by have:=s[k].toNat_lt;omega);go_enter Tryz.func81,Tryz.ntmps81;go_wp2;go_quiet (fail);go_wp2;go_region;go_wp2;go_ret;exact⟨by simp[hbit],_,rfl⟩
structure Rd (w:World) (b:Nat) (s:ByteArray) (p:Nat):Prop where
 c0:w.cell? ⟨b,0,none⟩=some (.string s)
 c1:w.cell? ⟨b,1,none⟩=some (.int .i64 (min s.size ((p+7)/8):Nat))
 c2:∃r:Nat,r<256/\w.cell? ⟨b,2,none⟩=some (.int .u8 r)/\(∀h:p/8<s.size,p%8≠0->r=s[p/8].toNat/2^(p%8))
 c3:w.cell? ⟨b,3,none⟩=some (.int .i64 (if p<=8*s.size then(8-p%8)%8 else 0:Nat))
 c4:w.cell? ⟨b,4,none⟩=some (.bool (decide (8*s.size<p)))
 fr:∀o,w.frozen? ⟨b,o,none⟩=false
structure RT (b:Nat) (w w':World):Prop where
 t:Touch (·=b) w w'
 size:w'.heap.size=w.heap.size
 keep:∀o,5<=o->w'.cell? ⟨b,o,none⟩=w.cell? ⟨b,o,none⟩
 fr:∀o,w'.frozen? ⟨b,o,none⟩=w.frozen? ⟨b,o,none⟩
theorem RT.refl(b:Nat)(w:World):RT b w w:=⟨Touch.refl _ _,rfl,fun _ _=>rfl,fun _=>rfl⟩
theorem RT.trans{b:Nat}{x y z:World}(h:RT b x y)(k:RT b y z):RT b x z:=
 ⟨h.t.trans k.t,k.size.trans h.size,fun o ho=>(k.keep o ho).trans (h.keep o ho),fun o=>(k.fr o).trans (h.fr o)⟩
theorem RT.drewN{b:Nat}{x y:World}(h:RT b x y)(n:Nat):RT b x (y.drewN n):=⟨h.t.drewN n,h.size,h.keep,h.fr⟩
theorem RT.set{b:Nat}{x y:World}(h:RT b x y)(i:Nat)(hi:i<5)(v:Value):RT b x (y.setCell ⟨b,i,none⟩ v) :=⟨h.t.setCell rfl v,(size_setCell _ _ _).trans h.size,fun o ho=>(Aq (by omega)).trans (h.keep o ho),fun o=>by rw[World.frozen?_setCell];exact h.fr o⟩
theorem uF(b:Nat)(w:World)(s:ByteArray)(p:Nat)(hs:s.size<=maxLen)(h:Rd w b s p): Calls Tryz.prog 81 #[.pointer (some ⟨b,0,none⟩)] w fun e w'=>e=.returned (.int .i64 (Ea s p))/\Rd w' b s (p+1)/\RT b w w':=by
 obtain⟨c0,c1,⟨r,hr,c2,c2'⟩,c3,c4,fr⟩:=h;by_cases hp:8*s.size<=p
 .have e1:min s.size ((p+7)/8)=s.size:=by omega
  have e3:(if p<=8*s.size then(8-p%8)%8 else 0)=0:=by split<;>omega
  rw[e1]at c1;rw[e3]at c3;refine(Qgh b w s c0 c1 c3 (fr 4) _ c4).mono ?_;rintro e w' ⟨rfl,n,rfl⟩;refine⟨?_,⟨?_,?_,⟨r,hr,?_,?_⟩,?_,?_,?_⟩,?_⟩;.rw[bZ s p hp];rfl
  .simp[Ad,Cc,c0]
  .rw[show min s.size ((p+1+7)/8)=s.size by omega];simp[Ad,Cc,c1]
  .simp[Ad,Cc,c2]
  .intro h;omega
  .rw[if_neg (by omega)];simp[Ad,Cc,c3]
  .rw[decide_eq_true (by omega)];simp[Ad,Cc,c4]
  .intro o;rw[World.frozen?_setCell];exact fr o
  exact((RT.refl b w).drewN n).set 4 (by omega) _
 by_cases hm:p%8=0
 .obtain⟨k,rfl⟩:∃k,p=8*k:=⟨p/8,by omega⟩;have hk:k<s.size:=by omega
  have e1:min s.size ((8*k+7)/8)=k:=by omega
  have e3:(if 8*k<=8*s.size then(8-8*k%8)%8 else 0)=0:=by split<;>omega
  rw[e1]at c1;rw[e3]at c3;refine(Qdn b w s k hk hs c0 c1 c3 (fr 1) (fr 2) (fr 3) _ c2).mono ?_;rintro e w' ⟨rfl,n,rfl⟩;have hlt:=s[k].toNat_lt;refine⟨?_,⟨?_,?_,⟨s[k].toNat/2,by omega,?_,?_⟩,?_,?_,?_⟩,?_⟩
  .refine Uh ?_;have:=Ko s k 0 hk (by omega);simp at this;rw[this];rfl
  .simp[Ad,Cc,c0]
  .rw[show min s.size ((8*k+1+7)/8)=k+1 by omega];simp[Ad,Cc,c1]
  .simp[Ad,Cc,c2]
  .intro h _;have h8:(8*k+1)/8=k:=by omega
   have h9:(8*k+1)%8=1:=by omega
   simp only[h8,h9]
  .rw[if_pos (by omega),show(8-(8*k+1)%8)%8=7 by omega];simp[Ad,Cc,c3]
  .rw[show decide (8*s.size<8*k+1)=decide (8*s.size<8*k) by rw[decide_eq_false (by omega),decide_eq_false (by omega)]];simp[Ad,Cc,c4]
  .intro o;simp only[World.frozen?_setCell,aK];exact fr o
  exact((((((RT.refl b w).drewN n).set 2 (by omega) _).set 3 (by omega) _).set 1 (by omega) _).set 2 (by omega) _).set 3 (by omega) _
 obtain⟨k,j,hj,hj0,rfl⟩:∃k j,j<8/\0<j/\p=8*k+j:=⟨p/8,p%8,by omega,by omega,by omega⟩;have hk:k<s.size:=by omega
 have e1:min s.size ((8*k+j+7)/8)=k+1:=by omega
 have e3:(if 8*k+j<=8*s.size then(8-(8*k+j)%8)%8 else 0)=8-j:=by rw[if_pos (by omega)];omega
 have h8:(8*k+j)/8=k:=by omega
 have h9:(8*k+j)%8=j:=by omega
 have hr':r=s[k].toNat/2^j:=by
  have:=c2' (by omega) (by omega);simpa only[h8,h9]using this
 rw[e1]at c1;rw[e3]at c3;refine(Qfc b w r (8-j:Nat) (by omega) (by omega) (by omega) (by omega) c2 c3 (fr 2) (fr 3)).mono ?_;rintro e w' ⟨rfl,rfl⟩;refine⟨?_,⟨?_,?_,⟨r/2,by omega,?_,?_⟩,?_,?_,?_⟩,?_⟩
 .refine Uh ?_;rw[Ko s k j hk hj,<-hr'];omega
 .simp[Ad,c0]
 .rw[show min s.size ((8*k+j+1+7)/8)=k+1 by omega];simp[Ad,c1]
 .simp[Ad,c2]
 .intro h hn;have h8':(8*k+j+1)/8=k:=by omega
  have h9':(8*k+j+1)%8=j+1:=by omega
  simp only[h8',h9'];rw[hr',Nat.pow_succ,Nat.div_div_eq_div_mul]
 .rw[if_pos (by omega),show(8-(8*k+j+1)%8)%8=8-j-1 by omega];simp[Ad,c3];omega
 .rw[show decide (8*s.size<8*k+j+1)=decide (8*s.size<8*k+j) by rw[decide_eq_false (by omega),decide_eq_false (by omega)]];simp[Ad,c4]
 .intro o;simp only[World.frozen?_setCell];exact fr o
 exact((RT.refl b w).set 2 (by omega) _).set 3 (by omega) _
theorem Qis(a b n:Nat)(h:a<2^n):a|||(b*2^n)=a+b*2^n:=by
 rw[Nat.add_comm,Nat.or_comm,Nat.mul_comm];exact(Nat.two_pow_add_eq_or_of_lt h b).symm
theorem Qfm(s:ByteArray)(p k:Nat)(hk:k<16):bits BinOp.or IntKind.i64 (numAt s p k:Int) (wrap64 ((Ea s (p+k):Int)*2^k))=(numAt s p (k+1):Nat):=by
 have h1:=Dl s p k;have h2:=Sm s (p+k);have h3:2^k<=2^15:=Nat.pow_le_pow_right (by omega) (by omega);have h4:Ea s (p+k)*2^k<=1*2^k:=Nat.mul_le_mul_right _ (by omega);have e:((Ea s (p+k):Int)*2^k)=((Ea s (p+k)*2^k:Nat):Int):=by push_cast;rfl
 rw[e,IntWalk.wrap64_in _ (by constructor<;>omega)];have hw:∀n:Int,0<=n->n<2^62->IntKind.i64.wrap n=n:=by intro n h0 h1;simp[IntKind.wrap,IntKind.bits,IntKind.signed];omega
 have hh:=bits_nat .i64 62 (by decide) hw (numAt s p k) (Ea s (p+k)*2^k) (by omega) (by omega);rw[hh.2,Qis _ _ _ h1];rfl
theorem Qef(b:Nat)(w:World)(s:ByteArray)(p:Nat)(n:Nat)(hn:n<=16)(hs:s.size<=maxLen)(h:Rd w b s p): Calls Tryz.prog 82 #[.pointer (some ⟨b,0,none⟩),.int .i64 n] w fun e w'=>e=.returned (.int .i64 (numAt s p n))/\Rd w' b s (p+n)/\RT b w w':=by
 go_enter Tryz.func82,Tryz.ntmps82;go_wp2;go_loopw [5,8] (fun t i wr=>∃k:Nat,k<=n/\i=.int .i64 k/\t=.int .i64 (numAt s p k)/\Rd wr b s (p+k)/\RT b w wr) (fun _ i _=>n-(intOf i).toNat)
 case atStart=>exact⟨0,by omega,rfl,rfl,h,RT.refl _ _⟩
 case round=>
  obtain⟨k,hk,rfl,rfl,hrd,hrt⟩:=hrel;by_cases hlt:k<n
  .go_wp2_with (go_at_call 81;refine(uF _ _ _ _ hs hrd).mono ?_;rintro e w' ⟨rfl,hrd',hrt'⟩);go_roundw
   case rel=>exact⟨k+1,by omega,by go_num,by rw[Qfm s p k (by omega)],hrd',hrt.trans hrt'⟩
   case measure=>simp[intOf];omega
  obtain rfl:k=n:=by omega
  go_wp2;go_ret;exact⟨by simp,hrd,hrt⟩
theorem zD(b:Nat)(w:World)(s:ByteArray)(p:Nat)(h:Rd w b s p): Calls Tryz.prog 195 #[.pointer (some ⟨b,0,none⟩)] w fun e w'=>e=.returned (.tuple #[])/\w'=w.setCell ⟨b,3,none⟩ (.int .i64 0):=by
 have f3:=h.fr 3;have c3:=h.c3;go_enter Tryz.func195,Tryz.ntmps195;go_wp2;go_end0;exact⟨rfl,rfl⟩
theorem uT(b:Nat)(w:World)(s:ByteArray)(k:Nat)(hs:s.size<=maxLen)(hk:k<=s.size)(h0:w.cell? ⟨b,0,none⟩=some (.string s))(h1:w.cell? ⟨b,1,none⟩=some (.int .i64 k)): Calls Tryz.prog 196 #[.pointer (some ⟨b,0,none⟩)] w fun e w'=>e=.returned (.int .i64 (s.size-k:Nat))/\∃n,w'=w.drewN n:=by
 unfold maxLen at hs;go_enter Tryz.func196,Tryz.ntmps196;go_wp2;go_quiet (fail);go_wp2;go_ret;exact⟨Uh (by omega),_,rfl⟩
theorem qL(b:Nat)(w:World)(s:ByteArray)(k n:Nat)(hs:s.size<=maxLen)(hk:k+n<=s.size)(h0:w.cell? ⟨b,0,none⟩=some (.string s))(h1:w.cell? ⟨b,1,none⟩=some (.int .i64 k))(f1:w.frozen? ⟨b,1,none⟩=false): Calls Tryz.prog 198 #[.pointer (some ⟨b,0,none⟩),.int .i64 n] w fun e w'=>e=.returned (.string (s.extract k (k+n)))/\∃m,w'=(w.setCell ⟨b,1,none⟩ (.int .i64 (k+n:Nat))).drewN m:=by
 unfold maxLen at hs;go_enter Tryz.func198,Tryz.ntmps198;go_wp2;go_quiet (fail);go_wp2;go_ret;exact⟨rfl,_,rfl⟩
structure Ic (w:World) (b off nb cap:Nat) (L:List Nat):Prop where
 cnts:∀i,i<16->w.cell? ⟨b,off+i,none⟩=some (.int .i64 (cnt L i:Nat))
 nums:w.cell? ⟨b,off+16,none⟩=some (.slice (some ⟨nb,0,none⟩) (placeOf L 16) cap)
 num:∀n r,1<=n->n<16->r<cnt L n->w.cell? ⟨nb,placeOf L n+r,none⟩=some (.int .i64 (nth L n r:Nat))
 few:L.length<=400
theorem Ic.keep{w w':World}{b off nb cap:Nat}{L:List Nat}(h:Ic w b off nb cap L){S:Nat->Prop}(ht:Touch S w w')(h1:¬S b)(h2:¬S nb):Ic w' b off nb cap L:=
 ⟨fun i hi=>ht.at (h.cnts i hi) h1,ht.at h.nums h1,fun n r a b c=>ht.at (h.num n r a b c) h2,h.few⟩
theorem Ic.cnt1{w:World}{b off nb cap:Nat}{L:List Nat}(h:Ic w b off nb cap L)(k:Nat)(hk:k<15):w.cell? ⟨b,off+1+k,none⟩=some (.int .i64 (cnt L (k+1):Nat)):=by
 have:=h.cnts (k+1) (by omega)
 rwa [show off+(k+1)=off+1+k by omega]at this
theorem iC(w:World)(b off nb cap:Nat)(L:List Nat)(h:Ic w b off nb cap L): Calls Tryz.prog 205 #[.pointer (some ⟨b,off,none⟩)] w fun e w'=>e=.returned (.bool (Du L 15==0))/\w'=w:=by
 go_enter Tryz.func205,Tryz.ntmps205;go_wp2;go_loop [3,11] (fun t i=>∃k:Nat,k<=15/\i=.int .i64 k/\t=.int .i64 (Du L k)) (fun _ i=>15-(intOf i).toNat)
 case atStart=>exact⟨0,by omega,rfl,rfl⟩
 case round=>
  obtain⟨k,hk,rfl,rfl⟩:=hrel;have hb:=Qc7 L h.few k hk;have hc:=cnt_le L (k+1);have hf:=h.few;by_cases hlt:k<15
  .have hcell:=h.cnt1 k hlt;go_wp2;go_round
   case rel=>exact⟨k+1,by omega,by go_num,by simp only[Du]⟩
   case measure=>simp[intOf];omega
  obtain rfl:k=15:=by omega
  go_wp2;go_ret;exact⟨rfl,rfl⟩
theorem Qfb(w:World)(b off nb cap:Nat)(L:List Nat)(h:Ic w b off nb cap L): Calls Tryz.prog 207 #[.pointer (some ⟨b,off,none⟩)] w fun e w'=>e=.returned (.bool (placeOf L 16==0||(placeOf L 16==1&&cnt L 1==1)||Du L 15==0))/\w'=w:=by
 have hn:=h.nums;have h1:=h.cnts 1 (by omega);by_cases e0:placeOf L 16=0
 .rw[e0]at hn ⊢;go_enter Tryz.func207,Tryz.ntmps207;go_wp2;go_ret;exact⟨rfl,rfl⟩
 by_cases e1:placeOf L 16=1
 .rw[e1]at hn ⊢;by_cases e2:cnt L 1=1
  .rw[e2]at h1 ⊢;go_enter Tryz.func207,Tryz.ntmps207;go_wp2;go_ret;exact⟨rfl,rfl⟩
  have e2':((cnt L 1:Int)==1)=false:=by simp;omega
  go_enter Tryz.func207,Tryz.ntmps207;go_wp2_with (go_at_call 205;refine(iC _ _ _ _ _ _ h).mono ?_;rintro e w' ⟨rfl,rfl⟩);go_ret;exact⟨by simp[e2],rfl⟩
 have e0':((placeOf L 16:Int)==0)=false:=by simp;omega
 have e1':((placeOf L 16:Int)==1)=false:=by simp;omega
 go_enter Tryz.func207,Tryz.ntmps207;go_wp2_with (go_at_call 205;refine(iC _ _ _ _ _ _ h).mono ?_;rintro e w' ⟨rfl,rfl⟩);go_ret;exact⟨by simp[e0,e1],rfl⟩
def Qgv:Option (Nat×Nat)->Value
 |none=>.tuple #[.int .i64 0,.bool false]
 |some (n,_)=>.tuple #[.int .i64 n,.bool true]
theorem or_bit(x y:Nat)(hx:x<2^40)(hy:y<2):bits BinOp.or IntKind.i64 ((x:Int)*2) (y:Int)=((2*x+y:Nat):Int):=by
 have hw:∀n:Int,0<=n->n<2^62->IntKind.i64.wrap n=n:=by intro n h0 h1;simp[IntKind.wrap,IntKind.bits,IntKind.signed];omega
 have hh:=(bits_nat .i64 62 (by decide) hw (2*x) y (by omega) (by omega)).2;have e:((x:Int)*2)=((2*x:Nat):Int):=by push_cast;omega
 rw[e,hh];have:=Nat.two_pow_add_eq_or_of_lt (show y<2^1 by omega) x;simp only[Nat.pow_one]at this;rw[this]
theorem Nu(L:List Nat)(hL:L.length<=400)(n:Nat)(hn:n<=16):placeOf L n<=6400:=
 Nat.le_trans (zN L n) (Nat.mul_le_mul hn hL)
theorem tC{y b k:Nat}(hy:y<2^k)(hb:b<2):2*y+b<2^(k+1):=by rw[Nat.pow_succ];omega
theorem Qe2(w:World)(b off nb cap rb:Nat)(L:List Nat)(s:ByteArray)(p:Nat)(hs:s.size<=maxLen)(h:Ic w b off nb cap L)(hr:Rd w rb s p)(hb:b≠rb)(hnb:nb≠rb): Calls Tryz.prog 201 #[.pointer (some ⟨b,off,none⟩),.pointer (some ⟨rb,0,none⟩)] w fun e w'=>
   e=.returned (Qgv (dec L s p))/\(∀n q,dec L s p=some (n,q)->Rd w' rb s q)/\RT rb w w':=by
 go_enter Tryz.func201,Tryz.ntmps201;go_wp2;go_loopw [6,7,8,16] (fun x f pl i wr=>∃k y:Nat,k<=15/\i=.int .i64 k/\x=.int .i64 y/\f=.int .i64 (Bd L (k+1):Nat)/\pl=.int .i64 (placeOf L (k+1):Nat)/\y<2^k/\Bd L (k+1)<=2*y/\Rd wr rb s (p+k)/\RT rb w wr/\dec L s p=Sz L s p (15-k) k y) (fun _ _ _ i _=>15-(intOf i).toNat)
 case atStart=>exact⟨0,0,by omega,rfl,rfl,rfl,rfl,by omega,by simp[Bd,cnt],hr,RT.refl _ _,rfl⟩
 case round=>
  obtain⟨k,y,hk,rfl,rfl,rfl,rfl,hy,hfy,hrd,hrt,hdec⟩:=hrel;by_cases hlt:k<15
  .have hc:=h.keep hrt.t hb hnb;have hy40:y<2^40:=Nat.lt_of_lt_of_le hy (Nat.pow_le_pow_right (by omega) (by omega));have hbl:=Sm s (p+k);have hor:=or_bit y (Ea s (p+k)) hy40 hbl;have hcl:=cnt_le L (k+1);have hf:=h.few;have hcell:=hc.cnt1 k hlt;have hpl:=Nu L hf (k+1) (by omega);have HD:Hid (Sz L s p (15-k) k y=if 8*s.size<p+k+1 then none else if Bd L (k+1)<=2*y+Ea s (p+k)/\2*y+Ea s (p+k)<Bd L (k+1)+cnt L (k+1)then some (nth L (k+1) (2*y+Ea s (p+k)-Bd L (k+1)),p+k+1)else Sz L s p (15-(k+1)) (k+1) (2*y+Ea s (p+k))):=by
    obtain⟨f,hf⟩:∃f,15-k=f+1:=⟨14-k,by omega⟩;rw[show 15-(k+1)=f by omega,hf];rfl
   have HK:Hid (dec L s p=Sz L s p (15-k) k y):=hdec;clear hdec;by_cases hend:8*s.size<p+k+1
   .have HE:Hid (dec L s p=none):=(by unfold Hid;rw[HK.out,HD.out,if_pos hend]);go_wp2_with (go_at_call 81;refine(uF _ _ _ _ hs hrd).mono ?_;rintro e w' ⟨rfl,hrd',hrt'⟩;have h4:=hrd'.c4);go_ret2;exact⟨by rw[HE.out];rfl,(by intro n q hh;rw[HE.out]at hh;cases hh),hrt.trans hrt'⟩
   by_cases hit:2*y+Ea s (p+k)<Bd L (k+1)+cnt L (k+1)
   .have HE:Hid (dec L s p=some (nth L (k+1) (2*y+Ea s (p+k)-Bd L (k+1)),p+k+1)):=(by unfold Hid;rw[HK.out,HD.out,if_neg hend,if_pos ⟨by omega,hit⟩]);have hnum0:=hc.num (k+1) (2*y+Ea s (p+k)-Bd L (k+1)) (by omega) (by omega) (by omega);have hend16:=Vy L (show k+1<16 by omega) (show 2*y+Ea s (p+k)-Bd L (k+1)<cnt L (k+1) by omega);have hp16:=Nu L hf 16 (by omega);rw[show placeOf L (k+1)+(2*y+Ea s (p+k)-Bd L (k+1))=placeOf L (k+1)+(2*y+Ea s (p+k))-Bd L (k+1) by omega]at hnum0 hend16;have h160:=hc.nums;go_wp2_with (go_at_call 81;refine(uF _ _ _ _ hs hrd).mono ?_;rintro e w' ⟨rfl,hrd',hrt'⟩;have h4:=hrd'.c4;have h16:=hrt'.t.at h160 hb;have hnum:=hrt'.t.at hnum0 hnb);go_ret2;exact⟨by rw[HE.out];rfl,(by intro n q hh;rw[HE.out]at hh;cases hh;exact hrd'),hrt.trans hrt'⟩
   go_wp2_with (go_at_call 81;refine(uF _ _ _ _ hs hrd).mono ?_;rintro e w' ⟨rfl,hrd',hrt'⟩;have h4:=hrd'.c4);go_roundw
   case rel=>exact⟨k+1,2*y+Ea s (p+k),by omega,by go_num,by go_num,by rw[show Bd L (k+1+1)=2*(Bd L (k+1)+cnt L (k+1)) from rfl];go_num,by rw[show placeOf L (k+1+1)=placeOf L (k+1)+cnt L (k+1) from rfl];go_num,tC hy hbl,by rw[show Bd L (k+1+1)=2*(Bd L (k+1)+cnt L (k+1)) from rfl];omega,hrd',hrt.trans hrt',by rw[HK.out,HD.out,if_neg hend,if_neg (by omega)]⟩
   case measure=>simp[intOf];omega
  obtain rfl:k=15:=by omega
  go_wp2;go_ret2;exact⟨by rw[hdec];rfl,(by intro n q hh;rw[hdec]at hh;cases hh),hrt⟩
def Qe(f:Nat->Nat)(v:Value):Array Value:=
 #[.int .i64 (f 0:Nat),.int .i64 (f 1:Nat),.int .i64 (f 2:Nat),.int .i64 (f 3:Nat),.int .i64 (f 4:Nat),.int .i64 (f 5:Nat),.int .i64 (f 6:Nat),.int .i64 (f 7:Nat),
  .int .i64 (f 8:Nat),.int .i64 (f 9:Nat),.int .i64 (f 10:Nat),.int .i64 (f 11:Nat),.int .i64 (f 12:Nat),.int .i64 (f 13:Nat),.int .i64 (f 14:Nat),.int .i64 (f 15:Nat),v]
def pR(f:Nat->Nat):Array Value:=
 #[.int .i64 (f 0:Nat),.int .i64 (f 1:Nat),.int .i64 (f 2:Nat),.int .i64 (f 3:Nat),.int .i64 (f 4:Nat),.int .i64 (f 5:Nat),.int .i64 (f 6:Nat),.int .i64 (f 7:Nat),
  .int .i64 (f 8:Nat),.int .i64 (f 9:Nat),.int .i64 (f 10:Nat),.int .i64 (f 11:Nat),.int .i64 (f 12:Nat),.int .i64 (f 13:Nat),.int .i64 (f 14:Nat),.int .i64 (f 15:Nat)]
def upd(f:Nat->Nat)(x y:Nat)(j:Nat):Nat:=if j=x then y else f j
def codeCells(L:List Nat)(v:Value):Array Value:=Qe (cnt L) v
theorem Qcu{x:Nat}(h:x<16):x=0\/x=1\/x=2\/x=3\/x=4\/x=5\/x=6\/x=7\/x=8\/x=9\/x=10\/x=11\/x=12\/x=13\/x=14\/x=15:=by omega
theorem Xe(f:Nat->Nat)(v:Value)(x:Nat)(h:x<16):(Qe f v)[x]?=some (.int .i64 (f x:Nat)):=by
 rcases Qcu h with rfl|rfl|rfl|rfl|rfl|rfl|rfl|rfl|rfl|rfl|rfl|rfl|rfl|rfl|rfl|rfl<;>rfl
theorem uU(f:Nat->Nat)(v:Value)(x y:Nat)(h:x<16):(Qe f v).setIfInBounds x (.int .i64 (y:Nat))=Qe (upd f x y) v:=by
 rcases Qcu h with rfl|rfl|rfl|rfl|rfl|rfl|rfl|rfl|rfl|rfl|rfl|rfl|rfl|rfl|rfl|rfl<;>simp[Qe,upd]
theorem yF(f:Nat->Nat)(v u:Value):(Qe f v).setIfInBounds 16 u=Qe f u:=by simp[Qe]
theorem rY(f:Nat->Nat)(x:Nat)(h:x<16):(pR f)[x]?=some (.int .i64 (f x:Nat)):=by
 rcases Qcu h with rfl|rfl|rfl|rfl|rfl|rfl|rfl|rfl|rfl|rfl|rfl|rfl|rfl|rfl|rfl|rfl<;>rfl
theorem xH(f:Nat->Nat)(x y:Nat)(h:x<16):(pR f).setIfInBounds x (.int .i64 (y:Nat))=pR (upd f x y):=by
 rcases Qcu h with rfl|rfl|rfl|rfl|rfl|rfl|rfl|rfl|rfl|rfl|rfl|rfl|rfl|rfl|rfl|rfl<;>simp[pR,upd]
theorem yH{f g:Nat->Nat}(v:Value)(h:∀j,j<16->f j=g j):Qe f v=Qe g v:=by
 simp only[Qe,h 0 (by omega),h 1 (by omega),h 2 (by omega),h 3 (by omega),h 4 (by omega),h 5 (by omega),h 6 (by omega),h 7 (by omega),h 8 (by omega),h 9 (by omega),h 10 (by omega),h 11 (by omega),h 12 (by omega),h 13 (by omega),h 14 (by omega),h 15 (by omega)]
theorem Yc{f g:Nat->Nat}(h:∀j,j<16->f j=g j):pR f=pR g:=by
 simp only[pR,h 0 (by omega),h 1 (by omega),h 2 (by omega),h 3 (by omega),h 4 (by omega),h 5 (by omega),h 6 (by omega),h 7 (by omega),h 8 (by omega),h 9 (by omega),h 10 (by omega),h 11 (by omega),h 12 (by omega),h 13 (by omega),h 14 (by omega),h 15 (by omega)]
theorem Ac{w:World}{g:Nat}{cs:Array Value}{t:TypeId}(h:w.heap[g]?=some (.cells cs t (0,0)))(j:Nat):w.cell? ⟨g,j,none⟩=cs[j]?:=cell_of_row w g j cs t _ h
theorem Ew{w:World}{g:Nat}{cs:Array Value}{t:TypeId}(h:w.heap[g]?=some (.cells cs t (0,0)))(j:Nat):w.frozen? ⟨g,j,none⟩=false:=frozen_of_row w g j cs t h
theorem Dz{w:World}{g:Nat}{cs:Array Value}{t:TypeId}(h:w.heap[g]?=some (.cells cs t (0,0)))(j:Nat)(v:Value):(w.setCell ⟨g,j,none⟩ v).heap[g]?=some (.cells (cs.setIfInBounds j v) t (0,0)):=heap_setCell_same w g j cs t v h
theorem row_ne{w:World}{g k j:Nat}{v:Value}(h:k≠g):(w.setCell ⟨g,j,none⟩ v).heap[k]?=w.heap[k]?:=heap_setCell_other w ⟨g,j,none⟩ k v h
theorem Yq{L:List Nat}{k:Nat}(h:k<L.length)(j:Nat):(L.take (k+1)).count j=upd (fun i=>(L.take k).count i) L[k] ((L.take k).count L[k]+1) j:=by
 rw[List.take_succ_eq_append_getElem h,List.count_append];unfold upd;by_cases e:j=L[k];.rw[if_pos e,e];simp
 rw[if_neg e];simp[List.count_cons];omega
theorem gX{L:List Nat}{q:Nat}(h:q<L.length):(L.take q).count L[q]<L.count L[q]:=by
 have e:L=L.take q++(L[q]::L.drop (q+1)):=by rw[<-List.drop_eq_getElem_cons h,List.take_append_drop]
 have:L.count L[q]=(L.take q++(L[q]::L.drop (q+1))).count L[q]:=by rw[<-e]
 rw[this,List.count_append,List.count_cons_self];omega
theorem Qhp{L:List Nat}{i q:Nat}(hi:i<L.length)(hq:q<L.length)(hlt:i<q)(h1:1<=L[i])(h2:1<=L[q])(e:placeOf L L[q]+(L.take q).count L[q]=placeOf L L[i]+(L.take i).count L[i]):False:=by
 have ri:=gX hi;have rq:=gX hq;by_cases he:L[i]=L[q]
 .have hlt2:(L.take i).count L[i]<(L.take q).count L[i]:=by
   have h3:i<(L.take q).length:=by rw[List.length_take];omega
   have h4:=gX h3;rw[List.getElem_take,List.take_take,Nat.min_eq_left (by omega)]at h4;exact h4
  rw[he]at hlt2 e;omega
 have ci:cnt L L[i]=L.count L[i]:=by unfold cnt;rw[if_neg (by omega)]
 have cq:cnt L L[q]=L.count L[q]:=by unfold cnt;rw[if_neg (by omega)]
 rcases Nat.lt_or_gt_of_ne he with h|h
 .have:=Jt L (show L[i]+1<=L[q] by omega);simp only[placeOf]at this;omega
 have:=Jt L (show L[q]+1<=L[i] by omega);simp only[placeOf]at this;omega
theorem Wv(f:Nat->Nat)(a:Option Addr)(n c:Nat):(Qe f (.slice a n c)).all (fun x=>x.oneCell')=true:=by simp[Qe,Value.oneCell']
theorem Tryz.Qw:(Tryz.prog.info? 3).map (fun i=>(i.zero,i.size,i.bytes))=some (some (.int .i64 0),1,8):=by kernel_rfl
theorem Xd(w:World)(lb lo n cap:Nat)(L:List Nat)(hlen:L.length=n)(hn:n<=400)(hL:∀x∈L,x<=15)(hcells:∀j (h:j<L.length),w.cell? ⟨lb,lo+j,none⟩=some (.int .i64 (L[j]:Nat))): Calls Tryz.prog 200 #[.slice (some ⟨lb,lo,none⟩) n cap] w fun e w'=>∃nb cap',e=.returned (.agg (codeCells L (.slice (some ⟨nb,0,none⟩) (placeOf L 16) cap')))/\w.heap.size<=nb/\nb<w'.heap.size /\(∀n r,1<=n->n<16->r<cnt L n->w'.cell? ⟨nb,placeOf L n+r,none⟩=some (.int .i64 (nth L n r:Nat)))/\Typed w' nb 3/\Touch (fun _=>False) w w':=by
 go_enter Tryz.func200,Tryz.ntmps200;go_wp2;go_loopw [14] (fun i wr=>∃k:Nat,k<=n/\i=.int .i64 k/\wr.heap[w.heap.size]?=some (.cells (Qe (fun _=>0) (.slice none 0 0)) 283 (0,0))/\wr.heap[w.heap.size+1]?=some (.cells (Qe (fun j=>(L.take k).count j) (.slice none 0 0)) 283 (0,0))/\wr.heap.size=w.heap.size+2/\Touch (fun _=>False) w wr) (fun i _=>n-(intOf i).toNat)
 case atStart=>exact⟨0,by omega,rfl,by rw[Below.heap_alloc _ _ _ (by simp)];exact heap_alloc_new w _,by simp only[List.take_zero,List.count_nil];exact heap_alloc2_new w _ _,by simp,((Touch.refl _ _).alloc _).alloc _⟩
 case round=>
  obtain⟨k,hk,rfl,r0,r1,hsz,ht⟩:=hrel;by_cases hlt:k<n
  .have hk':k<L.length:=by omega
   have hin:L[k]<=15:=hL _ (List.getElem_mem hk');have hcell:wr.cell? ⟨lb,lo+k,none⟩=some (.int .i64 (L[k]:Nat)):=ht.at (hcells k hk') (fun h=>h);have hle:(L.take k).count L[k]<=k:=Nat.le_trans List.count_le_length (List.length_take_le _ _);obtain⟨x,hx⟩:∃x,x=L[k]:=⟨_,rfl⟩;have HX:Hid (x=L[k]):=hx;rw[<-hx]at hcell hin hle;clear hx;have hc1:wr.cell? ⟨w.heap.size+1,x,none⟩=some (.int .i64 ((L.take k).count x:Nat)):=by rw[Ac r1,Xe _ _ _ (by omega)]
   have hf1:=Ew r1 x;go_wp2;go_roundw
   case rel=>
    refine⟨k+1,by omega,by go_num,by rw[row_ne (by omega)];exact r0,?_,by rw[size_setCell];exact hsz,ht.Ag (by simp) _⟩;rw[Dz r1];have e:(((L.take k).count x:Nat):Int)+1=(((L.take k).count x+1:Nat):Int):=(by omega);rw[e,uU _ _ _ _ (by omega)];congr 2;refine yH _ fun j _=>?_;rw[Yq hk',HX.out]
   case measure=>simp[intOf];omega
  obtain rfl:k=n:=by omega
  have htk:L.take k=L:=List.take_of_length_le (by omega);rw[htk]at r1;have hc0:wr.cell? ⟨w.heap.size+1,0,none⟩=some (.int .i64 (L.count 0:Nat)):=by rw[Ac r1,Xe _ _ _ (by omega)]
  have hf0:=Ew r1 0;have hle0:L.count 0<=k:=by have:=List.count_le_length (a:=0) (l:=L);omega
  go_wp2;go_loopw [8] (fun i wr=>∃l:Nat,1<=l/\l<=15/\i=.int .i64 l/\wr.heap[w.heap.size]?=some (.cells (Qe (fun _=>0) (.slice none 0 0)) 283 (0,0))/\wr.heap[w.heap.size+1]?=some (.cells (Qe (cnt L) (.slice none 0 0)) 283 (0,0))/\wr.heap[w.heap.size+2]?=some (.cells (pR (fun j=>if j<=l then placeOf L j else 0)) 281 (0,0))/\wr.heap.size=w.heap.size+3/\Touch (fun _=>False) w wr) (fun i _=>15-(intOf i).toNat)
  case atStart=>
   refine⟨1,by omega,by omega,rfl,?_,?_,?_,?_,?_⟩;.rw[Below.heap_alloc _ _ _ (by rw[size_setCell];omega),row_ne (by omega)];exact r0
   .rw[Below.heap_alloc _ _ _ (by rw[size_setCell];omega),Dz r1];have:=uU (fun j=>L.count j) (.slice none 0 0) 0 0 (by omega);rw[show(Value.int IntKind.i64 0)=(Value.int IntKind.i64 ((0:Nat):Int)) from rfl,this];congr 2
   .rw[show w.heap.size+2=(wr.setCell ⟨w.heap.size+1,0,none⟩ (Value.int IntKind.i64 0)).heap.size by rw[size_setCell];omega,heap_alloc_new];congr 2
   .simp[size_setCell];omega
   exact(ht.Ag (by simp) _).alloc _
  case round=>
   clear r0 r1 ht hc0 hf0 hsz;obtain⟨l,hl1,hl2,rfl,r0,r1,r2,hsz,ht⟩:=hrel;by_cases hlt:l<15
   .have q1:wr.cell? ⟨w.heap.size+1,l,none⟩=some (.int .i64 (cnt L l:Nat)):=(by rw[Ac r1,Xe _ _ _ (by omega)]);have q2:wr.cell? ⟨w.heap.size+2,l,none⟩=some (.int .i64 (placeOf L l:Nat)):=(by rw[Ac r2,rY _ _ (by omega)];simp);have q3:wr.cell? ⟨w.heap.size+2,l+1,none⟩=some (.int .i64 0):=(by rw[Ac r2,rY _ _ (by omega),if_neg (by omega)];rfl);have q4:=Ew r2 (l+1);have b1:=Nu L (by omega) l (by omega);have b2:=cnt_le L l;go_wp2;go_region;all_goals go_wp2
    all_goals go_roundw
    case rel=>
     refine⟨l+1,by omega,by omega,by go_num,?_,?_,?_,?_,?_⟩
     .show(wr.setCell _ _).heap[_]?=_;rw[row_ne (by omega)];exact r0
     .show(wr.setCell _ _).heap[_]?=_;rw[row_ne (by omega)];exact r1
     .show(wr.setCell _ _).heap[_]?=_;have e:((placeOf L l:Nat):Int)+((cnt L l:Nat):Int)=((placeOf L l+cnt L l:Nat):Int):=(by omega);rw[Dz r2,e,xH _ _ _ (by omega)];congr 2;refine Yc fun j _=>?_;unfold upd;by_cases hj:j=l+1;.rw[if_pos hj,if_pos (by omega),hj];rfl
      rw[if_neg hj];show(if j<=l then placeOf L j else 0)=_;by_cases h2:j<=l;.rw[if_pos h2,if_pos (by omega)]
      rw[if_neg h2,if_neg (by omega)]
     .show(wr.setCell _ _).heap.size=_;rw[size_setCell];exact hsz
     exact(ht.Ag (by simp) _).drew
    case measure=>simp[intOf];omega
   obtain rfl:l=15:=by omega
   have htot:=Xq L hL;obtain⟨i0,hi,hz0,hz1,hz2⟩:=info_parts Tryz.Qw;have hc16:wr.cell? ⟨w.heap.size+1,16,none⟩=some (.slice none 0 0):=by rw[Ac r1];rfl
   have hf16:=Ew r1 16;have hbs:w.heap.size+3<=wr.heap.size:=by omega
   have hp16:=Nu L (by omega) 16 (by omega);have hm1:i0.bytes*placeOf L 16<=281474976710656:=by rw[hz2];omega
   have hm2:placeOf L 16<=maxLen:=by unfold maxLen;omega
   have hm3:(k:Int)-(L.count 0:Nat)=(placeOf L 16:Nat):=by omega
   have HM:Hid ((k:Int)-(L.count 0:Nat)=(placeOf L 16:Nat)):=hm3;clear hm3;go_wp2_with (at_make;refine wpList_make_full _ rfl _ _ 26 rfl (w.heap.size+3) 3 i0 (.int .i64 0) 1 Tryz.underlying26 hi hz0 hz1 .i64 .i64 _ _ (placeOf L 16) rfl rfl HM.out HM.out hm1 hm2 hbs ?_;intro w1 hown1 hgrow1;have hc16':=hgrow1.cell hc16 (by simp);have hf16':w1.frozen? ⟨w.heap.size+1,16,none⟩=false:=(World.frozen?_of_block (hgrow1.block (w.heap.size+1) (by omega) (by simp))).trans hf16);go_loopw [54] (fun i wr=>∃(q:Nat) (xs:List Value),q<=k/\i=.int .i64 q/\wr.heap[w.heap.size]?=some (.cells (Qe (fun _=>0) (.slice none 0 0)) 283 (0,0))/\wr.heap[w.heap.size+1]?=some (.cells (Qe (cnt L) (.slice (some ⟨w.heap.size+3,0,none⟩) (placeOf L 16) (placeOf L 16))) 283 (0,0))/\wr.heap[w.heap.size+2]?=some (.cells (pR (fun j=>if j=0 then 0 else placeOf L j+(L.take q).count j)) 281 (0,0))/\wr.ownsRow (w.heap.size+3) 3 1 (.slice (some ⟨w.heap.size+3,0,none⟩) (placeOf L 16) (placeOf L 16)) (placeOf L 16) xs/\(∀i (h:i<L.length),i<q->1<=L[i]->xs[placeOf L L[i]+(L.take i).count L[i]]?=some (.int .i64 (i:Nat)))/\Touch (fun _=>False) w wr) (fun i _=>k-(intOf i).toNat)
   case atStart=>
    rw[hsz]at hown1;have g0:=hgrow1.block w.heap.size (by omega) (by simp);have g1:=hgrow1.block (w.heap.size+1) (by omega) (by simp);have g2:=hgrow1.block (w.heap.size+2) (by omega) (by simp);refine⟨0,_,by omega,rfl,?_,?_,?_,ownsRow_setCell_below (a:=⟨w.heap.size+1,16,none⟩) hown1 (by show w.heap.size+1<w.heap.size+3;omega) _,?_,?_⟩;.rw[row_ne (by omega),g0];exact r0
    .rw[Dz (g1.trans r1),yF]
    .rw[row_ne (by omega),g2,r2];congr 1
    .intro i h h0;omega
    exact(ht.Fa hgrow1 (by intro k e;cases e)).Ag (by simp) _
   case round=>
    clear r0 r1 r2 ht hsz hc16 hf16 hbs hc16' hf16' hown1 hgrow1;obtain⟨q,xs,hq,rfl,r0,r1,r2,hown,hxs,ht⟩:=hrel;by_cases hlt:q<k
    .have hq':q<L.length:=(by omega);have hin:L[q]<=15:=hL _ (List.getElem_mem hq');have hcell:wr.cell? ⟨lb,lo+q,none⟩=some (.int .i64 (L[q]:Nat)):=ht.at (hcells q hq') (fun h=>h);have hpos:=gX hq';obtain⟨x,hx⟩:∃x,x=L[q]:=⟨_,rfl⟩;have HX:Hid (x=L[q]):=hx;rw[<-hx]at hcell hin hpos;clear hx;by_cases h0:x=0
     .subst h0;go_wp2;go_roundw
      case rel=>
       refine⟨q+1,xs,by omega,by go_num,r0,r1,?_,hown,?_,ht⟩
       .rw[r2];congr 2;refine Yc fun j hj=>?_;by_cases hj0:j=0;.rw[if_pos hj0,if_pos hj0]
        rw[if_neg hj0,if_neg hj0,Yq hq',<-HX.out];unfold upd;rw[if_neg hj0]
       intro i h hi h1;by_cases e:i=q;.subst e;rw[<-HX.out]at h1;omega
       exact hxs i h (by omega) h1
      case measure=>simp[intOf];omega
     have hx0:(0:Int)<(x:Int):=(by omega);have e1:wr.cell? ⟨w.heap.size+1,16,none⟩=some (.slice (some ⟨w.heap.size+3,0,none⟩) (placeOf L 16) (placeOf L 16)):=(by rw[Ac r1];rfl);have e2:wr.cell? ⟨w.heap.size+2,x,none⟩=some (.int .i64 (placeOf L x+(L.take q).count x:Nat)):=(by rw[Ac r2,rY _ _ (by omega),if_neg h0]);have hlt16:placeOf L x+(L.take q).count x<placeOf L 16:=Vy L (by omega) (by unfold cnt;rw[if_neg h0];exact hpos);obtain⟨old,e3⟩:∃v,wr.cell? ⟨w.heap.size+3,placeOf L x+(L.take q).count x,none⟩=some v:=by
      rw[hown.cellAt _ (by omega)];have:=hown.1;exact⟨_,List.getElem?_eq_getElem (by omega)⟩
     have e4:=hown.frozenAt (placeOf L x+(L.take q).count x);have e5:=Ew r2 x;go_wp2;go_region;all_goals go_wp2
     all_goals go_roundw
     case rel=>
      have hst:=(hown.stored (placeOf L x+(L.take q).count x) (.int .i64 (q:Nat))).1;refine⟨q+1,_,by omega,by go_num,?_,?_,?_,ownsRow_setCell_below (a:=⟨w.heap.size+2,x,none⟩) (h:=hst) (by show w.heap.size+2<w.heap.size+3;omega) _,?_,?_⟩
      .show((wr.setCell _ _).setCell _ _).heap[_]?=_;rw[row_ne (by omega),row_ne (by omega)];exact r0
      .show((wr.setCell _ _).setCell _ _).heap[_]?=_;rw[row_ne (by omega),row_ne (by omega)];exact r1
      .show((wr.setCell _ _).setCell _ _).heap[_]?=_;have r2':=r2;rw[<-row_ne (w:=wr) (g:=w.heap.size+3) (j:=placeOf L x+(L.take q).count x) (v:=.int .i64 (q:Nat)) (by omega)]at r2';have e:((placeOf L x:Nat):Int)+(((L.take q).count x:Nat):Int)+1=((placeOf L x+(L.take q).count x+1:Nat):Int):=(by omega);rw[Dz r2',e,xH _ _ _ (by omega)];congr 2;refine Yc fun j hj=>?_;rw[Yq hq',<-HX.out];unfold upd;by_cases hj0:j=x;.rw[if_pos hj0,if_pos hj0,if_neg (by omega),hj0];omega
       rw[if_neg hj0,if_neg hj0]
      .intro i h hi h1;by_cases e:i=q
       .subst e;rw[<-HX.out,List.getElem?_set_self (by have:=hown.1;omega)]
       rw[List.getElem?_set_ne,hxs i h (by omega) h1];intro e';exact Qhp h hq' (by omega) h1 (by rw[<-HX.out];omega) (by rw[<-HX.out];omega)
      exact((ht.Ag (by simp) _).Ag (by simp) _).drew
     case measure=>simp[intOf];omega
    obtain rfl:q=k:=by omega
    go_wp2_with (first|(refine wpList_load_row rfl 283 (.tmp 3) rfl (w.heap.size+1) rfl 283 _ (0,0) _ r1 Tryz.underlying283 rfl (by kernel_rfl) ?_)|(refine wpList_store_row rfl 283 (.tmp 2) (.tmp 74) rfl w.heap.size _ rfl rfl 283 _ r0 (by kernel_rfl) rfl (Wv _ _ _ _) ?_));have hlt3:=hown.lt (w.heap.size+3) rfl;have hcl:∀j,(wr.setRow w.heap.size (Qe (cnt L) (.slice (some ⟨w.heap.size+3,0,none⟩) (placeOf L 16) (placeOf L 16)))).cell? ⟨w.heap.size+3,j,none⟩=wr.cell? ⟨w.heap.size+3,j,none⟩:=fun j=>World.cell?_of_block (setRow_other _ _ _ _ (by simp));refine bodyPost_ret (v:=.agg (codeCells L (.slice (some ⟨w.heap.size+3,0,none⟩) (placeOf L 16) (placeOf L 16)))) (results_cell_row Tryz.results200 _ _ w.heap.size 283 _ (0,0) _ rfl (setRow_heap _ _ _ _ _ _ r0) Tryz.underlying283 rfl (by kernel_rfl)) rfl ⟨w.heap.size+3,placeOf L 16,rfl,by omega,?_,?_,?_,?_⟩;.simp;exact hlt3.2
    .intro n r h1 h16 hr;have hr':r<L.count n:=(by unfold cnt at hr;rwa [if_neg (by omega)]at hr);obtain⟨i,hi,e1,e2⟩:=rD L n r hr';have hx:=hxs i hi (by omega) (by omega);rw[e1,e2]at hx;rw[hcl,hown.cellAt _ (by have:=Vy L h16 hr;omega),hx,<-e2,qA L n i hi e1]
    .obtain⟨cs,fr,hh⟩:=Typed.owned hown (k:=w.heap.size+3) rfl;exact⟨cs,fr,(setRow_other _ _ _ _ (by omega)).trans hh⟩
    exact ht.setRow (by omega) _
def ints(l:List Nat):List Value:=l.map fun(x:Nat)=>Value.int .i64 (x:Int)
theorem jE(a b:List Nat):ints (a++b)=ints a++ints b:=List.map_append ..
theorem wL(l:List Nat)(x k:Nat):(l++List.replicate k x)++[x]=l++List.replicate (k+1) x:=by
 rw[List.append_assoc,List.replicate_succ']
theorem lD(w:World)(base:Nat)(v:Value)(l:List Nat)(x t:Nat)(hown:w.ownsRow base 3 1 v l.length (ints l))(hl:l.length+t<=1000)(hb:base<=w.heap.size): Calls Tryz.prog 199 #[v,.int .i64 (x:Int),.int .i64 (t:Int)] w fun e w'=>∃v',e=.returned v'/\w'.ownsRow base 3 1 v' (l++List.replicate t x).length (ints (l++List.replicate t x))/\Touch (fun k=>base<=k) w w':=by
 obtain⟨i0,hi,hz0,hz1,hz2⟩:=info_parts Tryz.Qw;go_enter Tryz.func199,Tryz.ntmps199;go_wp2;go_loopw [0,8] (fun v i wr=>∃k:Nat,k<=t/\i=.int .i64 (k:Int)/\wr.ownsRow base 3 1 v (l++List.replicate k x).length (ints (l++List.replicate k x))/\Touch (fun k=>base<=k) w wr) (fun _ i _=>t-(intOf i).toNat)
 case atStart=>exact⟨0,by omega,rfl,by simpa using hown,Touch.refl _ _⟩
 case round=>
  obtain⟨k,hk,rfl,ho,ht⟩:=hrel;have hlen:(l++List.replicate k x).length=l.length+k:=by simp
  have hsz:=ht.size;by_cases hlt:k<t
  .have c3:(l++List.replicate k x).length+1<=maxLen:=by unfold maxLen;omega
   have c4:((l++List.replicate k x).length+1)*8<=140737488355328:=by omega
   go_wp2_with (at_builtin;refine wpList_append_own _ rfl _ _ 26 rfl base 3 i0 (.int .i64 0) 1 8 Tryz.underlying26 hi hz0 hz1 hz2 rfl (by decide) _ _ _ rfl (ho.alloc _) ⟨_,0,none⟩ 1 1 [.int .i64 (x:Int)] rfl rfl (cell_one_new _ _ _) (by simp[Value.oneCell']) c3 c4 (by simp;omega) ?_;intro v' w1 hown' hgrow _);go_roundw
   case rel=>
    refine⟨k+1,by omega,by go_num,?_,?_⟩;.rw[<-wL,jE,List.length_append];exact hown'
    refine(ht.alloc _).grown hgrow ?_;intro j hj;exact(ho.lt j hj).1
   case measure=>simp[intOf];omega
  obtain rfl:k=t:=by omega
  go_wp2;go_ret;exact⟨_,rfl,ho,ht⟩
theorem Fp{w:World}{base:Nat}{e:TypeId}{size n:Nat}{v:Value}{xs:List Value}(h:w.ownsRow base e size v n xs)(hn:0<n):∃g cap,v=.slice (some ⟨g,0,none⟩) n cap/\base<=g:=by
 rcases h.2 with⟨_,h0⟩|⟨g,cap,cur,rfl,hb,_⟩;.omega
 exact⟨g,cap,rfl,hb⟩
theorem Fv(w:World)(base:Nat)(v:Value)(l:List Nat)(x t:Nat)(X T:Int)(hX:X=(x:Int))(hT:T=(t:Int))(hown:w.ownsRow base 3 1 v l.length (ints l))(hl:l.length+t<=1000)(ht:0<t)(hb:base<=w.heap.size): Calls Tryz.prog 199 #[v,.int .i64 X,.int .i64 T] w fun e w'=>∃(l':List Nat) (g cap:Nat),e=.returned (.slice (some ⟨g,0,none⟩) l'.length cap)/\Hid (l'=l++List.replicate t x)/\base<=g/\w'.ownsRow base 3 1 (.slice (some ⟨g,0,none⟩) l'.length cap) l'.length (ints l')/\Touch (fun k=>base<=k) w w':=by
 subst hX hT;refine(lD w base v l x t hown hl hb).mono ?_;rintro e w' ⟨v',rfl,ho,ht'⟩;obtain⟨g,cap,rfl,hg⟩:=Fp ho (by simp;omega);exact⟨_,g,cap,rfl,rfl,hg,ho,ht'⟩
def Cm:List Nat:=((([]++List.replicate 144 8)++List.replicate 112 9)++List.replicate 24 7)++List.replicate 8 8
def Gu:List Nat:=[]++List.replicate 32 5
theorem Qix:∀x∈Cm,x<=15:=by
 intro x hx;simp only[Cm,List.mem_append,List.mem_replicate,List.not_mem_nil,false_or]at hx;omega
theorem Qg0:∀x∈Gu,x<=15:=by
 intro x hx;simp only[Gu,List.mem_append,List.mem_replicate,List.not_mem_nil,false_or]at hx;omega
structure Nl (w:World) (fb n1 c1 n2 c2:Nat) (L D:List Nat):Prop where
 lt:Ic w fb 0 n1 c1 L
 ds:Ic w fb 17 n2 c2 D
 tb:Typed w fb 286
 t1:Typed w n1 3
 t2:Typed w n2 3
def two(L D:List Nat)(v u:Value):Array Value:=codeCells L v++codeCells D u
theorem oJ(f:Nat->Nat)(v:Value):(Qe f v)[16]?=some v:=rfl
theorem mQ{w:World}{n1 c1 n2 c2:Nat}{L D:List Nat}(hL:L.length<=400)(hD:D.length<=400)(h1:∀n r,1<=n->n<16->r<cnt L n->w.cell? ⟨n1,placeOf L n+r,none⟩=some (.int .i64 (nth L n r:Nat)))(t1:Typed w n1 3)(h2:∀n r,1<=n->n<16->r<cnt D n->w.cell? ⟨n2,placeOf D n+r,none⟩=some (.int .i64 (nth D n r:Nat)))(t2:Typed w n2 3): Nl (w.alloc (.cells (two L D (.slice (some ⟨n1,0,none⟩) (placeOf L 16) c1) (.slice (some ⟨n2,0,none⟩) (placeOf D 16) c2)) 286)) w.heap.size n1 c1 n2 c2 L D:=by
 have hc:∀j,(w.alloc (.cells (two L D (.slice (some ⟨n1,0,none⟩) (placeOf L 16) c1) (.slice (some ⟨n2,0,none⟩) (placeOf D 16) c2)) 286)).cell? ⟨w.heap.size,j,none⟩=(two L D (.slice (some ⟨n1,0,none⟩) (placeOf L 16) c1) (.slice (some ⟨n2,0,none⟩) (placeOf D 16) c2))[j]?:=fun j=>Ac (heap_alloc_new w _) j;have s1:∀v,(codeCells L v).size=17:=fun _=>rfl;refine⟨⟨?_,?_,?_,hL⟩,⟨?_,?_,?_,hD⟩,⟨_,_,heap_alloc_new w _⟩,t1.alloc _,t2.alloc _⟩
 .intro i hi;rw[hc,Nat.zero_add,two,Array.getElem?_append_left (by rw[s1];omega)];exact Xe _ _ _ hi
 .rw[hc,two,Array.getElem?_append_left (by rw[s1];omega)];exact oJ _ _
 .intro n r a b c;rw[World.cell?_alloc_past _ _ _ t1.lt];exact h1 n r a b c
 .intro i hi;rw[hc,two,Array.getElem?_append_right (by rw[s1];omega),s1,show 17+i-17=i by omega];exact Xe _ _ _ hi
 .rw[hc,two,Array.getElem?_append_right (by rw[s1];omega),s1];exact oJ _ _
 intro n r a b c;rw[World.cell?_alloc_past _ _ _ t2.lt];exact h2 n r a b c
theorem Jo{w:World}{base g cap:Nat}{l:List Nat}(h:w.ownsRow base 3 1 (.slice (some ⟨g,0,none⟩) l.length cap) l.length (ints l)):∀j (hj:j<l.length),w.cell? ⟨g,0+j,none⟩=some (.int .i64 (l[j]:Nat)):=by
 intro j hj;rw[Nat.zero_add,h.cellAt j (by omega)];simp[ints,hj]
theorem bU{P:Program}{ops:Array Oper}{rest:List Oper}{o:Oper}{a:Act}{w:World}{Q:Exit->Act->World->Prop}(hg:o.guard=none)(t:TypeId)(parts:Array (Nat×Operand))(ho:o.op=.build t parts){vals:Array (Nat×Value)}{cells:Array Value}(hrun:(Instr.build t vals).run P w=.ok (.agg cells) w)(hv:(parts.map fun(i,x)=>(i,a.eval x))=vals)(h:wpList P ops Q rest (a.put o.dst (.agg cells)) w):wpList P ops Q (o::rest) a w :=wpList_plain hg fun _ hK=>by
  subst hv;unfold Oper.wp execOp;simp only[ho,Sem.run_bind,hrun,Result.andThen_ok];exact hK _ _ h
theorem jZ{P:Program}{ops:Array Oper}{rest:List Oper}{o:Oper}{a:Act}{w w':World}{Q:Exit->Act->World->Prop}(hg:o.guard=none)(t:TypeId)(x:Operand)(ho:o.op=.box t x)(v:Value)(hv:a.eval x=v)(p:Value)(hrun:(Instr.box t v).run P w=.ok p w')(h:wpList P ops Q rest (a.put o.dst p) w'):wpList P ops Q (o::rest) a w :=wpList_plain hg fun _ hK=>by
  subst hv;unfold Oper.wp execOp;simp only[ho,Sem.run_bind,hrun,Result.andThen_ok];exact hK _ _ h
theorem Qfo{P:Program}{ops:Array Oper}{rest:List Oper}{d:Option Tmp}{t ty:TypeId}{parts:Array (Nat×Operand)}{ps:String}{af:Array Edge}{g:Option (Nat×Bool)}{a:Act}{w:World}{Q:Exit->Act->World->Prop}(h:wpList P ops Q (⟨d,.build t parts,ty,ps,af,g⟩::rest) a w):wpList P ops Q (⟨d,.build t parts,ty,ps,af,g⟩::rest) a w:=h
theorem Qiy{P:Program}{ops:Array Oper}{rest:List Oper}{d:Option Tmp}{t ty:TypeId}{x:Operand}{ps:String}{af:Array Edge}{g:Option (Nat×Bool)}{a:Act}{w:World}{Q:Exit->Act->World->Prop}(h:wpList P ops Q (⟨d,.box t x,ty,ps,af,g⟩::rest) a w):wpList P ops Q (⟨d,.box t x,ty,ps,af,g⟩::rest) a w:=h
theorem Qb7(L D:List Nat)(v u:Value)(w:World):(Instr.build 286 #[(0,.agg (codeCells L v)),(1,.agg (codeCells D u))]).run Tryz.prog w=.ok (.agg (two L D v u)) w:=by kernel_rfl
theorem Qhd(L D:List Nat)(a b:Option Addr)(m n c d:Nat)(w:World):(Instr.box 286 (.agg (two L D (.slice a m c) (.slice b n d)))).run Tryz.prog w=.ok (.pointer (some ⟨w.heap.size,0,none⟩)) (w.alloc (.cells (two L D (.slice a m c) (.slice b n d)) 286)):=by kernel_rfl
theorem qI(w:World): Calls Tryz.prog 134 #[] w fun e w'=>∃fb n1 c1 n2 c2,e=.returned (.pointer (some ⟨fb,0,none⟩))/\Nl w' fb n1 c1 n2 c2 Cm Gu/\w.heap.size<=fb/\w.heap.size<=n1/\w.heap.size<=n2/\Touch (fun _=>False) w w':=by
 go_enter Tryz.func134,Tryz.ntmps134;go_wp2_with fail
 go_at_call 199
 refine(Fv w w.heap.size _ [] 8 144 _ _ rfl rfl (World.ownsRow_nil _ _ _ _) (by decide) (by decide) (Nat.le_refl _)).mono ?_;rintro e w1 ⟨l1,g1,k1,rfl,e1,hg1,ho1,ht1⟩;have n1:l1.length<=144:=by rw[e1.out,List.length_append,List.length_replicate];simp
 go_wp2_with fail;refine(Fv w1 w.heap.size _ l1 9 112 _ _ rfl rfl ho1 (by omega) (by decide) ht1.size).mono ?_;rintro e w2 ⟨l2,g2,k2,rfl,e2,hg2,ho2,ht2⟩;have n2:l2.length<=256:=by rw[e2.out,List.length_append,List.length_replicate];omega
 go_wp2_with fail;refine(Fv w2 w.heap.size _ l2 7 24 _ _ rfl rfl ho2 (by omega) (by decide) (Nat.le_trans ht1.size ht2.size)).mono ?_;rintro e w3 ⟨l3,g3,k3,rfl,e3,hg3,ho3,ht3⟩;have n3:l3.length<=280:=by rw[e3.out,List.length_append,List.length_replicate];omega
 go_wp2_with fail;refine(Fv w3 w.heap.size _ l3 8 8 _ _ rfl rfl ho3 (by omega) (by decide) (Nat.le_trans (Nat.le_trans ht1.size ht2.size) ht3.size)).mono ?_;rintro e w4 ⟨l4,g4,k4,rfl,e4,hg4,ho4,ht4⟩;have n4:l4.length<=288:=by rw[e4.out,List.length_append,List.length_replicate];omega
 have sz4:w.heap.size<=w4.heap.size:=Nat.le_trans (Nat.le_trans (Nat.le_trans ht1.size ht2.size) ht3.size) ht4.size;have T4:Touch (fun _=>False) w w4:=(((ht1.trans ht2).trans ht3).trans ht4).fresh;have E4:Hid (l4=Cm):=by unfold Hid;rw[e4.out,e3.out,e2.out,e1.out];rfl
 go_wp2_with fail;refine(Fv w4 w4.heap.size _ [] 5 32 _ _ rfl rfl (World.ownsRow_nil _ _ _ _) (by decide) (by decide) (Nat.le_refl _)).mono ?_;rintro e w5 ⟨l5,g5,k5,rfl,e5,hg5,ho5,ht5⟩;have n5:l5.length<=32:=by rw[e5.out,List.length_append,List.length_replicate];simp
 have E5:Hid (l5=Gu):=by unfold Hid;rw[e5.out];rfl
 have lt4:=(ho4.lt g4 rfl).2;have ho4':=ht5.owns ho4 (by intro k hk;cases hk;show¬w4.heap.size<=g4;omega);have T5:Touch (fun _=>False) w w5:=T4.trans ht5.fresh;have m4:∀x∈l4,x<=15:=by rw[E4.out];exact Qix
 have m5:∀x∈l5,x<=15:=by rw[E5.out];exact Qg0
 clear e1 e2 e3 e4 e5 ho1 ho2 ho3 ht1 ht2 ht3 ht4;go_wp2_with fail;refine(Xd w5 g4 0 _ k4 l4 rfl (by omega) m4 (Jo ho4')).mono ?_;rintro e w6 ⟨b1,c1,rfl,hb1,hs1,hn1,t1,ht6⟩;have ho5':=ht6.owns ho5 (by intro k _;exact fun h=>h);go_wp2_with fail;refine(Xd w6 g5 0 _ k5 l5 rfl (by omega) m5 (Jo ho5')).mono ?_;rintro e w7 ⟨b2,c2,rfl,hb2,hs2,hn2,t2,ht7⟩;go_wp2_with (first|((with_reducible refine Qfo ?_);refine bU rfl 286 _ rfl (Qb7 l4 l5 (.slice (some ⟨b1,0,none⟩) (placeOf l4 16) c1) (.slice (some ⟨b2,0,none⟩) (placeOf l5 16) c2) _) (by simp[Act.eval]) ?_)|((with_reducible refine Qiy ?_);refine jZ rfl 286 _ rfl _ rfl _ (Qhd l4 l5 (some ⟨b1,0,none⟩) (some ⟨b2,0,none⟩) (placeOf l4 16) (placeOf l5 16) c1 c2 _) ?_));go_ret;have lt7:=ht7.size;have lt6:=ht6.size;have lt5:=ht5.size;have hc:=mQ (c1:=c1) (c2:=c2) (by omega) (by omega) (fun n r a b c=>ht7.at (hn1 n r a b c) (fun h=>h)) (t1.keep ht7 (fun h=>h)) hn2 t2;rw[E4.out,E5.out]at hc ⊢;exact⟨_,_,_,_,_,rfl,hc,by omega,by omega,by omega,((T5.trans ht6).trans ht7).alloc _⟩
def Ord(w:World):Prop:=∀j,j<19->w.cell? ⟨1,j,none⟩=some (.int .i64 ((order.getD j 0:Nat):Int))
theorem Ord.keep{S:Nat->Prop}{w w':World}(h:Ord w)(ht:Touch S w w')(hs:¬S 1):Ord w':=fun j hj=>ht.at (h j hj) hs
structure RN (b:Nat) (w w':World):Prop where
 t:Touch (·=b) w w'
 keep:∀o,5<=o->w'.cell? ⟨b,o,none⟩=w.cell? ⟨b,o,none⟩
 fr:∀o,w'.frozen? ⟨b,o,none⟩=w.frozen? ⟨b,o,none⟩
theorem RT.rn{b:Nat}{w w':World}(h:RT b w w'):RN b w w':=⟨h.t,h.keep,h.fr⟩
theorem RN.refl(b:Nat)(w:World):RN b w w:=⟨Touch.refl _ _,fun _ _=>rfl,fun _=>rfl⟩
theorem RN.trans{b:Nat}{x y z:World}(h:RN b x y)(k:RN b y z):RN b x z:=
 ⟨h.t.trans k.t,fun o ho=>(k.keep o ho).trans (h.keep o ho),fun o=>(k.fr o).trans (h.fr o)⟩
theorem RN.new{b:Nat}{w w':World}(h:Touch (fun _=>False) w w')(hb:b<w.heap.size):RN b w w':=
 ⟨h.mono (fun _ _ e=>e.elim),fun o _=>h.cell hb (fun e=>e),fun o=>h.frozen hb (fun e=>e)⟩
theorem Rd.lt{w:World}{b:Nat}{s:ByteArray}{p:Nat}(h:Rd w b s p):b<w.heap.size:=World.block_lt_of_cell? w _ h.c0
theorem Rd.new{w w':World}{b:Nat}{s:ByteArray}{p:Nat}(h:Rd w b s p){S:Nat->Prop}(ht:Touch S w w')(hs:¬S b):Rd w' b s p:=by
 have hl:=h.lt;have e:∀o,w'.cell? ⟨b,o,none⟩=w.cell? ⟨b,o,none⟩:=fun o=>ht.cell hl hs;have f:∀o,w'.frozen? ⟨b,o,none⟩=w.frozen? ⟨b,o,none⟩:=fun o=>ht.frozen hl hs;exact⟨(e 0).trans h.c0,(e 1).trans h.c1,by rw[e 2];exact h.c2,(e 3).trans h.c3,(e 4).trans h.c4,fun o=>(f o).trans (h.fr o)⟩
theorem Rd.drew{w:World}{b:Nat}{s:ByteArray}{p:Nat}(h:Rd w b s p):Rd w.drew b s p:=⟨h.c0,h.c1,h.c2,h.c3,h.c4,h.fr⟩
theorem Rd.drewN{w:World}{b:Nat}{s:ByteArray}{p:Nat}(h:Rd w b s p)(n:Nat):Rd (w.drewN n) b s p:=⟨h.c0,h.c1,h.c2,h.c3,h.c4,h.fr⟩
theorem RN.drew{b:Nat}{x y:World}(h:RN b x y):RN b x y.drew:=⟨h.t.drew,h.keep,h.fr⟩
theorem RN.set{b:Nat}{x y:World}(h:RN b x y){a:Addr}(ha:x.heap.size<=a.block)(hb:b<x.heap.size)(v:Value):RN b x (y.setCell a v):=by
 have hne:∀o,a≠⟨b,o,none⟩:=by intro o e;rw[e]at ha;simp at ha;omega
 exact⟨h.t.Ag ha v,fun o ho=>by rw[<-h.keep o ho];apply World.cell?_setCell_other;exact hne o,fun o=>by rw[World.frozen?_setCell];exact h.fr o⟩
theorem Rd.set{w:World}{b:Nat}{s:ByteArray}{p:Nat}(h:Rd w b s p){a:Addr}(ha:b≠a.block)(v:Value):Rd (w.setCell a v) b s p:=by
 have hne:∀o,a≠⟨b,o,none⟩:=by intro o e;rw[e]at ha;exact ha rfl
 have e:∀o,(w.setCell a v).cell? ⟨b,o,none⟩=w.cell? ⟨b,o,none⟩:=fun o=>by apply World.cell?_setCell_other;exact hne o
 exact⟨(e 0).trans h.c0,(e 1).trans h.c1,by rw[e 2];exact h.c2,(e 3).trans h.c3,(e 4).trans h.c4,fun o=>by rw[World.frozen?_setCell];exact h.fr o⟩
theorem RN.row{b:Nat}{x y:World}(h:RN b x y){g:Nat}(hg:x.heap.size<=g)(hb:b<x.heap.size)(cs:Array Value):RN b x (y.setRow g cs):=by
 have e:(y.setRow g cs).heap[b]?=y.heap[b]?:=setRow_other _ _ _ _ (by omega);exact⟨h.t.setRow hg cs,fun o ho=>(World.cell?_of_block e).trans (h.keep o ho),fun o=>(World.frozen?_of_block e).trans (h.fr o)⟩
theorem Touch.row{w:World}{g:Nat}(cs:Array Value):Touch (·=g) w (w.setRow g cs):=⟨rfl,rfl,rfl,by simp,fun k _ hk=>setRow_other _ _ _ _ hk⟩
theorem Eu(b:Nat)(w:World)(s:ByteArray)(p:Nat)(n:Nat)(N:Int)(hN:N=(n:Int))(hn:n<=16)(hs:s.size<=maxLen)(h:Rd w b s p): Calls Tryz.prog 82 #[.pointer (some ⟨b,0,none⟩),.int .i64 N] w fun e w'=>e=.returned (.int .i64 (numAt s p n))/\Rd w' b s (p+n)/\RT b w w':=by
 subst hN;exact Qef b w s p n hn hs h
theorem dI(w:World)(b:Nat)(s:ByteArray)(p n:Nat)(hn:n<=19)(hs:s.size<=maxLen)(hr:Rd w b s p)(ho:Ord w)(hb:1<b): Calls Tryz.prog 204 #[.pointer (some ⟨b,0,none⟩),.int .i64 (n:Int)] w fun e w'=>∃nb cap,e=.returned (.agg (codeCells (Fq s p n) (.slice (some ⟨nb,0,none⟩) (placeOf (Fq s p n) 16) cap)))/\w.heap.size<=nb /\(∀m r,1<=m->m<16->r<cnt (Fq s p n) m->w'.cell? ⟨nb,placeOf (Fq s p n) m+r,none⟩=some (.int .i64 (nth (Fq s p n) m r:Nat)))/\Typed w' nb 3/\Rd w' b s (p+3*n)/\RN b w w':=by
 obtain⟨i0,hi,hz0,hz1,hz2⟩:=info_parts Tryz.Qw;have hm1:i0.bytes*19<=281474976710656:=by rw[hz2];omega
 have hm2:19<=maxLen:=by unfold maxLen;omega
 have hlt:=hr.lt;go_enter Tryz.func204,Tryz.ntmps204;go_wp2_with (at_make;refine wpList_make_full _ rfl _ _ 26 rfl (w.heap.size+1) 3 i0 (.int .i64 0) 1 Tryz.underlying26 hi hz0 hz1 .i64 .i64 _ _ 19 rfl rfl rfl rfl hm1 hm2 (by simp) ?_;intro w1 hown1 hgrow1);have T1:Touch (fun _=>False) w w1:=((Touch.refl _ w).alloc _).Fa hgrow1 (by intro k e;cases e);have r0:w1.heap[w.heap.size]?=some (.cells (Qe (fun _=>0) (.slice none 0 0)) 283 (0,0)):=by
  rw[hgrow1.block w.heap.size (by simp) (by simp)];exact heap_alloc_new w _
 have E1:(madeCells (Value.int IntKind.i64 0).cells (19*1)).toList=ints (Fq s p 0):=by kernel_rfl
 rw[E1]at hown1;simp only[World.size_alloc]at hown1;go_loopw [9] (fun i wr=>∃k:Nat,k<=n/\i=.int .i64 (k:Int)/\wr.ownsRow (w.heap.size+1) 3 1 (.slice (some ⟨w.heap.size+1,0,none⟩) 19 19) 19 (ints (Fq s p k))/\Rd wr b s (p+3*k)/\RN b w wr/\wr.heap[w.heap.size]?=some (.cells (Qe (fun _=>0) (.slice none 0 0)) 283 (0,0))/\Ord wr) (fun i _=>n-(intOf i).toNat)
 case atStart=>exact⟨0,by omega,rfl,hown1,hr.new T1 (fun h=>h),RN.new T1 hlt,r0,ho.keep T1 (fun h=>h)⟩
 case round=>
  clear r0 hown1 hgrow1 T1 E1;obtain⟨k,hk,rfl,hown,hrd,hrn,r0,hord⟩:=hrel;by_cases hlt':k<n
  .have ho1:=hord k (by omega);have hol:=sK k (by omega);obtain⟨x,hx⟩:∃x,x=order.getD k 0:=⟨_,rfl⟩;have HX:Hid (x=order.getD k 0):=hx;rw[<-hx]at ho1 hol;clear hx;obtain⟨old,e3⟩:∃v,wr.cell? ⟨w.heap.size+1,x,none⟩=some v:=by
    rw[hown.cellAt _ (by omega)];have:=hown.1;exact⟨_,List.getElem?_eq_getElem (by omega)⟩
   have e4:=hown.frozenAt x;go_wp2;have d1:wr.drew.cell? ⟨1,k,none⟩=some (.int .i64 (x:Int)):=ho1;have d3:wr.drew.cell? ⟨w.heap.size+1,x,none⟩=some old:=e3;have d4:wr.drew.frozen? ⟨w.heap.size+1,x,none⟩=false:=e4;have dlt:w.heap.size+1<wr.drew.heap.size:=World.block_lt_of_cell? _ _ d3
   go_region_with (go_at_call 82;refine(Eu b wr.drew s (p+3*k) 3 _ rfl (by omega) hs hrd.drew).mono ?_;rintro e w2 ⟨rfl,hrd',hrt'⟩;have ho2:=hrt'.t.at d1 (by show¬1=b;omega);have e3':=hrt'.t.at d3 (by show¬w.heap.size+1=b;omega);have e4':=(hrt'.t.frozen (p:=⟨w.heap.size+1,x,none⟩) dlt (by show¬w.heap.size+1=b;omega)).trans d4)
   all_goals go_wp2
   all_goals
    go_roundw
    case rel=>
     have hownd:wr.drew.ownsRow (w.heap.size+1) 3 1 (.slice (some ⟨w.heap.size+1,0,none⟩) 19 19) 19 (ints (Fq s p k)):=hown;have how:=hrt'.t.owns hownd (by intro j hj;cases hj;show¬w.heap.size+1=b;omega);have hst:=(how.stored x (.int .i64 (numAt s (p+3*k) 3:Nat))).1;have e:(ints (Fq s p k)).set x (.int .i64 (numAt s (p+3*k) 3:Nat))=ints (Fq s p (k+1)):=by
      simp only[Fq,ints,List.map_set,<-HX.out]
     rw[e]at hst;have rn1:RN b w w2:=hrn.drew.trans hrt'.rn;have ord2:Ord w2:=(show Ord wr.drew from hord).keep hrt'.t (by show¬1=b;omega);refine⟨k+1,by omega,by go_num,hst,?_,?_,?_,?_⟩
     .rw[show p+3*(k+1)=p+3*k+3 by omega];exact hrd'.set (by show b≠w.heap.size+1;omega) _
     .exact rn1.set (by show w.heap.size<=w.heap.size+1;omega) hlt _
     .rw[row_ne (by omega),hrt'.t.block w.heap.size (by have:=dlt;omega) (by omega)];exact r0
     intro j hj;rw[World.cell?_setCell_other];.exact ord2 j hj
     intro e;have e1:w.heap.size+1=1:=congrArg Addr.block e;omega
    case measure=>simp[intOf];omega
  obtain rfl:k=n:=by omega
  go_wp2_with fail;refine(Xd wr (w.heap.size+1) 0 19 19 (Fq s p k) (Xk s p k) (by omega) (Qev s p k) ?_).mono ?_
  .intro j hj;rw[Nat.zero_add,hown.cellAt j (by rw[Xk]at hj;omega)];simp[ints,hj]
  rintro e w2 ⟨nb,cap,rfl,h1,h2,h3,h4,h5⟩;have lt1:w.heap.size<wr.heap.size:=(Array.getElem?_eq_some_iff.1 r0).1;have r0':=(h5.block w.heap.size lt1 (fun h=>h)).trans r0;go_wp2_with (refine wpList_store_row rfl 283 (.tmp 4) (.tmp 21) rfl w.heap.size _ rfl rfl 283 _ r0' (by kernel_rfl) rfl (Wv _ _ _ _) ?_);have hsz2:=h5.size;have t6:=Touch.row (w:=w2) (g:=w.heap.size) (codeCells (Fq s p k) (.slice (some ⟨nb,0,none⟩) (placeOf (Fq s p k) 16) cap));refine bodyPost_ret (v:=.agg (codeCells (Fq s p k) (.slice (some ⟨nb,0,none⟩) (placeOf (Fq s p k) 16) cap))) (results_cell_row Tryz.results204 _ _ w.heap.size 283 _ (0,0) _ rfl (setRow_heap _ _ _ _ _ _ r0') Tryz.underlying283 rfl (by kernel_rfl)) rfl ⟨nb,cap,rfl,by omega,?_,?_,?_,?_⟩
  .intro m r a1 a2 a3;exact t6.at (h3 m r a1 a2 a3) (by show¬nb=w.heap.size;omega)
  .exact h4.keep t6 (by show¬nb=w.heap.size;omega)
  .exact(hrd.new h5 (fun h=>h)).new t6 (by show¬b=w.heap.size;omega)
  exact(hrn.trans (RN.new h5 (by omega))).row (Nat.le_refl _) hlt _
end Go.Proofs.YtmhlkdlcpicekaaGreatDoor
