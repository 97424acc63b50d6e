/- Joined. -/
import Derived.Test.YtmhlkdlcpicekaaGreatDoorJ35
import Derived.OwnWalk
set_option linter.unusedSimpArgs false
set_option linter.unusedVariables false
set_option maxRecDepth 100000
set_option maxHeartbeats 20000000
namespace Go.Proofs.YtmhlkdlcpicekaaGreatDoor
open Go.RowKit
def qJ(M:Nat):Option (List Nat×Nat)->Option (List Nat×List Nat×Nat)
 |none=>none
 |some (l,q)=>if l.getD 256 0=0 then none else some (l.take M,l.drop M,q)
def Ov(s:ByteArray)(p:Nat):Option (List Nat×List Nat×Nat):=
 if 286<numAt s p 5+257\/30<numAt s (p+5) 5+1 then none
 else if 8*s.size<p+14+3*(numAt s (p+10) 4+4)\/Du (Fq s (p+14) (numAt s (p+10) 4+4)) 15≠0 then none
 else qJ (numAt s p 5+257) (Cj (Fq s (p+14) (numAt s (p+10) 4+4)) s (numAt s p 5+257+(numAt s (p+5) 5+1)) (numAt s p 5+257+(numAt s (p+5) 5+1)) (p+14+3*(numAt s (p+10) 4+4)) [])
theorem lZ(s:ByteArray)(p:Nat):Ox s p=match Ov s p with|none=>none|some (L,D,q)=>if fine L D=true then some (L,D,q)else none:=by
 unfold Ox Ov;by_cases c1:286<numAt s p 5+257\/30<numAt s (p+5) 5+1;.rw[if_pos c1,if_pos c1]
 rw[if_neg c1,if_neg c1];by_cases c2:8*s.size<p+14+3*(numAt s (p+10) 4+4)\/Du (Fq s (p+14) (numAt s (p+10) 4+4)) 15≠0;.rw[if_pos c2,if_pos c2]
 rw[if_neg c2,if_neg c2];cases Cj (Fq s (p+14) (numAt s (p+10) 4+4)) s (numAt s p 5+257+(numAt s (p+5) 5+1)) (numAt s p 5+257+(numAt s (p+5) 5+1)) (p+14+3*(numAt s (p+10) 4+4)) []with
 |none=>rfl
 |some lq=>
  obtain⟨l,q⟩:=lq;by_cases c3:l.getD 256 0=0;.simp only[qJ,if_pos c3]
  simp only[qJ,if_neg c3]
theorem BT.next{b:Nat}{x y z:World}{S:Nat->Prop}(h:BT b x y)(ht:Touch S y z)(hs:∀k,S k->x.heap.size<=k)(hb:b<x.heap.size):BT b x z:=by
 have nb:¬S b:=fun e=>by have:=hs b e;omega
 have hby:b<y.heap.size:=Nat.lt_of_lt_of_le hb h.t.size;exact⟨⟨ht.os.trans h.t.os,ht.tape.trans h.t.tape,ht.output.trans h.t.output,Nat.le_trans h.t.size ht.size,fun k hk hne=>(ht.block k (Nat.lt_of_lt_of_le hk h.t.size) (fun e=>by have:=hs k e;omega)).trans (h.t.block k hk hne)⟩,fun o h1 h4=>(ht.cell (p:=⟨b,o,none⟩) hby nb).trans (h.keep o h1 h4),fun o=>(ht.frozen (p:=⟨b,o,none⟩) hby nb).trans (h.fr o)⟩
theorem BT.Ag{b:Nat}{x y:World}(h:BT b x y){a:Addr}(ha:x.heap.size<=a.block)(hb:b<x.heap.size)(v:Value):BT b x (y.setCell a v) :=h.next (S:=(·=a.block)) (Touch.setCell (S:=(·=a.block)) (Touch.refl _ y) (p:=a) rfl v) (fun k e=>by rw[e];exact ha) hb
theorem RB.Oy{w w':World}{b:Nat}{s:ByteArray}{p:Nat}(h:RB w b s p){S:Nat->Prop}(ht:Touch S w w')(hs:¬S b):RB w' b s p:=by
 have hl:=h.lt;have e:∀o,w'.cell? ⟨b,o,none⟩=w.cell? ⟨b,o,none⟩:=fun o=>ht.cell hl hs;have f:∀o,w'.frozen? ⟨b,o,none⟩=w.frozen? ⟨b,o,none⟩:=fun o=>ht.frozen hl hs;exact⟨(e 0).trans h.c0,(e 1).trans h.c1,(e 4).trans h.c4,fun o=>(f o).trans (h.fr o)⟩
theorem RB.set{w:World}{b:Nat}{s:ByteArray}{p:Nat}(h:RB w b s p){a:Addr}(ha:b≠a.block)(v:Value):RB (w.setCell a v) b s p:=
 h.Oy (S:=(·=a.block)) (Touch.setCell (S:=(·=a.block)) (Touch.refl _ w) (p:=a) rfl v) ha
theorem RB.drew{w:World}{b:Nat}{s:ByteArray}{p:Nat}(h:RB w b s p):RB w.drew b s p:=⟨h.c0,h.c1,h.c4,h.fr⟩
theorem BT.drew{b:Nat}{x y:World}(h:BT b x y):BT b x y.drew:=⟨h.t.drew,h.keep,h.fr⟩
def kK(w:World)(ob:Nat):Prop:=∀j,j<19->w.cell? ⟨ob,j,none⟩=some (.int .i64 ((order.getD j 0:Nat):Int))
theorem kK.keep{S:Nat->Prop}{w w':World}{ob:Nat}(h:kK w ob)(ht:Touch S w w')(hs:¬S ob):kK w' ob:=fun j hj=>ht.at (h j hj) hs
theorem RB.err{w:World}{b:Nat}{s:ByteArray}{p:Nat}(h:RB w b s p):∃k:Nat,k<=1/\w.cell? ⟨b,4,none⟩=some (.int .i64 (k:Int)):=⟨_,by split<;>omega,h.c4⟩
def uP(b:Nat)(s:ByteArray)(p0:Nat)(w:World)(r:Option (List Nat×List Nat×Nat))(e:Ending)(w':World):Prop:=
 BT b w w'/\match r with
 |none=>e=.returned (.tuple #[.slice none 0 0,.slice none 0 0,.bool false])/\∃k:Nat,k<=1/\w'.cell? ⟨b,4,none⟩=some (.int .i64 (k:Int))
 |some (L,D,q)=>∃g c1 c2,e=.returned (.tuple #[.slice (some ⟨g,0,none⟩) L.length c1,.slice (some ⟨g,L.length,none⟩) D.length c2,.bool true])/\(∀j (h:j<L.length),w'.cell? ⟨g,0+j,none⟩=some (.int .i64 (L[j]:Nat)))/\(∀j (h:j<D.length),w'.cell? ⟨g,L.length+j,none⟩=some (.int .i64 (D[j]:Nat)))/\RB w' b s q/\q<=8*s.size/\p0<=q/\L.length<=286/\D.length<=30
theorem Qii(w:World)(b:Nat)(s:ByteArray)(p:Nat)(hs:s.size<=2147483648)(h:RB w b s p): Calls Tryz.prog 152 #[.pointer (some ⟨b,0,none⟩)] w (uP b s p w (Ov s p)):=by
 have hlt:=h.lt;obtain⟨R,hR⟩:∃R,R=Ov s p:=⟨_,rfl⟩;have HR:Hid (R=Ov s p):=hR;rw[<-hR];clear hR;unfold Ov at HR;obtain⟨x,hx⟩:∃x,x=numAt s p 5:=⟨_,rfl⟩;obtain⟨y,hy⟩:∃y,y=numAt s (p+5) 5:=⟨_,rfl⟩;obtain⟨z,hz⟩:∃z,z=numAt s (p+10) 4:=⟨_,rfl⟩;have bx:=Dl s p 5;have bY:=Dl s (p+5) 5;have bz:=Dl s (p+10) 4;rw[<-hx,<-hy,<-hz]at HR;rw[<-hx]at bx;rw[<-hy]at bY;rw[<-hz]at bz;have HX:Hid (x=numAt s p 5):=hx;have HY:Hid (y=numAt s (p+5) 5):=hy;have HZ:Hid (z=numAt s (p+10) 4):=hz;clear hx hy hz;obtain⟨M,hM⟩:∃M,M=x+257:=⟨_,rfl⟩;obtain⟨F,hF⟩:∃F,F=y+1:=⟨_,rfl⟩;obtain⟨n,hn⟩:∃n,n=z+4:=⟨_,rfl⟩;rw[<-hM,<-hF,<-hn]at HR;have iM:(x:Int)+257=(M:Int):=by omega
 have iF:(y:Int)+1=(F:Int):=by omega
 have iN:(z:Int)+4=(n:Int):=by omega
 have M1:257<=M:=by omega
 have F1:1<=F:=by omega
 have n19:n<=19:=by omega
 have M3:M<=400:=by omega
 have F3:F<=400:=by omega
 clear hM hF hn;obtain⟨i0,hi,hz0,hz1,hz2⟩:=info_parts Tryz.Qw;have hm1:i0.bytes*19<=281474976710656:=by rw[hz2];omega
 have hm2:19<=maxLen:=by unfold maxLen;omega
 go_enter Tryz.func152,Tryz.ntmps152;go_wp2_with fail;refine(Es w b s p 5 x _ rfl HX.out (by omega) hs h).mono ?_;rintro e w1 ⟨rfl,r1,t1⟩;go_wp2_with fail;refine(Es w1 b s (p+5) 5 y _ rfl HY.out (by omega) hs r1).mono ?_;rintro e w2 ⟨rfl,r2,t2⟩;go_wp2_with fail;refine(Es w2 b s (p+10) 4 z _ rfl HZ.out (by omega) hs r2).mono ?_;rintro e w3 ⟨rfl,r3,t3⟩;have T3:=(t1.trans t2).trans t3;clear t1 t2 t3 r1 r2;have sz3:=T3.t.size;by_cases o1:8*s.size<p+10+4
 .have HE:Hid (R=none):=by
   unfold Hid;rw[HR.out];split;.rfl
   rw[if_pos (Or.inl (by omega))]
  have h4:=r3.one o1;go_wp2;go_ret3;exact⟨T3,by rw[HE.out];exact⟨rfl,r3.err⟩⟩
 have h4:=r3.zero (by omega);by_cases c1:286<M\/30<F
 .have HE:Hid (R=none):=by unfold Hid;rw[HR.out,if_pos c1]
  by_cases cx:286<M
  .go_wp2;go_ret3;exact⟨T3,by rw[HE.out];exact⟨rfl,r3.err⟩⟩
  have cy:30<F:=by omega
  go_wp2;go_ret3;exact⟨T3,by rw[HE.out];exact⟨rfl,r3.err⟩⟩
 have cx:M<=286:=by omega
 have cy:F<=30:=by omega
 have hh:=HR.out;rw[if_neg c1]at hh;have HR':Hid (R=_):=hh;clear HR hh c1;have cx':(M:Int)<=286:=by omega
 have cy':(F:Int)<=30:=by omega
 go_wp2_with (at_make;refine wpList_make_full _ rfl _ _ 26 rfl (w3.heap.size+1) 3 i0 (.int .i64 0) 1 Tryz.underlying26 hi hz0 hz1 .i64 .i64 _ _ 19 rfl rfl rfl rfl hm1 hm2 (by simp) ?_;intro w4 hown4 hgrow4);have T4:Touch (fun _=>False) w3 w4:=((Touch.refl _ w3).alloc _).Fa hgrow4 (by intro k e;cases e);have r0:w4.heap[w3.heap.size]?=some (.cells #[.int .i64 16,.int .i64 17,.int .i64 18,.int .i64 0,.int .i64 8,.int .i64 7,.int .i64 9,.int .i64 6,.int .i64 10,.int .i64 5,.int .i64 11,.int .i64 4,.int .i64 12,.int .i64 3,.int .i64 13,.int .i64 2,.int .i64 14,.int .i64 1,.int .i64 15] 3 (0,0)):=by
  rw[hgrow4.block w3.heap.size (by simp) (by simp)];exact heap_alloc_new w3 _
 have od4:kK w4 w3.heap.size:=by
  intro j hj;rw[cell_of_row _ _ _ _ _ _ r0];rcases(by omega:j=0\/j=1\/j=2\/j=3\/j=4\/j=5\/j=6\/j=7\/j=8\/j=9\/j=10\/j=11\/j=12\/j=13\/j=14\/j=15\/j=16\/j=17\/j=18)with rfl|rfl|rfl|rfl|rfl|rfl|rfl|rfl|rfl|rfl|rfl|rfl|rfl|rfl|rfl|rfl|rfl|rfl|rfl<;>rfl
 have E4:(madeCells (Value.int IntKind.i64 0).cells (19*1)).toList=ints (Fq s (p+14) 0):=by kernel_rfl
 rw[E4]at hown4;simp only[World.size_alloc]at hown4;have dM:decide ((286:Int)<(M:Int))=false:=by simp;omega
 have dF:decide ((30:Int)<(F:Int))=false:=by simp;omega
 simp only[dM,dF,Bool.or_false];clear dM dF;obtain⟨fb,hfb⟩:∃fb,fb=w3.heap.size+1:=⟨_,rfl⟩;obtain⟨ob,hob⟩:∃ob,ob=w3.heap.size:=⟨_,rfl⟩;rw[<-hfb]at hown4 ⊢;rw[<-hob]at od4 ⊢;have ob1:w.heap.size<=ob:=by omega
 have fb1:ob<fb:=by omega
 have nof:¬ob=fb:=by omega
 have nfo:¬fb=ob:=by omega
 clear hob hfb r0;go_loopw [10] (fun i wr=>∃k:Nat,k<=n/\i=.int .i64 (k:Int)/\wr.ownsRow (fb) 3 1 (.slice (some ⟨fb,0,none⟩) 19 19) 19 (ints (Fq s (p+14) k))/\RB wr b s (p+14+3*k)/\BT b w wr/\kK wr ob) (fun i _=>n-(intOf i).toNat)
 case atStart=>exact⟨0,by omega,rfl,hown4,r3.Oy T4 (fun h=>h),T3.next T4 (fun _ e=>e.elim) hlt,od4⟩
 case round=>
  clear hown4 hgrow4 E4 od4 r3 T3 h4 o1 T4;obtain⟨k,hk,rfl,hown,hrd,hbt,hord⟩:=hrel;by_cases hlt':k<n
  .have ho1:=hord k (by omega);have hol:=sK k (by omega);obtain⟨o,ho⟩:∃o,o=order.getD k 0:=⟨_,rfl⟩;have HO:Hid (o=order.getD k 0):=ho;rw[<-ho]at ho1 hol;clear ho;obtain⟨old,e3⟩:∃v,wr.cell? ⟨fb,o,none⟩=some v:=by
    rw[hown.cellAt _ (by omega)];have:=hown.1;exact⟨_,List.getElem?_eq_getElem (by omega)⟩
   have e4:=hown.frozenAt o;obtain⟨v,hv⟩:∃v,v=numAt s (p+14+3*k) 3:=⟨_,rfl⟩;have HV:Hid (v=numAt s (p+14+3*k) 3):=hv;clear hv;clear hm1 hm2 hi hz0 hz1 hz2;have y1:(0:Int)<=(k:Int):=by omega
   have y2:(k:Int)<19:=by omega
   have y3:IntKind.i64.wrap (k:Int)=(k:Int):=by simp[IntKind.wrap,IntKind.bits,IntKind.signed];omega
   have y4:(0:Int)<=(o:Int):=by omega
   have y5:(o:Int)<19:=by omega
   have y6:IntKind.i64.wrap (o:Int)=(o:Int):=by simp[IntKind.wrap,IntKind.bits,IntKind.signed];omega
   have y7:k<19:=by omega
   go_wp2;have d1:wr.drew.cell? ⟨ob,k,none⟩=some (.int .i64 (o:Int)):=ho1;have d3:wr.drew.cell? ⟨fb,o,none⟩=some old:=e3;have d4:wr.drew.frozen? ⟨fb,o,none⟩=false:=e4;have dlt:fb<wr.drew.heap.size:=World.block_lt_of_cell? _ _ d3;go_region_held3 (fun x=>x.cell? ⟨ob,k,none⟩=some (.int .i64 (o:Int))) (first|exact d1|exact ho2|assumption|go_keep) (first|(go_at_call 148;refine(Es wr.drew b s (p+14+3*k) 3 v _ rfl HV.out (by omega) hs hrd.drew).mono ?_;rintro e w5 ⟨rfl,hrd',hrt'⟩;have ho2:=hrt'.t.at d1 (by show¬ob=b;omega);have e3':=hrt'.t.at d3 (by show¬fb=b;omega);have e4':=(hrt'.t.frozen (p:=⟨fb,o,none⟩) dlt (by show¬fb=b;omega)).trans d4));all_goals go_wp2
   all_goals
    go_roundw
    case rel=>
     have hownd:wr.drew.ownsRow (fb) 3 1 (.slice (some ⟨fb,0,none⟩) 19 19) 19 (ints (Fq s (p+14) k)):=hown;have how:=hrt'.t.owns hownd (by intro j hj;cases hj;show¬fb=b;omega);have hst:=(how.stored o (.int .i64 (v:Int))).1;have e:(ints (Fq s (p+14) k)).set o (.int .i64 (v:Int))=ints (Fq s (p+14) (k+1)):=by
      simp only[Fq,ints,List.map_set,<-HO.out,<-HV.out]
     rw[e]at hst;have bt1:BT b w w5:=hbt.drew.trans hrt';have ord2:kK w5 ob:=(show kK wr.drew ob from hord).keep hrt'.t (by show¬ob=b;omega);refine⟨k+1,by omega,by go_num,hst,?_,?_,?_⟩
     .rw[show p+14+3*(k+1)=p+14+3*k+3 by omega];exact hrd'.set (by show b≠fb;omega) _
     .exact bt1.Ag (by show w.heap.size<=fb;omega) hlt _
     intro j hj;rw[World.cell?_setCell_other];.exact ord2 j hj
     intro e;injection e with e1 _ _;omega
    case measure=>simp[intOf];omega
  obtain rfl:k=n:=by omega
  clear hord hm1 hm2 ob1 fb1 nof nfo n19 hlt';obtain⟨C,hC⟩:∃C,C=Fq s (p+14) k:=⟨_,rfl⟩;have hCl:C.length=19:=by rw[hC,Xk]
  rw[<-hC]at hown HR';clear hC;have hcc:∀j (h:j<C.length),wr.cell? ⟨fb,0+j,none⟩=some (.int .i64 (C[j]:Nat)):=by
   intro j hj;rw[Nat.zero_add,hown.cellAt j (by omega)];simp[ints,hj]
  have wrs:w.heap.size<=wr.heap.size:=hbt.t.size;obtain⟨q0,hq0⟩:∃q0,q0=p+14+3*k:=⟨_,rfl⟩;rw[<-hq0]at hrd HR';have pq0:p<=q0:=by omega
  clear hq0 hown;obtain⟨ok,hok⟩:∃ok,Nj C false=ok:=⟨_,rfl⟩;have HOK:Hid (Nj C false=ok):=hok;clear hok;go_wp2_with fail;refine(rC wr fb 0 19 19 C false ok HOK.out hCl (by omega) hcc).mono ?_;rintro e w6 ⟨vc,rfl,hvc,t6⟩;have BT6:=hbt.next t6 (fun _ e=>e.elim) hlt;have r6:=hrd.Oy t6 (fun e=>e);have b6:b<w6.heap.size:=r6.lt;clear hcc hbt hrd;by_cases o2:8*s.size<q0
  .have HE:Hid (R=none):=by unfold Hid;rw[HR'.out,if_pos (Or.inl o2)]
   have h4:=r6.one o2;cases ok;all_goals
    go_wp2;go_ret3;exact⟨BT6,by rw[HE.out];exact⟨rfl,r6.err⟩⟩
  have h4:=r6.zero (by omega);cases ok
  .have HE:Hid (R=none):=by
    unfold Hid;rw[HR'.out,if_pos (Or.inr ?_)];intro e;have:=HOK.out;unfold Nj at this;rw[e]at this;simp at this
   go_wp2;go_ret3;exact⟨BT6,by rw[HE.out];exact⟨rfl,r6.err⟩⟩
  have hh:=HR'.out;rw[if_neg (by rintro(e|e);exact o2 e;apply e;have:=HOK.out;unfold Nj at this;simpa using this)]at hh;obtain⟨want,hwant⟩:∃want,want=M+F:=⟨_,rfl⟩;rw[<-hwant]at hh;obtain⟨Z,hZ⟩:∃Z,Z=Cj C s want want q0 []:=⟨_,rfl⟩;rw[<-hZ]at hh;have HR2:Hid (R=qJ M Z):=hh;have HZ0:Hid (Z=Cj C s want want q0 []):=hZ;have iW:(M:Int)+(F:Int)=(want:Int):=by omega
  have W1:want<=316:=by omega
  have HW:Hid (want=M+F):=hwant;have oc6:=hvc rfl;have nec:=pF oc6 (show b<wr.heap.size by omega);clear HR' hh hZ hwant hvc bx bY bz HX HY HZ;go_wp2;go_loopw [13] (fun v wr=>∃(l:List Nat) (q:Nat),l.length<=600/\q<=8*s.size/\q0<=q/\wr.ownsRow w6.heap.size 3 1 v l.length (ints l)/\RB wr b s q/\BT b w6 wr/\((l.length<=want/\∃f,want<=f+l.length/\Hid (Z=Cj C s want f q l))\/(want<l.length/\Hid (Z=none)))) (fun v _=>want-lenV v)
  case atStart=>exact⟨[],q0,by simp,by omega,Nat.le_refl _,World.ownsRow_nil _ _ _ _,r6,BT.refl _ _,Or.inl ⟨by simp,want,by simp,HZ0⟩⟩
  case round=>
   clear h4 r6 HZ0 t6;obtain⟨l,q,l6,q8,q08,ho,hrb,hbt,hst⟩:=hrel;have hsz:=hbt.t.size;obtain⟨ao,cp,rfl⟩:=Jq ho;have oc:=hbt.t.owns oc6 nec;have neo:∀j,(Value.slice ao l.length cp).ownBlock=some j->j≠b:=fun j hj=>by have:=(ho.lt j hj).1;omega
   by_cases hlen:l.length<want
   .rcases hst with⟨lw,f,hf,HZ'⟩|⟨hc,_⟩
    case inr=>omega
    obtain⟨f,rfl⟩:∃f',f=f'+1:=⟨f-1,by omega⟩;cases hd:dec C s q with
    |none=>
     have HE:Hid (R=none):=(by unfold Hid;rw[HR2.out,HZ'.out,Rn C s want f q l hlen hd];rfl);have HD:Hid (dec C s q=none):=hd;clear hd;go_wp2_with (go_at_call 221;refine(Ht wr b _ s q C vc _ HD.out (by omega) hs hrb oc nec).mono ?_;rintro e w7 ⟨t7,rfl,h7⟩);go_ret3;exact⟨BT6.trans (hbt.trans t7),by rw[HE.out];exact⟨rfl,1,by omega,h7⟩⟩
    |some kq=>
     obtain⟨kind,q1⟩:=kq;have HS:Hid (Cj C s want (f+1) q l=_):=Iy C s want f q kind q1 l hlen hd;have hkl:=dec_lt hd;have HD:Hid (dec C s q=some (kind,q1)):=hd;clear hd;have k0:decide ((kind:Int)<0)=false:=(by simp);by_cases k16:kind=16
     .by_cases l0:l.length=0
      .have HE:Hid (R=none):=(by unfold Hid;rw[HR2.out,HZ'.out,HS.out,if_pos ⟨k16,l0⟩];rfl);go_wp2_with (go_at_call 221;refine(Ht wr b _ s q C vc _ HD.out (by omega) hs hrb oc nec).mono ?_;rintro e w7 ⟨t7,rfl,r7⟩;have z7:=r7.zero (by omega);have o7:=t7.owns ho neo);go_ret3;exact⟨BT6.trans (hbt.trans t7),by rw[HE.out];exact⟨rfl,r7.err⟩⟩
      have hnk:¬(kind=16/\l.length=0):=(by omega);obtain⟨g,cg,hgv,hgb⟩:=Fp ho (by omega);obtain⟨m,hm⟩:∃m,m=l.length-1:=⟨_,rfl⟩;obtain⟨last,hl0⟩:∃last,last=l.getD m 0:=⟨_,rfl⟩;have hlast:∀x,BT b wr x->x.cell? ⟨g,m,none⟩=some (.int .i64 (last:Int)):=by
       intro x hx;rw[hl0];rw[hgv]at ho;refine hx.t.at ?_ (by show¬g=b;omega);rw[ho.cellAt _ (by omega)];have:m<l.length:=(by omega);simp[ints,this]
      cases hgv;have x2:IntKind.i64.wrap (m:Int)=(m:Int):=(by simp[IntKind.wrap,IntKind.bits,IntKind.signed];omega);have x1:(l.length:Int)-1=(m:Int):=(by omega);have x3:(0:Int)<=(m:Int):=(by omega);have x4:(m:Int)<(l.length:Int):=(by omega);have x5:m<l.length:=(by omega);have x6:((l.length:Int)==0)=false:=(by rw[beq_eq_false_iff_ne];omega);have HMM:Hid (m=l.length-1):=hm;have HL0:Hid (last=l.getD m 0):=hl0;clear hm hl0;obtain⟨V,hV⟩:∃V,V=numAt s q1 2:=⟨_,rfl⟩;have bV:=Dl s q1 2;rw[<-hV]at bV;have HV:Hid (V=numAt s q1 2):=hV;have HL:Hid (lenOf s kind q1 l=(last,3+V,q1+2)):=(by unfold Hid lenOf;rw[hV];rw[if_pos k16,HL0.out,HMM.out]);have HS':Hid (Cj C s want (f+1) q l=if 8*s.size<q1+2 then none else if want<l.length+(3+V)then none else Cj C s want f (q1+2) (l++List.replicate (3+V) (last))):=by
       unfold Hid;rw[HS.out,if_neg hnk,HL.out]
      clear hV HS HL;by_cases hend:8*s.size<q1+2
      .have HE:Hid (R=none):=(by unfold Hid;rw[HR2.out,HZ'.out,HS'.out,if_pos hend];rfl);go_wp2_with (first|(go_at_call 221;refine(Ht wr b _ s q C vc _ HD.out (by omega) hs hrb oc nec).mono ?_;rintro e w7 ⟨t7,rfl,r7⟩;have z7:=r7.zero (by omega);have o7:=t7.owns ho neo)|(go_at_call 148;refine(Es w7 b s q1 2 V _ rfl HV.out (by omega) hs r7).mono ?_;rintro e w8 ⟨rfl,r8,t8⟩;have o8:=t8.owns o7 neo;have dl:=hlast w8 (t7.trans t8))|(go_at_call 219;refine(Ho w8 w6.heap.size _ l (last) (3+V) _ _ (by rfl) (by omega) o8 (by omega) (by omega) (Nat.le_trans hsz (Nat.le_trans t7.t.size t8.t.size))).mono ?_;rintro e w9 ⟨l9,g9,k9,rfl,e9,hg9,ho9,ht9⟩;have r9:=r8.Oy ht9 (by show¬w6.heap.size<=b;omega);have z9:=r9.one (by omega)));go_ret3;exact⟨BT6.trans ((hbt.trans (t7.trans t8)).next ht9 (fun _ e=>e) b6),by rw[HE.out];exact⟨rfl,r9.err⟩⟩
      go_wp2_with (first|(go_at_call 221;refine(Ht wr b _ s q C vc _ HD.out (by omega) hs hrb oc nec).mono ?_;rintro e w7 ⟨t7,rfl,r7⟩;have z7:=r7.zero (by omega);have o7:=t7.owns ho neo)|(go_at_call 148;refine(Es w7 b s q1 2 V _ rfl HV.out (by omega) hs r7).mono ?_;rintro e w8 ⟨rfl,r8,t8⟩;have o8:=t8.owns o7 neo;have dl:=hlast w8 (t7.trans t8))|(go_at_call 219;refine(Ho w8 w6.heap.size _ l (last) (3+V) _ _ (by rfl) (by omega) o8 (by omega) (by omega) (Nat.le_trans hsz (Nat.le_trans t7.t.size t8.t.size))).mono ?_;rintro e w9 ⟨l9,g9,k9,rfl,e9,hg9,ho9,ht9⟩;have r9:=r8.Oy ht9 (by show¬w6.heap.size<=b;omega);have z9:=r9.zero (by omega)));have len9:l9.length=l.length+(3+V):=(by rw[e9.out,List.length_append,List.length_replicate]);go_roundw
      case rel=>
       have bt9:=(hbt.trans (t7.trans t8)).next ht9 (fun _ e=>e) b6;refine⟨l9,q1+2,by omega,by omega,by omega,ho9,r9,bt9,?_⟩;by_cases hmany:want<l.length+(3+V);.exact Or.inr ⟨by omega,by unfold Hid;rw[HZ'.out,HS'.out,if_neg hend,if_pos hmany]⟩
       exact Or.inl ⟨by omega,f,by omega,by unfold Hid;rw[HZ'.out,HS'.out,if_neg hend,if_neg hmany,e9.out]⟩
      case measure=>simp only[lenV,len9];omega
     have hnk:¬(kind=16/\l.length=0):=(by omega);have k16':((kind:Int)==16)=false:=(by simp;omega);by_cases k15:kind<16
     .skip;have HL:Hid (lenOf s kind q1 l=(kind,1,q1)):=(by unfold Hid lenOf;rw[if_neg k16,if_neg (by omega),if_neg (by omega)]);have HS':Hid (Cj C s want (f+1) q l=Cj C s want f q1 (l++[kind])):=by
       unfold Hid;rw[HS.out,if_neg hnk,HL.out,if_neg (by show¬8*s.size<q1;omega),if_neg (by show¬want<l.length+1;omega)];rfl
      have HZ9:Hid (Z=Cj C s want f q1 (l++[kind])):=(by unfold Hid;rw[HZ'.out,HS'.out]);clear HS HL HS' HZ';go_wp2_with fail;refine(Ht wr b _ s q C vc _ HD.out (by omega) hs hrb oc nec).mono ?_;rintro e w7 ⟨t7,rfl,r7⟩;have o7:=t7.owns ho neo;have sz7:=t7.t.size;have b7:w6.heap.size<=w7.heap.size+1:=(by omega);go_wp2_with (at_builtin;refine wpList_append_own _ rfl _ _ 26 rfl w6.heap.size 3 i0 (.int .i64 0) 1 8 Tryz.underlying26 hi hz0 hz1 hz2 rfl (by decide) (.slice ao l.length cp) l.length (ints l) (by simp[Act.eval,Act.put]) (o7.alloc _) ⟨w7.heap.size,0,none⟩ 1 1 [.int .i64 (kind:Int)] (by simp[Act.eval,Act.put]) rfl (cell_one_new _ _ _) (by simp[Value.oneCell']) (by unfold maxLen;omega) (by omega) (by simp;exact b7) ?_;intro v' w9 hown' hgrow _;have ht9:Touch (fun k=>w6.heap.size<=k) w7 w9:=((Touch.refl _ w7).alloc _).grown hgrow (fun j hj=>(o7.lt j hj).1);have r9:=r7.Oy ht9 (by show¬w6.heap.size<=b;omega);have z9:=r9.zero (by omega));obtain⟨ao9,cp9,rfl⟩:=Jq hown';go_roundw
      case rel=>
       have bt9:=(hbt.trans t7).next ht9 (fun _ e=>e) b6;have ho9:w9.ownsRow w6.heap.size 3 1 (.slice ao9 (l.length+1) cp9) (l++[kind]).length (ints (l++[kind])):=(by rw[jE,List.length_append];exact hown');exact⟨l++[kind],q1,by rw[List.length_append];show l.length+1<=600;omega,by omega,by omega,ho9,r9,bt9,Or.inl ⟨by rw[List.length_append];show l.length+1<=want;omega,f,by rw[List.length_append];show want<=f+(l.length+1);omega,HZ9⟩⟩
      case measure=>simp only[lenV];omega
     by_cases k17:kind=17
     .skip;have k17':((kind:Int)==17)=true:=(by simp;omega);obtain⟨V,hV⟩:∃V,V=numAt s q1 3:=⟨_,rfl⟩;have bV:=Dl s q1 3;rw[<-hV]at bV;have HV:Hid (V=numAt s q1 3):=hV;have HL:Hid (lenOf s kind q1 l=(0,3+V,q1+3)):=(by unfold Hid lenOf;rw[hV];rw[if_neg k16,if_pos k17]);have HS':Hid (Cj C s want (f+1) q l=if 8*s.size<q1+3 then none else if want<l.length+(3+V)then none else Cj C s want f (q1+3) (l++List.replicate (3+V) (0))):=by
       unfold Hid;rw[HS.out,if_neg hnk,HL.out]
      clear hV HS HL;by_cases hend:8*s.size<q1+3
      .have HE:Hid (R=none):=(by unfold Hid;rw[HR2.out,HZ'.out,HS'.out,if_pos hend];rfl);go_wp2_with (first|(go_at_call 221;refine(Ht wr b _ s q C vc _ HD.out (by omega) hs hrb oc nec).mono ?_;rintro e w7 ⟨t7,rfl,r7⟩;have z7:=r7.zero (by omega);have o7:=t7.owns ho neo)|(go_at_call 148;refine(Es w7 b s q1 3 V _ rfl HV.out (by omega) hs r7).mono ?_;rintro e w8 ⟨rfl,r8,t8⟩;have o8:=t8.owns o7 neo)|(go_at_call 219;refine(Ho w8 w6.heap.size _ l (0) (3+V) _ _ (by omega) (by omega) o8 (by omega) (by omega) (Nat.le_trans hsz (Nat.le_trans t7.t.size t8.t.size))).mono ?_;rintro e w9 ⟨l9,g9,k9,rfl,e9,hg9,ho9,ht9⟩;have r9:=r8.Oy ht9 (by show¬w6.heap.size<=b;omega);have z9:=r9.one (by omega)));go_ret3;exact⟨BT6.trans ((hbt.trans (t7.trans t8)).next ht9 (fun _ e=>e) b6),by rw[HE.out];exact⟨rfl,r9.err⟩⟩
      go_wp2_with (first|(go_at_call 221;refine(Ht wr b _ s q C vc _ HD.out (by omega) hs hrb oc nec).mono ?_;rintro e w7 ⟨t7,rfl,r7⟩;have z7:=r7.zero (by omega);have o7:=t7.owns ho neo)|(go_at_call 148;refine(Es w7 b s q1 3 V _ rfl HV.out (by omega) hs r7).mono ?_;rintro e w8 ⟨rfl,r8,t8⟩;have o8:=t8.owns o7 neo)|(go_at_call 219;refine(Ho w8 w6.heap.size _ l (0) (3+V) _ _ (by omega) (by omega) o8 (by omega) (by omega) (Nat.le_trans hsz (Nat.le_trans t7.t.size t8.t.size))).mono ?_;rintro e w9 ⟨l9,g9,k9,rfl,e9,hg9,ho9,ht9⟩;have r9:=r8.Oy ht9 (by show¬w6.heap.size<=b;omega);have z9:=r9.zero (by omega)));have len9:l9.length=l.length+(3+V):=(by rw[e9.out,List.length_append,List.length_replicate]);go_roundw
      case rel=>
       have bt9:=(hbt.trans (t7.trans t8)).next ht9 (fun _ e=>e) b6;refine⟨l9,q1+3,by omega,by omega,by omega,ho9,r9,bt9,?_⟩;by_cases hmany:want<l.length+(3+V);.exact Or.inr ⟨by omega,by unfold Hid;rw[HZ'.out,HS'.out,if_neg hend,if_pos hmany]⟩
       exact Or.inl ⟨by omega,f,by omega,by unfold Hid;rw[HZ'.out,HS'.out,if_neg hend,if_neg hmany,e9.out]⟩
      case measure=>simp only[lenV,len9];omega
     skip;have k18:kind=18:=(by omega);have k17':((kind:Int)==17)=false:=(by simp;omega);obtain⟨V,hV⟩:∃V,V=numAt s q1 7:=⟨_,rfl⟩;have bV:=Dl s q1 7;rw[<-hV]at bV;have HV:Hid (V=numAt s q1 7):=hV;have HL:Hid (lenOf s kind q1 l=(0,11+V,q1+7)):=(by unfold Hid lenOf;rw[hV];rw[if_neg k16,if_neg k17,if_pos k18]);have HS':Hid (Cj C s want (f+1) q l=if 8*s.size<q1+7 then none else if want<l.length+(11+V)then none else Cj C s want f (q1+7) (l++List.replicate (11+V) (0))):=by
      unfold Hid;rw[HS.out,if_neg hnk,HL.out]
     clear hV HS HL;by_cases hend:8*s.size<q1+7
     .have HE:Hid (R=none):=(by unfold Hid;rw[HR2.out,HZ'.out,HS'.out,if_pos hend];rfl);go_wp2_with (first|(go_at_call 221;refine(Ht wr b _ s q C vc _ HD.out (by omega) hs hrb oc nec).mono ?_;rintro e w7 ⟨t7,rfl,r7⟩;have z7:=r7.zero (by omega);have o7:=t7.owns ho neo)|(go_at_call 148;refine(Es w7 b s q1 7 V _ rfl HV.out (by omega) hs r7).mono ?_;rintro e w8 ⟨rfl,r8,t8⟩;have o8:=t8.owns o7 neo)|(go_at_call 219;refine(Ho w8 w6.heap.size _ l (0) (11+V) _ _ (by omega) (by omega) o8 (by omega) (by omega) (Nat.le_trans hsz (Nat.le_trans t7.t.size t8.t.size))).mono ?_;rintro e w9 ⟨l9,g9,k9,rfl,e9,hg9,ho9,ht9⟩;have r9:=r8.Oy ht9 (by show¬w6.heap.size<=b;omega);have z9:=r9.one (by omega)));go_ret3;exact⟨BT6.trans ((hbt.trans (t7.trans t8)).next ht9 (fun _ e=>e) b6),by rw[HE.out];exact⟨rfl,r9.err⟩⟩
     go_wp2_with (first|(go_at_call 221;refine(Ht wr b _ s q C vc _ HD.out (by omega) hs hrb oc nec).mono ?_;rintro e w7 ⟨t7,rfl,r7⟩;have z7:=r7.zero (by omega);have o7:=t7.owns ho neo)|(go_at_call 148;refine(Es w7 b s q1 7 V _ rfl HV.out (by omega) hs r7).mono ?_;rintro e w8 ⟨rfl,r8,t8⟩;have o8:=t8.owns o7 neo)|(go_at_call 219;refine(Ho w8 w6.heap.size _ l (0) (11+V) _ _ (by omega) (by omega) o8 (by omega) (by omega) (Nat.le_trans hsz (Nat.le_trans t7.t.size t8.t.size))).mono ?_;rintro e w9 ⟨l9,g9,k9,rfl,e9,hg9,ho9,ht9⟩;have r9:=r8.Oy ht9 (by show¬w6.heap.size<=b;omega);have z9:=r9.zero (by omega)));have len9:l9.length=l.length+(11+V):=(by rw[e9.out,List.length_append,List.length_replicate]);go_roundw
     case rel=>
      have bt9:=(hbt.trans (t7.trans t8)).next ht9 (fun _ e=>e) b6;refine⟨l9,q1+7,by omega,by omega,by omega,ho9,r9,bt9,?_⟩;by_cases hmany:want<l.length+(11+V);.exact Or.inr ⟨by omega,by unfold Hid;rw[HZ'.out,HS'.out,if_neg hend,if_pos hmany]⟩
      exact Or.inl ⟨by omega,f,by omega,by unfold Hid;rw[HZ'.out,HS'.out,if_neg hend,if_neg hmany,e9.out]⟩
     case measure=>simp only[lenV,len9];omega
   have hl256:256<l.length:=by omega
   have z:=hrb.zero q8;rcases hst with⟨lw,f,hf,HZ'⟩|⟨hc,HZ'⟩
   .have hll:l.length=want:=(by omega);have HE0:Hid (R=if l.getD 256 0=0 then none else some (l.take M,l.drop M,q)):=(by unfold Hid;rw[HR2.out,HZ'.out,Rh C s want f q l (by omega)];rfl);obtain⟨g,cg,hgv,hgb⟩:=Fp ho (by omega);rw[hgv]at ho;cases hgv;have c256:wr.cell? ⟨g,256,none⟩=some (.int .i64 ((l.getD 256 0:Nat):Int)):=by
     have:=Jo ho 256 hl256;simpa [hl256]using this
    have x1:(256:Int)<(l.length:Int):=(by omega);have x2:¬(want:Int)<(l.length:Int):=(by omega);have x3:¬(l.length:Int)<(want:Int):=(by omega);by_cases c5:l.getD 256 0=0
    .have HE:Hid (R=none):=(by unfold Hid;rw[HE0.out,if_pos c5]);rw[c5]at c256;clear hll c5;go_wp2;go_ret3;exact⟨BT6.trans hbt,by rw[HE.out];exact⟨rfl,hrb.err⟩⟩
    have HE:Hid (R=some (l.take M,l.drop M,q)):=(by unfold Hid;rw[HE0.out,if_neg c5]);obtain⟨v256,h256⟩:∃v,v=l.getD 256 0:=⟨_,rfl⟩;rw[<-h256]at c256 c5;have c5':((v256:Int)==0)=false:=(by simp;omega);have hcap:l.length<=cp:=by
     rcases ho.2 with⟨h,_⟩|⟨g',cap',cur,h,_,_,h5,_⟩;.cases h
     cases h;exact h5
    have w0:=HW.out;obtain⟨pc1,pc2⟩:=jF ho M;have hLl:(l.take M).length=M:=(by rw[List.length_take];omega);have hDl:(l.drop M).length=l.length-M:=(by rw[List.length_drop]);have s1:(M:Int)<=(cp:Int):=(by omega);have s2:(M:Int)<=(l.length:Int):=(by omega);have s3:M<=l.length:=(by omega);have s4:M<=cp:=(by omega);have s5:¬M=cp:=(by omega);have s6:¬(M:Int)=(cp:Int):=(by omega);have s7:¬cp=M:=(by omega);have s8:M<cp:=(by omega);have dn:l.length-M<=30:=(by omega);have HLL:Hid (l.length=want):=hll;clear hll h256 w0;go_wp2;go_quiet (fail);go_wp2;go_ret3;refine⟨BT6.trans (hbt.drewN nq),?_⟩;rw[HE.out];refine⟨g,cp,cp-M,?_,pc1,?_,⟨hrb.c0,hrb.c1,hrb.c4,hrb.fr⟩,q8,by omega,by omega,by omega⟩;.rw[hLl,hDl];rfl
    rw[hLl];exact pc2
   have HE:Hid (R=none):=by unfold Hid;rw[HR2.out,HZ'.out];rfl
   have x2:(want:Int)<(l.length:Int):=by omega
   have x3:¬(l.length:Int)<(want:Int):=by omega
   go_wp2;go_ret3;exact⟨BT6.trans hbt,by rw[HE.out];exact⟨rfl,hrb.err⟩⟩
theorem Qgo(w:World)(s:ByteArray)(M:Int):Ref (w.alloc (.cells #[.string s,.int .i64 0,.slice none 0 0,.int .i64 M,.int .i64 0] 236)) w.heap.size s 0 [] M:=by
 have hc:∀j,(w.alloc (.cells #[.string s,.int .i64 0,.slice none 0 0,.int .i64 M,.int .i64 0] 236)).cell? ⟨w.heap.size,j,none⟩=#[Value.string s,.int .i64 0,.slice none 0 0,.int .i64 M,.int .i64 0][j]?:=fun j=>Ac (heap_alloc_new w _) j;refine⟨⟨?_,?_,?_,?_⟩,⟨none,0,?_,World.ownsRow_nil _ _ _ _⟩,?_,Nat.zero_le _⟩;.rw[hc];rfl
 .rw[hc];simp
 .rw[hc];simp
 .intro o;exact Ew (heap_alloc_new w _) o
 .rw[hc];rfl
 rw[hc];rfl
theorem Qd4:fine Cm Gu=true:=by decide +kernel
theorem Qey(b:Nat)(w:World)(s:ByteArray)(p:Nat)(out:List UInt8)(M:Int)(R:Sum Nat (List UInt8×Nat))(hR:Gw s p out (max M 0).toNat=R)(hs:s.size<=2147483648)(h:Ref w b s p out M)(hp:p<=8*s.size): Calls Tryz.prog 149 #[.pointer (some ⟨b,0,none⟩)] w fun e w'=>e=.returned (.tuple #[])/\Jk b s M w R w':=by
 subst hR;exact Qdt b w s p out M hs h hp
theorem Qdh(w:World)(b:Nat)(s:ByteArray)(p:Nat)(R:Option (List Nat×List Nat×Nat))(hR:Ov s p=R)(hs:s.size<=2147483648)(h:RB w b s p): Calls Tryz.prog 152 #[.pointer (some ⟨b,0,none⟩)] w (uP b s p w R):=by
 subst hR;exact Qii w b s p hs h
theorem vJ(b:Nat)(w:World)(s:ByteArray)(p:Nat)(out:List UInt8)(M:Int)(lb lo N1 k1 db dof N2 k2:Nat)(L D:List Nat)(f:Nat)(R:Sum Nat (List UInt8×Nat))(hR:(if fine L D=true then Bz L D s (max M 0).toNat f p out else .inl 1)=R)(hs:s.size<=2147483648)(h:Ref w b s p out M)(hp:p<=8*s.size)(hl1:L.length=N1)(hl2:D.length=N2)(n1:N1<=288)(n2:N2<=32)(c1:∀j (h:j<L.length),w.cell? ⟨lb,lo+j,none⟩=some (.int .i64 (L[j]:Nat)))(c2:∀j (h:j<D.length),w.cell? ⟨db,dof+j,none⟩=some (.int .i64 (D[j]:Nat)))(hf:8*s.size+1<=p+f): Calls Tryz.prog 151 #[.pointer (some ⟨b,0,none⟩),.slice (some ⟨lb,lo,none⟩) N1 k1,.slice (some ⟨db,dof,none⟩) N2 k2] w fun e w'=>e=.returned (.tuple #[])/\Jk b s M w R w':=by
 subst hR;exact Qdv b w s p out M lb lo N1 k1 db dof N2 k2 L D hs h hp hl1 hl2 n1 n2 c1 c2 f hf
theorem Qeu:Cm.length=288:=by decide +kernel
theorem Qe0:Gu.length=32:=by decide +kernel
theorem Qhl(w:World): Calls Tryz.prog 150 #[] w fun e w'=>∃(g1 k1 g2 k2:Nat),e=.returned (.tuple #[.slice (some ⟨g1,0,none⟩) 288 k1,.slice (some ⟨g2,0,none⟩) 32 k2]) /\(∀j (h:j<Cm.length),w'.cell? ⟨g1,0+j,none⟩=some (.int .i64 (Cm[j]:Nat)))/\(∀j (h:j<Gu.length),w'.cell? ⟨g2,0+j,none⟩=some (.int .i64 (Gu[j]:Nat)))/\Touch (fun _=>False) w w':=by
 refine(Qg8 w).mono ?_;rintro e w' ⟨l,d,g1,k1,g2,k2,rfl,hl,hd,o1,o2,t⟩;have e1:=hl.out;have e2:=hd.out;subst e1 e2;exact⟨g1,k1,g2,k2,by rw[Qeu,Qe0],Jo o1,Jo o2,t⟩
theorem Qbd(s:ByteArray)(p:Nat)(out:List UInt8)(most:Nat)(L D:List Nat)(q:Nat)(h:Ov s p=some (L,D,q)):Ec s 2 p out most=if fine L D=true then Bz L D s most (8*s.size+1) q out else .inl 1:=by
 unfold Ec;rw[if_neg (by decide),if_neg (by decide),if_pos rfl,lZ,h];by_cases c:fine L D=true;.simp only[c,if_true]
 simp only[c,if_false];rfl
theorem zT(s:ByteArray)(p:Nat)(out:List UInt8)(most:Nat)(h:Ov s p=none):Ec s 2 p out most=.inl 1:=by
 unfold Ec;rw[if_neg (by decide),if_neg (by decide),if_pos rfl,lZ,h]
def Uf(b:Nat)(s:ByteArray)(M:Int)(most:Nat)(R:Sum Nat (List UInt8×Nat))(w1:World)(g:Nat)(la:Value)(wr:World):Prop:=
 ∃lb:Nat,lb<=1/\la=.int .i64 (lb:Int)/\IT b w1 wr/\((lb=0/\∃p out,Ref wr b s p out M/\p<=8*s.size/\8*s.size+1<=p+g/\Hid (R=Bq s most g p out))\/(lb=1/\∃p out,Ref wr b s p out M/\p<=8*s.size/\Hid (R=.inr (out,p)))\/∃e:Nat,1<=e/\Hid (R=.inl e)/\wr.cell? ⟨b,4,none⟩=some (.int .i64 (e:Int)))
theorem uJ(b:Nat)(s:ByteArray)(M:Int)(most:Nat)(R C:Sum Nat (List UInt8×Nat))(w1 w3 w4:World)(g p v kd:Nat)(out:List UInt8)(HR:Hid (R=Bq s most (g+1) p out))(c1:¬8*s.size<p+3)(hv:Ea s p=v)(hk:numAt s (p+1) 2=kd)(hC:Ec s kd (p+3) out most=C)(it:IT b w1 w3)(hp:Jk b s M w3 C w4)(hf:8*s.size+1<=p+(g+1)):Uf b s M most R w1 g (.int .i64 (v:Int)) w4:=by
 have bv:=Sm s p;have hh:=HR.out;unfold Bq at hh;rw[if_neg c1,hk,hC,hv]at hh;cases C with
 |inl k=>
  have hk:=Vw s kd (p+3) out most k hC;exact⟨v,by omega,rfl,it.trans hp.1,Or.inr (Or.inr ⟨k,by omega,hh,hp.2⟩)⟩
 |inr oq=>
  obtain⟨o,q⟩:=oq;have hle:=Yj s kd (p+3) out most o q hC;have hr:Ref w4 b s q o M:=hp.2;change R=(if v=1 then .inr (o,q)else Bq s most g q o)at hh;by_cases c2:v=1
  .rw[if_pos c2]at hh;exact⟨v,by omega,rfl,it.trans hp.1,Or.inr (Or.inl ⟨c2,q,o,hr,hle.2,hh⟩)⟩
  rw[if_neg c2]at hh;exact⟨v,by omega,rfl,it.trans hp.1,Or.inl ⟨by omega,q,o,hr,hle.2,by omega,hh⟩⟩
theorem jP(w:World)(s:ByteArray)(M:Int)(hs:s.size<=2147483648): Calls Tryz.prog 96 #[.string s,.int .i64 M] w fun e w'=>e=.returned (He (Ed s M))/\Touch (fun _=>False) w w':=by
 obtain⟨R,hR⟩:∃R,R=Ed s M:=⟨_,rfl⟩;obtain⟨most,hmost⟩:∃most,most=(max M 0).toNat:=⟨_,rfl⟩;have HB:Hid (R=Bq s most (8*s.size+1) 0 []):=by unfold Hid;rw[hR];unfold Ed;rw[hmost]
 have HM:Hid (most=(max M 0).toNat):=hmost;rw[<-hR];clear hR hmost;have hin:=Qgo w s M;have t1:Touch (fun _=>False) w (w.alloc (.cells #[.string s,.int .i64 0,.slice none 0 0,.int .i64 M,.int .i64 0] 236)):=(Touch.refl _ w).alloc _;go_enter Tryz.func96,Tryz.ntmps96;go_wp2;obtain⟨w1,hw1⟩:∃w1,w1=w.alloc (.cells #[.string s,.int .i64 0,.slice none 0 0,.int .i64 M,.int .i64 0] 236):=⟨_,rfl⟩;obtain⟨b,hb⟩:∃b,b=w.heap.size:=⟨_,rfl⟩;rw[<-hw1]at hin t1 ⊢;have fin:∀w',IT b w1 w'->Touch (fun _=>False) w w':=fun w' it=>
  ((t1.mono (T:=fun k=>k=b\/b<k) (fun _ _ e=>e.elim)).trans (it.mono (fun _ _ e=>e.elim Or.inl (fun e=>Or.inr e.1)))).mono (fun k hk e=>by omega)
 rw[<-hb]at hin ⊢;clear hw1 hb;go_loopg [8] (8*s.size+1) (fun g la wr=>Uf b s M most R w1 g la wr)
 case atStart=>exact⟨0,by omega,rfl,IT.refl _ _,Or.inl ⟨rfl,0,[],hin,by omega,by omega,HB⟩⟩
 case round=>
  clear hin t1 HB;obtain⟨lb,hl1,rfl,hit,hst⟩:=hrel;rcases hst with⟨rfl,p,out,ref,hp,hf,HR⟩|⟨rfl,p,out,ref,hp,HR⟩|⟨e,he,HE,h4⟩
  .obtain⟨g,rfl⟩:∃g,gk=g+1:=⟨gk-1,by omega⟩;have h4:=ref.rb.zero hp;obtain⟨v,hv⟩:∃v,Ea s p=v:=⟨_,rfl⟩;obtain⟨kd,hkd⟩:∃kd,kd=numAt s (p+1) 2:=⟨_,rfl⟩;have bk:=Dl s (p+1) 2;rw[<-hkd]at bk;have HV:Hid (Ea s p=v):=hv;have HK:Hid (kd=numAt s (p+1) 2):=hkd;clear hv hkd;go_wp2_with fail;refine(sF wr b s p v HV.out hs ref.rb).mono ?_;rintro e w2 ⟨rfl,r2,t2⟩;go_wp2_with fail;refine(Es w2 b s (p+1) 2 kd _ rfl HK.out (by omega) hs r2).mono ?_;rintro e w3 ⟨rfl,r3,t3⟩;have T3:=t2.trans t3;rw[show p+1+2=p+3 by omega]at r3;have IT3:=hit.trans (IT.Qp T3);clear h4 r2 t2 t3;by_cases c1:8*s.size<p+3
   .have HE:Hid (R=.inl 1):=by
     have hh:=HR.out;unfold Bq at hh;rw[if_pos c1]at hh;exact hh
    have h4:=r3.one c1;go_wp2;go_quiet (fail);go_wp2;go_ret3;exact⟨by rw[HE.out];rfl,(fin w3 IT3).drewN _⟩
   have c1':p+3<=8*s.size:=by omega
   have h4:=r3.zero c1';have i3:=ref.read r3 T3 (by omega);have f4:=r3.fr 4;have nx:∀C w4,Ec s kd (p+3) out most=C->Jk b s M w3 C w4->Uf b s M most R w1 g (.int .i64 (v:Int)) w4:=fun C w4 hC hq=>uJ b s M most R C w1 w3 w4 g p v kd out HR c1 HV.out HK.out.symm hC IT3 hq hf;have NX:Hid (∀C w4,Ec s kd (p+3) out most=C->Jk b s M w3 C w4->Uf b s M most R w1 g (.int .i64 (v:Int)) w4):=nx;clear nx HR HV HK;have hm:=HM.out;rcases(by omega:kd=0\/kd=1\/kd=2\/kd=3)with rfl|rfl|rfl|rfl
   .obtain⟨C,hC⟩:∃C,Gw s (p+3) out (max M 0).toNat=C:=⟨_,rfl⟩;have HC:Hid (Gw s (p+3) out (max M 0).toNat=C):=hC;have hB:Ec s 0 (p+3) out most=C:=(by unfold Ec;rw[if_pos rfl,hm];exact hC);have NX':=fun w4 hp=>NX.out C w4 hB hp;have NX2:Hid (∀w4,Jk b s M w3 C w4->Uf b s M most R w1 g (.int .i64 (v:Int)) w4):=NX';clear NX' NX hB hC hm;go_wp2_with (go_at_call 149;refine(Qey b w3 s (p+3) out M C HC.out hs i3 c1').mono ?_;rintro e w4 ⟨rfl,hpost⟩);go_roundg g
    case measure=>omega
    case rel=>exact NX2.out w4 hpost
   .obtain⟨C,hC⟩:∃C,Bz Cm Gu s most (8*s.size+1) (p+3) out=C:=⟨_,rfl⟩;have HC:Hid ((if fine Cm Gu=true then Bz Cm Gu s (max M 0).toNat (8*s.size+1) (p+3) out else .inl 1)=C):=(by unfold Hid;rw[if_pos Qd4,<-hm];exact hC);have hB:Ec s 1 (p+3) out most=C:=(by unfold Ec;rw[if_neg (by decide),if_pos rfl];exact hC);have NX2:Hid (∀w4,Jk b s M w3 C w4->Uf b s M most R w1 g (.int .i64 (v:Int)) w4):=fun w4 hp=>NX.out C w4 hB hp;clear NX hB hC hm;go_wp2_with (first|(go_at_call 150;refine(Qhl w3).mono ?_;rintro e w4 ⟨g1,k1,g2,k2,rfl,cl,cd,t4⟩;have i4:=i3.uC t4)|(go_at_call 151;refine(vJ b w4 s (p+3) out M g1 0 288 k1 g2 0 32 k2 Cm Gu (8*s.size+1) C HC.out hs i4 c1' Qeu Qe0 (by omega) (by omega) cl cd (by omega)).mono ?_;rintro e w5 ⟨rfl,hpost⟩));go_roundg g
    case measure=>omega
    case rel=>exact NX2.out w5 ⟨(IT.iT t4).trans hpost.1,hpost.2⟩
   .cases hO:Ov s (p+3)with
    |none=>
     have HO:Hid (Ov s (p+3)=none):=hO;have NX2:Hid (∀w4,Jk b s M w3 (.inl 1) w4->Uf b s M most R w1 g (.int .i64 (v:Int)) w4):=fun w4 hp=>NX.out _ w4 (zT s (p+3) out most hO) hp;clear NX hO hm;go_wp2_with fail;refine(Qdh w3 b s (p+3) _ HO.out hs r3).mono ?_;rintro e w4 ⟨t4,rfl,k,hk,h5⟩;have f5:=(t4.fr 4).trans f4;clear h4;by_cases k0:k=0
     .subst k0;go_wp2_with (go_at_call 153;refine(Ru w4 b 1 h5 f5).mono ?_;rintro e w5 ⟨rfl,rfl⟩);go_roundg g
      case measure=>omega
      case rel=>exact NX2.out _ ⟨IT.Qp (t4.set 4 (Or.inr rfl) _),by simp[Ad,h5]⟩
     obtain rfl:k=1:=by omega
     go_wp2_with (go_at_call 153;refine(Qan w4 b 1 1 h5 (by decide)).mono ?_;rintro e w5 ⟨rfl,rfl⟩);go_roundg g
     case measure=>omega
     case rel=>exact NX2.out _ ⟨IT.Qp t4,h5⟩
    |some LDq=>
     obtain⟨L,D,q⟩:=LDq;obtain⟨C,hC⟩:∃C,(if fine L D=true then Bz L D s most (8*s.size+1) q out else .inl 1)=C:=⟨_,rfl⟩;have HC:Hid ((if fine L D=true then Bz L D s (max M 0).toNat (8*s.size+1) q out else .inl 1)=C):=(by unfold Hid;rw[<-hm];exact hC);have HO:Hid (Ov s (p+3)=some (L,D,q)):=hO;have NX2:Hid (∀w4,Jk b s M w3 C w4->Uf b s M most R w1 g (.int .i64 (v:Int)) w4):=fun w4 hp=>NX.out C w4 ((Qbd s (p+3) out most L D q hO).trans hC) hp;clear NX hO hm hC;go_wp2_with fail;refine(Qdh w3 b s (p+3) _ HO.out hs r3).mono ?_;rintro e w4 ⟨t4,g1,k1,k2,rfl,cl,cd,r4,q8,pq,l286,d30⟩;have i4:=i3.read r4 t4 pq;go_wp2_with (go_at_call 151;refine(vJ b w4 s q out M g1 0 L.length k1 g1 L.length D.length k2 L D (8*s.size+1) C HC.out hs i4 q8 rfl rfl (by omega) (by omega) cl cd (by omega)).mono ?_;rintro e w5 ⟨rfl,hpost⟩);go_roundg g
     case measure=>omega
     case rel=>exact NX2.out w5 ⟨(IT.Qp t4).trans hpost.1,hpost.2⟩
   have NX2:Hid (∀w4,Jk b s M w3 (.inl 1) w4->Uf b s M most R w1 g (.int .i64 (v:Int)) w4):=fun w4 hp=>NX.out _ w4 (by unfold Ec;rfl) hp;clear NX hm;go_wp2_with (go_at_call 153;refine(Ru w3 b 1 h4 f4).mono ?_;rintro e w4 ⟨rfl,rfl⟩);go_roundg g
   case measure=>omega
   case rel=>exact NX2.out _ ⟨IT.Qp ((BT.refl b w3).set 4 (Or.inr rfl) _),by simp[Ad,h4]⟩
  .have h4:=ref.rb.zero hp;have h1:=ref.rb.at hp;obtain⟨ao,cap,g5,gO⟩:=ref.gv;have cv:∀n,(convert 114 9 (.slice ao out.length cap)).run Tryz.prog (wr.drewN n)=.ok (.string ⟨out.toArray⟩) (wr.drewN n):=fun n=>Yz (base:=b+1) gO rfl;obtain⟨t,ht⟩:∃t,t=(p+7)/8:=⟨_,rfl⟩;have e1:((p:Int)+7)/8=(t:Int):=by omega
   have HT:Hid (t=(p+7)/8):=ht;clear ht;go_wp2;go_quiet (fail);go_wp2;go_ret3;refine⟨?_,(fin wr hit).drewN _⟩;have e2:He (.inr (out,p))=.tuple #[.string ⟨out.toArray⟩,.int .i64 (t:Int),.int .i64 0]:=by rw[HT.out];rfl
   rw[HR.out,e2,<-e1];rfl
  have e0:((e:Int)==0)=false:=by simp;omega
  go_wp2;all_goals
   go_quiet (fail);go_wp2;go_ret3;exact⟨by rw[HE.out];rfl,(fin wr hit).drewN _⟩
end Go.Proofs.YtmhlkdlcpicekaaGreatDoor
