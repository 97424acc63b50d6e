/- Joined. -/
import Derived.Test.YtmhlkdlcpicekaaGreatDoorJ10
import Derived.Test.YtmhlkdlcpicekaaGreatDoorJ11
import Derived.Test.YtmhlkdlcpicekaaGreatDoorShelfS
import Derived.OwnWalk
import Derived.Maps.AppendAt
set_option linter.unusedSimpArgs false
set_option linter.unusedVariables false
set_option maxRecDepth 100000
set_option maxHeartbeats 20000000
namespace Go.Proofs.YtmhlkdlcpicekaaGreatDoor
open Go.RowKit Go.Shelf
structure yM (w w':World) (lb o:Nat) (e:Eo) (p t:Nat):Prop where
 lst:Gg w' lb o e p t
 other:∀i,i<o\/o+13<=i->w'.cell? ⟨lb,i,none⟩=w.cell? ⟨lb,i,none⟩
 frozen:∀i,w'.frozen? ⟨lb,i,none⟩=false
 touch:Touch (fun k=>k=lb) w w'
theorem yM.step{w w' w'':World}{lb o rb:Nat}{e:Eo}{p t:Nat}(h:yM w w' lb o e p t)(ht:Touch (fun k=>k=rb) w' w'')(hr:w.heap.size<=rb)(hl:lb<w.heap.size):yM w w'' lb o e p t:=by
 have hs:=h.touch.size;have hb:=ht.block lb (by omega) (by show¬lb=rb;omega);exact⟨h.lst.keep ht (by show¬lb=rb;omega),fun i hi=>(World.cell?_of_block hb).trans (h.other i hi),fun i=>(World.frozen?_of_block hb).trans (h.frozen i),h.touch.Hf ht hr⟩
theorem yM.place{w w':World}{lb o:Nat}{e:Eo}{p t:Nat}(h:yM w w' lb o e p t)(q:Nat):yM w (w'.setCell ⟨lb,o+5,none⟩ (.int .i64 (q:Int))) lb o e q t :=⟨h.lst.Qdw q,fun i hi=>by rw[Aq (by omega)];exact h.other i hi,fun i=>by rw[World.frozen?_setCell];exact h.frozen i,h.touch.setCell (p:=⟨lb,o+5,none⟩) rfl _⟩
theorem yM.stop{w w':World}{lb o:Nat}{e:Eo}{p t:Nat}(h:yM w w' lb o e p t)(q:Nat):yM w (w'.setCell ⟨lb,o+12,none⟩ (.int .i64 (q:Int))) lb o e p q :=⟨h.lst.Qgz q,fun i hi=>by rw[Aq (by omega)];exact h.other i hi,fun i=>by rw[World.frozen?_setCell];exact h.frozen i,h.touch.setCell (p:=⟨lb,o+12,none⟩) rfl _⟩
theorem FR.other{w:World}{b:Nat}{s:ByteArray}{E:Nat}{p:Option Nat}(h:FR w b s E p){lb o:Nat}(v:Value)(hn:b≠lb):FR (w.setCell ⟨lb,o,none⟩ v) b s E p:=
 h.keep (S:=fun k=>k=lb) (Bf w lb o v) hn
theorem Qaa(w:World)(lb o:Nat)(e:Eo)(pl st:Nat)(s:ByteArray)(E:Nat)(h:Gg w lb o e pl st)(hz:∀i,w.frozen? ⟨lb,i,none⟩=false)(ho:Na e)(hE:E<=s.size)(hs:s.size<=140737488355328): Calls Tryz.prog 91 #[.pointer (some ⟨lb,o,none⟩),.string (s.extract 0 E)] w fun r w'=>r=.returned (.bool (Kr E s e))/\yM w w' lb o e (Ih E (jY E s e)) (Ih E (jQ E s e)):=by
 have z0:=uX s E hE;have lt:lb<w.heap.size:=World.block_lt_of_cell? w ⟨lb,o+0,none⟩ (h 0 (by omega));have f0:=FR.Qce w s 0 E (by omega) hE _ rfl;have h11:w.cell? ⟨lb,o+11,none⟩=some (.int .i64 (e.ahead:Int)):=h 11 (by omega);have hA:e.ahead<=1099511627776:=ho.ahead;have hP:e.packed<=1099511627776:=ho.packed;have hF:e.flags<65536:=ho.flags;have S0:yM w (w.alloc (.cells #[.string (s.extract 0 E),.bool false] 175)) lb o e pl st:=by
  have hb:=Below.heap_alloc w (.cells #[.string (s.extract 0 E),.bool false] 175) lb lt;exact⟨h.keep ((Touch.refl (fun _=>False) w).alloc _) (fun e=>e),fun i _=>World.cell?_of_block hb,fun i=>(World.frozen?_of_block hb).trans (hz i),(Touch.refl _ w).alloc _⟩
 have nlb:lb≠w.heap.size:=by omega
 have nlb':w.heap.size≠lb:=by omega
 obtain⟨p0,e0⟩:∃p,p=Ae E (some 0) e.ahead:=⟨_,rfl⟩;obtain⟨p1,e1⟩:∃p,p=jY E s e:=⟨_,rfl⟩;have e1':Ae E p0 (30+Ah s E (Ae E p0 26) 2+Ah s E (Ae E p0 28) 2)=p1:=by rw[e1,e0];rfl
 have HO:Hid (Kr E s e=((hdB s E p0 e&&(!Fh e||ltB s E (Ae E p1 e.packed) e))&&(jQ E s e).isSome)):=by unfold Hid Kr;rw[e0,e1]
 have HT:Hid (jQ E s e=if Fh e then Ae E (Ae E p1 e.packed) 16 else Ae E p1 e.packed):=by unfold Hid jQ;rw[e1]
 have HE0:Hid (p0=Ae E (some 0) e.ahead):=e0;have HE1:Hid (p1=jY E s e):=e1;have HE1':Hid (Ae E p0 (30+Ah s E (Ae E p0 26) 2+Ah s E (Ae E p0 28) 2)=p1):=e1';have HB1:Hid (Ih E (jY E s e)=Ih E p1):=by unfold Hid;rw[e1]
 have hEs:E<=140737488355328:=by omega
 clear h hz ho e0 e1 e1';go_enter Tryz.func91,Tryz.ntmps91;go_wp2_with fail;refine(Iw _ _ s E (some 0) e.ahead _ rfl (by omega) hs f0).mono ?_;rintro r w1 ⟨rfl,f1,t1⟩;have S1:=S0.step t1 (Nat.le_refl _) lt;rw[<-HE0.out]at f1;clear t1 f0 S0 h11;go_wp2_with fail;refine(pU _ lb o w.heap.size e pl st s E p0 S1.lst hF f1 nlb hs).mono ?_;rintro r w2 ⟨rfl,f2,t2⟩;have S2:=S1.step t2 (Nat.le_refl _) lt;rw[HE1'.out]at f2;clear t2 f1 S1;have r2:=f2.rest;have q2:Ih E p1<=E:=by unfold Ih;cases hh:p1 with|none=>exact Nat.le_refl _|some q=>exact f2.le q hh
 have a2:=aZ s E p1 hE f2.le;have a2':(Ih E p1:Int)<=140737488355328:=by omega
 have c5:w2.cell? ⟨lb,o+5,none⟩=some (.int .i64 (pl:Int)):=S2.lst 5 (by omega);have c3:w2.cell? ⟨lb,o+3,none⟩=some (.int .i64 (e.packed:Int)):=S2.lst 3 (by omega);have z5:=S2.frozen (o+5);have S3:=S2.place (Ih E p1);have f3:=f2.other (lb:=lb) (o:=o+5) (.int .i64 (Ih E p1:Int)) nlb';clear S2 f2;go_wp2_with fail;refine(Iw _ _ s E p1 e.packed _ rfl (by omega) hs f3).mono ?_;rintro r w4 ⟨rfl,f4,t4⟩;have S4:=S3.step t4 (Nat.le_refl _) lt;clear t4 f3 S3 r2 a2 a2' c5 c3 z5;obtain⟨p2,e2⟩:∃p,p=Ae E p1 e.packed:=⟨_,rfl⟩;rw[<-e2]at f4 HO HT;clear e2;go_wp2_with fail;refine(nG _ lb o e _ st S4.lst hF).mono ?_;rintro r w' ⟨rfl,rfl⟩;cases hl:Fh e with
 |false=>
  rw[hl]at HO HT;have HT':Hid (jQ E s e=p2):=HT;have HO':Hid (Kr E s e=(hdB s E p0 e&&p2.isSome)):=by unfold Hid;rw[HO.out,HT'.out];simp
  have r4:=f4.rest;have b4:=f4.short;have q4:Ih E p2<=E:=by unfold Ih;cases hh:p2 with|none=>exact Nat.le_refl _|some q=>exact f4.le q hh
  have a4:=aZ s E p2 hE f4.le;have a4':(Ih E p2:Int)<=140737488355328:=by omega
  have c12:w4.cell? ⟨lb,o+12,none⟩=some (.int .i64 (st:Int)):=S4.lst 12 (by omega);have z12:=S4.frozen (o+12);have S5:=S4.stop (Ih E p2);have FIN:Hid (∀v:Bool,v=Kr E s e->Ending.returned (.bool v)=Ending.returned (.bool (Kr E s e))/\yM w (w4.setCell ⟨lb,o+12,none⟩ (.int .i64 (Ih E p2:Int))) lb o e (Ih E (jY E s e)) (Ih E (jQ E s e))):=by
   intro v hv;rw[HT'.out,HB1.out];exact⟨by rw[hv],S5⟩
  clear S4 S5 HO HT HT' f4;cases hh:hdB s E p0 e with
  |false=>
   rw[hh]at HO';go_wp2;go_ret;exact FIN.out false (by rw[HO'.out];rfl)
  |true=>
   rw[hh]at HO';go_wp2;go_ret;exact FIN.out _ (by rw[HO'.out];cases p2<;>rfl)
 |true=>
  rw[hl]at HO HT;go_wp2_with fail;refine(xK _ lb o w.heap.size e _ st s E p2 S4.lst f4 nlb hs).mono ?_;rintro r w5 ⟨rfl,f5,t5⟩;have S5:=S4.step t5 (Nat.le_refl _) lt;obtain⟨p3,e3⟩:∃p,p=Ae E p2 16:=⟨_,rfl⟩;have HT':Hid (jQ E s e=p3):=by unfold Hid;rw[HT.out,e3];rfl
  rw[<-e3]at f5;have HO':Hid (Kr E s e=((hdB s E p0 e&&ltB s E p2 e)&&p3.isSome)):=by unfold Hid;rw[HO.out,HT'.out];simp
  have r4:=f5.rest;have b4:=f5.short;have q4:Ih E p3<=E:=by unfold Ih;cases hh:p3 with|none=>exact Nat.le_refl _|some q=>exact f5.le q hh
  have a4:=aZ s E p3 hE f5.le;have a4':(Ih E p3:Int)<=140737488355328:=by omega
  have c12:w5.cell? ⟨lb,o+12,none⟩=some (.int .i64 (st:Int)):=S5.lst 12 (by omega);have z12:=S5.frozen (o+12);have S6:=S5.stop (Ih E p3);have FIN:Hid (∀v:Bool,v=Kr E s e->Ending.returned (.bool v)=Ending.returned (.bool (Kr E s e))/\yM w (w5.setCell ⟨lb,o+12,none⟩ (.int .i64 (Ih E p3:Int))) lb o e (Ih E (jY E s e)) (Ih E (jQ E s e))):=by
   intro v hv;rw[HT'.out,HB1.out];exact⟨by rw[hv],S6⟩
  clear S4 S5 S6 HO HT HT' f4 f5 e3 t5;cases hh:hdB s E p0 e with
  |false=>
   rw[hh]at HO';cases h5:ltB s E p2 e with
   |false=>
    go_wp2;go_ret;exact FIN.out false (by rw[HO'.out];rfl)
   |true=>
    go_wp2;go_ret;exact FIN.out false (by rw[HO'.out];rfl)
  |true=>
   rw[hh]at HO';cases h5:ltB s E p2 e with
   |false=>
    rw[h5]at HO';go_wp2;go_ret;exact FIN.out false (by rw[HO'.out];rfl)
   |true=>
    rw[h5]at HO';go_wp2;go_ret;exact FIN.out _ (by rw[HO'.out];cases p3<;>rfl)
def lI(E:Nat)(s:ByteArray)(x:Ai):Ai:=⟨x.Af,Ih E (jY E s x.Af),Ih E (jQ E s x.Af)⟩
def Ry(w:World)(g:Nat)(E:Nat)(s:ByteArray)(L:List Ai)(k:Nat):Prop:=
 ∀i (h:i<L.length),Gg w g (i*13) L[i].Af (if i<k then Ih E (jY E s L[i].Af)else L[i].place) (if i<k then Ih E (jQ E s L[i].Af)else L[i].stop)
theorem Ry.start{w:World}{g:Nat}{E:Nat}{s:ByteArray}{L:List Ai}(h:Iq w g L):Ry w g E s L 0:=fun i hi=>by
 simpa using h.cells i hi
theorem Ry.step{w w':World}{g:Nat}{E:Nat}{s:ByteArray}{L:List Ai}{k:Nat}(h:Ry w g E s L k)(hk:k<L.length)(hs:yM w w' g (k*13) L[k].Af (Ih E (jY E s L[k].Af)) (Ih E (jQ E s L[k].Af))):Ry w' g E s L (k+1):=fun i hi=>by
 by_cases e:i=k
 .subst e;rw[if_pos (by omega),if_pos (by omega)];exact hs.lst
 have h1:=h i hi;rw[show(if i<k+1 then Ih E (jY E s L[i].Af)else L[i].place)=if i<k then Ih E (jY E s L[i].Af)else L[i].place by by_cases hh:i<k<;>simp[hh]<;>omega];rw[show(if i<k+1 then Ih E (jQ E s L[i].Af)else L[i].stop)=if i<k then Ih E (jQ E s L[i].Af)else L[i].stop by by_cases hh:i<k<;>simp[hh]<;>omega];intro j hj;rw[hs.other _ (by omega)];exact h1 j hj
theorem Ry.finish{w:World}{g:Nat}{E:Nat}{s:ByteArray}{L:List Ai}(h:Ry w g E s L L.length)(hl:g<w.heap.size):Iq w g (L.map (lI E s)):=by
 refine⟨fun i hi=>?_,hl⟩;have hi':i<L.length:=by simpa using hi
 have h1:=h i hi';rw[if_pos hi',if_pos hi']at h1;simpa [lI]using h1
theorem sV(w:World)(a:Option Addr)(g cap:Nat)(L:List Ai)(s:ByteArray)(E:Nat)(ha:0<L.length->a=some ⟨g,0,none⟩)(hl:0<L.length->Iq w g L/\∀i,w.frozen? ⟨g,i,none⟩=false)(hn:L.length<=10000000000)(hok:∀x∈L,Na x.Af)(hE:E<=s.size)(hs:s.size<=140737488355328): Calls Tryz.prog 48 #[.slice a L.length cap,.string (s.extract 0 E)] w fun r w'=>r=.returned (.bool (L.all fun x=>Kr E s x.Af))/\((L.all fun x=>Kr E s x.Af)=true->0<L.length->Iq w' g (L.map (lI E s)))/\Touch (fun k=>k=g) w w':=by
 obtain⟨n,hN⟩:∃n,n=L.length:=⟨_,rfl⟩;rw[<-hN];have ha':Hid (0<L.length->a=some ⟨g,0,none⟩):=ha;have hl':Hid (0<L.length->Iq w g L/\∀i,w.frozen? ⟨g,i,none⟩=false):=hl;have hN':Hid (n=L.length):=hN;have hn':n<=10000000000:=by omega
 have HS:Hid (0<L.length->g<w.heap.size):=fun h=>(hl h).1.lt;obtain⟨R,hR⟩:∃R,R=L.all fun x=>Kr E s x.Af:=⟨_,rfl⟩;have FIN:Hid (∀(v:Bool) (w':World),v=R->(R=true->0<L.length->Iq w' g (L.map (lI E s)))->Touch (fun k=>k=g) w w'->Ending.returned (.bool v)=Ending.returned (.bool (L.all fun x=>Kr E s x.Af))/\((L.all fun x=>Kr E s x.Af)=true->0<n->Iq w' g (L.map (lI E s)))/\Touch (fun k=>k=g) w w'):=by
  intro v w' h1 h2 h3;rw[<-hR,hN];exact⟨by rw[h1],h2,h3⟩
 have HR:Hid (R=(L.drop 0).all fun x=>Kr E s x.Af):=hR;clear ha hl hN hn hR;go_enter Tryz.func48,Tryz.ntmps48;go_wp2;go_loopw [8] (fun i wr=>∃k:Nat,k<=n/\i=.int .i64 (k:Int)/\(0<n->Ry wr g E s L k/\∀i,wr.frozen? ⟨g,i,none⟩=false)/\Hid (R=(L.drop k).all fun x=>Kr E s x.Af)/\Touch (fun k=>k=g) w wr) (fun i wr=>n-(intOf i).toNat)
 case atStart=>exact⟨0,Nat.zero_le _,rfl,(fun h=>by have:=hN'.out;have h':=hl'.out (by omega);exact⟨Ry.start h'.1,h'.2⟩),HR,Touch.refl _ _⟩
 case round=>
  obtain⟨k,hk,rfl,hsp,HK,ht⟩:=hrel;by_cases hlt:k<n
  .have hlt':k<L.length:=by have:=hN'.out;omega
   obtain rfl:=ha'.out (by omega);obtain⟨hS,hZ⟩:=hsp (by omega);have h1:=hS k hlt';rw[if_neg (by omega),if_neg (by omega)]at h1;have hz:=hok L[k] (List.getElem_mem hlt');have HX:Hid (R=(Kr E s L[k].Af&&(L.drop (k+1)).all fun x=>Kr E s x.Af)):=by
    unfold Hid;rw[HK.out,List.drop_eq_getElem_cons hlt'];rfl
   have HST:Hid (∀w',yM wr w' g (k*13) L[k].Af (Ih E (jY E s L[k].Af)) (Ih E (jQ E s L[k].Af))->Ry w' g E s L (k+1)):=fun w' h=>hS.step hlt' h;revert h1 hz HX HST;generalize L[k]=x;intro h1 hz HX HST;clear hsp hS HK;go_wp2_with fail;refine(Qaa _ g (k*13) x.Af x.place x.stop s E h1 hZ hz hE hs).mono ?_;rintro r w1 ⟨rfl,S1⟩;have T1:=ht.trans S1.touch;cases ho:Kr E s x.Af with
   |false=>
    rw[ho]at HX;go_wp2;go_ret;exact FIN.out false _ (by rw[HX.out];rfl) (fun h=>by rw[HX.out]at h;cases h) T1
   |true=>
    rw[ho]at HX;have h2:=HST.out w1 S1;have h3:=S1.frozen;clear S1;go_wp2;exact⟨⟨k+1,by omega,by go_num,fun _=>⟨h2,h3⟩,by unfold Hid;rw[HX.out];rfl,T1⟩,by simp[intOf];omega⟩
  obtain rfl:k=n:=by omega
  go_wp2;go_ret;refine FIN.out true _ (by rw[HK.out,List.drop_of_length_le (by have:=hN'.out;omega)];rfl) (fun _ h0=>?_) ht;have h1:=(hsp (by have:=hN'.out;omega)).1;rw[hN'.out]at h1;exact h1.finish (by have h2:=HS.out h0;have:=ht.size;omega)
open Go.Lib Go.Sort
def encS(x:Nat×Nat):List Value:=[.int .i64 (x.1:Int),.int .i64 (x.2:Int)]
def qW(x y:Nat×Nat):Int:=Lib.compareInt (x.1:Int) (y.1:Int)
theorem wO(x y:Int)(w:World):Calls Tryz.prog 94 #[.int .i64 x,.int .i64 y] w fun e w'=>e=.returned (.int .i64 (Lib.compareInt x y))/\w=w':=
 (Any.cmp_Compare_int Tryz.lays122 x y w).mono fun _ _ h=>⟨h.1,h.2.symm⟩
theorem Qac(x y:Nat×Nat)(W:World):Calls Tryz.prog 93 #[.agg #[.int .i64 (x.1:Int),.int .i64 (x.2:Int)],.agg #[.int .i64 (y.1:Int),.int .i64 (y.2:Int)]] W fun e w'=>e=.returned (.int .i64 (qW x y))/\∃q os',w'=grow (W.drewN q) os':=by
 have hcon:=fun W'=>wO (x.1:Int) (y.1:Int) W';unfold qW;generalize Lib.compareInt (x.1:Int) (y.1:Int)=r at hcon ⊢;go_enter Tryz.func93,Tryz.ntmps93;go_wp2_with fail;refine(hcon _).mono ?_;rintro e w' ⟨rfl,rfl⟩;go_wp2;go_ret;exact⟨rfl,0,_,by rw[alloc_eq_grow,alloc_eq_grow,grow_grow];rfl⟩
theorem Qfl(blk off size:Nat)(w:World):CmpLays Tryz.prog 93 #[] encS 2 qW blk off size w:=
 fun _ _ _ _ x y=>Qac x y _
theorem ltS(x y:Nat×Nat):ltOf qW x y=decide (x.1<y.1):=by
 unfold ltOf qW Lib.compareInt;by_cases h1:x.1<y.1;.simp[h1]
 by_cases h2:y.1<x.1<;>simp[h1,h2]
theorem swoS:SWO (ltOf qW) where
 irrefl x:=by rw[ltS];simp
 trans x y z h1 h2:=by rw[ltS]at *;simp at *;omega
 ntrans x y z h1 h2:=by rw[ltS]at *;simp at *;omega
theorem iL{α:Type}[Inhabited α](enc:α->List Value)(k:Nat)(w:World)(blk off n:Nat)(d:Array α)(os:Array Obj):Touch (fun b=>b=blk) w (sortWorldK enc k w blk off n d os):=by
 refine⟨rfl,rfl,rfl,?_,fun b hb hs=>?_⟩;.simp[sortWorldK,putRowK]
 unfold sortWorldK putRowK putRow mapBlock;rw[heap_grow_old _ _ (by simpa using hb)];show(w.heap.modify blk _)[b]?=_;rw[Array.getElem?_modify,if_neg (fun e=>hs e.symm)]
theorem jH{α:Type}[Inhabited α](enc:α->List Value)(k:Nat)(w:World)(blk off n:Nat)(d0 d:Array α)(os:Array Obj)(hb:blk<w.heap.size)(h0:HoldsK enc k w blk off d0)(hs:d.size=d0.size):HoldsK enc k (sortWorldK enc k w blk off n d os) blk off d :=holdsK_grow enc k _ os blk off d (by simpa [putRowK]using hb) (holdsK_putRowK enc k _ blk off d0 d (holdsK_ahead enc k w n blk off d0 h0) hs)
/-! ### Pairs -/
def Tc(a b:Nat×Nat):Bool:=decide (a.1<b.2)&&decide (b.1<a.2)
theorem Gz{α:Type}(r:α->α->Bool):∀l:List α,Bl r l=false↔l.Pairwise fun a b=>r a b=false
 | []=>by simp[Bl]
 |a::l=>by
  rw[Bl,Bool.or_eq_false_iff,List.pairwise_cons,Gz r l];simp
theorem qK{α:Type}(r:α->α->Bool)(hr:∀a b,r a b=r b a){l l':List α}(h:l.Perm l'):Bl r l=Bl r l':=by
 have h1:=Gz r l;have h2:=Gz r l';have h3:l.Pairwise (fun a b=>r a b=false)↔l'.Pairwise (fun a b=>r a b=false):=h.pairwise_iff (fun {a b} hab=>by rw[hr];exact hab);cases ha:Bl r l<;>cases hb:Bl r l'<;>simp_all
theorem neighbours(d:Array (Nat×Nat))(hS:SortedIn (ltOf qW) 0 d.size d)(hne:∀x∈d.toList,x.1<x.2):Bl Tc d.toList=false↔∀i,i+1<d.size->¬d[i+1]!.1<d[i]!.2:=by
 have hle:∀i j,i<j->j<d.size->d[i]!.1<=d[j]!.1:=fun i j hij hj=>by
  have:=hS i j (Nat.zero_le _) hij hj;rw[ltS]at this;simp at this;omega
 have hget:∀i (h:i<d.size),d.toList[i]'(by simpa using h)=d[i]!:=fun i h=>by rw[getElem!_pos d i h];simp
 have hn:∀i,i<d.size->d[i]!.1<d[i]!.2:=fun i h=>by
  have:=hne (d.toList[i]'(by simpa using h)) (List.getElem_mem _);rw[hget i h]at this;exact this
 rw[Gz,List.pairwise_iff_getElem];constructor
 .intro h i hi;have h1:=h i (i+1) (by simp;omega) (by simpa using hi) (by omega);rw[hget i (by omega),hget (i+1) hi]at h1;unfold Tc at h1;have h2:=hle i (i+1) (by omega) hi;have h3:=hn (i+1) hi;rw[Bool.and_eq_false_iff]at h1;simp at h1;omega
 intro h i j hi hj hij;rw[hget i (by simpa using hi),hget j (by simpa using hj)];have hj':j<d.size:=by simpa using hj
 have h1:=h i (by omega);have h2:d[i+1]!.1<=d[j]!.1:=by
  by_cases e:i+1=j;.rw[e];exact Nat.le_refl _
  exact hle (i+1) j (by omega) hj'
 unfold Tc;rw[Bool.and_eq_false_iff];simp;omega
theorem Tryz.Qeo:(Tryz.prog.info? 177).map (fun i=>(i.zero,i.size,i.bytes))=some (some (.agg #[.int .i64 0,.int .i64 0]),2,16):=by kernel_rfl
def Hu(x:Ai):Nat×Nat:=(x.Af.ahead,x.stop)
def oN(l:List (Nat×Nat)):List Value:=l.flatMap encS
theorem Qft(l:List (Nat×Nat))(x:Nat×Nat):oN (l++[x])=oN l++encS x:=by simp[oN]
theorem Qgj(l:List (Nat×Nat)):∀i (h:i<l.length),(oN l)[i*2]?=some (.int .i64 (l[i].1:Int))/\(oN l)[i*2+1]?=some (.int .i64 (l[i].2:Int)):=by
 induction l with
 |nil=>intro i h;simp at h
 |cons a l ih=>
  intro i h;have e:oN (a::l)=.int .i64 (a.1:Int)::.int .i64 (a.2:Int)::oN l:=rfl;cases i with
  |zero=>rw[e];exact⟨rfl,rfl⟩
  |succ i=>
   have:=ih i (by simpa using h);rw[e,show(i+1)*2=i*2+1+1 by omega];simpa using this
theorem cell_two_new(w:World)(u v:Value)(t:TypeId):∀(j:Nat) (x:Value),[u,v][j]?=some x->(w.alloc (.cells #[u,v] t)).cell? ((⟨w.heap.size,0,none⟩:Addr).add j)=some x:=by
 intro j x h;have hb:=heap_alloc_new w (.cells #[u,v] t);rcases j with _|_|j;.simp at h;subst h;rw[show((⟨w.heap.size,0,none⟩:Addr).add 0)=⟨w.heap.size,0,none⟩ from rfl,Ac hb 0];rfl
 .simp at h;subst h;rw[show((⟨w.heap.size,0,none⟩:Addr).add 1)=⟨w.heap.size,1,none⟩ from rfl,Ac hb 1];rfl
 simp at h
theorem sO{w:World}{base g cap:Nat}{l:List (Nat×Nat)}(h:w.ownsRow base 177 2 (.slice (some ⟨g,0,none⟩) l.length cap) l.length (oN l)):HoldsK encS 2 w g 0 l.toArray/\g<w.heap.size:=by
 obtain⟨h1,⟨h2,_⟩|⟨g',cap',cur,e,hb,hg,h3,h4,h5,h6⟩⟩:=h;.cases h2
 cases e;refine⟨?_,(Array.getElem?_eq_some_iff.1 hg).1⟩;intro j hj;rw[size_flatK]at hj;rw[get_flatK _ _ _ _ hj];have hj':j<l.length*2:=by simpa using hj
 have hi:j/2<l.length:=by omega
 obtain⟨a1,a2⟩:=Qgj l (j/2) hi;rw[Nat.zero_add];refine⟨?_,Cb hg j⟩;unfold World.cell?;rw[hg];simp only;have e1:cur[j]?=(oN l)[j]?:=by
  rw[<-h6,List.getElem?_take_of_lt hj'];simp
 have e2:l.toArray[j/2]! = l[j/2]:=by rw[getElem!_pos _ _ (by simpa using hi)];simp
 rw[e2];show cur[j]?=_;rw[e1];rcases(by omega:j%2=0\/j%2=1)with hm|hm
 .rw[hm];exact(congrArg (fun t=>(oN l)[t]?) (show j=j/2*2 by omega)).trans a1
 rw[hm];exact(congrArg (fun t=>(oN l)[t]?) (show j=j/2*2+1 by omega)).trans a2
theorem pV(w:World)(a:Option Addr)(g cap:Nat)(L:List Ai)(ha:0<L.length->a=some ⟨g,0,none⟩)(hl:0<L.length->Iq w g L)(hn:L.length<=10000000000)(hne:∀x∈L,x.Af.ahead<x.stop): Calls Tryz.prog 49 #[.slice a L.length cap] w fun r w'=>r=.returned (.bool (Bl Tc (L.map Hu)))/\Touch (fun _=>False) w w':=by
 obtain⟨i0,hi,hz0,hz1,hz2⟩:=info_parts Tryz.Qeo;obtain⟨n,hN⟩:∃n,n=L.length:=⟨_,rfl⟩;rw[<-hN];have ha':Hid (0<L.length->a=some ⟨g,0,none⟩):=ha;have hl':Hid (0<L.length->Iq w g L):=hl;have hN':Hid (n=L.length):=hN;have hn':n<=10000000000:=by omega
 have hby:i0.bytes*n<=281474976710656:=by rw[hz2];omega
 have hnm:n<=maxLen:=by unfold maxLen;omega
 clear ha hl hN hn;go_enter Tryz.func49,Tryz.ntmps49;go_wp2_with (at_make;refine wpList_make_own _ rfl _ _ 185 rfl w.heap.size 177 i0 (.agg #[.int .i64 0,.int .i64 0]) 2 Tryz.underlying185 hi hz0 hz1 .i64 .i64 _ n rfl rfl rfl hby hnm (Nat.le_refl _) ?_;intro w0 ho0 hg0);have T0:Touch (fun _=>False) w w0:=(Touch.refl (fun _=>False) w).Fa hg0 (fun k e=>by cases e);clear hg0;go_loopw [3,12] (fun v i wr=>∃k:Nat,k<=n/\i=.int .i64 (k:Int)/\wr.ownsRow w.heap.size 177 2 v k (oN ((L.take k).map Hu))/\v≠.slice none 0 0/\Touch (fun _=>False) w wr) (fun v i wr=>n-(intOf i).toNat)
 case atStart=>exact⟨0,Nat.zero_le _,rfl,ho0,by simp,T0⟩
 case round=>
  obtain⟨k,hk,rfl,ho,hnn,ht⟩:=hrel;have hsz:=ht.size;by_cases hlt:k<n
  .have hlt':k<L.length:=by have:=hN'.out;omega
   obtain rfl:=ha'.out (by omega);have hL:=(hl'.out (by omega)).keep ht (fun e=>e);have hC:=hL.cells k hlt';have HX:Hid ((L.take (k+1)).map Hu=(L.take k).map Hu++[(L[k].Af.ahead,L[k].stop)]):=by
    unfold Hid;rw[List.take_succ_eq_append_getElem hlt',List.map_append];rfl
   revert hC HX;generalize L[k]=x;intro hC HX;have c0:=hC 0 (by omega);have c1:=hC 1 (by omega);have c2:=hC 2 (by omega);have c3:=hC 3 (by omega);have c4:=hC 4 (by omega);have c5:=hC 5 (by omega);have c6:=hC 6 (by omega);have c7:=hC 7 (by omega);have c8:=hC 8 (by omega);have c9:=hC 9 (by omega);have c10:=hC 10 (by omega);have c11:=hC 11 (by omega);have c12:=hC 12 (by omega);simp only[Jj,List.getElem?_cons_zero,List.getElem?_cons_succ,Nat.add_zero]at c0 c1 c2 c3 c4 c5 c6 c7 c8 c9 c10 c11 c12;clear hC hlt' hL;have b1:k+1<=maxLen:=by unfold maxLen;omega
   have b2:(k+1)*16<=140737488355328:=by omega
   have hq:∀o,∀(j:Nat) (y:Value),[Value.int .i64 (x.Af.ahead:Int),Value.int .i64 (x.stop:Int)][j]?=some y->((wr.alloc o).alloc (Obj.cells #[.int .i64 (x.Af.ahead:Int),.int .i64 (x.stop:Int)] 177)).cell? ((⟨wr.heap.size+1,0,none⟩:Addr).add j)=some y:=by
    intro o j y h;have:=cell_two_new (wr.alloc o) (.int .i64 (x.Af.ahead:Int)) (.int .i64 (x.stop:Int)) 177 j y h
    rwa [World.size_alloc]at this
   have HQ:Hid (∀o,∀(j:Nat) (y:Value),[Value.int .i64 (x.Af.ahead:Int),Value.int .i64 (x.stop:Int)][j]?=some y->((wr.alloc o).alloc (Obj.cells #[.int .i64 (x.Af.ahead:Int),.int .i64 (x.stop:Int)] 177)).cell? ((⟨wr.heap.size+1,0,none⟩:Addr).add j)=some y):=hq;clear hq;go_wp2_with (at_builtin;refine wpList_append_own _ rfl _ _ 185 rfl w.heap.size 177 i0 (.agg #[.int .i64 0,.int .i64 0]) 2 16 Tryz.underlying185 hi hz0 hz1 hz2 rfl (by decide) _ _ _ rfl ((ho.alloc _).alloc _) ⟨_,0,none⟩ 1 1 [.int .i64 (x.Af.ahead:Int),.int .i64 (x.stop:Int)] rfl rfl (HQ.out _) (by simp[Value.oneCell']) b1 b2 (by simp;omega) ?_;intro v' w1 hown' hgrow hnil);refine⟨⟨k+1,by omega,by go_num,?_,?_,?_⟩,by simp[intOf];omega⟩;.rw[HX.out,Qft];exact hown'
   .intro e;have:=(hnil.1 e).2;omega
   exact((ht.alloc _).alloc _).Fa hgrow (fun j hj=>(ho.lt j hj).1)
  obtain rfl:k=n:=by omega
  obtain⟨g2,cap2,rfl⟩:∃g2 cap2,u3=.slice (some ⟨g2,0,none⟩) k cap2:=by
   obtain⟨_,⟨h2,_⟩|⟨g',cap',cur,e,_⟩⟩:=ho;.exact absurd h2 hnn
   exact⟨g',cap',e⟩
  have hlen:((L.take k).map Hu).length=k:=by simp;have:=hN'.out;omega
  have hall:(L.take k).map Hu=L.map Hu:=by rw[List.take_of_length_le (by have:=hN'.out;omega)]
  have hbase:w.heap.size<=g2:=by
   obtain⟨_,⟨h2,_⟩|⟨g',cap',cur,e,hb,_⟩⟩:=ho;.cases h2
   cases e;exact hb
  rw[hall]at hlen ho;have hh:wr.ownsRow w.heap.size 177 2 (.slice (some ⟨g2,0,none⟩) (L.map Hu).length cap2) (L.map Hu).length (oN (L.map Hu)):=by rw[hlen];exact ho
  obtain⟨hH,hlt2⟩:=sO hh;have hcon:=AnyQ.slices_SortFunc Tryz.sortSpan 2 Tryz.isAgg177 Tryz.sizeOf177 encS (fun _=>rfl) (fun x v hv=>by simp[encS]at hv;rcases hv with rfl|rfl<;>rfl) qW swoS 93 #[] g2 0 cap2 (L.map Hu).toArray wr (enters_of Tryz.func93 (by kernel_rfl) rfl) (Qfl g2 0 _ wr) hH hlt2 (by simp;have:=hN'.out;omega);have hsz2:(L.map Hu).toArray.size=k:=by simpa using hlen
  rw[hsz2]at hcon;have HC:Hid (Calls Tryz.prog 92 #[.slice (some ⟨g2,0,none⟩) k cap2,.func (.func 93) #[] #[]] wr fun e w'=>∃d':Array (Nat×Nat),e=.returned (.tuple #[])/\d'.size=k/\d'.toList.Perm (L.map Hu)/\SortedIn (ltOf qW) 0 k d'/\HoldsK encS 2 w' g2 0 d'/\Touch (fun b=>b=g2) wr w'):=by
   refine hcon.mono ?_;rintro e w' ⟨he,d',m,os,hp,hso,rfl⟩;have hs':d'.size=k:=by rw[hp.1,hsz2]
   refine⟨d',he,hs',?_,hso,jH encS 2 wr g2 0 m _ d' os hlt2 hH (by rw[hs',hsz2]),iL encS 2 wr g2 0 m d' os⟩;have h3:=hp.2.2;have e1:d'.extract 0 k=d':=by rw[<-hs'];simp
   have e2:((L.map Hu).toArray.extract 0 k).toList=L.map Hu:=by
    rw[Array.toList_extract,List.extract_eq_take_drop];simp only[List.drop_zero,Nat.sub_zero];exact List.take_of_length_le (by rw[hlen];exact Nat.le_refl _)
   rw[e1,e2]at h3;exact h3
  clear hcon hH ho hh hall hnn;go_wp2_with fail;refine HC.out.mono ?_;rintro e w2 ⟨d,rfl,hds,hperm,hsort,hold,t2⟩;have T2:=ht.Hf t2 hbase;have HF:Hid (Bl Tc (L.map Hu)=false↔∀i,i+1<d.size->¬d[i+1]!.1<d[i]!.2):=by
   unfold Hid;rw[<-qK Tc (fun a b=>by unfold Tc;rw[Bool.and_comm]) hperm];rw[<-hds]at hsort;refine neighbours d hsort (fun x hx=>?_);have hx':=hperm.mem_iff.1 hx;rw[List.mem_map]at hx';obtain⟨y,hy,rfl⟩:=hx';exact hne y hy
  obtain⟨R,hR⟩:∃R,R=Bl Tc (L.map Hu):=⟨_,rfl⟩;have FIN:Hid (∀v:Bool,v=R->Ending.returned (.bool v)=Ending.returned (.bool (Bl Tc (L.map Hu)))):=fun v hv=>by rw[hv,hR]
  rw[<-hR]at HF;have HH:Hid (∀i,i+1<k->w2.cell? ⟨g2,(i+1)*2,none⟩=some (.int .i64 (d[i+1]!.1:Int))/\w2.cell? ⟨g2,i*2+1,none⟩=some (.int .i64 (d[i]!.2:Int))):=by
   intro i hi;have h1:=(hold.cell (i:=i+1) (c:=0) (by omega) (by omega)).1;have h2:=(hold.cell (i:=i) (c:=1) (by omega) (by omega)).1;simp only[Nat.zero_add,Nat.add_zero]at h1 h2;exact⟨h1,h2⟩
  clear HC hperm hsort hold t2 hR hne;go_wp2;have HK:Hid (d.size=k):=hds;clear hds;go_loopw [6] (fun i wr=>∃m:Nat,i=.int .i64 ((m:Int)+1)/\(m=0\/m+1<=k)/\Hid (∀j,j<m->¬d[j+1]!.1<d[j]!.2)/\∃q,wr=w2.drewN q) (fun i wr=>k-(intOf i).toNat)
  case atStart=>exact⟨0,rfl,.inl rfl,(fun j hj=>by omega),0,rfl⟩
  case round=>
   obtain⟨m,rfl,hm,HJ,q,rfl⟩:=hrel;by_cases hmk:m+1<k
   .obtain⟨x1,x2⟩:=HH.out m hmk;have y1:(m:Int)+1<(k:Int):=(by omega);have y2:(m:Int)+1-1=(m:Int):=(by omega);have y3:(m:Int)<(k:Int):=(by omega);by_cases hov:(d[m+1]!.1:Int)<(d[m]!.2:Int)
    .have HE:Hid (R=true):=by
      unfold Hid;cases hr:R with
      |true=>rfl
      |false=>exact absurd (by omega:d[m+1]!.1<d[m]!.2) (HF.out.1 hr m (by have:=HK.out;omega))
     go_wp2;go_quiet (fail);go_wp2;go_ret;exact⟨FIN.out true HE.out.symm,(T2.drewN _).drewN _⟩
    go_wp2;go_quiet (fail);go_wp2;refine⟨⟨m+1,by go_num,.inr (by omega),?_,_,rfl⟩,by simp[intOf];omega⟩;intro j hj;by_cases e:j=m;.rw[e];omega
    exact HJ.out j (by omega)
   have HE:Hid (R=false):=by
    unfold Hid;refine HF.out.2 (fun i hi=>HJ.out i ?_);have:=HK.out;omega
   have y1:¬(m:Int)+1<(k:Int):=by omega
   go_wp2;go_ret;exact⟨FIN.out false HE.out.symm,T2.drewN _⟩
end Go.Proofs.YtmhlkdlcpicekaaGreatDoor
