/- Joined. -/
import Derived.Test.YtmhlkdlcpicekaaGreatDoorJ03
set_option linter.unusedSimpArgs false
set_option linter.unusedVariables false
set_option maxRecDepth 100000
set_option maxHeartbeats 20000000
namespace Go.Proofs.YtmhlkdlcpicekaaGreatDoor
open Go.RowKit
def fine(L D:List Nat):Bool:=Du L 15==0&&(placeOf D 16==0||(placeOf D 16==1&&cnt D 1==1)||Du D 15==0)
def Ox(s:ByteArray)(p:Nat):Option (List Nat×List Nat×Nat):=
 if 286<numAt s p 5+257\/30<numAt s (p+5) 5+1 then none
 else if 8*s.size<p+14+3*(numAt s (p+10) 4+4)\/Du (Fq s (p+14) (numAt s (p+10) 4+4)) 15≠0 then none
 else match Cj (Fq s (p+14) (numAt s (p+10) 4+4)) s (numAt s p 5+257+(numAt s (p+5) 5+1)) (numAt s p 5+257+(numAt s (p+5) 5+1)) (p+14+3*(numAt s (p+10) 4+4)) []with
  |none=>none
  |some (l,q)=>
   if l.getD 256 0=0 then none
   else if fine (l.take (numAt s p 5+257)) (l.drop (numAt s p 5+257))=true then some (l.take (numAt s p 5+257),l.drop (numAt s p 5+257),q)else none
theorem nJ(C:List Nat)(s:ByteArray)(want:Nat)(hC:C.length=19):∀f p acc l q,acc.length<=want->(∀x∈acc,x<=15)->Cj C s want f p acc=some (l,q)->l.length=want/\∀x∈l,x<=15
 |0,p,acc,l,q,h1,h2,h=>by
  simp only[Cj]at h;by_cases hw:want<=acc.length;.rw[if_pos hw]at h;cases h;exact⟨by omega,h2⟩
  rw[if_neg hw]at h;cases h
 |f+1,p,acc,l,q,h1,h2,h=>by
  by_cases hw:want<=acc.length;.rw[Rh _ _ _ _ _ _ hw]at h;cases h;exact⟨by omega,h2⟩
  cases hd:dec C s p with
  |none=>rw[Rn _ _ _ _ _ _ (by omega) hd]at h;cases h
  |some kq=>
   obtain⟨kind,q1⟩:=kq;rw[Iy _ _ _ _ _ kind q1 _ (by omega) hd]at h;by_cases c1:kind=16/\acc.length=0;.rw[if_pos c1]at h;cases h
   rw[if_neg c1]at h;by_cases c2:8*s.size<(lenOf s kind q1 acc).2.2;.rw[if_pos c2]at h;cases h
   rw[if_neg c2]at h;by_cases c3:want<acc.length+(lenOf s kind q1 acc).2.1;.rw[if_pos c3]at h;cases h
   rw[if_neg c3]at h;refine nJ C s want hC f _ _ l q ?_ ?_ h;.rw[List.length_append,List.length_replicate];omega
   intro x hx;rcases List.mem_append.1 hx with hx|hx;.exact h2 x hx
   rw[(List.mem_replicate.1 hx).2];have hk:=(dec_lt hd).1;unfold lenOf;by_cases k1:kind=16
   .rw[if_pos k1];have hlt:acc.length-1<acc.length:=(by omega);show acc.getD (acc.length-1) 0<=15;rw[List.getD_eq_getElem?_getD,List.getElem?_eq_getElem hlt];exact h2 _ (List.getElem_mem hlt)
   rw[if_neg k1];by_cases k2:kind=17;.rw[if_pos k2];exact Nat.zero_le _
   rw[if_neg k2];by_cases k3:kind=18;.rw[if_pos k3];exact Nat.zero_le _
   rw[if_neg k3];show kind<=15;omega
theorem iR{P:Program}{ops:Array Oper}{rest:List Oper}{d:Option Tmp}{t ty:TypeId}{x y:Operand}{ps:String}{af:Array Edge}{g:Option (Nat×Bool)}{a:Act}{w:World}{Q:Exit->Act->World->Prop}(h:wpList P ops Q (⟨d,.store t x y,ty,ps,af,g⟩::rest) a w):wpList P ops Q (⟨d,.store t x y,ty,ps,af,g⟩::rest) a w:=h
theorem Uj(w:World)(a b:Array Value)(t:TypeId):(w.alloc (.cells a t)).setRow w.heap.size b=w.alloc (.cells b t):=by
 simp only[World.setRow,World.alloc];congr 1;apply Array.ext;.simp
 intro i h1 h2;simp only[Array.getElem_modify];by_cases e:w.heap.size=i;.subst e;simp
 rw[if_neg e];simp at h1;rw[Array.getElem_push_lt (by omega),Array.getElem_push_lt (by omega)]
def ownPost(b:Nat)(s:ByteArray)(w:World)(r:Option (List Nat×List Nat×Nat))(e:Ending)(w':World):Prop:=
 RN b w w'/\match r with
 |none=>∃v,e=.returned (.tuple #[v,.bool false])
 |some (L,D,q)=>∃fb n1 c1 n2 c2,e=.returned (.tuple #[.pointer (some ⟨fb,0,none⟩),.bool true])/\Nl w' fb n1 c1 n2 c2 L D/\w.heap.size<=fb/\w.heap.size<=n1/\w.heap.size<=n2/\Rd w' b s q
theorem Wx(w:World)(b off nb cap:Nat)(L:List Nat)(h:Ic w b off nb cap L):
  Calls Tryz.prog 205 #[.pointer (some ⟨b,off,none⟩)] w fun e w'=>e=.returned (.bool (Du L 15==0))/\w=w':=(iC w b off nb cap L h).mono fun _ _ h=>⟨h.1,h.2.symm⟩
theorem tK(w:World)(b off nb cap:Nat)(L:List Nat)(h:Ic w b off nb cap L):
  Calls Tryz.prog 207 #[.pointer (some ⟨b,off,none⟩)] w fun e w'=>e=.returned (.bool (placeOf L 16==0||(placeOf L 16==1&&cnt L 1==1)||Du L 15==0))/\w=w':=(Qfb w b off nb cap L h).mono fun _ _ h=>⟨h.1,h.2.symm⟩
theorem nY(w:World)(lb lo n cap:Nat)(L:List Nat)(hlen:L.length=n)(hn:n<=400)(hL:∀x∈L,x<=15)(hcells:∀j (h:j<L.length),w.cell? ⟨lb,lo+j,none⟩=some (.int .i64 (L[j]:Nat))):
  Calls Tryz.prog 200 #[.slice (some ⟨lb,lo,none⟩) n cap] w fun e w'=>∃nb cap',e=.returned (.agg #[.int .i64 (cnt L 0:Nat),.int .i64 (cnt L 1:Nat),.int .i64 (cnt L 2:Nat),.int .i64 (cnt L 3:Nat),.int .i64 (cnt L 4:Nat),.int .i64 (cnt L 5:Nat),.int .i64 (cnt L 6:Nat),.int .i64 (cnt L 7:Nat),.int .i64 (cnt L 8:Nat),.int .i64 (cnt L 9:Nat),.int .i64 (cnt L 10:Nat),.int .i64 (cnt L 11:Nat),.int .i64 (cnt L 12:Nat),.int .i64 (cnt L 13:Nat),.int .i64 (cnt L 14:Nat),.int .i64 (cnt L 15:Nat),.slice (some ⟨nb,0,none⟩) (placeOf L 16) cap'])/\w.heap.size<=nb/\nb<w'.heap.size /\
   (∀n r,1<=n->n<16->r<cnt L n->w'.cell? ⟨nb,placeOf L n+r,none⟩=some (.int .i64 (nth L n r:Nat)))/\Typed w' nb 3/\Touch (fun _=>False) w w':=Xd w lb lo n cap L hlen hn hL hcells
theorem Xt(w:World)(b cb off nb cap:Nat)(C:List Nat)(s:ByteArray)(p want:Nat)(N:Int)(hN:N=(want:Int))(R:Option (List Nat×Nat))(hR:Cj C s want want p []=R)(hw:want<=400)(hC:C.length=19)(hs:s.size<=maxLen)(hr:Rd w b s p)(hc:Ic w cb off nb cap C)(h1:cb≠b)(h2:nb≠b)(h3:cb<w.heap.size)(h4:nb<w.heap.size): Calls Tryz.prog 206 #[.pointer (some ⟨b,0,none⟩),.pointer (some ⟨cb,off,none⟩),.int .i64 N] w (wX b s w R):=by
 subst hN hR;exact lL w b cb off nb cap C s p want hw hC hs hr hc h1 h2 h3 h4
theorem jF{w:World}{base g cap:Nat}{l:List Nat}(h:w.ownsRow base 3 1 (.slice (some ⟨g,0,none⟩) l.length cap) l.length (ints l))(m:Nat): (∀j (hj:j<(l.take m).length),w.cell? ⟨g,0+j,none⟩=some (.int .i64 ((l.take m)[j]:Nat)))/\(∀j (hj:j<(l.drop m).length),w.cell? ⟨g,m+j,none⟩=some (.int .i64 ((l.drop m)[j]:Nat))):=by
 constructor
 .intro j hj;rw[List.length_take]at hj;rw[Jo h j (by omega),List.getElem_take]
 intro j hj;rw[List.length_drop]at hj;have:=Jo h (m+j) (by omega);rw[Nat.zero_add]at this;rw[this,List.getElem_drop]
theorem iG(w:World)(b:Nat)(s:ByteArray)(p:Nat)(hs:s.size<=maxLen)(hr:Rd w b s p)(ho:Ord w)(hb:1<b): Calls Tryz.prog 136 #[.pointer (some ⟨b,0,none⟩)] w (ownPost b s w (Ox s p)):=by
 have hlt:=hr.lt;obtain⟨R,hR⟩:∃R,R=Ox s p:=⟨_,rfl⟩;have HR:Hid (R=Ox s p):=hR;rw[<-hR];clear hR;unfold Ox at HR;obtain⟨x,hx⟩:∃x,x=numAt s p 5:=⟨_,rfl⟩;obtain⟨y,hy⟩:∃y,y=numAt s (p+5) 5:=⟨_,rfl⟩;obtain⟨z,hz⟩:∃z,z=numAt s (p+10) 4:=⟨_,rfl⟩;have bx:=Dl s p 5;have bY:=Dl s (p+5) 5;have bz:=Dl s (p+10) 4;rw[<-hx,<-hy,<-hz]at HR;rw[<-hx]at bx;rw[<-hy]at bY;rw[<-hz]at bz;have HX:Hid (x=numAt s p 5):=hx;have HY:Hid (y=numAt s (p+5) 5):=hy;have HZ:Hid (z=numAt s (p+10) 4):=hz;clear hx hy hz;by_cases c1:286<x+257\/30<y+1
 .have HE:Hid (R=none):=by unfold Hid;rw[HR.out,if_pos c1]
  go_enter Tryz.func136,Tryz.ntmps136;go_wp2_with fail;refine(Eu b w s p 5 _ rfl (by omega) hs hr).mono ?_;rintro e w1 ⟨rfl,r1,t1⟩;rw[<-HX.out];go_wp2_with fail;refine(Eu b w1 s (p+5) 5 _ rfl (by omega) hs r1).mono ?_;rintro e w2 ⟨rfl,r2,t2⟩;rw[<-HY.out];go_wp2_with fail;refine(Eu b w2 s (p+10) 4 _ rfl (by omega) hs r2).mono ?_;rintro e w3 ⟨rfl,r3,t3⟩;rw[<-HZ.out];by_cases c2:286<x+257
  .go_wp2;go_ret2;exact⟨((t1.trans t2).trans t3).rn,by rw[HE.out];exact⟨_,rfl⟩⟩
  have c3:30<y+1:=by omega
  go_wp2;go_ret2;exact⟨((t1.trans t2).trans t3).rn,by rw[HE.out];exact⟨_,rfl⟩⟩
 have cx:x+257<=286:=by omega
 have cy:y+1<=30:=by omega
 have hh:=HR.out;rw[if_neg c1]at hh;have HR':Hid (R=_):=hh;clear HR hh;clear c1;go_enter Tryz.func136,Tryz.ntmps136;go_wp2_with fail;refine(Eu b w s p 5 _ rfl (by omega) hs hr).mono ?_;rintro e w1 ⟨rfl,r1,t1⟩;rw[<-HX.out];go_wp2_with fail;refine(Eu b w1 s (p+5) 5 _ rfl (by omega) hs r1).mono ?_;rintro e w2 ⟨rfl,r2,t2⟩;rw[<-HY.out];go_wp2_with fail;refine(Eu b w2 s (p+10) 4 _ rfl (by omega) hs r2).mono ?_;rintro e w3 ⟨rfl,r3,t3⟩;rw[<-HZ.out];have T3:RN b w w3:=((t1.trans t2).trans t3).rn;have lt3:=T3.t.size;have o3:Ord w3:=ho.keep T3.t (by show¬1=b;omega);clear t1 t2 t3 r1 r2 hr ho;go_wp2_with fail;refine(dI w3 b s (p+14) (z+4) (by omega) hs r3 o3 hb).mono ?_;rintro e w4 ⟨nb,cp,rfl,hnb,hnum,tnb,r4,rn4⟩;obtain⟨C,hC⟩:∃C,C=Fq s (p+14) (z+4):=⟨_,rfl⟩;have hCl:C.length=19:=by rw[hC];exact Xk _ _ _
 have hh:=HR'.out;rw[<-hC]at hnum hh ⊢;have HR:Hid (R=_):=hh;clear HR' hh hC;have ltn:=tnb.lt;have lt4:=rn4.t.size;have alen:C.length<=400:=by omega
 have hc5:Ic (w4.alloc (.cells (codeCells C (.slice (some ⟨nb,0,none⟩) (placeOf C 16) cp)) 283)) w4.heap.size 0 nb cp C:=by
  refine⟨fun i hi=>?_,?_,fun m r h1 h2 h3=>?_,alen⟩;.rw[Nat.zero_add,Ac (heap_alloc_new w4 _)];exact Xe _ _ _ hi
  .rw[Ac (heap_alloc_new w4 _)];exact oJ _ _
  rw[World.cell?_alloc_past _ _ _ ltn];exact hnum m r h1 h2 h3
 have t5:Touch (fun _=>False) w4 (w4.alloc (.cells (codeCells C (.slice (some ⟨nb,0,none⟩) (placeOf C 16) cp)) 283)):=(Touch.refl _ _).alloc _;have r5:Rd (w4.alloc (.cells (codeCells C (.slice (some ⟨nb,0,none⟩) (placeOf C 16) cp)) 283)) b s (p+14+3*(z+4)):=r4.new t5 (fun h=>h);have q4:=r5.c4;by_cases c2:8*s.size<p+14+3*(z+4)\/Du C 15≠0
 .have HE:Hid (R=none):=by unfold Hid;rw[HR.out,if_pos c2]
  have RN5:=(T3.trans rn4).trans (RN.new t5 (by omega));by_cases c3:8*s.size<p+14+3*(z+4)
  .go_wp2_with ((with_reducible refine iR ?_);refine wpList_store_row rfl 283 (.tmp 7) (.tmp 28) rfl w4.heap.size _ rfl rfl 283 _ (heap_alloc_new w4 _) (by kernel_rfl) rfl (Wv _ _ _ _) ?_;rw[Uj]);go_ret2;exact⟨RN5,by rw[HE.out];exact⟨_,rfl⟩⟩
  have c4:(Du C 15==0)=false:=by simp;omega
  go_wp2_with (first|((with_reducible refine iR ?_);refine wpList_store_row rfl 283 (.tmp 7) (.tmp 28) rfl w4.heap.size _ rfl rfl 283 _ (heap_alloc_new w4 _) (by kernel_rfl) rfl (Wv _ _ _ _) ?_;rw[Uj])|(go_at_call 205;refine(Wx _ _ _ _ _ _ hc5).mono ?_;rintro e w' ⟨rfl,rfl⟩));go_ret2;exact⟨RN5,by rw[HE.out];exact⟨_,rfl⟩⟩
 have c3:¬8*s.size<p+14+3*(z+4):=by omega
 have c4:(Du C 15==0)=true:=by simp;omega
 have hh:=HR.out;rw[if_neg c2]at hh;have HR':Hid (R=_):=hh;clear HR hh c2;obtain⟨W5,hW5⟩:∃W,W=w4.alloc (.cells (codeCells C (.slice (some ⟨nb,0,none⟩) (placeOf C 16) cp)) 283):=⟨_,rfl⟩;have HW:Hid (W5=w4.alloc (.cells (codeCells C (.slice (some ⟨nb,0,none⟩) (placeOf C 16) cp)) 283)):=hW5;have sz5:W5.heap.size=w4.heap.size+1:=by rw[hW5];simp
 rw[<-hW5]at hc5 t5 r5 q4;clear hW5;have RN5:=(T3.trans rn4).trans (RN.new t5 (by omega));go_wp2_with (first|((with_reducible refine iR ?_);refine wpList_store_row rfl 283 (.tmp 7) (.tmp 28) rfl w4.heap.size _ rfl rfl 283 _ (heap_alloc_new w4 _) (by kernel_rfl) rfl (Wv _ _ _ _) ?_;rw[Uj,<-HW.out])|(go_at_call 205;refine(Wx _ _ _ _ _ _ hc5).mono ?_;rintro e w' ⟨rfl,rfl⟩)|(go_at_call 206;fail));cases hZ:Cj C s (x+257+(y+1)) (x+257+(y+1)) (p+14+3*(z+4)) []with
 |none=>
  have HE:Hid (R=none):=by unfold Hid;rw[HR'.out,hZ]
  refine(Xt W5 b w4.heap.size 0 nb cp C s (p+14+3*(z+4)) (x+257+(y+1)) _ (by omega) _ hZ (by omega) hCl hs r5 hc5 (by omega) (by omega) (by omega) (by omega)).mono ?_;rintro e w6 ⟨rn6,rfl⟩;have RN6:=RN5.trans rn6;clear HR' hZ;go_wp2;go_ret2;exact⟨RN6,by rw[HE.out];exact⟨_,rfl⟩⟩
 |some lq=>
  obtain⟨l,q⟩:=lq;obtain⟨hl,hl15⟩:=nJ C s _ hCl _ _ [] l q (by simp) (by simp) hZ;have hh:=HR'.out;rw[hZ]at hh;have HR:Hid (R=_):=hh;refine(Xt W5 b w4.heap.size 0 nb cp C s (p+14+3*(z+4)) (x+257+(y+1)) _ (by omega) _ hZ (by omega) hCl hs r5 hc5 (by omega) (by omega) (by omega) (by omega)).mono ?_;clear hZ HR' hh;rintro e w6 ⟨rn6,g,cap,rfl,own6,r6⟩;have RN6:=RN5.trans rn6;have hi256:256<l.length:=by omega
  have c256:w6.cell? ⟨g,256,none⟩=some (.int .i64 ((l.getD 256 0:Nat):Int)):=by
   have:=Jo own6 256 hi256;simpa [hi256]using this
  have HL:Hid (l.length=x+257+(y+1)):=hl;have hl2:256<l.length:=hi256;clear hl;by_cases c5:l.getD 256 0=0
  .have HE:Hid (R=none):=by unfold Hid;rw[HR.out];show(if l.getD 256 0=0 then _ else _)=_;rw[if_pos c5]
   rw[c5]at c256;go_wp2;go_ret2;exact⟨RN6,by rw[HE.out];exact⟨_,rfl⟩⟩
  have hh:=HR.out;change R=(if l.getD 256 0=0 then _ else _)at hh;rw[if_neg c5]at hh;have HR':Hid (R=_):=hh;clear HR hh;obtain⟨v256,h256⟩:∃v,v=l.getD 256 0:=⟨_,rfl⟩;rw[<-h256]at c256 c5;clear h256;have hcap:l.length<=cap:=by
   rcases own6.2 with⟨h,_⟩|⟨g',cap',cur,h,_,_,h5,_⟩;.cases h
   cases h;exact h5
  have hll:=HL.out;obtain⟨L,hL⟩:∃L,L=l.take (x+257):=⟨_,rfl⟩;obtain⟨D,hD⟩:∃D,D=l.drop (x+257):=⟨_,rfl⟩;have hLl:L.length=x+257:=by rw[hL,List.length_take];omega
  have hDl:D.length=y+1:=by rw[hD,List.length_drop];omega
  have hL15:∀u∈L,u<=15:=fun u hu=>hl15 u (List.mem_of_mem_take (hL▸hu));have hD15:∀u∈D,u<=15:=fun u hu=>hl15 u (List.mem_of_mem_drop (hD▸hu));obtain⟨pc1,pc2⟩:=jF own6 (x+257);rw[<-hL]at pc1;rw[<-hD]at pc2;have hh:=HR'.out;rw[<-hL,<-hD]at hh;have HR:Hid (R=_):=hh;clear HR' hh hL hD;obtain⟨n,hn⟩:∃n,n=l.length:=⟨_,rfl⟩;have hnn:n=x+257+(y+1):=by omega
  rw[<-hn]at own6 hcap ⊢;clear hn hll HL hl2 hi256 hl15;obtain⟨M,hM⟩:∃M,M=x+257:=⟨_,rfl⟩;have s0:(x:Int)+257=(M:Int):=by omega
  have s1:(M:Int)<=(cap:Int):=by omega
  have s2:(M:Int)<=(n:Int):=by omega
  have s3:M<=n:=by omega
  have s4:M<=cap:=by omega
  have s5:¬M=cap:=by omega
  have s6:¬(M:Int)=(cap:Int):=by omega
  have s7:¬cap=M:=by omega
  have s8:M<cap:=by omega
  have hDn:D.length=n-M:=by omega
  rw[<-hM]at hLl pc2 hnn cx;have HM:Hid (M=x+257):=hM;have HN:Hid (n=M+(y+1)):=hnn;clear hM hnn;have lt6:=RN6.t.size;have dl1:∀j (h:j<L.length),w6.drew.cell? ⟨g,0+j,none⟩=some (.int .i64 (L[j]:Nat)):=pc1;have dl2:∀j (h:j<D.length),w6.drew.cell? ⟨g,M+j,none⟩=some (.int .i64 (D[j]:Nat)):=pc2;clear pc1 pc2;go_wp2;go_region_held3 (fun _=>True) (trivial) (first|(go_at_call_of 200 (Value.slice (some { block:=g,off:=0 }) M cap);refine(nY w6.drew g 0 _ _ L hLl (by omega) hL15 dl1).mono ?_;rintro e w7 ⟨b1,c1,rfl,hb1,hs1,hn1,t1,ht7⟩)|(go_at_call_of 200 (Value.slice (some { block:=g,off:=M }) (n-M) (cap-M));refine(nY w7 g M _ _ D hDn (by omega) hD15 (fun j h=>ht7.at (dl2 j h) (fun e=>e))).mono ?_;rintro e w8 ⟨b2,c2,rfl,hb2,hs2,hn2,t2,ht8⟩));all_goals
   have lt7:=ht7.size;have lt8:=ht8.size;have hcd:=mQ (w:=w8) (c1:=c1) (c2:=c2) (L:=L) (D:=D) (by omega) (by omega) (fun n r a b c=>ht8.at (hn1 n r a b c) (fun h=>h)) (t1.keep ht8 (fun h=>h)) hn2 t2;rw[show two L D (.slice (some ⟨b1,0,none⟩) (placeOf L 16) c1) (.slice (some ⟨b2,0,none⟩) (placeOf D 16) c2)=#[Value.int .i64 (cnt L 0:Nat),Value.int .i64 (cnt L 1:Nat),Value.int .i64 (cnt L 2:Nat),Value.int .i64 (cnt L 3:Nat),Value.int .i64 (cnt L 4:Nat),Value.int .i64 (cnt L 5:Nat),Value.int .i64 (cnt L 6:Nat),Value.int .i64 (cnt L 7:Nat),Value.int .i64 (cnt L 8:Nat),Value.int .i64 (cnt L 9:Nat),Value.int .i64 (cnt L 10:Nat),Value.int .i64 (cnt L 11:Nat),Value.int .i64 (cnt L 12:Nat),Value.int .i64 (cnt L 13:Nat),Value.int .i64 (cnt L 14:Nat),Value.int .i64 (cnt L 15:Nat),Value.slice (some ⟨b1,0,none⟩) (placeOf L 16) c1,Value.int .i64 (cnt D 0:Nat),Value.int .i64 (cnt D 1:Nat),Value.int .i64 (cnt D 2:Nat),Value.int .i64 (cnt D 3:Nat),Value.int .i64 (cnt D 4:Nat),Value.int .i64 (cnt D 5:Nat),Value.int .i64 (cnt D 6:Nat),Value.int .i64 (cnt D 7:Nat),Value.int .i64 (cnt D 8:Nat),Value.int .i64 (cnt D 9:Nat),Value.int .i64 (cnt D 10:Nat),Value.int .i64 (cnt D 11:Nat),Value.int .i64 (cnt D 12:Nat),Value.int .i64 (cnt D 13:Nat),Value.int .i64 (cnt D 14:Nat),Value.int .i64 (cnt D 15:Nat),Value.slice (some ⟨b2,0,none⟩) (placeOf D 16) c2] from rfl]at hcd;have t9:Touch (fun _=>False) w6.drew (w8.alloc (.cells #[Value.int .i64 (cnt L 0:Nat),Value.int .i64 (cnt L 1:Nat),Value.int .i64 (cnt L 2:Nat),Value.int .i64 (cnt L 3:Nat),Value.int .i64 (cnt L 4:Nat),Value.int .i64 (cnt L 5:Nat),Value.int .i64 (cnt L 6:Nat),Value.int .i64 (cnt L 7:Nat),Value.int .i64 (cnt L 8:Nat),Value.int .i64 (cnt L 9:Nat),Value.int .i64 (cnt L 10:Nat),Value.int .i64 (cnt L 11:Nat),Value.int .i64 (cnt L 12:Nat),Value.int .i64 (cnt L 13:Nat),Value.int .i64 (cnt L 14:Nat),Value.int .i64 (cnt L 15:Nat),Value.slice (some ⟨b1,0,none⟩) (placeOf L 16) c1,Value.int .i64 (cnt D 0:Nat),Value.int .i64 (cnt D 1:Nat),Value.int .i64 (cnt D 2:Nat),Value.int .i64 (cnt D 3:Nat),Value.int .i64 (cnt D 4:Nat),Value.int .i64 (cnt D 5:Nat),Value.int .i64 (cnt D 6:Nat),Value.int .i64 (cnt D 7:Nat),Value.int .i64 (cnt D 8:Nat),Value.int .i64 (cnt D 9:Nat),Value.int .i64 (cnt D 10:Nat),Value.int .i64 (cnt D 11:Nat),Value.int .i64 (cnt D 12:Nat),Value.int .i64 (cnt D 13:Nat),Value.int .i64 (cnt D 14:Nat),Value.int .i64 (cnt D 15:Nat),Value.slice (some ⟨b2,0,none⟩) (placeOf D 16) c2] 286)):=(ht7.trans ht8).alloc _;obtain⟨W9,hW9⟩:∃W,W=w8.alloc (.cells #[Value.int .i64 (cnt L 0:Nat),Value.int .i64 (cnt L 1:Nat),Value.int .i64 (cnt L 2:Nat),Value.int .i64 (cnt L 3:Nat),Value.int .i64 (cnt L 4:Nat),Value.int .i64 (cnt L 5:Nat),Value.int .i64 (cnt L 6:Nat),Value.int .i64 (cnt L 7:Nat),Value.int .i64 (cnt L 8:Nat),Value.int .i64 (cnt L 9:Nat),Value.int .i64 (cnt L 10:Nat),Value.int .i64 (cnt L 11:Nat),Value.int .i64 (cnt L 12:Nat),Value.int .i64 (cnt L 13:Nat),Value.int .i64 (cnt L 14:Nat),Value.int .i64 (cnt L 15:Nat),Value.slice (some ⟨b1,0,none⟩) (placeOf L 16) c1,Value.int .i64 (cnt D 0:Nat),Value.int .i64 (cnt D 1:Nat),Value.int .i64 (cnt D 2:Nat),Value.int .i64 (cnt D 3:Nat),Value.int .i64 (cnt D 4:Nat),Value.int .i64 (cnt D 5:Nat),Value.int .i64 (cnt D 6:Nat),Value.int .i64 (cnt D 7:Nat),Value.int .i64 (cnt D 8:Nat),Value.int .i64 (cnt D 9:Nat),Value.int .i64 (cnt D 10:Nat),Value.int .i64 (cnt D 11:Nat),Value.int .i64 (cnt D 12:Nat),Value.int .i64 (cnt D 13:Nat),Value.int .i64 (cnt D 14:Nat),Value.int .i64 (cnt D 15:Nat),Value.slice (some ⟨b2,0,none⟩) (placeOf D 16) c2] 286):=⟨_,rfl⟩;rw[<-hW9]at hcd t9 ⊢;clear hW9;have RN9:RN b w W9:=(RN6.drew).trans (RN.new t9 (by show b<w6.heap.size;omega));have rd9:Rd W9 b s q:=(r6.drew).new t9 (fun h=>h);have lt6':w6.drew.heap.size=w6.heap.size:=rfl;by_cases f1:(Du L 15==0)=true
   .by_cases f2:(placeOf D 16==0||(placeOf D 16==1&&cnt D 1==1)||Du D 15==0)=true
    .have HE:Hid (R=some (L,D,q)):=(by unfold Hid;rw[HR.out,if_pos];unfold fine;rw[f1,f2];rfl);go_wp2_with (first|(go_at_call 205;refine(Wx _ _ _ _ _ _ hcd.lt).mono ?_;rintro e w' ⟨rfl,rfl⟩)|(go_at_call 207;refine(tK _ _ _ _ _ _ hcd.ds).mono ?_;rw[f2];rintro e w' ⟨rfl,rfl⟩));go_ret2;exact⟨RN9,by rw[HE.out];exact⟨w8.heap.size,b1,c1,b2,c2,rfl,hcd,by omega,by omega,by omega,rd9⟩⟩
    have f2':=Bool.eq_false_iff.2 f2;have HE:Hid (R=none):=(by unfold Hid;rw[HR.out,if_neg];unfold fine;rw[f1,f2'];decide);go_wp2_with (first|(go_at_call 205;refine(Wx _ _ _ _ _ _ hcd.lt).mono ?_;rintro e w' ⟨rfl,rfl⟩)|(go_at_call 207;refine(tK _ _ _ _ _ _ hcd.ds).mono ?_;rw[f2'];rintro e w' ⟨rfl,rfl⟩));go_ret2;exact⟨RN9,by rw[HE.out];exact⟨_,rfl⟩⟩
   have f1':=Bool.eq_false_iff.2 f1;have HE:Hid (R=none):=by unfold Hid;rw[HR.out,if_neg];unfold fine;rw[f1'];simp
   go_wp2_with (go_at_call 205;refine(Wx _ _ _ _ _ _ hcd.lt).mono ?_;rintro e w' ⟨rfl,rfl⟩);go_ret2;exact⟨RN9,by rw[HE.out];exact⟨_,rfl⟩⟩
end Go.Proofs.YtmhlkdlcpicekaaGreatDoor
