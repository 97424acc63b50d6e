/- Joined. -/
import Derived.Test.YtmhlkdlcpicekaaGreatDoorJ05
import Derived.Test.YtmhlkdlcpicekaaGreatDoorJ04
import Derived.Lib.Strings
import Derived.Laws.BytesArg
set_option linter.unusedSimpArgs false
set_option linter.unusedVariables false
set_option maxRecDepth 100000
set_option maxHeartbeats 20000000
namespace Go.Proofs.YtmhlkdlcpicekaaGreatDoor
open Go.RowKit
def Gw(s:ByteArray)(p:Nat)(out:List UInt8)(most:Nat):Sum Nat (List UInt8×Nat):=
 if 8*s.size<8*((p+7)/8)+32\/numAt s (8*((p+7)/8)+16) 16≠65535-numAt s (8*((p+7)/8)) 16 then .inl 1
 else if numAt s (8*((p+7)/8)) 16<=s.size-((p+7)/8+4)/\numAt s (8*((p+7)/8)) 16<=most-out.length then .inr (out++(s.data.toList.drop ((p+7)/8+4)).take (numAt s (8*((p+7)/8)) 16),8*((p+7)/8+4+numAt s (8*((p+7)/8)) 16))
 else if s.size-((p+7)/8+4)<=most-out.length then .inl 1 else .inl 2
theorem Rd.pass{w:World}{b:Nat}{s:ByteArray}{p:Nat}(h:Rd w b s p)(hp:p<=8*s.size):Rd (w.setCell ⟨b,3,none⟩ (.int .i64 0)) b s (8*((p+7)/8)):=by
 obtain⟨c0,c1,⟨r,hr,c2,_⟩,c3,c4,fr⟩:=h;refine⟨?_,?_,⟨r,hr,?_,?_⟩,?_,?_,?_⟩;.simp[Ad,c0]
 .rw[show min s.size ((8*((p+7)/8)+7)/8)=min s.size ((p+7)/8) by omega];simp[Ad,c1]
 .simp[Ad,c2]
 .intro _ hn;omega
 .rw[show(if 8*((p+7)/8)<=8*s.size then(8-8*((p+7)/8)%8)%8 else 0)=0 by split<;>omega];simp[Ad,c3]
 .rw[show decide (8*s.size<8*((p+7)/8))=decide (8*s.size<p) by rw[decide_eq_false (by omega),decide_eq_false (by omega)]];simp[Ad,c4]
 intro o;rw[World.frozen?_setCell];exact fr o
theorem Rd.whole{w:World}{b:Nat}{s:ByteArray}{k n:Nat}(h:Rd w b s (8*k))(hk:k+n<=s.size)(m:Nat):Rd ((w.setCell ⟨b,1,none⟩ (.int .i64 ((k+n:Nat):Int))).drewN m) b s (8*(k+n)):=by
 obtain⟨c0,c1,⟨r,hr,c2,_⟩,c3,c4,fr⟩:=h;refine⟨?_,?_,⟨r,hr,?_,?_⟩,?_,?_,?_⟩;.simp[Cc,Ad,c0]
 .rw[show min s.size ((8*(k+n)+7)/8)=k+n by omega];simp[Cc,Ad,c1]
 .simp[Cc,Ad,c2]
 .intro _ hn;omega
 .rw[show(if 8*(k+n)<=8*s.size then(8-8*(k+n)%8)%8 else 0)=(if 8*k<=8*s.size then(8-8*k%8)%8 else 0) by rw[if_pos (by omega),if_pos (by omega)];omega];simp[Cc,Ad,c3]
 .rw[show decide (8*s.size<8*(k+n))=decide (8*s.size<8*k) by rw[decide_eq_false (by omega),decide_eq_false (by omega)]];simp[Cc,Ad,c4]
 intro o;rw[aK,World.frozen?_setCell];exact fr o
theorem rJ(s:ByteArray)(k n:Nat)(h:k+n<=s.size):(s.extract k (k+n)).data.toList=(s.data.toList.drop k).take n:=by
 rw[Lib.extract_data,Nat.add_sub_cancel_left]
theorem qM{W:World}(s:ByteArray)(k n:Nat)(h:k+n<=s.size):Src Tryz.prog 1 9 (.string (s.extract k (k+n))) n (Dy ((s.data.toList.drop k).take n)) W:=by
 have hz:(s.extract k (k+n)).size=n:=by simp;omega
 have:=Src.ofString (P:=Tryz.prog) (w:=W) Tryz.underlying9 (s.extract k (k+n));rw[hz]at this;have e:byteCells (s.extract k (k+n))=Dy ((s.data.toList.drop k).take n):=by
  unfold byteCells Dy;rw[rJ s k n h]
 rw[e]at this;exact this
theorem take_len(s:ByteArray)(k c:Nat)(h:k+c<=s.size):((s.data.toList.drop k).take c).length=c:=by
 have e:s.data.toList.length=s.size:=Array.length_toList;rw[List.length_take,List.length_drop];omega
theorem Ei{w:World}{base:Nat}{e:TypeId}{size n:Nat}{v:Value}{xs:List Value}(h:w.ownsRow base e size v n xs):∃ao cap,v=.slice ao n cap:=by
 rcases h.2 with⟨e,h0⟩|⟨g,cap,cur,e,_⟩;.exact⟨none,0,by rw[e,h0]⟩
 exact⟨_,_,e⟩
theorem Om(b:Nat)(w:World)(s:ByteArray)(p k l:Nat)(hl:l=s.size-k)(hs:s.size<=maxLen)(hk:k<=s.size)(hp:p=8*k)(h:Rd w b s p): Calls Tryz.prog 196 #[.pointer (some ⟨b,0,none⟩)] w fun e w'=>e=.returned (.int .i64 (l:Int))/\∃n,w'=w.drewN n:=by
 subst hl hp;have c1:=h.c1;rw[show min s.size ((8*k+7)/8)=k by omega]at c1;exact uT b w s k hs hk h.c0 c1
theorem Uz(b:Nat)(w:World)(s:ByteArray)(k n:Nat)(hs:s.size<=maxLen)(hk:k+n<=s.size)(h:Rd w b s (8*k)): Calls Tryz.prog 198 #[.pointer (some ⟨b,0,none⟩),.int .i64 (n:Int)] w fun e w'=>e=.returned (.string (s.extract k (k+n)))/\Rd w' b s (8*(k+n))/\RT b w w':=by
 have c1:=h.c1;rw[show min s.size ((8*k+7)/8)=k by omega]at c1;refine(qL b w s k n hs hk h.c0 c1 (h.fr 1)).mono ?_;rintro e w' ⟨rfl,m,rfl⟩;exact⟨rfl,h.whole hk m,((RT.refl b w).set 1 (by omega) _).drewN m⟩
theorem La{P:Program}{ops:Array Oper}{rest:List Oper}{o:Oper}{a:Act}{w:World}{Q:Exit->Act->World->Prop}(hgd:o.guard=none)(s x:Operand)(t tx:TypeId)(hop:o.op=.call { callee:=.builtin .append,args:=#[s,x],argTypes:=#[t,tx] })(base:Nat)(e:TypeId)(i:TypeInfo)(z:Value)(bytes:Nat)(h1:P.underlying t=some (.slice e))(h2:P.info? e=some i)(h3:i.zero=some z)(h4:i.size=1)(h5:i.bytes=bytes)(h6:z.cells.size=1)(v:Value)(n:Nat)(xs:List Value)(hv:a.eval s=v)(hown:w.ownsRow base e 1 v n xs)(y:Value)(m:Nat)(news:List Value)(hy:a.eval x=y)(hs:Src P 1 tx y m news w)(b1:n+m<=maxLen)(b2:(n+m)*bytes<=140737488355328)(b3:base<=w.heap.size)(h:∀v' w',w'.ownsRow base e 1 v' (n+m) (xs++news)->w.grownBy w' v.ownBlock->wpList P ops Q rest (a.put o.dst v') w'):wpList P ops Q (o::rest) a w :=wpList_plain hgd fun _ hK=>by
  obtain⟨v',w',hrun,r1,r2⟩:=Ky (P:=P) w base t tx o.type e i z bytes h1 h2 h3 h4 h5 h6 v n xs hown y m news hs b1 b2 b3;unfold Oper.wp;simp[execOp,hop,resolve,invoke,builtin,hv,hy,hrun,Result.andThen];exact hK _ _ (h v' w' r1 r2)
theorem Qhx(b:Nat)(w:World)(s:ByteArray)(p:Nat)(out:List UInt8)(most:Nat)(hs:s.size<=2147483648)(h:Inf w b s p out most)(hp:p<=8*s.size): Calls Tryz.prog 133 #[.pointer (some ⟨b,0,none⟩)] w (Ij b s most w (Gw s p out most)):=by
 have hsm:s.size<=maxLen:=by unfold maxLen;omega
 obtain⟨R,hR⟩:∃R,R=Gw s p out most:=⟨_,rfl⟩;have HR:Hid (R=Gw s p out most):=hR;rw[<-hR];clear hR;unfold Gw at HR;obtain⟨k0,hk0⟩:∃k0,k0=(p+7)/8:=⟨_,rfl⟩;obtain⟨n,hn⟩:∃n,n=numAt s (8*k0) 16:=⟨_,rfl⟩;obtain⟨m,hm⟩:∃m,m=numAt s (8*k0+16) 16:=⟨_,rfl⟩;have bn:=Dl s (8*k0) 16;have bm:=Dl s (8*k0+16) 16;rw[<-hk0,<-hn,<-hm]at HR;rw[<-hn]at bn;rw[<-hm]at bm;have pk:p<=8*k0:=by omega
 have rp:=h.rd.pass hp;rw[<-hk0]at rp;have HN:Hid (n=numAt s (8*k0) 16):=hn;have HM:Hid (m=numAt s (8*k0+16) 16):=hm;clear hn hm hk0;have tp:RN b w (w.setCell ⟨b,3,none⟩ (.int .i64 0)):=((RT.refl b w).set 3 (by omega) _).rn;go_enter Tryz.func133,Tryz.ntmps133;go_wp2_with fail;refine(zD b w s p h.rd).mono ?_;rintro e w1 ⟨rfl,hw1⟩;rw[<-hw1]at rp tp;clear hw1;go_wp2_with fail;refine(Eu b w1 s (8*k0) 16 _ rfl (by omega) hsm rp).mono ?_;rintro e w2 ⟨rfl,r2,t2⟩;rw[<-HN.out];go_wp2_with fail;refine(Eu b w2 s (8*k0+16) 16 _ rfl (by omega) hsm r2).mono ?_;rintro e w3 ⟨rfl,r3,t3⟩;rw[<-HM.out];have RN3:=(tp.trans t2.rn).trans t3.rn;have z4:=r3.c4;by_cases c1:8*s.size<8*k0+32\/m≠65535-n
 .have HE:Hid (R=.inl 1):=by unfold Hid;rw[HR.out,if_pos c1]
  by_cases c2:8*s.size<8*k0+32
  .have c2':8*s.size<8*k0+16+16:=by omega
   go_wp2;go_ret;exact⟨IT.Qo RN3,by rw[HE.out];rfl⟩
  have c2':¬8*s.size<8*k0+16+16:=by omega
  have c3:¬(m:Int)=65535-(n:Int):=by omega
  go_wp2;go_ret;exact⟨IT.Qo RN3,by rw[HE.out];rfl⟩
 have c2':¬8*s.size<8*k0+16+16:=by omega
 have c3:(m:Int)=65535-(n:Int):=by omega
 have hh:=HR.out;rw[if_neg c1]at hh;have HR':Hid (R=_):=hh;clear HR hh;obtain⟨k,hk⟩:∃k,k=k0+4:=⟨_,rfl⟩;have kle:k<=s.size:=by omega
 rw[show 8*k0+16+16=8*k by omega]at r3;have hh:=HR'.out;rw[<-hk]at hh;obtain⟨l,hl⟩:∃l,l=s.size-k:=⟨_,rfl⟩;obtain⟨rm,hrm⟩:∃rm,rm=most-out.length:=⟨_,rfl⟩;rw[<-hl,<-hrm]at hh;have HR:Hid (R=_):=hh;have HL:Hid (l=s.size-k):=hl;have HRM:Hid (rm=most-out.length):=hrm;have b1:l<=2147483648:=by omega
 have b2:k+l<=s.size:=by omega
 have hft:=h.fit;have b3:out.length+rm<=most:=by omega
 have ht:=h.top;have b4:rm<=9223372036854775807:=by omega
 have hin:=h.read r3 RN3 (by omega);clear HR' hh hk hl hrm;obtain⟨ao,cap,h5,ho⟩:=hin.gv;have h6:=hin.ms;obtain⟨i0,hi,hz0,hz1,hz2⟩:=info_parts Tryz.infoByte;have hfew:=hin.few;have c8:∀c,c<=65536->out.length+c<=maxLen:=by intro c _;unfold maxLen;omega
 have c9:∀c,c<=65536->(out.length+c)*1<=140737488355328:=by intro c _;omega
 by_cases c4:n<=l/\n<=rm
 .have HE:Hid (R=.inr (out++(s.data.toList.drop k).take n,8*(k+n))):=by unfold Hid;rw[HR.out,if_pos c4]
  obtain⟨c5,c6⟩:=c4;go_wp2_with (first|(go_at_call 196;refine(Om b w3 s _ k l HL.out hsm kle rfl r3).mono ?_;rintro e w4 ⟨rfl,d4,rfl⟩)|(go_at_call 197;refine(pO b (w3.drewN d4) ao out.length cap most rm HRM.out hft ht h5 h6).mono ?_;rintro e w4 ⟨rfl,d5,rfl⟩));obtain⟨W,hW⟩:∃W,W=w3.drewN (d4+d5):=⟨_,rfl⟩;have iW:Inf W b s (8*k) out most:=by rw[hW];exact(hin.drewN (d4+d5)).read (r3.drewN _) (RN.refl b _) (Nat.le_refl _)
  have tW:RN b w3 W:=by rw[hW];exact⟨(Touch.refl _ w3).drewN _,fun _ _=>rfl,fun _=>rfl⟩
  have g5:W.cell? ⟨b,5,none⟩=some (.slice ao out.length cap):=by rw[hW];exact h5
  have gO:W.ownsRow (b+1) 5 1 (.slice ao out.length cap) out.length (Dy out):=by rw[hW];exact ho
  have hneb:∀j,(Value.slice ao out.length cap).ownBlock=some j->¬j=b:=fun j hj=>by have:=(gO.lt j hj).1;omega
  rw[<-hW];clear hW;refine(Uz b W s k n hsm (by omega) iW.rd).mono ?_;rintro e w5 ⟨rfl,r5,t5⟩;have y5:=(t5.keep 5 (by omega)).trans g5;have yO:=t5.t.owns gO hneb;have i5:=iW.read r5 t5.rn (by omega);have bs5:b+1<=w5.heap.size:=i5.lt;go_wp2_with (at_builtin;refine La rfl _ _ 114 9 rfl (b+1) 5 i0 (.int .u8 0) 1 Tryz.underlying114 hi hz0 hz1 hz2 rfl _ _ _ rfl yO _ _ _ rfl (qM s k n (by omega)) (c8 n (by omega)) (c9 n (by omega)) bs5 ?_;intro v' w6 hown' hgrow;obtain⟨q5,q6⟩:=i5.fC y5 yO (Touch.refl _ w5) hgrow;obtain⟨ao',cap',hv'⟩:=Ei hown';rw[hv']at hown' ⊢);all_goals
   have nl:=take_len s k n (by omega);have gi:=i5.given (p:=8*(k+n)) (q:=8*(k+n)) (new:=(s.data.toList.drop k).take n) y5 yO (Touch.refl _ w5) hgrow (by rw[nl];exact hown') (by rw[nl];omega) (by rw[nl];have:=hin.few;omega);have I6:=((IT.Qo ((RN3.trans tW).trans t5.rn)).trans gi.2);go_wp2;go_ret;exact⟨I6,by rw[HE.out];exact⟨rfl,gi.1⟩⟩
 by_cases c5:l<=rm
 .have HE:Hid (R=.inl 1):=by unfold Hid;rw[HR.out,if_neg c4,if_pos c5]
  have c6:l<n:=by omega
  have c7:¬(l:Int)=(n:Int):=by omega
  go_wp2_with (first|(go_at_call 196;refine(Om b w3 s _ k l HL.out hsm kle rfl r3).mono ?_;rintro e w4 ⟨rfl,d4,rfl⟩)|(go_at_call 197;refine(pO b (w3.drewN d4) ao out.length cap most rm HRM.out hft ht h5 h6).mono ?_;rintro e w4 ⟨rfl,d5,rfl⟩));obtain⟨W,hW⟩:∃W,W=w3.drewN (d4+d5):=⟨_,rfl⟩;have iW:Inf W b s (8*k) out most:=by rw[hW];exact(hin.drewN (d4+d5)).read (r3.drewN _) (RN.refl b _) (Nat.le_refl _)
  have tW:RN b w3 W:=by rw[hW];exact⟨(Touch.refl _ w3).drewN _,fun _ _=>rfl,fun _=>rfl⟩
  have g5:W.cell? ⟨b,5,none⟩=some (.slice ao out.length cap):=by rw[hW];exact h5
  have gO:W.ownsRow (b+1) 5 1 (.slice ao out.length cap) out.length (Dy out):=by rw[hW];exact ho
  have hneb:∀j,(Value.slice ao out.length cap).ownBlock=some j->¬j=b:=fun j hj=>by have:=(gO.lt j hj).1;omega
  rw[<-hW];clear hW;refine(Uz b W s k l hsm (by omega) iW.rd).mono ?_;rintro e w5 ⟨rfl,r5,t5⟩;have y5:=(t5.keep 5 (by omega)).trans g5;have yO:=t5.t.owns gO hneb;have i5:=iW.read r5 t5.rn (by omega);have bs5:b+1<=w5.heap.size:=i5.lt;go_wp2_with (at_builtin;refine La rfl _ _ 114 9 rfl (b+1) 5 i0 (.int .u8 0) 1 Tryz.underlying114 hi hz0 hz1 hz2 rfl _ _ _ rfl yO _ _ _ rfl (qM s k l (by omega)) (c8 l (by omega)) (c9 l (by omega)) bs5 ?_;intro v' w6 hown' hgrow;obtain⟨q5,q6⟩:=i5.fC y5 yO (Touch.refl _ w5) hgrow;obtain⟨ao',cap',hv'⟩:=Ei hown';rw[hv']at hown' ⊢);all_goals
   have nl:=take_len s k l (by omega);have gi:=i5.given (p:=8*(k+l)) (q:=8*(k+l)) (new:=(s.data.toList.drop k).take l) y5 yO (Touch.refl _ w5) hgrow (by rw[nl];exact hown') (by rw[nl];omega) (by rw[nl];have:=hin.few;omega);have I6:=((IT.Qo ((RN3.trans tW).trans t5.rn)).trans gi.2);have Z6:=gi.1.rd;have kl:k+l<=s.size:=by omega
   have HZ:Hid ((0:Nat)=s.size-(k+l)):=by unfold Hid;rw[HL.out];omega
   go_wp2_with (go_at_call 196;refine(Om b _ s _ (k+l) 0 HZ.out hsm kl rfl Z6).mono ?_;rintro e w7 ⟨rfl,d7,rfl⟩);go_ret;exact⟨I6.drewN d7,by rw[HE.out];rfl⟩
 have HE:Hid (R=.inl 2):=by unfold Hid;rw[HR.out,if_neg c4,if_neg c5]
 have c6:rm<n:=by omega
 have c7:¬(rm:Int)=(n:Int):=by omega
 go_wp2_with (first|(go_at_call 196;refine(Om b w3 s _ k l HL.out hsm kle rfl r3).mono ?_;rintro e w4 ⟨rfl,d4,rfl⟩)|(go_at_call 197;refine(pO b (w3.drewN d4) ao out.length cap most rm HRM.out hft ht h5 h6).mono ?_;rintro e w4 ⟨rfl,d5,rfl⟩));obtain⟨W,hW⟩:∃W,W=w3.drewN (d4+d5):=⟨_,rfl⟩;have iW:Inf W b s (8*k) out most:=by rw[hW];exact(hin.drewN (d4+d5)).read (r3.drewN _) (RN.refl b _) (Nat.le_refl _)
 have tW:RN b w3 W:=by rw[hW];exact⟨(Touch.refl _ w3).drewN _,fun _ _=>rfl,fun _=>rfl⟩
 have g5:W.cell? ⟨b,5,none⟩=some (.slice ao out.length cap):=by rw[hW];exact h5
 have gO:W.ownsRow (b+1) 5 1 (.slice ao out.length cap) out.length (Dy out):=by rw[hW];exact ho
 have hneb:∀j,(Value.slice ao out.length cap).ownBlock=some j->¬j=b:=fun j hj=>by have:=(gO.lt j hj).1;omega
 rw[<-hW];clear hW;refine(Uz b W s k rm hsm (by omega) iW.rd).mono ?_;rintro e w5 ⟨rfl,r5,t5⟩;have y5:=(t5.keep 5 (by omega)).trans g5;have yO:=t5.t.owns gO hneb;have i5:=iW.read r5 t5.rn (by omega);have bs5:b+1<=w5.heap.size:=i5.lt;go_wp2_with (at_builtin;refine La rfl _ _ 114 9 rfl (b+1) 5 i0 (.int .u8 0) 1 Tryz.underlying114 hi hz0 hz1 hz2 rfl _ _ _ rfl yO _ _ _ rfl (qM s k rm (by omega)) (c8 rm (by omega)) (c9 rm (by omega)) bs5 ?_;intro v' w6 hown' hgrow;obtain⟨q5,q6⟩:=i5.fC y5 yO (Touch.refl _ w5) hgrow;obtain⟨ao',cap',hv'⟩:=Ei hown';rw[hv']at hown' ⊢);all_goals
  have nl:=take_len s k rm (by omega);have gi:=i5.given (p:=8*(k+rm)) (q:=8*(k+rm)) (new:=(s.data.toList.drop k).take rm) y5 yO (Touch.refl _ w5) hgrow (by rw[nl];exact hown') (by rw[nl];omega) (by rw[nl];have:=hin.few;omega);have I6:=((IT.Qo ((RN3.trans tW).trans t5.rn)).trans gi.2);have Z6:=gi.1.rd;obtain⟨l7,hl7⟩:∃l7,l7=s.size-(k+rm):=⟨_,rfl⟩;have HZ:Hid (l7=s.size-(k+rm)):=hl7;have l70:¬l7=0:=by rw[hl7];have:=HL.out;omega
  have kl:k+rm<=s.size:=by omega
  clear hl7;go_wp2_with (go_at_call 196;refine(Om b _ s _ (k+rm) l7 HZ.out hsm kl rfl Z6).mono ?_;rintro e w7 ⟨rfl,d7,rfl⟩);go_ret;exact⟨I6.drewN d7,by rw[HE.out];rfl⟩
def Ec(s:ByteArray)(kind p:Nat)(out:List UInt8)(most:Nat):Sum Nat (List UInt8×Nat):=
 if kind=0 then Gw s p out most
 else if kind=1 then Bz Cm Gu s most (8*s.size+1) p out
 else if kind=2 then(match Ox s p with
  |none=>.inl 1
  |some (L,D,q)=>Bz L D s most (8*s.size+1) q out)
 else .inl 1
def Bq(s:ByteArray)(most:Nat):Nat->Nat->List UInt8->Sum Nat (List UInt8×Nat)
 |0,_,_=>.inl 1
 |f+1,p,out=>
  if 8*s.size<p+3 then .inl 1
  else match Ec s (numAt s (p+1) 2) (p+3) out most with
   |.inl e=>.inl e
   |.inr (o,q)=>if Ea s p=1 then .inr (o,q)else Bq s most f q o
theorem Uk(L D:List Nat)(s:ByteArray)(most:Nat):∀f p out o q,Bz L D s most f p out=.inr (o,q)->p<=q/\q<=8*s.size
 |0,p,out,o,q,h=>by simp[Bz]at h
 |f+1,p,out,o,q,h=>by
  cases hd:dec L s p with
  |none=>rw[Lp _ _ _ _ _ _ _ hd]at h;cases h
  |some xq=>
   obtain⟨x,q1⟩:=xq;have hx:=dec_lt hd;rw[Lj _ _ _ _ _ _ _ _ _ hd]at h;by_cases x1:x=256
   .rw[if_pos x1]at h;simp only[Sum.inr.injEq,Prod.mk.injEq]at h;obtain⟨_,rfl⟩:=h;omega
   rw[if_neg x1]at h;by_cases x2:x<256
   .rw[if_pos x2]at h;by_cases x3:most<=out.length;.rw[if_pos x3]at h;cases h
    rw[if_neg x3]at h;have:=Uk L D s most f _ _ o q h;omega
   rw[if_neg x2]at h;cases hq:Di D s q1 out most x with
   |inl k=>rw[hq]at h;cases h
   |inr oq=>
    obtain⟨o1,q2⟩:=oq;rw[hq]at h;have h2:=Wh _ _ _ _ _ _ _ _ hq;have:=Uk L D s most f _ _ o q h;omega
theorem Qv(L D:List Nat)(s:ByteArray)(most:Nat):∀f p out k,Bz L D s most f p out=.inl k->k=1\/k=2
 |0,p,out,k,h=>by simp only[Bz,Sum.inl.injEq]at h;omega
 |f+1,p,out,k,h=>by
  cases hd:dec L s p with
  |none=>rw[Lp _ _ _ _ _ _ _ hd]at h;simp only[Sum.inl.injEq]at h;omega
  |some xq=>
   obtain⟨x,q1⟩:=xq;rw[Lj _ _ _ _ _ _ _ _ _ hd]at h;by_cases x1:x=256;.rw[if_pos x1]at h;cases h
   rw[if_neg x1]at h;by_cases x2:x<256
   .rw[if_pos x2]at h;by_cases x3:most<=out.length;.rw[if_pos x3]at h;simp only[Sum.inl.injEq]at h;omega
    rw[if_neg x3]at h;exact Qv L D s most f _ _ k h
   rw[if_neg x2]at h;cases hq:Di D s q1 out most x with
   |inl k'=>rw[hq]at h;simp only[Sum.inl.injEq]at h;subst h;exact Uw _ _ _ _ _ _ _ hq
   |inr oq=>
    obtain⟨o1,q2⟩:=oq;rw[hq]at h;exact Qv L D s most f _ _ k h
theorem mY(C:List Nat)(s:ByteArray)(want:Nat):∀f p acc l q,p<=8*s.size->Cj C s want f p acc=some (l,q)->p<=q/\q<=8*s.size
 |0,p,acc,l,q,hp,h=>by
  simp only[Cj]at h;by_cases hw:want<=acc.length;.rw[if_pos hw]at h;cases h;omega
  rw[if_neg hw]at h;cases h
 |f+1,p,acc,l,q,hp,h=>by
  by_cases hw:want<=acc.length;.rw[Rh _ _ _ _ _ _ hw]at h;cases h;omega
  cases hd:dec C s p with
  |none=>rw[Rn _ _ _ _ _ _ (by omega) hd]at h;cases h
  |some kq=>
   obtain⟨kind,q1⟩:=kq;have hk:=dec_lt hd;rw[Iy _ _ _ _ _ kind q1 _ (by omega) hd]at h;by_cases c1:kind=16/\acc.length=0;.rw[if_pos c1]at h;cases h
   rw[if_neg c1]at h;by_cases c2:8*s.size<(lenOf s kind q1 acc).2.2;.rw[if_pos c2]at h;cases h
   rw[if_neg c2]at h;by_cases c3:want<acc.length+(lenOf s kind q1 acc).2.1;.rw[if_pos c3]at h;cases h
   rw[if_neg c3]at h;have h1:=mY C s want f _ _ l q (by omega) h;have h2:q1<=(lenOf s kind q1 acc).2.2:=by
    unfold lenOf;by_cases k1:kind=16;.rw[if_pos k1];show q1<=q1+2;omega
    rw[if_neg k1];by_cases k2:kind=17;.rw[if_pos k2];show q1<=q1+3;omega
    rw[if_neg k2];by_cases k3:kind=18;.rw[if_pos k3];show q1<=q1+7;omega
    rw[if_neg k3];exact Nat.le_refl _
   omega
theorem uO(s:ByteArray)(p:Nat)(L D:List Nat)(q:Nat)(h:Ox s p=some (L,D,q)):p<=q/\q<=8*s.size/\L.length<=288:=by
 unfold Ox at h;generalize numAt s p 5=x at h;generalize numAt s (p+5) 5=y at h;generalize numAt s (p+10) 4=z at h;by_cases c1:286<x+257\/30<y+1;.rw[if_pos c1]at h;cases h
 rw[if_neg c1]at h;generalize Fq s (p+14) (z+4)=C at h;by_cases c2:8*s.size<p+14+3*(z+4)\/Du C 15≠0;.rw[if_pos c2]at h;cases h
 rw[if_neg c2]at h;cases hz:Cj C s (x+257+(y+1)) (x+257+(y+1)) (p+14+3*(z+4)) []with
 |none=>rw[hz]at h;cases h
 |some lq=>
  obtain⟨l,q'⟩:=lq;have hl:=mY C s _ _ _ _ l q' (by omega) hz;rw[hz]at h;change(if l.getD 256 0=0 then _ else _)=_ at h;by_cases c3:l.getD 256 0=0;.rw[if_pos c3]at h;cases h
  rw[if_neg c3]at h;by_cases c4:fine (l.take (x+257)) (l.drop (x+257))=true
  .rw[if_pos c4]at h;simp only[Option.some.injEq,Prod.mk.injEq]at h;obtain⟨rfl,_,rfl⟩:=h;refine⟨by omega,hl.2,?_⟩;rw[List.length_take];omega
  rw[if_neg c4]at h;cases h
theorem xQ(s:ByteArray)(p:Nat)(out:List UInt8)(most:Nat)(o:List UInt8)(q:Nat)(h:Gw s p out most=.inr (o,q)):p<=q/\q<=8*s.size:=by
 unfold Gw at h;generalize numAt s (8*((p+7)/8)) 16=n at h;generalize numAt s (8*((p+7)/8)+16) 16=m at h;by_cases c1:8*s.size<8*((p+7)/8)+32\/m≠65535-n;.rw[if_pos c1]at h;cases h
 rw[if_neg c1]at h;by_cases c2:n<=s.size-((p+7)/8+4)/\n<=most-out.length
 .rw[if_pos c2]at h;simp only[Sum.inr.injEq,Prod.mk.injEq]at h;obtain⟨_,rfl⟩:=h;omega
 rw[if_neg c2]at h;by_cases c3:s.size-((p+7)/8+4)<=most-out.length;.rw[if_pos c3]at h;cases h
 rw[if_neg c3]at h;cases h
theorem sQ(s:ByteArray)(p:Nat)(out:List UInt8)(most k:Nat)(h:Gw s p out most=.inl k):k=1\/k=2:=by
 unfold Gw at h;split at h;.simp only[Sum.inl.injEq]at h;omega
 split at h;.cases h
 split at h<;>(simp only[Sum.inl.injEq]at h;omega)
theorem Yj(s:ByteArray)(kind p:Nat)(out:List UInt8)(most:Nat)(o:List UInt8)(q:Nat)(h:Ec s kind p out most=.inr (o,q)):p<=q/\q<=8*s.size:=by
 unfold Ec at h;by_cases k0:kind=0;.rw[if_pos k0]at h;exact xQ _ _ _ _ _ _ h
 rw[if_neg k0]at h;by_cases k1:kind=1;.rw[if_pos k1]at h;exact Uk _ _ _ _ _ _ _ _ _ h
 rw[if_neg k1]at h;by_cases k2:kind=2
 .rw[if_pos k2]at h;cases ho:Ox s p with
  |none=>rw[ho]at h;cases h
  |some ldq=>
   obtain⟨L,D,q'⟩:=ldq;rw[ho]at h;have:=uO s p L D q' ho;have h2:=Uk _ _ _ _ _ _ _ _ _ h;omega
 rw[if_neg k2]at h;cases h
theorem Vw(s:ByteArray)(kind p:Nat)(out:List UInt8)(most k:Nat)(h:Ec s kind p out most=.inl k):k=1\/k=2:=by
 unfold Ec at h;by_cases k0:kind=0;.rw[if_pos k0]at h;exact sQ _ _ _ _ _ h
 rw[if_neg k0]at h;by_cases k1:kind=1;.rw[if_pos k1]at h;exact Qv _ _ _ _ _ _ _ _ h
 rw[if_neg k1]at h;by_cases k2:kind=2
 .rw[if_pos k2]at h;cases ho:Ox s p with
  |none=>rw[ho]at h;simp only[Sum.inl.injEq]at h;omega
  |some ldq=>
   obtain⟨L,D,q'⟩:=ldq;rw[ho]at h;exact Qv _ _ _ _ _ _ _ _ h
 rw[if_neg k2]at h;simp only[Sum.inl.injEq]at h;omega
theorem Inf.fix{w w1:World}{b:Nat}{s:ByteArray}{p:Nat}{out:List UInt8}{most fb n1 c1 n2 c2:Nat}(h:Inf w b s p out most)(ht:Touch (fun _=>False) w w1)(hc:Nl w1 fb n1 c1 n2 c2 Cm Gu)(h0:b<fb)(h1:b<n1)(h2:b<n2): Inf (w1.setCell ⟨b,7,none⟩ (.pointer (some ⟨fb,0,none⟩))) b s p out most/\IT b w (w1.setCell ⟨b,7,none⟩ (.pointer (some ⟨fb,0,none⟩)))/\Nl (w1.setCell ⟨b,7,none⟩ (.pointer (some ⟨fb,0,none⟩))) fb n1 c1 n2 c2 Cm Gu:=by
 have hlt:=h.lt;have cc:∀o,w1.cell? ⟨b,o,none⟩=w.cell? ⟨b,o,none⟩:=fun o=>ht.cell hlt (fun e=>e);have ff:∀o,w1.frozen? ⟨b,o,none⟩=w.frozen? ⟨b,o,none⟩:=fun o=>ht.frozen hlt (fun e=>e);have t2:Touch (·=b) w1 (w1.setCell ⟨b,7,none⟩ (.pointer (some ⟨fb,0,none⟩))):=Touch.setCell (S:=(·=b)) (Touch.refl _ w1) (p:=⟨b,7,none⟩) rfl _;have hc2:=hc.Oy t2 (by show¬fb=b;omega) (by show¬n1=b;omega) (by show¬n2=b;omega);have it:IT b w (w1.setCell ⟨b,7,none⟩ (.pointer (some ⟨fb,0,none⟩))):=Touch.setCell (ht.mono (fun _ _ e=>e.elim)) (p:=⟨b,7,none⟩) (Or.inl rfl) _;obtain⟨ao,cap,g5,go⟩:=h.gv;obtain⟨v7,g7,_⟩:=h.fx;have r:=h.rd;refine⟨⟨⟨?_,?_,?_,?_,?_,?_⟩,⟨ao,cap,?_,?_⟩,?_,⟨_,?_,Or.inr ⟨fb,n1,c1,n2,c2,rfl,hc2,h0,h1,h2⟩⟩,h.fit,h.few,h.top⟩,it,hc2⟩;.rw[Aq (by omega),cc];exact r.c0
 .rw[Aq (by omega),cc];exact r.c1
 .rw[Aq (by omega),cc];exact r.c2
 .rw[Aq (by omega),cc];exact r.c3
 .rw[Aq (by omega),cc];exact r.c4
 .intro o;rw[World.frozen?_setCell,ff];exact r.fr o
 .rw[Aq (by omega),cc];exact g5
 .exact t2.owns (ht.owns go (fun _ _ e=>e)) (fun k hk (e:k=b)=>by have:=(go.lt k hk).1;omega)
 .rw[Aq (by omega),cc];exact h.ms
 simp[Ad,cc,g7]
theorem Qg6(b:Nat)(w:World)(s:ByteArray)(p:Nat)(out:List UInt8)(most:Nat)(R:Sum Nat (List UInt8×Nat))(hR:Gw s p out most=R)(hs:s.size<=2147483648)(h:Inf w b s p out most)(hp:p<=8*s.size): Calls Tryz.prog 133 #[.pointer (some ⟨b,0,none⟩)] w (Ij b s most w R):=by
 subst hR;exact Qhx b w s p out most hs h hp
theorem qB(b:Nat)(w:World)(s:ByteArray)(p:Nat)(out:List UInt8)(most cb n1 c1 n2 c2:Nat)(L D:List Nat)(R:Sum Nat (List UInt8×Nat))(hR:Bz L D s most (8*s.size+1) p out=R)(hs:s.size<=2147483648)(h:Inf w b s p out most)(hp:p<=8*s.size)(hc:Nl w cb n1 c1 n2 c2 L D)(h0:b<cb)(h1:b<n1)(h2:b<n2)(hL:L.length<=288): Calls Tryz.prog 135 #[.pointer (some ⟨b,0,none⟩),.pointer (some ⟨cb,0,none⟩)] w (Ij b s most w R):=by
 subst hR;exact Qhr b w s p out most cb n1 c1 n2 c2 L D hs h hp hc h0 h1 h2 hL _ (by omega)
theorem Qe3(w:World)(b:Nat)(s:ByteArray)(p:Nat)(hR:Ox s p=none)(hs:s.size<=maxLen)(hr:Rd w b s p)(ho:Ord w)(hb:1<b): Calls Tryz.prog 136 #[.pointer (some ⟨b,0,none⟩)] w fun e w'=>∃v,e=.returned (.tuple #[v,.bool false])/\RN b w w':=by
 refine(iG w b s p hs hr ho hb).mono ?_;rintro e w' ⟨rn,he⟩;rw[hR]at he;obtain⟨v,rfl⟩:=he;exact⟨v,rfl,rn⟩
theorem Qez(w:World)(b:Nat)(s:ByteArray)(p:Nat)(L D:List Nat)(q:Nat)(hR:Ox s p=some (L,D,q))(hs:s.size<=maxLen)(hr:Rd w b s p)(ho:Ord w)(hb:1<b): Calls Tryz.prog 136 #[.pointer (some ⟨b,0,none⟩)] w fun e w'=>∃fb n1 c1 n2 c2,e=.returned (.tuple #[.pointer (some ⟨fb,0,none⟩),.bool true])/\Nl w' fb n1 c1 n2 c2 L D/\w.heap.size<=fb/\w.heap.size<=n1/\w.heap.size<=n2/\Rd w' b s q/\RN b w w':=by
 refine(iG w b s p hs hr ho hb).mono ?_;rintro e w' ⟨rn,he⟩;rw[hR]at he;obtain⟨fb,n1,c1,n2,c2,rfl,h1,h2,h3,h4,h5⟩:=he;exact⟨fb,n1,c1,n2,c2,rfl,h1,h2,h3,h4,h5,rn⟩
theorem Qaw:Cm.length<=288:=by
 unfold Cm;simp only[List.length_append,List.length_replicate,List.length_nil];omega
theorem Ij.val{b:Nat}{s:ByteArray}{most:Nat}{w w':World}{r:Sum Nat (List UInt8×Nat)}{e:Ending}(h:Ij b s most w r e w'):∃k:Nat,e=.returned (.int .i64 (k:Int))/\IT b w w'/\Ij b s most w r (.returned (.int .i64 (k:Int))) w':=by
 obtain⟨it,h⟩:=h;cases r with
 |inl k=>exact⟨k,h,it,it,rfl⟩
 |inr oq=>obtain⟨rfl,hi⟩:=h;exact⟨0,rfl,it,it,rfl,hi⟩
theorem Ij.from{b:Nat}{s:ByteArray}{most:Nat}{w0 w w':World}{r:Sum Nat (List UInt8×Nat)}{e:Ending}(h:Ij b s most w r e w')(h0:IT b w0 w):Ij b s most w0 r e w':=⟨h0.trans h.1,h.2⟩
theorem Qhe(b:Nat)(w:World)(s:ByteArray)(kind p:Nat)(out:List UInt8)(most:Nat)(hs:s.size<=2147483648)(h:Inf w b s p out most)(hp:p<=8*s.size)(ho:Ord w)(hb:1<b)(hk:kind<=3): Calls Tryz.prog 83 #[.pointer (some ⟨b,0,none⟩),.int .i64 (kind:Int)] w (Ij b s most w (Ec s kind p out most)):=by
 have hsm:s.size<=maxLen:=by unfold maxLen;omega
 have hlt:=h.lt;obtain⟨R,hR⟩:∃R,R=Ec s kind p out most:=⟨_,rfl⟩;have HR:Hid (R=Ec s kind p out most):=hR;rw[<-hR];clear hR;unfold Ec at HR;by_cases k0:kind=0
 .have HE:Hid (Gw s p out most=R):=by unfold Hid;rw[HR.out,if_pos k0]
  subst k0;go_enter Tryz.func83,Tryz.ntmps83;go_wp2_with fail;refine(Qg6 b w s p out most R HE.out hs h hp).mono ?_;rintro e w1 hpost;obtain⟨v,rfl,it,hpost⟩:=hpost.val;go_wp2;go_ret;exact hpost
 by_cases k1:kind=1
 .have HE:Hid (Bz Cm Gu s most (8*s.size+1) p out=R):=by unfold Hid;rw[HR.out,if_neg k0,if_pos k1]
  subst k1;obtain⟨v7,h7,hf⟩:=h.fx;have f7:=h.rd.fr 7;rcases hf with rfl|⟨fb,n1,c1,n2,c2,rfl,hc,g0,g1,g2⟩
  .go_enter Tryz.func83,Tryz.ntmps83;go_wp2_with fail;refine(qI w).mono ?_;rintro e w1 ⟨fb,n1,c1,n2,c2,rfl,hc,g0,g1,g2,t1⟩;obtain⟨hin,it,hc2⟩:=h.fix t1 hc (by omega) (by omega) (by omega);have q7:w1.cell? ⟨b,7,none⟩=some (.pointer none):=t1.at h7 (fun e=>e);have p7:w1.frozen? ⟨b,7,none⟩=false:=(t1.frozen (p:=⟨b,7,none⟩) hlt (fun e=>e)).trans f7;go_wp2_with fail;refine(qB b _ s p out most fb n1 c1 n2 c2 _ _ R HE.out hs hin hp hc2 (by omega) (by omega) (by omega) Qaw).mono ?_;rintro e w2 hpost;obtain⟨v,rfl,it2,hpost⟩:=(hpost.from it).val;go_wp2;go_ret;exact hpost
  go_enter Tryz.func83,Tryz.ntmps83;go_wp2_with fail;refine(qB b _ s p out most fb n1 c1 n2 c2 _ _ R HE.out hs h hp hc g0 g1 g2 Qaw).mono ?_;rintro e w2 hpost;obtain⟨v,rfl,it2,hpost⟩:=hpost.val;go_wp2;go_ret;exact hpost
 by_cases k2:kind=2
 .have hh:=HR.out;rw[if_neg k0,if_neg k1,if_pos k2]at hh;subst k2;cases hO:Ox s p with
  |none=>
   rw[hO]at hh;have HE:Hid (R=.inl 1):=hh;have HO:Hid (Ox s p=none):=hO;clear hh hO HR;go_enter Tryz.func83,Tryz.ntmps83;go_wp2_with fail;refine(Qe3 w b s p HO.out hsm h.rd ho hb).mono ?_;rintro e w1 ⟨v,rfl,rn⟩;go_wp2;go_ret;exact⟨IT.Qo rn,by rw[HE.out];rfl⟩
  |some ldq=>
   obtain⟨L,D,q⟩:=ldq;have hle:=uO s p L D q hO;rw[hO]at hh;have HE:Hid (Bz L D s most (8*s.size+1) q out=R):=hh.symm;have HO:Hid (Ox s p=some (L,D,q)):=hO;clear hh hO HR;go_enter Tryz.func83,Tryz.ntmps83;go_wp2_with fail;refine(Qez w b s p L D q HO.out hsm h.rd ho hb).mono ?_;rintro e w1 ⟨fb,n1,c1,n2,c2,rfl,hc,g0,g1,g2,r1,rn⟩;have hin:=h.read r1 rn hle.1;go_wp2_with fail;refine(qB b w1 s q out most fb n1 c1 n2 c2 L D R HE.out hs hin hle.2.1 hc (by omega) (by omega) (by omega) hle.2.2).mono ?_;rintro e w2 hpost;obtain⟨v,rfl,it2,hpost⟩:=(hpost.from (IT.Qo rn)).val;go_wp2;go_ret;exact hpost
 have HE:Hid (R=.inl 1):=by unfold Hid;rw[HR.out,if_neg k0,if_neg k1,if_neg k2]
 obtain rfl:kind=3:=by omega
 go_enter Tryz.func83,Tryz.ntmps83;go_wp2;go_ret;exact⟨IT.refl _ _,by rw[HE.out];rfl⟩
theorem Ord.Qam{b:Nat}{w w':World}(h:Ord w)(ht:IT b w w')(hb:1<b):Ord w':=h.keep ht (by rintro(e|⟨e,_⟩)<;>omega)
theorem Qi3(b:Nat)(w:World)(s:ByteArray)(p v:Nat)(hv:Ea s p=v)(hs:s.size<=maxLen)(h:Rd w b s p): Calls Tryz.prog 81 #[.pointer (some ⟨b,0,none⟩)] w fun e w'=>e=.returned (.int .i64 (v:Int))/\Rd w' b s (p+1)/\RT b w w':=by
 subst hv;exact uF b w s p hs h
theorem rO(b:Nat)(w:World)(s:ByteArray)(kind p:Nat)(out:List UInt8)(most:Nat)(R:Sum Nat (List UInt8×Nat))(hR:Ec s kind p out most=R)(hs:s.size<=2147483648)(h:Inf w b s p out most)(hp:p<=8*s.size)(ho:Ord w)(hb:1<b)(hk:kind<=3): Calls Tryz.prog 83 #[.pointer (some ⟨b,0,none⟩),.int .i64 (kind:Int)] w (Ij b s most w R):=by
 subst hR;exact Qhe b w s kind p out most hs h hp ho hb hk
theorem Qfr(b:Nat)(w:World)(s:ByteArray)(p:Nat)(out:List UInt8)(most:Nat)(hs:s.size<=2147483648)(h:Inf w b s p out most)(hp:p<=8*s.size)(ho:Ord w)(hb:1<b)(f:Nat)(hf:8*s.size+1<=p+f): Calls Tryz.prog 41 #[.pointer (some ⟨b,0,none⟩)] w (Ij b s most w (Bq s most f p out)):=by
 have hsm:s.size<=maxLen:=by unfold maxLen;omega
 obtain⟨R,hR⟩:∃R,R=Bq s most f p out:=⟨_,rfl⟩;have HR0:Hid (R=Bq s most f p out):=hR;rw[<-hR];clear hR;go_enter Tryz.func41,Tryz.ntmps41;go_wp2;go_loopg [] f (fun g wr=>∃p out,Inf wr b s p out most/\p<=8*s.size/\8*s.size+1<=p+g/\IT b w wr/\Hid (R=Bq s most g p out))
 case atStart=>exact⟨p,out,h,hp,hf,IT.refl _ _,HR0⟩
 case round=>
  clear HR0 h hp hf;obtain⟨p,out,hin,hp,hf,hit,HR⟩:=hrel;obtain⟨g,rfl⟩:∃g,gk=g+1:=⟨gk-1,by omega⟩;have hh:=HR.out;unfold Bq at hh;obtain⟨v,hv⟩:∃v,Ea s p=v:=⟨_,rfl⟩;obtain⟨kd,hkd⟩:∃kd,kd=numAt s (p+1) 2:=⟨_,rfl⟩;have bk:=Dl s (p+1) 2;rw[hv,<-hkd]at hh;rw[<-hkd]at bk;have HR':Hid (R=_):=hh;have HV:Hid (Ea s p=v):=hv;have HK:Hid (kd=numAt s (p+1) 2):=hkd;clear hh HR hv hkd;go_wp2_with fail;refine(Qi3 b wr s p v HV.out hsm hin.rd).mono ?_;rintro e w1 ⟨rfl,r1,t1⟩;go_wp2_with fail;refine(Eu b w1 s (p+1) 2 _ rfl (by omega) hsm r1).mono ?_;rintro e w2 ⟨rfl,r2,t2⟩;rw[<-HK.out];have z4:=r2.c4;have RN2:=t1.rn.trans t2.rn;have IT2:=hit.trans (IT.Qo RN2);rw[show p+1+2=p+3 by omega]at z4 r2;by_cases c1:8*s.size<p+3
  .have HE:Hid (R=.inl 1):=by unfold Hid;rw[HR'.out,if_pos c1]
   go_wp2;go_ret;exact⟨IT2,by rw[HE.out];rfl⟩
  have hh:=HR'.out;rw[if_neg c1]at hh;have i2:=hin.read r2 RN2 (by omega);have o2:=ho.Qam IT2 hb;cases hB:Ec s kd (p+3) out most with
  |inl k=>
   have hk0:=Vw s kd (p+3) out most k hB;rw[hB]at hh;have HE:Hid (R=.inl k):=hh;have HB:Hid (Ec s kd (p+3) out most=.inl k):=hB;have hk1:¬k=0:=by omega
   clear hh hB HR';go_wp2_with fail;refine(rO b w2 s kd (p+3) out most _ HB.out hs i2 (by omega) o2 hb (by omega)).mono ?_;rintro e w3 ⟨t3,rfl⟩;go_wp2;go_ret;exact⟨IT2.trans t3,by rw[HE.out];rfl⟩
  |inr oq=>
   obtain⟨o,q⟩:=oq;have hle:=Yj s kd (p+3) out most o q hB;rw[hB]at hh;have HR:Hid (R=if v=1 then .inr (o,q)else Bq s most g q o):=hh;have HB:Hid (Ec s kd (p+3) out most=.inr (o,q)):=hB;clear hh hB HR';by_cases c2:v=1
   .have HE:Hid (R=.inr (o,q)):=(by unfold Hid;rw[HR.out,if_pos c2]);go_wp2_with fail;refine(rO b w2 s kd (p+3) out most _ HB.out hs i2 (by omega) o2 hb (by omega)).mono ?_;rintro e w3 ⟨t3,rfl,i3⟩;go_wp2;go_ret;exact⟨IT2.trans t3,by rw[HE.out];exact⟨rfl,i3⟩⟩
   have HE:Hid (R=Bq s most g q o):=by unfold Hid;rw[HR.out,if_neg c2]
   go_wp2_with fail;refine(rO b w2 s kd (p+3) out most _ HB.out hs i2 (by omega) o2 hb (by omega)).mono ?_;rintro e w3 ⟨t3,rfl,i3⟩;go_wp2;go_roundg g
   case measure=>omega
   case rel=>exact⟨q,o,i3,hle.2,by omega,IT2.trans t3,HE⟩
theorem Yz{W:World}{base cap n:Nat}{ao:Option Addr}{out:List UInt8}(ho:W.ownsRow base 5 1 (.slice ao n cap) n (Dy out))(hn:n=out.length):(convert 114 9 (.slice ao n cap)).run Tryz.prog W=.ok (.string ⟨out.toArray⟩) W:=by
 subst hn;rcases ho.2 with⟨e,h0⟩|⟨g,cap',cur,e,_,_⟩
 .have he:out=[]:=List.eq_nil_of_length_eq_zero h0;subst he;cases e;exact run_convert_bytes_nil W 114 5 Tryz.underlying114 Tryz.underlying5 _ _ 9 Tryz.underlying9
 cases e;have:=run_convert_bytes_arg (P:=Tryz.prog) W 114 5 Tryz.underlying114 Tryz.underlying5 g 0 out.length cap (out.map fun c=>(c.toNat:Int)) (by simp) (by
  intro i hi;rw[Nat.zero_add,ho.cellAt i (by omega)];simp[Dy,hi]) 9 Tryz.underlying9
 have e2:strOfNums (out.map fun c=>(c.toNat:Int))=⟨out.toArray⟩:=by
  unfold strOfNums;have e3:(out.map fun c=>(c.toNat:Int)).map (fun n:Int=>UInt8.ofNat n.toNat)=out:=by
   rw[List.map_map];have:((fun n:Int=>UInt8.ofNat n.toNat) ∘ fun c:UInt8=>(c.toNat:Int))=id:=by funext c;simp
   rw[this,List.map_id]
  rw[e3]
 rw[this,e2]
def Ed(s:ByteArray)(most:Int):Sum Nat (List UInt8×Nat):=Bq s (max most 0).toNat (8*s.size+1) 0 []
def He(r:Sum Nat (List UInt8×Nat)):Value:=
 match r with
 |.inl k=>.tuple #[.string ⟨#[]⟩,.int .i64 0,.int .i64 (k:Int)]
 |.inr (out,q)=>.tuple #[.string ⟨out.toArray⟩,.int .i64 (((q+7)/8:Nat):Int),.int .i64 0]
theorem Qz(s:ByteArray)(most:Nat):∀f p out o q,Bq s most f p out=.inr (o,q)->q<=8*s.size
 |0,p,out,o,q,h=>by simp[Bq]at h
 |f+1,p,out,o,q,h=>by
  unfold Bq at h;by_cases c1:8*s.size<p+3;.rw[if_pos c1]at h;cases h
  rw[if_neg c1]at h;cases hB:Ec s (numAt s (p+1) 2) (p+3) out most with
  |inl k=>rw[hB]at h;cases h
  |inr oq=>
   obtain⟨o1,q1⟩:=oq;rw[hB]at h;have hle:=Yj _ _ _ _ _ _ _ hB;change(if Ea s p=1 then _ else _)=_ at h;by_cases c2:Ea s p=1
   .rw[if_pos c2]at h;simp only[Sum.inr.injEq,Prod.mk.injEq]at h;omega
   rw[if_neg c2]at h;exact Qz s most f _ _ o q h
theorem Pm(s:ByteArray)(most:Nat):∀f p out k,Bq s most f p out=.inl k->k=1\/k=2
 |0,p,out,k,h=>by simp only[Bq,Sum.inl.injEq]at h;omega
 |f+1,p,out,k,h=>by
  unfold Bq at h;by_cases c1:8*s.size<p+3;.rw[if_pos c1]at h;simp only[Sum.inl.injEq]at h;omega
  rw[if_neg c1]at h;cases hB:Ec s (numAt s (p+1) 2) (p+3) out most with
  |inl k'=>rw[hB]at h;simp only[Sum.inl.injEq]at h;subst h;exact Vw _ _ _ _ _ _ hB
  |inr oq=>
   obtain⟨o1,q1⟩:=oq;rw[hB]at h;change(if Ea s p=1 then _ else _)=_ at h;by_cases c2:Ea s p=1;.rw[if_pos c2]at h;cases h
   rw[if_neg c2]at h;exact Pm s most f _ _ k h
theorem Qf8(w:World)(s:ByteArray)(M:Nat)(hM:M<=9223372036854775807):Inf (w.alloc (.cells #[.string s,.int .i64 0,.int .u8 0,.int .i64 0,.bool false,.slice none 0 0,.int .i64 (M:Int),.pointer none] 117)) w.heap.size s 0 [] M:=by
 have hc:∀j,(w.alloc (.cells #[.string s,.int .i64 0,.int .u8 0,.int .i64 0,.bool false,.slice none 0 0,.int .i64 (M:Int),.pointer none] 117)).cell? ⟨w.heap.size,j,none⟩=#[Value.string s,.int .i64 0,.int .u8 0,.int .i64 0,.bool false,.slice none 0 0,.int .i64 (M:Int),.pointer none][j]?:=fun j=>Ac (heap_alloc_new w _) j;refine⟨⟨?_,?_,⟨0,by omega,?_,?_⟩,?_,?_,?_⟩,⟨none,0,?_,World.ownsRow_nil _ _ _ _⟩,?_,⟨_,?_,Or.inl rfl⟩,Nat.zero_le _,Nat.zero_le _,hM⟩;.rw[hc];rfl
 .rw[hc];simp
 .rw[hc];rfl
 .intro _ h;omega
 .rw[hc];simp
 .rw[hc];simp
 .intro o;exact Ew (heap_alloc_new w _) o
 .rw[hc];rfl
 .rw[hc];rfl
 rw[hc];rfl
theorem Yw(b:Nat)(w:World)(s:ByteArray)(p:Nat)(out:List UInt8)(most:Nat)(R:Sum Nat (List UInt8×Nat))(hR:Bq s most (8*s.size+1) p out=R)(hs:s.size<=2147483648)(h:Inf w b s p out most)(hp:p<=8*s.size)(ho:Ord w)(hb:1<b): Calls Tryz.prog 41 #[.pointer (some ⟨b,0,none⟩)] w (Ij b s most w R):=by
 subst hR;exact Qfr b w s p out most hs h hp ho hb _ (by omega)
theorem dB(w:World)(s:ByteArray)(most:Int)(hm:most<=9223372036854775807)(hs:s.size<=2147483648)(ho:Ord w)(hb:1<w.heap.size): Calls Tryz.prog 19 #[.string s,.int .i64 most] w fun e w'=>e=.returned (He (Ed s most))/\Below w.heap.size w w':=by
 obtain⟨M,hM⟩:∃M:Nat,(max most 0)=(M:Int):=⟨(max most 0).toNat,by omega⟩;have hM2:M<=9223372036854775807:=by omega
 have hmm:(max most 0).toNat=M:=by omega
 have hin:=Qf8 w s M hM2;have hdo:Touch (fun _=>False) w (w.alloc (.cells #[.string s,.int .i64 0,.int .u8 0,.int .i64 0,.bool false,.slice none 0 0,.int .i64 (M:Int),.pointer none] 117)):=(Touch.refl _ w).alloc _;obtain⟨R,hR⟩:∃R,R=Ed s most:=⟨_,rfl⟩;have HB:Hid (R=Bq s M (8*s.size+1) 0 []):=by unfold Hid;rw[hR];unfold Ed;rw[hmm]
 rw[<-hR];clear hR hmm;have fin:∀w',IT w.heap.size (w.alloc (.cells #[.string s,.int .i64 0,.int .u8 0,.int .i64 0,.bool false,.slice none 0 0,.int .i64 (M:Int),.pointer none] 117)) w'->Below w.heap.size w w':=fun w' it=>
  ((Below.refl _ w).alloc (Nat.le_refl _) _).trans (it.toBelow (by simp) (fun k hk e=>by rcases e with e|⟨e,_⟩<;>omega))
 have o1:Ord (w.alloc (.cells #[.string s,.int .i64 0,.int .u8 0,.int .i64 0,.bool false,.slice none 0 0,.int .i64 (M:Int),.pointer none] 117)):=ho.keep hdo (fun e=>e);by_cases h0:0<=most
 .have hx:most=(M:Int):=by omega
  subst hx;clear hM;cases hRR:R with
  |inl k=>
   have HE:Hid (Bq s M (8*s.size+1) 0 []=.inl k):=by unfold Hid;rw[<-HB.out,hRR]
   have hk:=Pm _ _ _ _ _ _ HE.out;have hk0:¬k=0:=by omega
   clear hRR;go_enter Tryz.func19,Tryz.ntmps19;go_wp2_with fail;refine(Yw w.heap.size _ s 0 [] M _ HE.out hs hin (Nat.zero_le _) o1 hb).mono ?_;rintro e w1 ⟨it,rfl⟩;have F1:=fin w1 it;go_wp2;go_ret3;exact⟨rfl,F1⟩
  |inr oq=>
   obtain⟨out,q⟩:=oq;have HE:Hid (Bq s M (8*s.size+1) 0 []=.inr (out,q)):=by unfold Hid;rw[<-HB.out,hRR]
   have hq:=Qz _ _ _ _ _ _ _ HE.out;clear hRR;go_enter Tryz.func19,Tryz.ntmps19;go_wp2_with fail;refine(Yw w.heap.size _ s 0 [] M _ HE.out hs hin (Nat.zero_le _) o1 hb).mono ?_;rintro e w1 ⟨it,rfl,i1⟩;have F1:=fin w1 it;obtain⟨ao,cap,g5,gO⟩:=i1.gv;have g1:=i1.rd.c1;rw[show min s.size ((q+7)/8)=(q+7)/8 by omega]at g1;have cv:∀W:World,W.heap=w1.heap->(convert 114 9 (.slice ao out.length cap)).run Tryz.prog W=.ok (.string ⟨out.toArray⟩) W:=fun W hW=>Yz (base:=w.heap.size+1) (by unfold World.ownsRow at gO ⊢;rw[hW];exact gO) rfl;have cv1:=cv w1 rfl;have cv2:=cv w1.drew rfl;clear it i1;obtain⟨t,ht⟩:∃t,t=(q+7)/8:=⟨_,rfl⟩;rw[<-ht]at g1;have HT:Hid (t=(q+7)/8):=ht;clear ht hq;go_wp2;go_region;all_goals go_wp2
   all_goals go_ret3
   all_goals
    have e1:He (.inr (out,q))=.tuple #[.string ⟨out.toArray⟩,.int .i64 (t:Int),.int .i64 0]:=(by rw[HT.out];rfl);rw[e1];exact⟨rfl,F1.drew⟩
 obtain rfl:M=0:=by omega
 clear hM;cases hRR:R with
 |inl k=>
  have HE:Hid (Bq s 0 (8*s.size+1) 0 []=.inl k):=by unfold Hid;rw[<-HB.out,hRR]
  have hk:=Pm _ _ _ _ _ _ HE.out;have hk0:¬k=0:=by omega
  clear hRR;go_enter Tryz.func19,Tryz.ntmps19;go_wp2_with fail;refine(Yw w.heap.size _ s 0 [] 0 _ HE.out hs hin (Nat.zero_le _) o1 hb).mono ?_;rintro e w1 ⟨it,rfl⟩;have F1:=fin w1 it;go_wp2;go_ret3;exact⟨rfl,F1⟩
 |inr oq=>
  obtain⟨out,q⟩:=oq;have HE:Hid (Bq s 0 (8*s.size+1) 0 []=.inr (out,q)):=by unfold Hid;rw[<-HB.out,hRR]
  have hq:=Qz _ _ _ _ _ _ _ HE.out;clear hRR;go_enter Tryz.func19,Tryz.ntmps19;go_wp2_with fail;refine(Yw w.heap.size _ s 0 [] 0 _ HE.out hs hin (Nat.zero_le _) o1 hb).mono ?_;rintro e w1 ⟨it,rfl,i1⟩;have F1:=fin w1 it;obtain⟨ao,cap,g5,gO⟩:=i1.gv;have g1:=i1.rd.c1;rw[show min s.size ((q+7)/8)=(q+7)/8 by omega]at g1;have cv:∀W:World,W.heap=w1.heap->(convert 114 9 (.slice ao out.length cap)).run Tryz.prog W=.ok (.string ⟨out.toArray⟩) W:=fun W hW=>Yz (base:=w.heap.size+1) (by unfold World.ownsRow at gO ⊢;rw[hW];exact gO) rfl;have cv1:=cv w1 rfl;have cv2:=cv w1.drew rfl;clear it i1;obtain⟨t,ht⟩:∃t,t=(q+7)/8:=⟨_,rfl⟩;rw[<-ht]at g1;have HT:Hid (t=(q+7)/8):=ht;clear ht hq;go_wp2;go_region;all_goals go_wp2
  all_goals go_ret3
  all_goals
   have e1:He (.inr (out,q))=.tuple #[.string ⟨out.toArray⟩,.int .i64 (t:Int),.int .i64 0]:=by rw[HT.out];rfl
   rw[e1];exact⟨rfl,F1.drew⟩
def Yh(s:ByteArray)(A:Int)(x y:UInt8):Bool:=decide (0<=A)&&decide (A<=(s.size:Int)-4)&&(s.extract A.toNat (A.toNat+4)==⟨#[80,75,x,y]⟩)
theorem Qjb(W:World)(x y:UInt8):(convert 114 9 (.slice (some ⟨W.heap.size,0,none⟩) 2 2)).run Tryz.prog (W.alloc (.cells #[.int .u8 (x.toNat:Int),.int .u8 (y.toNat:Int)] 5))=.ok (.string ⟨#[x,y]⟩) (W.alloc (.cells #[.int .u8 (x.toNat:Int),.int .u8 (y.toNat:Int)] 5)):=by
 have ho:(W.alloc (.cells #[.int .u8 (x.toNat:Int),.int .u8 (y.toNat:Int)] 5)).ownsRow 0 5 1 (.slice (some ⟨W.heap.size,0,none⟩) 2 2) 2 (Dy [x,y]):=by
  refine⟨rfl,.inr ⟨W.heap.size,2,_,rfl,Nat.zero_le _,heap_alloc_new W _,Nat.le_refl _,by unfold maxLen;omega,rfl,rfl⟩⟩
 exact Yz ho rfl
theorem Qbs(w:World)(s:ByteArray)(A:Int)(x y:UInt8)(X Y:Int)(hX:X=(x.toNat:Int))(hY:Y=(y.toNat:Int))(hs:s.size<=140737488355328)(hA:-4611686018427387904<=A/\A<=4611686018427387904)(hout:A<0\/(s.size:Int)-4<A): Calls Tryz.prog 223 #[.string s,.int .i64 A,.int .u8 X,.int .u8 Y] w fun e w'=>e=.returned (.bool (Yh s A x y))/\Touch (fun _=>False) w w':=by
 subst hX hY;by_cases h0:A<0
 .have HE:Hid (Yh s A x y=false):=by unfold Hid Yh;rw[decide_eq_false (by omega)];rfl
  have d0:¬0<=A:=by omega
  have d1:decide (0<=A)=false:=by simp;omega
  go_enter Tryz.func223,Tryz.ntmps223;go_wp2;go_region;all_goals
   go_wp2;go_ret;exact⟨by rw[HE.out];rfl,(Touch.refl _ w).drew⟩
 by_cases h1:(s.size:Int)-4<A
 .have HE:Hid (Yh s A x y=false):=by
   unfold Hid Yh;rw[decide_eq_true (show 0<=A by omega),decide_eq_false (by omega)];rfl
  have d0:0<=A:=by omega
  have d1:decide (0<=A)=true:=by simp;omega
  have d2:¬A<=(s.size:Int)-4:=by omega
  have d3:decide (A<=(s.size:Int)-4)=false:=by simp;omega
  go_enter Tryz.func223,Tryz.ntmps223;go_wp2;go_region;all_goals
   go_wp2;go_ret;exact⟨by rw[HE.out];rfl,(Touch.refl _ w).drew⟩
 omega
end Go.Proofs.YtmhlkdlcpicekaaGreatDoor
