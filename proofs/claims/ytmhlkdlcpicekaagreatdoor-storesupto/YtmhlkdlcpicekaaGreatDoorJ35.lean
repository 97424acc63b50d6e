/- Joined. -/
import Derived.Test.YtmhlkdlcpicekaaGreatDoorJ06
import Derived.Test.YtmhlkdlcpicekaaGreatDoorJ34
set_option linter.unusedSimpArgs false
set_option linter.unusedVariables false
set_option maxRecDepth 100000
set_option maxHeartbeats 20000000
namespace Go.Proofs.YtmhlkdlcpicekaaGreatDoor
open Go.RowKit
def Jk(b:Nat)(s:ByteArray)(M:Int)(w:World)(r:Sum Nat (List UInt8×Nat))(w':World):Prop:=
 IT b w w'/\match r with
 |.inl k=>w'.cell? ⟨b,4,none⟩=some (.int .i64 (k:Int))
 |.inr (out,q)=>Ref w' b s q out M
theorem RB.at{w:World}{b:Nat}{s:ByteArray}{p:Nat}(h:RB w b s p)(hp:p<=8*s.size):w.cell? ⟨b,1,none⟩=some (.int .i64 (p:Int)):=by
 have:=h.c1;rw[Nat.min_eq_left hp]at this;exact this
def Qbh(w:World)(b:Nat):Nat:=match w.cell? ⟨b,1,none⟩with|some (.int _ n)=>n.toNat|_=>0
theorem RB.Qbh{w:World}{b:Nat}{s:ByteArray}{p:Nat}(h:RB w b s p)(hp:p<=8*s.size):Qbh w b=p:=by
 unfold Proofs.YtmhlkdlcpicekaaGreatDoor.Qbh;rw[h.at hp];simp
theorem RB.Qd9{w:World}{b:Nat}{s:ByteArray}{p q:Nat}(h:RB w b s p)(hp:p<=8*s.size)(hq:q<=8*s.size):RB (w.setCell ⟨b,1,none⟩ (.int .i64 (q:Int))) b s q:=by
 refine⟨?_,?_,?_,?_⟩;.rw[Aq (by omega)];exact h.c0
 .rw[Nat.min_eq_left hq];simp[Ad,h.c1]
 .rw[Aq (by omega),if_pos hq];have:=h.c4;rw[if_pos hp]at this;exact this
 intro o;rw[World.frozen?_setCell];exact h.fr o
theorem num8(s:ByteArray)(k:Nat)(hk:k<s.size):numAt s (8*k) 8=s[k].toNat:=by
 have b:=s[k].toNat_lt;simp only[numAt,Ko s k _ hk (show 0<8 by omega),Ko s k _ hk (show 1<8 by omega),Ko s k _ hk (show 2<8 by omega),Ko s k _ hk (show 3<8 by omega),Ko s k _ hk (show 4<8 by omega),Ko s k _ hk (show 5<8 by omega),Ko s k _ hk (show 6<8 by omega),Ko s k _ hk (show 7<8 by omega)];generalize s[k].toNat=x at *;omega
theorem Qc9(s:ByteArray)(k i:Nat)(h:k+i<s.size):(s.data.toList.drop k).take (i+1)=(s.data.toList.drop k).take i++[s[k+i]]:=by
 have e:s.data.toList.length=s.size:=Array.length_toList;rw[List.take_succ_eq_append_getElem (by rw[List.length_drop];omega)];simp[ByteArray.getElem_eq_getElem_data]
theorem Es(w:World)(b:Nat)(s:ByteArray)(p n v:Nat)(N:Int)(hN:N=(n:Int))(hv:v=numAt s p n)(hn:n<=16)(hs:s.size<=2147483648)(h:RB w b s p): Calls Tryz.prog 148 #[.pointer (some ⟨b,0,none⟩),.int .i64 N] w fun e w'=>e=.returned (.int .i64 (v:Int))/\RB w' b s (p+n)/\BT b w w':=by
 subst hN hv;exact Qbm w b s p n hn hs h
theorem dH(b:Nat)(w:World)(s:ByteArray)(p:Nat)(out:List UInt8)(M:Int)(c:UInt8)(C:Int)(hC:C=(c.toNat:Int))(h:Ref w b s p out M)(hp:p<=8*s.size)(hs:s.size<=2147483648)(hroom:(out.length:Int)<M)(hfew:out.length+1<=258*p): Calls Tryz.prog 218 #[.pointer (some ⟨b,0,none⟩),.int .u8 C] w fun e w'=>e=.returned (.tuple #[])/\Ref w' b s p (out++[c]) M/\IT b w w':=by
 subst hC;exact Qg7 b w s p out M c h hp hs hroom hfew
theorem Qgl(b:Nat)(w:World)(e c:Int)(h4:w.cell? ⟨b,4,none⟩=some (.int .i64 e))(he:e≠0): Calls Tryz.prog 218 #[.pointer (some ⟨b,0,none⟩),.int .u8 c] w fun e w'=>e=.returned (.tuple #[])/\∃n,w'=w.drewN n:=by
 have he':(e==0)=false:=by simp;omega
 go_enter Tryz.func218,Tryz.ntmps218;go_wp2;go_quiet (fail);go_wp2;go_end0;exact⟨rfl,_,rfl⟩
theorem Qdt(b:Nat)(w:World)(s:ByteArray)(p:Nat)(out:List UInt8)(M:Int)(hs:s.size<=2147483648)(h:Ref w b s p out M)(hp:p<=8*s.size): Calls Tryz.prog 149 #[.pointer (some ⟨b,0,none⟩)] w fun e w'=>e=.returned (.tuple #[])/\Jk b s M w (Gw s p out (max M 0).toNat) w':=by
 obtain⟨R,hR⟩:∃R,R=Gw s p out (max M 0).toNat:=⟨_,rfl⟩;have HR:Hid (R=Gw s p out (max M 0).toNat):=hR;rw[<-hR];clear hR;obtain⟨most,hmost⟩:∃most,most=(max M 0).toNat:=⟨_,rfl⟩;rw[<-hmost]at HR;unfold Gw at HR;obtain⟨k0,hk0⟩:∃k0,k0=(p+7)/8:=⟨_,rfl⟩;obtain⟨n,hn⟩:∃n,n=numAt s (8*k0) 16:=⟨_,rfl⟩;obtain⟨m,hm⟩:∃m,m=numAt s (8*k0+16) 16:=⟨_,rfl⟩;have bn:=Dl s (8*k0) 16;have bm:=Dl s (8*k0+16) 16;rw[<-hk0,<-hn,<-hm]at HR;rw[<-hn]at bn;rw[<-hm]at bm;have pk:p<=8*k0:=by omega
 have kp:8*k0<=p+7:=by omega
 have k8:8*k0<=8*s.size:=by omega
 have HN:Hid (n=numAt s (8*k0) 16):=hn;have HM:Hid (m=numAt s (8*k0+16) 16):=hm;clear hn hm hk0;go_enter Tryz.func149,Tryz.ntmps149;go_wp2;go_loopw [] (fun wr=>∃q,p<=q/\q<=8*k0/\RB wr b s q/\BT b w wr) (fun wr=>8*k0-Qbh wr b)
 case atStart=>exact⟨p,by omega,pk,h.rb,BT.refl _ _⟩
 case round=>
  obtain⟨q,q1,q2,hrb,hbt⟩:=hrel;have hc1:=hrb.at (by omega);have hf1:=hrb.fr 1;by_cases hq:q=8*k0
  .subst hq;have e1:(8*(k0:Int))%8=0:=by omega
   go_wp2_with fail;refine(Es wr b s (8*k0) 16 n _ rfl HN.out (by omega) hs hrb).mono ?_;rintro e w2 ⟨rfl,r2,t2⟩;go_wp2_with fail;refine(Es w2 b s (8*k0+16) 16 m _ rfl HM.out (by omega) hs r2).mono ?_;rintro e w3 ⟨rfl,r3,t3⟩;have T3:=(hbt.trans t2).trans t3;have ref3:=h.read r3 T3 (by omega);clear hbt t2 t3 hrb r2 hc1 hf1;by_cases c2:8*s.size<8*k0+32
   .have HE:Hid (R=.inl 1):=(by unfold Hid;rw[HR.out,if_pos (Or.inl c2)]);have h4:=r3.one (by omega);go_wp2;go_loopw [4] (fun i wr=>∃i':Nat,i=.int .i64 (i':Int)/\wr=w3) (fun _ _=>0)
    case atStart=>exact⟨0,rfl,rfl⟩
    case round=>
     obtain⟨i',rfl,rfl⟩:=hrel;go_wp2;all_goals
      go_end0;exact⟨rfl,IT.Qp T3,by rw[HE.out];exact h4⟩
   have c2':8*k0+16+16<=8*s.size:=by omega
   have h4:=r3.zero c2';have f4:=r3.fr 4;by_cases c3:m=65535-n
   .have c3':((m:Int) != 65535-(n:Int))=false:=(by simp;omega);obtain⟨k,hk⟩:∃k,k=k0+4:=⟨_,rfl⟩;have hh:=HR.out;rw[if_neg (by omega),<-hk]at hh;have HR':Hid (R=_):=hh;clear HR hh;rw[show 8*k0+16+16=8*k by omega]at ref3;have hfew:=ref3.few;have kle:k<=s.size:=(by omega);clear c3;go_wp2;go_loopw [4] (fun i wr=>∃i':Nat,i'<=n/\i=.int .i64 (i':Int)/\IT b w wr/\(Ref wr b s (8*(k+i')) (out++(s.data.toList.drop k).take i') M/\i'<=s.size-k/\i'<=most-out.length\/∃e:Nat,1<=e/\Hid (R=.inl e)/\wr.cell? ⟨b,4,none⟩=some (.int .i64 (e:Int)))) (fun i _=>n-(intOf i).toNat)
    case atStart=>exact⟨0,by omega,rfl,IT.Qp T3,Or.inl ⟨by simpa using ref3,by omega,by omega⟩⟩
    case round=>
     clear T3 ref3 h4 f4 r3;obtain⟨i,hin,rfl,hit,hst⟩:=hrel;have len:((s.data.toList.drop k).take i).length<=i:=List.length_take_le _ _;rcases hst with⟨ref,i1,i2⟩|⟨e,he,HE,h4⟩
     .have len2:=take_len s k i (by omega);have rl:(out++(s.data.toList.drop k).take i).length=out.length+i:=(by rw[List.length_append,len2]);have h4:=ref.rb.zero (by omega);by_cases hlt:i<n
      .obtain⟨v,hv⟩:∃v,v=numAt s (8*(k+i)) 8:=⟨_,rfl⟩;have bv:=Dl s (8*(k+i)) 8;rw[<-hv]at bv;have bv':v<256:=bv;have HV:Hid (v=numAt s (8*(k+i)) 8):=hv;by_cases hin2:k+i<s.size
       .have hc:(v:Int)=(s[k+i].toNat:Int):=(by rw[hv,num8 s (k+i) hin2]);have HC:Hid ((v:Int)=(s[k+i].toNat:Int)):=hc;clear hv hc bv;by_cases hroom:((out.length+i:Nat):Int)<M
        .go_wp2_with (first|(go_at_call 148;refine(Es wr b s (8*(k+i)) 8 v _ rfl HV.out (by omega) hs ref.rb).mono ?_;rintro e w4 ⟨rfl,r4,t4⟩;have ref4:=ref.read r4 t4 (by omega))|(go_at_call 218;refine(dH b w4 s _ _ M s[k+i] _ HC.out ref4 (by omega) hs (by rw[rl];exact hroom) (by rw[rl];omega)).mono ?_;rintro e w5 ⟨rfl,ref5,t5⟩));go_roundw
         case rel=>
          refine⟨i+1,by omega,by go_num,(hit.trans (IT.Qp t4)).trans t5,Or.inl ⟨?_,by omega,by omega⟩⟩;rw[Qc9 s k i hin2,<-List.append_assoc,show 8*(k+(i+1))=8*(k+i)+8 by omega];exact ref5
         case measure=>simp[intOf];omega
        have HE:Hid (R=.inl 2):=(by unfold Hid;rw[HR'.out,if_neg (by omega),if_neg (by omega)]);go_wp2_with (first|(go_at_call 148;refine(Es wr b s (8*(k+i)) 8 v _ rfl HV.out (by omega) hs ref.rb).mono ?_;rintro e w4 ⟨rfl,r4,t4⟩;have ref4:=ref.read r4 t4 (by omega))|(go_at_call 218;refine(dD b w4 s _ _ M _ ref4 (by omega) (by rw[rl];omega)).mono ?_;rintro e w5 ⟨rfl,h5,t5⟩));go_roundw
        case rel=>exact⟨i+1,by omega,by go_num,(hit.trans (IT.Qp t4)).trans t5,Or.inr ⟨2,by omega,HE,h5⟩⟩
        case measure=>simp[intOf];omega
       have HE:Hid (R=.inl 1):=(by unfold Hid;rw[HR'.out,if_neg (by omega),if_pos (by omega)]);clear hv bv;go_wp2_with (first|(go_at_call 148;refine(Es wr b s (8*(k+i)) 8 v _ rfl HV.out (by omega) hs ref.rb).mono ?_;rintro e w4 ⟨rfl,r4,t4⟩;have h5:=r4.one (by omega))|(go_at_call 218;refine(Qgl b w4 1 _ h5 (by decide)).mono ?_;rintro e w5 ⟨rfl,d5,rfl⟩));go_roundw
       case rel=>exact⟨i+1,by omega,by go_num,(hit.trans (IT.Qp t4)).drewN _,Or.inr ⟨1,by omega,HE,h5⟩⟩
       case measure=>simp[intOf];omega
      obtain rfl:i=n:=by omega
      have HE:Hid (R=.inr (out++(s.data.toList.drop k).take i,8*(k+i))):=(by unfold Hid;rw[HR'.out,if_pos ⟨i1,i2⟩]);go_wp2;go_end0;exact⟨rfl,hit,by rw[HE.out];exact ref⟩
     have e0:((e:Int)==0)=false:=(by simp;omega);go_wp2;all_goals
      go_end0;exact⟨rfl,hit,by rw[HE.out];exact h4⟩
   have c3':¬(m:Int)=65535-(n:Int):=by omega
   have HE:Hid (R=.inl 1):=by unfold Hid;rw[HR.out,if_pos (Or.inr c3)]
   have h4':(w3.setCell ⟨b,4,none⟩ (.int .i64 1)).cell? ⟨b,4,none⟩=some (.int .i64 1):=by simp[Ad,h4]
   go_wp2_with (go_at_call 153;refine(Ru _ b 1 h4 f4).mono ?_;rintro e w4 ⟨rfl,rfl⟩);go_loopw [4] (fun i wr=>∃i':Nat,i=.int .i64 (i':Int)/\wr=w3.setCell ⟨b,4,none⟩ (.int .i64 1)) (fun _ _=>0)
   case atStart=>exact⟨0,rfl,rfl⟩
   case round=>
    obtain⟨i',rfl,rfl⟩:=hrel;go_wp2;all_goals
     go_end0;exact⟨rfl,IT.Qp (T3.set 4 (Or.inr rfl) _),by rw[HE.out];exact h4'⟩
  have e1:¬(q:Int)%8=0:=by omega
  go_wp2;go_roundw
  case rel=>
   have e2:(q:Int)+1=((q+1:Nat):Int):=by omega
   rw[e2];exact⟨q+1,by omega,by omega,hrb.Qd9 (by omega) (by omega),hbt.set 1 (Or.inl rfl) _⟩
  case measure=>
   have e2:(q:Int)+1=((q+1:Nat):Int):=by omega
   rw[e2,(hrb.Qd9 (q:=q+1) (by omega) (by omega)).Qbh (by omega),hrb.Qbh (by omega)];omega
theorem xA(out:List UInt8)(place d m:Nat)(hd:0<d)(hp:place+d=out.length)(h:place+m<(Cf out place d m).length):Cf out place d m++[(Cf out place d m)[place+m]]=Cf out place d (m+1):=by
 have e:(Cf out place d m)[place+m]=out.getD (place+m%d) 0:=by
  have h1:(Cf out place d m)[place+m]=(Cf out place d m).getD (place+m) 0:=by
   rw[List.getD_eq_getElem?_getD,List.getElem?_eq_getElem h];rfl
  rw[h1];unfold Cf;by_cases hm:m<d
  .rw[Nat.mod_eq_of_lt hm];simp[List.getElem?_append_left (show place+m<out.length by omega)]
  have e:place+m=out.length+(m-d):=by omega
  rw[e,List.getD_eq_getElem?_getD,List.getElem?_append_right (by omega)];simp only[Nat.add_sub_cancel_left,rep,List.getElem?_map,List.getElem?_range (show m-d<m by omega)];simp only[Option.map_some,Option.getD_some];rw[show(m-d)%d=m%d by rw[Nat.mod_eq_sub_mod (show m ≥ d by omega)]]
 rw[e];unfold Cf rep;rw[List.range_succ,List.map_append,List.append_assoc];rfl
theorem wI(out:List UInt8)(place d:Nat):Cf out place d 0=out:=by simp[Cf,rep]
theorem Ref.drew{w:World}{b:Nat}{s:ByteArray}{p:Nat}{out:List UInt8}{M:Int}(h:Ref w b s p out M):Ref w.drew b s p out M:=
 h.read ⟨h.rb.c0,h.rb.c1,h.rb.c4,h.rb.fr⟩ ((BT.refl b w).drewN 1) (Nat.le_refl _)
theorem mJ(s:ByteArray)(p y:Nat)(h:y<=30):Be s p y 2=(Tn 2 y+numAt s p (y/2-1),p+(y/2-1)):=by
 have:=Qik ⟨y,by omega⟩;simp only at this;unfold Be;by_cases h1:y<2*2
 .rw[if_pos h1]at this ⊢;rw[this,show y/2-1=0 by omega];rfl
 rw[if_neg h1]at this ⊢;rw[this]
theorem Qcf(s:ByteArray)(p y:Nat)(h:y<=30):Be s p y 4=(Tn 4 y+numAt s p (y/4-1),p+(y/4-1)):=by
 have:=Qiq ⟨y,by omega⟩;simp only at this;unfold Be;by_cases h1:y<2*4
 .rw[if_pos h1]at this ⊢;rw[this,show y/4-1=0 by omega];rfl
 rw[if_neg h1]at this ⊢;rw[this]
theorem Ht(w:World)(b base:Nat)(s:ByteArray)(p:Nat)(L:List Nat)(v:Value)(R:Option (Nat×Nat))(hR:dec L s p=R)(hL:L.length<=400)(hs:s.size<=2147483648)(h:RB w b s p)(ho:w.ownsRow base 325 3 v (Dh L 16).length (flat3 (Dh L 16)))(hne:∀k,v.ownBlock=some k->k≠b): Calls Tryz.prog 221 #[.pointer (some ⟨b,0,none⟩),v] w (tJ b s w R):=by
 subst hR;exact Qhk w b base s p L v hL hs h ho hne
theorem Qfx(w:World)(n A B:Nat)(N:Int)(hN:N=(n:Int))(hn:n<=30)(HA:Hid (A=3+Tn 4 n))(HB:Hid (B=n/4-1)): Calls Tryz.prog 251 #[.int .i64 N,.int .i64 4,.int .i64 3] w fun e w'=>e=.returned (.tuple #[.int .i64 (A:Int),.int .i64 (B:Int)])/\w=w':=by
 subst hN;exact Qhq w n A B hn HA HB
theorem Qcm(b:Nat)(w:World)(s:ByteArray)(q:Nat)(out:List UInt8)(M:Int)(x base:Nat)(v:Value)(D:List Nat)(hs:s.size<=2147483648)(h:Ref w b s q out M)(hx:257<=x)(hx2:x<=285)(ho:w.ownsRow base 325 3 v (Dh D 16).length (flat3 (Dh D 16)))(hne:∀k,v.ownBlock=some k->k≠b)(hD:D.length<=400)(hfew:out.length+258<=258*q): Calls Tryz.prog 222 #[.pointer (some ⟨b,0,none⟩),.int .i64 (x:Int),v] w fun e w'=>e=.returned (.tuple #[])/\Jk b s M w (Di D s q out (max M 0).toNat x) w':=by
 obtain⟨R,hR⟩:∃R,R=Di D s q out (max M 0).toNat x:=⟨_,rfl⟩;have HR:Hid (R=Di D s q out (max M 0).toNat x):=hR;rw[<-hR];clear hR;obtain⟨most,hmost⟩:∃most,most=(max M 0).toNat:=⟨_,rfl⟩;rw[<-hmost]at HR;unfold Di at HR;have hh:=HR.out;rw[if_neg (by omega)]at hh;have HR':Hid (R=_):=hh;clear HR hh;obtain⟨ao,kc,rfl⟩:=Jq ho;obtain⟨m,hm⟩:∃m,m=(Dh D 16).length:=⟨_,rfl⟩;have HM:Hid (m=(Dh D 16).length):=hm;rw[<-hm]at ho hne ⊢;clear hm;go_enter Tryz.func222,Tryz.ntmps222;have start:∃n q1,lengthOf s q x=(n,q1)/\3<=n/\n<=258/\q<=q1:=by
  by_cases c2:x=285;.exact⟨258,q,by unfold lengthOf;rw[if_pos c2],by omega,by omega,Nat.le_refl _⟩
  have b4:=Zj s q (x-257) (by omega);have l4:=Lh s q (x-257) 4;exact⟨_,_,by unfold lengthOf;rw[if_neg c2],by omega,by omega,l4⟩
 obtain⟨n,q1,hL,n3,n258,q01⟩:=start;have HL:Hid (lengthOf s q x=(n,q1)):=hL;clear hL;by_cases c2:x=285
 case' pos=>
  have HN:Hid (258=n/\q=q1):=by
   have:=HL.out;unfold lengthOf at this;rw[if_pos c2]at this;cases this;exact⟨rfl,rfl⟩
  have hn:(258:Int)=(n:Int):=by have:=HN.out.1;omega
  go_wp2_with fail;rw[hn];have r1:RB w b s q1:=by rw[<-HN.out.2];exact h.rb
  have t1:=BT.refl b w;clear hn
 case' neg=>
  obtain⟨A,hA⟩:∃A,A=3+Tn 4 (x-257):=⟨_,rfl⟩;obtain⟨B,hB⟩:∃B,B=(x-257)/4-1:=⟨_,rfl⟩;obtain⟨V,hV⟩:∃V,V=numAt s q B:=⟨_,rfl⟩;have HN:Hid (A+V=n/\q+B=q1):=by
   have:=HL.out;unfold lengthOf at this;rw[if_neg c2,Qcf _ _ _ (by omega),<-hB,<-hV]at this;cases this;exact⟨by omega,rfl⟩
  have B5:B<=5:=by omega
  have HA:Hid (A=3+Tn 4 (x-257)):=hA;have HB:Hid (B=(x-257)/4-1):=hB;have HV:Hid (V=numAt s q B):=hV;have AV:A+V<=258:=by have:=HN.out;omega
  have hn:(A:Int)+(V:Int)=(n:Int):=by have:=HN.out.1;omega
  clear hA hB hV;go_wp2_with fail;refine(Qfx w (x-257) A B _ (by omega) (by omega) HA HB).mono ?_;rintro e w1 ⟨rfl,rfl⟩;go_wp2_with fail;refine(Es w b s q B V _ rfl HV.out (by omega) hs h.rb).mono ?_;rintro e w1 ⟨rfl,r1,t1⟩;rw[HN.out.2]at r1;go_wp2_with fail;clear hn
 all_goals
  have o1:=t1.owns ho hne;rw[HM.out]at o1 hne ⊢;cases hd:dec D s q1 with
  |none=>
   have HE:Hid (R=.inl 1):=by unfold Hid;rw[HR'.out,HL.out,hd]
   refine(Ht _ b base s q1 D _ _ hd hD hs r1 o1 hne).mono ?_;rintro e w2 ⟨t2,rfl,h4⟩;clear hd HR';go_wp2
   ((try simp only[Exit.inBlock,Exit.then]);refine bodyPost_ret (results_none rfl _ _ _) rfl ?_)
   exact⟨rfl,IT.Qp (t1.trans t2),by rw[HE.out];exact h4⟩
  |some yq=>
   obtain⟨y,q2⟩:=yq;have hy:=dec_lt hd;have hh:=HR'.out;rw[HL.out,hd]at hh;change R=(if 29<y then _ else _)at hh;have HR:Hid (R=_):=hh;clear HR' hh;refine(Ht _ b base s q1 D _ _ hd hD hs r1 o1 hne).mono ?_;rintro e w2 ⟨t2,rfl,r2⟩;clear hd;have T2:=t1.trans t2;have h4:=r2.zero hy.2.1;by_cases c3:29<y
   .have HE:Hid (R=.inl 1):=(by unfold Hid;rw[HR.out,if_pos c3]);have h5:(w2.setCell ⟨b,4,none⟩ (.int .i64 1)).cell? ⟨b,4,none⟩=some (.int .i64 1):=(by simp[Ad,h4]);go_wp2_with (go_at_call 153;refine(Ru _ b 1 h4 (r2.fr 4)).mono ?_;rintro e w3 ⟨rfl,rfl⟩)
    ((try simp only[Exit.inBlock,Exit.then]);refine bodyPost_ret (results_none rfl _ _ _) rfl ?_)
    exact⟨rfl,IT.Qp (T2.set 4 (Or.inr rfl) _),by rw[HE.out];exact h5⟩
   have hh:=HR.out;rw[if_neg c3,mJ s q2 y (by omega)]at hh;have y29:y<=29:=by omega
   have y29':¬(29:Int)<(y:Int):=by omega
   obtain⟨B2,hB2⟩:∃B2,B2=y/2-1:=⟨_,rfl⟩;obtain⟨V2,hV2⟩:∃V2,V2=numAt s q2 B2:=⟨_,rfl⟩;obtain⟨f,hf⟩:∃f,f=Tn 2 y+V2:=⟨_,rfl⟩;obtain⟨A2,hA2⟩:∃A2,A2=1+Tn 2 y:=⟨_,rfl⟩;have bd2:=Uc s q2 y (by omega);rw[mJ s q2 y (by omega),<-hB2,<-hV2]at bd2;rw[<-hB2,<-hV2,<-hf]at hh;change Tn 2 y+V2<=65536 at bd2;rw[<-hf]at bd2;obtain⟨d,hd⟩:∃d,d=1+f:=⟨_,rfl⟩;change R=(if 8*s.size<q2+B2\/out.length<1+f then Sum.inl 1 else if most<out.length+n then Sum.inl 2 else Sum.inr (Cf out (out.length-(1+f)) (1+f) n,q2+B2))at hh;rw[<-hd]at hh;have HR':Hid (R=_):=hh;have HA2:Hid (A2=1+Tn 2 y):=hA2;have HB2:Hid (B2=y/2-1):=hB2;have HV2:Hid (V2=numAt s q2 B2):=hV2;have hn2:(A2:Int)+(V2:Int)=(d:Int):=by omega
   have d1:1<=d:=by omega
   have d6:d<=65537:=by omega
   have B14:B2<=14:=by omega
   have AV2:A2+V2<=65537:=by omega
   clear HR hh hB2 hV2 hA2 hf hd bd2 c3;go_wp2_with fail;refine(Qgs w2 y A2 B2 (by omega) HA2 HB2).mono ?_;rintro e w3 ⟨rfl,rfl⟩;go_wp2_with fail;refine(Es w2 b s q2 B2 V2 _ rfl HV2.out (by omega) hs r2).mono ?_;rintro e w3 ⟨rfl,r3,t3⟩;have T3:=T2.trans t3;clear h4 T2 t3 t2 r2 r1 o1;have ref3:=h.read r3 T3 (by omega);obtain⟨q3,hq3⟩:∃q3,q3=q2+B2:=⟨_,rfl⟩;rw[<-hq3]at r3 ref3 HR';have q23:q2<=q3:=by omega
   clear hq3;obtain⟨ao2,cap2,h2,ho2⟩:=ref3.gv;by_cases c4:8*s.size<q3
   .have HE:Hid (R=.inl 1):=(by unfold Hid;rw[HR'.out,if_pos (Or.inl c4)]);have h4:=r3.one (by omega);go_wp2;go_loopw [13] (fun i wr=>∃i':Nat,i=.int .i64 (i':Int)/\wr=w3) (fun _ _=>0)
    case atStart=>exact⟨0,rfl,rfl⟩
    case round=>
     obtain⟨i',rfl,rfl⟩:=hrel;go_wp2;all_goals
      go_end0;exact⟨rfl,IT.Qp T3,by rw[HE.out];exact h4⟩
   have c4':q3<=8*s.size:=by omega
   have h4:=r3.zero c4';by_cases c5:out.length<d
   .have HE:Hid (R=.inl 1):=(by unfold Hid;rw[HR'.out,if_pos (Or.inr c5)]);have h5:(w3.setCell ⟨b,4,none⟩ (.int .i64 1)).cell? ⟨b,4,none⟩=some (.int .i64 1):=(by simp[Ad,h4]);go_wp2_with (go_at_call 153;refine(Ru _ b 1 h4 (r3.fr 4)).mono ?_;rintro e w4 ⟨rfl,rfl⟩);go_loopw [13] (fun i wr=>∃i':Nat,i=.int .i64 (i':Int)/\wr=w3.setCell ⟨b,4,none⟩ (.int .i64 1)) (fun _ _=>0)
    case atStart=>exact⟨0,rfl,rfl⟩
    case round=>
     obtain⟨i',rfl,rfl⟩:=hrel;go_wp2;all_goals
      go_end0;exact⟨rfl,IT.Qp (T3.set 4 (Or.inr rfl) _),by rw[HE.out];exact h5⟩
   have c5':d<=out.length:=by omega
   have hh:=HR'.out;rw[if_neg (by omega)]at hh;have HR:Hid (R=_):=hh;clear HR' hh;have c5i:¬(out.length:Int)<(d:Int):=by omega
   obtain⟨place,hplace⟩:∃place,place=out.length-d:=⟨_,rfl⟩;rw[<-hplace]at HR;have pd:place+d=out.length:=by omega
   clear hplace;go_wp2;go_loopw [13] (fun i wr=>∃i':Nat,i'<=n/\i=.int .i64 (i':Int)/\IT b w wr/\(Ref wr b s q3 (Cf out place d i') M/\i'<=most-out.length\/∃e:Nat,1<=e/\Hid (R=.inl e)/\wr.cell? ⟨b,4,none⟩=some (.int .i64 (e:Int)))) (fun i _=>n-(intOf i).toNat)
   case atStart=>exact⟨0,by omega,rfl,IT.Qp T3,Or.inl ⟨by rw[wI];exact ref3,by omega⟩⟩
   case round=>
    clear T3 ref3 h4 r3 h2 ho2;obtain⟨i,hin,rfl,hit,hst⟩:=hrel;rcases hst with⟨ref,i2⟩|⟨e,he,HE,h4⟩
    .obtain⟨cur,hcur⟩:∃cur,cur=Cf out place d i:=⟨_,rfl⟩;have rl:=Pz out place d i;have h4:=ref.rb.zero (by omega);by_cases hlt:i<n
     .have hpl:place+i<(Cf out place d i).length:=(by omega);have nx:=xA out place d i (by omega) pd hpl;obtain⟨c,hc⟩:∃c,c=(Cf out place d i)[place+i]:=⟨_,rfl⟩;rw[<-hc]at nx;have hc':cur[place+i]?=some c:=(by rw[hcur,hc];exact List.getElem?_eq_getElem hpl);rw[<-hcur]at ref rl nx;obtain⟨ao3,cap3,h2,ho3⟩:=ref.gv;have HX:Hid (cur++[c]=Cf out place d (i+1)):=nx;obtain⟨g0,cap0,hv,hg0⟩:=Fp ho3 (by omega);rw[hv]at h2 ho3;cases hv;have hcell0:wr.cell? ⟨g0,place+i,none⟩=some (.int .u8 (c.toNat:Int)):=by
       rw[ho3.cellAt (place+i) (by omega)];simp[Dy,hc']
      have HC:Hid (cur=Cf out place d i):=hcur;obtain⟨k,hk⟩:∃k,k=place+i:=⟨_,rfl⟩;rw[<-hk]at hcell0;have hcell:=hcell0;have l1:cur.length<=out.length+i:=(by omega);have l2:out.length+i<=cur.length:=(by omega);have e9:(cur.length:Int)-(d:Int)=(k:Int):=(by omega);have e10:IntKind.i64.wrap (k:Int)=(k:Int):=(by simp[IntKind.wrap,IntKind.bits,IntKind.signed];omega);have e11:(0:Int)<=(k:Int):=(by omega);have e12:(k:Int)<(cur.length:Int):=(by omega);have e13:k<cur.length:=(by omega);have HRL:Hid (cur.length=out.length+i):=rl;clear hc' hc nx hpl hcur hcell0 hk rl;by_cases hroom:((out.length+i:Nat):Int)<M
      .go_wp2;go_region_law (first|(go_simp;go_at_call 218;refine(dH b wr.drew s q3 cur M c _ rfl ref.drew (by omega) hs (by omega) (by omega)).mono ?_;rintro e w5 ⟨rfl,ref5,t5⟩;go_wp2_with fail));all_goals
        go_wp2;go_roundw
        case rel=>
         rw[HX.out]at ref5;exact⟨i+1,by omega,by go_num,hit.drew.trans t5,Or.inl ⟨ref5,by omega⟩⟩
        case measure=>simp[intOf];omega
      have HE:Hid (R=.inl 2):=(by unfold Hid;rw[HR.out,if_pos (by omega)]);go_wp2;go_region_law (first|(go_simp;go_at_call 218;refine(dD b wr.drew s q3 cur M _ ref.drew (by omega) (by omega)).mono ?_;rintro e w5 ⟨rfl,h5,t5⟩;go_wp2_with fail));all_goals
       go_wp2;go_roundw
       case rel=>exact⟨i+1,by omega,by go_num,hit.drew.trans t5,Or.inr ⟨2,by omega,HE,h5⟩⟩
       case measure=>simp[intOf];omega
     obtain rfl:i=n:=by omega
     have HE:Hid (R=.inr (Cf out place d i,q3)):=(by unfold Hid;rw[HR.out,if_neg (by omega)]);go_wp2;go_end0;exact⟨rfl,hit,by rw[HE.out];exact ref⟩
    have e0:((e:Int)==0)=false:=(by simp;omega);go_wp2;all_goals
     go_end0;exact⟨rfl,hit,by rw[HE.out];exact h4⟩
theorem IT.code{b base n:Nat}{w w':World}{v:Value}{xs:List Value}(h:IT b w w')(hb:b<base)(ho:w.ownsRow base 325 3 v n xs):w'.ownsRow base 325 3 v n xs :=Touch.owns h ho (fun k hk=>IT.not (Typed.owned ho hk) (by have:=(ho.lt k hk).1;omega) (by decide))
theorem pF{w:World}{b base n:Nat}{v:Value}{xs:List Value}(ho:w.ownsRow base 325 3 v n xs)(hb:b<base):∀k,v.ownBlock=some k->k≠b:=fun k hk=>by have:=(ho.lt k hk).1;omega
theorem Ref.uC{w w':World}{b:Nat}{s:ByteArray}{p:Nat}{out:List UInt8}{M:Int}(h:Ref w b s p out M)(ht:Touch (fun _=>False) w w'):Ref w' b s p out M:=by
 have hb:=h.lt;have c:∀o,w'.cell? ⟨b,o,none⟩=w.cell? ⟨b,o,none⟩:=fun o=>ht.cell hb (fun e=>e);have f:∀o,w'.frozen? ⟨b,o,none⟩=w.frozen? ⟨b,o,none⟩:=fun o=>ht.frozen hb (fun e=>e);exact h.read ⟨(c 0).trans h.rb.c0,(c 1).trans h.rb.c1,(c 4).trans h.rb.c4,fun o=>(f o).trans (h.rb.fr o)⟩ ⟨ht.mono (fun _ _ e=>e.elim),fun o _ _=>c o,f⟩ (Nat.le_refl _)
theorem IT.iT{b:Nat}{x y:World}(h:Touch (fun _=>False) x y):IT b x y:=h.mono (fun _ _ e=>e.elim)
theorem nC(b:Nat)(w:World)(s:ByteArray)(q:Nat)(out:List UInt8)(M:Int)(x base:Nat)(v:Value)(D:List Nat)(R:Sum Nat (List UInt8×Nat))(hR:Di D s q out (max M 0).toNat x=R)(hs:s.size<=2147483648)(h:Ref w b s q out M)(hx:257<=x)(hx2:x<=285)(ho:w.ownsRow base 325 3 v (Dh D 16).length (flat3 (Dh D 16)))(hne:∀k,v.ownBlock=some k->k≠b)(hD:D.length<=400)(hfew:out.length+258<=258*q): Calls Tryz.prog 222 #[.pointer (some ⟨b,0,none⟩),.int .i64 (x:Int),v] w fun e w'=>e=.returned (.tuple #[])/\Jk b s M w R w':=by
 subst hR;exact Qcm b w s q out M x base v D hs h hx hx2 ho hne hD hfew
theorem rC(w:World)(lb lo N cap:Nat)(L:List Nat)(few ok:Bool)(hok:Nj L few=ok)(hlen:L.length=N)(hn:N<=400)(hcells:∀j (h:j<L.length),w.cell? ⟨lb,lo+j,none⟩=some (.int .i64 (L[j]:Nat))): Calls Tryz.prog 220 #[.slice (some ⟨lb,lo,none⟩) N cap,.bool few] w fun e w'=>∃v,e=.returned (.tuple #[v,.bool ok])/\(ok=true->w'.ownsRow w.heap.size 325 3 v (Dh L 16).length (flat3 (Dh L 16)))/\Touch (fun _=>False) w w':=by
 subst hok;exact Qg2 w lb lo N cap L few hlen hn hcells
theorem Qdv(b:Nat)(w:World)(s:ByteArray)(p:Nat)(out:List UInt8)(M:Int)(lb lo N1 k1 db dof N2 k2:Nat)(L D:List Nat)(hs:s.size<=2147483648)(h:Ref w b s p out M)(hp:p<=8*s.size)(hl1:L.length=N1)(hl2:D.length=N2)(n1:N1<=288)(n2:N2<=32)(c1:∀j (h:j<L.length),w.cell? ⟨lb,lo+j,none⟩=some (.int .i64 (L[j]:Nat)))(c2:∀j (h:j<D.length),w.cell? ⟨db,dof+j,none⟩=some (.int .i64 (D[j]:Nat)))(f:Nat)(hf:8*s.size+1<=p+f): Calls Tryz.prog 151 #[.pointer (some ⟨b,0,none⟩),.slice (some ⟨lb,lo,none⟩) N1 k1,.slice (some ⟨db,dof,none⟩) N2 k2] w fun e w'=>e=.returned (.tuple #[])/\Jk b s M w (if fine L D=true then Bz L D s (max M 0).toNat f p out else .inl 1) w':=by
 obtain⟨R,hR⟩:∃R,R=(if fine L D=true then Bz L D s (max M 0).toNat f p out else .inl 1):=⟨_,rfl⟩;have HR0:Hid (R=(if fine L D=true then Bz L D s (max M 0).toNat f p out else .inl 1)):=hR;rw[<-hR];clear hR;have hlt:=h.lt;obtain⟨most,hmost⟩:∃most,most=(max M 0).toNat:=⟨_,rfl⟩;rw[<-hmost]at HR0;have HF:Hid (fine L D=(Nj L false&&Nj D true)):=Qho L D;obtain⟨ok1,ho1⟩:∃o,Nj L false=o:=⟨_,rfl⟩;obtain⟨ok2,ho2⟩:∃o,Nj D true=o:=⟨_,rfl⟩;have HO1:Hid (Nj L false=ok1):=ho1;have HO2:Hid (Nj D true=ok2):=ho2;clear ho1 ho2;go_enter Tryz.func151,Tryz.ntmps151;go_wp2_with fail;refine(rC w lb lo N1 k1 L false ok1 HO1.out hl1 (by omega) c1).mono ?_;rintro e w1 ⟨v1,rfl,hv1,t1⟩;go_wp2_with fail;refine(rC w1 db dof N2 k2 D true ok2 HO2.out hl2 (by omega) (fun j hj=>t1.at (c2 j hj) (fun e=>e))).mono ?_;rintro e w2 ⟨v2,rfl,hv2,t2⟩;have T2:=t1.trans t2;have ref2:=h.uC T2;have h4:=ref2.rb.zero hp;have f4:=ref2.rb.fr 4;have sz:=t1.size;by_cases hok:ok1=true/\ok2=true
 .obtain⟨rfl,rfl⟩:=hok;have o1:=t2.owns (hv1 rfl) (fun _ _ e=>e);have o2:=hv2 rfl;have HS:Hid (R=Bz L D s most f p out):=by unfold Hid;rw[HR0.out,if_pos (by rw[HF.out,HO1.out,HO2.out];rfl)]
  clear hv1 hv2 HR0;go_wp2;go_loopg [] f (fun g wr=>IT b w2 wr/\((∃p out,Ref wr b s p out M/\p<=8*s.size/\8*s.size+1<=p+g/\Hid (R=Bz L D s most g p out))\/∃e:Nat,1<=e/\Hid (R=.inl e)/\wr.cell? ⟨b,4,none⟩=some (.int .i64 (e:Int))))
  case atStart=>exact⟨IT.refl _ _,Or.inl ⟨p,out,ref2,hp,hf,HS⟩⟩
  case round=>
   clear HS ref2 hp hf h4 f4 h;obtain⟨hit,hst⟩:=hrel;rcases hst with⟨p,out,ref,hp,hf,HR⟩|⟨e,he,HE,h4⟩
   .obtain⟨g,rfl⟩:∃g,gk=g+1:=⟨gk-1,by omega⟩;have h4:=ref.rb.zero hp;have o1':=hit.code hlt o1;have o2':=hit.code (Nat.lt_of_lt_of_le hlt sz) o2;have ne1:=pF o1' hlt;have ne2:=pF o2' (Nat.lt_of_lt_of_le hlt sz);have hfew:=ref.few;cases hd:dec L s p with
    |none=>
     have HE:Hid (R=.inl 1):=(by unfold Hid;rw[HR.out,Lp _ _ _ _ _ _ _ hd]);have HD:Hid (dec L s p=none):=hd;clear hd;go_wp2_with (go_at_call 221;refine(Ht wr b w.heap.size s p L v1 _ HD.out (by omega) hs ref.rb o1' ne1).mono ?_;rintro e w3 ⟨t3,rfl,h5⟩)
     ((try simp only[Exit.inBlock,Exit.then]);refine bodyPost_ret (results_none rfl _ _ _) rfl ?_)
     exact⟨rfl,(IT.iT T2).trans (hit.trans (IT.Qp t3)),by rw[HE.out];exact h5⟩
    |some xq=>
     obtain⟨x,q⟩:=xq;have hx:=dec_lt hd;have hh:=HR.out;rw[Lj _ _ _ _ _ _ _ _ _ hd]at hh;have HS:Hid (R=_):=hh;have HD:Hid (dec L s p=some (x,q)):=hd;clear hd HR hh;by_cases x1:x=256
     .have HE:Hid (R=.inr (out,q)):=(by unfold Hid;rw[HS.out,if_pos x1]);go_wp2_with (go_at_call 221;refine(Ht wr b w.heap.size s p L v1 _ HD.out (by omega) hs ref.rb o1' ne1).mono ?_;rintro e w3 ⟨t3,rfl,r3⟩)
      ((try simp only[Exit.inBlock,Exit.then]);refine bodyPost_ret (results_none rfl _ _ _) rfl ?_)
      exact⟨rfl,(IT.iT T2).trans (hit.trans (IT.Qp t3)),by rw[HE.out];exact ref.read r3 t3 (by omega)⟩
     have T3:∀w3,BT b wr w3->IT b w2 w3:=fun w3 t3=>hit.trans (IT.Qp t3);have x0:¬(x:Int)<0:=(by omega);have x00:decide ((x:Int)<0)=false:=(by simp);have x5:((x:Int)==256)=false:=(by simp;omega);by_cases x2:x<256
     .by_cases x3:most<=out.length
      .have HE:Hid (R=.inl 2):=(by unfold Hid;rw[HS.out,if_neg x1,if_pos x2,if_pos x3]);go_wp2_with (first|(go_at_call 221;refine(Ht wr b w.heap.size s p L v1 _ HD.out (by omega) hs ref.rb o1' ne1).mono ?_;rintro e w3 ⟨t3,rfl,r3⟩;have ref3:=ref.read r3 t3 (by omega))|(go_at_call 218;refine(dD b w3 s q out M _ ref3 (by omega) (by omega)).mono ?_;rintro e w4 ⟨rfl,h5,t5⟩));go_roundg g
       case measure=>omega
       case rel=>exact⟨(T3 w3 t3).trans t5,Or.inr ⟨2,by omega,HE,h5⟩⟩
      have HE:Hid (R=Bz L D s most g q (out++[UInt8.ofNat x])):=(by unfold Hid;rw[HS.out,if_neg x1,if_pos x2,if_neg x3]);go_wp2_with (first|(go_at_call 221;refine(Ht wr b w.heap.size s p L v1 _ HD.out (by omega) hs ref.rb o1' ne1).mono ?_;rintro e w3 ⟨t3,rfl,r3⟩;have ref3:=ref.read r3 t3 (by omega))|(go_at_call 218;refine(dH b w3 s q out M (UInt8.ofNat x) _ (byte_of x x2) ref3 (by omega) hs (by omega) (by omega)).mono ?_;rintro e w4 ⟨rfl,ref5,t5⟩));go_roundg g
      case measure=>omega
      case rel=>exact⟨(T3 w3 t3).trans t5,Or.inl ⟨q,_,ref5,by omega,by omega,HE⟩⟩
     by_cases x4:285<x
     .have HE:Hid (R=.inl 1):=(by unfold Hid;rw[HS.out,if_neg x1,if_neg x2,show Di D s q out most x=.inl 1 by unfold Di;rw[if_pos x4]]);go_wp2_with (first|(go_at_call 221;refine(Ht wr b w.heap.size s p L v1 _ HD.out (by omega) hs ref.rb o1' ne1).mono ?_;rintro e w3 ⟨t3,rfl,r3⟩;have ref3:=ref.read r3 t3 (by omega))|(go_at_call 153;refine(Ru w3 b 1 (r3.zero (by omega)) (r3.fr 4)).mono ?_;rintro e w4 ⟨rfl,rfl⟩));go_roundg g
      case measure=>omega
      case rel=>exact⟨hit.trans (IT.Qp (t3.set 4 (Or.inr rfl) _)),Or.inr ⟨1,by omega,HE,by simp[Ad,r3.zero hx.2.1]⟩⟩
     cases hC:Di D s q out most x with
     |inl k=>
      have hk:=Uw _ _ _ _ _ _ _ hC;have HE:Hid (R=.inl k):=(by unfold Hid;rw[HS.out,if_neg x1,if_neg x2,hC]);have HC:Hid (Di D s q out (max M 0).toNat x=.inl k):=(by rw[<-hmost];exact hC);clear hC HS;go_wp2_with (first|(go_at_call 221;refine(Ht wr b w.heap.size s p L v1 _ HD.out (by omega) hs ref.rb o1' ne1).mono ?_;rintro e w3 ⟨t3,rfl,r3⟩;have ref3:=ref.read r3 t3 (by omega))|(go_at_call 222;refine(nC b w3 s q out M x w1.heap.size v2 D _ HC.out hs ref3 (by omega) (by omega) (t3.owns o2' ne2) ne2 (by omega) (by omega)).mono ?_;rintro e w4 ⟨rfl,t5,h5⟩));go_roundg g
      case measure=>omega
      case rel=>exact⟨(T3 w3 t3).trans t5,Or.inr ⟨k,by omega,HE,h5⟩⟩
     |inr oq=>
      obtain⟨o,q'⟩:=oq;have hle:=Wh _ _ _ _ _ _ _ _ hC;have HE:Hid (R=Bz L D s most g q' o):=(by unfold Hid;rw[HS.out,if_neg x1,if_neg x2,hC]);have HC:Hid (Di D s q out (max M 0).toNat x=.inr (o,q')):=(by rw[<-hmost];exact hC);clear hC HS;go_wp2_with (first|(go_at_call 221;refine(Ht wr b w.heap.size s p L v1 _ HD.out (by omega) hs ref.rb o1' ne1).mono ?_;rintro e w3 ⟨t3,rfl,r3⟩;have ref3:=ref.read r3 t3 (by omega))|(go_at_call 222;refine(nC b w3 s q out M x w1.heap.size v2 D _ HC.out hs ref3 (by omega) (by omega) (t3.owns o2' ne2) ne2 (by omega) (by omega)).mono ?_;rintro e w4 ⟨rfl,t5,ref5⟩));go_roundg g
      case measure=>omega
      case rel=>exact⟨(T3 w3 t3).trans t5,Or.inl ⟨q',o,ref5,hle.1,by omega,HE⟩⟩
   have e0:((e:Int)==0)=false:=by simp;omega
   go_wp2;go_end0;exact⟨rfl,(IT.iT T2).trans hit,by rw[HE.out];exact h4⟩
 have HE:Hid (R=.inl 1):=by
  unfold Hid;rw[HR0.out,if_neg];rw[HF.out,HO1.out,HO2.out];intro hc;exact hok (by simpa using hc)
 have h5:(w2.setCell ⟨b,4,none⟩ (.int .i64 1)).cell? ⟨b,4,none⟩=some (.int .i64 1):=by simp[Ad,h4]
 clear hv1 hv2 HR0;cases ok1<;>cases ok2;all_goals first|(exfalso;exact hok ⟨rfl,rfl⟩)|skip
 all_goals
  go_wp2_with (go_at_call 153;refine(Ru _ b 1 h4 f4).mono ?_;rintro e w3 ⟨rfl,rfl⟩);go_loopw [] (fun wr=>wr=w2.setCell ⟨b,4,none⟩ (.int .i64 1)) (fun _=>0)
  case atStart=>rfl
  case round=>
   obtain rfl:=hrel;go_wp2;go_end0;exact⟨rfl,(IT.iT T2).trans (IT.Qp ((BT.refl b w2).set 4 (Or.inr rfl) _)),by rw[HE.out];exact h5⟩
end Go.Proofs.YtmhlkdlcpicekaaGreatDoor
