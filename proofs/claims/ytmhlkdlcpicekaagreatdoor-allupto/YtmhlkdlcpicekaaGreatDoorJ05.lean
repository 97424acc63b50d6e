/- Joined. -/
import Derived.Test.YtmhlkdlcpicekaaGreatDoorJ03
import Derived.Deep.LoopGhost
import Derived.Deep.RegionLaw
set_option linter.unusedSimpArgs false
set_option linter.unusedVariables false
set_option maxRecDepth 100000
set_option maxHeartbeats 20000000
namespace Go.Proofs.YtmhlkdlcpicekaaGreatDoor
open Go.RowKit
def rep(out:List UInt8)(place d n:Nat):List UInt8:=(List.range n).map fun i=>out.getD (place+i%d) 0
def Cf(out:List UInt8)(place d n:Nat):List UInt8:=out++rep out place d n
theorem Qga(out:List UInt8)(place d n:Nat):(rep out place d n).length=n:=by simp[rep]
theorem Pz(out:List UInt8)(place d n:Nat):(Cf out place d n).length=out.length+n:=by simp[Cf,Qga]
theorem Qca(out:List UInt8)(place d m i:Nat)(hd:0<d)(hp:place+d=out.length)(hi:i<d+m)(hm:m%d=0\/i<d):(Cf out place d m).getD (place+i) 0=out.getD (place+i%d) 0:=by
 unfold Cf;by_cases h:i<d
 .rw[Nat.mod_eq_of_lt h];simp[List.getElem?_append_left (show place+i<out.length by omega)]
 have e:place+i=out.length+(i-d):=by omega
 rw[e,List.getD_eq_getElem?_getD,List.getElem?_append_right (by omega)];simp only[Nat.add_sub_cancel_left,rep,List.getElem?_map,List.getElem?_range (show i-d<m by omega)];simp only[Option.map_some,Option.getD_some];rw[show(i-d)%d=i%d by rw[Nat.mod_eq_sub_mod (show i ≥ d by omega)]]
theorem Qr(out:List UInt8)(place d m c:Nat)(hd:0<d)(hp:place+d=out.length)(hc:c<=d+m)(hm:m%d=0): Cf out place d m++(((Cf out place d m).drop place).take c)=Cf out place d (m+c):=by
 have e:((Cf out place d m).drop place).take c=(List.range c).map (fun i=>out.getD (place+(m+i)%d) 0):=by
  apply List.ext_getElem?;intro j;by_cases hj:j<c
  .have h1:=Qca out place d m j hd hp (by omega) (Or.inl hm);have hl:=Pz out place d m;rw[List.getElem?_take_of_lt hj,List.getElem?_drop,List.getElem?_map,List.getElem?_range hj];rw[List.getD_eq_getElem?_getD,List.getElem?_eq_getElem (by omega)]at h1;rw[List.getElem?_eq_getElem (by omega)];simp only[Option.getD_some,Option.map_some]at h1 ⊢;rw[h1,Nat.add_mod m j d,hm,Nat.zero_add,Nat.mod_mod]
  rw[List.getElem?_eq_none (by simp[Pz];omega),List.getElem?_eq_none (by simp;omega)]
 rw[e];unfold Cf rep;rw[List.append_assoc,List.range_add,List.map_append,List.map_map];rfl
theorem Zb{W:World}{base g0 cap place c k:Nat}{cur:List UInt8}(ho:W.ownsRow base 5 1 (.slice (some ⟨g0,0,none⟩) cur.length cap) cur.length (Dy cur))(hc:place+c<=cur.length):Src Tryz.prog 1 114 (.slice (some ⟨g0,place,none⟩) c k) c (Dy ((cur.drop place).take c)) W:=by
 refine Src.ofSlice W Tryz.underlying114 ⟨g0,place,none⟩ c k _ ?_ ?_ ?_;.rw[nU,List.length_take,List.length_drop];omega
 .intro j u hu;have hadd:(⟨g0,place,none⟩:Addr).add j=⟨g0,place+j,none⟩:=by unfold Addr.add;split<;>simp_all
  have hj:j<c:=by
   have:=(List.getElem?_eq_some_iff.1 hu).1;rw[nU,List.length_take]at this;omega
  rw[hadd,ho.cellAt _ (by omega),<-hu];simp only[Dy,List.getElem?_map,List.getElem?_take_of_lt hj,List.getElem?_drop]
 intro u hu;obtain⟨x,_,rfl⟩:=List.mem_map.1 hu;rfl
theorem Qf9(b:Nat)(w:World)(s:ByteArray)(p:Nat)(out:List UInt8)(most:Nat)(place d n:Nat)(h:Inf w b s p out most)(hd:0<d)(hp:place+d=out.length)(hn:n<=258)(hroom:out.length+n<=most)(hfew:out.length+n<=258*p)(hpp:p<=17179869184): Calls Tryz.prog 247 #[.pointer (some ⟨b,0,none⟩),.int .i64 (place:Int),.int .i64 (n:Int)] w fun e w'=>e=.returned (.int .i64 0)/\Inf w' b s p (Cf out place d n) most/\IT b w w':=by
 obtain⟨ao,cap,h5,ho⟩:=h.gv;have h6:=h.ms;have ht:=h.top;go_enter Tryz.func247,Tryz.ntmps247;go_wp2_with (go_at_call 197;refine(rW b w ao out.length cap most h.fit ht h5 h6).mono ?_;rintro e w1 ⟨rfl,k,rfl⟩);go_loopg [] n (fun g wr=>∃m,g=n-m/\m<=n/\(m%d=0\/m=n)/\Inf wr b s p (Cf out place d m) most/\IT b w wr)
 case atStart=>exact⟨0,by omega,by omega,Or.inl (Nat.zero_mod d),by simpa [Cf,rep]using h.drewN k,(IT.refl b w).drewN k⟩
 case round=>
  obtain⟨m,hgk,hm,hmd,hin,hit⟩:=hrel;clear h5 h6 ho;have HG:Hid (gk=n-m):=hgk;clear hgk;obtain⟨ao,cap,h5,ho⟩:=hin.gv;have hl:=Pz out place d m;obtain⟨cur,hcur⟩:∃cur,cur=Cf out place d m:=⟨_,rfl⟩;rw[<-hcur]at hin h5 ho hl;have HC:Hid (cur=Cf out place d m):=hcur;have HL:Hid (cur.length=out.length+m):=hl;have l1:cur.length<=out.length+m:=by omega
  have l2:out.length+m<=cur.length:=by omega
  clear hl hcur;have h6:=hin.ms;by_cases hlt:m<n
  .have hm0:m%d=0:=by omega
   obtain⟨g0,cap0,hv,hg0⟩:=Fp ho (by omega);rw[hv]at h5 ho;cases hv;have f5:=hin.rd.fr 5;have q1:wr.drew.cell? ⟨b,5,none⟩=some (.slice (some ⟨g0,0,none⟩) cur.length cap):=h5;have hcap:cur.length<=cap:=by
    rcases ho.2 with⟨h,_⟩|⟨g',cap',cu,h,_,_,h5,_⟩;.cases h
    cases h;exact h5
   have hlt':=hin.lt;have hbs:b+1<=wr.drew.drew.heap.size:=hlt';obtain⟨i0,hi,hz0,hz1,hz2⟩:=info_parts Tryz.infoByte;have c3:∀c,c<=258->cur.length+c<=maxLen:=by intro c _;unfold maxLen;omega
   have c4:∀c,c<=258->(cur.length+c)*1<=140737488355328:=by intro c _;omega
   by_cases hc:n-m<=d+m
   .obtain⟨c,hcc⟩:∃c,c=n-m:=⟨_,rfl⟩;have e9:(out.length:Int)+(n:Int)-(cur.length:Int)=(c:Int):=(by omega);have c0:0<c:=(by omega);have c1:c<=d+m:=(by omega);have c2:m+c<=n:=(by omega);have c5:(m+c)%d=0\/m+c=n:=(by right;omega);have HCC:Hid (c=n-m):=hcc;clear hcc;have x1:IntKind.i64.wrap ((place:Int)+(c:Int))=(place:Int)+(c:Int):=(by simp[IntKind.wrap,IntKind.bits,IntKind.signed];omega);have x2:(0:Int)<=(place:Int):=(by omega);have x3:(place:Int)<=(place:Int)+(c:Int):=(by omega);have x4:(place:Int)+(c:Int)<=(cap:Int):=(by omega);have x5:((place:Int)+(c:Int)).toNat=place+c:=(by omega);have x6:¬place=cap:=(by omega);have x7:¬cap=place:=(by omega);have x8:place<cap:=(by omega);have x9:place+c<=cap:=(by omega);go_wp2;go_region;all_goals go_wp2
    go_region_law (refine Ku rfl (.tmp 47) (.tmp 56) 114 114 rfl (b+1) 5 i0 (.int .u8 0) 1 Tryz.underlying114 hi hz0 hz1 hz2 rfl _ _ _ (by simp[Act.eval,Act.put]) (show wr.drew.drew.ownsRow (b+1) 5 1 (.slice (some ⟨g0,0,none⟩) cur.length cap) cur.length (Dy cur) from ho) _ _ _ (by simp[Act.eval,Act.put]) (Zb (place:=place) (c:=c) (k:=cap-place) ho (by omega)) (c3 c (by omega)) (c4 c (by omega)) hbs ?_;intro v' w1 hown' hgrow;obtain⟨q5,q6⟩:=hin.fC h5 ho (((Touch.refl _ wr).drew).drew) hgrow;obtain⟨g',cap',hv',_⟩:=Fp hown' (by omega);rw[hv']at hown' ⊢);all_goals
     go_wp2;go_roundg (n-(m+c))
     case measure=>rw[HG.out];omega
     case rel=>
      have nl:((cur.drop place).take c).length=c:=(by rw[List.length_take,List.length_drop];omega);have e10:cur++(cur.drop place).take c=Cf out place d (m+c):=by
       rw[HC.out];exact Qr out place d m c hd hp c1 hm0
      have gi:=hin.given (p:=p) (q:=p) (new:=(cur.drop place).take c) h5 ho (((Touch.refl _ wr).drew).drew) hgrow (by rw[nl];exact hown') (by rw[nl];omega) (by rw[nl];omega);rw[e10]at gi;exact⟨m+c,rfl,c2,c5,gi.1,hit.trans gi.2⟩
   obtain⟨c,hcc⟩:∃c,c=d+m:=⟨_,rfl⟩;have e9:(cur.length:Int)-(place:Int)=(c:Int):=by omega
   have c0:0<c:=by omega
   have c1:c<=d+m:=by omega
   have c2:m+c<=n:=by omega
   have c5:(m+c)%d=0\/m+c=n:=by left;rw[hcc];simp[Nat.add_mod,hm0]
   have HCC:Hid (c=d+m):=hcc;clear hcc;have x1:IntKind.i64.wrap ((place:Int)+(c:Int))=(place:Int)+(c:Int):=by simp[IntKind.wrap,IntKind.bits,IntKind.signed];omega
   have x2:(0:Int)<=(place:Int):=by omega
   have x3:(place:Int)<=(place:Int)+(c:Int):=by omega
   have x4:(place:Int)+(c:Int)<=(cap:Int):=by omega
   have x5:((place:Int)+(c:Int)).toNat=place+c:=by omega
   have x6:¬place=cap:=by omega
   have x7:¬cap=place:=by omega
   have x8:place<cap:=by omega
   have x9:place+c<=cap:=by omega
   go_wp2;go_region;all_goals go_wp2
   go_region_law (refine Ku rfl (.tmp 47) (.tmp 56) 114 114 rfl (b+1) 5 i0 (.int .u8 0) 1 Tryz.underlying114 hi hz0 hz1 hz2 rfl _ _ _ (by simp[Act.eval,Act.put]) (show wr.drew.drew.ownsRow (b+1) 5 1 (.slice (some ⟨g0,0,none⟩) cur.length cap) cur.length (Dy cur) from ho) _ _ _ (by simp[Act.eval,Act.put]) (Zb (place:=place) (c:=c) (k:=cap-place) ho (by omega)) (c3 c (by omega)) (c4 c (by omega)) hbs ?_;intro v' w1 hown' hgrow;obtain⟨q5,q6⟩:=hin.fC h5 ho (((Touch.refl _ wr).drew).drew) hgrow;obtain⟨g',cap',hv',_⟩:=Fp hown' (by omega);rw[hv']at hown' ⊢);all_goals
    go_wp2;go_roundg (n-(m+c))
    case measure=>rw[HG.out];omega
    case rel=>
     have nl:((cur.drop place).take c).length=c:=(by rw[List.length_take,List.length_drop];omega);have e10:cur++(cur.drop place).take c=Cf out place d (m+c):=by
      rw[HC.out];exact Qr out place d m c hd hp c1 hm0
     have gi:=hin.given (p:=p) (q:=p) (new:=(cur.drop place).take c) h5 ho (((Touch.refl _ wr).drew).drew) hgrow (by rw[nl];exact hown') (by rw[nl];omega) (by rw[nl];omega);rw[e10]at gi;exact⟨m+c,rfl,c2,c5,gi.1,hit.trans gi.2⟩
  obtain rfl:m=n:=by omega
  go_wp2;go_ret;exact⟨rfl,by rw[<-HC.out];exact hin,hit⟩
theorem pO(b:Nat)(w:World)(ao:Option Addr)(n cap most A:Nat)(hA:A=most-n)(hn:n<=most)(hm:most<=9223372036854775807)(h5:w.cell? ⟨b,5,none⟩=some (.slice ao n cap))(h6:w.cell? ⟨b,6,none⟩=some (.int .i64 (most:Int))): Calls Tryz.prog 197 #[.pointer (some ⟨b,0,none⟩)] w fun e w'=>e=.returned (.int .i64 (A:Int))/\∃k,w'=w.drewN k:=by
 subst hA;exact rW b w ao n cap most hn hm h5 h6
theorem Qbo(b:Nat)(w:World)(s:ByteArray)(p:Nat)(out:List UInt8)(most:Nat)(place d n:Nat)(h:Inf w b s p out most)(hd:0<d)(hp:place+d=out.length)(hn:n<=258)(hroom:most<out.length+n)(hfew:out.length+n<=258*p)(hpp:p<=17179869184): Calls Tryz.prog 247 #[.pointer (some ⟨b,0,none⟩),.int .i64 (place:Int),.int .i64 (n:Int)] w fun e w'=>e=.returned (.int .i64 2)/\IT b w w':=by
 obtain⟨ao,cap,h5,ho⟩:=h.gv;have h6:=h.ms;have ht:=h.top;have hft:=h.fit;obtain⟨A,hA⟩:∃A,A=most-out.length:=⟨_,rfl⟩;have A1:A<n:=by omega
 have A2:out.length+A<=most:=by omega
 have A3:most<=out.length+A:=by omega
 have HA:Hid (A=most-out.length):=hA;clear hA;go_enter Tryz.func247,Tryz.ntmps247;go_wp2_with (go_at_call 197;refine(pO b w ao out.length cap most A HA.out h.fit ht h5 h6).mono ?_;rintro e w1 ⟨rfl,k,rfl⟩);go_loopg [] A (fun g wr=>∃m,g=A-m/\m<=A/\(m%d=0\/m=A)/\Inf wr b s p (Cf out place d m) most/\IT b w wr)
 case atStart=>exact⟨0,by omega,by omega,Or.inl (Nat.zero_mod d),by simpa [Cf,rep]using h.drewN k,(IT.refl b w).drewN k⟩
 case round=>
  obtain⟨m,hgk,hm,hmd,hin,hit⟩:=hrel;clear h5 h6 ho;have HG:Hid (gk=A-m):=hgk;clear hgk;obtain⟨ao,cap,h5,ho⟩:=hin.gv;have hl:=Pz out place d m;obtain⟨cur,hcur⟩:∃cur,cur=Cf out place d m:=⟨_,rfl⟩;rw[<-hcur]at hin h5 ho hl;have HC:Hid (cur=Cf out place d m):=hcur;have HL:Hid (cur.length=out.length+m):=hl;have l1:cur.length<=out.length+m:=by omega
  have l2:out.length+m<=cur.length:=by omega
  clear hl hcur;have h6:=hin.ms;by_cases hlt:m<A
  .have hm0:m%d=0:=by omega
   obtain⟨g0,cap0,hv,hg0⟩:=Fp ho (by omega);rw[hv]at h5 ho;cases hv;have f5:=hin.rd.fr 5;have q1:wr.drew.cell? ⟨b,5,none⟩=some (.slice (some ⟨g0,0,none⟩) cur.length cap):=h5;have hcap:cur.length<=cap:=by
    rcases ho.2 with⟨h,_⟩|⟨g',cap',cu,h,_,_,h5,_⟩;.cases h
    cases h;exact h5
   have hlt':=hin.lt;have hbs:b+1<=wr.drew.drew.heap.size:=hlt';obtain⟨i0,hi,hz0,hz1,hz2⟩:=info_parts Tryz.infoByte;have c3:∀c,c<=258->cur.length+c<=maxLen:=by intro c _;unfold maxLen;omega
   have c4:∀c,c<=258->(cur.length+c)*1<=140737488355328:=by intro c _;omega
   by_cases hc:A-m<=d+m
   .obtain⟨c,hcc⟩:∃c,c=A-m:=⟨_,rfl⟩;have e9:(out.length:Int)+(A:Int)-(cur.length:Int)=(c:Int):=(by omega);have c0:0<c:=(by omega);have c1:c<=d+m:=(by omega);have c2:m+c<=A:=(by omega);have c5:(m+c)%d=0\/m+c=A:=(by right;omega);have HCC:Hid (c=A-m):=hcc;clear hcc;have x1:IntKind.i64.wrap ((place:Int)+(c:Int))=(place:Int)+(c:Int):=(by simp[IntKind.wrap,IntKind.bits,IntKind.signed];omega);have x2:(0:Int)<=(place:Int):=(by omega);have x3:(place:Int)<=(place:Int)+(c:Int):=(by omega);have x4:(place:Int)+(c:Int)<=(cap:Int):=(by omega);have x5:((place:Int)+(c:Int)).toNat=place+c:=(by omega);have x6:¬place=cap:=(by omega);have x7:¬cap=place:=(by omega);have x8:place<cap:=(by omega);have x9:place+c<=cap:=(by omega);go_wp2;go_region;all_goals go_wp2
    go_region_law (refine Ku rfl (.tmp 47) (.tmp 56) 114 114 rfl (b+1) 5 i0 (.int .u8 0) 1 Tryz.underlying114 hi hz0 hz1 hz2 rfl _ _ _ (by simp[Act.eval,Act.put]) (show wr.drew.drew.ownsRow (b+1) 5 1 (.slice (some ⟨g0,0,none⟩) cur.length cap) cur.length (Dy cur) from ho) _ _ _ (by simp[Act.eval,Act.put]) (Zb (place:=place) (c:=c) (k:=cap-place) ho (by omega)) (c3 c (by omega)) (c4 c (by omega)) hbs ?_;intro v' w1 hown' hgrow;obtain⟨q5,q6⟩:=hin.fC h5 ho (((Touch.refl _ wr).drew).drew) hgrow;obtain⟨g',cap',hv',_⟩:=Fp hown' (by omega);rw[hv']at hown' ⊢);all_goals
     go_wp2;go_roundg (A-(m+c))
     case measure=>rw[HG.out];omega
     case rel=>
      have nl:((cur.drop place).take c).length=c:=(by rw[List.length_take,List.length_drop];omega);have e10:cur++(cur.drop place).take c=Cf out place d (m+c):=by
       rw[HC.out];exact Qr out place d m c hd hp c1 hm0
      have gi:=hin.given (p:=p) (q:=p) (new:=(cur.drop place).take c) h5 ho (((Touch.refl _ wr).drew).drew) hgrow (by rw[nl];exact hown') (by rw[nl];omega) (by rw[nl];omega);rw[e10]at gi;exact⟨m+c,rfl,c2,c5,gi.1,hit.trans gi.2⟩
   obtain⟨c,hcc⟩:∃c,c=d+m:=⟨_,rfl⟩;have e9:(cur.length:Int)-(place:Int)=(c:Int):=by omega
   have c0:0<c:=by omega
   have c1:c<=d+m:=by omega
   have c2:m+c<=A:=by omega
   have c5:(m+c)%d=0\/m+c=A:=by left;rw[hcc];simp[Nat.add_mod,hm0]
   have HCC:Hid (c=d+m):=hcc;clear hcc;have x1:IntKind.i64.wrap ((place:Int)+(c:Int))=(place:Int)+(c:Int):=by simp[IntKind.wrap,IntKind.bits,IntKind.signed];omega
   have x2:(0:Int)<=(place:Int):=by omega
   have x3:(place:Int)<=(place:Int)+(c:Int):=by omega
   have x4:(place:Int)+(c:Int)<=(cap:Int):=by omega
   have x5:((place:Int)+(c:Int)).toNat=place+c:=by omega
   have x6:¬place=cap:=by omega
   have x7:¬cap=place:=by omega
   have x8:place<cap:=by omega
   have x9:place+c<=cap:=by omega
   go_wp2;go_region;all_goals go_wp2
   go_region_law (refine Ku rfl (.tmp 47) (.tmp 56) 114 114 rfl (b+1) 5 i0 (.int .u8 0) 1 Tryz.underlying114 hi hz0 hz1 hz2 rfl _ _ _ (by simp[Act.eval,Act.put]) (show wr.drew.drew.ownsRow (b+1) 5 1 (.slice (some ⟨g0,0,none⟩) cur.length cap) cur.length (Dy cur) from ho) _ _ _ (by simp[Act.eval,Act.put]) (Zb (place:=place) (c:=c) (k:=cap-place) ho (by omega)) (c3 c (by omega)) (c4 c (by omega)) hbs ?_;intro v' w1 hown' hgrow;obtain⟨q5,q6⟩:=hin.fC h5 ho (((Touch.refl _ wr).drew).drew) hgrow;obtain⟨g',cap',hv',_⟩:=Fp hown' (by omega);rw[hv']at hown' ⊢);all_goals
    go_wp2;go_roundg (A-(m+c))
    case measure=>rw[HG.out];omega
    case rel=>
     have nl:((cur.drop place).take c).length=c:=(by rw[List.length_take,List.length_drop];omega);have e10:cur++(cur.drop place).take c=Cf out place d (m+c):=by
      rw[HC.out];exact Qr out place d m c hd hp c1 hm0
     have gi:=hin.given (p:=p) (q:=p) (new:=(cur.drop place).take c) h5 ho (((Touch.refl _ wr).drew).drew) hgrow (by rw[nl];exact hown') (by rw[nl];omega) (by rw[nl];omega);rw[e10]at gi;exact⟨m+c,rfl,c2,c5,gi.1,hit.trans gi.2⟩
  obtain rfl:m=A:=by omega
  go_wp2;go_ret;exact⟨rfl,hit⟩
def Be(s:ByteArray)(p idx group:Nat):Nat×Nat:=
 if idx<2*group then(idx,p)else((group+idx%group)*2^(idx/group-1)+numAt s p (idx/group-1),p+(idx/group-1))
theorem Qdz(w:World)(b:Nat)(s:ByteArray)(p idx:Nat)(hi:idx<=30)(hs:s.size<=maxLen)(hr:Rd w b s p): Calls Tryz.prog 246 #[.pointer (some ⟨b,0,none⟩),.int .i64 (idx:Int),.int .i64 4] w fun e w'=>e=.returned (.int .i64 ((Be s p idx 4).1:Nat))/\Rd w' b s (Be s p idx 4).2/\RN b w w':=by
 by_cases hlt:idx<2*4
 .have HE:Hid (Be s p idx 4=(idx,p)):=by unfold Hid Be;rw[if_pos hlt]
  go_enter Tryz.func246,Tryz.ntmps246;go_wp2;go_ret;rw[HE.out];exact⟨rfl,hr,RN.refl _ _⟩
 obtain⟨q,hq⟩:∃q,q=idx/4-1:=⟨_,rfl⟩;obtain⟨r,hrr⟩:∃r,r=idx%4:=⟨_,rfl⟩;have HE:Hid (Be s p idx 4=((4+r)*2^q+numAt s p q,p+q)):=by unfold Hid Be;rw[if_neg hlt,<-hq,<-hrr]
 have hq14:q<=14:=by omega
 have hr4:r<=3:=by omega
 have k1:(idx:Int)/4-1=(q:Int):=by omega
 have k2:(idx:Int)%4=(r:Int):=by omega
 have k3:(idx:Int).tmod 4=(r:Int):=by rw[Int.tmod_eq_emod_of_nonneg (by omega)];exact k2
 clear hq hrr;have p2:2^q<=2^14:=Nat.pow_le_pow_right (by omega) hq14;have n2:=Dl s p q;have wr1:∀n:Int,0<=n->n<4611686018427387904->IntKind.i64.wrap n=n:=by intro n h0 h1;simp[IntKind.wrap,IntKind.bits,IntKind.signed];omega
 have k4:IntKind.i64.wrap (r:Int)=(r:Int):=wr1 _ (by omega) (by omega);have k5:IntKind.i64.wrap (4+(r:Int))=4+(r:Int):=wr1 _ (by omega) (by omega);have m1:(4+r)*2^q<=7*2^14:=Nat.mul_le_mul (by omega) p2;obtain⟨X,hX⟩:∃X,X=(4+r)*2^q:=⟨_,rfl⟩;rw[<-hX]at m1 HE;have k6:(4+(r:Int))*2^q=(X:Int):=by rw[hX];push_cast;rfl
 clear hX;have k7:IntKind.i64.wrap (X:Int)=(X:Int):=wr1 _ (by omega) (by omega);have k8:IntKind.i64.wrap ((X:Int)+((numAt s p q:Nat):Int))=(X:Int)+((numAt s p q:Nat):Int):=wr1 _ (by omega) (by omega);have k9:(0:Int)<=(q:Int):=by omega
 have k10:¬(q:Int)<0:=by omega
 clear wr1;go_enter Tryz.func246,Tryz.ntmps246;go_wp2;go_region_held3 (fun _=>True) (trivial) (first|(go_at_call 82;refine(Eu b w.drew s p q _ rfl (by omega) hs hr.drew).mono ?_;rintro e w3 ⟨rfl,hrd3,hrt3⟩));all_goals go_wp2
 all_goals go_ret
 all_goals rw[HE.out]
 all_goals exact⟨by go_light;simp,hrd3,((RN.refl b w).drew).trans hrt3.rn⟩
theorem Qfn(w:World)(b:Nat)(s:ByteArray)(p idx:Nat)(hi:idx<=30)(hs:s.size<=maxLen)(hr:Rd w b s p): Calls Tryz.prog 246 #[.pointer (some ⟨b,0,none⟩),.int .i64 (idx:Int),.int .i64 2] w fun e w'=>e=.returned (.int .i64 ((Be s p idx 2).1:Nat))/\Rd w' b s (Be s p idx 2).2/\RN b w w':=by
 by_cases hlt:idx<2*2
 .have HE:Hid (Be s p idx 2=(idx,p)):=by unfold Hid Be;rw[if_pos hlt]
  go_enter Tryz.func246,Tryz.ntmps246;go_wp2;go_ret;rw[HE.out];exact⟨rfl,hr,RN.refl _ _⟩
 obtain⟨q,hq⟩:∃q,q=idx/2-1:=⟨_,rfl⟩;obtain⟨r,hrr⟩:∃r,r=idx%2:=⟨_,rfl⟩;have HE:Hid (Be s p idx 2=((2+r)*2^q+numAt s p q,p+q)):=by unfold Hid Be;rw[if_neg hlt,<-hq,<-hrr]
 have hq14:q<=14:=by omega
 have hr4:r<=3:=by omega
 have k1:(idx:Int)/2-1=(q:Int):=by omega
 have k2:(idx:Int)%2=(r:Int):=by omega
 have k3:(idx:Int).tmod 2=(r:Int):=by rw[Int.tmod_eq_emod_of_nonneg (by omega)];exact k2
 clear hq hrr;have p2:2^q<=2^14:=Nat.pow_le_pow_right (by omega) hq14;have n2:=Dl s p q;have wr1:∀n:Int,0<=n->n<4611686018427387904->IntKind.i64.wrap n=n:=by intro n h0 h1;simp[IntKind.wrap,IntKind.bits,IntKind.signed];omega
 have k4:IntKind.i64.wrap (r:Int)=(r:Int):=wr1 _ (by omega) (by omega);have k5:IntKind.i64.wrap (2+(r:Int))=2+(r:Int):=wr1 _ (by omega) (by omega);have m1:(2+r)*2^q<=7*2^14:=Nat.mul_le_mul (by omega) p2;obtain⟨X,hX⟩:∃X,X=(2+r)*2^q:=⟨_,rfl⟩;rw[<-hX]at m1 HE;have k6:(2+(r:Int))*2^q=(X:Int):=by rw[hX];push_cast;rfl
 clear hX;have k7:IntKind.i64.wrap (X:Int)=(X:Int):=wr1 _ (by omega) (by omega);have k8:IntKind.i64.wrap ((X:Int)+((numAt s p q:Nat):Int))=(X:Int)+((numAt s p q:Nat):Int):=wr1 _ (by omega) (by omega);have k9:(0:Int)<=(q:Int):=by omega
 have k10:¬(q:Int)<0:=by omega
 clear wr1;go_enter Tryz.func246,Tryz.ntmps246;go_wp2;go_region_held3 (fun _=>True) (trivial) (first|(go_at_call 82;refine(Eu b w.drew s p q _ rfl (by omega) hs hr.drew).mono ?_;rintro e w3 ⟨rfl,hrd3,hrt3⟩));all_goals go_wp2
 all_goals go_ret
 all_goals rw[HE.out]
 all_goals exact⟨by go_light;simp,hrd3,((RN.refl b w).drew).trans hrt3.rn⟩
def lengthOf(s:ByteArray)(q x:Nat):Nat×Nat:=if x=285 then(258,q)else(3+(Be s q (x-257) 4).1,(Be s q (x-257) 4).2)
def Di(D:List Nat)(s:ByteArray)(q:Nat)(out:List UInt8)(most x:Nat):Sum Nat (List UInt8×Nat):=
 if 285<x then .inl 1 else
 match dec D s (lengthOf s q x).2 with
 |none=>.inl 1
 |some (y,q2)=>
  if 29<y then .inl 1
  else if 8*s.size<(Be s q2 y 2).2\/out.length<1+(Be s q2 y 2).1 then .inl 1
  else if most<out.length+(lengthOf s q x).1 then .inl 2
  else .inr (Cf out (out.length-(1+(Be s q2 y 2).1)) (1+(Be s q2 y 2).1) (lengthOf s q x).1,(Be s q2 y 2).2)
def Ij(b:Nat)(s:ByteArray)(most:Nat)(w:World)(r:Sum Nat (List UInt8×Nat))(e:Ending)(w':World):Prop:=
 IT b w w'/\match r with
 |.inl k=>e=.returned (.int .i64 (k:Int))
 |.inr (out,q)=>e=.returned (.int .i64 0)/\Inf w' b s q out most
theorem Lh(s:ByteArray)(p idx group:Nat):p<=(Be s p idx group).2:=by
 unfold Be;split;.exact Nat.le_refl _
 exact Nat.le_add_right _ _
theorem Zj(s:ByteArray)(p idx:Nat)(h:idx<=27):(Be s p idx 4).1<=255:=by
 unfold Be;by_cases h1:idx<2*4;.rw[if_pos h1];show idx<=255;omega
 rw[if_neg h1];show(4+idx%4)*2^(idx/4-1)+numAt s p (idx/4-1)<=255;have n2:=Dl s p (idx/4-1);have h2:idx/4-1<=5:=by omega
 have p2:2^(idx/4-1)<=2^5:=Nat.pow_le_pow_right (by omega) h2;have m1:(4+idx%4)*2^(idx/4-1)<=7*2^(idx/4-1):=Nat.mul_le_mul_right _ (by omega);generalize 2^(idx/4-1)=z at *;generalize (4+idx%4)*z=u at *;omega
theorem Uc(s:ByteArray)(p idx:Nat)(h:idx<=30):(Be s p idx 2).1<=65536:=by
 unfold Be;by_cases h1:idx<2*2;.rw[if_pos h1];show idx<=65536;omega
 rw[if_neg h1];show(2+idx%2)*2^(idx/2-1)+numAt s p (idx/2-1)<=65536;have n2:=Dl s p (idx/2-1);have h2:idx/2-1<=14:=by omega
 have p2:2^(idx/2-1)<=2^14:=Nat.pow_le_pow_right (by omega) h2;have m1:(2+idx%2)*2^(idx/2-1)<=3*2^(idx/2-1):=Nat.mul_le_mul_right _ (by omega);generalize 2^(idx/2-1)=z at *;generalize (2+idx%2)*z=u at *;omega
theorem Qbi(w:World)(b:Nat)(s:ByteArray)(p idx:Nat)(N:Int)(hN:N=(idx:Int))(R:Nat×Nat)(hR:Be s p idx 4=R)(hi:idx<=30)(hs:s.size<=maxLen)(hr:Rd w b s p): Calls Tryz.prog 246 #[.pointer (some ⟨b,0,none⟩),.int .i64 N,.int .i64 4] w fun e w'=>e=.returned (.int .i64 (R.1:Int))/\Rd w' b s R.2/\RN b w w':=by
 subst hN hR;exact Qdz w b s p idx hi hs hr
theorem mV(w:World)(b:Nat)(s:ByteArray)(p idx:Nat)(N:Int)(hN:N=(idx:Int))(R:Nat×Nat)(hR:Be s p idx 2=R)(hi:idx<=30)(hs:s.size<=maxLen)(hr:Rd w b s p): Calls Tryz.prog 246 #[.pointer (some ⟨b,0,none⟩),.int .i64 N,.int .i64 2] w fun e w'=>e=.returned (.int .i64 (R.1:Int))/\Rd w' b s R.2/\RN b w w':=by
 subst hN hR;exact Qfn w b s p idx hi hs hr
theorem oC(b:Nat)(w:World)(s:ByteArray)(p:Nat)(out:List UInt8)(most:Nat)(place d n:Nat)(PL NN:Int)(hPL:PL=(place:Int))(hNN:NN=(n:Int))(h:Inf w b s p out most)(hd:0<d)(hp:place+d=out.length)(hn:n<=258)(hroom:out.length+n<=most)(hfew:out.length+n<=258*p)(hpp:p<=17179869184): Calls Tryz.prog 247 #[.pointer (some ⟨b,0,none⟩),.int .i64 PL,.int .i64 NN] w fun e w'=>e=.returned (.int .i64 0)/\Inf w' b s p (Cf out place d n) most/\IT b w w':=by
 subst hPL hNN;exact Qf9 b w s p out most place d n h hd hp hn hroom hfew hpp
theorem eY(b:Nat)(w:World)(s:ByteArray)(p:Nat)(out:List UInt8)(most:Nat)(place d n:Nat)(PL NN:Int)(hPL:PL=(place:Int))(hNN:NN=(n:Int))(h:Inf w b s p out most)(hd:0<d)(hp:place+d=out.length)(hn:n<=258)(hroom:most<out.length+n)(hfew:out.length+n<=258*p)(hpp:p<=17179869184): Calls Tryz.prog 247 #[.pointer (some ⟨b,0,none⟩),.int .i64 PL,.int .i64 NN] w fun e w'=>e=.returned (.int .i64 2)/\IT b w w':=by
 subst hPL hNN;exact Qbo b w s p out most place d n h hd hp hn hroom hfew hpp
theorem Qbr(b:Nat)(w:World)(s:ByteArray)(q:Nat)(out:List UInt8)(most x cb off nb cp:Nat)(D:List Nat)(hs:s.size<=2147483648)(h:Inf w b s q out most)(hx:257<=x)(hx2:x<=287)(hc:Ic w cb off nb cp D)(h1:cb≠b)(h2:nb≠b)(hfew:out.length+258<=258*q): Calls Tryz.prog 203 #[.pointer (some ⟨b,0,none⟩),.int .i64 (x:Int),.pointer (some ⟨cb,off,none⟩)] w (Ij b s most w (Di D s q out most x)):=by
 have hsm:s.size<=maxLen:=by unfold maxLen;omega
 obtain⟨R,hR⟩:∃R,R=Di D s q out most x:=⟨_,rfl⟩;have HR:Hid (R=Di D s q out most x):=hR;rw[<-hR];clear hR;unfold Di at HR;have hlt:=h.lt;by_cases c1:285<x
 .have HE:Hid (R=.inl 1):=by unfold Hid;rw[HR.out,if_pos c1]
  go_enter Tryz.func203,Tryz.ntmps203;go_wp2;go_ret;exact⟨IT.refl _ _,by rw[HE.out];rfl⟩
 have hh:=HR.out;rw[if_neg c1]at hh;have HR':Hid (R=_):=hh;clear HR hh;by_cases c2:x=285
 .have HL:Hid (lengthOf s q x=(258,q)):=by unfold Hid lengthOf;rw[if_pos c2]
  go_enter Tryz.func203,Tryz.ntmps203;go_wp2_with fail;have hcw:Ic w cb off nb cp D:=hc.keep (RN.refl b w).t h1 h2;cases hd:dec D s q with
  |none=>
   have HE:Hid (R=.inl 1):=by unfold Hid;rw[HR'.out,HL.out,hd]
   refine(Xm _ _ _ _ _ _ D s _ hsm hcw h.rd h1 h2 hd).mono ?_;rintro e w2 ⟨rfl,t2⟩;clear hd HR';go_wp2;go_ret;exact⟨IT.Qo ((RN.refl b w).trans t2.rn),by rw[HE.out];rfl⟩
  |some yq=>
   obtain⟨y,q2⟩:=yq;have hy:=dec_lt hd;have hh:=HR'.out;rw[HL.out,hd]at hh;have HR:Hid (R=_):=hh;refine(Et _ _ _ _ _ _ D s _ y q2 hsm hcw h.rd h1 h2 hd).mono ?_;rintro e w2 ⟨rfl,r2,t2⟩;clear hd HR' hh;have RN2:=(RN.refl b w).trans t2.rn;by_cases c3:29<y
   .have HE:Hid (R=.inl 1):=(by unfold Hid;rw[HR.out];show(if 29<y then _ else _)=_;rw[if_pos c3]);go_wp2;go_ret;exact⟨IT.Qo RN2,by rw[HE.out];rfl⟩
   have hh:=HR.out;change R=(if 29<y then _ else _)at hh;rw[if_neg c3]at hh;obtain⟨R2,hR2⟩:∃R2,Be s q2 y 2=R2:=⟨_,rfl⟩;have bd2:=Uc s q2 y (by omega);have le2:=Lh s q2 y 2;rw[hR2]at hh bd2 le2;have HR':Hid (R=_):=hh;have HR2:Hid (Be s q2 y 2=R2):=hR2;clear HR hh hR2;have hy30:y<=30:=by omega
   go_wp2_with fail;refine(mV w2 b s q2 y _ rfl R2 HR2.out hy30 hsm r2).mono ?_;rintro e w3 ⟨rfl,r3,t3⟩;have RN3:=RN2.trans t3;have hin:=h.read r3 RN3 (by omega);obtain⟨ao,cap,h5,ho⟩:=hin.gv;have z4:=r3.c4;obtain⟨f,hf⟩:∃f,f=R2.1:=⟨_,rfl⟩;obtain⟨q3,hq3⟩:∃q3,q3=R2.2:=⟨_,rfl⟩;have hh:=HR'.out;rw[<-hf,<-hq3]at hh;rw[<-hf]at bd2 ⊢;rw[<-hq3]at le2 z4 hin;have HR:Hid (R=_):=hh;clear HR' hh hf hq3 HR2;by_cases c4:8*s.size<q3\/out.length<1+f
   .have HE:Hid (R=.inl 1):=(by unfold Hid;rw[HR.out,if_pos c4]);by_cases c5:8*s.size<q3
    .go_wp2;go_ret;exact⟨IT.Qo RN3,by rw[HE.out];rfl⟩
    have c6:out.length<1+f:=(by omega);go_wp2;go_ret;exact⟨IT.Qo RN3,by rw[HE.out];rfl⟩
   have c5:¬8*s.size<q3:=by omega
   have c6:1+f<=out.length:=by omega
   have hh:=HR.out;rw[if_neg c4]at hh;have HR':Hid (R=_):=hh;clear HR hh c4;by_cases c7:most<out.length+(258)
   .have HE:Hid (R=.inl 2):=(by unfold Hid;rw[HR'.out,if_pos c7]);go_wp2_with fail;refine(eY b w3 s q3 out most (out.length-(1+f)) (1+f) (258) _ _ (by omega) (by omega) hin (by omega) (by omega) (by omega) c7 (by omega) (by omega)).mono ?_;rintro e w4 ⟨rfl,t4⟩;go_wp2;go_ret;exact⟨(IT.Qo RN3).trans t4,by rw[HE.out];rfl⟩
   have HE:Hid (R=.inr (Cf out (out.length-(1+f)) (1+f) (258),q3)):=by unfold Hid;rw[HR'.out,if_neg c7]
   go_wp2_with fail;refine(oC b w3 s q3 out most (out.length-(1+f)) (1+f) (258) _ _ (by omega) (by omega) hin (by omega) (by omega) (by omega) (by omega) (by omega) (by omega)).mono ?_;rintro e w4 ⟨rfl,i4,t4⟩;go_wp2;go_ret;exact⟨(IT.Qo RN3).trans t4,by rw[HE.out];exact⟨rfl,i4⟩⟩
 have hx284:x-257<=27:=by omega
 obtain⟨R4,hR4⟩:∃R4,Be s q (x-257) 4=R4:=⟨_,rfl⟩;have bd4:=Zj s q (x-257) hx284;have le4:=Lh s q (x-257) 4;rw[hR4]at bd4 le4;have HL0:Hid (lengthOf s q x=(3+R4.1,R4.2)):=by unfold Hid lengthOf;rw[if_neg c2,hR4]
 have HR4:Hid (Be s q (x-257) 4=R4):=hR4;clear hR4;go_enter Tryz.func203,Tryz.ntmps203;go_wp2_with fail;refine(Qbi w b s q (x-257) _ (by omega) R4 HR4.out (by omega) hsm h.rd).mono ?_;rintro e w1 ⟨rfl,r1,t1⟩;obtain⟨l4,hl4⟩:∃l4,l4=R4.1:=⟨_,rfl⟩;obtain⟨q1,hq1⟩:∃q1,q1=R4.2:=⟨_,rfl⟩;have hhl:=HL0.out;rw[<-hl4,<-hq1]at hhl;have HL:Hid (lengthOf s q x=(3+l4,q1)):=hhl;rw[<-hl4]at bd4 ⊢;rw[<-hq1]at le4 r1;clear HL0 HR4 hhl hl4 hq1;go_wp2_with fail;have hcw:Ic w1 cb off nb cp D:=hc.keep (t1).t h1 h2;cases hd:dec D s q1 with
 |none=>
  have HE:Hid (R=.inl 1):=by unfold Hid;rw[HR'.out,HL.out,hd]
  refine(Xm _ _ _ _ _ _ D s _ hsm hcw r1 h1 h2 hd).mono ?_;rintro e w2 ⟨rfl,t2⟩;clear hd HR';go_wp2;go_ret;exact⟨IT.Qo ((t1).trans t2.rn),by rw[HE.out];rfl⟩
 |some yq=>
  obtain⟨y,q2⟩:=yq;have hy:=dec_lt hd;have hh:=HR'.out;rw[HL.out,hd]at hh;have HR:Hid (R=_):=hh;refine(Et _ _ _ _ _ _ D s _ y q2 hsm hcw r1 h1 h2 hd).mono ?_;rintro e w2 ⟨rfl,r2,t2⟩;clear hd HR' hh;have RN2:=(t1).trans t2.rn;by_cases c3:29<y
  .have HE:Hid (R=.inl 1):=by unfold Hid;rw[HR.out];show(if 29<y then _ else _)=_;rw[if_pos c3]
   go_wp2;go_ret;exact⟨IT.Qo RN2,by rw[HE.out];rfl⟩
  have hh:=HR.out;change R=(if 29<y then _ else _)at hh;rw[if_neg c3]at hh;obtain⟨R2,hR2⟩:∃R2,Be s q2 y 2=R2:=⟨_,rfl⟩;have bd2:=Uc s q2 y (by omega);have le2:=Lh s q2 y 2;rw[hR2]at hh bd2 le2;have HR':Hid (R=_):=hh;have HR2:Hid (Be s q2 y 2=R2):=hR2;clear HR hh hR2;have hy30:y<=30:=by omega
  go_wp2_with fail;refine(mV w2 b s q2 y _ rfl R2 HR2.out hy30 hsm r2).mono ?_;rintro e w3 ⟨rfl,r3,t3⟩;have RN3:=RN2.trans t3;have hin:=h.read r3 RN3 (by omega);obtain⟨ao,cap,h5,ho⟩:=hin.gv;have z4:=r3.c4;obtain⟨f,hf⟩:∃f,f=R2.1:=⟨_,rfl⟩;obtain⟨q3,hq3⟩:∃q3,q3=R2.2:=⟨_,rfl⟩;have hh:=HR'.out;rw[<-hf,<-hq3]at hh;rw[<-hf]at bd2 ⊢;rw[<-hq3]at le2 z4 hin;have HR:Hid (R=_):=hh;clear HR' hh hf hq3 HR2;by_cases c4:8*s.size<q3\/out.length<1+f
  .have HE:Hid (R=.inl 1):=by unfold Hid;rw[HR.out,if_pos c4]
   by_cases c5:8*s.size<q3
   .go_wp2;go_ret;exact⟨IT.Qo RN3,by rw[HE.out];rfl⟩
   have c6:out.length<1+f:=by omega
   go_wp2;go_ret;exact⟨IT.Qo RN3,by rw[HE.out];rfl⟩
  have c5:¬8*s.size<q3:=by omega
  have c6:1+f<=out.length:=by omega
  have hh:=HR.out;rw[if_neg c4]at hh;have HR':Hid (R=_):=hh;clear HR hh c4;by_cases c7:most<out.length+(3+l4)
  .have HE:Hid (R=.inl 2):=by unfold Hid;rw[HR'.out,if_pos c7]
   go_wp2_with fail;refine(eY b w3 s q3 out most (out.length-(1+f)) (1+f) (3+l4) _ _ (by omega) (by omega) hin (by omega) (by omega) (by omega) c7 (by omega) (by omega)).mono ?_;rintro e w4 ⟨rfl,t4⟩;go_wp2;go_ret;exact⟨(IT.Qo RN3).trans t4,by rw[HE.out];rfl⟩
  have HE:Hid (R=.inr (Cf out (out.length-(1+f)) (1+f) (3+l4),q3)):=by unfold Hid;rw[HR'.out,if_neg c7]
  go_wp2_with fail;refine(oC b w3 s q3 out most (out.length-(1+f)) (1+f) (3+l4) _ _ (by omega) (by omega) hin (by omega) (by omega) (by omega) (by omega) (by omega) (by omega)).mono ?_;rintro e w4 ⟨rfl,i4,t4⟩;go_wp2;go_ret;exact⟨(IT.Qo RN3).trans t4,by rw[HE.out];exact⟨rfl,i4⟩⟩
def Bz(L D:List Nat)(s:ByteArray)(most:Nat):Nat->Nat->List UInt8->Sum Nat (List UInt8×Nat)
 |0,_,_=>.inl 1
 |f+1,p,out=>
  match dec L s p with
  |none=>.inl 1
  |some (x,q)=>
   if x=256 then .inr (out,q)
   else if x<256 then(if most<=out.length then .inl 2 else Bz L D s most f q (out++[UInt8.ofNat x]))
   else match Di D s q out most x with
    |.inl e=>.inl e
    |.inr (o,q')=>Bz L D s most f q' o
theorem Lp(L D:List Nat)(s:ByteArray)(most f p:Nat)(out:List UInt8)(h:dec L s p=none):Bz L D s most (f+1) p out=.inl 1:=by simp only[Bz,h]
theorem Lj(L D:List Nat)(s:ByteArray)(most f p x q:Nat)(out:List UInt8)(h:dec L s p=some (x,q)):Bz L D s most (f+1) p out =if x=256 then .inr (out,q)else if x<256 then(if most<=out.length then .inl 2 else Bz L D s most f q (out++[UInt8.ofNat x]))else match Di D s q out most x with
    |.inl e=>.inl e
    |.inr (o,q')=>Bz L D s most f q' o:=by simp only[Bz,h]
theorem vH(b:Nat)(w:World)(s:ByteArray)(p:Nat)(out:List UInt8)(most:Nat)(c:UInt8)(C:Int)(hC:C=(c.toNat:Int))(h:Inf w b s p out most)(hroom:out.length<most)(hfew:out.length+1<=258*p)(hp:p<=17179869184): Calls Tryz.prog 202 #[.pointer (some ⟨b,0,none⟩),.int .u8 C] w fun e w'=>e=.returned (.int .i64 0)/\Inf w' b s p (out++[c]) most/\IT b w w':=by
 subst hC;exact Qcd b w s p out most c h hroom hfew hp
theorem byte_of(x:Nat)(h:x<256):(x:Int)=((UInt8.ofNat x).toNat:Int):=by
 have:(UInt8.ofNat x).toNat=x:=by simp[UInt8.toNat_ofNat'];omega
 rw[this]
theorem nZ(b:Nat)(w:World)(s:ByteArray)(q:Nat)(out:List UInt8)(most x cb off nb cp:Nat)(D:List Nat)(R:Sum Nat (List UInt8×Nat))(hR:Di D s q out most x=R)(hs:s.size<=2147483648)(h:Inf w b s q out most)(hx:257<=x)(hx2:x<=287)(hc:Ic w cb off nb cp D)(h1:cb≠b)(h2:nb≠b)(hfew:out.length+258<=258*q): Calls Tryz.prog 203 #[.pointer (some ⟨b,0,none⟩),.int .i64 (x:Int),.pointer (some ⟨cb,off,none⟩)] w (Ij b s most w R):=by
 subst hR;exact Qbr b w s q out most x cb off nb cp D hs h hx hx2 hc h1 h2 hfew
theorem uS(s:ByteArray)(q x:Nat):q<=(lengthOf s q x).2:=by
 unfold lengthOf;by_cases h:x=285;.rw[if_pos h];exact Nat.le_refl _
 have e:=Lh s q (x-257) 4;generalize Be s q (x-257) 4=R at *;rw[if_neg h];exact e
theorem Wh(D:List Nat)(s:ByteArray)(q:Nat)(out:List UInt8)(most x:Nat)(o:List UInt8)(q':Nat)(h:Di D s q out most x=.inr (o,q')):q'<=8*s.size/\q<q':=by
 unfold Di at h;by_cases c1:285<x;.rw[if_pos c1]at h;cases h
 rw[if_neg c1]at h;cases hd:dec D s (lengthOf s q x).2 with
 |none=>rw[hd]at h;cases h
 |some yq=>
  obtain⟨y,q2⟩:=yq;have hy:=dec_lt hd;rw[hd]at h;change(if 29<y then _ else _)=_ at h;by_cases c3:29<y;.rw[if_pos c3]at h;cases h
  rw[if_neg c3]at h;by_cases c4:8*s.size<(Be s q2 y 2).2\/out.length<1+(Be s q2 y 2).1;.rw[if_pos c4]at h;cases h
  rw[if_neg c4]at h;by_cases c5:most<out.length+(lengthOf s q x).1;.rw[if_pos c5]at h;cases h
  rw[if_neg c5]at h;simp only[Sum.inr.injEq,Prod.mk.injEq]at h;obtain⟨_,rfl⟩:=h;have l1:=uS s q x;have l2:=Lh s q2 y 2;omega
theorem Uw(D:List Nat)(s:ByteArray)(q:Nat)(out:List UInt8)(most x:Nat)(k:Nat)(h:Di D s q out most x=.inl k):k=1\/k=2:=by
 unfold Di at h;by_cases c1:285<x;.rw[if_pos c1]at h;cases h;exact Or.inl rfl
 rw[if_neg c1]at h;cases hd:dec D s (lengthOf s q x).2 with
 |none=>rw[hd]at h;cases h;exact Or.inl rfl
 |some yq=>
  obtain⟨y,q2⟩:=yq;rw[hd]at h;change(if 29<y then _ else _)=_ at h;by_cases c3:29<y;.rw[if_pos c3]at h;cases h;exact Or.inl rfl
  rw[if_neg c3]at h;by_cases c4:8*s.size<(Be s q2 y 2).2\/out.length<1+(Be s q2 y 2).1;.rw[if_pos c4]at h;cases h;exact Or.inl rfl
  rw[if_neg c4]at h;by_cases c5:most<out.length+(lengthOf s q x).1;.rw[if_pos c5]at h;cases h;exact Or.inr rfl
  rw[if_neg c5]at h;cases h
theorem Nl.drew{w:World}{fb n1 c1 n2 c2:Nat}{L D:List Nat}(h:Nl w fb n1 c1 n2 c2 L D):Nl w.drew fb n1 c1 n2 c2 L D:=h.Oy (S:=fun _=>False) ((Touch.refl _ w).drew) (fun e=>e) (fun e=>e) (fun e=>e)
theorem IT.drew{b:Nat}{x y:World}(h:IT b x y):IT b x y.drew:=Touch.drew h
theorem Qhr(b:Nat)(w:World)(s:ByteArray)(p:Nat)(out:List UInt8)(most cb n1 c1 n2 c2:Nat)(L D:List Nat)(hs:s.size<=2147483648)(h:Inf w b s p out most)(hp:p<=8*s.size)(hc:Nl w cb n1 c1 n2 c2 L D)(h0:b<cb)(h1:b<n1)(h2:b<n2)(hL:L.length<=288)(f:Nat)(hf:8*s.size+1<=p+f): Calls Tryz.prog 135 #[.pointer (some ⟨b,0,none⟩),.pointer (some ⟨cb,0,none⟩)] w (Ij b s most w (Bz L D s most f p out)):=by
 have hsm:s.size<=maxLen:=by unfold maxLen;omega
 obtain⟨R,hR⟩:∃R,R=Bz L D s most f p out:=⟨_,rfl⟩;have HR0:Hid (R=Bz L D s most f p out):=hR;rw[<-hR];clear hR;go_enter Tryz.func135,Tryz.ntmps135;go_wp2;go_loopg [] f (fun g wr=>∃p out,Inf wr b s p out most/\p<=8*s.size/\8*s.size+1<=p+g/\IT b w wr/\Hid (R=Bz L D s most g p out))
 case atStart=>exact⟨p,out,h,hp,hf,IT.refl _ _,HR0⟩
 case round=>
  clear HR0 h hp hf;obtain⟨p,out,hin,hp,hf,hit,HR⟩:=hrel;obtain⟨g,rfl⟩:∃g,gk=g+1:=⟨gk-1,by omega⟩;have hcw:=(hc.Qam hit h0 h1 h2).drew;have hrd:=hin.rd.drew;have hfew:=hin.few;cases hd:dec L s p with
  |none=>
   have HE:Hid (R=.inl 1):=by unfold Hid;rw[HR.out,Lp _ _ _ _ _ _ _ hd]
   have HD:Hid (dec L s p=none):=hd;clear hd;go_wp2;go_region_held3 (fun _=>True) (trivial) (first|(go_at_call 201;refine(Xm _ _ _ _ _ _ L s p hsm hcw.lt hrd (by omega) (by omega) HD.out).mono ?_;rintro e w2 ⟨rfl,t2⟩));all_goals go_wp2
   all_goals go_ret
   all_goals exact⟨hit.drew.trans (IT.Qc1 t2),by rw[HE.out];rfl⟩
  |some xq=>
   obtain⟨x,q⟩:=xq;have hx:=dec_lt hd;have hh:=HR.out;rw[Lj _ _ _ _ _ _ _ _ _ hd]at hh;have HS:Hid (R=_):=hh;have HD:Hid (dec L s p=some (x,q)):=hd;clear hd HR hh;by_cases x1:x=256
   .have HE:Hid (R=.inr (out,q)):=(by unfold Hid;rw[HS.out,if_pos x1]);go_wp2;go_region_held3 (fun _=>True) (trivial) (first|(go_at_call 201;refine(Et _ _ _ _ _ _ L s p x q hsm hcw.lt hrd (by omega) (by omega) HD.out).mono ?_;rintro e w2 ⟨rfl,r2,t2⟩));all_goals go_wp2
    all_goals go_ret
    all_goals exact⟨hit.drew.trans (IT.Qc1 t2),by rw[HE.out];exact⟨rfl,hin.read r2 (((RN.refl b wr).drew).trans t2.rn) (by omega)⟩⟩
   by_cases x2:x<256
   .by_cases x3:most<=out.length
    .have HE:Hid (R=.inl 2):=(by unfold Hid;rw[HS.out,if_neg x1,if_pos x2,if_pos x3]);have hft:=hin.fit;go_wp2;go_region_held3 (fun _=>True) (trivial) (first|(go_at_call 201;refine(Et _ _ _ _ _ _ L s p x q hsm hcw.lt hrd (by omega) (by omega) HD.out).mono ?_;rintro e w2 ⟨rfl,r2,t2⟩));all_goals
      have i2:=hin.read r2 (((RN.refl b wr).drew).trans t2.rn) (by omega);go_wp2_with (go_at_call 202;refine(uI b w2 s q out most _ i2 (by omega)).mono ?_;rintro e w3 ⟨rfl,t3⟩);go_ret;exact⟨(hit.drew.trans (IT.Qc1 t2)).trans t3,by rw[HE.out];rfl⟩
    have HE:Hid (R=Bz L D s most g q (out++[UInt8.ofNat x])):=(by unfold Hid;rw[HS.out,if_neg x1,if_pos x2,if_neg x3]);go_wp2;go_region_held3 (fun _=>True) (trivial) (first|(go_at_call 201;refine(Et _ _ _ _ _ _ L s p x q hsm hcw.lt hrd (by omega) (by omega) HD.out).mono ?_;rintro e w2 ⟨rfl,r2,t2⟩));all_goals
     have i2:=hin.read r2 (((RN.refl b wr).drew).trans t2.rn) (by omega);go_wp2_with (go_at_call 202;refine(vH b w2 s q out most (UInt8.ofNat x) _ (byte_of x x2) i2 (by omega) (by omega) (by omega)).mono ?_;rintro e w3 ⟨rfl,i3,t3⟩);go_roundg g
     case measure=>omega
     case rel=>exact⟨q,_,i3,hx.2.1,by omega,(hit.drew.trans (IT.Qc1 t2)).trans t3,HE⟩
   cases hq:Di D s q out most x with
   |inl k=>
    have HE:Hid (R=.inl k):=(by unfold Hid;rw[HS.out,if_neg x1,if_neg x2,hq]);have hk:=Uw _ _ _ _ _ _ _ hq;have HQ:Hid (Di D s q out most x=.inl k):=hq;have hk0:¬k=0:=(by omega);clear hq HS;go_wp2;go_region_held3 (fun _=>True) (trivial) (first|(go_at_call 201;refine(Et _ _ _ _ _ _ L s p x q hsm hcw.lt hrd (by omega) (by omega) HD.out).mono ?_;rintro e w2 ⟨rfl,r2,t2⟩));all_goals
     have i2:=hin.read r2 (((RN.refl b wr).drew).trans t2.rn) (by omega);have d2:=hcw.Oy t2.t (by show¬cb=b;omega) (by show¬n1=b;omega) (by show¬n2=b;omega);go_wp2_with (go_at_call 203;refine(nZ b w2 s q out most x cb 17 n2 c2 D _ HQ.out hs i2 (by omega) (by omega) d2.ds (by omega) (by omega) (by omega)).mono ?_;rintro e w3 ⟨t3,rfl⟩);go_ret;exact⟨(hit.drew.trans (IT.Qc1 t2)).trans t3,by rw[HE.out];rfl⟩
   |inr oq=>
    obtain⟨o,q'⟩:=oq;have HE:Hid (R=Bz L D s most g q' o):=(by unfold Hid;rw[HS.out,if_neg x1,if_neg x2,hq]);have hle:=Wh _ _ _ _ _ _ _ _ hq;have HQ:Hid (Di D s q out most x=.inr (o,q')):=hq;clear hq HS;go_wp2;go_region_held3 (fun _=>True) (trivial) (first|(go_at_call 201;refine(Et _ _ _ _ _ _ L s p x q hsm hcw.lt hrd (by omega) (by omega) HD.out).mono ?_;rintro e w2 ⟨rfl,r2,t2⟩));all_goals
     have i2:=hin.read r2 (((RN.refl b wr).drew).trans t2.rn) (by omega);have d2:=hcw.Oy t2.t (by show¬cb=b;omega) (by show¬n1=b;omega) (by show¬n2=b;omega);go_wp2_with (go_at_call 203;refine(nZ b w2 s q out most x cb 17 n2 c2 D _ HQ.out hs i2 (by omega) (by omega) d2.ds (by omega) (by omega) (by omega)).mono ?_;rintro e w3 ⟨t3,rfl,i3⟩);go_roundg g
     case measure=>omega
     case rel=>exact⟨q',o,i3,hle.1,by omega,(hit.drew.trans (IT.Qc1 t2)).trans t3,HE⟩
end Go.Proofs.YtmhlkdlcpicekaaGreatDoor
