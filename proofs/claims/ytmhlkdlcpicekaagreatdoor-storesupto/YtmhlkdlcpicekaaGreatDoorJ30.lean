/- Joined. -/
import Derived.Test.YtmhlkdlcpicekaaGreatDoorJ17
set_option linter.unusedSimpArgs false
set_option linter.unusedVariables false
set_option maxRecDepth 100000
set_option maxHeartbeats 20000000
namespace Go.Proofs.YtmhlkdlcpicekaaGreatDoor
open Go.RowKit
theorem Qdm(w:World)(s:ByteArray)(E p:Nat)(hE:E<=s.size)(hp:p<=s.size)(hs:s.size<=140737488355328)(hm0:Ig s E p≠none): Calls Tryz.prog 155 #[.string s,.int .i64 (p:Int),.int .i64 (E:Int)] w fun r w'=>Oe (Ig s E p) r/\Touch (fun _=>False) w w':=by
 obtain⟨R,hR⟩:∃R,R=Ig s E p:=⟨_,rfl⟩;rw[<-hR];rw[<-hR]at hm0;have HM:Hid (R≠none):=hm0;clear hm0;have HE0:Hid (Zt s E p\/R=none):=by
  unfold Hid;rw[hR];by_cases h:Zt s E p;.exact .inl h
  exact .inr (Yp s E p h)
 have HREF:=fun h=>nI s E p hE h;have HFP:Hid (Zt s E p↔p+46<=E/\p+46+Aa s (p+28) 2+Aa s (p+30) 2+Aa s (p+32) 2<=E/\Eg s p 1 2=true):=Iff.rfl;rw[<-hR]at HREF;have H3:Hid (p+46<=E->(Aa (s.extract (p+16) (p+28)) 0 4,Aa (s.extract (p+16) (p+28)) 4 4,Aa (s.extract (p+16) (p+28)) 8 4)=(Aa s (p+16) 4,Aa s (p+20) 4,Aa s (p+24) 4)):=by
  intro h46;rw[Fz s (p+16) (p+28) 0 4 (by omega) (by omega),Fz s (p+16) (p+28) 4 4 (by omega) (by omega),Fz s (p+16) (p+28) 8 4 (by omega) (by omega)]
 obtain⟨n28,hn28⟩:∃n,n=Aa s (p+28) 2:=⟨_,rfl⟩;have l28:=Bj s (p+28) 2;have H28:Hid (∀(W:World) (A N:Int),p+46<=E->A=(p:Int)+28->N=2->Calls Tryz.prog 224 #[.string s,.int .i64 A,.int .i64 N] W fun e w'=>e=.returned (.int .i64 (n28:Int))/\W=w'):=fun W A N h h1 h2=>by rw[hn28];exact Au W s (p+28) 2 A N (by omega) (by omega) hs (by omega) (by omega) (by omega)
 rw[<-hn28]at l28;obtain⟨n30,hn30⟩:∃n,n=Aa s (p+30) 2:=⟨_,rfl⟩;have l30:=Bj s (p+30) 2;have H30:Hid (∀(W:World) (A N:Int),p+46<=E->A=(p:Int)+30->N=2->Calls Tryz.prog 224 #[.string s,.int .i64 A,.int .i64 N] W fun e w'=>e=.returned (.int .i64 (n30:Int))/\W=w'):=fun W A N h h1 h2=>by rw[hn30];exact Au W s (p+30) 2 A N (by omega) (by omega) hs (by omega) (by omega) (by omega)
 rw[<-hn30]at l30;obtain⟨n32,hn32⟩:∃n,n=Aa s (p+32) 2:=⟨_,rfl⟩;have l32:=Bj s (p+32) 2;have H32:Hid (∀(W:World) (A N:Int),p+46<=E->A=(p:Int)+32->N=2->Calls Tryz.prog 224 #[.string s,.int .i64 A,.int .i64 N] W fun e w'=>e=.returned (.int .i64 (n32:Int))/\W=w'):=fun W A N h h1 h2=>by rw[hn32];exact Au W s (p+32) 2 A N (by omega) (by omega) hs (by omega) (by omega) (by omega)
 rw[<-hn32]at l32;obtain⟨n8,hn8⟩:∃n,n=Aa s (p+8) 2:=⟨_,rfl⟩;have l8:=Bj s (p+8) 2;have H8:Hid (∀(W:World) (A N:Int),p+46<=E->A=(p:Int)+8->N=2->Calls Tryz.prog 224 #[.string s,.int .i64 A,.int .i64 N] W fun e w'=>e=.returned (.int .i64 (n8:Int))/\W=w'):=fun W A N h h1 h2=>by rw[hn8];exact Au W s (p+8) 2 A N (by omega) (by omega) hs (by omega) (by omega) (by omega)
 rw[<-hn8]at l8;obtain⟨n10,hn10⟩:∃n,n=Aa s (p+10) 2:=⟨_,rfl⟩;have l10:=Bj s (p+10) 2;have H10:Hid (∀(W:World) (A N:Int),p+46<=E->A=(p:Int)+10->N=2->Calls Tryz.prog 224 #[.string s,.int .i64 A,.int .i64 N] W fun e w'=>e=.returned (.int .i64 (n10:Int))/\W=w'):=fun W A N h h1 h2=>by rw[hn10];exact Au W s (p+10) 2 A N (by omega) (by omega) hs (by omega) (by omega) (by omega)
 rw[<-hn10]at l10;obtain⟨n16,hn16⟩:∃n,n=Aa s (p+16) 4:=⟨_,rfl⟩;have l16:=Bj s (p+16) 4;have H16:Hid (∀(W:World) (A N:Int),p+46<=E->A=(p:Int)+16->N=4->Calls Tryz.prog 224 #[.string s,.int .i64 A,.int .i64 N] W fun e w'=>e=.returned (.int .i64 (n16:Int))/\W=w'):=fun W A N h h1 h2=>by rw[hn16];exact Au W s (p+16) 4 A N (by omega) (by omega) hs (by omega) (by omega) (by omega)
 rw[<-hn16]at l16;obtain⟨n20,hn20⟩:∃n,n=Aa s (p+20) 4:=⟨_,rfl⟩;have l20:=Bj s (p+20) 4;have H20:Hid (∀(W:World) (A N:Int),p+46<=E->A=(p:Int)+20->N=4->Calls Tryz.prog 224 #[.string s,.int .i64 A,.int .i64 N] W fun e w'=>e=.returned (.int .i64 (n20:Int))/\W=w'):=fun W A N h h1 h2=>by rw[hn20];exact Au W s (p+20) 4 A N (by omega) (by omega) hs (by omega) (by omega) (by omega)
 rw[<-hn20]at l20;obtain⟨n24,hn24⟩:∃n,n=Aa s (p+24) 4:=⟨_,rfl⟩;have l24:=Bj s (p+24) 4;have H24:Hid (∀(W:World) (A N:Int),p+46<=E->A=(p:Int)+24->N=4->Calls Tryz.prog 224 #[.string s,.int .i64 A,.int .i64 N] W fun e w'=>e=.returned (.int .i64 (n24:Int))/\W=w'):=fun W A N h h1 h2=>by rw[hn24];exact Au W s (p+24) 4 A N (by omega) (by omega) hs (by omega) (by omega) (by omega)
 rw[<-hn24]at l24;obtain⟨n42,hn42⟩:∃n,n=Aa s (p+42) 4:=⟨_,rfl⟩;have l42:=Bj s (p+42) 4;have H42:Hid (∀(W:World) (A N:Int),p+46<=E->A=(p:Int)+42->N=4->Calls Tryz.prog 224 #[.string s,.int .i64 A,.int .i64 N] W fun e w'=>e=.returned (.int .i64 (n42:Int))/\W=w'):=fun W A N h h1 h2=>by rw[hn42];exact Au W s (p+42) 4 A N (by omega) (by omega) hs (by omega) (by omega) (by omega)
 rw[<-hn42]at l42;obtain⟨n34,hn34⟩:∃n,n=Aa s (p+34) 2:=⟨_,rfl⟩;have l34:=Bj s (p+34) 2;have H34:Hid (∀(W:World) (A N:Int),p+46<=E->A=(p:Int)+34->N=2->Calls Tryz.prog 224 #[.string s,.int .i64 A,.int .i64 N] W fun e w'=>e=.returned (.int .i64 (n34:Int))/\W=w'):=fun W A N h h1 h2=>by rw[hn34];exact Au W s (p+34) 2 A N (by omega) (by omega) hs (by omega) (by omega) (by omega)
 rw[<-hn34]at l34;obtain⟨n4,hn4⟩:∃n,n=Aa s (p+4) 2:=⟨_,rfl⟩;have l4:=Bj s (p+4) 2;have H4:Hid (∀(W:World) (A N:Int),p+46<=E->A=(p:Int)+4->N=2->Calls Tryz.prog 224 #[.string s,.int .i64 A,.int .i64 N] W fun e w'=>e=.returned (.int .i64 (n4:Int))/\W=w'):=fun W A N h h1 h2=>by rw[hn4];exact Au W s (p+4) 2 A N (by omega) (by omega) hs (by omega) (by omega) (by omega)
 rw[<-hn4]at l4;obtain⟨n38,hn38⟩:∃n,n=Aa s (p+38) 4:=⟨_,rfl⟩;have l38:=Bj s (p+38) 4;have H38:Hid (∀(W:World) (A N:Int),p+46<=E->A=(p:Int)+38->N=4->Calls Tryz.prog 224 #[.string s,.int .i64 A,.int .i64 N] W fun e w'=>e=.returned (.int .i64 (n38:Int))/\W=w'):=fun W A N h h1 h2=>by rw[hn38];exact Au W s (p+38) 4 A N (by omega) (by omega) hs (by omega) (by omega) (by omega)
 rw[<-hn38]at l38;rw[<-hn28]at HFP;rw[<-hn30]at HFP;rw[<-hn32]at HFP;simp only[<-hn28,<-hn30,<-hn32,<-hn8,<-hn10,<-hn16,<-hn20,<-hn24,<-hn42,<-hn34,<-hn4,<-hn38]at HREF;rw[<-hn16]at H3;rw[<-hn20]at H3;rw[<-hn24]at H3;have HREF':Hid _:=HREF;clear HREF hn28 hn30 hn32 hn8 hn10 hn16 hn20 hn24 hn42 hn34 hn4 hn38;have hsz:(s.extract 0 E).size<=140737488355328:=by rw[ByteArray.size_extract];omega
 have cE:(E:Int)<=(s.size:Int):=by omega
 have A0:=(XB.new w).keep ((Touch.refl (fun _=>False) _).alloc (Obj.cells #[.string ⟨#[]⟩,.int .i64 0,.int .i64 0,.int .i64 0,.int .i64 0,.int .i64 0,.int .i64 0,.int .i64 0,.int .i64 0,.int .i64 0,.int .i64 0,.int .i64 0,.int .i64 0] 248)) (fun e=>e);have B0:=XB.new (w.alloc (Obj.cells #[.string ⟨#[]⟩,.int .i64 0,.int .i64 0,.int .i64 0,.int .i64 0,.int .i64 0,.int .i64 0,.int .i64 0,.int .i64 0,.int .i64 0,.int .i64 0,.int .i64 0,.int .i64 0] 248));rw[World.size_alloc]at B0;have T0:Touch (fun _=>False) w ((w.alloc (Obj.cells #[.string ⟨#[]⟩,.int .i64 0,.int .i64 0,.int .i64 0,.int .i64 0,.int .i64 0,.int .i64 0,.int .i64 0,.int .i64 0,.int .i64 0,.int .i64 0,.int .i64 0,.int .i64 0] 248)).alloc (Obj.cells #[.string ⟨#[]⟩,.int .i64 0,.int .i64 0,.int .i64 0,.int .i64 0,.int .i64 0,.int .i64 0,.int .i64 0,.int .i64 0,.int .i64 0,.int .i64 0,.int .i64 0,.int .i64 0] 248)):=((Touch.refl _ w).alloc _).alloc _;go_enter Tryz.func155,Tryz.ntmps155;go_wp2_with fail;refine(gU _ (s.extract 0 E) _ 1 2 _ _ rfl rfl hsz (by omega)).mono ?_;rintro e w1 ⟨rfl,t1⟩;rw[dW s E p 1 2 hE];have A1:=A0.keep t1 (fun e=>e);have B1:=B0.keep t1 (fun e=>e);have T1:=T0.trans t1;clear A0 B0 T0 t1 hsz;by_cases k46:p+46<=E
 case neg=>
  have FN:Hid (R=none):=HE0.out.resolve_left (fun h=>k46 h.1);have g46:(E:Int)<(p:Int)+46:=by omega
  clear HREF' HFP HE0 H3 hR H28 l28 H30 l30 H32 l32 H8 l8 H10 l10 H16 l16 H20 l20 H24 l24 H42 l42 H34 l34 H4 l4 H38 l38;generalize (decide (p+4<=E)&&Eg s p 1 2)=m;cases m;all_goals
   exact absurd FN.out HM.out
 have f46:¬(E:Int)<(p:Int)+46:=by omega
 rw[decide_eq_true (show p+4<=E by omega),Bool.true_and];cases hm:Eg s p 1 2 with
 |false=>
  have FN:Hid (R=none):=HE0.out.resolve_left (fun h=>by rw[h.2.2]at hm;cases hm);clear HREF' HFP HE0 H3 hR hm H28 l28 H30 l30 H32 l32 H8 l8 H10 l10 H16 l16 H20 l20 H24 l24 H42 l42 H34 l34 H4 l4 H38 l38;exact absurd FN.out HM.out
 |true=>
  by_cases knx:p+46+n28+n30+n32<=E
  case neg=>
   have FN:Hid (R=none):=HE0.out.resolve_left (fun h=>knx (HFP.out.1 h).2.1);have gnx:(E:Int)<(p:Int)+46+(n28:Int)+(n30:Int)+(n32:Int):=by omega
   clear HREF' HFP HE0 H3 hR hm H8 l8 H10 l10 H16 l16 H20 l20 H24 l24 H42 l42 H34 l34 H4 l4 H38 l38;exact absurd FN.out HM.out
  have fnx:¬(E:Int)<(p:Int)+46+(n28:Int)+(n30:Int)+(n32:Int):=by omega
  have HR2:=HREF'.out (HFP.out.2 ⟨k46,knx,hm⟩);obtain⟨hr0,hr1⟩:=HR2;have HX:=Xj;have e1:(p:Int)+46<=(p:Int)+46+(n28:Int):=by omega
  have e2:(p:Int)+46+(n28:Int)<=(s.size:Int):=by omega
  have e3:(p:Int)+46+(n28:Int)<=(p:Int)+46+(n28:Int)+(n30:Int):=by omega
  have e4:(p:Int)+46+(n28:Int)+(n30:Int)<=(s.size:Int):=by omega
  have c0:_=some (.string ⟨#[]⟩:Value):=B1.cells 0 (by omega);have z0:=B1.frozen 0;have B2:=B1.set 0 (.string (s.extract (p+46) (p+46+n28))) (by omega);have A2:=A1.keep (Bf w1 (w.heap.size+1) 0 (.string (s.extract (p+46) (p+46+n28)))) (by show¬w.heap.size=w.heap.size+1;omega);have T2:=T1.Ag (p:=⟨w.heap.size+1,0,none⟩) (by show w.heap.size<=w.heap.size+1;omega) (.string (s.extract (p+46) (p+46+n28)));clear B1 A1 T1 HFP HE0 HREF' hR hm HX;go_wp2_with (go_at_call 224;first|(refine(H28.out _ _ _ k46 (by omega) (by omega)).mono ?_;rintro e wn ⟨rfl,rfl⟩)|(refine(H30.out _ _ _ k46 (by omega) (by omega)).mono ?_;rintro e wn ⟨rfl,rfl⟩)|(refine(H32.out _ _ _ k46 (by omega) (by omega)).mono ?_;rintro e wn ⟨rfl,rfl⟩));have hxz:(s.extract (p+46+n28) (p+46+n28+n30)).size=n30:=by rw[ByteArray.size_extract];omega
  refine(Xj _ (s.extract (p+46+n28) (p+46+n28+n30)) (n30+1) (by omega) (by omega)).mono ?_;rintro r w2 ⟨y,rfl,hy,t2⟩;have A3:=A2.keep t2 (fun e=>e);have B3:=B2.keep t2 (fun e=>e);have T3:=T2.trans t2;clear A2 B2 T2 t2 c0 z0 hxz e1 e2 e3 e4;cases hw:Bg (s.extract (p+46+n28) (p+46+n28+n30)) (s.extract (p+46+n28) (p+46+n28+n30)).size (n30+1) 0 none with
  |none=>
   have FN:Hid (R=none):=hr0 hw;clear hr0 hr1 hw hy H3 H28 l28 H30 l30 H32 l32 H8 l8 H10 l10 H16 l16 H20 l20 H24 l24 H42 l42 H34 l34 H4 l4 H38 l38;exact absurd FN.out HM.out
  |some f=>
   have hr2:=hr1 f hw y (hy f hw);simp only[Option.isSome_some];have hysz:y.size<=140737488355328:=by rw[hy f hw];unfold Df;rw[ByteArray.size_extract];rw[ByteArray.size_extract];omega
   clear hr0 hr1 hw hy;obtain⟨zz,hzz⟩:∃z,z=rN y n24 0:=⟨_,rfl⟩;obtain⟨i1,hi1⟩:∃z,z=rI n24 0:=⟨_,rfl⟩;rw[<-hzz,<-hi1]at hr2;obtain⟨kk,hkk⟩:∃z,z=rN y n20 i1:=⟨_,rfl⟩;obtain⟨i2,hi2⟩:∃z,z=rI n20 i1:=⟨_,rfl⟩;rw[<-hkk,<-hi2]at hr2;obtain⟨aa,haa⟩:∃z,z=rN y n42 i2:=⟨_,rfl⟩;rw[<-haa]at hr2;have b1:i1<=8:=by rw[hi1];unfold rI;split<;>omega
   have b2:i2<=16:=by rw[hi2];unfold rI;split<;>omega
   have HZ1:Hid (n24=4294967295->∀(W:World) (A N:Int),A=0->N=8->Calls Tryz.prog 224 #[.string y,.int .i64 A,.int .i64 N] W fun e w'=>e=.returned (.int .i64 zz)/\W=w'):=fun q W A N h1 h2=>by rw[hzz,rN,if_pos q];subst h1;exact bK W y _ N 8 (by omega) hysz (by omega) (by omega)
   have HZ2:Hid (n24≠4294967295->zz=(n24:Int)):=fun q=>by rw[hzz,rN,if_neg q]
   have HK1:Hid (n20=4294967295->∀(W:World) (A N:Int),A=(i1:Int)->N=8->Calls Tryz.prog 224 #[.string y,.int .i64 A,.int .i64 N] W fun e w'=>e=.returned (.int .i64 kk)/\W=w'):=fun q W A N h1 h2=>by rw[hkk,rN,if_pos q];subst h1;exact bK W y _ N 8 (by omega) hysz (by omega) (by omega)
   have HK2:Hid (n20≠4294967295->kk=(n20:Int)):=fun q=>by rw[hkk,rN,if_neg q]
   have HA1:Hid (n42=4294967295->∀(W:World) (A N:Int),A=(i2:Int)->N=8->Calls Tryz.prog 224 #[.string y,.int .i64 A,.int .i64 N] W fun e w'=>e=.returned (.int .i64 aa)/\W=w'):=fun q W A N h1 h2=>by rw[haa,rN,if_pos q];subst h1;exact bK W y _ N 8 (by omega) hysz (by omega) (by omega)
   have HA2:Hid (n42≠4294967295->aa=(n42:Int)):=fun q=>by rw[haa,rN,if_neg q]
   have HI1:Hid ((n24=4294967295->i1=8)/\(n24≠4294967295->i1=0)):=⟨fun q=>by rw[hi1,rI,if_pos q],fun q=>by rw[hi1,rI,if_neg q]⟩;have HI2:Hid ((n20=4294967295->i2=i1+8)/\(n20≠4294967295->i2=i1)):=⟨fun q=>by rw[hi2,rI,if_pos q],fun q=>by rw[hi2,rI,if_neg q]⟩;have HR3:Hid _:=hr2;clear hr2 hzz hi1 hkk hi2 haa;have hlb:w.heap.size<=w.heap.size+1:=by omega
   have hnb:w.heap.size≠w.heap.size+1:=by omega
   have c1:_=some (.int .i64 0:Value):=B3.cells 1 (by omega);have c2:_=some (.int .i64 0:Value):=B3.cells 2 (by omega);have c3:_=some (.int .i64 0:Value):=B3.cells 3 (by omega);have c4:_=some (.int .i64 0:Value):=B3.cells 4 (by omega);have c6:_=some (.int .i64 0:Value):=B3.cells 6 (by omega);have c7:_=some (.int .i64 0:Value):=B3.cells 7 (by omega);have c8:_=some (.int .i64 0:Value):=B3.cells 8 (by omega);have c9:_=some (.int .i64 0:Value):=B3.cells 9 (by omega);have c10:_=some (.int .i64 0:Value):=B3.cells 10 (by omega);have z1:=B3.frozen 1;have z2:=B3.frozen 2;have z3:=B3.frozen 3;have z4:=B3.frozen 4;have z6:=B3.frozen 6;have z7:=B3.frozen 7;have z8:=B3.frozen 8;have z9:=B3.frozen 9;have z10:=B3.frozen 10;go_upto_if 127 with(go_at_call 224;first|(refine(H8.out _ _ _ k46 (by omega) (by omega)).mono ?_;rintro e wn ⟨rfl,rfl⟩)|(refine(H10.out _ _ _ k46 (by omega) (by omega)).mono ?_;rintro e wn ⟨rfl,rfl⟩)|(refine(H16.out _ _ _ k46 (by omega) (by omega)).mono ?_;rintro e wn ⟨rfl,rfl⟩)|(refine(H20.out _ _ _ k46 (by omega) (by omega)).mono ?_;rintro e wn ⟨rfl,rfl⟩)|(refine(H24.out _ _ _ k46 (by omega) (by omega)).mono ?_;rintro e wn ⟨rfl,rfl⟩)|(refine(H42.out _ _ _ k46 (by omega) (by omega)).mono ?_;rintro e wn ⟨rfl,rfl⟩));go_cut [17] from 125 to 133 (fun i wc=>i=.int .i64 (i1:Int)/\XB wc (w.heap.size+1) [.string (s.extract (p+46) (p+46+n28)),.int .i64 (n10:Int),.int .i64 (n16:Int),.int .i64 (n20:Int),.int .i64 zz,.int .i64 0,.int .i64 (n8:Int),.int .i64 (n42:Int),.int .i64 (n16:Int),.int .i64 (n20:Int),.int .i64 (n24:Int),.int .i64 0,.int .i64 0]/\XB wc w.heap.size oM/\Touch (fun _=>False) w wc)
   case first=>
    by_cases q:n24=4294967295
    .subst q;have HI3:Hid (i1=8):=HI1.out.1 rfl;have HC3:=HZ1.out rfl;have HC4:Hid _:=HC3;clear HC3 HZ1 HZ2 HI1;go_wp2_with (go_at_call 224;refine(HC4.out _ _ _ (by omega) (by omega)).mono ?_;rintro e wn ⟨rfl,rfl⟩);go_meet
     case rel=>exact⟨by rw[HI3.out];rfl,((((((((((B3.set 6 _ (by omega)).set 1 _ (by omega)).set 2 _ (by omega)).set 3 _ (by omega)).set 4 _ (by omega)).set 7 _ (by omega)).set 8 _ (by omega)).set 9 _ (by omega)).set 10 _ (by omega)).set 4 _ (by omega)),((((((((((A3.other 6 _ hnb).other 1 _ hnb).other 2 _ hnb).other 3 _ hnb).other 4 _ hnb).other 7 _ hnb).other 8 _ hnb).other 9 _ hnb).other 10 _ hnb).other 4 _ hnb),((((((((((T3.Ag hlb _).Ag hlb _).Ag hlb _).Ag hlb _).Ag hlb _).Ag hlb _).Ag hlb _).Ag hlb _).Ag hlb _).Ag hlb _)⟩
    have q':((n24:Int)==4294967295)=false:=(by simp;omega);have HZ3:=HZ2.out q;have HZ4:Hid (zz=(n24:Int)):=HZ3;have HI3:Hid (i1=0):=HI1.out.2 q;clear HZ3 q;go_wp2;go_meet
    case rel=>rw[HZ4.out,HI3.out];exact⟨rfl,(((((((((B3.set 6 _ (by omega)).set 1 _ (by omega)).set 2 _ (by omega)).set 3 _ (by omega)).set 4 _ (by omega)).set 7 _ (by omega)).set 8 _ (by omega)).set 9 _ (by omega)).set 10 _ (by omega)),(((((((((A3.other 6 _ hnb).other 1 _ hnb).other 2 _ hnb).other 3 _ hnb).other 4 _ hnb).other 7 _ hnb).other 8 _ hnb).other 9 _ hnb).other 10 _ hnb),(((((((((T3.Ag hlb _).Ag hlb _).Ag hlb _).Ag hlb _).Ag hlb _).Ag hlb _).Ag hlb _).Ag hlb _).Ag hlb _)⟩
   case rest=>
    obtain⟨rfl,B4,A4,T4⟩:=hcut;clear B3 A3 T3 HZ1 HZ2 HI1 c1 z1 c2 z2 c3 z3 c4 z4 c6 z6 c7 z7 c8 z8 c9 z9 c10 z10 H8 H10 H16 H20 H24 H42;have c3:_=some (.int .i64 (n20:Int):Value):=B4.cells 3 (by omega);have z3:=B4.frozen 3;go_upto_if 136 with fail;go_cut [17] from 134 to 142 (fun i wc=>i=.int .i64 (i2:Int)/\XB wc (w.heap.size+1) [.string (s.extract (p+46) (p+46+n28)),.int .i64 (n10:Int),.int .i64 (n16:Int),.int .i64 kk,.int .i64 zz,.int .i64 0,.int .i64 (n8:Int),.int .i64 (n42:Int),.int .i64 (n16:Int),.int .i64 (n20:Int),.int .i64 (n24:Int),.int .i64 0,.int .i64 0]/\XB wc w.heap.size oM/\Touch (fun _=>False) w wc)
    case first=>
     by_cases q:n20=4294967295
     .subst q;have HI3:Hid (i2=i1+8):=HI2.out.1 rfl;have HC3:=HK1.out rfl;have HC4:Hid _:=HC3;clear HC3 HK1 HK2 HI2;go_wp2_with (go_at_call 224;refine(HC4.out _ _ _ (by omega) (by omega)).mono ?_;rintro e wn ⟨rfl,rfl⟩);go_meet
      case rel=>exact⟨by rw[HI3.out];rfl,B4.set 3 _ (by omega),A4.other 3 _ hnb,T4.Ag hlb _⟩
     have q':((n20:Int)==4294967295)=false:=(by simp;omega);have HZ4:Hid (kk=(n20:Int)):=HK2.out q;have HI3:Hid (i2=i1):=HI2.out.2 q;clear q;go_wp2;go_meet
     case rel=>rw[HZ4.out,HI3.out];exact⟨rfl,B4,A4,T4⟩
    case rest=>
     obtain⟨rfl,B5,A5,T5⟩:=hcut;clear B4 A4 T4 HK1 HK2 HI2 c3 z3;have c7:_=some (.int .i64 (n42:Int):Value):=B5.cells 7 (by omega);have z7:=B5.frozen 7;go_upto_if 145 with fail;go_cut [] from 143 to 149 (fun wc=>XB wc (w.heap.size+1) [.string (s.extract (p+46) (p+46+n28)),.int .i64 (n10:Int),.int .i64 (n16:Int),.int .i64 kk,.int .i64 zz,.int .i64 0,.int .i64 (n8:Int),.int .i64 aa,.int .i64 (n16:Int),.int .i64 (n20:Int),.int .i64 (n24:Int),.int .i64 0,.int .i64 0]/\XB wc w.heap.size oM/\Touch (fun _=>False) w wc)
     case first=>
      by_cases q:n42=4294967295
      .subst q;have HC3:=HA1.out rfl;have HC4:Hid _:=HC3;clear HC3 HA1 HA2;go_wp2_with (go_at_call 224;refine(HC4.out _ _ _ (by omega) (by omega)).mono ?_;rintro e wn ⟨rfl,rfl⟩);go_meet
       case rel=>exact⟨B5.set 7 _ (by omega),A5.other 7 _ hnb,T5.Ag hlb _⟩
      have q':((n42:Int)==4294967295)=false:=(by simp;omega);have HZ4:Hid (aa=(n42:Int)):=HA2.out q;clear q;go_wp2;go_meet
      case rel=>rw[HZ4.out];exact⟨B5,A5,T5⟩
     case rest=>
      obtain⟨B6,A6,T6⟩:=hcut;clear B5 A5 T5 HA1 HA2 c7 z7;have c3:_=some (.int .i64 kk:Value):=B6.cells 3 (by omega);have c4:_=some (.int .i64 zz:Value):=B6.cells 4 (by omega);have c7:_=some (.int .i64 aa:Value):=B6.cells 7 (by omega);go_upto_region 32 with fail;go_cut [180] from 150 to 180 (fun o wc=>o=.bool (Ws zz kk aa)/\XB wc (w.heap.size+1) [.string (s.extract (p+46) (p+46+n28)),.int .i64 (n10:Int),.int .i64 (n16:Int),.int .i64 kk,.int .i64 zz,.int .i64 0,.int .i64 (n8:Int),.int .i64 aa,.int .i64 (n16:Int),.int .i64 (n20:Int),.int .i64 (n24:Int),.int .i64 0,.int .i64 0]/\XB wc w.heap.size oM/\Touch (fun _=>False) w wc)
      case first=>
       go_wp2;all_goals
        go_meet
        case rel=>
         refine⟨congrArg Value.bool ?_,B6,A6,T6⟩;first|(unfold Ws;rw[Bool.eq_iff_iff];done)|(unfold Ws;rw[Bool.eq_iff_iff];simp;done)|(unfold Ws;rw[Bool.eq_iff_iff];simp;omega)
      case rest=>
       obtain⟨rfl,B7,A7,T7⟩:=hcut;clear B6 A6 T6 c3 c4 c7;cases hbad:Ws zz kk aa with
       |true=>
        have FN:Hid (R=none):=(by unfold Hid;rw[HR3.out,hbad];rfl);clear HR3 hbad H3 H34 H4 H38 H28 H30 H32;exact absurd FN.out HM.out
       |false=>
        have hr3:=HR3.out;rw[hbad]at hr3;obtain⟨⟨z1,z2⟩,⟨k1,k2⟩,⟨a1,a2⟩⟩:=(Qg zz kk aa).1 hbad;obtain⟨zn,rfl⟩:∃n:Nat,zz=(n:Int):=⟨zz.toNat,by omega⟩;obtain⟨kn,rfl⟩:∃n:Nat,kk=(n:Int):=⟨kk.toNat,by omega⟩;obtain⟨an,rfl⟩:∃n:Nat,aa=(n:Int):=⟨aa.toNat,by omega⟩;simp only[Int.toNat_natCast,Bool.false_eq_true,if_false]at hr3;obtain⟨nm,hnm⟩:∃x,x=(s.extract (p+46) (p+46+n28)):=⟨_,rfl⟩;have HNZ:Hid (nm.size<=140737488355328):=(by unfold Hid;rw[hnm,ByteArray.size_extract];omega);rw[<-hnm]at hr3 B7;clear hnm;have HS:Hid (R=some ((⟨nm,n10,n16,kn,zn,an,n4,n8,n34,n38,s.extract (p+16) (p+28)⟩:Eo),p+46+n28+n30+n32)):=hr3;have HFA:Hid (Aw (⟨nm,n10,n16,kn,zn,an,n4,n8,n34,n38,s.extract (p+16) (p+28)⟩:Eo)=(if n34≠0 then 4 else if aU n8||(decide (n10≠0)&&decide (n10≠8))||(decide (n4/256=3)&&decide (n38/268435456=10))then 6 else if Ci nm=false then 7 else if(Aj nm&&(decide (zn≠0)||decide (kn≠0)))||(decide (n10=0)&&decide (zn≠kn))then 11 else 0)):=rfl;have HFO:Hid (Am (⟨nm,n10,n16,kn,zn,an,n4,n8,n34,n38,s.extract (p+16) (p+28)⟩:Eo)=(n16,n20,n24)):=H3.out k46;clear HR3 hr3 hbad H3 H28 H30 H32 z1 k1 a1;by_cases q34:n34=0
        case neg=>
         have g34:((n34:Int)==0)=false:=(by simp;omega);have FF:Hid (Aw (⟨nm,n10,n16,kn,zn,an,n4,n8,n34,n38,s.extract (p+16) (p+28)⟩:Eo)=4):=(by unfold Hid;rw[HFA.out,if_pos q34]);clear HFA q34;refine Hm B7.cells fun c0 c1 c2 c3 c4 c5 c6 c7 c8 c9 c10 c11 c12=>?_;refine Hm A7.cells fun a0 a1 a2 a3 a4 a5 a6 a7 a8 a9 a10 a11 a12=>?_;refine gZ A7.frozen fun y0 y1 y2 y3 y4 y5 y6 y7 y8 y9 y10 y11 y12=>?_;go_wp2_with (go_at_call 224;first|(refine(H34.out _ _ _ k46 (by omega) (by omega)).mono ?_;rintro e wn ⟨rfl,rfl⟩));refine Xw A7 T7 (Nat.le_refl _) ?_;intro W' hx T';refine Hm hx.cells fun r0 r1 r2 r3 r4 r5 r6 r7 r8 r9 r10 r11 r12=>?_;refine bodyPost_ret (v:=.tuple #[.agg #[.string nm,.int .i64 (n10:Int),.int .i64 (n16:Int),.int .i64 (kn:Int),.int .i64 (zn:Int),.int .i64 0,.int .i64 (n8:Int),.int .i64 (an:Int),.int .i64 (n16:Int),.int .i64 (n20:Int),.int .i64 (n24:Int),.int .i64 0,.int .i64 0],.int .i64 (0),.int .i64 4]) (by simp[results,Tryz.results155,go_sem,r0,r1,r2,r3,r4,r5,r6,r7,r8,r9,r10,r11,r12]) rfl ⟨Ur HS.out FF.out (by omega) _ _ _ _ _ _ _ _ _ _ _ _ _,T'⟩
        have FA1:=HFA.out;rw[if_neg (fun h=>h q34)]at FA1;have HFB:Hid _:=FA1;have g34:((n34:Int)==0)=true:=(by simp;omega);clear HFA FA1;go_upto_region 36 with(go_at_call 224;first|(refine(H34.out _ _ _ k46 (by omega) (by omega)).mono ?_;rintro e wn ⟨rfl,rfl⟩));go_cut [19] from 188 to 201 (fun o wc=>o=.bool (decide (n4/256=3)&&decide (n38/268435456=10))/\XB wc (w.heap.size+1) [.string nm,.int .i64 (n10:Int),.int .i64 (n16:Int),.int .i64 (kn:Int),.int .i64 (zn:Int),.int .i64 0,.int .i64 (n8:Int),.int .i64 (an:Int),.int .i64 (n16:Int),.int .i64 (n20:Int),.int .i64 (n24:Int),.int .i64 0,.int .i64 0]/\XB wc w.heap.size oM/\Touch (fun _=>False) w wc)
        case first=>
         go_wp2_with (go_at_call 224;first|(refine(H4.out _ _ _ k46 (by omega) (by omega)).mono ?_;rintro e wn ⟨rfl,rfl⟩)|(refine(H38.out _ _ _ k46 (by omega) (by omega)).mono ?_;rintro e wn ⟨rfl,rfl⟩));all_goals
          go_meet
          case rel=>
           refine⟨congrArg Value.bool ?_,B7,A7,T7⟩;first|(rw[Bool.eq_iff_iff];done)|(rw[Bool.eq_iff_iff];simp;done)|(rw[Bool.eq_iff_iff];simp;omega)
        case rest=>
         obtain⟨rfl,B8,A8,T8⟩:=hcut;generalize (decide (n4/256=3)&&decide (n38/268435456=10))=lk at HFB ⊢;clear B7 A7 T7 H4 H34 H38 g34 q34;have c6:_=some (.int .i64 (n8:Int):Value):=B8.cells 6 (by omega);go_upto_region 37 with fail;go_cut [217] from 202 to 217 (fun o wc=>o=.bool (aU n8||(decide (n10≠0)&&decide (n10≠8))||lk)/\XB wc (w.heap.size+1) [.string nm,.int .i64 (n10:Int),.int .i64 (n16:Int),.int .i64 (kn:Int),.int .i64 (zn:Int),.int .i64 0,.int .i64 (n8:Int),.int .i64 (an:Int),.int .i64 (n16:Int),.int .i64 (n20:Int),.int .i64 (n24:Int),.int .i64 0,.int .i64 0]/\XB wc w.heap.size oM/\Touch (fun _=>False) w wc)
         case first=>
          go_wp2_with fail;refine(Qit _ n8 (by omega)).mono ?_;rintro e w8 ⟨rfl,t8⟩;have B9:=B8.keep t8 (fun e=>e);have A9:=A8.keep t8 (fun e=>e);have T9:=T8.trans t8;clear B8 A8 T8 t8 c6;have c1:_=some (.int .i64 (n10:Int):Value):=B9.cells 1 (by omega);cases hod:aU n8 with
          |true=>
           have HOD:Hid (aU n8=true):=hod;clear hod HFB;go_wp2;go_meet
           case rel=>exact⟨by rw[HOD.out];rfl,B9,A9,T9⟩
          |false=>
           have HOD:Hid (aU n8=false):=hod;clear hod HFB;by_cases q0:n10=0
           .subst q0;go_wp2;go_meet
            case rel=>exact⟨by rw[HOD.out];rfl,B9,A9,T9⟩
           by_cases q8:n10=8
           .subst q8;go_wp2;go_meet
            case rel=>exact⟨by rw[HOD.out];rfl,B9,A9,T9⟩
           have g0:((n10:Int)==0)=false:=(by simp;omega);have g0p:¬(n10:Int)=0:=(by omega);have g8:((n10:Int)==8)=false:=(by simp;omega);have g8p:¬(n10:Int)=8:=(by omega);have HQ:Hid ((decide (n10≠0)&&decide (n10≠8))=true):=(by unfold Hid;simp[q0,q8]);clear q0 q8;go_wp2;go_meet
           case rel=>exact⟨by rw[HOD.out,HQ.out];rfl,B9,A9,T9⟩
         case rest=>
          obtain⟨rfl,B9,A9,T9⟩:=hcut;clear B8 A8 T8 c6;have fb:=HFB.out;cases hod:(aU n8||(decide (n10≠0)&&decide (n10≠8))||lk)with
          |true=>
           rw[hod]at fb;have FF:Hid (Aw (⟨nm,n10,n16,kn,zn,an,n4,n8,n34,n38,s.extract (p+16) (p+28)⟩:Eo)=6):=fb;clear HFB fb hod;refine Hm B9.cells fun c0 c1 c2 c3 c4 c5 c6 c7 c8 c9 c10 c11 c12=>?_;refine Hm A9.cells fun a0 a1 a2 a3 a4 a5 a6 a7 a8 a9 a10 a11 a12=>?_;refine gZ A9.frozen fun y0 y1 y2 y3 y4 y5 y6 y7 y8 y9 y10 y11 y12=>?_;go_wp2;refine Xw A9 T9 (Nat.le_refl _) ?_;intro W' hx T';refine Hm hx.cells fun r0 r1 r2 r3 r4 r5 r6 r7 r8 r9 r10 r11 r12=>?_;refine bodyPost_ret (v:=.tuple #[.agg #[.string nm,.int .i64 (n10:Int),.int .i64 (n16:Int),.int .i64 (kn:Int),.int .i64 (zn:Int),.int .i64 0,.int .i64 (n8:Int),.int .i64 (an:Int),.int .i64 (n16:Int),.int .i64 (n20:Int),.int .i64 (n24:Int),.int .i64 0,.int .i64 0],.int .i64 (0),.int .i64 6]) (by simp[results,Tryz.results155,go_sem,r0,r1,r2,r3,r4,r5,r6,r7,r8,r9,r10,r11,r12]) rfl ⟨Ur HS.out FF.out (by omega) _ _ _ _ _ _ _ _ _ _ _ _ _,T'⟩
          |false=>
           rw[hod]at fb;have HFC:Hid (Aw (⟨nm,n10,n16,kn,zn,an,n4,n8,n34,n38,s.extract (p+16) (p+28)⟩:Eo)=if Ci nm=false then 7 else if(Aj nm&&(decide (zn≠0)||decide (kn≠0)))||(decide (n10=0)&&decide (zn≠kn))then 11 else 0):=fb;clear HFB fb hod;have c0:_=some (.string nm:Value):=B9.cells 0 (by omega);go_wp2_with fail;refine(mW _ nm HNZ.out).mono ?_;rintro e w10 ⟨rfl,t10⟩;have B10:=B9.keep t10 (fun e=>e);have A10:=A9.keep t10 (fun e=>e);have T10:=T9.trans t10;clear B9 A9 T9 t10 c0;cases hno:Ci nm with
           |false=>
            have fb:=HFC.out;rw[hno]at fb;have FF:Hid (Aw (⟨nm,n10,n16,kn,zn,an,n4,n8,n34,n38,s.extract (p+16) (p+28)⟩:Eo)=7):=fb;clear HFC fb hno;refine Hm B10.cells fun c0 c1 c2 c3 c4 c5 c6 c7 c8 c9 c10 c11 c12=>?_;refine Hm A10.cells fun a0 a1 a2 a3 a4 a5 a6 a7 a8 a9 a10 a11 a12=>?_;refine gZ A10.frozen fun y0 y1 y2 y3 y4 y5 y6 y7 y8 y9 y10 y11 y12=>?_;go_wp2;refine Xw A10 T10 (Nat.le_refl _) ?_;intro W' hx T';refine Hm hx.cells fun r0 r1 r2 r3 r4 r5 r6 r7 r8 r9 r10 r11 r12=>?_;refine bodyPost_ret (v:=.tuple #[.agg #[.string nm,.int .i64 (n10:Int),.int .i64 (n16:Int),.int .i64 (kn:Int),.int .i64 (zn:Int),.int .i64 0,.int .i64 (n8:Int),.int .i64 (an:Int),.int .i64 (n16:Int),.int .i64 (n20:Int),.int .i64 (n24:Int),.int .i64 0,.int .i64 0],.int .i64 (0),.int .i64 7]) (by simp[results,Tryz.results155,go_sem,r0,r1,r2,r3,r4,r5,r6,r7,r8,r9,r10,r11,r12]) rfl ⟨Ur HS.out FF.out (by omega) _ _ _ _ _ _ _ _ _ _ _ _ _,T'⟩
           |true=>
            have fb:=HFC.out;rw[hno]at fb;have HFD:Hid (Aw (⟨nm,n10,n16,kn,zn,an,n4,n8,n34,n38,s.extract (p+16) (p+28)⟩:Eo)=if(Aj nm&&(decide (zn≠0)||decide (kn≠0)))||(decide (n10=0)&&decide (zn≠kn))then 11 else 0):=fb;have HN0:Hid (0<nm.size):=Zv _ hno;clear HFC fb hno;have c0:_=some (.string nm:Value):=B10.cells 0 (by omega);have c1:_=some (.int .i64 (n10:Int):Value):=B10.cells 1 (by omega);have c3:_=some (.int .i64 (kn:Int):Value):=B10.cells 3 (by omega);have c4:_=some (.int .i64 (zn:Int):Value):=B10.cells 4 (by omega);go_upto_region 42 with fail;go_cut [249] from 225 to 249 (fun o wc=>o=.bool ((Aj nm&&(decide (zn≠0)||decide (kn≠0)))||(decide (n10=0)&&decide (zn≠kn)))/\XB wc (w.heap.size+1) [.string nm,.int .i64 (n10:Int),.int .i64 (n16:Int),.int .i64 (kn:Int),.int .i64 (zn:Int),.int .i64 0,.int .i64 (n8:Int),.int .i64 (an:Int),.int .i64 (n16:Int),.int .i64 (n20:Int),.int .i64 (n24:Int),.int .i64 0,.int .i64 0]/\XB wc w.heap.size oM/\Touch (fun _=>False) w wc)
            case first=>
             by_cases q0:n10=0
             .subst q0;by_cases q1:zn=kn
              .subst q1;go_wp2_with fail;refine(Py _ nm HN0.out HNZ.out).mono ?_;rintro e w11 ⟨rfl,t11⟩;have B12:=B10.keep t11 (fun e=>e);have A12:=A10.keep t11 (fun e=>e);have T12:=T10.trans t11;clear B10 A10 T10 t11 c0 c1 c3 c4;cases hfd:Aj nm with
               |false=>
                have HFD2:Hid (Aj nm=false):=hfd;clear hfd HFD;go_wp2;go_meet
                case rel=>exact⟨by rw[HFD2.out];first|rfl|(simp;done)|(simp;omega),B12,A12,T12⟩
               |true=>
                have HFD2:Hid (Aj nm=true):=hfd;clear hfd HFD;have d4:_=some (.int .i64 (zn:Int):Value):=B12.cells 4 (by omega);have d3:_=some (.int .i64 (zn:Int):Value):=B12.cells 3 (by omega);by_cases q2:zn=0
                .subst q2;go_wp2;go_meet
                 case rel=>exact⟨by rw[HFD2.out];first|rfl|(simp;done)|(simp;omega),B12,A12,T12⟩
                have g2:((zn:Int)==0)=false:=(by simp;omega);have g2p:¬(zn:Int)=0:=(by omega);have HQ:Hid (decide (zn≠0)=true):=(by unfold Hid;simp[q2]);clear q2;go_wp2;go_meet
                case rel=>exact⟨by rw[HFD2.out,HQ.out];first|rfl|(simp;done)|(simp;omega),B12,A12,T12⟩
              have g1:((zn:Int)==(kn:Int))=false:=(by simp;omega);have g1p:¬(zn:Int)=(kn:Int):=(by omega);have HQ:Hid (decide (zn≠kn)=true):=(by unfold Hid;simp[q1]);clear q1;go_wp2;go_meet
              case rel=>exact⟨by rw[HQ.out];simp,B10,A10,T10⟩
             have g0:((n10:Int)==0)=false:=(by simp;omega);have g0p:¬(n10:Int)=0:=(by omega);have HQ:Hid (decide (n10=0)=false):=(by unfold Hid;simp[q0]);clear q0;go_wp2_with fail;refine(Py _ nm HN0.out HNZ.out).mono ?_;rintro e w11 ⟨rfl,t11⟩;have B12:=B10.keep t11 (fun e=>e);have A12:=A10.keep t11 (fun e=>e);have T12:=T10.trans t11;clear B10 A10 T10 t11 c0 c1 c3 c4;cases hfd:Aj nm with
             |false=>
              have HFD2:Hid (Aj nm=false):=hfd;clear hfd HFD;go_wp2;go_meet
              case rel=>exact⟨by rw[HFD2.out,HQ.out];first|rfl|(simp;done)|(simp;omega),B12,A12,T12⟩
             |true=>
              have HFD2:Hid (Aj nm=true):=hfd;clear hfd HFD;have d4:_=some (.int .i64 (zn:Int):Value):=B12.cells 4 (by omega);have d3:_=some (.int .i64 (kn:Int):Value):=B12.cells 3 (by omega);by_cases q2:zn=0
              .subst q2;by_cases q3:kn=0
               .subst q3;go_wp2;go_meet
                case rel=>exact⟨by rw[HFD2.out,HQ.out];first|rfl|(simp;done)|(simp;omega),B12,A12,T12⟩
               have g3:((kn:Int)==0)=false:=(by simp;omega);have g3p:¬(kn:Int)=0:=(by omega);have HK:Hid (decide (kn≠0)=true):=(by unfold Hid;simp[q3]);clear q3;go_wp2;go_meet
               case rel=>exact⟨by rw[HFD2.out,HQ.out,HK.out];first|rfl|(simp;done)|(simp;omega),B12,A12,T12⟩
              have g2:((zn:Int)==0)=false:=(by simp;omega);have g2p:¬(zn:Int)=0:=(by omega);have HK:Hid (decide (zn≠0)=true):=(by unfold Hid;simp[q2]);clear q2;go_wp2;go_meet
              case rel=>exact⟨by rw[HFD2.out,HQ.out,HK.out];first|rfl|(simp;done)|(simp;omega),B12,A12,T12⟩
            case rest=>
             obtain⟨rfl,B11,A11,T11⟩:=hcut;clear B10 A10 T10 c0 c1 c3 c4;cases hsz:((Aj nm&&(decide (zn≠0)||decide (kn≠0)))||(decide (n10=0)&&decide (zn≠kn)))with
             |true=>
              have fb:=HFD.out;rw[hsz]at fb;have FF:Hid (Aw (⟨nm,n10,n16,kn,zn,an,n4,n8,n34,n38,s.extract (p+16) (p+28)⟩:Eo)=11):=fb;clear HFD fb hsz;refine Hm B11.cells fun c0 c1 c2 c3 c4 c5 c6 c7 c8 c9 c10 c11 c12=>?_;refine Hm A11.cells fun a0 a1 a2 a3 a4 a5 a6 a7 a8 a9 a10 a11 a12=>?_;refine gZ A11.frozen fun y0 y1 y2 y3 y4 y5 y6 y7 y8 y9 y10 y11 y12=>?_;go_wp2;refine Xw A11 T11 (Nat.le_refl _) ?_;intro W' hx T';refine Hm hx.cells fun r0 r1 r2 r3 r4 r5 r6 r7 r8 r9 r10 r11 r12=>?_;refine bodyPost_ret (v:=.tuple #[.agg #[.string nm,.int .i64 (n10:Int),.int .i64 (n16:Int),.int .i64 (kn:Int),.int .i64 (zn:Int),.int .i64 0,.int .i64 (n8:Int),.int .i64 (an:Int),.int .i64 (n16:Int),.int .i64 (n20:Int),.int .i64 (n24:Int),.int .i64 0,.int .i64 0],.int .i64 (0),.int .i64 11]) (by simp[results,Tryz.results155,go_sem,r0,r1,r2,r3,r4,r5,r6,r7,r8,r9,r10,r11,r12]) rfl ⟨Ur HS.out FF.out (by omega) _ _ _ _ _ _ _ _ _ _ _ _ _,T'⟩
             |false=>
              have fb:=HFD.out;rw[hsz]at fb;have FF:Hid (Aw (⟨nm,n10,n16,kn,zn,an,n4,n8,n34,n38,s.extract (p+16) (p+28)⟩:Eo)=0):=fb;clear HFD fb hsz;refine Hm B11.cells fun c0 c1 c2 c3 c4 c5 c6 c7 c8 c9 c10 c11 c12=>?_;refine Hm A11.cells fun a0 a1 a2 a3 a4 a5 a6 a7 a8 a9 a10 a11 a12=>?_;refine gZ A11.frozen fun y0 y1 y2 y3 y4 y5 y6 y7 y8 y9 y10 y11 y12=>?_;go_wp2;refine Xw A11 T11 (Nat.le_refl _) ?_;intro W' hx T';refine Hm hx.cells fun r0 r1 r2 r3 r4 r5 r6 r7 r8 r9 r10 r11 r12=>?_;refine bodyPost_ret (v:=.tuple #[.agg #[.string nm,.int .i64 (n10:Int),.int .i64 (n16:Int),.int .i64 (kn:Int),.int .i64 (zn:Int),.int .i64 0,.int .i64 (n8:Int),.int .i64 (an:Int),.int .i64 (n16:Int),.int .i64 (n20:Int),.int .i64 (n24:Int),.int .i64 0,.int .i64 0],.int .i64 ((p:Int)+46+(n28:Int)+(n30:Int)+(n32:Int)),.int .i64 0]) (by simp[results,Tryz.results155,go_sem,r0,r1,r2,r3,r4,r5,r6,r7,r8,r9,r10,r11,r12]) rfl ⟨Qhc HS.out FF.out HFO.out (by omega),T'⟩
end Go.Proofs.YtmhlkdlcpicekaaGreatDoor
