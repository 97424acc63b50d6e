/- Joined. -/
import Derived.Test.YtmhlkdlcpicekaaGreatDoorJ33
import Derived.Test.YtmhlkdlcpicekaaGreatDoorJ36
import Derived.Test.YtmhlkdlcpicekaaGreatDoorJ28
set_option linter.unusedSimpArgs false
set_option linter.unusedVariables false
set_option maxRecDepth 100000
set_option maxHeartbeats 20000000
namespace Go.Proofs.YtmhlkdlcpicekaaGreatDoor
open Go.RowKit Go.Shelf Go.Lib
theorem byte_at(s:ByteArray)(m:Nat)(h:m<s.size):s.data.toList[m]?=some s[m]:=by
 rw[List.getElem?_eq_getElem (by simpa using h),Array.getElem_toList];rfl
theorem Xl(w:World)(s:ByteArray)(qe qn qb:Int)(hs:s.size<=1048576): Calls Tryz.prog 102 #[.string s,.agg #[.int .i64 qe,.int .i64 qn,.int .i64 qb]] w fun r w'=>Touch (fun _=>False) w w'/\Hg w.heap.size s (listOf s qe qn qb) r w':=by
 have T0:Touch (fun _=>False) w (w.alloc (Obj.cells #[.int .i64 qe,.int .i64 qn,.int .i64 qb] 63)):=(Touch.refl _ w).alloc _;have HLC:Hid (∀W,Calls Tryz.prog 99 #[.string s,.agg #[.int .i64 qe,.int .i64 qn,.int .i64 qb]] W fun r w'=>Touch (fun _=>False) W w'/\Em W.heap.size (listOf s qe qn qb) r w'):=fun W=>pM W s qe qn qb hs;cases hR:listOf s qe qn qb with
 |error kk=>
  have hk0:0<kk:=iY s qe qn qb kk hR;rw[hR]at HLC;have hk1:((kk:Int) != 0)=true:=by simp;omega
  have hk2:¬(kk:Int)=0:=by omega
  clear hR;go_enter Tryz.func102,Tryz.ntmps102;go_wp2_with fail;refine(HLC.out _).mono ?_;rintro e w1 ⟨t1,hp⟩;obtain rfl:=(show e=.returned (.tuple #[.slice none 0 0,.int .i64 (kk:Int)]) from hp);have T1:=T0.trans t1;clear hp HLC;go_wp2;go_ret2;exact⟨T1,rfl⟩
 |ok L=>
  obtain⟨hln,hfo,hnm0⟩:=Td s qe qn qb L hR (by omega);obtain⟨heach,_⟩:=Iz s qe qn qb L hR;have hlb:=Ux s qe qn qb L hR;rw[hR]at HLC;obtain⟨n,hN⟩:∃n,n=L.length:=⟨_,rfl⟩;have HN:Hid (n=L.length):=hN;have hn2:n<=22796:=by omega
  have HOK:Hid (∀x∈L,Yk s x/\Aw x.Af=0/\Na x.Af):=fun x hx=>⟨hfo x hx,(heach x hx).2,(heach x hx).1⟩;obtain⟨G,hG⟩:∃G,G=Gx s L []:=⟨_,rfl⟩;have HG0:Hid (G=Gx s (L.drop 0) []):=hG;have HFE:Hid (∀k,G=.inl k->∀w',Hg w.heap.size s (.ok L) (.returned (.tuple #[.slice none 0 0,.int .i64 (k:Int)])) w'):=fun k hk w'=>by
   unfold Hg;simp only;rw[<-hG,hk]
  have HFO:Hid (∀o v w',G=.inr o->Fj w' w.heap.size v o->Hg w.heap.size s (.ok L) (.returned (.tuple #[v,.int .i64 0])) w'):=fun o v w' hk h=>by
   unfold Hg;simp only;rw[<-hG,hk];exact⟨v,rfl,h⟩
  clear hR hG hfo hnm0 heach hln hlb;go_enter Tryz.func102,Tryz.ntmps102;go_wp2_with fail;refine(HLC.out _).mono ?_;rintro e w1 ⟨t1,hp⟩;obtain⟨a,cap,g,rfl,hge,hRf⟩:=(show∃a cap g,e=.returned (.tuple #[.slice a (L.map Sl).length cap,.int .i64 0])/\_ from hp);rw[List.length_map,<-hN];have T1:=T0.trans t1;clear hp HLC t1 T0 hge hN;go_wp2;go_loopw [8,9] (fun v i wr=>∃(k:Nat) (out:List Gn),k<=n/\i=.int .i64 (k:Int)/\wr.ownsRow w.heap.size 255 2 v out.length (Ar out)/\Hid (out.length<=61*k)/\Hid (∀y∈out,0<y.1.size/\y.1.size<=60)/\Hid (G=Gx s (L.drop k) out)/\Refs wr a g (L.map Sl)/\Touch (fun _=>False) w wr) (fun v i wr=>n-(intOf i).toNat)
  case atStart=>exact⟨0,[],Nat.zero_le _,rfl,World.ownsRow_nil _ _ _ _,(by unfold Hid;simp),(by intro y hy;cases hy),HG0,hRf,T1⟩
  case round=>
   clear hRf T1 HG0;obtain⟨k,out,hk,rfl,hro,HLEN,HNM,HK,hRf,T⟩:=hrel;by_cases hlt:k<n
   .have hlt':k<L.length:=(by have:=HN.out;omega);obtain rfl:=hRf.ptr (by rw[List.length_map];omega);have ccl:=(hRf.at_ (by rw[List.length_map];omega)).cells k (by rw[List.length_map];omega);rw[List.getElem_map]at ccl;have c0:wr.cell? ⟨g,k*13,none⟩=some (.string L[k].Af.name):=ccl 0 (by omega);have c1:_=some (.int .i64 (L[k].Af.method:Int):Value):=ccl 1 (by omega);have c2:_=some (.int .i64 (L[k].Af.sum:Int):Value):=ccl 2 (by omega);have c3:_=some (.int .i64 (L[k].Af.packed:Int):Value):=ccl 3 (by omega);have c4:_=some (.int .i64 (L[k].Af.size:Int):Value):=ccl 4 (by omega);have c5:_=some (.int .i64 (L[k].place:Int):Value):=ccl 5 (by omega);have c6:_=some (.int .i64 (L[k].Af.flags:Int):Value):=ccl 6 (by omega);have c7:_=some (.int .i64 (L[k].Af.ahead:Int):Value):=ccl 7 (by omega);have c8:_=some (.int .i64 ((Am L[k].Af).1:Int):Value):=ccl 8 (by omega);have c9:_=some (.int .i64 ((Am L[k].Af).2.1:Int):Value):=ccl 9 (by omega);have c10:_=some (.int .i64 ((Am L[k].Af).2.2:Int):Value):=ccl 10 (by omega);have c11:_=some (.int .i64 (L[k].Af.ahead:Int):Value):=ccl 11 (by omega);have c12:_=some (.int .i64 (L[k].stop:Int):Value):=ccl 12 (by omega);obtain⟨ok1,ok2,ok3⟩:=HOK.out L[k] (List.getElem_mem hlt');have HX:Hid (G=if Aj L[k].Af.name then Gx s (L.drop (k+1)) (Fb L[k].Af.name.data.toList L[k].Af.name.size 0 out)else match Ff s L[k]with
      |.inl j=>.inl j
      |.inr d=>Gx s (L.drop (k+1)) (Hy (Fb L[k].Af.name.data.toList L[k].Af.name.size 0 out) (L[k].Af.name,d))):=by
     unfold Hid;rw[HK.out,List.drop_eq_getElem_cons hlt',Gx];rfl
    clear HK ccl;have i1:(k:Int)<(n:Int):=(by omega);revert c0 c1 c2 c3 c4 c5 c6 c7 c8 c9 c10 c11 c12 ok1 ok2 ok3 HX;generalize L[k]=x;intro c0 c1 c2 c3 c4 c5 c6 c7 c8 c9 c10 c11 c12 ok1 ok2 ok3 HX;have hnm:0<x.Af.name.size/\x.Af.name.size<=60:=⟨Zv _ (Eb _ ok2),ok1.name⟩;have hmt:=kC _ ok2;have hin:=ok1.inside;have hsz:=ok1.size;clear ok1 ok2 ok3;obtain⟨xf1,hx1⟩:∃f,f=(Am x.Af).1:=⟨_,rfl⟩;obtain⟨xf2,hx2⟩:∃f,f=(Am x.Af).2.1:=⟨_,rfl⟩;obtain⟨xf3,hx3⟩:∃f,f=(Am x.Af).2.2:=⟨_,rfl⟩;rw[<-hx1]at c8;rw[<-hx2]at c9;rw[<-hx3]at c10;clear hx1 hx2 hx3;obtain⟨nm,hnmE⟩:∃nm,nm=x.Af.name:=⟨_,rfl⟩;rw[<-hnmE]at c0 HX hnm;clear hnmE;obtain⟨bx,hbx⟩:∃b,b=wr.heap.size:=⟨_,rfl⟩;have A0:=XB.ofList wr [.string nm,.int .i64 (x.Af.method:Int),.int .i64 (x.Af.sum:Int),.int .i64 (x.Af.packed:Int),.int .i64 (x.Af.size:Int),.int .i64 (x.place:Int),.int .i64 (x.Af.flags:Int),.int .i64 (x.Af.ahead:Int),.int .i64 (xf1:Int),.int .i64 (xf2:Int),.int .i64 (xf3:Int),.int .i64 (x.Af.ahead:Int),.int .i64 (x.stop:Int)] rfl 248;have TA:=T.alloc (Obj.cells #[.string nm,.int .i64 (x.Af.method:Int),.int .i64 (x.Af.sum:Int),.int .i64 (x.Af.packed:Int),.int .i64 (x.Af.size:Int),.int .i64 (x.place:Int),.int .i64 (x.Af.flags:Int),.int .i64 (x.Af.ahead:Int),.int .i64 (xf1:Int),.int .i64 (xf2:Int),.int .i64 (xf3:Int),.int .i64 (x.Af.ahead:Int),.int .i64 (x.stop:Int)] 248);have RA:=hRf.keep ((Touch.refl (fun _=>False) wr).alloc (Obj.cells #[.string nm,.int .i64 (x.Af.method:Int),.int .i64 (x.Af.sum:Int),.int .i64 (x.Af.packed:Int),.int .i64 (x.Af.size:Int),.int .i64 (x.place:Int),.int .i64 (x.Af.flags:Int),.int .i64 (x.Af.ahead:Int),.int .i64 (xf1:Int),.int .i64 (xf2:Int),.int .i64 (xf3:Int),.int .i64 (x.Af.ahead:Int),.int .i64 (x.stop:Int)] 248)) (fun e=>e);have OA:=hro.alloc (Obj.cells #[.string nm,.int .i64 (x.Af.method:Int),.int .i64 (x.Af.sum:Int),.int .i64 (x.Af.packed:Int),.int .i64 (x.Af.size:Int),.int .i64 (x.place:Int),.int .i64 (x.Af.flags:Int),.int .i64 (x.Af.ahead:Int),.int .i64 (xf1:Int),.int .i64 (xf2:Int),.int .i64 (xf3:Int),.int .i64 (x.Af.ahead:Int),.int .i64 (x.stop:Int)] 248);have HPF:Hid (Fb nm.data.toList (nm.size-0) 0 out=Fb nm.data.toList nm.size 0 out):=rfl;obtain⟨PF,hPF⟩:∃P,P=Fb nm.data.toList nm.size 0 out:=⟨_,rfl⟩;rw[<-hPF]at HX HPF;have HPF':Hid (PF=Fb nm.data.toList (nm.size-0) 0 out):=HPF.out.symm;clear hPF HPF hRf hro T;rw[<-hbx]at A0;have HBX:Hid (wr.heap.size=bx):=hbx.symm;clear hbx;go_wp2;rw[HBX.out];go_loopw [8,11] (fun v i wr=>∃(m:Nat) (o:List Gn),m<=nm.size/\i=.int .i64 (m:Int)/\wr.ownsRow w.heap.size 255 2 v o.length (Ar o)/\Hid (o.length<=61*k+m)/\Hid (∀y∈o,0<y.1.size/\y.1.size<=60)/\Hid (PF=Fb nm.data.toList (nm.size-m) m o)/\XB wr bx [.string nm,.int .i64 (x.Af.method:Int),.int .i64 (x.Af.sum:Int),.int .i64 (x.Af.packed:Int),.int .i64 (x.Af.size:Int),.int .i64 (x.place:Int),.int .i64 (x.Af.flags:Int),.int .i64 (x.Af.ahead:Int),.int .i64 (xf1:Int),.int .i64 (xf2:Int),.int .i64 (xf3:Int),.int .i64 (x.Af.ahead:Int),.int .i64 (x.stop:Int)]/\Refs wr (some ⟨g,0,none⟩) g (L.map Sl)/\Touch (fun _=>False) w wr) (fun v i wr=>nm.size-(intOf i).toNat)
    case atStart=>exact⟨0,out,Nat.zero_le _,rfl,OA,HLEN,HNM,HPF',A0,RA,TA⟩
    case round=>
     clear OA HLEN HNM HPF' A0 RA TA c0 c1 c2 c3 c4 c5 c6 c7 c8 c9 c10 c11 c12 HBX;obtain⟨m,o,hm,rfl,hro,HLEN,HNM,HPF,hX,hRf,T⟩:=hrel;have a0:wr.cell? ⟨bx,0,none⟩=some (.string nm):=hX.cells 0 (by omega);by_cases hml:m<nm.size
     .have hpf:=HPF.out;rw[kX _ _ _ hml,byte_at nm m hml]at hpf;have i2:(m:Int)<(nm.size:Int):=(by omega);have i3:(m:Int)+1<=(nm.size:Int):=(by omega);have i4:((m:Int)+1).toNat=m+1:=(by omega);clear HPF HX;by_cases hc:nm[m]=47
      .rw[hc,if_pos rfl,zC]at hpf;have HP2:Hid (PF=Fb nm.data.toList (nm.size-(m+1)) (m+1) (Hy o (nm.extract 0 (m+1),[]))):=hpf;have b1:((nm[m].toNat:Int)==47)=true:=(by rw[hc];rfl);have b2:(nm[m].toNat:Int)=47:=(by rw[hc];rfl);have zz:(nm.extract 0 (m+1)).size=m+1:=(by rw[ByteArray.size_extract];omega);have HPT:Hid (∀W,Fj W w.heap.size u8 o->w.heap.size<=W.heap.size->Calls Tryz.prog 158 #[u8,.agg #[.string (nm.extract 0 (m+1)),.string ⟨#[]⟩]] W fun r w'=>∃v',r=.returned v'/\Fj w' w.heap.size v' (Hy o (nm.extract 0 (m+1),[]))/\Touch (fun _=>False) W w'):=fun W h1 h2=>zK W w.heap.size u8 o _ ⟨#[]⟩ h1 h2 (fun y hy=>⟨(HNM.out y hy).1,by have:=(HNM.out y hy).2;omega⟩) ⟨by omega,by omega⟩ (by have:=HLEN.out;omega);have HL2:Hid ((Hy o (nm.extract 0 (m+1),[])).length<=61*k+(m+1)):=(by have:=Sv (nm.extract 0 (m+1),[]) o;have:=HLEN.out;unfold Hid;omega);have HNM2:Hid (∀y∈Hy o (nm.extract 0 (m+1),[]),0<y.1.size/\y.1.size<=60):=aG (fun y=>0<y.1.size/\y.1.size<=60) (nm.extract 0 (m+1),[]) ⟨by show 0<(nm.extract 0 (m+1)).size;omega,by show(nm.extract 0 (m+1)).size<=60;omega⟩ o HNM.out;clear hpf hc HLEN HNM;go_wp2_with (go_at_call 158;refine(HPT.out _ hro T.size).mono ?_;rintro e w6 ⟨v6,rfl,ro6,t6⟩);exact⟨⟨m+1,_,by omega,by go_num,ro6,HL2,HNM2,HP2,hX.keep t6 (fun e=>e),hRf.keep t6 (fun e=>e),T.trans t6⟩,by simp[intOf];omega⟩
      rw[if_neg (fun h=>hc (Option.some.inj h))]at hpf;have HP2:Hid (PF=Fb nm.data.toList (nm.size-(m+1)) (m+1) o):=hpf;have b2:¬(nm[m].toNat:Int)=47:=fun e=>hc (UInt8.toNat_inj.1 (by simpa using(by omega:nm[m].toNat=47)));have b1:((nm[m].toNat:Int)==47)=false:=(by simpa using b2);have HL2:Hid (o.length<=61*k+(m+1)):=(by have:=HLEN.out;unfold Hid;omega);clear hpf hc HLEN;go_wp2;exact⟨⟨m+1,o,by omega,by go_num,hro,HL2,HNM,HP2,hX,hRf,T⟩,by simp[intOf];omega⟩
     obtain rfl:nm.size=m:=by omega
     have hpf:=HPF.out;rw[Nat.sub_self]at hpf;have hpf':PF=o:=hpf;have hol:=HLEN.out;subst hpf';have HFO2:Hid (∀W,Calls Tryz.prog 159 #[.string nm] W fun e w'=>e=.returned (.bool (Aj nm))/\Touch (fun _=>False) W w'):=fun W=>Py W nm hnm.1 (by omega);have HL2:Hid (PF.length<=61*(k+1)):=(by unfold Hid;omega);clear HPF hpf HLEN;cases hfb:Aj nm with
     |true=>
      rw[hfb]at HX HFO2;have HG2:Hid (G=Gx s (L.drop (k+1)) PF):=HX;clear HX;go_wp2_with fail;refine(HFO2.out _).mono ?_;rintro e w5 ⟨rfl,t5⟩;have ro5:=t5.owns hro (fun _ _ h=>h);go_wp2;exact⟨⟨k+1,PF,by omega,by go_num,ro5,HL2,HNM,HG2,hRf.keep t5 (fun e=>e),T.trans t5⟩,by simp[intOf];omega⟩
     |false=>
      rw[hfb]at HX HFO2;have HG1:Hid (G=match Ff s x with
       |.inl j=>.inl j
       |.inr d=>Gx s (L.drop (k+1)) (Hy PF (nm,d))):=HX
      clear HX;go_upto_region 16 with(go_at_call 159;refine(HFO2.out _).mono ?_;rintro e w5 ⟨rfl,t5⟩);replace hro:=t5.owns hro (fun _ _ h=>h);replace hRf:=hRf.keep t5 (fun e=>e);replace hX:=hX.keep t5 (fun e=>e);replace T:=T.trans t5;clear HFO2 a0 HL2;have a1:w5.cell? ⟨bx,1,none⟩=some (.int .i64 (x.Af.method:Int)):=hX.cells 1 (by omega);have a3:w5.cell? ⟨bx,3,none⟩=some (.int .i64 (x.Af.packed:Int)):=hX.cells 3 (by omega);have a4:w5.cell? ⟨bx,4,none⟩=some (.int .i64 (x.Af.size:Int)):=hX.cells 4 (by omega);have a5:w5.cell? ⟨bx,5,none⟩=some (.int .i64 (x.place:Int)):=hX.cells 5 (by omega);have y0:(0:Int)<=(x.place:Int):=(by omega);have y1:(x.place:Int)<=(x.place:Int)+(x.Af.packed:Int):=(by omega);have y2:(x.place:Int)+(x.Af.packed:Int)<=(s.size:Int):=(by omega);have y3:((x.place:Int)+(x.Af.packed:Int)).toNat=x.place+x.Af.packed:=(by omega);obtain⟨D0,hD0⟩:∃D,D=s.extract x.place (x.place+x.Af.packed):=⟨_,rfl⟩;have zD0:D0.size=x.Af.packed:=(by rw[hD0,ByteArray.size_extract];omega);have HD0:Hid (s.extract x.place (x.place+x.Af.packed)=D0):=hD0.symm;have HDE:Hid (Ff s x=match Gt D0 x.Af with|.inl k=>.inl k|.inr l=>if sumOf ⟨l.toArray⟩=x.Af.sum then .inr l else .inl 12):=(by unfold Hid;rw[hD0];rfl);clear hD0;rcases hmt with hm0|hm8
      .have m1:((x.Af.method:Int)==8)=false:=(by rw[hm0];rfl);have m2:¬(x.Af.method:Int)=8:=(by omega);have HD:Hid (Ff s x=if sumOf D0=x.Af.sum then .inr D0.data.toList else .inl 12):=by
        unfold Hid;rw[HDE.out];unfold Gt;rw[if_pos hm0]
       have hD:D0.size<=maxLen:=(by unfold maxLen;omega);have TW:=T;have roW:=hro;have rfW:=hRf;have hds:=HD0.out;clear HDE HD0;have a2:w5.cell? ⟨bx,2,none⟩=some (.int .i64 (x.Af.sum:Int)):=hX.cells 2 (by omega);have a0:w5.cell? ⟨bx,0,none⟩=some (.string nm):=hX.cells 0 (by omega);have HSM:Hid (∀W,Calls Tryz.prog 95 #[.string D0] W fun e w'=>e=.returned (.int .i64 (sumOf D0:Nat))/\w'=W):=fun W=>xU W D0 hD;revert HSM HD;generalize sumOf D0=sm;intro HD HSM;by_cases hq:sm=x.Af.sum
       .have q1:((sm:Int) != (x.Af.sum:Int))=false:=(by simp;omega);have hd:=HD.out;rw[if_pos hq]at hd;have HG2:Hid (G=Gx s (L.drop (k+1)) (Hy PF (nm,D0.data.toList))):=(by unfold Hid;rw[HG1.out,hd]);have HPT:Hid (∀W,Fj W w.heap.size u8 PF->w.heap.size<=W.heap.size->Calls Tryz.prog 158 #[u8,.agg #[.string nm,.string D0]] W fun r w'=>∃v',r=.returned v'/\Fj w' w.heap.size v' (Hy PF (nm,D0.data.toList))/\Touch (fun _=>False) W w'):=fun W h1 h2=>zK W w.heap.size u8 PF nm D0 h1 h2 (fun y hy=>⟨(HNM.out y hy).1,by have:=(HNM.out y hy).2;omega⟩) ⟨hnm.1,by omega⟩ (by omega);have HL2:Hid ((Hy PF (nm,D0.data.toList)).length<=61*(k+1)):=(by have:=Sv (nm,D0.data.toList) PF;unfold Hid;omega);have HNM2:Hid (∀y∈Hy PF (nm,D0.data.toList),0<y.1.size/\y.1.size<=60):=aG (fun y=>0<y.1.size/\y.1.size<=60) (nm,D0.data.toList) hnm PF HNM.out;clear HD hd HG1 hq;go_wp2;go_quiet (first|(go_at_call 95;refine Calls.quiet_of_same (HSM.out _)));go_wp2_with fail;refine(HPT.out (w5.drewN nq) roW (by show w.heap.size<=w5.heap.size;have:=TW.size;omega)).mono ?_;rintro e w6 ⟨v6,rfl,ro6,t6⟩;have T6:=(TW.drewN _).trans t6;have rf6:=(rfW.drewN _).keep t6 (fun e=>e);clear HPT HSM;go_wp2;exact⟨⟨k+1,_,by omega,by go_num,ro6,HL2,HNM2,HG2,rf6,T6⟩,by simp[intOf];omega⟩
       have q1:((sm:Int) != (x.Af.sum:Int))=true:=(by simp;omega);have hd:=HD.out;rw[if_neg hq]at hd;have FIN:Hid (∀w',Hg w.heap.size s (.ok L) (.returned (.tuple #[.slice none 0 0,.int .i64 12])) w'):=HFE.out 12 (by rw[HG1.out,hd]);clear HD hd HG1 hq HFE;go_wp2;go_quiet (first|(go_at_call 95;refine Calls.quiet_of_same (HSM.out _)));go_wp2;go_ret2;exact⟨TW.drewN _,FIN.out _⟩
      have m1:((x.Af.method:Int)==8)=true:=(by rw[hm8];rfl);have m2:(x.Af.method:Int)=8:=(by omega);have HIN:Hid (∀W,Calls Tryz.prog 96 #[.string D0,.int .i64 (x.Af.size:Int)] W fun e w'=>e=.returned (He (Ed D0 (x.Af.size:Int)))/\Touch (fun _=>False) W w'):=fun W=>jP W D0 _ (by omega);have HDW:Hid (Ff s x=match Gq D0 x.Af.size with|.inl k=>.inl k|.inr l=>if sumOf ⟨l.toArray⟩=x.Af.sum then .inr l else .inl 12):=by
       unfold Hid;rw[HDE.out];unfold Gt;rw[if_neg (by omega)]
      have hds:=HD0.out;clear HDE HD0;cases hi:Ed D0 (x.Af.size:Int)with
      |inl kk=>
       have hkk:=Xv D0 _ kk hi;have HW:Hid (Gq D0 x.Af.size=.inl (if kk=2 then 11 else 1)):=(by unfold Hid Gq;rw[hi]);rw[hi]at HIN;have HI:Hid (∀W,Calls Tryz.prog 96 #[.string D0,.int .i64 (x.Af.size:Int)] W fun e w'=>e=.returned (.tuple #[.string ⟨#[]⟩,.int .i64 0,.int .i64 (kk:Int)])/\Touch (fun _=>False) W w'):=HIN;clear HIN hi;rcases hkk with rfl|rfl
       .have FIN:Hid (∀w',Hg w.heap.size s (.ok L) (.returned (.tuple #[.slice none 0 0,.int .i64 1])) w'):=HFE.out 1 (by rw[HG1.out,HDW.out,HW.out];rfl);clear HG1 HDW HW HFE;go_wp2_with fail;refine(HI.out _).mono ?_;rintro e w7 ⟨rfl,t7⟩;have T7:=T.trans t7;go_wp2;go_ret2;exact⟨T7,FIN.out _⟩
       have FIN:Hid (∀w',Hg w.heap.size s (.ok L) (.returned (.tuple #[.slice none 0 0,.int .i64 11])) w'):=HFE.out 11 (by rw[HG1.out,HDW.out,HW.out];rfl);clear HG1 HDW HW HFE;go_wp2_with fail;refine(HI.out _).mono ?_;rintro e w7 ⟨rfl,t7⟩;have T7:=T.trans t7;go_wp2;go_ret2;exact⟨T7,FIN.out _⟩
      |inr oq=>
       obtain⟨io,iq⟩:=oq;have HW:Hid (Gq D0 x.Af.size=if io.length≠x.Af.size then .inl 11 else if(iq+7)/8≠D0.size then .inl 1 else .inr io):=(by unfold Hid Gq;rw[hi]);rw[hi]at HIN;obtain⟨tk,htk⟩:∃t,t=(iq+7)/8:=⟨_,rfl⟩;rw[<-htk]at HW;obtain⟨Dx,hDx⟩:∃D:ByteArray,D=⟨io.toArray⟩:=⟨_,rfl⟩;have HI:Hid (∀W,Calls Tryz.prog 96 #[.string D0,.int .i64 (x.Af.size:Int)] W fun e w'=>e=.returned (.tuple #[.string Dx,.int .i64 (tk:Int),.int .i64 0])/\Touch (fun _=>False) W w'):=(by rw[htk,hDx];exact HIN);have zDx:Dx.size=io.length:=(by rw[hDx];show io.toArray.size=_;simp);have HDX:Hid (io=Dx.data.toList):=(by rw[hDx];unfold Hid;simp);have HDY:Hid ((⟨io.toArray⟩:ByteArray)=Dx):=hDx.symm;clear HIN hi htk hDx;by_cases h1:io.length=x.Af.size
       .have h1':((Dx.size:Int) != (x.Af.size:Int))=false:=(by simp;omega);by_cases h2:tk=D0.size
        .have h2':((tk:Int) != (x.Af.packed:Int))=false:=(by simp;omega);have HD:Hid (Ff s x=if sumOf Dx=x.Af.sum then .inr Dx.data.toList else .inl 12):=by
          unfold Hid;rw[HDW.out,HW.out,if_neg (by omega),if_neg (by omega)];simp only;rw[HDY.out,<-HDX.out]
         have hD:Dx.size<=maxLen:=(by unfold maxLen;omega);clear HDW HW HDX HDY;go_upto_region 26 with(go_at_call 96;refine(HI.out _).mono ?_;rintro e w7 ⟨rfl,t7⟩;have a3':=t7.at a3 (fun e=>e);have a4':=t7.at a4 (fun e=>e));have X5:=hX.keep t7 (fun e=>e);have TW:=T.trans t7;have roW:=t7.owns hro (fun _ _ h=>h);have rfW:=hRf.keep t7 (fun e=>e);clear HI t7 hX T hro hRf a1 a3 a4 a5 a3' a4';have a2:w7.cell? ⟨bx,2,none⟩=some (.int .i64 (x.Af.sum:Int)):=X5.cells 2 (by omega);have a0:w7.cell? ⟨bx,0,none⟩=some (.string nm):=X5.cells 0 (by omega);have HSM:Hid (∀W,Calls Tryz.prog 95 #[.string Dx] W fun e w'=>e=.returned (.int .i64 (sumOf Dx:Nat))/\w'=W):=fun W=>xU W Dx hD;revert HSM HD;generalize sumOf Dx=sm;intro HD HSM;by_cases hq:sm=x.Af.sum
         .have q1:((sm:Int) != (x.Af.sum:Int))=false:=(by simp;omega);have hd:=HD.out;rw[if_pos hq]at hd;have HG2:Hid (G=Gx s (L.drop (k+1)) (Hy PF (nm,Dx.data.toList))):=(by unfold Hid;rw[HG1.out,hd]);have HPT:Hid (∀W,Fj W w.heap.size u8 PF->w.heap.size<=W.heap.size->Calls Tryz.prog 158 #[u8,.agg #[.string nm,.string Dx]] W fun r w'=>∃v',r=.returned v'/\Fj w' w.heap.size v' (Hy PF (nm,Dx.data.toList))/\Touch (fun _=>False) W w'):=fun W h1 h2=>zK W w.heap.size u8 PF nm Dx h1 h2 (fun y hy=>⟨(HNM.out y hy).1,by have:=(HNM.out y hy).2;omega⟩) ⟨hnm.1,by omega⟩ (by omega);have HL2:Hid ((Hy PF (nm,Dx.data.toList)).length<=61*(k+1)):=(by have:=Sv (nm,Dx.data.toList) PF;unfold Hid;omega);have HNM2:Hid (∀y∈Hy PF (nm,Dx.data.toList),0<y.1.size/\y.1.size<=60):=aG (fun y=>0<y.1.size/\y.1.size<=60) (nm,Dx.data.toList) hnm PF HNM.out;clear HD hd HG1 hq;go_wp2;go_quiet (first|(go_at_call 95;refine Calls.quiet_of_same (HSM.out _)));go_wp2_with fail;refine(HPT.out (w7.drewN nq) roW (by show w.heap.size<=w7.heap.size;have:=TW.size;omega)).mono ?_;rintro e w6 ⟨v6,rfl,ro6,t6⟩;have T6:=(TW.drewN _).trans t6;have rf6:=(rfW.drewN _).keep t6 (fun e=>e);clear HPT HSM;go_wp2;exact⟨⟨k+1,_,by omega,by go_num,ro6,HL2,HNM2,HG2,rf6,T6⟩,by simp[intOf];omega⟩
         have q1:((sm:Int) != (x.Af.sum:Int))=true:=(by simp;omega);have hd:=HD.out;rw[if_neg hq]at hd;have FIN:Hid (∀w',Hg w.heap.size s (.ok L) (.returned (.tuple #[.slice none 0 0,.int .i64 12])) w'):=HFE.out 12 (by rw[HG1.out,hd]);clear HD hd HG1 hq HFE;go_wp2;go_quiet (first|(go_at_call 95;refine Calls.quiet_of_same (HSM.out _)));go_wp2;go_ret2;exact⟨TW.drewN _,FIN.out _⟩
        have h2':((tk:Int) != (x.Af.packed:Int))=true:=(by simp;omega);have FIN:Hid (∀w',Hg w.heap.size s (.ok L) (.returned (.tuple #[.slice none 0 0,.int .i64 1])) w'):=HFE.out 1 (by rw[HG1.out,HDW.out,HW.out,if_neg (by omega),if_pos (by omega)]);clear HG1 HDW HW HFE;go_wp2_with (go_at_call 96;refine(HI.out _).mono ?_;rintro e w7 ⟨rfl,t7⟩;have a3':=t7.at a3 (fun e=>e);have a4':=t7.at a4 (fun e=>e));go_ret2;exact⟨T.trans t7,FIN.out _⟩
       have h1':((Dx.size:Int) != (x.Af.size:Int))=true:=(by simp;omega);have FIN:Hid (∀w',Hg w.heap.size s (.ok L) (.returned (.tuple #[.slice none 0 0,.int .i64 11])) w'):=HFE.out 11 (by rw[HG1.out,HDW.out,HW.out,if_pos (by omega)]);clear HG1 HDW HW HFE;go_wp2_with (go_at_call 96;refine(HI.out _).mono ?_;rintro e w7 ⟨rfl,t7⟩;have a3':=t7.at a3 (fun e=>e);have a4':=t7.at a4 (fun e=>e));go_ret2;exact⟨T.trans t7,FIN.out _⟩
   obtain rfl:k=n:=by omega
   have hx:=HK.out;rw[List.drop_of_length_le (by have:=HN.out;omega),Gx]at hx;have FIN:Hid (∀w',wr.ownsRow w.heap.size 255 2 u8 out.length (Ar out)->w'=wr->Hg w.heap.size s (.ok L) (.returned (.tuple #[u8,.int .i64 0])) w'):=fun w' h e=>by subst e;exact HFO.out out u8 _ hx h
   have FIN2:=FIN.out wr hro rfl;have FIN3:Hid _:=FIN2;clear FIN FIN2 HK hx HFO HFE hro;go_wp2;go_ret2;exact⟨T,FIN3.out⟩
def leftOf(c:Bo):Int:=match c with|none=>-1|some x=>(x.1:Int)
def Jm(L:List (Fold×Value)):List Value:=L.flatMap fun x=>[.string x.1.1,x.2]
theorem gQ(L:List (Fold×Value)):(Jm L).length=L.length*2:=by
 induction L with
 |nil=>rfl
 |cons a L ih=>
  have e:Jm (a::L)=.string a.1.1::a.2::Jm L:=rfl;rw[e,List.length_cons,List.length_cons,ih,List.length_cons,Nat.add_mul]
theorem aW(a b:List (Fold×Value)):Jm (a++b)=Jm a++Jm b:=by simp[Jm]
theorem gY:∀(L:List (Fold×Value)) (i:Nat) (h:i<L.length),(Jm L)[i*2]?=some (.string L[i].1.1)/\(Jm L)[i*2+1]?=some L[i].2
 |a::L,0,_=>⟨rfl,rfl⟩
 |a::L,i+1,h=>by
  have ih:=gY L i (by simpa using h);have e:Jm (a::L)=.string a.1.1::a.2::Jm L:=rfl;rw[e,show(i+1)*2=i*2+1+1 by omega];simpa using ih
structure Jc (w:World) (y:Nat) (H:Nat->Prop) (l:List Fold) (c:Bo) (np:Bool):Prop where
 low:∀q,H q->q<w.heap.size
 own:H y
 hc:(Ol c:Int)<=9223372036854775807
 box:∃vS fa L,w.heap[y]?=some (.cells #[vS,.int .i64 (leftOf c),.bool fa,.bool np] 68 (0,0))/\(c.isSome=true->fa=Jg c)/\(∀q,vS.ownBlock=some q->H q)/\L.map (·.1)=l/\w.ownsRow 0 74 2 vS L.length (Jm L)/\∀x∈L,Fj w 0 x.2 x.1.2/\∀q,x.2.ownBlock=some q->H q
theorem Jc.keep{F H:Nat->Prop}{w w':World}{y:Nat}{l:List Fold}{c:Bo}{np:Bool}(h:Jc w y H l c np)(t:Touch F w w')(hf:∀q,H q->¬F q):Jc w' y H l c np:=by
 obtain⟨vS,fa,L,h1,h2,h3,h4,h5,h6⟩:=h.box;exact⟨fun q hq=>Nat.lt_of_lt_of_le (h.low q hq) t.size,h.own,h.hc,vS,fa,L,(t.block y (h.low y h.own) (hf y h.own)).trans h1,h2,h3,h4,t.owns h5 (fun q hq=>hf q (h3 q hq)),fun x hx=>⟨t.owns (h6 x hx).1 (fun q hq=>hf q ((h6 x hx).2 q hq)),(h6 x hx).2⟩⟩
theorem Jc.same{H:Nat->Prop}{w w':World}{y:Nat}{l:List Fold}{c:Bo}{np:Bool}(h:Jc w y H l c np)(t:Touch (fun _=>False) w w'):Jc w' y H l c np:=h.keep t (fun _ _ e=>e)
theorem Jc.turn{H:Nat->Prop}{w w':World}{y:Nat}{l:List Fold}{c c':Bo}{np np':Bool}{vS:Value}{fa fa':Bool}{L:List (Fold×Value)}(h:Jc w y H l c np)(hb:w.heap[y]?=some (.cells #[vS,.int .i64 (leftOf c),.bool fa,.bool np] 68 (0,0)))(h3:∀q,vS.ownBlock=some q->H q)(h4:L.map (·.1)=l)(h5:w.ownsRow 0 74 2 vS L.length (Jm L))(h6:∀x∈L,Fj w 0 x.2 x.1.2/\∀q,x.2.ownBlock=some q->H q)(t:Touch (fun k=>k=y) w w')(hb':w'.heap[y]?=some (.cells #[vS,.int .i64 (leftOf c'),.bool fa',.bool np'] 68 (0,0)))(hf:c'.isSome=true->fa'=Jg c')(hc:(Ol c':Int)<=9223372036854775807):Jc w' y H l c' np':=by
 have ty:Typed w y 68:=⟨_,_,hb⟩;refine⟨fun q hq=>Nat.lt_of_lt_of_le (h.low q hq) t.size,h.own,hc,vS,fa',L,hb',hf,h3,h4,t.owns h5 (fun q hq e=>?_),fun x hx=>⟨t.owns (h6 x hx).1 (fun q hq e=>?_),(h6 x hx).2⟩⟩
 .subst e;exact absurd ((Typed.owned h5 hq).ne ty) (by decide)
 subst e;exact absurd ((Typed.owned (h6 x hx).1 hq).ne ty) (by decide)
theorem Qio(w:World):Calls Tryz.prog 52 #[] w fun e w'=>e=.returned (.pointer (some ⟨w.heap.size,0,none⟩))/\Jc w' w.heap.size (fun q=>q=w.heap.size) [] none false/\Touch (fun _=>False) w w':=by
 go_enter Tryz.func52,Tryz.ntmps52;go_wp2;go_ret;refine⟨rfl,⟨fun q e=>by rw[e];simp,rfl,by simp[Ol],.slice none 0 0,false,[],heap_alloc_new w _,fun e=>(by cases e),fun q e=>(by cases e),rfl,World.ownsRow_nil _ _ _ _,fun x hx=>(by cases hx)⟩,(Touch.refl _ _).alloc _⟩
theorem Qi0(w:World)(y:Nat)(H:Nat->Prop)(l:List Fold)(c:Bo)(np:Bool)(h:Jc w y H l c np)(n:Int)(f:Bool)(hn:n<=9223372036854775807): Calls Tryz.prog 106 #[.pointer (some ⟨y,0,none⟩),.int .i64 n,.bool f] w fun r w'=>r=.returned (.int .i64 (if n<0 then 15 else 0))/\Jc w' y H l (if n<0 then c else some (n.toNat,f)) np/\Touch H w w':=by
 obtain⟨vS,fa,L,h1,h2,h3,h4,h5,h6⟩:=h.box;have c1:w.cell? ⟨y,1,none⟩=some (.int .i64 (leftOf c)):=by rw[Ac h1];rfl
 have c2:w.cell? ⟨y,2,none⟩=some (.bool fa):=by rw[Ac h1];rfl
 have f1:=Ew h1 1;have f2:=Ew h1 2;have hlt:=h.low y h.own;by_cases hneg:n<0
 .rw[if_pos hneg,if_pos hneg];have HH:Hid (Jc w y H l c np):=h;clear h h1 h2 h3 h4 h5 h6;go_enter Tryz.func106,Tryz.ntmps106;go_wp2;go_ret;exact⟨rfl,HH.out,Touch.refl _ _⟩
 rw[if_neg hneg,if_neg hneg];have hL:leftOf (some (n.toNat,f))=n:=by show(n.toNat:Int)=n;omega
 have hb':=Dz (Dz h1 1 (.int .i64 n)) 2 (.bool f);have t:Touch (fun k=>k=y) w ((w.setCell ⟨y,1,none⟩ (.int .i64 n)).setCell ⟨y,2,none⟩ (.bool f)):=(Bf w y 1 _).trans (Bf _ y 2 _);have HR:Hid (Jc ((w.setCell ⟨y,1,none⟩ (.int .i64 n)).setCell ⟨y,2,none⟩ (.bool f)) y H l (some (n.toNat,f)) np):=h.turn h1 h3 h4 h5 h6 t (fa':=f) (by rw[hL];exact hb') (fun _=>rfl) (by simp only[Ol];omega);have HT:Hid (Touch H w ((w.setCell ⟨y,1,none⟩ (.int .i64 n)).setCell ⟨y,2,none⟩ (.bool f))):=t.wide (fun k e=>by rw[e];exact h.own);clear h h1 h2 h3 h4 h5 h6 hb' t hL;go_enter Tryz.func106,Tryz.ntmps106;go_wp2;go_ret;exact⟨rfl,HR.out,HT.out⟩
theorem Qhw(w:World)(y:Nat)(H:Nat->Prop)(l:List Fold)(c:Bo)(np:Bool)(h:Jc w y H l c np): Calls Tryz.prog 107 #[.pointer (some ⟨y,0,none⟩)] w fun r w'=>r=.returned (.tuple #[])/\Jc w' y H l none false/\Touch H w w':=by
 obtain⟨vS,fa,L,h1,h2,h3,h4,h5,h6⟩:=h.box;have c1:w.cell? ⟨y,1,none⟩=some (.int .i64 (leftOf c)):=by rw[Ac h1];rfl
 have c3:w.cell? ⟨y,3,none⟩=some (.bool np):=by rw[Ac h1];rfl
 have f1:=Ew h1 1;have f3:=Ew h1 3;have hlt:=h.low y h.own;have hb':=Dz (Dz h1 1 (.int .i64 (-1))) 3 (.bool false);have t:Touch (fun k=>k=y) w ((w.setCell ⟨y,1,none⟩ (.int .i64 (-1))).setCell ⟨y,3,none⟩ (.bool false)):=(Bf w y 1 _).trans (Bf _ y 3 _);have HR:Hid (Jc ((w.setCell ⟨y,1,none⟩ (.int .i64 (-1))).setCell ⟨y,3,none⟩ (.bool false)) y H l none false):=h.turn h1 h3 h4 h5 h6 t (c':=none) (fa':=fa) hb' (fun e=>by cases e) (by simp[Ol]);have HT:Hid (Touch H w ((w.setCell ⟨y,1,none⟩ (.int .i64 (-1))).setCell ⟨y,3,none⟩ (.bool false))):=t.wide (fun k e=>by rw[e];exact h.own);clear h h1 h2 h3 h4 h5 h6 hb' t;go_enter Tryz.func107,Tryz.ntmps107;go_wp2;go_end0;exact⟨rfl,HR.out,HT.out⟩
theorem Qdq(w:World)(a:Option Addr)(g cap:Nat)(o:List Gn)(h:0<o.length->a=some ⟨g,0,none⟩/\Dc w g o)(hol:o.length<=2000000)(hod:∀x∈o,x.2.length<=1099511627776): Calls Tryz.prog 162 #[.slice a o.length cap] w fun r w'=>r=.returned (.int .i64 ((gK o o.length:Nat):Int))/\w=w':=by
 obtain⟨M,hM⟩:∃M,M=o.length:=⟨_,rfl⟩;have HM:Hid (M=o.length):=hM;have HSP:Hid (∀k,k<=M->gK o k<=2199027256000000001):=fun k hk=>by
  have h1:=yT o 1099511627776 hod k;have h2:k*(1099511627776+2)<=2000000*(1099511627776+2):=Nat.mul_le_mul_right _ (by omega);omega
 have HOD:Hid (∀x∈o,x.2.length<=1099511627776):=hod;have HUG:Hid (0<o.length->a=some ⟨g,0,none⟩/\Dc w g o):=h;have hM1:M<=2000000:=by omega
 rw[<-hM];clear h hod hol hM;go_enter Tryz.func162,Tryz.ntmps162;go_wp2;go_loop [3,4] (fun s i=>∃k:Nat,k<=M/\i=.int .i64 (k:Int)/\∃q:Nat,s=.int .i64 (q:Int)/\Hid (q=gK o k)) (fun s i=>M-(intOf i).toNat)
 case atStart=>exact⟨0,Nat.zero_le _,rfl,1,rfl,rfl⟩
 case round=>
  obtain⟨k,hk,rfl,q,rfl,HQ⟩:=hrel;by_cases hlt:k<M
  .have hk':k<o.length:=by have:=HM.out;omega
   obtain⟨rfl,hfa⟩:=HUG.out (by omega);obtain⟨x1,x2⟩:=hfa k hk';have hsz:=HOD.out _ (List.getElem_mem hk');have hq:=HSP.out k hk;rw[<-HQ.out]at hq;have HSS:Hid (gK o (k+1)=q+1+(o[k].2.length+15)/16):=by unfold Hid;rw[wH o k hk',HQ.out]
   obtain⟨D,hD⟩:∃D:ByteArray,D=⟨o[k].2.toArray⟩:=⟨_,rfl⟩;have hDs:D.size=o[k].2.length:=by rw[hD];show o[k].2.toArray.size=_;simp
   rw[<-hD]at x2;rw[<-hDs]at HSS hsz;clear hfa hD hDs x1 HQ;have i1:(k:Int)<(M:Int):=by omega
   have z1:((D.size:Int)+15).tdiv 16=(((D.size+15)/16:Nat):Int):=by
    rw[Int.tdiv_eq_ediv_of_nonneg (by omega)];omega
   go_wp2;refine⟨⟨k+1,by omega,by go_num,q+1+(D.size+15)/16,?_,?_⟩,by simp[intOf];omega⟩
   .go_num
   exact HSS.out.symm
  obtain rfl:M=k:=by omega
  go_wp2;go_ret;exact⟨by rw[HQ.out];rfl,rfl⟩
theorem Vq{w:World}{vS:Value}{L:List (Fold×Value)}(h:w.ownsRow 0 74 2 vS L.length (Jm L)):∃a cap,vS=.slice a L.length cap/\L.length<=cap/\(0<L.length->∃g,a=some ⟨g,0,none⟩/\g<w.heap.size/\∀i (h:i<L.length),w.cell? ⟨g,i*2,none⟩=some (.string L[i].1.1)/\w.cell? ⟨g,i*2+1,none⟩=some L[i].2):=by
 obtain⟨h1,⟨h2,h3⟩|⟨g,cap,cur,e,hb,hg,h3,h4,h5,h6⟩⟩:=h;.exact⟨none,0,by rw[h2,h3],by omega,fun e=>by omega⟩
 refine⟨_,cap,e,h3,fun _=>⟨g,rfl,(Array.getElem?_eq_some_iff.1 hg).1,fun i hi=>?_⟩⟩;obtain⟨k1,k2⟩:=gY L i hi;rw[Ac hg (i*2),Ac hg (i*2+1)];rw[<-h6,List.getElem?_take_of_lt (by omega)]at k1 k2;exact⟨by simpa using k1,by simpa using k2⟩
theorem lK(L:List (Fold×Value))(name:ByteArray)(h:∀x∈L,x.1.1≠name):sG (L.map (·.1)) name=none:=by
 cases ha:sG (L.map (·.1)) name with
 |none=>rfl
 |some o=>
  obtain⟨x,hx,e,_⟩:=Ze ha;obtain⟨y,hy,rfl⟩:=List.mem_map.1 hx;exact absurd (Oo e) (h y hy)
theorem Qgf(L:List (Fold×Value))(name:ByteArray)(k:Nat)(hk:k<L.length)(h0:∀i (h:i<L.length),i<k->L[i].1.1≠name)(h1:L[k].1.1=name):sG (L.map (·.1)) name=some L[k].1.2:=by
 unfold sG;have:(L.map (·.1)).find? (fun x=>Ir x==name.data.toList)=some L[k].1:=by
  rw[List.find?_eq_some_iff_getElem];refine⟨by simp[Ir,h1],k,by simpa using hk,by simp,fun j hj=>?_⟩;have hj':j<L.length:=by omega
  simp only[List.getElem_map,Bool.not_eq_true',beq_eq_false_iff_ne,ne_eq];exact fun e=>h0 j hj' hj (Oo e)
 rw[this];rfl
def yY(w:World)(H:Nat->Prop)(A:Option (List Gn))(r:Ending):Prop:=match A with
 |none=>r=.returned (.tuple #[.slice none 0 0,.int .i64 16])
 |some o=>∃v,r=.returned (.tuple #[v,.int .i64 0])/\Fj w 0 v o/\∀q,v.ownBlock=some q->H q
theorem Qec(w:World)(y:Nat)(H:Nat->Prop)(l:List Fold)(c:Bo)(np:Bool)(h:Jc w y H l c np)(name:ByteArray)(hl:l.length<=1000000000): Calls Tryz.prog 109 #[.pointer (some ⟨y,0,none⟩),.string name] w fun r w'=>w=w'/\yY w H (sG l name) r:=by
 obtain⟨vS,fa,L,h1,h2,h3,h4,h5,h6⟩:=h.box;obtain⟨a,cap,rfl,hcap,hcl⟩:=Vq h5;have c0:w.cell? ⟨y,0,none⟩=some (.slice a L.length cap):=by rw[Ac h1];rfl
 obtain⟨n,hn⟩:∃n,n=L.length:=⟨_,rfl⟩;have hn1:n<=1000000000:=by rw[hn,<-List.length_map (f:=(·.1)),h4];exact hl
 rw[<-hn]at c0;have HN:Hid (n=L.length):=hn;have HC:Hid (0<L.length->∃g,a=some ⟨g,0,none⟩/\g<w.heap.size/\∀i (h:i<L.length),w.cell? ⟨g,i*2,none⟩=some (.string L[i].1.1)/\w.cell? ⟨g,i*2+1,none⟩=some L[i].2):=hcl;have H6:Hid (∀x∈L,Fj w 0 x.2 x.1.2/\∀q,x.2.ownBlock=some q->H q):=h6;rw[<-h4];clear h h1 h2 h3 h4 h5 h6 hcl hn hl hcap;go_enter Tryz.func109,Tryz.ntmps109;go_wp2;go_loop [6] (fun i=>∃k:Nat,k<=n/\i=.int .i64 (k:Int)/\Hid (∀j (h:j<L.length),j<k->L[j].1.1≠name)) (fun i=>n-(intOf i).toNat)
 case atStart=>exact⟨0,Nat.zero_le _,rfl,(fun j h hj=>by omega)⟩
 case round=>
  obtain⟨k,hk,rfl,HJ⟩:=hrel;by_cases hlt:k<n
  .have hk':k<L.length:=by have:=HN.out;omega
   obtain⟨g,rfl,hg,hcl⟩:=HC.out (by omega);obtain⟨x0,x1⟩:=hcl k hk';have i1:(k:Int)<(n:Int):=by omega
   have HX6:=H6.out _ (List.getElem_mem hk');by_cases he:L[k].1.1=name
   .have HAT:Hid (sG (L.map (·.1)) name=some L[k].1.2):=Qgf L name k hk' HJ.out he;obtain⟨v,hv⟩:∃v,v=L[k].2:=⟨_,rfl⟩;rw[<-hv]at x1 HX6;rw[he]at x0;have HX:Hid (Fj w 0 v L[k].1.2/\∀q,v.ownBlock=some q->H q):=HX6;obtain⟨va,vc,rfl⟩:=Ei HX6.1;have b1:(name.toList==name.toList)=true:=(by simp);clear hcl HX6 hv he HJ;go_wp2;refine bodyPost_ret (v:=.tuple #[.slice va L[k].1.2.length vc,.int .i64 0]) (by simp[results,Tryz.results109,go_sem]) rfl ⟨rfl,?_⟩;rw[HAT.out];exact⟨_,rfl,HX.out.1,HX.out.2⟩
   obtain⟨nm,hnm⟩:∃nm,nm=L[k].1.1:=⟨_,rfl⟩;have HJ2:Hid (∀j (h:j<L.length),j<k+1->L[j].1.1≠name):=fun j h hj=>by
    by_cases e:j=k;.subst e;exact he
    exact HJ.out j h (by omega)
   rw[<-hnm]at x0 he;have b1:(nm.toList==name.toList)=false:=by
    rw[beq_eq_false_iff_ne];intro e;exact he (Oo (by rw[<-toList_data,<-toList_data];exact e))
   clear hcl HX6 hnm HJ he x1;go_wp2;exact⟨⟨k+1,by omega,by go_num,HJ2⟩,by simp[intOf];omega⟩
  obtain rfl:n=k:=by omega
  have HAT:Hid (sG (L.map (·.1)) name=none):=lK L name (fun x hx=>by
   obtain⟨j,hj,rfl⟩:=List.getElem_of_mem hx;exact HJ.out j hj (by have:=HN.out;omega))
  clear HJ;go_wp2;refine bodyPost_ret (v:=.tuple #[.slice none 0 0,.int .i64 16]) (by simp[results,Tryz.results109,go_sem]) rfl ⟨rfl,?_⟩;rw[HAT.out];exact rfl
theorem Tryz.Qc0:(Tryz.prog.info? 74).map (fun i=>(i.zero,i.size,i.bytes))=some (some (.agg #[.string ⟨#[]⟩,.slice none 0 0]),2,40):=by kernel_rfl
theorem Qe5{s:ByteArray}{k:Nat}(hk:k<s.size)(h:s[k]=47):Ou s=true:=by
 unfold Ou;have h1:=Lib.indexByte_ge s.data.toList 47;by_cases h2:Lib.indexByte s.data.toList 47=-1
 .have h3:=Lib.indexByte_none h2 k;have h4:s.data.toList[k]?=some s[k]:=by
   have:k<s.data.toList.length:=by rw[Array.length_toList];exact hk
   rw[List.getElem?_eq_getElem this];rfl
  rw[h4,h]at h3;exact absurd rfl h3
 exact decide_eq_true (by omega)
theorem Qdb{s:ByteArray}(h:∀k (hk:k<s.size),s[k]≠47):Ou s=false:=by
 unfold Ou;refine decide_eq_false fun h0=>?_;obtain⟨o,ho⟩:∃o:Nat,Lib.indexByte s.data.toList 47=(o:Int):=⟨(Lib.indexByte s.data.toList 47).toNat,by omega⟩;obtain⟨h1,_⟩:=Lib.indexByte_some ho;have hlt:o<s.data.toList.length:=(List.getElem?_eq_some_iff.1 h1).1;have hlt':o<s.size:=by rw[Array.length_toList]at hlt;exact hlt
 rw[List.getElem?_eq_getElem hlt]at h1;exact h o hlt' (Option.some.inj h1)
theorem oI:∀(l:List Fold) (x:Fold) (k:Nat),k<=l.length->(∀j (h:j<l.length),j<k->Ir l[j]<Ir x)->(∀h:k<l.length,¬Ir l[k]<Ir x)->Oh l x=l.take k++x::l.drop k
 | [],x,k,hk,_,_=>by
  have:k=0:=by simpa using hk
  subst this;rfl
 |y::l,x,0,_,_,h1=>by
  have h2:¬Ir y<Ir x:=h1 (by simp);unfold Oh;rw[if_neg h2];rfl
 |y::l,x,k+1,hk,h0,h1=>by
  have e:Ir y<Ir x:=h0 0 (by simp) (by omega);unfold Oh;rw[if_pos e,oI l x k (by simpa using hk) (fun j h hj=>h0 (j+1) (by simpa using h) (by omega)) (fun h=>h1 (by simpa using h))];rfl
theorem xP{w:World}{vS:Value}{L:List (Fold×Value)}(h:w.ownsRow 0 74 2 vS L.length (Jm L)):(vS=.slice none 0 0/\L=[])\/∃g cap,vS=.slice (some ⟨g,0,none⟩) L.length cap/\L.length<=cap/\g<w.heap.size/\∀j u,(Jm L)[j]?=some u->w.cell? ⟨g,j,none⟩=some u:=by
 obtain⟨h1,⟨h2,h3⟩|⟨g,cap,cur,e,hb,hg,h3,h4,h5,h6⟩⟩:=h;.exact .inl ⟨h2,List.eq_nil_of_length_eq_zero h3⟩
 refine .inr ⟨g,cap,e,h3,(Array.getElem?_eq_some_iff.1 hg).1,fun j u hu=>?_⟩;have hlt:=(List.getElem?_eq_some_iff.1 hu).1;rw[h1]at hlt;rw[<-h6,List.getElem?_take_of_lt hlt]at hu;rw[Ac hg j];simpa using hu
theorem xG(L:List (Fold×Value))(k j:Nat)(u:Value)(h:(Jm (L.take k))[j]?=some u):(Jm L)[j]?=some u:=by
 have e:Jm L=Jm (L.take k)++Jm (L.drop k):=by rw[<-aW,List.take_append_drop]
 rw[e,List.getElem?_append_left (List.getElem?_eq_some_iff.1 h).1];exact h
theorem Qej(L:List (Fold×Value))(k j:Nat)(hk:k<=L.length)(u:Value)(h:(Jm (L.drop k))[j]?=some u):(Jm L)[k*2+j]?=some u:=by
 have e:Jm L=Jm (L.take k)++Jm (L.drop k):=by rw[<-aW,List.take_append_drop]
 have hl:(Jm (L.take k)).length=k*2:=by rw[gQ,List.length_take];omega
 rw[e,List.getElem?_append_right (by omega),hl,show k*2+j-k*2=j by omega];exact h
theorem Qa3(L:List (Fold×Value))(h:∀x∈L,∃a n c,x.2=.slice a n c):∀u∈Jm L,u.oneCell'=true:=by
 intro u hu;simp only[Jm,List.mem_flatMap]at hu;obtain⟨x,hx,h2⟩:=hu;obtain⟨a,n,c,e⟩:=h x hx;simp only[List.mem_cons,List.not_mem_nil,or_false]at h2;rcases h2 with rfl|rfl;.rfl
 rw[e];rfl
theorem Qi5{w:World}{base:Nat}{v:Value}{o:List Gn}(h:Fj w base v o):∃a cap g,v=.slice a o.length cap/\(0<o.length->a=some ⟨g,0,none⟩/\Dc w g o/\g<w.heap.size):=by
 obtain⟨q1,⟨q2,q3⟩|⟨g,cap,cur,rfl,hrest⟩⟩:=id h;.exact⟨none,0,0,by rw[q2,q3],fun h=>by omega⟩
 obtain⟨a1,a2,a3,a4⟩:=Fj.files h;exact⟨_,cap,g,rfl,fun _=>⟨rfl,a1,a2⟩⟩
def Qh1(l:List Fold)(c:Bo)(name:ByteArray)(U:Sum Nat (List Gn)):Nat×List Fold×Bo×Bool:=match U with
 |.inl k=>(k,l,c,false)
 |.inr o=>match takeC c (Eh o+1)with
  |some d=>(0,Oh l (name,o),d,false)
  |none=>(14,l,if Jg c then none else some (0,false),!Jg c)
theorem Qgx(l:List Fold)(c:Bo)(name:ByteArray)(U:Sum Nat (List Gn))(h1:Dq name=true)(h2:yX l name=false):Ha l c false name U=Qh1 l c name U:=by
 unfold Ha Qh1;rw[if_neg (by simp),h1,if_neg (by simp),h2,if_neg (by simp)];cases U with
 |inl k=>rfl
 |inr o=>
  simp only;cases takeC c (Eh o+1)<;>rfl
theorem Qip(w:World)(s:ByteArray)(qe qn qb:Int)(hs:s.size<=1048576): Calls Tryz.prog 102 #[.string s,.agg #[.int .i64 qe,.int .i64 qn,.int .i64 qb]] w fun r w'=>Touch (fun _=>False) w w'/\match Gm s qe qn qb with
   |.inl k=>r=.returned (.tuple #[.slice none 0 0,.int .i64 (k:Int)])
   |.inr o=>∃v,r=.returned (.tuple #[v,.int .i64 0])/\Fj w' w.heap.size v o:=by
 refine(Xl w s qe qn qb hs).mono ?_;rintro r w' ⟨t,hp⟩;refine⟨t,?_⟩;unfold Gm;unfold Hg at hp;cases hR:listOf s qe qn qb with
 |error k=>rw[hR]at hp;exact hp
 |ok L=>
  rw[hR]at hp;simp only at hp ⊢;cases hfg:Gx s L []with
  |inl k=>rw[hfg]at hp;exact hp
  |inr o=>rw[hfg]at hp;exact hp
theorem fB{s:ByteArray}{qe qn qb:Int}{o:List Gn}(hs:s.size<=1048576)(h:Gm s qe qn qb=.inr o):Pj o/\o.length<=2000000/\∀x∈o,x.2.length<=1099511627776:=by
 obtain⟨h1,L,h2,h3⟩:=tN (by omega) h;have h4:=Ux s qe qn qb L h2;refine⟨h1,by omega,fun x hx=>?_⟩;have hok:=Td s qe qn qb L h2 (by omega);obtain⟨heach,hcl⟩:=Iz s qe qn qb L h2;unfold Gm at h;rw[h2]at h;simp only at h;cases hfg:Dp s L []with
 |inl k=>
  have h5:=Su s L (fun x hx=>Eb _ (heach x hx).2) hcl;rw[hfg]at h5;have h6:Gx s L []=.inl k:=h5;rw[h6]at h;cases h
 |inr fs=>
  have h0:Nq L [] [] []:=⟨List.Perm.refl _,List.Pairwise.nil,fun f hf=>(by cases hf),fun f hf=>(by cases hf)⟩;have hn:∀x∈L,Ci x.Af.name=true:=fun x hx=>Eb _ (heach x hx).2;have h5:=Wp s (kQ hn hcl) hcl L [] [] [] [] rfl h0 (fun f hf=>by cases hf);rw[hfg]at h5;obtain⟨o',ho,hin⟩:=(show∃o,Gx s L []=.inr o/\Nq L fs (Ep L []) o from h5);rw[ho]at h;cases h;rcases List.mem_append.1 (hin.perm.mem_iff.1 hx)with h7|h7
  .rcases Rj s L [] fs hfg x h7 with h8|⟨y,hy,hd⟩;.cases h8
   have h9:=(iZ s y x.2 (hok.2.1 y hy) (heach y hy).2 hd).1;have h10:=(hok.2.1 y hy).size;omega
  obtain⟨p,_,rfl⟩:=List.mem_map.1 h7;exact Nat.zero_le _
end Go.Proofs.YtmhlkdlcpicekaaGreatDoor
