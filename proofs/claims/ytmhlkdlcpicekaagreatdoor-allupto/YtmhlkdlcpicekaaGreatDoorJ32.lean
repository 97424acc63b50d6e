/- Joined. -/
import Derived.Test.YtmhlkdlcpicekaaGreatDoorJ31
set_option linter.unusedSimpArgs false
set_option linter.unusedVariables false
set_option maxRecDepth 100000
set_option maxHeartbeats 20000000
namespace Go.Proofs.YtmhlkdlcpicekaaGreatDoor
open Go.RowKit
theorem Ef{P:Program}{f:FuncId}{args:Array Value}{w:World}{n:Nat}{v:Value}(h:Calls P f args (w.drewN n) fun e w'=>e=.returned v/\w.drewN n=w'):Calls P f args (w.drewN n) fun e w''=>e=.returned v/\∃m,w''=w.drewN m:=
 h.mono fun _ _ ⟨a,b⟩=>⟨a,n,b.symm⟩
theorem XB.ofList(w:World)(l:List Value)(h:l.length=13)(t:TypeId):XB (w.alloc (Obj.cells l.toArray t)) w.heap.size l:=by
 have hb:=heap_alloc_new w (Obj.cells l.toArray t);refine⟨fun i hi=>?_,h,fun i=>Cb hb i,by simp⟩;rw[Ac hb i];simp
theorem yN(w:World)(s nm:ByteArray)(P a pk sz sm fl md f1 f2 f3 n26 n28 n6 n8 n14 n18 n22 z4 z8 z12 b t:Nat)(m1 m2:Bool)(R:Value)(hP:P<=s.size)(hs:s.size<=140737488355328)(la:a<=1099511627776)(lpk:pk<=1099511627776)(lsz:sz<=1099511627776)(lfl:fl<65536)(l26:n26<65536)(l28:n28<65536)(hb:b=a+30+n26+n28)(ht:t=b+pk+if fl/8%2=1 then 16 else 0)(H26:Hid (∀(W:World) (A N:Int),a+30<=P->A=(a:Int)+26->N=2->Calls Tryz.prog 224 #[.string s,.int .i64 A,.int .i64 N] W fun e w'=>e=.returned (.int .i64 (n26:Int))/\W=w'))(H28:Hid (∀(W:World) (A N:Int),a+30<=P->A=(a:Int)+28->N=2->Calls Tryz.prog 224 #[.string s,.int .i64 A,.int .i64 N] W fun e w'=>e=.returned (.int .i64 (n28:Int))/\W=w'))(H6:Hid (∀(W:World) (A N:Int),a+30<=P->A=(a:Int)+6->N=2->Calls Tryz.prog 224 #[.string s,.int .i64 A,.int .i64 N] W fun e w'=>e=.returned (.int .i64 (n6:Int))/\W=w'))(H8:Hid (∀(W:World) (A N:Int),a+30<=P->A=(a:Int)+8->N=2->Calls Tryz.prog 224 #[.string s,.int .i64 A,.int .i64 N] W fun e w'=>e=.returned (.int .i64 (n8:Int))/\W=w'))(H14:Hid (∀(W:World) (A N:Int),a+30<=P->A=(a:Int)+14->N=4->Calls Tryz.prog 224 #[.string s,.int .i64 A,.int .i64 N] W fun e w'=>e=.returned (.int .i64 (n14:Int))/\W=w'))(H18:Hid (∀(W:World) (A N:Int),a+30<=P->A=(a:Int)+18->N=4->Calls Tryz.prog 224 #[.string s,.int .i64 A,.int .i64 N] W fun e w'=>e=.returned (.int .i64 (n18:Int))/\W=w'))(H22:Hid (∀(W:World) (A N:Int),a+30<=P->A=(a:Int)+22->N=4->Calls Tryz.prog 224 #[.string s,.int .i64 A,.int .i64 N] W fun e w'=>e=.returned (.int .i64 (n22:Int))/\W=w'))(Hz4:Hid (∀(W:World) (A N:Int),b+pk+16<=P->A=(b:Int)+(pk:Int)+4->N=4->Calls Tryz.prog 224 #[.string s,.int .i64 A,.int .i64 N] W fun e w'=>e=.returned (.int .i64 (z4:Int))/\W=w'))(Hz8:Hid (∀(W:World) (A N:Int),b+pk+16<=P->A=(b:Int)+(pk:Int)+8->N=4->Calls Tryz.prog 224 #[.string s,.int .i64 A,.int .i64 N] W fun e w'=>e=.returned (.int .i64 (z8:Int))/\W=w'))(Hz12:Hid (∀(W:World) (A N:Int),b+pk+16<=P->A=(b:Int)+(pk:Int)+12->N=4->Calls Tryz.prog 224 #[.string s,.int .i64 A,.int .i64 N] W fun e w'=>e=.returned (.int .i64 (z12:Int))/\W=w'))(Hm1:Hid (∀(W:World) (A:Int),a+30<=P->A=(a:Int)->Calls Tryz.prog 223 #[.string s,.int .i64 A,.int .u8 3,.int .u8 4] W fun e w'=>e=.returned (.bool m1)/\Touch (fun _=>False) W w'))(Hm2:Hid (∀(W:World) (A:Int),b+pk+16<=P->A=(b:Int)+(pk:Int)->Calls Tryz.prog 223 #[.string s,.int .i64 A,.int .u8 7,.int .u8 8] W fun e w'=>e=.returned (.bool m2)/\Touch (fun _=>False) W w'))(HN:Hid (¬((a+30<=P/\t<=P/\m1=true/\n6=fl/\n8=md/\s.extract (a+30) (a+30+n26)=nm)/\((n14=f1/\n18=f2/\n22=f3)\/(fl/8%2=1/\n14=0/\n18=0/\n22=0))/\(fl/8%2=1->m2=true/\z4=sm/\z8=pk%4294967296/\z12=sz%4294967296))->R=.tuple #[.int .i64 0,.int .i64 0,.bool false]))(HY:Hid ((a+30<=P/\t<=P/\m1=true/\n6=fl/\n8=md/\s.extract (a+30) (a+30+n26)=nm)/\((n14=f1/\n18=f2/\n22=f3)\/(fl/8%2=1/\n14=0/\n18=0/\n22=0))/\(fl/8%2=1->m2=true/\z4=sm/\z8=pk%4294967296/\z12=sz%4294967296)->R=.tuple #[.int .i64 (b:Int),.int .i64 (t:Int),.bool true])): Calls Tryz.prog 157 #[.string s,.agg #[.string nm,.int .i64 (md:Int),.int .i64 (sm:Int),.int .i64 (pk:Int),.int .i64 (sz:Int),.int .i64 0,.int .i64 (fl:Int),.int .i64 (a:Int),.int .i64 (f1:Int),.int .i64 (f2:Int),.int .i64 (f3:Int),.int .i64 0,.int .i64 0],.int .i64 (P:Int)] w fun r w'=>r=.returned R/\Touch (fun _=>False) w w':=by
 have X0:=XB.ofList w [.string nm,.int .i64 (md:Int),.int .i64 (sm:Int),.int .i64 (pk:Int),.int .i64 (sz:Int),.int .i64 0,.int .i64 (fl:Int),.int .i64 (a:Int),.int .i64 (f1:Int),.int .i64 (f2:Int),.int .i64 (f3:Int),.int .i64 0,.int .i64 0] rfl 248;have T0:=(Touch.refl (fun _=>False) w).alloc (Obj.cells #[.string nm,.int .i64 (md:Int),.int .i64 (sm:Int),.int .i64 (pk:Int),.int .i64 (sz:Int),.int .i64 0,.int .i64 (fl:Int),.int .i64 (a:Int),.int .i64 (f1:Int),.int .i64 (f2:Int),.int .i64 (f3:Int),.int .i64 0,.int .i64 0] 248);by_cases k30:a+30<=P
 case neg=>
  have FN:Hid (R=.tuple #[.int .i64 0,.int .i64 0,.bool false]):=HN.out (fun h=>k30 h.1.1);have g30:(P:Int)<(a:Int)+30:=by omega
  go_enter Tryz.func157,Tryz.ntmps157;go_wp2;go_ret3;exact⟨by rw[FN.out];rfl,T0⟩
 have f30:¬(P:Int)<(a:Int)+30:=by omega
 have cP:(P:Int)<=(s.size:Int):=by omega
 go_enter Tryz.func157,Tryz.ntmps157;go_wp2_with fail;refine(Hm1.out _ _ k30 (by omega)).mono ?_;rintro e w1 ⟨rfl,t1⟩;have X1:=X0.keep t1 (fun e=>e);have T1:=T0.trans t1;clear X0 T0 t1 Hm1;have c3:w1.cell? ⟨w.heap.size,3,none⟩=some (.int .i64 (pk:Int)):=X1.cells 3 (by omega);have c6:w1.cell? ⟨w.heap.size,6,none⟩=some (.int .i64 (fl:Int)):=X1.cells 6 (by omega);have tp:¬fl/8%2=1->t=b+pk:=fun h=>by rw[ht,if_neg h];rfl
 have tl:fl/8%2=1->t=b+pk+16:=fun h=>by rw[ht,if_pos h]
 have TP:Hid (¬fl/8%2=1->t=b+pk):=tp;have TL:Hid (fl/8%2=1->t=b+pk+16):=tl;have lt:t<=4398046511104:=by
  by_cases h:fl/8%2=1;.have:=tl h;omega
  have:=tp h;omega
 clear ht tp tl;go_upto_if 49 with(go_at_call 224;first|(refine(H26.out _ _ _ k30 (by omega) (by omega)).mono ?_;rintro e wn ⟨rfl,rfl⟩)|(refine(H28.out _ _ _ k30 (by omega) (by omega)).mono ?_;rintro e wn ⟨rfl,rfl⟩));go_cut [13,14,15] from 49 to 51 (fun p t' l wc=>p=.int .i64 (b:Int)/\t'=.int .i64 (t:Int)/\l=.bool (decide (fl/8%2=1))/\XB wc w.heap.size [.string nm,.int .i64 (md:Int),.int .i64 (sm:Int),.int .i64 (pk:Int),.int .i64 (sz:Int),.int .i64 0,.int .i64 (fl:Int),.int .i64 (a:Int),.int .i64 (f1:Int),.int .i64 (f2:Int),.int .i64 (f3:Int),.int .i64 0,.int .i64 0]/\Touch (fun _=>False) w wc)
 case first=>
  by_cases q:fl/8%2=1
  .have q1:((fl:Int)/8%2==1)=true:=by simp;omega
   have q2:(fl:Int)/8%2=1:=by omega
   have e1:=TL.out q;clear TL TP;go_wp2;go_meet
   case rel=>exact⟨by rw[hb];push_cast;rfl,by rw[e1,hb];push_cast;rfl,by rw[decide_eq_true q,q1],X1,T1⟩
  have q1:((fl:Int)/8%2==1)=false:=by simp;omega
  have q2:¬(fl:Int)/8%2=1:=by omega
  have e1:=TP.out q;clear TL TP;go_wp2;go_meet
  case rel=>exact⟨by rw[hb];push_cast;rfl,by rw[e1,hb];push_cast;rfl,by rw[decide_eq_false q,q1],X1,T1⟩
 case rest=>
  obtain⟨rfl,rfl,rfl,X2,T2⟩:=hcut;have HB0:Hid (b=a+30+n26+n28):=hb;have lb1:a+30+n26<=b:=by omega
  have lb2:b<=1099511758876:=by omega
  clear hb;clear X1 T1 c3 c6 H26 H28;have c0:_=some (.string nm:Value):=X2.cells 0 (by omega);have c1:_=some (.int .i64 (md:Int):Value):=X2.cells 1 (by omega);have c6:_=some (.int .i64 (fl:Int):Value):=X2.cells 6 (by omega);go_upto_region 12 with fail;go_cut [89] from 52 to 89 (fun o wc=>o=.bool (!decide (t<=P/\m1=true/\n6=fl/\n8=md/\s.extract (a+30) (a+30+n26)=nm))/\XB wc w.heap.size [.string nm,.int .i64 (md:Int),.int .i64 (sm:Int),.int .i64 (pk:Int),.int .i64 (sz:Int),.int .i64 0,.int .i64 (fl:Int),.int .i64 (a:Int),.int .i64 (f1:Int),.int .i64 (f2:Int),.int .i64 (f3:Int),.int .i64 0,.int .i64 0]/\Touch (fun _=>False) w wc)
  case first=>
   clear HN HY Hm2 Hz4 Hz8 Hz12 H14 H18 H22;cases m1 with
   |false=>
    go_quiet (fail);go_wp2;go_meet
    case rel=>exact⟨by rw[decide_eq_false (by simp)];rfl,X2.drewN _,T2.drewN _⟩
   |true=>
    by_cases k1:t<=P
    case neg=>
     have k1':decide ((P:Int)<(t:Int))=true:=decide_eq_true (by omega);have k1n:decide (P<t)=true:=decide_eq_true (by omega);go_quiet (fail);go_wp2;go_meet
     case rel=>exact⟨by rw[decide_eq_false (by omega)];rfl,X2.drewN _,T2.drewN _⟩
    have k1':decide ((P:Int)<(t:Int))=false:=decide_eq_false (by omega);have k1n:decide (P<t)=false:=decide_eq_false (by omega);have kb:b<=t:=by
     by_cases h:fl/8%2=1;.have:=TL.out h;omega
     have:=TP.out h;omega
    have kn:a+30+n26<=P:=(by omega);have j1:(0:Int)<=(a:Int)+30:=(by omega);have j2:(a:Int)+30<=(a:Int)+30+(n26:Int):=(by omega);have j3:(a:Int)+30+(n26:Int)<=(s.size:Int):=(by omega);have j4:((a:Int)+30).toNat=a+30:=(by omega);have j5:((a:Int)+30+(n26:Int)).toNat=a+30+n26:=(by omega);by_cases k2:n6=fl
    case neg=>
     have k2':((n6:Int) != (fl:Int))=true:=(by simp;omega);go_quiet (first|(go_at_call 224;refine Ef (H6.out _ _ _ k30 (by omega) (by omega)))|(go_at_call 224;refine Ef (H8.out _ _ _ k30 (by omega) (by omega))));go_wp2;go_meet
     case rel=>exact⟨by rw[decide_eq_false (by omega)];rfl,X2.drewN _,T2.drewN _⟩
    have k2':((n6:Int) != (fl:Int))=false:=(by simp;omega);by_cases k3:n8=md
    case neg=>
     have k3':((n8:Int) != (md:Int))=true:=(by simp;omega);go_quiet (first|(go_at_call 224;refine Ef (H6.out _ _ _ k30 (by omega) (by omega)))|(go_at_call 224;refine Ef (H8.out _ _ _ k30 (by omega) (by omega))));go_wp2;go_meet
     case rel=>exact⟨by rw[decide_eq_false (by omega)];rfl,X2.drewN _,T2.drewN _⟩
    have k3':((n8:Int) != (md:Int))=false:=(by simp;omega);by_cases k4:s.extract (a+30) (a+30+n26)=nm
    case neg=>
     have k4':((s.extract (a+30) (a+30+n26)).toList==nm.toList)=false:=by
      rw[beq_eq_false_iff_ne,Ne,bytes_eq];exact k4
     go_quiet (first|(go_at_call 224;refine Ef (H6.out _ _ _ k30 (by omega) (by omega)))|(go_at_call 224;refine Ef (H8.out _ _ _ k30 (by omega) (by omega))));go_wp2;go_meet
     case rel=>exact⟨by rw[decide_eq_false (fun h=>k4 h.2.2.2.2)];rfl,X2.drewN _,T2.drewN _⟩
    have k4':((s.extract (a+30) (a+30+n26)).toList==nm.toList)=true:=by
     rw[beq_iff_eq,bytes_eq];exact k4
    go_quiet (first|(go_at_call 224;refine Ef (H6.out _ _ _ k30 (by omega) (by omega)))|(go_at_call 224;refine Ef (H8.out _ _ _ k30 (by omega) (by omega))));go_wp2;go_meet
    case rel=>exact⟨by rw[decide_eq_true (by first|exact⟨k1,rfl,k2,k3,k4⟩|exact⟨k1,trivial,k2,k3,k4⟩)];rfl,X2.drewN _,T2.drewN _⟩
  case rest=>
   obtain⟨rfl,X3,T3⟩:=hcut;clear X2 T2 c0 c1 c6 H6 H8;by_cases hD1:t<=P/\m1=true/\n6=fl/\n8=md/\s.extract (a+30) (a+30+n26)=nm
   case neg=>
    have FN:Hid (R=.tuple #[.int .i64 0,.int .i64 0,.bool false]):=HN.out (fun h=>hD1 h.1.2);rw[decide_eq_false hD1];clear HN HY hD1 Hm2 Hz4 Hz8 Hz12 H14 H18 H22;go_wp2;go_ret3;exact⟨by rw[FN.out];rfl,T3⟩
   rw[decide_eq_true hD1];have k1:=hD1.1;have HD1:Hid (a+30<=P/\t<=P/\m1=true/\n6=fl/\n8=md/\s.extract (a+30) (a+30+n26)=nm):=⟨k30,hD1⟩;clear hD1;have c8:_=some (.int .i64 (f1:Int):Value):=X3.cells 8 (by omega);have c9:_=some (.int .i64 (f2:Int):Value):=X3.cells 9 (by omega);have c10:_=some (.int .i64 (f3:Int):Value):=X3.cells 10 (by omega);have lw:=X3.lt;go_upto_region 15 with(go_at_call 224;first|(refine(H14.out _ _ _ k30 (by omega) (by omega)).mono ?_;rintro e wn ⟨rfl,rfl⟩)|(refine(H18.out _ _ _ k30 (by omega) (by omega)).mono ?_;rintro e wn ⟨rfl,rfl⟩)|(refine(H22.out _ _ _ k30 (by omega) (by omega)).mono ?_;rintro e wn ⟨rfl,rfl⟩));go_cut [15,115] from 103 to 115 (fun l o wc=>l=.bool (decide (fl/8%2=1))/\o=.bool (!decide ((n14=f1/\n18=f2/\n22=f3)\/(fl/8%2=1/\n14=0/\n18=0/\n22=0)))/\XB wc w.heap.size [.string nm,.int .i64 (md:Int),.int .i64 (sm:Int),.int .i64 (pk:Int),.int .i64 (sz:Int),.int .i64 0,.int .i64 (fl:Int),.int .i64 (a:Int),.int .i64 (f1:Int),.int .i64 (f2:Int),.int .i64 (f3:Int),.int .i64 0,.int .i64 0]/\Touch (fun _=>False) w wc)
   case first=>
    clear HN HY TP TL Hm2 Hz4 Hz8 Hz12 HD1;have X4:=X3.keep ((Touch.refl (fun _=>False) _).alloc (Obj.cells #[.int .i64 (n14:Int),.int .i64 (n18:Int),.int .i64 (n22:Int)] 246)) (fun e=>e);have T4:=T3.alloc (Obj.cells #[.int .i64 (n14:Int),.int .i64 (n18:Int),.int .i64 (n22:Int)] 246);by_cases d1:n14=f1/\n18=f2/\n22=f3
    .have he:∀W,(Op.equalIn 10000 246 (.agg #[.int .i64 (n14:Int),.int .i64 (n18:Int),.int .i64 (n22:Int)]) (.agg #[.int .i64 (f1:Int),.int .i64 (f2:Int),.int .i64 (f3:Int)])).run Tryz.prog W=.ok true W:=fun W=>by
      rw[oP,d1.1,d1.2.1,d1.2.2];simp
     have d2:decide ((n14=f1/\n18=f2/\n22=f3)\/(fl/8%2=1/\n14=0/\n18=0/\n22=0))=true:=decide_eq_true (.inl d1);clear d1;go_wp2;go_meet
     case rel=>exact⟨by first|rfl|rw[q1],by rw[d2];rfl,X4,T4⟩
    have he:∀W,(Op.equalIn 10000 246 (.agg #[.int .i64 (n14:Int),.int .i64 (n18:Int),.int .i64 (n22:Int)]) (.agg #[.int .i64 (f1:Int),.int .i64 (f2:Int),.int .i64 (f3:Int)])).run Tryz.prog W=.ok false W:=fun W=>by
     rw[oP];congr 1;rw[Bool.eq_false_iff];intro h;simp at h;exact d1 (by omega)
    by_cases q:fl/8%2=1
    .have q1:decide (fl/8%2=1)=true:=decide_eq_true q;by_cases d3:n14=0/\n18=0/\n22=0
     .have he2:∀W,(Op.equalIn 10000 246 (.agg #[.int .i64 (n14:Int),.int .i64 (n18:Int),.int .i64 (n22:Int)]) (.agg #[.int .i64 0,.int .i64 0,.int .i64 0])).run Tryz.prog W=.ok true W:=fun W=>by
       rw[oP,d3.1,d3.2.1,d3.2.2];simp
      have d2:decide ((n14=f1/\n18=f2/\n22=f3)\/(fl/8%2=1/\n14=0/\n18=0/\n22=0))=true:=decide_eq_true (.inr ⟨q,d3⟩);clear d1 d3;go_wp2;go_meet
      case rel=>exact⟨by first|rfl|rw[q1],by rw[d2];rfl,X4,T4⟩
     have he2:∀W,(Op.equalIn 10000 246 (.agg #[.int .i64 (n14:Int),.int .i64 (n18:Int),.int .i64 (n22:Int)]) (.agg #[.int .i64 0,.int .i64 0,.int .i64 0])).run Tryz.prog W=.ok false W:=fun W=>by
      rw[oP];congr 1;rw[Bool.eq_false_iff];intro h;simp at h;exact d3 (by omega)
     have d2:decide ((n14=f1/\n18=f2/\n22=f3)\/(fl/8%2=1/\n14=0/\n18=0/\n22=0))=false:=decide_eq_false (fun h=>h.elim d1 (fun h=>d3 h.2));clear d1 d3;go_wp2;go_meet
     case rel=>exact⟨by first|rfl|rw[q1],by rw[d2];rfl,X4,T4⟩
    have q1:decide (fl/8%2=1)=false:=decide_eq_false q;have d2:decide ((n14=f1/\n18=f2/\n22=f3)\/(fl/8%2=1/\n14=0/\n18=0/\n22=0))=false:=decide_eq_false (fun h=>h.elim d1 (fun h=>q h.1));clear d1;go_wp2;go_meet
    case rel=>exact⟨by first|rfl|rw[q1],by rw[d2];rfl,X4,T4⟩
   case rest=>
    obtain⟨rfl,rfl,X5,T5⟩:=hcut;clear X3 T3 c8 c9 c10 lw H14 H18 H22;by_cases hD2:(n14=f1/\n18=f2/\n22=f3)\/(fl/8%2=1/\n14=0/\n18=0/\n22=0)
    case neg=>
     have FN:Hid (R=.tuple #[.int .i64 0,.int .i64 0,.bool false]):=HN.out (fun h=>hD2 h.2.1);rw[decide_eq_false hD2];clear HN HY hD2 Hm2 Hz4 Hz8 Hz12 HD1;go_wp2;go_ret3;exact⟨by rw[FN.out];rfl,T5⟩
    rw[decide_eq_true hD2];have HD2:Hid ((n14=f1/\n18=f2/\n22=f3)\/(fl/8%2=1/\n14=0/\n18=0/\n22=0)):=hD2;clear hD2;by_cases q:fl/8%2=1
    case neg=>
     have q1:decide (fl/8%2=1)=false:=decide_eq_false q;have FY:Hid (R=.tuple #[.int .i64 (b:Int),.int .i64 (t:Int),.bool true]):=HY.out ⟨HD1.out,HD2.out,fun h=>absurd h q⟩;clear HN HY Hm2 Hz4 Hz8 Hz12 HD1 HD2;go_wp2;go_ret3;exact⟨by rw[FY.out];rfl,T5⟩
    have q1:decide (fl/8%2=1)=true:=decide_eq_true q;have et:=TL.out q;have ei:(t:Int)=(b:Int)+(pk:Int)+16:=(by omega);have kP:b+pk+16<=P:=(by omega);have HT:Hid (t=b+pk+16):=et;clear et TP TL;have lw:=X5.lt;go_wp2_with fail;refine(Hm2.out _ _ kP (by omega)).mono ?_;rintro e w6 ⟨rfl,t6⟩;have X6:=X5.keep t6 (fun e=>e);have T6:=T5.trans t6;have c2:w6.cell? ⟨w.heap.size,2,none⟩=some (.int .i64 (sm:Int)):=X6.cells 2 (by omega);have c3:w6.cell? ⟨w.heap.size,3,none⟩=some (.int .i64 (pk:Int)):=X6.cells 3 (by omega);have c4:w6.cell? ⟨w.heap.size,4,none⟩=some (.int .i64 (sz:Int)):=X6.cells 4 (by omega);clear X5 T5 t6 Hm2;go_upto_region 19 with fail;go_cut [151] from 121 to 151 (fun o wc=>o=.bool (!decide (m2=true/\z4=sm/\z8=pk%4294967296/\z12=sz%4294967296))/\Touch (fun _=>False) w wc)
    case first=>
     clear HN HY HD1 HD2;have r0:(0:Int)<=(pk:Int):=(by omega);have r1:(0:Int)<=(sz:Int):=(by omega);cases m2 with
     |false=>
      go_quiet (fail);go_wp2;go_meet
      case rel=>exact⟨by rw[decide_eq_false (by simp)];rfl,T6.drewN _⟩
     |true=>
      by_cases k1:z4=sm
      case neg=>
       have k1':((z4:Int) != (sm:Int))=true:=(by simp;omega);go_quiet (first|(go_at_call 224;refine Ef (Hz4.out _ _ _ kP (by omega) (by omega)))|(go_at_call 224;refine Ef (Hz8.out _ _ _ kP (by omega) (by omega)))|(go_at_call 224;refine Ef (Hz12.out _ _ _ kP (by omega) (by omega))));go_wp2;go_meet
       case rel=>exact⟨by rw[decide_eq_false (fun h=>k1 h.2.1)];rfl,T6.drewN _⟩
      have k1':((z4:Int) != (sm:Int))=false:=(by simp;omega);by_cases k2:z8=pk%4294967296
      case neg=>
       have k2':((z8:Int) != (pk:Int)%4294967296)=true:=(by simp;omega);go_quiet (first|(go_at_call 224;refine Ef (Hz4.out _ _ _ kP (by omega) (by omega)))|(go_at_call 224;refine Ef (Hz8.out _ _ _ kP (by omega) (by omega)))|(go_at_call 224;refine Ef (Hz12.out _ _ _ kP (by omega) (by omega))));go_wp2;go_meet
       case rel=>exact⟨by rw[decide_eq_false (fun h=>k2 h.2.2.1)];rfl,T6.drewN _⟩
      have k2':((z8:Int) != (pk:Int)%4294967296)=false:=(by simp;omega);have k2i:(z8:Int)=(pk:Int)%4294967296:=(by omega);by_cases k3:z12=sz%4294967296
      case neg=>
       have k3':((z12:Int) != (sz:Int)%4294967296)=true:=(by simp;omega);clear k2i;go_quiet (first|(go_at_call 224;refine Ef (Hz4.out _ _ _ kP (by omega) (by omega)))|(go_at_call 224;refine Ef (Hz8.out _ _ _ kP (by omega) (by omega)))|(go_at_call 224;refine Ef (Hz12.out _ _ _ kP (by omega) (by omega))));go_wp2;go_meet
       case rel=>exact⟨by rw[decide_eq_false (fun h=>k3 h.2.2.2)];rfl,T6.drewN _⟩
      have k3':((z12:Int) != (sz:Int)%4294967296)=false:=(by simp;omega);clear k2i;go_quiet (first|(go_at_call 224;refine Ef (Hz4.out _ _ _ kP (by omega) (by omega)))|(go_at_call 224;refine Ef (Hz8.out _ _ _ kP (by omega) (by omega)))|(go_at_call 224;refine Ef (Hz12.out _ _ _ kP (by omega) (by omega))));go_wp2;go_meet
      case rel=>exact⟨by rw[decide_eq_true (by first|exact⟨rfl,k1,k2,k3⟩|exact⟨trivial,k1,k2,k3⟩)];rfl,T6.drewN _⟩
    case rest=>
     obtain⟨rfl,T7⟩:=hcut;clear X6 T6 c2 c3 c4 Hz4 Hz8 Hz12;by_cases hD3:m2=true/\z4=sm/\z8=pk%4294967296/\z12=sz%4294967296
     .have FY:Hid (R=.tuple #[.int .i64 (b:Int),.int .i64 (t:Int),.bool true]):=HY.out ⟨HD1.out,HD2.out,fun _=>hD3⟩;rw[decide_eq_true hD3];clear HN HY hD3 HD1 HD2;go_wp2;go_ret3;exact⟨by rw[FY.out,HT.out];first|rfl|(push_cast;rfl),T7⟩
     have FN:Hid (R=.tuple #[.int .i64 0,.int .i64 0,.bool false]):=HN.out (fun h=>hD3 (h.2.2 q));rw[decide_eq_false hD3];clear HN HY hD3 HD1 HD2;go_wp2;go_ret3;exact⟨by rw[FN.out];rfl,T7⟩
theorem Qfj(w:World)(s:ByteArray)(P:Nat)(e:Eo)(hP:P<=s.size)(hs:s.size<=140737488355328)(ho:Na e)(h3:e.three.size=12): Calls Tryz.prog 157 #[.string s,.agg #[.string e.name,.int .i64 (e.method:Int),.int .i64 (e.sum:Int),.int .i64 (e.packed:Int),.int .i64 (e.size:Int),.int .i64 0,.int .i64 (e.flags:Int),.int .i64 (e.ahead:Int),.int .i64 ((Am e).1:Int),.int .i64 ((Am e).2.1:Int),.int .i64 ((Am e).2.2:Int),.int .i64 0,.int .i64 0],.int .i64 (P:Int)] w fun r w'=>r=.returned (Qaz (Gj s P e))/\Touch (fun _=>False) w w':=by
 obtain⟨r1,r2⟩:=yP s P e hP h3;have hl:Fh e=true↔e.flags/8%2=1:=by unfold Fh;simp
 have hT:Qd7 s e=Sj s e+e.packed+if e.flags/8%2=1 then 16 else 0:=by
  unfold Qd7;by_cases h:e.flags/8%2=1;.rw[if_pos h,if_pos (hl.2 h)]
  rw[if_neg h,if_neg (fun h'=>h (hl.1 h'))]
 refine yN w s e.name P e.ahead e.packed e.size e.sum e.flags e.method (Am e).1 (Am e).2.1 (Am e).2.2 (Aa s (e.ahead+26) 2) (Aa s (e.ahead+28) 2) (Aa s (e.ahead+6) 2) (Aa s (e.ahead+8) 2) (Aa s (e.ahead+14) 4) (Aa s (e.ahead+18) 4) (Aa s (e.ahead+22) 4) (Aa s (Sj s e+e.packed+4) 4) (Aa s (Sj s e+e.packed+8) 4) (Aa s (Sj s e+e.packed+12) 4) (Sj s e) (Qd7 s e) (Eg s e.ahead 3 4) (Eg s (Sj s e+e.packed) 7 8) _ hP hs ho.ahead ho.packed ho.size ho.flags (bH _ _) (bH _ _) rfl hT (fun W A N h h1 h2=>by subst h1 h2;exact Au W s (e.ahead+26) 2 _ _ (by push_cast;rfl) rfl hs (by omega) (by omega) (by omega)) (fun W A N h h1 h2=>by subst h1 h2;exact Au W s (e.ahead+28) 2 _ _ (by push_cast;rfl) rfl hs (by omega) (by omega) (by omega)) (fun W A N h h1 h2=>by subst h1 h2;exact Au W s (e.ahead+6) 2 _ _ (by push_cast;rfl) rfl hs (by omega) (by omega) (by omega)) (fun W A N h h1 h2=>by subst h1 h2;exact Au W s (e.ahead+8) 2 _ _ (by push_cast;rfl) rfl hs (by omega) (by omega) (by omega)) (fun W A N h h1 h2=>by subst h1 h2;exact Au W s (e.ahead+14) 4 _ _ (by push_cast;rfl) rfl hs (by omega) (by omega) (by omega)) (fun W A N h h1 h2=>by subst h1 h2;exact Au W s (e.ahead+18) 4 _ _ (by push_cast;rfl) rfl hs (by omega) (by omega) (by omega)) (fun W A N h h1 h2=>by subst h1 h2;exact Au W s (e.ahead+22) 4 _ _ (by push_cast;rfl) rfl hs (by omega) (by omega) (by omega)) (fun W A N h h1 h2=>by subst h1 h2;exact Au W s (Sj s e+e.packed+4) 4 _ _ (by push_cast;rfl) rfl hs (by omega) (by omega) (by omega)) (fun W A N h h1 h2=>by subst h1 h2;exact Au W s (Sj s e+e.packed+8) 4 _ _ (by push_cast;rfl) rfl hs (by omega) (by omega) (by omega)) (fun W A N h h1 h2=>by subst h1 h2;exact Au W s (Sj s e+e.packed+12) 4 _ _ (by push_cast;rfl) rfl hs (by omega) (by omega) (by omega)) (fun W A h h1=>by subst h1;exact(Zl W s e.ahead 3 4 _ _ rfl rfl hs (by omega))) (fun W A h h1=>by
   have:=Zl W s (Sj s e+e.packed) 7 8 _ _ rfl rfl hs (by omega);rw[h1,<-Int.natCast_add];exact this)
  ?_ ?_
 .intro h;rw[r1 (fun h'=>h ⟨h'.1,?_,?_⟩)];.rfl
  .exact h'.2.1.imp id (fun x=>⟨hl.1 x.1,x.2⟩)
  exact fun q=>h'.2.2 (hl.2 q)
 intro h;rw[r2 ⟨h.1,h.2.1.imp id (fun x=>⟨hl.2 x.1,x.2⟩),fun q=>h.2.2 (hl.1 q)⟩];rfl
end Go.Proofs.YtmhlkdlcpicekaaGreatDoor
