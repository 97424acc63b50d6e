/- Joined. -/
import Derived.Test.YtmhlkdlcpicekaaGreatDoorJ08
import Derived.Test.YtmhlkdlcpicekaaGreatDoorJ11
import Derived.Deep.DeepCutAuto
set_option linter.unusedSimpArgs false
set_option linter.unusedVariables false
set_option maxRecDepth 100000
set_option maxHeartbeats 20000000
namespace Go.Proofs.YtmhlkdlcpicekaaGreatDoor
open Go.RowKit
def Yd(s:ByteArray)(i:Nat):Bool:=Eg s i 5 6&&(decide (Aa s (i+20) 2<=100)&&decide (i+22+Aa s (i+20) 2=s.size))
def Ja(s:ByteArray):Nat->Option Nat
 |0=>none
 |i+1=>if Yd s i then some i else Ja s i
theorem dR(s:ByteArray):∀i,i+122<=s.size+0->Ja s i=none
 |0,_=>rfl
 |i+1,h=>by
  unfold Ja;have:Yd s i=false:=by
   unfold Yd;by_cases h1:Aa s (i+20) 2<=100;.rw[decide_eq_false (p:=i+22+Aa s (i+20) 2=s.size) (by omega)];simp
   rw[decide_eq_false h1];simp
  rw[this];simp only[Bool.false_eq_true,if_false];exact dR s i (by omega)
theorem Yt(s:ByteArray):∀f b,f+b=101->Ja s (s.size-b-21)=Dv s f b
 |0,b,h=>by
  rw[lastEnd_far' s b (by omega)];rfl
 |f+1,b,h=>by
  by_cases hb:b+22<=s.size
  .have e:s.size-b-21=(s.size-b-22)+1:=by omega
   rw[e];unfold Ja Dv;rw[if_pos hb];have ek:Yd s (s.size-b-22)=endOk s b:=by
    unfold Yd endOk;congr 1;rw[<-Bool.decide_and];exact decide_eq_decide.2 ⟨fun h=>by omega,fun h=>by omega⟩
   rw[ek];have ih:=Yt s f (b+1) (by omega);rw[show s.size-(b+1)-21=s.size-b-22 by omega]at ih;rw[ih]
  rw[eQ s _ _ hb,show s.size-b-21=0 by omega];rfl
 where
 lastEnd_far' (s:ByteArray) (b:Nat) (h:b=101):Ja s (s.size-b-21)=none:=by
  by_cases hs:122<=s.size;.exact dR s _ (by omega)
  rw[show s.size-b-21=0 by omega];rfl
theorem Qad(s:ByteArray):Ja s (s.size-21)=Dv s 101 0:=Yt s 101 0 rfl
def atV(o:Option Nat):Int:=match o with
 |none=>-1
 |some p=>(p:Int)
theorem Qab(w:World)(s:ByteArray)(hs:s.size<=140737488355328): Calls Tryz.prog 154 #[.string s] w fun e w'=>e=.returned (zH (Ey s))/\Touch (fun _=>False) w w':=by
 go_enter Tryz.func154,Tryz.ntmps154;go_wp2;go_loopw [4,5] (fun a i wr=>∃k:Nat,k<=s.size-21/\a=.int .i64 (atV (Ja s k))/\i=.int .i64 (k:Int)/\Touch (fun _=>False) (w.alloc (Obj.cells #[.int .i64 0,.int .i64 0,.int .i64 0,.int .i64 0] 243)) wr) (fun _ i _=>s.size-(intOf i).toNat)
 case atStart=>exact⟨0,by omega,rfl,rfl,Touch.refl _ _⟩
 case round=>
  obtain⟨k,hk,rfl,rfl,ht⟩:=hrel;by_cases h22:k+22<=s.size
  .have c22:(k:Int)+22<=(s.size:Int):=by omega
   have HL:Hid (Ja s (k+1)=if Yd s k then some k else Ja s k):=rfl;have HRE:Hid (Yd s k=(Eg s k 5 6&&(decide (Aa s (k+20) 2<=100)&&decide (k+22+Aa s (k+20) 2=s.size)))):=rfl;have nl:=Bj s (k+20) 2;have HN:Hid (∀W,Calls Tryz.prog 224 #[.string s,.int .i64 ((k:Int)+20),.int .i64 2] W fun e w'=>e=.returned (.int .i64 (Aa s (k+20) 2:Nat))/\W=w'):=fun W=>Au W s (k+20) 2 _ _ (by omega) rfl hs (by omega) (by omega) (by omega);generalize Aa s (k+20) 2=v at HN HRE nl;generalize Ja s k=le at HL ⊢;go_wp2_with fail;refine(Zl _ s k 5 6 _ _ rfl rfl hs (by omega)).mono ?_;rintro e w1 ⟨rfl,t1⟩;have T1:=ht.trans t1;clear t1 ht;cases hm:Eg s k 5 6 with
   |false=>
    have HX:Hid (Ja s (k+1)=le):=(by unfold Hid;rw[HL.out,HRE.out,hm];rfl);clear HL HRE hm HN;go_wp2;exact⟨⟨k+1,by omega,by rw[HX.out],by go_num,T1⟩,by simp[intOf];omega⟩
   |true=>
    by_cases h1:v<=100
    .have h1':(v:Int)<=100:=(by omega);by_cases h2:k+22+v=s.size
     .have h2':(((k:Int)+22+(v:Int))==(s.size:Int))=true:=(by simp;omega);have HX:Hid (Ja s (k+1)=some k):=(by unfold Hid;rw[HL.out,HRE.out,hm,decide_eq_true h1,decide_eq_true h2];rfl);clear HL HRE hm;go_wp2_with (go_at_call 224;refine(HN.out _).mono ?_;rintro e w2 ⟨rfl,rfl⟩);exact⟨⟨k+1,by omega,by rw[HX.out];rfl,by go_num,T1⟩,by simp[intOf];omega⟩
     have h2':(((k:Int)+22+(v:Int))==(s.size:Int))=false:=(by simp;omega);have HX:Hid (Ja s (k+1)=le):=(by unfold Hid;rw[HL.out,HRE.out,decide_eq_false h2];simp);clear HL HRE hm;go_wp2_with (go_at_call 224;refine(HN.out _).mono ?_;rintro e w2 ⟨rfl,rfl⟩);exact⟨⟨k+1,by omega,by rw[HX.out],by go_num,T1⟩,by simp[intOf];omega⟩
    have h1':¬(v:Int)<=100:=(by omega);have HX:Hid (Ja s (k+1)=le):=(by unfold Hid;rw[HL.out,HRE.out,decide_eq_false h1];simp);clear HL HRE hm;go_wp2_with (go_at_call 224;refine(HN.out _).mono ?_;rintro e w2 ⟨rfl,rfl⟩);exact⟨⟨k+1,by omega,by rw[HX.out],by go_num,T1⟩,by simp[intOf];omega⟩
  have hk2:k=s.size-21:=by omega
  subst hk2;rw[Qad];have T0:Touch (fun _=>False) w wr:=((Touch.refl _ w).alloc _).trans ht;have bz:=(ht.block w.heap.size (by simp) (fun e=>e)).trans (heap_alloc_new w (Obj.cells #[.int .i64 0,.int .i64 0,.int .i64 0,.int .i64 0] 243));have z0:w.heap.size<wr.heap.size:=by have:=ht.size;simp at this;omega
  clear ht hk h22;cases hp:Dv s 101 0 with
  |none=>
   have HD:Hid (Ey s=.error 3):=by unfold Hid Ey;rw[hp]
   have g0:wr.cell? ⟨w.heap.size,0,none⟩=some (.int .i64 0):=by rw[Ac bz 0];rfl
   have g1:wr.cell? ⟨w.heap.size,1,none⟩=some (.int .i64 0):=by rw[Ac bz 1];rfl
   have g2:wr.cell? ⟨w.heap.size,2,none⟩=some (.int .i64 0):=by rw[Ac bz 2];rfl
   have g3:wr.cell? ⟨w.heap.size,3,none⟩=some (.int .i64 0):=by rw[Ac bz 3];rfl
   have fz:∀o,wr.frozen? ⟨w.heap.size,o,none⟩=false:=fun o=>Cb bz o;clear bz hp;have ea:atV none=-1:=rfl;rw[ea];go_wp2;refine bodyPost_ret (v:=.tuple #[.agg #[.int .i64 0,.int .i64 0,.int .i64 0,.int .i64 0],.int .i64 3]) (by simp[results,Tryz.results154,go_sem,Ad,g0,g1,g2,g3]) rfl ⟨by rw[HD.out];rfl,?_⟩;exact(((T0.Ag (Nat.le_refl _) _).Ag (Nat.le_refl _) _).Ag (Nat.le_refl _) _).Ag (Nat.le_refl _) _
  |some p=>
   have hp22:=Ug s _ _ _ hp;have HD:Hid (Ey s=if Vj s p then(if Ip s p then(if Ie s p&&Ji s p then .ok ⟨Aa s (p-76+32) 8,Aa s (p-76+40) 8,Aa s (p-76+48) 8,p-76⟩else .error 4)else .error 3)else if Ie s p then .ok ⟨Aa s (p+10) 2,Aa s (p+12) 4,Aa s (p+16) 4,p⟩else .error 4):=by unfold Hid Ey;rw[hp]
   have ea:atV (some p)=(p:Int):=rfl;rw[ea];have HO:Hid (Ie s p=Qm (Aa s (p+4) 2) (Aa s (p+6) 2) (Aa s (p+8) 2) (Aa s (p+10) 2)):=rfl;have HEL:Hid (Vj s p=(decide (Aa s (p+10) 2=65535)||decide (Aa s (p+12) 4=4294967295)||decide (Aa s (p+16) 4=4294967295))):=rfl;have HN:Hid (∀(a n:Nat) W (A N:Int),A=(a:Int)->N=(n:Int)->a+n<=s.size->n<=8->1<=n->Calls Tryz.prog 224 #[.string s,.int .i64 A,.int .i64 N] W fun e w'=>e=.returned (.int .i64 (Aa s a n:Nat))/\W=w'):=fun a n W A N h1 h2 h3 h4 h5=>Au W s a n A N h1 h2 hs h3 h4 h5;clear hp ea;go_upto_region 10 with fail;go_cut [7] from 47 to 69 (fun o wc=>o=.bool (!Ie s p)/\wr=wc)
   case first=>
    by_cases c4:Aa s (p+4) 2=0
    .have c4':((Aa s (p+4) 2:Nat):Int)=0:=(by omega);by_cases c6:Aa s (p+6) 2=0
     .have c6':((Aa s (p+6) 2:Nat):Int)=0:=(by omega);by_cases c8:Aa s (p+10) 2=Aa s (p+8) 2
      .have c8':(((Aa s (p+8) 2:Nat):Int)==((Aa s (p+10) 2:Nat):Int))=true:=(by simp;omega);have HX:Hid (Ie s p=true):=(by unfold Hid;rw[HO.out];unfold Qm;rw[decide_eq_true c4,decide_eq_true c6,decide_eq_true c8];rfl);clear c8;go_wp2_with (go_at_call 224;first|(refine(HN.out (p+4) 2 _ _ _ (by omega) (by omega) (by omega) (by omega) (by omega)).mono ?_;rintro e wn ⟨rfl,rfl⟩)|(refine(HN.out (p+6) 2 _ _ _ (by omega) (by omega) (by omega) (by omega) (by omega)).mono ?_;rintro e wn ⟨rfl,rfl⟩)|(refine(HN.out (p+8) 2 _ _ _ (by omega) (by omega) (by omega) (by omega) (by omega)).mono ?_;rintro e wn ⟨rfl,rfl⟩)|(refine(HN.out (p+10) 2 _ _ _ (by omega) (by omega) (by omega) (by omega) (by omega)).mono ?_;rintro e wn ⟨rfl,rfl⟩));go_meet
       case rel=>exact⟨by rw[HX.out,bne,c8'],rfl⟩
      have c8':(((Aa s (p+8) 2:Nat):Int)==((Aa s (p+10) 2:Nat):Int))=false:=(by simp;omega);have HX:Hid (Ie s p=false):=(by unfold Hid;rw[HO.out];unfold Qm;rw[decide_eq_false c8];simp);clear c8;go_wp2_with (go_at_call 224;first|(refine(HN.out (p+4) 2 _ _ _ (by omega) (by omega) (by omega) (by omega) (by omega)).mono ?_;rintro e wn ⟨rfl,rfl⟩)|(refine(HN.out (p+6) 2 _ _ _ (by omega) (by omega) (by omega) (by omega) (by omega)).mono ?_;rintro e wn ⟨rfl,rfl⟩)|(refine(HN.out (p+8) 2 _ _ _ (by omega) (by omega) (by omega) (by omega) (by omega)).mono ?_;rintro e wn ⟨rfl,rfl⟩)|(refine(HN.out (p+10) 2 _ _ _ (by omega) (by omega) (by omega) (by omega) (by omega)).mono ?_;rintro e wn ⟨rfl,rfl⟩));go_meet
      case rel=>exact⟨by rw[HX.out,bne,c8'],rfl⟩
     have c6':(((Aa s (p+6) 2:Nat):Int)==0)=false:=(by simp;omega);have HX:Hid (Ie s p=false):=(by unfold Hid;rw[HO.out];unfold Qm;rw[decide_eq_false c6];simp);go_wp2_with (go_at_call 224;first|(refine(HN.out (p+4) 2 _ _ _ (by omega) (by omega) (by omega) (by omega) (by omega)).mono ?_;rintro e wn ⟨rfl,rfl⟩)|(refine(HN.out (p+6) 2 _ _ _ (by omega) (by omega) (by omega) (by omega) (by omega)).mono ?_;rintro e wn ⟨rfl,rfl⟩)|(refine(HN.out (p+8) 2 _ _ _ (by omega) (by omega) (by omega) (by omega) (by omega)).mono ?_;rintro e wn ⟨rfl,rfl⟩)|(refine(HN.out (p+10) 2 _ _ _ (by omega) (by omega) (by omega) (by omega) (by omega)).mono ?_;rintro e wn ⟨rfl,rfl⟩));go_meet
     case rel=>exact⟨by rw[HX.out];rfl,rfl⟩
    have c4':(((Aa s (p+4) 2:Nat):Int)==0)=false:=(by simp;omega);have HX:Hid (Ie s p=false):=(by unfold Hid;rw[HO.out];unfold Qm;rw[decide_eq_false c4];simp);go_wp2_with (go_at_call 224;first|(refine(HN.out (p+4) 2 _ _ _ (by omega) (by omega) (by omega) (by omega) (by omega)).mono ?_;rintro e wn ⟨rfl,rfl⟩)|(refine(HN.out (p+6) 2 _ _ _ (by omega) (by omega) (by omega) (by omega) (by omega)).mono ?_;rintro e wn ⟨rfl,rfl⟩)|(refine(HN.out (p+8) 2 _ _ _ (by omega) (by omega) (by omega) (by omega) (by omega)).mono ?_;rintro e wn ⟨rfl,rfl⟩)|(refine(HN.out (p+10) 2 _ _ _ (by omega) (by omega) (by omega) (by omega) (by omega)).mono ?_;rintro e wn ⟨rfl,rfl⟩));go_meet
    case rel=>exact⟨by rw[HX.out];rfl,rfl⟩
   case rest=>
    obtain⟨rfl,rfl⟩:=hcut;go_upto_region 12 with(go_at_call 224;first|(refine(HN.out (p+10) 2 _ _ _ (by omega) (by omega) (by omega) (by omega) (by omega)).mono ?_;rintro e wn ⟨rfl,rfl⟩)|(refine(HN.out (p+12) 4 _ _ _ (by omega) (by omega) (by omega) (by omega) (by omega)).mono ?_;rintro e wn ⟨rfl,rfl⟩)|(refine(HN.out (p+16) 4 _ _ _ (by omega) (by omega) (by omega) (by omega) (by omega)).mono ?_;rintro e wn ⟨rfl,rfl⟩));go_cut [96] from 84 to 96 (fun o wc=>o=.bool (Vj s p)/\(wr.alloc (Obj.cells #[.int .i64 (Aa s (p+10) 2:Nat),.int .i64 (Aa s (p+12) 4:Nat),.int .i64 (Aa s (p+16) 4:Nat),.int .i64 (p:Int)] 243))=wc)
    case first=>
     by_cases c1:Aa s (p+10) 2=65535
     .have c1':(((Aa s (p+10) 2:Nat):Int)==65535)=true:=(by simp;omega);have HX:Hid (Vj s p=true):=(by unfold Hid;rw[HEL.out,decide_eq_true c1];rfl);go_wp2;go_meet
      case rel=>exact⟨by rw[HX.out],by rw[c1];rfl⟩
     have c1':(((Aa s (p+10) 2:Nat):Int)==65535)=false:=(by simp;omega);by_cases c2:Aa s (p+12) 4=4294967295
     .have c2':(((Aa s (p+12) 4:Nat):Int)==4294967295)=true:=(by simp;omega);have HX:Hid (Vj s p=true):=(by unfold Hid;rw[HEL.out,decide_eq_true c2];simp);go_wp2;go_meet
      case rel=>exact⟨by rw[HX.out],by rw[c2];rfl⟩
     have c2':(((Aa s (p+12) 4:Nat):Int)==4294967295)=false:=(by simp;omega);have HX:Hid (Vj s p=(((Aa s (p+16) 4:Nat):Int)==4294967295)):=by
      unfold Hid;rw[HEL.out,decide_eq_false c1,decide_eq_false c2];simp only[Bool.false_or];rw[Bool.eq_iff_iff];simp;omega
     go_wp2;go_meet
     case rel=>exact⟨by rw[HX.out],rfl⟩
    case rest=>
     obtain⟨rfl,rfl⟩:=hcut;have be:=heap_alloc_new wr (Obj.cells #[.int .i64 (Aa s (p+10) 2:Nat),.int .i64 (Aa s (p+12) 4:Nat),.int .i64 (Aa s (p+16) 4:Nat),.int .i64 (p:Int)] 243);have bz1:=(Below.heap_alloc wr (Obj.cells #[.int .i64 (Aa s (p+10) 2:Nat),.int .i64 (Aa s (p+12) 4:Nat),.int .i64 (Aa s (p+16) 4:Nat),.int .i64 (p:Int)] 243) _ z0).trans bz;have T1:=T0.alloc (Obj.cells #[.int .i64 (Aa s (p+10) 2:Nat),.int .i64 (Aa s (p+12) 4:Nat),.int .i64 (Aa s (p+16) 4:Nat),.int .i64 (p:Int)] 243);have z1:wr.heap.size<(wr.alloc (Obj.cells #[.int .i64 (Aa s (p+10) 2:Nat),.int .i64 (Aa s (p+12) 4:Nat),.int .i64 (Aa s (p+16) 4:Nat),.int .i64 (p:Int)] 243)).heap.size:=(by simp);generalize (wr.alloc (Obj.cells #[.int .i64 (Aa s (p+10) 2:Nat),.int .i64 (Aa s (p+12) 4:Nat),.int .i64 (Aa s (p+16) 4:Nat),.int .i64 (p:Int)] 243))=w1 at be bz1 T1 z1 ⊢;generalize wr.heap.size=eb at be z0 z1 ⊢;clear bz T0;have g0:w1.cell? ⟨w.heap.size,0,none⟩=some (.int .i64 0):=(by rw[Ac bz1 0];rfl);have g1:w1.cell? ⟨w.heap.size,1,none⟩=some (.int .i64 0):=(by rw[Ac bz1 1];rfl);have g2:w1.cell? ⟨w.heap.size,2,none⟩=some (.int .i64 0):=(by rw[Ac bz1 2];rfl);have g3:w1.cell? ⟨w.heap.size,3,none⟩=some (.int .i64 0):=(by rw[Ac bz1 3];rfl);have fz:∀o,w1.frozen? ⟨w.heap.size,o,none⟩=false:=fun o=>Cb bz1 o;have k0:w1.cell? ⟨eb,0,none⟩=some (.int .i64 (Aa s (p+10) 2:Nat)):=(by rw[Ac be 0];rfl);have k1:w1.cell? ⟨eb,1,none⟩=some (.int .i64 (Aa s (p+12) 4:Nat)):=(by rw[Ac be 1];rfl);have k2:w1.cell? ⟨eb,2,none⟩=some (.int .i64 (Aa s (p+16) 4:Nat)):=(by rw[Ac be 2];rfl);have k3:w1.cell? ⟨eb,3,none⟩=some (.int .i64 (p:Int)):=(by rw[Ac be 3];rfl);have fk:∀o,w1.frozen? ⟨eb,o,none⟩=false:=fun o=>Cb be o;cases hel:Vj s p with
     |false=>
      have hd:=HD.out;rw[hel]at hd;have HD2:Hid (Ey s=if Ie s p then .ok ⟨Aa s (p+10) 2,Aa s (p+12) 4,Aa s (p+16) 4,p⟩else .error 4):=hd;clear HD hd HO HEL HN be bz1;cases hen:Ie s p with
      |true=>
       rw[hen]at HD2;have HD3:Hid (Ey s=.ok ⟨Aa s (p+10) 2,Aa s (p+12) 4,Aa s (p+16) 4,p⟩):=HD2;clear HD2;generalize Aa s (p+10) 2=x0 at k0 HD3;generalize Aa s (p+12) 4=x1 at k1 HD3;generalize Aa s (p+16) 4=x2 at k2 HD3;go_wp2;refine bodyPost_ret (v:=.tuple #[.agg #[.int .i64 x0,.int .i64 x1,.int .i64 x2,.int .i64 p],.int .i64 0]) (by simp[results,Tryz.results154,go_sem,Ad,g0,g1,g2,g3]) rfl ⟨by rw[HD3.out];rfl,?_⟩;exact(((T1.Ag (Nat.le_refl _) _).Ag (Nat.le_refl _) _).Ag (Nat.le_refl _) _).Ag (Nat.le_refl _) _
      |false=>
       rw[hen]at HD2;have HD3:Hid (Ey s=.error 4):=HD2;clear HD2;go_wp2;refine bodyPost_ret (v:=.tuple #[.agg #[.int .i64 0,.int .i64 0,.int .i64 0,.int .i64 0],.int .i64 4]) (by simp[results,Tryz.results154,go_sem,Ad,g0,g1,g2,g3]) rfl ⟨by rw[HD3.out];rfl,?_⟩;exact(((T1.Ag (Nat.le_refl _) _).Ag (Nat.le_refl _) _).Ag (Nat.le_refl _) _).Ag (Nat.le_refl _) _
     |true=>
      have hd:=HD.out;rw[hel]at hd;have HD2:Hid (Ey s=if Ip s p then(if Ie s p&&Ji s p then .ok ⟨Aa s (p-76+32) 8,Aa s (p-76+40) 8,Aa s (p-76+48) 8,p-76⟩else .error 4)else .error 3):=hd;clear HD hd HO HEL k0 k1 k2 k3 g0 g1 g2 g3 fz fk;generalize Ie s p=en at HD2 ⊢;generalize Aa s (p+10) 2=x0 at be;generalize Aa s (p+12) 4=x1 at be;generalize Aa s (p+16) 4=x2 at be;go_wp2_with fail;refine(gU _ s _ 6 7 _ _ rfl rfl hs (by omega)).mono ?_;rintro e w2 ⟨rfl,t2⟩;have be2:=(t2.block eb z1 (fun e=>e)).trans be;have bz2:=(t2.block w.heap.size (by omega) (fun e=>e)).trans bz1;have T2:=T1.trans t2;have z2:eb<w2.heap.size:=(by have:=t2.size;omega);clear be bz1 T1 z1 t2;go_wp2_with fail;refine(gU _ s _ 6 6 _ _ rfl rfl hs (by omega)).mono ?_;rintro e w3 ⟨rfl,t3⟩;have be3:=(t3.block eb z2 (fun e=>e)).trans be2;have bz3:=(t3.block w.heap.size (by omega) (fun e=>e)).trans bz2;have T3:=T2.trans t3;clear be2 bz2 T2 z2 t3;have g0:w3.cell? ⟨w.heap.size,0,none⟩=some (.int .i64 0):=(by rw[Ac bz3 0];rfl);have g1:w3.cell? ⟨w.heap.size,1,none⟩=some (.int .i64 0):=(by rw[Ac bz3 1];rfl);have g2:w3.cell? ⟨w.heap.size,2,none⟩=some (.int .i64 0):=(by rw[Ac bz3 2];rfl);have g3:w3.cell? ⟨w.heap.size,3,none⟩=some (.int .i64 0):=(by rw[Ac bz3 3];rfl);have fz:∀o,w3.frozen? ⟨w.heap.size,o,none⟩=false:=fun o=>Cb bz3 o;have k0:w3.cell? ⟨eb,0,none⟩=some (.int .i64 (x0:Int)):=(by rw[Ac be3 0];rfl);have k1:w3.cell? ⟨eb,1,none⟩=some (.int .i64 (x1:Int)):=(by rw[Ac be3 1];rfl);have k2:w3.cell? ⟨eb,2,none⟩=some (.int .i64 (x2:Int)):=(by rw[Ac be3 2];rfl);have k3:w3.cell? ⟨eb,3,none⟩=some (.int .i64 (p:Int)):=(by rw[Ac be3 3];rfl);have fk:∀o,w3.frozen? ⟨eb,o,none⟩=false:=fun o=>Cb be3 o;have HWO:Hid (Ip s p=(decide (76<=p)&&(Eg s (p-76) 6 6&&decide (Aa s (p-76+4) 8=44)&&Eg s (p-76+56) 6 7&&decide (Aa s (p-76+64) 8=p-76)))):=rfl;have HW1:Hid (Ji s p=(Qm (Aa s (p-76+16) 4) (Aa s (p-76+20) 4) (Aa s (p-76+24) 8) (Aa s (p-76+32) 8)&&decide (Aa s (p-76+60) 4=0)&&decide (Aa s (p-76+72) 4=1))):=rfl;unfold Qm at HW1;obtain⟨n4,hn4⟩:∃n,n=Aa s (p-76+4) 8:=⟨_,rfl⟩;have H4:Hid (∀(W:World) (A N:Int),76<=p->A=(p:Int)-76+4->N=8->Calls Tryz.prog 224 #[.string s,.int .i64 A,.int .i64 N] W fun e w'=>e=.returned (.int .i64 (n4:Int))/\W=w'):=fun W A N h h1 h2=>by rw[hn4];exact Au W s (p-76+4) 8 A N (by omega) (by omega) hs (by omega) (by omega) (by omega)
      rw[<-hn4]at HWO;obtain⟨n64,hn64⟩:∃n,n=Aa s (p-76+64) 8:=⟨_,rfl⟩;have H64:Hid (∀(W:World) (A N:Int),76<=p->A=(p:Int)-20+8->N=8->Calls Tryz.prog 224 #[.string s,.int .i64 A,.int .i64 N] W fun e w'=>e=.returned (.int .i64 (n64:Int))/\W=w'):=fun W A N h h1 h2=>by rw[hn64];exact Au W s (p-76+64) 8 A N (by omega) (by omega) hs (by omega) (by omega) (by omega)
      rw[<-hn64]at HWO;obtain⟨n60,hn60⟩:∃n,n=Aa s (p-76+60) 4:=⟨_,rfl⟩;have H60:Hid (∀(W:World) (A N:Int),76<=p->A=(p:Int)-20+4->N=4->Calls Tryz.prog 224 #[.string s,.int .i64 A,.int .i64 N] W fun e w'=>e=.returned (.int .i64 (n60:Int))/\W=w'):=fun W A N h h1 h2=>by rw[hn60];exact Au W s (p-76+60) 4 A N (by omega) (by omega) hs (by omega) (by omega) (by omega)
      rw[<-hn60]at HW1;obtain⟨n72,hn72⟩:∃n,n=Aa s (p-76+72) 4:=⟨_,rfl⟩;have H72:Hid (∀(W:World) (A N:Int),76<=p->A=(p:Int)-20+16->N=4->Calls Tryz.prog 224 #[.string s,.int .i64 A,.int .i64 N] W fun e w'=>e=.returned (.int .i64 (n72:Int))/\W=w'):=fun W A N h h1 h2=>by rw[hn72];exact Au W s (p-76+72) 4 A N (by omega) (by omega) hs (by omega) (by omega) (by omega)
      rw[<-hn72]at HW1;obtain⟨n16,hn16⟩:∃n,n=Aa s (p-76+16) 4:=⟨_,rfl⟩;have H16:Hid (∀(W:World) (A N:Int),76<=p->A=(p:Int)-76+16->N=4->Calls Tryz.prog 224 #[.string s,.int .i64 A,.int .i64 N] W fun e w'=>e=.returned (.int .i64 (n16:Int))/\W=w'):=fun W A N h h1 h2=>by rw[hn16];exact Au W s (p-76+16) 4 A N (by omega) (by omega) hs (by omega) (by omega) (by omega)
      rw[<-hn16]at HW1;obtain⟨n20,hn20⟩:∃n,n=Aa s (p-76+20) 4:=⟨_,rfl⟩;have H20:Hid (∀(W:World) (A N:Int),76<=p->A=(p:Int)-76+20->N=4->Calls Tryz.prog 224 #[.string s,.int .i64 A,.int .i64 N] W fun e w'=>e=.returned (.int .i64 (n20:Int))/\W=w'):=fun W A N h h1 h2=>by rw[hn20];exact Au W s (p-76+20) 4 A N (by omega) (by omega) hs (by omega) (by omega) (by omega)
      rw[<-hn20]at HW1;obtain⟨n24,hn24⟩:∃n,n=Aa s (p-76+24) 8:=⟨_,rfl⟩;have H24:Hid (∀(W:World) (A N:Int),76<=p->A=(p:Int)-76+24->N=8->Calls Tryz.prog 224 #[.string s,.int .i64 A,.int .i64 N] W fun e w'=>e=.returned (.int .i64 (n24:Int))/\W=w'):=fun W A N h h1 h2=>by rw[hn24];exact Au W s (p-76+24) 8 A N (by omega) (by omega) hs (by omega) (by omega) (by omega)
      rw[<-hn24]at HW1;obtain⟨n32,hn32⟩:∃n,n=Aa s (p-76+32) 8:=⟨_,rfl⟩;have H32:Hid (∀(W:World) (A N:Int),76<=p->A=(p:Int)-76+32->N=8->Calls Tryz.prog 224 #[.string s,.int .i64 A,.int .i64 N] W fun e w'=>e=.returned (.int .i64 (n32:Int))/\W=w'):=fun W A N h h1 h2=>by rw[hn32];exact Au W s (p-76+32) 8 A N (by omega) (by omega) hs (by omega) (by omega) (by omega)
      rw[<-hn32]at HW1 HD2;obtain⟨n40,hn40⟩:∃n,n=Aa s (p-76+40) 8:=⟨_,rfl⟩;have H40:Hid (∀(W:World) (A N:Int),76<=p->A=(p:Int)-76+40->N=8->Calls Tryz.prog 224 #[.string s,.int .i64 A,.int .i64 N] W fun e w'=>e=.returned (.int .i64 (n40:Int))/\W=w'):=fun W A N h h1 h2=>by rw[hn40];exact Au W s (p-76+40) 8 A N (by omega) (by omega) hs (by omega) (by omega) (by omega)
      rw[<-hn40]at HD2;obtain⟨n48,hn48⟩:∃n,n=Aa s (p-76+48) 8:=⟨_,rfl⟩;have H48:Hid (∀(W:World) (A N:Int),76<=p->A=(p:Int)-76+48->N=8->Calls Tryz.prog 224 #[.string s,.int .i64 A,.int .i64 N] W fun e w'=>e=.returned (.int .i64 (n48:Int))/\W=w'):=fun W A N h h1 h2=>by rw[hn48];exact Au W s (p-76+48) 8 A N (by omega) (by omega) hs (by omega) (by omega) (by omega)
      rw[<-hn48]at HD2;clear hn4;clear hn64;clear hn60;clear hn72;clear hn16;clear hn20;clear hn24;clear hn32;clear hn40;clear hn48;clear be3 bz3 hel;go_upto_region 17 with fail;go_cut [11,12,127] from 101 to 127 (fun _ _ o wc=>o=.bool (!Ip s p)/\w3=wc)
      case first=>
       have HMB:Hid (Nw s ((p:Int)-76) 6 6=(decide (76<=p)&&Eg s (p-76) 6 6)):=by
        unfold Hid;by_cases h76:76<=p;.rw[Uu s _ (p-76) 6 6 (by omega) (by omega),decide_eq_true h76];rfl
        rw[Wj s _ 6 6 (by omega),decide_eq_false h76];rfl
       have HMA:Hid (76<=p->Nw s ((p:Int)-20) 6 7=Eg s (p-76+56) 6 7):=fun h=>Uu s _ (p-76+56) 6 7 (by omega) (by omega);generalize Nw s ((p:Int)-76) 6 6=mb at HMB ⊢;generalize Nw s ((p:Int)-20) 6 7=ma at HMA ⊢;cases ma with
       |false=>
        have HX:Hid (Ip s p=false):=by
         unfold Hid;rw[HWO.out];by_cases h76:76<=p;.rw[<-HMA.out h76];simp
         rw[decide_eq_false h76];rfl
        go_wp2;go_meet
        case rel=>exact⟨by rw[HX.out];rfl,rfl⟩
       |true=>
        cases mb with
        |false=>
         have HX:Hid (Ip s p=false):=by
          unfold Hid;rw[HWO.out];have:=HMB.out;by_cases h76:76<=p
          .rw[decide_eq_true h76,Bool.true_and]at this;rw[<-this];simp
          rw[decide_eq_false h76];rfl
         go_wp2;go_meet
         case rel=>exact⟨by rw[HX.out];rfl,rfl⟩
        |true=>
         have hmb:=HMB.out;have h76:76<=p:=by
          by_cases h76:76<=p;.exact h76
          rw[decide_eq_false h76]at hmb;cases hmb
         rw[decide_eq_true h76,Bool.true_and]at hmb;have hma:=HMA.out h76;have HWX:Hid (Ip s p=(decide (n4=44)&&decide (n64=p-76))):=by
          unfold Hid;rw[HWO.out,decide_eq_true h76,<-hmb,<-hma];simp
         clear hmb hma HMB HMA HWO HW1;go_wp2_with (go_at_call 224;first|(refine(H64.out _ _ _ h76 (by omega) (by omega)).mono ?_;rintro e wn ⟨rfl,rfl⟩)|(refine(H4.out _ _ _ h76 (by omega) (by omega)).mono ?_;rintro e wn ⟨rfl,rfl⟩));all_goals
          go_meet
          case rel=>
           refine⟨congrArg Value.bool ?_,rfl⟩;rw[HWX.out,Bool.eq_iff_iff];simp;omega
      case rest=>
       obtain⟨rfl,rfl⟩:=hcut;cases hwo:Ip s p with
       |false=>
        rw[hwo]at HD2;have HD3:Hid (Ey s=.error 3):=HD2;clear HD2 HW1 HWO;go_wp2;refine bodyPost_ret (v:=.tuple #[.agg #[.int .i64 0,.int .i64 0,.int .i64 0,.int .i64 0],.int .i64 3]) (by simp[results,Tryz.results154,go_sem,Ad,g0,g1,g2,g3]) rfl ⟨by rw[HD3.out];rfl,?_⟩;exact(((T3.Ag (Nat.le_refl _) _).Ag (Nat.le_refl _) _).Ag (Nat.le_refl _) _).Ag (Nat.le_refl _) _
       |true=>
        rw[hwo]at HD2;have h76:76<=p:=by
         have:=HWO.out;rw[hwo]at this;by_cases h76:76<=p;.exact h76
         rw[decide_eq_false h76]at this;cases this
        have HD3:Hid (Ey s=if en&&Ji s p then .ok ⟨n32,n40,n48,p-76⟩else .error 4):=HD2;clear HD2 HWO hwo;go_upto_region 19 with fail;go_cut [7] from 129 to 168 (fun o wc=>o=.bool (!(en&&Ji s p))/\w3=wc)
        case first=>
         cases en with
         |false=>
          go_wp2;go_meet
          case rel=>exact⟨rfl,rfl⟩
         |true=>
          go_wp2_with (go_at_call 224;first|(refine(H60.out _ _ _ h76 (by omega) (by omega)).mono ?_;rintro e wn ⟨rfl,rfl⟩)|(refine(H72.out _ _ _ h76 (by omega) (by omega)).mono ?_;rintro e wn ⟨rfl,rfl⟩)|(refine(H16.out _ _ _ h76 (by omega) (by omega)).mono ?_;rintro e wn ⟨rfl,rfl⟩)|(refine(H20.out _ _ _ h76 (by omega) (by omega)).mono ?_;rintro e wn ⟨rfl,rfl⟩)|(refine(H24.out _ _ _ h76 (by omega) (by omega)).mono ?_;rintro e wn ⟨rfl,rfl⟩)|(refine(H32.out _ _ _ h76 (by omega) (by omega)).mono ?_;rintro e wn ⟨rfl,rfl⟩));all_goals
           go_meet
           case rel=>
            refine⟨congrArg Value.bool ?_,rfl⟩;rw[HW1.out,Bool.eq_iff_iff];simp;omega
        case rest=>
         obtain⟨rfl,rfl⟩:=hcut;have ez:((p-76:Nat):Int)=(p:Int)-76:=(by omega);have ne1:¬eb=w.heap.size:=(by omega);have ne2:¬w.heap.size=eb:=(by omega);have zl:w.heap.size<=eb:=(by omega);cases hew:(en&&Ji s p)with
         |true=>
          rw[hew]at HD3;have HD4:Hid (Ey s=.ok ⟨n32,n40,n48,p-76⟩):=HD3;have HEZ:Hid (((p-76:Nat):Int)=(p:Int)-76):=ez;clear HD3 HW1 ez;go_wp2_with (go_at_call 224;first|(refine(H32.out _ _ _ h76 (by omega) (by omega)).mono ?_;rintro e wn ⟨rfl,rfl⟩)|(refine(H40.out _ _ _ h76 (by omega) (by omega)).mono ?_;rintro e wn ⟨rfl,rfl⟩)|(refine(H48.out _ _ _ h76 (by omega) (by omega)).mono ?_;rintro e wn ⟨rfl,rfl⟩));refine bodyPost_ret (v:=.tuple #[.agg #[.int .i64 n32,.int .i64 n40,.int .i64 n48,.int .i64 ((p:Int)-76)],.int .i64 0]) (by simp[results,Tryz.results154,go_sem,Ad,g0,g1,g2,g3,ne1,ne2]) rfl ⟨by rw[HD4.out,zH,HEZ.out],?_⟩;exact((((((((T3.Ag zl _).Ag zl _).Ag zl _).Ag zl _).Ag (Nat.le_refl _) _).Ag (Nat.le_refl _) _).Ag (Nat.le_refl _) _).Ag (Nat.le_refl _) _)
         |false=>
          rw[hew]at HD3;have HD4:Hid (Ey s=.error 4):=HD3;clear HD3 HW1 ez;go_wp2_with (go_at_call 224;first|(refine(H32.out _ _ _ h76 (by omega) (by omega)).mono ?_;rintro e wn ⟨rfl,rfl⟩)|(refine(H40.out _ _ _ h76 (by omega) (by omega)).mono ?_;rintro e wn ⟨rfl,rfl⟩)|(refine(H48.out _ _ _ h76 (by omega) (by omega)).mono ?_;rintro e wn ⟨rfl,rfl⟩));refine bodyPost_ret (v:=.tuple #[.agg #[.int .i64 0,.int .i64 0,.int .i64 0,.int .i64 0],.int .i64 4]) (by simp[results,Tryz.results154,go_sem,Ad,g0,g1,g2,g3,ne1,ne2]) rfl ⟨by rw[HD4.out];rfl,?_⟩;exact((((((((T3.Ag zl _).Ag zl _).Ag zl _).Ag zl _).Ag (Nat.le_refl _) _).Ag (Nat.le_refl _) _).Ag (Nat.le_refl _) _).Ag (Nat.le_refl _) _)
end Go.Proofs.YtmhlkdlcpicekaaGreatDoor
