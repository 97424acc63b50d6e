/- Joined. -/
import Derived.Test.YtmhlkdlcpicekaaGreatDoorJ07
set_option linter.unusedSimpArgs false
set_option linter.unusedVariables false
set_option maxRecDepth 100000
set_option maxHeartbeats 20000000
namespace Go.Proofs.YtmhlkdlcpicekaaGreatDoor
open Go.RowKit
theorem FR.Qce(w:World)(s:ByteArray)(q E:Nat)(hq:q<=E)(hE:E<=s.size)(x:ByteArray)(hx:x=s.extract q E):FR (w.alloc (.cells #[.string x,.bool false] 175)) w.heap.size s E (some q):=by
 subst hx;have hb:=heap_alloc_new w (.cells #[.string (s.extract q E),.bool false] 175);refine⟨?_,?_,?_,?_,?_,hE⟩;.rw[Ac hb 0];rfl
 .rw[Ac hb 1];rfl
 .simp[go_sem]
 .simp[go_sem]
 rintro _ ⟨⟩;exact hq
theorem uX(s:ByteArray)(p:Nat)(hp:p<=s.size):(s.extract 0 p).size=p:=by rw[ByteArray.size_extract];omega
theorem Qfv(s:ByteArray)(p q:Nat)(hp:p<=s.size):(s.extract 0 p).extract q p=s.extract q p:=by
 rw[dU s 0 p q p hp (by omega),Nat.zero_add]
theorem kY(w:World)(s:ByteArray)(p:Nat)(hp:p<=s.size)(hs:s.size<=140737488355328): Calls Tryz.prog 87 #[.string (s.extract 0 p)] w fun e w'=>∃(n1 n2 n3 n4:Nat) (x:Bool),e=.returned (.tuple #[.agg #[.int .i64 (n1:Int),.int .i64 (n2:Int),.int .i64 (n3:Int),.int .i64 (n4:Int),.bool x],.bool (Ip s p)]) /\ (Ip s p=true->n1=Aa s (p-76+32) 8/\n2=Aa s (p-76+40) 8/\n3=Aa s (p-76+48) 8/\n4=p-76/\x=Ji s p)/\Touch (fun _=>False) w w':=by
 have z0:=uX s p hp;have W1:Touch (fun _=>False) w (w.alloc (Obj.cells #[.int .i64 0,.int .i64 0,.int .i64 0,.int .i64 0,.bool false] 170)):=(Touch.refl _ w).alloc _;by_cases h76:76<=p
 .have c1:¬(p:Int)-20-56<0:=by omega
  have c2:(p:Int)-20-56=((p-76:Nat):Int):=by omega
  obtain⟨q,hq⟩:∃q,q=p-76:=⟨_,rfl⟩;rw[<-hq]at c2;have hqp:q+76=p:=by omega
  have hW:Hid (Ip s p=(decide ((s.extract q (q+4)).toList=[80,75,6,6])&&decide (Aa s (q+4) 8=44)&&decide ((s.extract (q+56) (q+56+4)).toList=[80,75,6,7])&&decide (Aa s (q+64) 8=q))):=by
   unfold Hid Ip Eg;rw[decide_eq_true h76,<-hq,Bool.true_and]
  have hO:Hid (Ji s p=(Qm (Aa s (q+16) 4) (Aa s (q+20) 4) (Aa s (q+24) 8) (Aa s (q+32) 8)&&decide (Aa s (q+60) 4=0)&&decide (Aa s (q+72) 4=1))):=by
   unfold Hid Ji;rw[<-hq]
  have f0:=FR.Qce (w.alloc (Obj.cells #[.int .i64 0,.int .i64 0,.int .i64 0,.int .i64 0,.bool false] 170)) s q p (by omega) hp _ rfl;rw[World.size_alloc]at f0;have ex:=Qfv s p q hp;have HQ:Hid (q+76=p):=hqp;have q0:(0:Int)<=(q:Int):=by omega
  have q1:(q:Int)<=(p:Int):=by omega
  clear hq hqp h76;go_enter Tryz.func87,Tryz.ntmps87;go_wp2_with fail;refine(Px _ _ s p q 4 f0 (by have:=HQ.out;omega) hs).mono ?_;rintro e w1 ⟨rfl,f1,t1⟩;have T1:Touch (fun _=>False) w w1:=(W1.alloc _).Hf t1 (by simp);have b1:w1.heap[w.heap.size]?=some (Obj.cells #[.int .i64 0,.int .i64 0,.int .i64 0,.int .i64 0,.bool false] 170):=by
   rw[t1.block w.heap.size (by simp;omega) (by simp)];exact(Below.heap_alloc _ _ _ (by simp)).trans (heap_alloc_new w _)
  clear t1 f0 ex W1;go_wp2_with fail;refine(Fe _ _ s p (q+4) 8 f1 (by have:=HQ.out;omega) (by omega) hs).mono ?_;rintro e w2 ⟨rfl,f2,t2⟩;have T2:=T1.Hf t2 (by simp);have z1:w.heap.size<w1.heap.size:=(Array.getElem?_eq_some_iff.1 b1).1;have b2:=(t2.block w.heap.size z1 (by simp)).trans b1;clear t2 f1 T1 b1 z1;go_wp2_with fail;refine(Px _ _ s p (q+4+8) 4 f2 (by have:=HQ.out;omega) hs).mono ?_;rintro e w3 ⟨rfl,f3,t3⟩;have T3:=T2.Hf t3 (by simp);have z2:w.heap.size<w2.heap.size:=(Array.getElem?_eq_some_iff.1 b2).1;have b3:=(t3.block w.heap.size z2 (by simp)).trans b2;clear t3 f2 T2 b2 z2;go_wp2_with fail;refine(aA _ _ s p (q+4+8+4) 4 8 8 (by omega) (by omega) (by omega) f3 (by have:=HQ.out;omega) hs).mono ?_;rintro e w4 ⟨rfl,f4,t4⟩;have T4:=T3.Hf t4 (by simp);have z3:w.heap.size<w3.heap.size:=(Array.getElem?_eq_some_iff.1 b3).1;have b4:=(t4.block w.heap.size z3 (by simp)).trans b3;have l4:=World.block_lt_of_cell? w4 _ f4.rest;clear t4 f3 T3 b3 z3;obtain⟨n1,h1⟩:∃n,n=Aa s (q+4+8+4+4+4+8) 8:=⟨_,rfl⟩;obtain⟨n2,h2⟩:∃n,n=Aa s (q+4+8+4+4+4+8+8) 8:=⟨_,rfl⟩;obtain⟨n3,h3⟩:∃n,n=Aa s (q+4+8+4+4+4+8+8+8) 8:=⟨_,rfl⟩;obtain⟨x0,h4⟩:∃n,n=Qm (Aa s (q+4+8+4) 4) (Aa s (q+4+8+4+4) 4) (Aa s (q+4+8+4+4+4) 8) (Aa s (q+4+8+4+4+4+8) 8):=⟨_,rfl⟩;rw[<-h4,<-h1,<-h2,<-h3];have HN:Hid (n1=Aa s (q+32) 8/\n2=Aa s (q+40) 8/\n3=Aa s (q+48) 8/\x0=Qm (Aa s (q+16) 4) (Aa s (q+20) 4) (Aa s (q+24) 8) (Aa s (q+32) 8)):=⟨h1,h2,h3,h4⟩;clear h1 h2 h3 h4;have f5:=f4.keep ((Touch.refl (fun _=>False) w4).alloc (Obj.cells #[.int .i64 (n1:Int),.int .i64 (n2:Int),.int .i64 (n3:Int),.int .i64 (q:Int),.bool x0] 170)) (fun e=>e);have T5:=T4.alloc (Obj.cells #[.int .i64 (n1:Int),.int .i64 (n2:Int),.int .i64 (n3:Int),.int .i64 (q:Int),.bool x0] 170);have b5:=(Below.heap_alloc w4 (Obj.cells #[.int .i64 (n1:Int),.int .i64 (n2:Int),.int .i64 (n3:Int),.int .i64 (q:Int),.bool x0] 170) _ (Array.getElem?_eq_some_iff.1 b4).1).trans b4;have d5:=heap_alloc_new w4 (Obj.cells #[.int .i64 (n1:Int),.int .i64 (n2:Int),.int .i64 (n3:Int),.int .i64 (q:Int),.bool x0] 170);clear f4 T4 b4;go_wp2_with fail;refine(Px _ _ s p (q+4+8+4+4+4+8+8+8+8) 4 f5 (by have:=HQ.out;omega) hs).mono ?_;rintro e w6 ⟨rfl,f6,t6⟩;have T6:=T5.Hf t6 (by simp);have b6:=(t6.block w.heap.size (Array.getElem?_eq_some_iff.1 b5).1 (by simp)).trans b5;have d6:=(t6.block w4.heap.size (by simp) (by show¬w4.heap.size=w.heap.size+1;omega)).trans d5;clear t6 f5 T5 b5 d5;go_wp2_with fail;refine(Fe _ _ s p (q+4+8+4+4+4+8+8+8+8+4) 4 f6 (by have:=HQ.out;omega) (by omega) hs).mono ?_;rintro e w7 ⟨rfl,f7,t7⟩;have T7:=T6.Hf t7 (by simp);have b7:=(t7.block w.heap.size (Array.getElem?_eq_some_iff.1 b6).1 (by simp)).trans b6;have d7:=(t7.block w4.heap.size (Array.getElem?_eq_some_iff.1 d6).1 (by show¬w4.heap.size=w.heap.size+1;omega)).trans d6;clear t7 f6 T6 b6 d6;go_wp2_with fail;refine(Fe _ _ s p (q+4+8+4+4+4+8+8+8+8+4+4) 8 f7 (by have:=HQ.out;omega) (by omega) hs).mono ?_;rintro e w8 ⟨rfl,f8,t8⟩;have T8:=T7.Hf t8 (by simp);have b8:=(t8.block w.heap.size (Array.getElem?_eq_some_iff.1 b7).1 (by simp)).trans b7;have d8:=(t8.block w4.heap.size (Array.getElem?_eq_some_iff.1 d7).1 (by show¬w4.heap.size=w.heap.size+1;omega)).trans d7;clear t8 f7 T7 b7 d7;go_wp2_with fail;refine(Fe _ _ s p (q+4+8+4+4+4+8+8+8+8+4+4+8) 4 f8 (by have:=HQ.out;omega) (by omega) hs).mono ?_;rintro e w9 ⟨rfl,f9,t9⟩;have T9:=T8.Hf t9 (by simp);have b9:=(t9.block w.heap.size (Array.getElem?_eq_some_iff.1 b8).1 (by simp)).trans b8;have d9:=(t9.block w4.heap.size (Array.getElem?_eq_some_iff.1 d8).1 (by show¬w4.heap.size=w.heap.size+1;omega)).trans d8;clear t9 f8 T8 b8 d8 f9;have g0:w9.cell? ⟨w.heap.size,0,none⟩=some (.int .i64 0):=by rw[Ac b9 0];rfl
  have g1:w9.cell? ⟨w.heap.size,1,none⟩=some (.int .i64 0):=by rw[Ac b9 1];rfl
  have g2:w9.cell? ⟨w.heap.size,2,none⟩=some (.int .i64 0):=by rw[Ac b9 2];rfl
  have g3:w9.cell? ⟨w.heap.size,3,none⟩=some (.int .i64 0):=by rw[Ac b9 3];rfl
  have g4:w9.cell? ⟨w.heap.size,4,none⟩=some (.bool false):=by rw[Ac b9 4];rfl
  have k0:w9.cell? ⟨w4.heap.size,0,none⟩=some (.int .i64 (n1:Int)):=by rw[Ac d9 0];rfl
  have k1:w9.cell? ⟨w4.heap.size,1,none⟩=some (.int .i64 (n2:Int)):=by rw[Ac d9 1];rfl
  have k2:w9.cell? ⟨w4.heap.size,2,none⟩=some (.int .i64 (n3:Int)):=by rw[Ac d9 2];rfl
  have k3:w9.cell? ⟨w4.heap.size,3,none⟩=some (.int .i64 (q:Int)):=by rw[Ac d9 3];rfl
  have k4:w9.cell? ⟨w4.heap.size,4,none⟩=some (.bool x0):=by rw[Ac d9 4];rfl
  have fz:∀o,w9.frozen? ⟨w.heap.size,o,none⟩=false:=fun o=>Cb b9 o;have fy:∀o,w9.frozen? ⟨w4.heap.size,o,none⟩=false:=fun o=>Cb d9 o;have ne:¬w4.heap.size=w.heap.size:=by omega
  have ne':¬w.heap.size=w4.heap.size:=by omega
  have szl:w.heap.size<=w4.heap.size:=by omega
  clear b9 d9 l4;obtain⟨m1,e1⟩:∃m,m=s.extract q (q+4):=⟨_,rfl⟩;obtain⟨m2,e2⟩:∃m,m=s.extract (q+4+8+4+4+4+8+8+8+8) (q+4+8+4+4+4+8+8+8+8+4):=⟨_,rfl⟩;obtain⟨r1,e3⟩:∃m,m=Aa s (q+4) 8:=⟨_,rfl⟩;obtain⟨r2,e4⟩:∃m,m=Aa s (q+4+8+4+4+4+8+8+8+8+4) 4:=⟨_,rfl⟩;obtain⟨r3,e5⟩:∃m,m=Aa s (q+4+8+4+4+4+8+8+8+8+4+4) 8:=⟨_,rfl⟩;obtain⟨r4,e6⟩:∃m,m=Aa s (q+4+8+4+4+4+8+8+8+8+4+4+8) 4:=⟨_,rfl⟩;rw[<-e1,<-e2,<-e3,<-e4,<-e5,<-e6];have HE:Hid (Ip s p=(decide (m1.toList=[80,75,6,6])&&decide (r1=44)&&decide (m2.toList=[80,75,6,7])&&decide (r3=q))/\Ji s p=(x0&&decide (r2=0)&&decide (r4=1))):=by
   refine⟨?_,?_⟩;.rw[hW.out,e1,e2,e3,e5]
   rw[hO.out,e4,e6];obtain⟨h1,_,_,h4⟩:=HN.out;rw[<-h4]
  clear e1 e2 e3 e4 e5 e6 hW hO;have A:(x0=false/\false=(x0&&decide (r2=0)&&decide (r4=1)))\/((x0=true/\((r2:Int)==0)=false)/\false=(x0&&decide (r2=0)&&decide (r4=1)))\/((x0=true/\((r2:Int)==0)=true/\((r4:Int)==1)=false)/\false=(x0&&decide (r2=0)&&decide (r4=1)))\/((x0=true/\((r2:Int)==0)=true/\((r4:Int)==1)=true)/\true=(x0&&decide (r2=0)&&decide (r4=1))):=by
   cases x0;.exact .inl ⟨rfl,rfl⟩
   refine .inr ?_;by_cases y1:r2=0
   .refine .inr ?_;by_cases y2:r4=1;.exact .inr ⟨⟨rfl,by simp;omega,by simp;omega⟩,by simp[y1,y2]⟩
    exact .inl ⟨⟨rfl,by simp;omega,by simp;omega⟩,by simp[y1,y2]⟩
   exact .inl ⟨⟨rfl,by simp;omega⟩,by simp[y1]⟩
  have B:(¬m1.toList=[80,75,6,6]/\false=(decide (m1.toList=[80,75,6,6])&&decide (r1=44)&&decide (m2.toList=[80,75,6,7])&&decide (r3=q)))\/((m1.toList=[80,75,6,6]/\((r1:Int)==44)=false)/\false=(decide (m1.toList=[80,75,6,6])&&decide (r1=44)&&decide (m2.toList=[80,75,6,7])&&decide (r3=q)))\/((m1.toList=[80,75,6,6]/\((r1:Int)==44)=true/\¬m2.toList=[80,75,6,7])/\false=(decide (m1.toList=[80,75,6,6])&&decide (r1=44)&&decide (m2.toList=[80,75,6,7])&&decide (r3=q)))\/((m1.toList=[80,75,6,6]/\((r1:Int)==44)=true/\m2.toList=[80,75,6,7]/\((r3:Int)==(q:Int))=false)/\false=(decide (m1.toList=[80,75,6,6])&&decide (r1=44)&&decide (m2.toList=[80,75,6,7])&&decide (r3=q)))\/((m1.toList=[80,75,6,6]/\((r1:Int)==44)=true/\m2.toList=[80,75,6,7]/\((r3:Int)==(q:Int))=true)/\true=(decide (m1.toList=[80,75,6,6])&&decide (r1=44)&&decide (m2.toList=[80,75,6,7])&&decide (r3=q))):=by
   by_cases y1:m1.toList=[80,75,6,6]
   .refine .inr ?_;by_cases y2:r1=44
    .refine .inr ?_;by_cases y3:m2.toList=[80,75,6,7]
     .refine .inr ?_;by_cases y4:r3=q;.exact .inr ⟨⟨y1,by simp;omega,y3,by simp;omega⟩,by simp[y1,y2,y3,y4]⟩
      exact .inl ⟨⟨y1,by simp;omega,y3,by simp;omega⟩,by simp[y1,y2,y3,y4]⟩
     exact .inl ⟨⟨y1,by simp;omega,y3⟩,by simp[y1,y2,y3]⟩
    exact .inl ⟨⟨y1,by simp;omega⟩,by simp[y1,y2]⟩
   exact .inl ⟨y1,by simp[y1]⟩
  have FIN:Hid (∀(W:World) (x ok:Bool),x=(x0&&decide (r2=0)&&decide (r4=1))->ok=(decide (m1.toList=[80,75,6,6])&&decide (r1=44)&&decide (m2.toList=[80,75,6,7])&&decide (r3=q))->Touch (fun _=>False) w W ->∃(n1' n2' n3' n4':Nat) (x':Bool),Ending.returned (.tuple #[.agg #[.int .i64 (n1:Int),.int .i64 (n2:Int),.int .i64 (n3:Int),.int .i64 (q:Int),.bool x],.bool ok])=Ending.returned (.tuple #[.agg #[.int .i64 (n1':Int),.int .i64 (n2':Int),.int .i64 (n3':Int),.int .i64 (n4':Int),.bool x'],.bool (Ip s p)]) /\ (Ip s p=true->n1'=Aa s (p-76+32) 8/\n2'=Aa s (p-76+40) 8/\n3'=Aa s (p-76+48) 8/\n4'=p-76/\x'=Ji s p)/\Touch (fun _=>False) w W):=by
   intro W x ok hx hok hT;obtain⟨h1,h2⟩:=HE.out;obtain⟨k1,k2,k3,_⟩:=HN.out;have hq:=HQ.out;refine⟨n1,n2,n3,q,x,by rw[h1,hok],fun _=>⟨?_,?_,?_,by omega,by rw[h2,hx]⟩,hT⟩;.rw[k1];congr 1;omega
   .rw[k2];congr 1;omega
   rw[k3];congr 1;omega
  clear HE HN;rcases A with⟨a1,HX⟩|⟨⟨a1,a2⟩,HX⟩|⟨⟨a1,a2,a3⟩,HX⟩|⟨⟨a1,a2,a3⟩,HX⟩<;>rcases B with⟨b1,HO⟩|⟨⟨b1,b2⟩,HO⟩|⟨⟨b1,b2,b3⟩,HO⟩|⟨⟨b1,b2,b3,b4⟩,HO⟩|⟨⟨b1,b2,b3,b4⟩,HO⟩;all_goals
   have HF:Hid (∀W,Touch (fun _=>False) w W->_):=fun W hT=>FIN.out W _ _ HX HO hT;clear HX HO FIN;subst a1;go_wp2;refine bodyPost_ret ?_ rfl (HF.out _ ?_);.simp[results,Tryz.results87,go_sem,Ad,g0,g1,g2,g3,g4,ne,ne']
   exact(((((T9.Ag szl _).Ag (Nat.le_refl _) _).Ag (Nat.le_refl _) _).Ag (Nat.le_refl _) _).Ag (Nat.le_refl _) _).Ag (Nat.le_refl _) _
 have c1:(p:Int)-20-56<0:=by omega
 have hW:Hid (Ip s p=false):=by unfold Hid Ip;rw[decide_eq_false h76];rfl
 go_enter Tryz.func87,Tryz.ntmps87;go_wp2;refine bodyPost_ret (v:=.tuple #[.agg #[.int .i64 0,.int .i64 0,.int .i64 0,.int .i64 0,.bool false],.bool false]) (by simp[results,Tryz.results87,go_sem]) rfl ?_;exact⟨0,0,0,0,false,by rw[hW.out];rfl,(fun h=>by rw[hW.out]at h;cases h),W1⟩
theorem Ug(s:ByteArray):∀(f b p:Nat),Dv s f b=some p->p+22<=s.size
 |0,_,_,h=>by simp[Dv]at h
 |f+1,b,p,h=>by
  unfold Dv at h;split at h
  .split at h;.cases h;omega
   exact Ug s f _ p h
  cases h
def zH:Except Nat Dir->Value
 |.ok d=>.tuple #[.agg #[.int .i64 (d.count:Int),.int .i64 (d.size:Int),.int .i64 (d.place:Int),.int .i64 (d.stop:Int)],.int .i64 0]
 |.error x=>.tuple #[.agg #[.int .i64 0,.int .i64 0,.int .i64 0,.int .i64 0],.int .i64 (x:Int)]
theorem gB(w:World)(s:ByteArray)(hs:s.size<=140737488355328): Calls Tryz.prog 42 #[.string s] w fun e w'=>e=.returned (zH (Ey s))/\Touch (fun _=>False) w w':=by
 have hc:=fun W=>Qbc W s hs;have W1:Touch (fun _=>False) w (w.alloc (Obj.cells #[.int .i64 0,.int .i64 0,.int .i64 0,.int .i64 0] 120)):=(Touch.refl _ w).alloc _;cases hp:Dv s 101 0 with
 |none=>
  rw[hp]at hc;have HC:Hid (∀W,Calls Tryz.prog 84 #[.string s] W fun e w'=>e=.returned (.tuple #[.int .i64 0,.bool false])/\Touch (fun _=>False) W w'):=hc;have HD:Hid (Ey s=.error 3):=by unfold Hid Ey;rw[hp]
  clear hc hp;go_enter Tryz.func42,Tryz.ntmps42;go_wp2_with fail;refine(HC.out _).mono ?_;rintro e w1 ⟨rfl,t1⟩;have b1:w1.heap[w.heap.size]?=some (Obj.cells #[.int .i64 0,.int .i64 0,.int .i64 0,.int .i64 0] 120):=(t1.block _ (by simp) (fun e=>e)).trans (heap_alloc_new w _);have T1:=W1.trans t1;have g0:w1.cell? ⟨w.heap.size,0,none⟩=some (.int .i64 0):=by rw[Ac b1 0];rfl
  have g1:w1.cell? ⟨w.heap.size,1,none⟩=some (.int .i64 0):=by rw[Ac b1 1];rfl
  have g2:w1.cell? ⟨w.heap.size,2,none⟩=some (.int .i64 0):=by rw[Ac b1 2];rfl
  have g3:w1.cell? ⟨w.heap.size,3,none⟩=some (.int .i64 0):=by rw[Ac b1 3];rfl
  have fz:∀o,w1.frozen? ⟨w.heap.size,o,none⟩=false:=fun o=>Cb b1 o;clear t1 W1 b1;go_wp2;refine bodyPost_ret (v:=.tuple #[.agg #[.int .i64 0,.int .i64 0,.int .i64 0,.int .i64 0],.int .i64 3]) (by simp[results,Tryz.results42,go_sem,Ad,g0,g1,g2,g3]) rfl ⟨by rw[HD.out];rfl,?_⟩;exact(((T1.Ag (Nat.le_refl _) _).Ag (Nat.le_refl _) _).Ag (Nat.le_refl _) _).Ag (Nat.le_refl _) _
 |some p=>
  have hp22:=Ug s _ _ _ hp;rw[hp]at hc;have HC:Hid (∀W,Calls Tryz.prog 84 #[.string s] W fun e w'=>e=.returned (.tuple #[.int .i64 (p:Int),.bool true])/\Touch (fun _=>False) W w'):=hc;have HN:=fun W=>Qbt W s p hp22 hs;have HI:=fun W=>lH W (Aa s (p+10) 2) (Aa s (p+12) 4) (Aa s (p+16) 4) p (Ie s p);have HW:=fun W=>kY W s p (by omega) hs;have HD:Hid (Ey s=if Vj s p then(if Ip s p then(if Ie s p&&Ji s p then .ok ⟨Aa s (p-76+32) 8,Aa s (p-76+40) 8,Aa s (p-76+48) 8,p-76⟩else .error 4)else .error 3)else if Ie s p then .ok ⟨Aa s (p+10) 2,Aa s (p+12) 4,Aa s (p+16) 4,p⟩else .error 4):=by unfold Hid Ey;rw[hp]
  have HE:Vj s p=(decide (Aa s (p+10) 2=65535)||decide (Aa s (p+12) 4=4294967295)||decide (Aa s (p+16) 4=4294967295)):=rfl;rw[<-HE]at HI;obtain⟨n1,e1⟩:∃n,n=Aa s (p+10) 2:=⟨_,rfl⟩;obtain⟨n2,e2⟩:∃n,n=Aa s (p+12) 4:=⟨_,rfl⟩;obtain⟨n3,e3⟩:∃n,n=Aa s (p+16) 4:=⟨_,rfl⟩;obtain⟨eb,e4⟩:∃n,n=Vj s p:=⟨_,rfl⟩;obtain⟨ob,e5⟩:∃n,n=Ie s p:=⟨_,rfl⟩;obtain⟨wb,e6⟩:∃n,n=Ip s p:=⟨_,rfl⟩;rw[<-e1,<-e2,<-e3,<-e5]at HN;rw[<-e1,<-e2,<-e3,<-e4,<-e5]at HI;rw[<-e1,<-e2,<-e3,<-e4,<-e5,<-e6]at HD;rw[<-e6]at HW;have HN':Hid (∀W,Calls Tryz.prog 85 #[.string s,.int .i64 (p:Int)] W fun e w'=>e=.returned (.agg #[.int .i64 (n1:Int),.int .i64 (n2:Int),.int .i64 (n3:Int),.int .i64 (p:Int),.bool ob])/\Touch (fun _=>False) W w'):=HN;have HI':Hid (∀W,Calls Tryz.prog 86 #[.agg #[.int .i64 (n1:Int),.int .i64 (n2:Int),.int .i64 (n3:Int),.int .i64 (p:Int),.bool ob]] W fun e w'=>e=.returned (.bool eb)/\Touch (fun _=>False) W w'):=HI;have HW':Hid (∀W,Calls Tryz.prog 87 #[.string (s.extract 0 p)] W _):=HW;have pl:(p:Int)<=(s.size:Int):=by omega
  clear HN HI hc hp HE e1 e2 e3 e4 e5 e6 HW;go_enter Tryz.func42,Tryz.ntmps42;go_wp2_with fail;refine(HC.out _).mono ?_;rintro e w1 ⟨rfl,t1⟩;have b1:w1.heap[w.heap.size]?=some (Obj.cells #[.int .i64 0,.int .i64 0,.int .i64 0,.int .i64 0] 120):=(t1.block _ (by simp) (fun e=>e)).trans (heap_alloc_new w _);have z1:w.heap.size<w1.heap.size:=by have:=t1.size;simp at this;omega
  have T1:=W1.trans t1;clear t1 W1;go_wp2_with fail;refine(HN'.out _).mono ?_;rintro e w2 ⟨rfl,t2⟩;have b2:=(t2.block _ z1 (fun e=>e)).trans b1;have z2:w.heap.size<w2.heap.size:=by have:=t2.size;omega
  have T2:=T1.trans t2;clear t2 T1 b1;go_wp2_with fail;refine(HI'.out _).mono ?_;rintro e w3 ⟨rfl,t3⟩;have T3:=(T2.alloc _).trans t3;have z3:w2.heap.size<w3.heap.size:=by have:=t3.size;simp at this;omega
  have z4:w.heap.size<w3.heap.size:=by omega
  have b3:=(t3.block w.heap.size (by simp;omega) (fun e=>e)).trans ((Below.heap_alloc _ _ _ z2).trans b2);have b4:=(t3.block w2.heap.size (by simp) (fun e=>e)).trans (heap_alloc_new w2 _);clear t3 T2 b2;have ne:¬w2.heap.size=w.heap.size:=by omega
  have ne':¬w.heap.size=w2.heap.size:=by omega
  have zl:w.heap.size<=w2.heap.size:=by omega
  cases eb with
  |false=>
   have g0:w3.cell? ⟨w.heap.size,0,none⟩=some (.int .i64 0):=by rw[Ac b3 0];rfl
   have g1:w3.cell? ⟨w.heap.size,1,none⟩=some (.int .i64 0):=by rw[Ac b3 1];rfl
   have g2:w3.cell? ⟨w.heap.size,2,none⟩=some (.int .i64 0):=by rw[Ac b3 2];rfl
   have g3:w3.cell? ⟨w.heap.size,3,none⟩=some (.int .i64 0):=by rw[Ac b3 3];rfl
   have q0:w3.cell? ⟨w2.heap.size,0,none⟩=some (.int .i64 n1):=by rw[Ac b4 0];rfl
   have q1:w3.cell? ⟨w2.heap.size,1,none⟩=some (.int .i64 n2):=by rw[Ac b4 1];rfl
   have q2:w3.cell? ⟨w2.heap.size,2,none⟩=some (.int .i64 n3):=by rw[Ac b4 2];rfl
   have q3:w3.cell? ⟨w2.heap.size,3,none⟩=some (.int .i64 p):=by rw[Ac b4 3];rfl
   have fz:∀o,w3.frozen? ⟨w.heap.size,o,none⟩=false:=fun o=>Cb b3 o;clear b3 b4 z3 z2 z1;cases ob with
   |true=>
    go_wp2;refine bodyPost_ret (v:=.tuple #[.agg #[.int .i64 n1,.int .i64 n2,.int .i64 n3,.int .i64 p],.int .i64 0]) (by simp[results,Tryz.results42,go_sem,Ad,g0,g1,g2,g3]) rfl ⟨by rw[HD.out];rfl,?_⟩;exact(((T3.Ag (Nat.le_refl _) _).Ag (Nat.le_refl _) _).Ag (Nat.le_refl _) _).Ag (Nat.le_refl _) _
   |false=>
    go_wp2;refine bodyPost_ret (v:=.tuple #[.agg #[.int .i64 0,.int .i64 0,.int .i64 0,.int .i64 0],.int .i64 4]) (by simp[results,Tryz.results42,go_sem,Ad,g0,g1,g2,g3]) rfl ⟨by rw[HD.out];rfl,?_⟩;exact(((T3.Ag (Nat.le_refl _) _).Ag (Nat.le_refl _) _).Ag (Nat.le_refl _) _).Ag (Nat.le_refl _) _
  |true=>
   go_wp2_with fail;refine(HW'.out _).mono ?_;intro e w4 hh;obtain⟨m1,hh⟩:=hh;obtain⟨m2,hh⟩:=hh;obtain⟨m3,hh⟩:=hh;obtain⟨m4,hh⟩:=hh;obtain⟨x,hh⟩:=hh;obtain⟨he,hx,t4⟩:=hh;subst he;have T4:=T3.trans t4;have b5:=(t4.block w.heap.size z4 (fun e=>e)).trans b3;have b6:=(t4.block w2.heap.size z3 (fun e=>e)).trans b4;have g0:w4.cell? ⟨w.heap.size,0,none⟩=some (.int .i64 0):=by rw[Ac b5 0];rfl
   have g1:w4.cell? ⟨w.heap.size,1,none⟩=some (.int .i64 0):=by rw[Ac b5 1];rfl
   have g2:w4.cell? ⟨w.heap.size,2,none⟩=some (.int .i64 0):=by rw[Ac b5 2];rfl
   have g3:w4.cell? ⟨w.heap.size,3,none⟩=some (.int .i64 0):=by rw[Ac b5 3];rfl
   have q0:w4.cell? ⟨w2.heap.size,0,none⟩=some (.int .i64 n1):=by rw[Ac b6 0];rfl
   have q1:w4.cell? ⟨w2.heap.size,1,none⟩=some (.int .i64 n2):=by rw[Ac b6 1];rfl
   have q2:w4.cell? ⟨w2.heap.size,2,none⟩=some (.int .i64 n3):=by rw[Ac b6 2];rfl
   have q3:w4.cell? ⟨w2.heap.size,3,none⟩=some (.int .i64 p):=by rw[Ac b6 3];rfl
   have q4:w4.cell? ⟨w2.heap.size,4,none⟩=some (.bool ob):=by rw[Ac b6 4];rfl
   have fz:∀o,w4.frozen? ⟨w.heap.size,o,none⟩=false:=fun o=>Cb b5 o;have fy:∀o,w4.frozen? ⟨w2.heap.size,o,none⟩=false:=fun o=>Cb b6 o;have HX:Hid (wb=true->m1=Aa s (p-76+32) 8/\m2=Aa s (p-76+40) 8/\m3=Aa s (p-76+48) 8/\m4=p-76/\x=Ji s p):=hx;clear b3 b4 z3 z2 z1 t4 T3 b5 b6 hx;cases wb with
   |false=>
    go_wp2;refine bodyPost_ret (v:=.tuple #[.agg #[.int .i64 0,.int .i64 0,.int .i64 0,.int .i64 0],.int .i64 3]) (by simp[results,Tryz.results42,go_sem,Ad,g0,g1,g2,g3,ne,ne']) rfl ⟨by rw[HD.out];rfl,?_⟩
    iterate 9 refine Touch.Ag ?_ (by first|exact Nat.le_refl _|exact zl) _
    exact T4
   |true=>
    cases ob with
    |false=>
     go_wp2;refine bodyPost_ret (v:=.tuple #[.agg #[.int .i64 0,.int .i64 0,.int .i64 0,.int .i64 0],.int .i64 4]) (by simp[results,Tryz.results42,go_sem,Ad,g0,g1,g2,g3,ne,ne']) rfl ⟨by rw[HD.out];rfl,?_⟩
     iterate 9 refine Touch.Ag ?_ (by first|exact Nat.le_refl _|exact zl) _
     exact T4
    |true=>
     obtain⟨k1,k2,k3,k4,k5⟩:=HX.out rfl;rw[<-k1,<-k2,<-k3,<-k4,<-k5]at HD;clear k1 k2 k3 k4 k5 HX;cases x with
     |false=>
      go_wp2;refine bodyPost_ret (v:=.tuple #[.agg #[.int .i64 0,.int .i64 0,.int .i64 0,.int .i64 0],.int .i64 4]) (by simp[results,Tryz.results42,go_sem,Ad,g0,g1,g2,g3,ne,ne']) rfl ⟨by rw[HD.out];rfl,?_⟩
      iterate 9 refine Touch.Ag ?_ (by first|exact Nat.le_refl _|exact zl) _
      exact T4
     |true=>
      go_wp2;refine bodyPost_ret (v:=.tuple #[.agg #[.int .i64 m1,.int .i64 m2,.int .i64 m3,.int .i64 m4],.int .i64 0]) (by simp[results,Tryz.results42,go_sem,Ad,g0,g1,g2,g3,ne,ne']) rfl ⟨by rw[HD.out];rfl,?_⟩
      iterate 9 refine Touch.Ag ?_ (by first|exact Nat.le_refl _|exact zl) _
      exact T4
end Go.Proofs.YtmhlkdlcpicekaaGreatDoor
