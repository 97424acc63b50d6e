/- Joined. -/
import Derived.Test.YtmhlkdlcpicekaaGreatDoorJ29
import Derived.Test.YtmhlkdlcpicekaaGreatDoorJ30
import Derived.Test.YtmhlkdlcpicekaaGreatDoorJ19
set_option linter.unusedSimpArgs false
set_option linter.unusedVariables false
set_option maxRecDepth 100000
set_option maxHeartbeats 20000000
namespace Go.Proofs.YtmhlkdlcpicekaaGreatDoor
open Go.RowKit
theorem uG(w:World)(s:ByteArray)(E p:Nat)(hE:E<=s.size)(hp:p<=s.size)(hs:s.size<=140737488355328): Calls Tryz.prog 155 #[.string s,.int .i64 (p:Int),.int .i64 (E:Int)] w fun r w'=>Oe (Ig s E p) r/\Touch (fun _=>False) w w':=by
 by_cases h:Ig s E p=none;.exact Qfz w s E p hE hp hs h
 exact Qdm w s E p hE hp hs h
open Go.Shelf Go.Lib
theorem Qhn(w:World)(s:ByteArray)(qe qn qb:Int)(hs:s.size<=1048576)(d:Dir)(x:Nat)(h3:Ce s d.stop d.count d.place []=.error x)(h0:Ey s=.ok d)(h1:¬qe<(d.count:Int))(h2:d.place<=d.stop/\d.size=d.stop-d.place): Calls Tryz.prog 99 #[.string s,.agg #[.int .i64 qe,.int .i64 qn,.int .i64 qb]] w fun r w'=>Touch (fun _=>False) w w'/\Em w.heap.size (listOf s qe qn qb) r w':=by
 obtain⟨i0,hi,hz0,hz1,hz2⟩:=info_parts Tryz.aH;have T0:Touch (fun _=>False) w (w.alloc (Obj.cells #[.int .i64 qe,.int .i64 qn,.int .i64 qb] 63)):=(Touch.refl _ w).alloc _;have bq0:=heap_alloc_new w (Obj.cells #[.int .i64 qe,.int .i64 qn,.int .i64 qb] 63);have HD:Hid (∀W,Calls Tryz.prog 154 #[.string s] W fun e w'=>e=.returned (zH (Ey s))/\Touch (fun _=>False) W w'):=fun W=>Qab W s (by omega);have hRR:=tY s qe qn qb d x h0 h1 h2 h3;obtain⟨R,hR⟩:∃R,R=listOf s qe qn qb:=⟨_,rfl⟩;rw[<-hR];rw[<-hR]at hRR;have hds:=(Og s d h0).1;rw[h0]at HD;obtain⟨cn,sz,pl,st⟩:=d;obtain⟨hp,hz⟩:=h2;simp only at *;obtain⟨Rs,hRs⟩:∃Rs,Rs=Ce s st cn pl []:=⟨_,rfl⟩;have hst:st<=s.size:=hds;have g0:¬qe<(cn:Int):=h1;have gq:decide (qe<(cn:Int))=false:=decide_eq_false h1;have gd:decide (st<pl)=false:=decide_eq_false (by omega);have g1:¬(st:Int)<(pl:Int):=by omega
 have g2:((sz:Int) != (st:Int)-(pl:Int))=false:=by simp;omega
 have HRS:Hid (Rs=Ce s st (cn-0) pl []):=hRs;have hRe:Rs=.error x:=hRs.trans h3;have HFB:Hid (∀k,Rs=.error k->∀w',Em w.heap.size R (.returned (.tuple #[.slice none 0 0,.int .i64 (k:Int)])) w'):=fun k hk=>by
  rw[hRe]at hk;cases hk;exact Jw _ _ _ hRR
 clear hR hRR hRs h3 h0 h1 hds hz;go_enter Tryz.func99,Tryz.ntmps99;go_wp2_with fail;refine(HD.out _).mono ?_;rintro e w1 ⟨he,t1⟩;obtain rfl:=(show e=.returned (.tuple #[.agg #[.int .i64 (cn:Int),.int .i64 (sz:Int),.int .i64 (pl:Int),.int .i64 (st:Int)],.int .i64 0]) from he);have T1:=T0.trans t1;have bq1:=(t1.block _ (by simp) (fun e=>e)).trans bq0;have q0:w1.cell? ⟨w.heap.size,0,none⟩=some (.int .i64 qe):=by rw[Ac bq1 0];rfl
 have q1:w1.cell? ⟨w.heap.size,1,none⟩=some (.int .i64 qn):=by rw[Ac bq1 1];rfl
 have q2:w1.cell? ⟨w.heap.size,2,none⟩=some (.int .i64 qb):=by rw[Ac bq1 2];rfl
 have lq1:w.heap.size<w1.heap.size:=(Array.getElem?_eq_some_iff.1 bq1).1;clear he t1 HD bq0 bq1 T0;have C1:=CB.three q0 q1 q2 lq1;have B1:=CB.new w1 [.int .i64 (cn:Int),.int .i64 (sz:Int),.int .i64 (pl:Int),.int .i64 (st:Int)] 243;have A1:=C1.keep ((Touch.refl (fun _=>False) w1).alloc (Obj.cells #[.int .i64 (cn:Int),.int .i64 (sz:Int),.int .i64 (pl:Int),.int .i64 (st:Int)] 243)) (fun e=>e);have T2:=T1.alloc (Obj.cells #[.int .i64 (cn:Int),.int .i64 (sz:Int),.int .i64 (pl:Int),.int .i64 (st:Int)] 243);have hS0:w1.heap.size+1<=(w1.alloc (Obj.cells #[.int .i64 (cn:Int),.int .i64 (sz:Int),.int .i64 (pl:Int),.int .i64 (st:Int)] 243)).heap.size:=by simp
 go_wp2;go_loopw [8,9,10] (fun v p' i wr=>∃(k p:Nat) (acc:List Eo),k<=cn/\acc.length=k/\i=.int .i64 (k:Int)/\p'=.int .i64 (p:Int)/\wr.ownsRow (w1.heap.size+1) 248 13 v acc.length (lC acc)/\CB wr w.heap.size [.int .i64 qe,.int .i64 qn,.int .i64 qb]/\CB wr w1.heap.size [.int .i64 (cn:Int),.int .i64 (sz:Int),.int .i64 (pl:Int),.int .i64 (st:Int)]/\k*46+pl<=p/\p<=st/\Hid (Rs=Ce s st (cn-k) p acc)/\Touch (fun _=>False) w wr/\w1.heap.size+1<=wr.heap.size) (fun v p' i wr=>cn-(intOf i).toNat)
 case atStart=>exact⟨0,pl,[],Nat.zero_le _,rfl,rfl,rfl,World.ownsRow_nil _ _ _ _,A1,B1,by omega,hp,HRS,T2,hS0⟩
 case round=>
  obtain⟨k,p,acc,hk,hacc,rfl,rfl,hro,hC,hB,hp46,hpst,HK,ht,hsz⟩:=hrel;clear A1 B1 C1 T2 hS0 HRS T1 q0 q1 q2;have b0:wr.cell? ⟨w1.heap.size,0,none⟩=some (.int .i64 (cn:Int)):=hB.cells 0 (by simp);have b2:wr.cell? ⟨w1.heap.size,2,none⟩=some (.int .i64 (pl:Int)):=hB.cells 2 (by simp);have b3:wr.cell? ⟨w1.heap.size,3,none⟩=some (.int .i64 (st:Int)):=hB.cells 3 (by simp);by_cases hlt:k<cn
  .have hlt':(k:Int)<(cn:Int):=by omega
   have HX:Hid (Rs=match Ig s st p with
     |none=>.error 5
     |some (e,q)=>if Aw e=0 then Ce s st (cn-(k+1)) q (acc++[e])else .error (Aw e)):=by
    unfold Hid;rw[HK.out,show cn-k=(cn-(k+1))+1 by omega];rfl
   clear HK;go_wp2_with fail;refine(uG _ s st p hst (by omega) (by omega)).mono ?_;rintro r w2 ⟨hr,t2⟩;unfold Oe at hr;have T2:Touch (fun _=>False) w w2:=ht.trans t2;have hsz2:=t2.size;have hro2:=t2.owns hro (fun _ _ h=>h);have hC2:=hC.keep t2 (fun e=>e);have hB2:=hB.keep t2 (fun e=>e);clear t2 hro hC hB b0 b2 b3 ht;cases hea:Ig s st p with
   |none=>
    rw[hea]at hr HX;have hx:Rs=.error 5:=HX.out;have FIN:Hid (∀w',Em w.heap.size R (.returned (.tuple #[.slice none 0 0,.int .i64 5])) w'):=HFB.out 5 hx;obtain⟨nm,x1,x2,x3,x4,x5,x6,x7,x8,x9,x10,x11,x12,rfl⟩:=(show xZ r 5 from hr);clear HX hx hr hea HFB;go_wp2;go_ret2;exact⟨T2.alloc _,FIN.out _⟩
   |some eq=>
    obtain⟨e,q⟩:=eq;rw[hea]at hr HX;obtain⟨p1,p2,hok⟩:=Vz s _ _ _ _ hea;have HX':Hid (Rs=if Aw e=0 then Ce s st (cn-(k+1)) q (acc++[e])else .error (Aw e)):=HX;have hr':if Aw e=0 then r=.returned (.tuple #[.agg (zQ e (Am e) 0 0 0).toArray,.int .i64 (q:Int),.int .i64 0])else xZ r (Aw e):=hr
    clear HX hea hr;by_cases hfa:Aw e=0
    .have hx:=HX'.out;rw[if_pos hfa]at hx;have HN:Hid (Rs=Ce s st (cn-(k+1)) q (acc++[e])):=hx;rw[if_pos hfa]at hr';obtain rfl:=(show r=.returned (.tuple #[.agg #[.string e.name,.int .i64 (e.method:Int),.int .i64 (e.sum:Int),.int .i64 (e.packed:Int),.int .i64 (e.size:Int),.int .i64 0,.int .i64 (e.flags:Int),.int .i64 (e.ahead:Int),.int .i64 ((Am e).1:Int),.int .i64 ((Am e).2.1:Int),.int .i64 ((Am e).2.2:Int),.int .i64 0,.int .i64 0],.int .i64 (q:Int),.int .i64 0]) from hr');have HQ:Hid (∀(j:Nat) (y:Value),(Vo (Qh e))[j]?=some y->((w2.alloc (Obj.cells #[.string e.name,.int .i64 (e.method:Int),.int .i64 (e.sum:Int),.int .i64 (e.packed:Int),.int .i64 (e.size:Int),.int .i64 0,.int .i64 (e.flags:Int),.int .i64 (e.ahead:Int),.int .i64 ((Am e).1:Int),.int .i64 ((Am e).2.1:Int),.int .i64 ((Am e).2.2:Int),.int .i64 0,.int .i64 0] 248)).alloc (Obj.cells #[.string e.name,.int .i64 (e.method:Int),.int .i64 (e.sum:Int),.int .i64 (e.packed:Int),.int .i64 (e.size:Int),.int .i64 0,.int .i64 (e.flags:Int),.int .i64 (e.ahead:Int),.int .i64 ((Am e).1:Int),.int .i64 ((Am e).2.1:Int),.int .i64 ((Am e).2.2:Int),.int .i64 0,.int .i64 0] 248)).cell? ((⟨w2.heap.size+1,0,none⟩:Addr).add j)=some y):=by
      have:=Ia (w2.alloc (Obj.cells #[.string e.name,.int .i64 (e.method:Int),.int .i64 (e.sum:Int),.int .i64 (e.packed:Int),.int .i64 (e.size:Int),.int .i64 0,.int .i64 (e.flags:Int),.int .i64 (e.ahead:Int),.int .i64 ((Am e).1:Int),.int .i64 ((Am e).2.1:Int),.int .i64 ((Am e).2.2:Int),.int .i64 0,.int .i64 0] 248)) (Vo (Qh e)) 248;rw[World.size_alloc]at this;exact this
     have b3:acc.length+1<=maxLen:=(by unfold maxLen;omega);have b4:(acc.length+1)*112<=140737488355328:=(by omega);have hro3:=(hro2.alloc (Obj.cells #[.string e.name,.int .i64 (e.method:Int),.int .i64 (e.sum:Int),.int .i64 (e.packed:Int),.int .i64 (e.size:Int),.int .i64 0,.int .i64 (e.flags:Int),.int .i64 (e.ahead:Int),.int .i64 ((Am e).1:Int),.int .i64 ((Am e).2.1:Int),.int .i64 ((Am e).2.2:Int),.int .i64 0,.int .i64 0] 248)).alloc (Obj.cells #[.string e.name,.int .i64 (e.method:Int),.int .i64 (e.sum:Int),.int .i64 (e.packed:Int),.int .i64 (e.size:Int),.int .i64 0,.int .i64 (e.flags:Int),.int .i64 (e.ahead:Int),.int .i64 ((Am e).1:Int),.int .i64 ((Am e).2.1:Int),.int .i64 ((Am e).2.2:Int),.int .i64 0,.int .i64 0] 248);clear hx HX' hr';revert HQ HN hok hro3;obtain⟨f1,hf1⟩:∃f,f=(Am e).1:=⟨_,rfl⟩;obtain⟨f2,hf2⟩:∃f,f=(Am e).2.1:=⟨_,rfl⟩;obtain⟨f3,hf3⟩:∃f,f=(Am e).2.2:=⟨_,rfl⟩;rw[<-hf1,<-hf2,<-hf3];clear hf1 hf2 hf3;intro hok HN HQ hro3;go_wp2_with (at_builtin;refine wpList_append_own _ rfl _ _ 193 rfl (w1.heap.size+1) 248 i0 (.agg #[.string ⟨#[]⟩,.int .i64 0,.int .i64 0,.int .i64 0,.int .i64 0,.int .i64 0,.int .i64 0,.int .i64 0,.int .i64 0,.int .i64 0,.int .i64 0,.int .i64 0,.int .i64 0]) 13 112 Tryz.underlying193 hi hz0 hz1 hz2 rfl (by decide) _ _ _ rfl hro3 ⟨w2.heap.size+1,0,none⟩ 1 1 (Vo (Qh e)) rfl rfl HQ.out (by simp[Vo,zQ,Qh,Value.oneCell']) b3 b4 (by simp;omega) ?_;intro v' w3 hown' hgrow hnil);have hrowB:∀q,u8.ownBlock=some q->w1.heap.size+1<=q:=fun q hq=>(hro2.lt q hq).1;have TB:Touch (fun q=>u8.ownBlock=some q) w2 w3:=(((Touch.refl (fun q=>u8.ownBlock=some q) w2).alloc _).alloc _).grown hgrow (fun q hq=>hq);have hsz3:=TB.size;go_roundw
     case rel=>
      refine⟨k+1,q,acc++[e],by omega,by simp;omega,by go_num,rfl,?_,?_,?_,by omega,by omega,HN,?_,by omega⟩;.rw[mZ,List.length_append];exact hown'
      .refine hC2.keep TB (fun e=>?_);have:=hrowB _ e;omega
      .refine hB2.keep TB (fun e=>?_);have:=hrowB _ e;omega
      exact((T2.alloc _).alloc _).Fa hgrow (fun q hq=>by have:=hrowB q hq;omega)
     case measure=>simp[intOf];omega
    have hx:=HX'.out;rw[if_neg hfa]at hx;have FIN:Hid (∀w',Em w.heap.size R (.returned (.tuple #[.slice none 0 0,.int .i64 (Aw e:Int)])) w'):=HFB.out _ hx;rw[if_neg hfa]at hr';obtain⟨nm,x1,x2,x3,x4,x5,x6,x7,x8,x9,x10,x11,x12,rfl⟩:=hr';have hfa':¬(Aw e:Int)=0:=(by omega);clear HX' hx HFB;generalize Aw e=fe at hfa hfa' FIN ⊢;go_wp2;go_ret2;exact⟨T2.alloc _,FIN.out _⟩
  obtain rfl:cn=k:=by omega
  have hx:=HK.out;rw[Nat.sub_self]at hx;have hx':Rs=if p=st then .ok acc else .error 5:=hx
  by_cases hpe:p=st;.exfalso;rw[if_pos hpe]at hx';rw[hRe]at hx';cases hx'
  rw[if_neg hpe]at hx';have FIN:Hid (∀w',Em w.heap.size R (.returned (.tuple #[.slice none 0 0,.int .i64 5])) w'):=HFB.out 5 hx';have g1:((p:Int) != (st:Int))=true:=by simp;omega
  have g2:¬(p:Int)=(st:Int):=by omega
  clear hx hx' HK hro HFB;go_wp2;go_ret2;exact⟨ht,FIN.out _⟩
theorem Qe1(w:World)(a b c:Int)(i:Nat)(v:Value)(h:(#[.int .i64 a,.int .i64 b,.int .i64 c]:Array Value)[i]?=some v):(part 3 #[.int .i64 a,.int .i64 b,.int .i64 c] i).run Tryz.prog w=.ok v w:=by
 simp[part,h]
theorem oP(w:World)(a b c x y z:Int):(Op.equalIn 10000 246 (.agg #[.int .i64 a,.int .i64 b,.int .i64 c]) (.agg #[.int .i64 x,.int .i64 y,.int .i64 z])).run Tryz.prog w=.ok ((a==x)&&((b==y)&&(c==z))) w:=by
 show(Op.equalIn (9999+1) _ _ _).run _ _=_;rw[Op.equalIn];simp only[Sem.run_bind,run_underlying Tryz.underlying246,Result.andThen_ok];have hsz:(sizeOf 3).run Tryz.prog w=.ok 1 w:=by
  obtain⟨i0,hi,hz0,hz1,hz2⟩:=info_parts Tryz.Qw;simp[sizeOf,typeInfo,hi,hz1]
 have q0:=fun(a b c:Int)=>Qe1 w a b c 0 (.int .i64 a) rfl;have q1:=fun(a b c:Int)=>Qe1 w a b c 1 (.int .i64 b) rfl;have q2:=fun(a b c:Int)=>Qe1 w a b c 2 (.int .i64 c) rfl;have qe:=fun(a b:Int)=>run_equalIn_int (P:=Tryz.prog) w 9998 3 .i64 .i64 a b Tryz.underlying3;rw[hsz];simp only[Result.andThen_ok,Std.Legacy.Range.forIn_eq_forIn_range',Std.Legacy.Range.size,Nat.sub_zero,Nat.add_one_sub_one,Nat.div_one,Nat.mul_one,List.range',List.forIn_cons,List.forIn_nil,Sem.run_bind,q0,qe];by_cases h0:a=x
 .have h0':(a==x)=true:=by simpa using h0
  by_cases h1:b=y
  .have h1':(b==y)=true:=by simpa using h1
   by_cases h2:c=z
   .have h2':(c==z)=true:=(by simpa using h2);simp[h0',h1',h2',q1,q2,qe,Sem.run_bind,Sem.run_pure]
   have h2':(c==z)=false:=by simpa using h2
   simp[h0',h1',h2',q1,q2,qe,Sem.run_bind,Sem.run_pure]
  have h1':(b==y)=false:=by simpa using h1
  simp[h0',h1',q1,q2,qe,Sem.run_bind,Sem.run_pure]
 have h0':(a==x)=false:=by simpa using h0
 simp[h0',q1,q2,qe,Sem.run_bind,Sem.run_pure]
end Go.Proofs.YtmhlkdlcpicekaaGreatDoor
