/- Joined. -/
import Derived.Test.YtmhlkdlcpicekaaGreatDoorJ14
import Derived.Test.YtmhlkdlcpicekaaGreatDoorJ15
set_option linter.unusedSimpArgs false
set_option linter.unusedVariables false
set_option maxRecDepth 100000
set_option maxHeartbeats 20000000
namespace Go.Proofs.YtmhlkdlcpicekaaGreatDoor
open Go.RowKit Go.Shelf Go.Lib
def Yx(d:Dir):Bool:=decide (d.place<=d.stop)&&decide (d.size=d.stop-d.place)
theorem pY(w:World)(d:Dir)(h1:d.stop<=140737488355328)(h2:d.place<=9223372036854775807): Calls Tryz.prog 43 #[.agg #[.int .i64 (d.count:Int),.int .i64 (d.size:Int),.int .i64 (d.place:Int),.int .i64 (d.stop:Int)]] w fun r w'=>r=.returned (.bool (Yx d))/\Touch (fun _=>False) w w':=by
 have T:=(Touch.refl (fun _=>False) w).alloc (Obj.cells #[.int .i64 (d.count:Int),.int .i64 (d.size:Int),.int .i64 (d.place:Int),.int .i64 (d.stop:Int)] 120);go_enter Tryz.func43,Tryz.ntmps43;by_cases h3:d.place<=d.stop
 .have h3':(d.place:Int)<=(d.stop:Int):=by omega
  have hw:IntKind.i64.wrap ((d.stop:Int)-(d.place:Int))=(d.stop:Int)-(d.place:Int):=by simp[IntKind.wrap,IntKind.bits,IntKind.signed];omega
  have FIN:Hid (((d.size:Int)==(d.stop:Int)-(d.place:Int))=Yx d):=by
   unfold Hid Yx;rw[decide_eq_true h3,Bool.true_and];exact decide_eq_decide.2 (by omega)
  go_wp2;go_ret;exact⟨congrArg (fun b=>Ending.returned (.bool b)) FIN.out,T⟩
 have h3':¬(d.place:Int)<=(d.stop:Int):=by omega
 have FIN:Hid (false=Yx d):=by
  unfold Hid Yx;rw[decide_eq_false h3,Bool.false_and]
 go_wp2;go_ret;exact⟨congrArg (fun b=>Ending.returned (.bool b)) FIN.out,T⟩
def Ua(e:Eo):Ai:=⟨e,0,0⟩
theorem Qb6(l:List Eo):(l.map Ua).map (·.Af)=l:=by rw[List.map_map];exact List.map_id _
def Lm(base:Nat)(R:Except Nat (List Eo))(r:Ending)(w':World):Prop:=match R with
 |.error k=>r=.returned (.tuple #[.slice none 0 0,.int .i64 (k:Int)])
 |.ok l=>∃a cap g,r=.returned (.tuple #[.slice a (l.map Ua).length cap,.int .i64 0])/\(0<(l.map Ua).length->a=some ⟨g,0,none⟩)/\base<=g/\(0<(l.map Ua).length->Iq w' g (l.map Ua)/\∀i,w'.frozen? ⟨g,i,none⟩=false)
theorem Gs(base:Nat)(R:Except Nat (List Ai))(k:Nat)(h:R=.error k)(hk:0<k)(w':World):Hq base R (.returned (.tuple #[.slice none 0 0,.int .i64 (k:Int)])) w':=by
 rw[h];exact⟨rfl,hk⟩
theorem Qgr(w:World)(s:ByteArray)(qe qn qb:Int)(hn:-9223372036854775808<=qn/\qn<=9223372036854775807)(hb:-9223372036854775808<=qb/\qb<=9223372036854775807)(hs:s.size<=2147483648)(hT:∀d,Ey s=.ok d->d.place<=d.stop->d.size=d.stop-d.place->∀W,Calls Tryz.prog 44 #[.agg #[.int .i64 (d.count:Int),.int .i64 (d.size:Int),.int .i64 (d.place:Int),.int .i64 (d.stop:Int)],.string s] W fun r w'=>Touch (fun _=>False) W w'/\Lm W.heap.size (Ce s d.stop d.count d.place []) r w'): Calls Tryz.prog 20 #[.string s,.agg #[.int .i64 qe,.int .i64 qn,.int .i64 qb]] w fun r w'=>Touch (fun _=>False) w w'/\Hq w.heap.size (listOf s qe qn qb) r w':=by
 have T0:Touch (fun _=>False) w (w.alloc (Obj.cells #[.int .i64 qe,.int .i64 qn,.int .i64 qb] 35)):=(Touch.refl _ w).alloc _;have bq0:=heap_alloc_new w (Obj.cells #[.int .i64 qe,.int .i64 qn,.int .i64 qb] 35);have HT:Hid (∀d,Ey s=.ok d->d.place<=d.stop->d.size=d.stop-d.place->∀W,Calls Tryz.prog 44 #[.agg #[.int .i64 (d.count:Int),.int .i64 (d.size:Int),.int .i64 (d.place:Int),.int .i64 (d.stop:Int)],.string s] W fun r w'=>Touch (fun _=>False) W w'/\Lm W.heap.size (Ce s d.stop d.count d.place []) r w'):=hT;have HD:Hid (∀W,Calls Tryz.prog 42 #[.string s] W fun e w'=>e=.returned (zH (Ey s))/\Touch (fun _=>False) W w'):=fun W=>gB W s (by omega);obtain⟨R,hR⟩:∃R,R=listOf s qe qn qb:=⟨_,rfl⟩;rw[<-hR];unfold listOf at hR;cases hd:Ey s with
 |error k=>
  rw[hd]at HD hR;have FIN:Hid (∀w',Hq w.heap.size R (.returned (.tuple #[.slice none 0 0,.int .i64 (k:Int)])) w'):=Gs _ _ k hR (Xg s k hd);have hk:=Xg s k hd;have hk':¬(k:Int)=0:=by omega
  clear HT hT hR hd;go_enter Tryz.func20,Tryz.ntmps20;go_wp2_with fail;refine(HD.out _).mono ?_;rintro e w1 ⟨he,t1⟩;obtain rfl:=(show e=.returned (.tuple #[.agg #[.int .i64 0,.int .i64 0,.int .i64 0,.int .i64 0],.int .i64 (k:Int)]) from he);have T1:=T0.trans t1;clear he t1;go_wp2;go_ret2;exact⟨T1.alloc _,FIN.out _⟩
 |ok d=>
  rw[hd]at HD hR;obtain⟨d1,d2,d3,d4⟩:=Og s d hd;have HT':=HT.out d hd;simp only at hR;clear HT hT;go_enter Tryz.func20,Tryz.ntmps20;go_wp2_with fail;refine(HD.out _).mono ?_;rintro e w1 ⟨he,t1⟩;obtain rfl:=(show e=.returned (.tuple #[.agg #[.int .i64 (d.count:Int),.int .i64 (d.size:Int),.int .i64 (d.place:Int),.int .i64 (d.stop:Int)],.int .i64 0]) from he);have T1:=T0.trans t1;have bq1:=(t1.block _ (by simp) (fun e=>e)).trans bq0;have q0:w1.cell? ⟨w.heap.size,0,none⟩=some (.int .i64 qe):=by rw[Ac bq1 0];rfl
  have lq1:w.heap.size<w1.heap.size:=(Array.getElem?_eq_some_iff.1 bq1).1;clear he t1 HD;by_cases hq:qe<(d.count:Int)
  .rw[if_pos hq]at hR;have FIN:Hid (∀w',Hq w.heap.size R (.returned (.tuple #[.slice none 0 0,.int .i64 13])) w'):=Gs _ _ 13 hR (by omega);clear HT' hR hd;go_wp2;go_ret2;exact⟨T1.alloc _,FIN.out _⟩
  rw[if_neg hq]at hR;have HLs:Hid (∀W,Calls Tryz.prog 43 #[.agg #[.int .i64 (d.count:Int),.int .i64 (d.size:Int),.int .i64 (d.place:Int),.int .i64 (d.stop:Int)]] W fun r w'=>r=.returned (.bool (Yx d))/\Touch (fun _=>False) W w'):=fun W=>pY W d (by omega) d4;have HR:Hid (R=if¬(d.place<=d.stop/\d.size=d.stop-d.place)then .error 5 else match Ce s d.stop d.count d.place []with
   |.error e=>.error e
   |.ok l=>
    if qn<(Qi l:Int)then .error 13
    else if Bl (fun a b=>Dj a.name b.name) l then .error 8
    else match spansOf s d.place l with
     |none=>.error 9
     |some r=>
      if Bl Ot r then .error 10
      else if qb<(Jp l:Int)then .error 13
      else .ok r):=hR
  have HTT:Hid (d.place<=d.stop->d.size=d.stop-d.place->∀W,Calls Tryz.prog 44 #[.agg #[.int .i64 (d.count:Int),.int .i64 (d.size:Int),.int .i64 (d.place:Int),.int .i64 (d.stop:Int)],.string s] W fun r w'=>Touch (fun _=>False) W w'/\Lm W.heap.size (Ce s d.stop d.count d.place []) r w'):=HT';have HDD:Hid (d.stop<=s.size):=d1;clear hR HT' hd d1 d2 d3 d4;go_wp2_with fail;refine(HLs.out _).mono ?_;rintro e w2 ⟨rfl,t2⟩;have b1:=heap_alloc_new w1 (Obj.cells #[.int .i64 (d.count:Int),.int .i64 (d.size:Int),.int .i64 (d.place:Int),.int .i64 (d.stop:Int)] 120);have bd2:=(t2.block _ (by simp) (fun e=>e)).trans b1;have bq2:=(t2.block _ (by have:=(Array.getElem?_eq_some_iff.1 bq1).1;simp;omega) (fun e=>e)).trans ((Below.heap_alloc _ _ _ (Array.getElem?_eq_some_iff.1 bq1).1).trans bq1);have T2:=(T1.alloc _).trans t2;clear t2 b1 HLs q0 bq1 bq0 T0;cases hlb:Yx d with
  |false=>
   have hr:R=.error 5:=by
    rw[HR.out,if_pos];intro hh;unfold Yx at hlb;rw[decide_eq_true hh.1,decide_eq_true hh.2]at hlb;cases hlb
   have FIN:Hid (∀w',Hq w.heap.size R (.returned (.tuple #[.slice none 0 0,.int .i64 5])) w'):=Gs _ _ 5 hr (by omega);clear HR HTT hr;go_wp2;go_ret2;exact⟨T2,FIN.out _⟩
  |true=>
   obtain⟨l1,l2⟩:d.place<=d.stop/\d.size=d.stop-d.place:=by
    unfold Yx at hlb;simpa using hlb
   have HTA:=HTT.out l1 l2;have HTB:Hid (∀W,Calls Tryz.prog 44 #[.agg #[.int .i64 (d.count:Int),.int .i64 (d.size:Int),.int .i64 (d.place:Int),.int .i64 (d.stop:Int)],.string s] W fun r w'=>Touch (fun _=>False) W w'/\Lm W.heap.size (Ce s d.stop d.count d.place []) r w'):=HTA;have hr:=HR.out;rw[if_neg (fun h=>h ⟨l1,l2⟩)]at hr;have hpl:d.place<=s.size:=by have:=HDD.out;omega
   have HEL:Hid (d.place<=d.stop/\d.stop<=s.size):=⟨l1,HDD.out⟩;have HR2:Hid _:=hr;have e0:w2.cell? ⟨w1.heap.size,0,none⟩=some (.int .i64 (d.count:Int)):=by rw[Ac bd2 0];rfl
   have e1:w2.cell? ⟨w1.heap.size,1,none⟩=some (.int .i64 (d.size:Int)):=by rw[Ac bd2 1];rfl
   have e2:w2.cell? ⟨w1.heap.size,2,none⟩=some (.int .i64 (d.place:Int)):=by rw[Ac bd2 2];rfl
   have e3:w2.cell? ⟨w1.heap.size,3,none⟩=some (.int .i64 (d.stop:Int)):=by rw[Ac bd2 3];rfl
   clear HTA HTT HR hlb l2 hr HDD l1;go_wp2_with fail;refine(HTB.out _).mono ?_;rintro e w3 ⟨t3,h3⟩;have T3:=T2.trans t3;have hz2:=T2.size;have bd3:=(t3.block _ (Array.getElem?_eq_some_iff.1 bd2).1 (fun e=>e)).trans bd2;have bq3:=(t3.block _ (Array.getElem?_eq_some_iff.1 bq2).1 (fun e=>e)).trans bq2;have lq:=(Array.getElem?_eq_some_iff.1 bq2).1;have ld:=(Array.getElem?_eq_some_iff.1 bd2).1;clear HTB e0 e1 e2 e3 t3 bd2 bq2;cases he:Ce s d.stop d.count d.place []with
   |error k=>
    rw[he]at h3 HR2;obtain rfl:=(show e=.returned (.tuple #[.slice none 0 0,.int .i64 (k:Int)]) from h3);have hk:=Ya _ _ _ _ _ _ he;have hk':¬(k:Int)=0:=(by omega);have FIN:Hid (∀w',Hq w.heap.size R (.returned (.tuple #[.slice none 0 0,.int .i64 (k:Int)])) w'):=Gs _ _ k HR2.out hk;clear HR2 he h3;go_wp2;go_ret2;exact⟨T3,FIN.out _⟩
   |ok l=>
    rw[he]at h3 HR2;obtain⟨a,cap,g,rfl,ha,hbase,hla⟩:=(show∃a cap g,e=.returned (.tuple #[.slice a (l.map Ua).length cap,.int .i64 0])/\(0<(l.map Ua).length->a=some ⟨g,0,none⟩)/\w2.heap.size<=g/\(0<(l.map Ua).length->Iq w3 g (l.map Ua)/\∀i,w3.frozen? ⟨g,i,none⟩=false) from h3);obtain⟨f1,f2,f3⟩:=Pq s _ _ _ _ _ he;simp only[List.length_nil]at f2;have hEl:=HEL.out;obtain⟨L,hL⟩:∃L,L=l.map Ua:=⟨_,rfl⟩;have hLe:L.map (·.Af)=l:=(by rw[hL,Qb6]);have hLl:L.length=l.length:=(by rw[hL,List.length_map]);have g1:∀x∈L,Na x.Af/\x.Af.name.size<=60:=by
     intro x hx;have:x.Af∈l:=(by rw[<-hLe];exact List.mem_map_of_mem hx);rcases f3 _ this with h|⟨h1,h2⟩;.cases h
     exact⟨h1,(Qq _ (Eb _ h2)).1⟩
    have hcnt:L.length<=50000000:=(by omega);rw[<-hL]at ha hla;rw[<-hL];rw[<-hLe]at HR2;clear h3 f1 f2 f3 he hEl hL hLe hLl;have HLA:Hid (0<L.length->Iq w3 g L/\∀i,w3.frozen? ⟨g,i,none⟩=false):=hla;have HA:Hid (0<L.length->a=some ⟨g,0,none⟩):=ha;have HG:Hid (∀x∈L,Na x.Af/\x.Af.name.size<=60):=g1;have HWN:Hid (∀W,Touch (fun _=>False) w3 W->Calls Tryz.prog 45 #[.int .i64 qn,.slice a L.length cap,.func (.func 46) #[] #[]] W fun r w'=>r=.returned (.bool (decide ((sumTo L (fun e=>e.name.size) L.length:Int)<=qn)))/\Touch (fun _=>False) W w') :=fun W tW=>Qb5 W qn hn a g cap L ha (fun h=>(hla h).1.keep tW (fun e=>e)) (by omega) (fun x hx=>(g1 x hx).1);have HTW:Hid (∀W,Touch (fun _=>False) w3 W->Calls Tryz.prog 47 #[.slice a L.length cap] W fun r w'=>r=.returned (.bool (Md L (fun _=>0)))/\Touch (fun _=>False) W w') :=fun W tW=>yG W a g cap L ha (fun h=>(hla h).1.keep tW (fun e=>e)) (by omega) (fun x hx=>(g1 x hx).2);have HFS:Hid (∀W,Touch (fun _=>False) w3 W->Calls Tryz.prog 48 #[.slice a L.length cap,.string (s.extract 0 d.place)] W fun r w'=>r=.returned (.bool (L.all fun x=>Kr d.place s x.Af))/\((L.all fun x=>Kr d.place s x.Af)=true->0<L.length->Iq w' g (L.map (lI d.place s)))/\Touch (fun k=>k=g) W w') :=fun W tW=>sV W a g cap L s d.place ha (fun h=>⟨(hla h).1.keep tW (fun e=>e),fun i=>(tW.frozen (p:=⟨g,i,none⟩) (hla h).1.lt (fun e=>e)).trans ((hla h).2 i)⟩) (by omega) (fun x hx=>(g1 x hx).1) hpl (by omega);clear ha hla g1;have k1:w3.cell? ⟨w.heap.size,1,none⟩=some (.int .i64 qn):=(by rw[Ac bq3 1];rfl);go_wp2_with fail;refine(HWN.out _ (Touch.refl _ _)).mono ?_;rintro e w4 ⟨rfl,t4⟩;have T4:=T3.trans t4;have bd4:=(t4.block _ (Array.getElem?_eq_some_iff.1 bd3).1 (fun e=>e)).trans bd3;have bq4:=(t4.block _ (Array.getElem?_eq_some_iff.1 bq3).1 (fun e=>e)).trans bq3;clear k1 HWN;by_cases hwn:(sumTo L (fun e=>e.name.size) L.length:Int)<=qn
    case neg=>
     have hr:R=.error 13:=by
      rw[HR2.out];rw[if_pos];unfold Qi;rw[<-Xn];omega
     have FIN:Hid (∀w',Hq w.heap.size R (.returned (.tuple #[.slice none 0 0,.int .i64 13])) w'):=Gs _ _ 13 hr (by omega);rw[decide_eq_false hwn];clear HR2 hr;go_wp2;go_ret2;exact⟨T4,FIN.out _⟩
    rw[decide_eq_true hwn];have hr3:=HR2.out;rw[if_neg (by unfold Qi;rw[<-Xn];omega),<-Qfa]at hr3;have HR3:Hid _:=hr3;clear hr3 HR2 hwn;go_wp2_with fail;refine(HTW.out _ t4).mono ?_;rintro e w5 ⟨rfl,t5'⟩;have t5:=t4.trans t5';have T5:=T3.trans t5;have bd5:=(t5'.block _ (Array.getElem?_eq_some_iff.1 bd4).1 (fun e=>e)).trans bd4;have bq5:=(t5'.block _ (Array.getElem?_eq_some_iff.1 bq4).1 (fun e=>e)).trans bq4;clear t5' t4 HTW bd4 bq4;cases htw:Md L (fun _=>0)with
    |true=>
     have hr:R=.error 8:=(by rw[HR3.out,htw];rfl);have FIN:Hid (∀w',Hq w.heap.size R (.returned (.tuple #[.slice none 0 0,.int .i64 8])) w'):=Gs _ _ 8 hr (by omega);clear HR3 hr;go_wp2;go_ret2;exact⟨T5,FIN.out _⟩
    |false=>
     have hr4:=HR3.out;rw[htw,if_neg (by simp),kR s d.place hpl L]at hr4;have HR4:Hid _:=hr4;clear hr4 HR3 htw;have k2:w5.cell? ⟨w1.heap.size,2,none⟩=some (.int .i64 (d.place:Int)):=(by rw[Ac bd5 2];rfl);have hpi:(d.place:Int)<=(s.size:Int):=(by omega);go_wp2_with fail;refine(HFS.out _ t5).mono ?_;rintro e w6 ⟨rfl,hls,t6⟩;have hwg:w.heap.size<=g:=(by omega);have T6:=T5.Hf t6 hwg;have bq6:=(t6.block _ (Array.getElem?_eq_some_iff.1 bq5).1 (by show¬w.heap.size=g;omega)).trans bq5;have l6:=(Array.getElem?_eq_some_iff.1 bq6).1;clear HFS k2 bd5 bq5 bd3 bq3 t5 t6;cases hall:(L.all fun x=>Kr d.place s x.Af)with
     |false=>
      have hr:R=.error 9:=(by rw[HR4.out,hall];rfl);have FIN:Hid (∀w',Hq w.heap.size R (.returned (.tuple #[.slice none 0 0,.int .i64 9])) w'):=Gs _ _ 9 hr (by omega);clear HR4 hr hls;go_wp2;go_ret2;exact⟨T6,FIN.out _⟩
     |true=>
      have hr5:=HR4.out;rw[hall]at hr5;have hr6:R=if Bl Ot (L.map (lI d.place s))then .error 10 else if qb<(Jp (L.map (·.Af)):Int)then .error 13 else .ok (L.map (lI d.place s)):=hr5
      obtain⟨M,hM⟩:∃M,M=L.map (lI d.place s):=⟨_,rfl⟩;have hMl:L.length=M.length:=(by rw[hM,List.length_map]);have hMe:M.map (·.Af)=L.map (·.Af):=(by rw[hM,List.map_map];rfl);have hMs:∀x∈M,Na x.Af/\x.Af.name.size<=60/\x.Af.ahead<x.stop:=by
       intro x hx;rw[hM,List.mem_map]at hx;obtain⟨y,hy,rfl⟩:=hx;have h1:=List.all_eq_true.1 hall y hy;have h2:=lV s d.place y.Af hpl;rw[if_pos h1]at h2;obtain⟨s1,s2,s3⟩:=nO _ _ _ _ _ h2;exact⟨(HG.out y hy).1,(HG.out y hy).2,by show y.Af.ahead<Ih d.place (jQ d.place s y.Af);omega⟩
      have hLM:=hls hall;have HA2:=HA.out;rw[<-hM,<-hMe,<-Qax]at hr6;rw[<-hM,hMl]at hLM;rw[hMl]at HA2 hcnt;have HAO:Hid (∀W,Touch (fun _=>False) w6 W->Calls Tryz.prog 49 #[.slice a M.length cap] W fun r w'=>r=.returned (.bool (Bl Tc (M.map Hu)))/\Touch (fun _=>False) W w') :=fun W tW=>pV W a g cap M HA2 (fun h=>(hLM h).keep tW (fun e=>e)) (by omega) (fun x hx=>(hMs x hx).2.2);have HWF:Hid (∀W,Touch (fun _=>False) w6 W->Calls Tryz.prog 45 #[.int .i64 qb,.slice a M.length cap,.func (.func 50) #[] #[]] W fun r w'=>r=.returned (.bool (decide ((sumTo M (fun e=>e.size) M.length:Int)<=qb)))/\Touch (fun _=>False) W w') :=fun W tW=>Qc5 W qb hb a g cap M HA2 (fun h=>(hLM h).keep tW (fun e=>e)) (by omega) (fun x hx=>(hMs x hx).1);have HEO:Hid (∀W,Touch (fun _=>False) w6 W->Calls Tryz.prog 51 #[.slice a M.length cap] W fun r w'=>∃v,r=.returned v/\v≠.slice none 0 0/\w'.ownsRow W.heap.size 134 6 v M.length (kV M)/\Touch (fun _=>False) W w') :=fun W tW=>vU W a g cap M HA2 (fun h=>(hLM h).keep tW (fun e=>e)) (by omega) (fun x hx=>by have:=(hMs x hx).2.1;omega);rw[hMl];have HR6:Hid (R=if Bl Tc (M.map Hu)then .error 10 else if qb<(Jp (M.map (·.Af)):Int)then .error 13 else .ok M):=hr6;clear HR4 hr5 hr6 hM hMl hMe hMs hLM HA2 hall hls HG HA HLA;go_wp2_with fail;refine(HAO.out _ (Touch.refl _ _)).mono ?_;rintro e w7 ⟨rfl,t7⟩;have T7:=T6.trans t7;have bq7:=(t7.block _ l6 (fun e=>e)).trans bq6;clear HAO bq6;cases hov:Bl Tc (M.map Hu)with
      |true=>
       have hr:R=.error 10:=(by rw[HR6.out,hov];rfl);have FIN:Hid (∀w',Hq w.heap.size R (.returned (.tuple #[.slice none 0 0,.int .i64 10])) w'):=Gs _ _ 10 hr (by omega);clear HR6 hr;go_wp2;go_ret2;exact⟨T7,FIN.out _⟩
      |false=>
       have hr7:=HR6.out;rw[hov,if_neg (by simp)]at hr7;have HR7:Hid (R=if qb<(Jp (M.map (·.Af)):Int)then .error 13 else .ok M):=hr7;have k3:w7.cell? ⟨w.heap.size,2,none⟩=some (.int .i64 qb):=(by rw[Ac bq7 2];rfl);clear HR6 hr7 hov;go_wp2_with fail;refine(HWF.out _ t7).mono ?_;rintro e w8 ⟨rfl,t8'⟩;have t8:=t7.trans t8';have T8:=T6.trans t8;clear HWF k3 bq7 t7 t8';by_cases hwf:(sumTo M (fun e=>e.size) M.length:Int)<=qb
       case neg=>
        have hr:R=.error 13:=by
         rw[HR7.out,if_pos];unfold Jp;rw[<-Xn];omega
        have FIN:Hid (∀w',Hq w.heap.size R (.returned (.tuple #[.slice none 0 0,.int .i64 13])) w'):=Gs _ _ 13 hr (by omega);rw[decide_eq_false hwf];clear HR7 hr;go_wp2;go_ret2;exact⟨T8,FIN.out _⟩
       rw[decide_eq_true hwf];have HR8:Hid (R=.ok M):=by
        unfold Hid;rw[HR7.out,if_neg];unfold Jp;rw[<-Xn];omega
       clear HR7 hwf;go_wp2_with fail;refine(HEO.out _ t8).mono ?_;rintro e w9 ⟨v,rfl,hv,ho9,t9⟩;have T9:=T8.trans t9;have hz8:=T8.size;have FIN:Hid (Hq w.heap.size R (.returned (.tuple #[v,.int .i64 0])) w9):=by
        unfold Hid;rw[HR8.out];obtain⟨h1,⟨h2,_⟩|⟨g',cap',cur,rfl,hb',hg,hrest⟩⟩:=ho9;.exact absurd h2 hv
        exact⟨g',cap',rfl,h1,.inr ⟨g',cap',cur,rfl,by omega,hg,hrest⟩⟩
       clear HEO HR8 ho9 hv;go_wp2;go_ret2;exact⟨T9,FIN.out⟩
def Zu(c:Nat->Nat)(k v:Nat):Nat->Nat:=fun j=>if j=k then v else c j
def mF(s:ByteArray)(e:Nat):Nat->Nat->Nat->(Nat->Nat)->Option (Nat->Nat)
 |0,_,_,cur=>some cur
 |f+1,k,c,cur=>(meant s e c (cur k)).bind fun x=>mF s e f (k+1) x.2 (Zu cur k x.1)
theorem Qht(s:ByteArray)(c e z k a:Nat)(cur:Nat->Nat)(h0:cur 0=z)(h1:cur 1=k)(h2:cur 2=a):Mc s c e z k a=(mF s e 3 0 c cur).map fun d=>(d 0,d 1,d 2):=by
 unfold Mc;simp only[mF];rw[h0];cases meant s e c z with
 |none=>rfl
 |some x=>
  simp only[Option.bind_some];rw[show Zu cur 0 x.1 1=k by simp[Zu,h1]];cases meant s e x.2 k with
  |none=>rfl
  |some y=>
   simp only[Option.bind_some];rw[show Zu (Zu cur 0 x.1) 1 y.1 2=a by simp[Zu,h2]];cases meant s e y.2 a with
   |none=>rfl
   |some u=>simp[Zu]
def Oz(k:Nat):Nat:=if k=0 then 4 else if k=1 then 3 else 11
theorem dA(s:ByteArray)(E:Nat):∀(f p:Nat) (fo r:Option (Nat×Nat)),Bg s E f p fo=some r->(fo.getD (0,0)).1<=(fo.getD (0,0)).2/\(fo.getD (0,0)).2<=E->(r.getD (0,0)).1<=(r.getD (0,0)).2/\(r.getD (0,0)).2<=E
 |0,p,fo,r,h,ho=>by
  unfold Bg at h;split at h;.cases h
  cases h;exact ho
 |f+1,p,fo,r,h,ho=>by
  unfold Bg at h;split at h
  .split at h
   .rename_i h2;refine dA s E f _ _ r h ?_;split;.exact⟨by simp,h2.1⟩
    exact ho
   cases h
  cases h;exact ho
structure Nums (w:World) (lb:Nat) (cur:Nat->Nat):Prop where
 cell:∀j,j<3->w.cell? ⟨lb,Oz j,none⟩=some (.int .i64 (cur j:Int))
 frozen:∀j,w.frozen? ⟨lb,j,none⟩=false
theorem Nums.keep{w w':World}{S:Nat->Prop}{lb:Nat}{cur:Nat->Nat}(h:Nums w lb cur)(ht:Touch S w w')(hs:¬S lb):Nums w' lb cur:=by
 have hl:=World.block_lt_of_cell? w _ (h.cell 0 (by omega));exact⟨fun j hj=>ht.at (h.cell j hj) hs,fun j=>(ht.frozen (p:=⟨lb,j,none⟩) hl hs).trans (h.frozen j)⟩
theorem Qa9{i j:Nat}(hi:i<3)(hj:j<3)(h:Oz i=Oz j):i=j:=by
 unfold Oz at h;rcases(by omega:i=0\/i=1\/i=2)with rfl|rfl|rfl<;>rcases(by omega:j=0\/j=1\/j=2)with rfl|rfl|rfl<;>simp at h ⊢
theorem Nums.set{w:World}{lb:Nat}{cur:Nat->Nat}(h:Nums w lb cur){k:Nat}(hk:k<3)(v:Nat):Nums (w.setCell ⟨lb,Oz k,none⟩ (.int .i64 (v:Int))) lb (Zu cur k v):=by
 refine⟨fun j hj=>?_,fun j=>by rw[World.frozen?_setCell];exact h.frozen j⟩;rw[Ad];unfold Zu;by_cases e:j=k;.subst e;rw[if_pos ⟨rfl,rfl⟩,h.cell j hj,if_pos rfl];rfl
 rw[if_neg (fun hh=>e (Qa9 hj hk hh.2.symm)),h.cell j hj,if_neg e]
theorem uK(w:World)(s:ByteArray)(p0 E f0 lb nb:Nat)(cur:Nat->Nat)(hp:p0<=E)(hE:E<=s.size)(hs:s.size<=140737488355328)(hf:E-p0<=f0)(hN:Nums w lb cur)(hnb:∀j,j<3->w.cell? ⟨nb,j,none⟩=some (.pointer (some ⟨lb,Oz j,none⟩)))(hne:nb≠lb): Calls Tryz.prog 140 #[.string (s.extract p0 E),.slice (some ⟨nb,0,none⟩) 3 3] w fun r w'=>
   r=.returned (.bool ((Bg s E f0 p0 none).bind fun fo=>mF s (fo.getD (0,0)).2 3 0 (fo.getD (0,0)).1 cur).isSome)
   /\ (∃d,Nums w' lb d/\(((Bg s E f0 p0 none).bind fun fo=>mF s (fo.getD (0,0)).2 3 0 (fo.getD (0,0)).1 cur)=none\/((Bg s E f0 p0 none).bind fun fo=>mF s (fo.getD (0,0)).2 3 0 (fo.getD (0,0)).1 cur)=some d))
   /\ (∀j,j≠4->j≠3->j≠11->w'.cell? ⟨lb,j,none⟩=w.cell? ⟨lb,j,none⟩)/\Touch (fun k=>k=lb) w w':=by
 have hl:=World.block_lt_of_cell? w _ (hN.cell 0 (by omega));have hln:=World.block_lt_of_cell? w _ (hnb 0 (by omega));obtain⟨R,hR⟩:∃R,R=(Bg s E f0 p0 none).bind fun fo=>mF s (fo.getD (0,0)).2 3 0 (fo.getD (0,0)).1 cur:=⟨_,rfl⟩;have FIN:Hid (∀(b:Bool) (W:World),b=R.isSome->(∃d,Nums W lb d/\(R=none\/R=some d))->(∀j,j≠4->j≠3->j≠11->W.cell? ⟨lb,j,none⟩=w.cell? ⟨lb,j,none⟩)->Touch (fun k=>k=lb) w W ->Ending.returned (.bool b)=Ending.returned (.bool ((Bg s E f0 p0 none).bind fun fo=>mF s (fo.getD (0,0)).2 3 0 (fo.getD (0,0)).1 cur).isSome) /\ (∃d,Nums W lb d/\(((Bg s E f0 p0 none).bind fun fo=>mF s (fo.getD (0,0)).2 3 0 (fo.getD (0,0)).1 cur)=none\/((Bg s E f0 p0 none).bind fun fo=>mF s (fo.getD (0,0)).2 3 0 (fo.getD (0,0)).1 cur)=some d)) /\ (∀j,j≠4->j≠3->j≠11->W.cell? ⟨lb,j,none⟩=w.cell? ⟨lb,j,none⟩)/\Touch (fun k=>k=lb) w W):=by
  intro b W h1 h2 h3 h4;rw[<-hR];exact⟨by rw[h1],h2,h3,h4⟩
 have HNB:Hid (∀j,j<3->w.cell? ⟨nb,j,none⟩=some (.pointer (some ⟨lb,Oz j,none⟩))):=hnb;have HR:Hid (R=(Bg s E f0 p0 none).bind fun fo=>mF s (fo.getD (0,0)).2 3 0 (fo.getD (0,0)).1 cur):=hR;clear hR hnb;go_enter Tryz.func140,Tryz.ntmps140;go_wp2_with fail;refine(gI w s p0 E f0 hp hE hs hf).mono ?_;rintro r w1 ⟨x,rfl,hx,t1⟩;have T1:Touch (fun k=>k=lb) w w1:=t1.mono (fun _ _ h=>h.elim);have N1:=hN.keep t1 (fun h=>h);have c1:∀j,j≠4->j≠3->j≠11->w1.cell? ⟨lb,j,none⟩=w.cell? ⟨lb,j,none⟩:=fun j _ _ _=>t1.cell (p:=⟨lb,j,none⟩) hl (fun h=>h);have b1:w1.heap[nb]?=w.heap[nb]?:=t1.block nb hln (fun h=>h);have hl1:lb<w1.heap.size:=by have:=t1.size;omega
 have hln1:nb<w1.heap.size:=by have:=t1.size;omega
 cases hg:Bg s E f0 p0 none with
 |none=>
  rw[hg]at HR;clear hx t1 hN;go_wp2;go_ret;exact FIN.out false _ (by rw[HR.out];rfl) ⟨cur,N1,.inl HR.out⟩ c1 T1
 |some fo=>
  rw[hg]at HR;obtain rfl:=hx fo hg;obtain⟨o1,o2⟩:=dA s E _ _ _ _ hg ⟨Nat.le_refl _,Nat.zero_le _⟩;have HR':Hid (R=mF s (fo.getD (0,0)).2 3 0 (fo.getD (0,0)).1 cur):=HR;unfold Df;revert o1 o2 HR';generalize (fo.getD (0,0)).1=c0;generalize (fo.getD (0,0)).2=e0;intro o1 o2 HR';have F0:=FR.Qce w1 s c0 e0 o1 (by omega) _ rfl;clear hx hg HR t1 hN;have T2:Touch (fun k=>k=lb) w (w1.alloc (.cells #[.string (s.extract c0 e0),.bool false] 175)):=T1.alloc _;have N2:=N1.keep ((Touch.refl (fun _=>False) w1).alloc (.cells #[.string (s.extract c0 e0),.bool false] 175)) (fun h=>h);have c2:∀j,j≠4->j≠3->j≠11->(w1.alloc (.cells #[.string (s.extract c0 e0),.bool false] 175)).cell? ⟨lb,j,none⟩=w.cell? ⟨lb,j,none⟩:=fun j h1 h2 h3=>(World.cell?_of_block (Below.heap_alloc _ _ _ hl1)).trans (c1 j h1 h2 h3);have b2:(w1.alloc (.cells #[.string (s.extract c0 e0),.bool false] 175)).heap[nb]?=w.heap[nb]?:=(Below.heap_alloc _ _ _ hln1).trans b1;have nl:lb≠w1.heap.size:=by omega
  have nl':w1.heap.size≠lb:=by omega
  have nn:nb≠w1.heap.size:=by omega
  have hz1:w.heap.size<=w1.heap.size:=T1.size;clear c1 b1 T1 N1;go_wp2;go_loopw [21] (fun i wr=>∃(k c:Nat) (cu:Nat->Nat),k<=3/\i=.int .i64 (k:Int)/\FR wr w1.heap.size s e0 (some c)/\Nums wr lb cu/\Hid (R=mF s e0 (3-k) k c cu)/\(∀j,j≠4->j≠3->j≠11->wr.cell? ⟨lb,j,none⟩=w.cell? ⟨lb,j,none⟩)/\wr.heap[nb]?=w.heap[nb]?/\Touch (fun k=>k=lb) w wr) (fun i wr=>3-(intOf i).toNat)
  case atStart=>exact⟨0,c0,cur,by omega,rfl,F0,N2,HR',c2,b2,T2⟩
  case round=>
   obtain⟨k,c,cu,hk,rfl,hF,hNu,HK,hc,hb,ht⟩:=hrel;have HC:Hid (∀j,j≠4->j≠3->j≠11->wr.cell? ⟨lb,j,none⟩=w.cell? ⟨lb,j,none⟩):=hc;have HBB:Hid (wr.heap[nb]?=w.heap[nb]?):=hb;clear hc hb F0 N2 c2 b2 T2 HR';by_cases hlt:k<3
   .have pk:wr.cell? ⟨nb,k,none⟩=some (.pointer (some ⟨lb,Oz k,none⟩)):=(World.cell?_of_block HBB.out).trans (HNB.out k hlt);have vk:=hNu.cell k hlt;have HX:Hid (R=(meant s e0 c (cu k)).bind fun x=>mF s e0 (3-(k+1)) (k+1) x.2 (Zu cu k x.1)):=by
     unfold Hid;rw[HK.out,show 3-k=(3-(k+1))+1 by omega];rfl
    have yk:(k:Int)<3:=(by omega);have fzk:=hNu.frozen (Oz k);have HO:Hid (Oz k=4\/Oz k=3\/Oz k=11):=by
     unfold Hid Oz;rcases(by omega:k=0\/k=1\/k=2)with rfl|rfl|rfl<;>simp
    have HSET:Hid (∀v:Nat,∀W,Nums W lb cu->Nums (W.setCell ⟨lb,Oz k,none⟩ (.int .i64 (v:Int))) lb (Zu cu k v)):=fun v W hW=>hW.set hlt v;generalize Oz k=ofk at pk vk fzk HO HSET;by_cases hv:(cu k:Int)=4294967295
    .by_cases h8:c+8<=e0
     .have HW:Hid (lb<wr.heap.size/\nb<wr.heap.size):=⟨World.block_lt_of_cell? wr _ vk,World.block_lt_of_cell? wr _ pk⟩;go_wp2_with fail;refine(Fe _ _ s e0 c 8 hF h8 (by omega) hs).mono ?_;rintro r w2 ⟨rfl,f2,t2⟩;have T2:=ht.Hf t2 hz1;have N2:=hNu.keep t2 nl;have hbw:w2.heap[nb]?=w.heap[nb]?:=(t2.block nb HW.out.2 nn).trans HBB.out;have c2:∀j,w2.cell? ⟨lb,j,none⟩=wr.cell? ⟨lb,j,none⟩:=fun j=>t2.cell (p:=⟨lb,j,none⟩) HW.out.1 nl;have v2:w2.cell? ⟨lb,ofk,none⟩=some (.int .i64 (cu k:Int)):=(c2 ofk).trans vk;have fz2:=N2.frozen ofk;have sh:=f2.short;simp only[Option.isNone_some]at sh;obtain⟨x,hx⟩:∃x,x=Aa s c 8:=⟨_,rfl⟩;rw[<-hx];have N3:=HSET.out x w2 N2;have f3:=f2.other (lb:=lb) (o:=ofk) (.int .i64 (x:Int)) nl';have T3:Touch (fun k=>k=lb) w (w2.setCell ⟨lb,ofk,none⟩ (.int .i64 (x:Int))):=T2.setCell (p:=⟨lb,ofk,none⟩) rfl _;have hb3:(w2.setCell ⟨lb,ofk,none⟩ (.int .i64 (x:Int))).heap[nb]?=w.heap[nb]?:=(Below.heap_setCell _ _ _ _ hne).trans hbw;have C3:Hid (∀j,j≠4->j≠3->j≠11->(w2.setCell ⟨lb,ofk,none⟩ (.int .i64 (x:Int))).cell? ⟨lb,j,none⟩=w.cell? ⟨lb,j,none⟩):=by
       intro j h1 h2 h3;rw[Aq (by have:=HO.out;omega),c2 j];exact HC.out j h1 h2 h3
      by_cases hbig:(1099511627776:Int)<(x:Int)
      .have HM:Hid (R=none):=by
        unfold Hid;rw[HX.out];unfold meant;rw[if_pos (by omega),if_neg (by omega)];rfl
       clear hF hNu N2 f2 t2 c2 HX HK vk pk hx;go_wp2;go_ret;exact FIN.out false _ (by rw[HM.out];rfl) ⟨_,N3,.inl HM.out⟩ C3.out T3
      have HM:Hid (R=mF s e0 (3-(k+1)) (k+1) (c+8) (Zu cu k x)):=by
       unfold Hid;rw[HX.out];unfold meant;rw[if_pos (by omega),if_pos ⟨h8,by omega⟩,<-hx];rfl
      clear hF hNu N2 f2 t2 c2 HX HK vk pk hx;go_wp2;exact⟨⟨k+1,c+8,Zu cu k x,by omega,by go_num,f3,N3,HM,C3.out,hb3,T3⟩,by simp[intOf];omega⟩
     have HM:Hid (R=none):=by
      unfold Hid;rw[HX.out];unfold meant;rw[if_pos (by omega),if_neg (by omega)];rfl
     have HW:Hid (lb<wr.heap.size/\nb<wr.heap.size):=⟨World.block_lt_of_cell? wr _ vk,World.block_lt_of_cell? wr _ pk⟩;go_wp2_with fail;refine(Ee _ _ s e0 (some c) 8 8 rfl (by omega) hs hF).mono ?_;rintro r w2 ⟨rfl,f2,t2⟩;rw[bD e0 c 8 h8]at f2;have T2:=ht.Hf t2 hz1;have N2:=hNu.keep t2 nl;have c2:∀j,w2.cell? ⟨lb,j,none⟩=wr.cell? ⟨lb,j,none⟩:=fun j=>t2.cell (p:=⟨lb,j,none⟩) HW.out.1 nl;have v2:w2.cell? ⟨lb,ofk,none⟩=some (.int .i64 (cu k:Int)):=(c2 ofk).trans vk;have fz2:=N2.frozen ofk;have sh:=f2.short;simp only[Option.isNone_none]at sh;generalize Ah s e0 (some c) 8=x;have N3:=HSET.out x w2 N2;have T3:Touch (fun k=>k=lb) w (w2.setCell ⟨lb,ofk,none⟩ (.int .i64 (x:Int))):=T2.setCell (p:=⟨lb,ofk,none⟩) rfl _;have C3:Hid (∀j,j≠4->j≠3->j≠11->(w2.setCell ⟨lb,ofk,none⟩ (.int .i64 (x:Int))).cell? ⟨lb,j,none⟩=w.cell? ⟨lb,j,none⟩):=by
      intro j h1 h2 h3;rw[Aq (by have:=HO.out;omega),c2 j];exact HC.out j h1 h2 h3
     clear hF hNu N2 f2 t2 c2 HX HK vk pk;go_wp2;go_ret;exact FIN.out false _ (by rw[HM.out];rfl) ⟨_,N3,.inl HM.out⟩ C3.out T3
    have hv':((cu k:Int)==4294967295)=false:=(by simpa using hv);have HM:Hid (R=mF s e0 (3-(k+1)) (k+1) c cu):=by
     unfold Hid;rw[HX.out];unfold meant;rw[if_neg (by omega)];simp only[Option.bind_some];congr 1;funext j;unfold Zu;split;.rename_i h;rw[h]
     rfl
    go_wp2;exact⟨⟨k+1,c,cu,by omega,by go_num,hF,hNu,HM,HC.out,HBB.out,ht⟩,by simp[intOf];omega⟩
   obtain rfl:k=3:=by omega
   have HM:Hid (R=some cu):=HK;go_wp2;go_ret;exact FIN.out true _ (by rw[HM.out];rfl) ⟨cu,hNu,.inr HM.out⟩ HC.out ht
end Go.Proofs.YtmhlkdlcpicekaaGreatDoor
