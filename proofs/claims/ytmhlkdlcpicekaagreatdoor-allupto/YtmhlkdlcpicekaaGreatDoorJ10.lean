/- Joined. -/
import Derived.Test.YtmhlkdlcpicekaaGreatDoorJ09
import Derived.Maps.OwnSet
import Derived.Maps.OwnOps
import Derived.Maps.Views
import Derived.Laws.BitsLemmas
set_option linter.unusedSimpArgs false
set_option linter.unusedVariables false
set_option maxRecDepth 100000
set_option maxHeartbeats 20000000
namespace Go.Proofs.YtmhlkdlcpicekaaGreatDoor
open Go.RowKit Go.Shelf Go.Maps
def Vr(U:List UInt8->Nat)(k:List UInt8)(v:Nat):List UInt8->Nat:=fun x=>if x=k then v else U x
def Kt(w:World)(B n:Nat)(U:List UInt8->Nat):Prop:=
 ∃D:DataW Unit,w.ownsMap Tryz.prog 9 (plainElem Tryz.prog 230) B n D/\(∀key,D.atKey (.string key) (.lit (.int .i64 0))=.lit (.int .i64 (U key:Int)))/\∀key,U key<=3
theorem Qgc(w:World):(zeroValue 230).run Tryz.prog w=.ok (.int .i64 0) w:=by kernel_rfl
theorem Kt.look{w:World}{B n:Nat}{U:List UInt8->Nat}(h:Kt w B n U)(s:ByteArray)(hs:s.size<=maxLen): (Instr.lookup 183 (.map (some B)) (.string s) false).run Tryz.prog w=.ok (.int .i64 (U s.data.toList:Int)) w:=by
 obtain⟨D,ho,hU,_⟩:=h;obtain⟨c,hrun,hat,_⟩:=ho.lookup_int (string_keyed Tryz.underlying9) Tryz.underlying183 Tryz.underlying230 (Qgc w) (Go.WideMaps.keyOf_string_mk Tryz.underlying9 hs);rw[hU]at hat
 cases hat
 exact hrun
theorem Qdj(v:Nat)(h:v<=3):(Lit.int .i64 (v:Int)).wf=true:=by
 rcases(by omega:v=0\/v=1\/v=2\/v=3)with rfl|rfl|rfl|rfl<;>decide
theorem Kt.put{w:World}{B n:Nat}{U:List UInt8->Nat}(h:Kt w B n U)(s:ByteArray)(hs:s.size<=maxLen)(hn:n<maxLen)(v:Nat)(hv:v<=3): ∃w',(Instr.mapUpdate 183 (.map (some B)) (.string s) (.int .i64 (v:Int))).run Tryz.prog w=.ok () w'/\Kt w' B (n+1) (Vr U s.data.toList v)/\w.grownBy w' (some B):=by
 obtain⟨D,ho,hU,hb⟩:=h;have hkey:=Go.WideMaps.keyOf_string_mk Tryz.underlying9 hs;obtain⟨w',hrun,ho',hg⟩:=ho.update (string_keyed Tryz.underlying9) Tryz.underlying183 hn hkey (plainElem_int Tryz.underlying230 (Qdj v hv));refine⟨w',hrun,⟨_,ho',fun key=>?_,fun key=>?_⟩,hg⟩
 .unfold Vr;by_cases e:key=s.data.toList;.rw[if_pos e,e];exact atKey_put_same ho.isMap ((string_keyed Tryz.underlying9).key hkey) _ _
  rw[if_neg e,atKey_put_other (by intro h;cases h;exact e rfl)];exact hU key
 unfold Vr;split;.exact hv
 exact hb key
theorem Kt.keep{w w':World}{S:Nat->Prop}{B n:Nat}{U:List UInt8->Nat}(h:Kt w B n U)(ht:Touch S w w')(hs:¬S B):Kt w' B n U:=by
 obtain⟨D,ho,hU,hb⟩:=h;refine⟨D,?_,hU,hb⟩;have hl:=ho.lt;obtain⟨es,clock,h1,h2⟩:=ho;exact⟨es,clock,(ht.block B hl hs).trans h1,h2⟩
theorem Kt.new(w:World):Kt (w.alloc (.map #[] 0)) w.heap.size 0 (fun _=>0):=⟨_,World.ownsMap_made w _ _ _,fun _=>rfl,fun _=>Nat.zero_le _⟩
theorem Ro{w w':World}{B:Nat}(h:w.grownBy w' (some B)):Touch (fun k=>k=B) w w':=(Touch.refl (fun k=>k=B) w).grown h (fun k e=>by cases e;rfl)
def Iu(p:List UInt8):Nat->Nat->(List UInt8->Nat)->Option (List UInt8->Nat)
 |0,_,U=>some U
 |f+1,i,U=>if p[i]?=some 47 then(if U (p.take i)=3 then none else Iu p f (i+1) (Vr U (p.take i) (max (U (p.take i)) 1)))else Iu p f (i+1) U
def Jv(U:List UInt8->Nat)(s:ByteArray):Option (List UInt8->Nat):=
 (Iu (Ak s) (Ak s).length 0 U).bind fun V=>if V (Ak s) > 1\/(V (Ak s)=1/\Aj s=false)then none else some (Vr V (Ak s) (if Aj s then 2 else 3))
theorem Qgd(w:World)(B n:Nat)(U:List UInt8->Nat)(s:ByteArray)(hs:s.size<=60)(hn:n<=1000000000000)(hM:Kt w B n U): Calls Tryz.prog 90 #[.map (some B),.string s] w fun r w'=>r=.returned (.bool (Jv U s).isSome)/\(∀V,Jv U s=some V->Kt w' B (n+61) V)/\Touch (fun k=>k=B) w w':=by
 have HP:Hid (∀W,Calls Tryz.prog 126 #[.string s] W fun e w'=>e=.returned (.string ⟨(Ak s).toArray⟩)/\W=w'):=fun W=>wC W s (by omega);have HD:Hid (∀W,Calls Tryz.prog 64 #[.string s] W fun r w'=>r=.returned (.bool (Aj s))/\W=w'):=fun W=>Us W s (by omega);have hz:=nH s;have hp:(⟨(Ak s).toArray⟩:ByteArray).data.toList=Ak s:=rfl;have HC:Hid (Jv U s=(Iu (Ak s) (Ak s).length 0 U).bind fun V=>if V (Ak s) > 1\/(V (Ak s)=1/\Aj s=false)then none else some (Vr V (Ak s) (if Aj s then 2 else 3))):=rfl;revert HP hz hp HC;generalize Jv U s=R;generalize Ak s=p;intro HP hz hp HC;obtain⟨P,hP⟩:∃P:ByteArray,P=⟨p.toArray⟩:=⟨_,rfl⟩;rw[<-hP]at HP hz hp;have hl:p.length=P.size:=by rw[hP];show _=p.toArray.size;simp
 have hl60:p.length<=60:=by omega
 have HL:Hid (p.length=P.size):=hl;have HPp:Hid (P.data.toList=p):=hp;have e0:∀i,(P.extract 0 i).data.toList=p.take i:=by intro i;rw[<-hp];simp[ByteArray.data_extract]
 have HT:Hid (∀i,(P.extract 0 i).data.toList=p.take i):=e0;have HG:Hid (∀i (h:i<P.size),p[i]?=some P[i]):=by
  intro i h;rw[<-hp];simp[h];rfl
 clear hP hp e0 hl;go_enter Tryz.func90,Tryz.ntmps90;go_wp2_with fail;refine(HP.out _).mono ?_;rintro e w' ⟨rfl,rfl⟩;go_wp2;go_loopw [12] (fun i wr=>∃k:Nat,k<=P.size/\i=.int .i64 (k:Int)/\(∃V,Kt wr B (n+k) V/\Hid (Iu p p.length 0 U=Iu p (p.length-k) k V))/\Touch (fun k=>k=B) w wr) (fun i wr=>P.size-(intOf i).toNat)
 case atStart=>exact⟨0,Nat.zero_le _,rfl,⟨U,hM,rfl⟩,Touch.refl _ _⟩
 case round=>
  obtain⟨k,hk,rfl,⟨V,hV,HV⟩,ht⟩:=hrel;by_cases hlt:k<P.size
  .have hg:=HG.out k hlt;have HS:Hid (Iu p p.length 0 U=if p[k]?=some 47 then(if V (p.take k)=3 then none else Iu p (p.length-(k+1)) (k+1) (Vr V (p.take k) (max (V (p.take k)) 1)))else Iu p (p.length-(k+1)) (k+1) V):=by
    unfold Hid;rw[HV.out,show p.length-k=(p.length-(k+1))+1 by have:=HL.out;omega];rfl
   by_cases h47:(P[k].toNat:Int)=47
   .have hb:p[k]?=some 47:=(by rw[hg];congr 1;apply UInt8.toNat_inj.1;simpa using(by omega:P[k].toNat=47));have h47':((P[k].toNat:Int) != 47)=false:=(by simpa using h47);have q1:=hV.look (P.extract 0 k) (by rw[ByteArray.size_extract];unfold maxLen;omega);rw[HT.out k]at q1;have kl:(k:Int)<=(P.size:Int):=(by omega);by_cases h3:(V (p.take k):Int)=3
    .have HE:Hid (R=none):=by
      unfold Hid;rw[HC.out,HS.out,if_pos hb,if_pos (by omega)];rfl
     rw[h3]at q1;clear hg HS h3;go_wp2;go_ret;exact⟨by rw[HE.out];rfl,(fun V h=>by rw[HE.out]at h;cases h),ht⟩
    obtain⟨w2,q2,hV2,hg2⟩:=Kt.put (w:=wr.drew) hV (P.extract 0 k) (by rw[ByteArray.size_extract];unfold maxLen;omega) (by unfold maxLen;omega) (max (V (p.take k)) 1) (by obtain⟨_,_,_,hb⟩:=hV;have:=hb (p.take k);omega);rw[HT.out k]at hV2;rw[show((max (V (p.take k)) 1:Nat):Int)=max (V (p.take k):Int) 1 by omega]at q2;have q1':(Instr.lookup 183 (.map (some B)) (.string (P.extract 0 k)) false).run Tryz.prog wr.drew=.ok (.int .i64 (V (p.take k):Int)) wr.drew:=by
     have:=Kt.look (w:=wr.drew) hV (P.extract 0 k) (by rw[ByteArray.size_extract];unfold maxLen;omega);rw[HT.out k]at this;exact this
    have T2:Touch (fun k=>k=B) w w2:=ht.drew.trans (Ro hg2);have HS':Hid (Iu p p.length 0 U=Iu p (p.length-(k+1)) (k+1) (Vr V (p.take k) (max (V (p.take k)) 1))):=by
     unfold Hid;rw[HS.out,if_pos hb,if_neg (by omega)]
    have h3':((V (p.take k):Int)==3)=false:=(by simpa using h3);clear hg HS hg2;go_wp2;go_region;all_goals
     go_wp2;go_roundw
     case rel=>exact⟨k+1,by omega,by go_num,⟨_,hV2,HS'⟩,T2⟩
     case measure=>simp[intOf];omega
   have hb:¬p[k]?=some 47:=by
    rw[hg];intro e;apply h47;rw[Option.some.inj e];rfl
   have h47':((P[k].toNat:Int) != 47)=true:=by simpa using h47
   have HS':Hid (Iu p p.length 0 U=Iu p (p.length-(k+1)) (k+1) V):=by
    unfold Hid;rw[HS.out,if_neg hb]
   clear hg HS;go_wp2;exact⟨⟨k+1,by omega,by go_num,⟨V,by obtain⟨D,h1,h2,h3⟩:=hV;exact⟨D,h1.mono (by omega),h2,h3⟩,HS'⟩,ht⟩,by simp[intOf];omega⟩
  obtain rfl:k=P.size:=by omega
  have HE:Hid (R=if V p > 1\/(V p=1/\Aj s=false)then none else some (Vr V p (if Aj s then 2 else 3))):=by
   unfold Hid;rw[HC.out,HV.out,show p.length-P.size=0 by have:=HL.out;omega];rfl
  have q1:=hV.look P (by unfold maxLen;omega);rw[HPp.out]at q1;cases hf:Aj s with
  |true=>
   rw[hf]at HE;obtain⟨w3,q3,hV3,hg3⟩:=hV.put P (by unfold maxLen;omega) (by unfold maxLen;omega) 2 (by omega);rw[HPp.out]at hV3;have q3':(Instr.mapUpdate 183 (.map (some B)) (.string P) (.int .i64 2)).run Tryz.prog wr=.ok () w3:=q3;clear q3;have T3:Touch (fun k=>k=B) w w3:=ht.trans (Ro hg3);have hV4:Kt w3 B (n+61) (Vr V p 2):=by obtain⟨D,h1,h2,h3⟩:=hV3;exact⟨D,h1.mono (by have:=HL.out;omega),h2,h3⟩
   clear hg3 hV3;by_cases v1:(1:Int)<(V p:Int)
   .have HN:Hid (R=none):=(by unfold Hid;rw[HE.out,if_pos (by omega)]);go_wp2_with fail;refine(HD.out _).mono ?_;rintro e w' ⟨rfl,rfl⟩;rw[hf];go_wp2;go_ret;exact⟨by rw[HN.out];rfl,(fun V h=>by rw[HN.out]at h;cases h),ht⟩
   have HN:Hid (R=some (Vr V p 2)):=by unfold Hid;rw[HE.out,if_neg (by simp;omega)];rfl
   by_cases v0:(V p:Int)=1
   .rw[v0]at q1;clear v1 v0;go_wp2_with fail;refine(HD.out _).mono ?_;rintro e w' ⟨rfl,rfl⟩;rw[hf];go_wp2;go_ret;exact⟨by rw[HN.out];rfl,(fun V' h=>by rw[HN.out]at h;cases h;exact hV4),T3⟩
   have v0':((V p:Int)==1)=false:=by simpa using v0
   go_wp2_with fail;refine(HD.out _).mono ?_;rintro e w' ⟨rfl,rfl⟩;rw[hf];go_wp2;go_ret;exact⟨by rw[HN.out];rfl,(fun V' h=>by rw[HN.out]at h;cases h;exact hV4),T3⟩
  |false=>
   rw[hf]at HE;obtain⟨w3,q3,hV3,hg3⟩:=hV.put P (by unfold maxLen;omega) (by unfold maxLen;omega) 3 (by omega);rw[HPp.out]at hV3;have q3':(Instr.mapUpdate 183 (.map (some B)) (.string P) (.int .i64 3)).run Tryz.prog wr=.ok () w3:=q3;clear q3;have T3:Touch (fun k=>k=B) w w3:=ht.trans (Ro hg3);have hV4:Kt w3 B (n+61) (Vr V p 3):=by obtain⟨D,h1,h2,h3⟩:=hV3;exact⟨D,h1.mono (by have:=HL.out;omega),h2,h3⟩
   clear hg3 hV3;by_cases v1:(1:Int)<(V p:Int)
   .have HN:Hid (R=none):=(by unfold Hid;rw[HE.out,if_pos (by omega)]);go_wp2_with fail;refine(HD.out _).mono ?_;rintro e w' ⟨rfl,rfl⟩;rw[hf];go_wp2;go_ret;exact⟨by rw[HN.out];rfl,(fun V h=>by rw[HN.out]at h;cases h),ht⟩
   by_cases v0:(V p:Int)=1
   .have HN:Hid (R=none):=(by unfold Hid;rw[HE.out,if_pos (by simp;omega)]);rw[v0]at q1;clear v1 v0;go_wp2_with fail;refine(HD.out _).mono ?_;rintro e w' ⟨rfl,rfl⟩;rw[hf];go_wp2;go_ret;exact⟨by rw[HN.out];rfl,(fun V h=>by rw[HN.out]at h;cases h),ht⟩
   have HN:Hid (R=some (Vr V p 3)):=by unfold Hid;rw[HE.out,if_neg (by simp;omega)];rfl
   have v0':((V p:Int)==1)=false:=by simpa using v0
   go_wp2_with fail;refine(HD.out _).mono ?_;rintro e w' ⟨rfl,rfl⟩;rw[hf];go_wp2;go_ret;exact⟨by rw[HN.out];rfl,(fun V' h=>by rw[HN.out]at h;cases h;exact hV4),T3⟩
def Md:List Ai->(List UInt8->Nat)->Bool
 | [],_=>false
 |x::l,U=>match Jv U x.Af.name with
  |none=>true
  |some V=>Md l V
theorem yG(w:World)(a:Option Addr)(g cap:Nat)(L:List Ai)(ha:0<L.length->a=some ⟨g,0,none⟩)(hl:0<L.length->Iq w g L)(hn:L.length<=10000000000)(hok:∀x∈L,x.Af.name.size<=60): Calls Tryz.prog 47 #[.slice a L.length cap] w fun r w'=>r=.returned (.bool (Md L (fun _=>0)))/\Touch (fun _=>False) w w':=by
 obtain⟨n,hN⟩:∃n,n=L.length:=⟨_,rfl⟩;rw[<-hN];have ha':Hid (0<L.length->a=some ⟨g,0,none⟩):=ha;have hl':Hid (0<L.length->Iq w g L):=hl;have hN':Hid (n=L.length):=hN;have hn':n<=10000000000:=by omega
 have hmm:=@run_makeMap Tryz.prog;have T0:Touch (fun _=>False) w (w.alloc (.map #[] 0)):=(Touch.refl _ w).alloc _;have M0:=Kt.new w;clear ha hl hN hn;go_enter Tryz.func47,Tryz.ntmps47;go_wp2;go_loopw [9] (fun i wr=>∃k:Nat,k<=n/\i=.int .i64 (k:Int)/\(∃V,Kt wr w.heap.size (61*k) V/\Hid (Md L (fun _=>0)=Md (L.drop k) V))/\Touch (fun _=>False) w wr) (fun i wr=>n-(intOf i).toNat)
 case atStart=>exact⟨0,Nat.zero_le _,rfl,⟨_,M0,rfl⟩,T0⟩
 case round=>
  obtain⟨k,hk,rfl,⟨V,hV,HV⟩,ht⟩:=hrel;by_cases hlt:k<n
  .have hlt':k<L.length:=by have:=hN'.out;omega
   obtain rfl:=ha'.out (by omega);have hL:=(hl'.out (by omega)).keep ht (fun e=>e);have hC:=hL.cells k hlt';have HX:Hid (Md L (fun _=>0)=match Jv V L[k].Af.name with|none=>true|some V'=>Md (L.drop (k+1)) V'):=by
    unfold Hid;rw[HV.out,List.drop_eq_getElem_cons hlt'];rfl
   have hz:=hok L[k] (List.getElem_mem hlt');revert hC HX hz;generalize L[k]=x;intro hC HX hz;have c0:=hC 0 (by omega);have c1:=hC 1 (by omega);have c2:=hC 2 (by omega);have c3:=hC 3 (by omega);have c4:=hC 4 (by omega);have c5:=hC 5 (by omega);have c6:=hC 6 (by omega);have c7:=hC 7 (by omega);have c8:=hC 8 (by omega);have c9:=hC 9 (by omega);have c10:=hC 10 (by omega);have c11:=hC 11 (by omega);have c12:=hC 12 (by omega);simp only[Jj,List.getElem?_cons_zero,List.getElem?_cons_succ,Nat.add_zero]at c0 c1 c2 c3 c4 c5 c6 c7 c8 c9 c10 c11 c12;have hw:=ht.size;have hV1:=hV.keep ((Touch.refl (fun _=>False) wr).alloc (Obj.cells #[.string x.Af.name,.int .i64 (x.Af.method:Int),.int .u32 (x.Af.sum:Int),.int .i64 (x.Af.packed:Int),.int .i64 (x.Af.size:Int),.int .i64 (x.place:Int),.int .i64 (x.Af.maker:Int),.int .i64 (x.Af.flags:Int),.int .i64 (x.Af.disk:Int),.int .i64 (x.Af.outer:Int),.string x.Af.three,.int .i64 (x.Af.ahead:Int),.int .i64 (x.stop:Int)] 179)) (fun e=>e);clear hC hlt' hL;go_wp2_with fail;refine(Qgd _ w.heap.size (61*k) V x.Af.name hz (by omega) hV1).mono ?_;rintro r w1 ⟨rfl,hc,t1⟩;have T1:=(ht.alloc _).Hf t1 (Nat.le_refl _);clear t1 c0 c1 c2 c3 c4 c5 c6 c7 c8 c9 c10 c11 c12 hV1;cases hR:Jv V x.Af.name with
   |none=>
    rw[hR]at HX;go_wp2;go_ret;exact⟨by rw[HX.out];rfl,T1⟩
   |some V'=>
    rw[hR]at HX;have hV':=hc V' hR;clear hc;go_wp2;exact⟨⟨k+1,by omega,by go_num,⟨V',by rw[show 61*(k+1)=61*k+61 by omega];exact hV',HX⟩,T1⟩,by simp[intOf];omega⟩
  obtain rfl:k=n:=by omega
  go_wp2;go_ret;exact⟨by rw[HV.out,List.drop_of_length_le (by have:=hN'.out;omega)];rfl,ht⟩
theorem Bc(E:Nat)(p:Option Nat)(a b:Nat):Ae E (Ae E p a) b=Ae E p (a+b):=by
 cases p with
 |none=>rfl
 |some q=>
  unfold Ae;simp only[Option.bind_some];by_cases h:q+a<=E
  .rw[if_pos h];simp only[Option.bind_some];rw[Nat.add_assoc]
  rw[if_neg h,if_neg (by omega)];rfl
theorem Ju(s:ByteArray)(E:Nat)(p:Option Nat)(n:Nat)(hs:E<=s.size):Ah s E p n<256^n:=by
 cases h:Ae E p n with
 |none=>rw[xB s E p n h];exact Nat.pow_pos (by omega)
 |some q=>
  cases p with
  |none=>cases h
  |some r=>
   unfold Ae at h;simp only[Option.bind_some]at h;by_cases hr:r+n<=E;.rw[Gy s E r n hs hr];exact Bj s r n
   rw[if_neg hr]at h;cases h
theorem Qcq(f:Nat)(h:f<65536):bits .and .i64 (f:Int) 8=((f&&&8:Nat):Int):=by
 have hw:∀n:Int,0<=n->n<2^16->IntKind.i64.wrap n=n:=by intro n h0 h1;simp[IntKind.wrap,IntKind.bits,IntKind.signed];omega
 exact(bits_nat .i64 16 (by decide) hw f 8 (by omega) (by omega)).1
theorem Qc6(f:Nat):(decide (f&&&8≠0))=decide (f/8%2=1):=by
 have h:f&&&8=(f/8%2)*8:=by
  apply Nat.eq_of_testBit_eq;intro i;rw[Nat.testBit_and,show(8:Nat)=2^3 by rfl,Nat.testBit_two_pow,Nat.mul_comm,Nat.testBit_two_pow_mul];by_cases hi:3=i
  .subst hi;simp[Nat.testBit_eq_decide_div_mod_eq]
  simp only[hi,decide_false,Bool.and_false];by_cases h3:3<=i
  .have h2:f/2^3%2<2^1:=Nat.mod_lt _ (by omega);rw[Nat.testBit_lt_two_pow (Nat.lt_of_lt_of_le h2 (Nat.pow_le_pow_right (by omega) (by omega)))];simp
  simp[h3]
 rw[h];have:f/8%2<2:=Nat.mod_lt _ (by omega);by_cases hh:f/8%2=1;.simp[hh]
 have:f/8%2=0:=by omega
 simp[this]
theorem nG(w:World)(b o:Nat)(e:Eo)(p t:Nat)(h:Gg w b o e p t)(hf:e.flags<65536): Calls Tryz.prog 143 #[.pointer (some ⟨b,o,none⟩)] w fun r w'=>r=.returned (.bool (Fh e))/\w=w':=by
 have h7:w.cell? ⟨b,o+7,none⟩=some (.int .i64 (e.flags:Int)):=h 7 (by omega);have HA:=Qcq e.flags hf;have HB:Hid (Fh e=decide (e.flags&&&8≠0)):=by unfold Hid Fh;rw[Qc6]
 revert HA HB;generalize e.flags&&&8=g;intro HA HB;go_enter Tryz.func143,Tryz.ntmps143;go_wp2;go_ret;refine⟨?_,rfl⟩;rw[HB.out];refine congrArg Ending.returned (congrArg Value.bool ?_);rw[Bool.eq_iff_iff];simp
def hdB(s:ByteArray)(E:Nat)(p:Option Nat)(e:Eo):Bool:=
 decide ((Bv s E p 4).toList=[80,75,3,4])&&decide (Ah s E (Ae E p 6) 2=e.flags)&&decide (Ah s E (Ae E p 8) 2=e.method)
  && decide ((Bv s E (Ae E p 30) (Ah s E (Ae E p 26) 2)).toList=e.name.toList)
  && (decide ((Bv s E (Ae E p 14) 12).toList=e.three.toList)||(Fh e&&decide ((Bv s E (Ae E p 14) 12).toList=[0,0,0,0,0,0,0,0,0,0,0,0])))
theorem pU(w:World)(b o rb:Nat)(e:Eo)(pl st:Nat)(s:ByteArray)(E:Nat)(p:Option Nat)(h:Gg w b o e pl st)(hf:e.flags<65536)(hr:FR w rb s E p)(hne:b≠rb)(hs:s.size<=140737488355328): Calls Tryz.prog 142 #[.pointer (some ⟨b,o,none⟩),.pointer (some ⟨rb,0,none⟩)] w fun r w'=>r=.returned (.bool (hdB s E p e))/\FR w' rb s E (Ae E p (30+Ah s E (Ae E p 26) 2+Ah s E (Ae E p 28) 2))/\Touch (fun k=>k=rb) w w':=by
 have HLA:Hid (Gg w b o e pl st):=h;have hE:=hr.size;clear h;go_enter Tryz.func142,Tryz.ntmps142;go_wp2_with fail;refine(Iw _ _ s E p 4 4 rfl (by omega) hs hr).mono ?_;rintro r w1 ⟨rfl,f1,t1⟩;have T1:=t1;clear t1 hr;go_wp2_with fail;refine(Iw _ _ s E _ 2 2 rfl (by omega) hs f1).mono ?_;rintro r w2 ⟨rfl,f2,t2⟩;rw[Bc]at f2;have T2:=T1.trans t2;clear t2 T1 f1;go_wp2_with fail;refine(Ee _ _ s E _ 2 2 rfl (by omega) hs f2).mono ?_;rintro r w3 ⟨rfl,f3,t3⟩;rw[Bc]at f3;have T3:=T2.trans t3;clear t3 T2 f2;go_wp2_with fail;refine(Ee _ _ s E _ 2 2 rfl (by omega) hs f3).mono ?_;rintro r w4 ⟨rfl,f4,t4⟩;rw[Bc]at f4;have T4:=T3.trans t4;clear t4 T3 f3;go_wp2_with fail;refine(Iw _ _ s E _ 4 4 rfl (by omega) hs f4).mono ?_;rintro r w5 ⟨rfl,f5,t5⟩;rw[Bc]at f5;have T5:=T4.trans t5;clear t5 T4 f4;go_wp2_with fail;refine(Iw _ _ s E _ 12 12 rfl (by omega) hs f5).mono ?_;rintro r w6 ⟨rfl,f6,t6⟩;rw[Bc]at f6;have T6:=T5.trans t6;clear t6 T5 f5;go_wp2_with fail;refine(Ee _ _ s E _ 2 2 rfl (by omega) hs f6).mono ?_;rintro r w7 ⟨rfl,f7,t7⟩;rw[Bc]at f7;have T7:=T6.trans t7;clear t7 T6 f6;go_wp2_with fail;refine(Ee _ _ s E _ 2 2 rfl (by omega) hs f7).mono ?_;rintro r w8 ⟨rfl,f8,t8⟩;rw[Bc]at f8;have T8:=T7.trans t8;clear t8 T7 f7;have n1:=Ju s E (Ae E p 26) 2 hE;have n2:=Ju s E (Ae E p 28) 2 hE;go_wp2_with fail;refine(Iw _ _ s E _ _ _ rfl (by omega) hs f8).mono ?_;rintro r w9 ⟨rfl,f9,t9⟩;rw[Bc]at f9;have T9:=T8.trans t9;clear t9 T8 f8;go_wp2_with fail;refine(Iw _ _ s E _ _ _ rfl (by omega) hs f9).mono ?_;rintro r w10 ⟨rfl,f10,t10⟩;rw[Bc]at f10;have T10:=T9.trans t10;clear t10 T9 f9;have L10:=HLA.out.keep T10 hne;have k0:w10.cell? ⟨b,o,none⟩=some (.string e.name):=L10 0 (by omega);have k1:w10.cell? ⟨b,o+1,none⟩=some (.int .i64 (e.method:Int)):=L10 1 (by omega);have k7:w10.cell? ⟨b,o+7,none⟩=some (.int .i64 (e.flags:Int)):=L10 7 (by omega);have k10:w10.cell? ⟨b,o+10,none⟩=some (.string e.three):=L10 10 (by omega);have HLt:Hid (∀W,Gg W b o e pl st->Calls Tryz.prog 143 #[.pointer (some ⟨b,o,none⟩)] W fun r w'=>r=.returned (.bool (Fh e))/\W=w'):=fun W hW=>nG W b o e pl st hW hf;have HL10:Hid (Gg w10 b o e pl st):=L10;have f10':FR w10 rb s E (Ae E p (30+Ah s E (Ae E p 26) 2+Ah s E (Ae E p 28) 2)):=f10;obtain⟨hd,hhd⟩:∃hd,hd=hdB s E p e:=⟨_,rfl⟩;have FIN:Hid (∀v:Bool,v=hd->Ending.returned (.bool v)=Ending.returned (.bool (hdB s E p e))/\FR w10 rb s E (Ae E p (30+Ah s E (Ae E p 26) 2+Ah s E (Ae E p 28) 2))/\Touch (fun k=>k=rb) w w10):=fun v hv=>⟨by rw[hv,hhd],f10',T10⟩;have HB:Hid (hd=(decide ((Bv s E p 4).toList=[80,75,3,4])&&decide (Ah s E (Ae E p 6) 2=e.flags)&&decide (Ah s E (Ae E p 8) 2=e.method) && decide ((Bv s E (Ae E p 30) (Ah s E (Ae E p 26) 2)).toList=e.name.toList) && (decide ((Bv s E (Ae E p 14) 12).toList=e.three.toList)||(Fh e&&decide ((Bv s E (Ae E p 14) 12).toList=[0,0,0,0,0,0,0,0,0,0,0,0]))))):=hhd;clear f10 f10' T10 L10 n1 n2 hE hne HLA hhd;generalize Bv s E (Ae E p 30) (Ah s E (Ae E p 26) 2)=nm at HB ⊢;generalize Bv s E (Ae E p 14) 12=th at HB ⊢;generalize Ah s E (Ae E p 6) 2=fl at HB ⊢;generalize Ah s E (Ae E p 8) 2=me at HB ⊢;generalize Bv s E p 4=m1 at HB ⊢;by_cases y1:m1.toList=[80,75,3,4]
 .have y1':(m1.toList != [80,75,3,4])=false:=by simpa using y1
  by_cases y2:(fl:Int)=(e.flags:Int)
  .have y2':((fl:Int) != (e.flags:Int))=false:=by simpa using y2
   by_cases y3:(me:Int)=(e.method:Int)
   .have y3':((me:Int) != (e.method:Int))=false:=(by simpa using y3);by_cases y4:nm.toList=e.name.toList
    .have y4':(nm.toList != e.name.toList)=false:=(by simpa using y4);by_cases y5:th.toList=e.three.toList
     .have y5':(th.toList==e.three.toList)=true:=(by simpa using y5);have HE:Hid (hd=true):=(by unfold Hid;rw[HB.out];simp[y1,y4,y5];omega);clear HB;go_wp2;go_ret;exact FIN.out true HE.out.symm
     have y5':(th.toList==e.three.toList)=false:=(by simpa using y5);have HE:Hid (hd=(Fh e&&decide (th.toList=[0,0,0,0,0,0,0,0,0,0,0,0]))):=by
      unfold Hid;rw[HB.out,decide_eq_true y1,decide_eq_true (by omega:fl=e.flags),decide_eq_true (by omega:me=e.method),decide_eq_true y4,decide_eq_false y5];simp
     clear HB;go_wp2_with fail;refine(HLt.out _ HL10.out).mono ?_;rintro r w' ⟨rfl,rfl⟩;cases hl:Fh e with
     |false=>
      go_wp2;go_ret;exact FIN.out false (by rw[HE.out,hl];rfl)
     |true=>
      go_wp2;go_ret;exact FIN.out _ (by rw[HE.out,hl,Bool.true_and,Bool.eq_iff_iff];simp)
    have y4':(nm.toList==e.name.toList)=false:=(by simpa using y4);have HE:Hid (hd=false):=(by unfold Hid;rw[HB.out];simp[y4]);clear HB;go_wp2;go_ret;exact FIN.out false HE.out.symm
   have y3':((me:Int) != (e.method:Int))=true:=by simpa using y3
   have HE:Hid (hd=false):=by unfold Hid;rw[HB.out,decide_eq_false (by omega:¬me=e.method)];simp
   clear HB;go_wp2;go_ret;exact FIN.out false HE.out.symm
  have y2':((fl:Int) != (e.flags:Int))=true:=by simpa using y2
  have HE:Hid (hd=false):=by unfold Hid;rw[HB.out,decide_eq_false (by omega:¬fl=e.flags)];simp
  clear HB;go_wp2;go_ret;exact FIN.out false HE.out.symm
 have y1':(m1.toList != [80,75,3,4])=true:=by simpa using y1
 have HE:Hid (hd=false):=by unfold Hid;rw[HB.out];simp[y1]
 clear HB;go_wp2;go_ret;exact FIN.out false HE.out.symm
def ltB(s:ByteArray)(E:Nat)(p:Option Nat)(e:Eo):Bool:=
 decide ((Bv s E p 4).toList=[80,75,7,8])&&decide (Ah s E (Ae E p 4) 4=e.sum)&&decide (Ah s E (Ae E p 8) 4=e.packed%4294967296)&&decide (Ah s E (Ae E p 12) 4=e.size%4294967296)
theorem Va(n:Nat)(h:n<4294967296):(n:Int)%4294967296=(n:Int):=by omega
theorem iU(n:Nat):(n:Int)%4294967296=((n%4294967296:Nat):Int):=by omega
theorem xK(w:World)(b o rb:Nat)(e:Eo)(pl st:Nat)(s:ByteArray)(E:Nat)(p:Option Nat)(h:Gg w b o e pl st)(hr:FR w rb s E p)(hne:b≠rb)(hs:s.size<=140737488355328): Calls Tryz.prog 144 #[.pointer (some ⟨b,o,none⟩),.pointer (some ⟨rb,0,none⟩)] w fun r w'=>r=.returned (.bool (ltB s E p e))/\FR w' rb s E (Ae E p 16)/\Touch (fun k=>k=rb) w w':=by
 have HLA:Hid (Gg w b o e pl st):=h;have hE:=hr.size;clear h;go_enter Tryz.func144,Tryz.ntmps144;go_wp2_with fail;refine(Iw _ _ s E p 4 4 rfl (by omega) hs hr).mono ?_;rintro r w1 ⟨rfl,f1,t1⟩;have T1:=t1;clear t1 hr;go_wp2_with fail;refine(Ee _ _ s E _ 4 4 rfl (by omega) hs f1).mono ?_;rintro r w2 ⟨rfl,f2,t2⟩;rw[Bc]at f2;have T2:=T1.trans t2;clear t2 T1 f1;go_wp2_with fail;refine(Ee _ _ s E _ 4 4 rfl (by omega) hs f2).mono ?_;rintro r w3 ⟨rfl,f3,t3⟩;rw[Bc]at f3;have T3:=T2.trans t3;clear t3 T2 f2;go_wp2_with fail;refine(Ee _ _ s E _ 4 4 rfl (by omega) hs f3).mono ?_;rintro r w4 ⟨rfl,f4,t4⟩;rw[Bc]at f4;have T4:=T3.trans t4;clear t4 T3 f3;have L4:=HLA.out.keep T4 hne;have k2:w4.cell? ⟨b,o+2,none⟩=some (.int .u32 (e.sum:Int)):=L4 2 (by omega);have k3:w4.cell? ⟨b,o+3,none⟩=some (.int .i64 (e.packed:Int)):=L4 3 (by omega);have k4:w4.cell? ⟨b,o+4,none⟩=some (.int .i64 (e.size:Int)):=L4 4 (by omega);have a1:=Va (Ah s E (Ae E p 4) 4) (by have:=Ju s E (Ae E p 4) 4 hE;omega);have a2:=Va (Ah s E (Ae E p 8) 4) (by have:=Ju s E (Ae E p 8) 4 hE;omega);have a3:=Va (Ah s E (Ae E p 12) 4) (by have:=Ju s E (Ae E p 12) 4 hE;omega);have a4:=iU e.packed;have a5:=iU e.size;obtain⟨hd,hhd⟩:∃hd,hd=ltB s E p e:=⟨_,rfl⟩;have f4':FR w4 rb s E (Ae E p 16):=f4;have FIN:Hid (∀v:Bool,v=hd->Ending.returned (.bool v)=Ending.returned (.bool (ltB s E p e))/\FR w4 rb s E (Ae E p 16)/\Touch (fun k=>k=rb) w w4):=fun v hv=>⟨by rw[hv,hhd],f4',T4⟩;have HB:Hid (hd=(decide ((Bv s E p 4).toList=[80,75,7,8])&&decide (Ah s E (Ae E p 4) 4=e.sum)&&decide (Ah s E (Ae E p 8) 4=e.packed%4294967296)&&decide (Ah s E (Ae E p 12) 4=e.size%4294967296))):=hhd;clear f4 f4' T4 L4 hE hne HLA hhd;revert a1 a2 a3 a4 a5 HB;generalize e.packed%4294967296=pk;generalize e.size%4294967296=sz;generalize Ah s E (Ae E p 4) 4=x1;generalize Ah s E (Ae E p 8) 4=x2;generalize Ah s E (Ae E p 12) 4=x3;generalize Bv s E p 4=m1;intro a1 a2 a3 a4 a5 HB;by_cases y1:m1.toList=[80,75,7,8]
 .by_cases y2:(x1:Int)=(e.sum:Int)
  .have y2':((x1:Int)==(e.sum:Int))=true:=by simpa using y2
   by_cases y3:(x2:Int)=(pk:Int)
   .have y3':((x2:Int)==(pk:Int))=true:=(by simpa using y3);have HE:Hid (hd=decide (x3=sz)):=by
     unfold Hid;rw[HB.out,decide_eq_true y1,decide_eq_true (by omega:x1=e.sum),decide_eq_true (by omega:x2=pk)];rfl
    clear HB y2 y3;go_wp2;go_ret;exact FIN.out _ (by rw[HE.out,Bool.eq_iff_iff];simp;omega)
   have y3':((x2:Int)==(pk:Int))=false:=by simpa using y3
   have HE:Hid (hd=false):=by unfold Hid;rw[HB.out,decide_eq_false (by omega:¬x2=pk)];simp
   clear HB y2 y3;go_wp2;go_ret;exact FIN.out false HE.out.symm
  have y2':((x1:Int)==(e.sum:Int))=false:=by simpa using y2
  have HE:Hid (hd=false):=by unfold Hid;rw[HB.out,decide_eq_false (by omega:¬x1=e.sum)];simp
  clear HB y2;go_wp2;go_ret;exact FIN.out false HE.out.symm
 have HE:Hid (hd=false):=by unfold Hid;rw[HB.out];simp[y1]
 clear HB;go_wp2;go_ret;exact FIN.out false HE.out.symm
def Ih(E:Nat)(p:Option Nat):Nat:=p.getD E
theorem aZ(s:ByteArray)(E:Nat)(p:Option Nat)(hE:E<=s.size)(hp:∀q,p=some q->q<=E):(E:Int)-((Rt s E p).size:Int)=(Ih E p:Int):=by
 cases p with
 |none=>show(E:Int)-((0:Nat):Int)=_;simp[Ih]
 |some q=>
  have:=hp q rfl;simp only[Rt,Ih,ByteArray.size_extract,Option.getD_some];omega
theorem Gg.Qdw{w:World}{b o:Nat}{e:Eo}{p t:Nat}(h:Gg w b o e p t)(q:Nat):Gg (w.setCell ⟨b,o+5,none⟩ (.int .i64 (q:Int))) b o e q t:=by
 intro i hi;rw[Ad];by_cases h5:i=5
 .subst h5;rw[if_pos ⟨rfl,rfl⟩,h 5 (by omega)];rfl
 rw[if_neg (by omega),h i hi];rcases(by omega:i=0\/i=1\/i=2\/i=3\/i=4\/i=6\/i=7\/i=8\/i=9\/i=10\/i=11\/i=12)with rfl|rfl|rfl|rfl|rfl|rfl|rfl|rfl|rfl|rfl|rfl|rfl<;>rfl
theorem Gg.Qgz{w:World}{b o:Nat}{e:Eo}{p t:Nat}(h:Gg w b o e p t)(q:Nat):Gg (w.setCell ⟨b,o+12,none⟩ (.int .i64 (q:Int))) b o e p q:=by
 intro i hi;rw[Ad];by_cases h5:i=12
 .subst h5;rw[if_pos ⟨rfl,rfl⟩,h 12 (by omega)];rfl
 rw[if_neg (by omega),h i hi];rcases(by omega:i=0\/i=1\/i=2\/i=3\/i=4\/i=5\/i=6\/i=7\/i=8\/i=9\/i=10\/i=11)with rfl|rfl|rfl|rfl|rfl|rfl|rfl|rfl|rfl|rfl|rfl|rfl<;>rfl
def jY(E:Nat)(s:ByteArray)(e:Eo):Option Nat:=Ae E (Ae E (some 0) e.ahead) (30+Ah s E (Ae E (Ae E (some 0) e.ahead) 26) 2+Ah s E (Ae E (Ae E (some 0) e.ahead) 28) 2)
def jQ(E:Nat)(s:ByteArray)(e:Eo):Option Nat:=if Fh e then Ae E (Ae E (jY E s e) e.packed) 16 else Ae E (jY E s e) e.packed
def Kr(E:Nat)(s:ByteArray)(e:Eo):Bool:=(hdB s E (Ae E (some 0) e.ahead) e&&(!Fh e||ltB s E (Ae E (jY E s e) e.packed) e))&&(jQ E s e).isSome
theorem bytes_eq(a b:ByteArray):(a.toList=b.toList)↔a=b:=by
 rw[ByteArray.toList_eq,ByteArray.toList_eq];exact⟨fun h=>by cases a;cases b;simp at h;rw[ByteArray.mk.injEq];exact h,fun h=>by rw[h]⟩
theorem Qc8(a:ByteArray)(l:List UInt8):(a.toList=l)↔a=⟨l.toArray⟩:=by
 rw[<-bytes_eq,ByteArray.toList_eq ⟨l.toArray⟩]
theorem Qgn{α:Type}{p q:Prop}[Decidable p][Decidable q]{a b c:α}(h:p↔q)(hab:a=b):(if p then a else c)=if q then b else c:=by
 by_cases hp:p;.rw[if_pos hp,if_pos (h.1 hp),hab]
 rw[if_neg hp,if_neg (fun hq=>hp (h.2 hq))]
theorem lV(s:ByteArray)(E:Nat)(e:Eo)(hE:E<=s.size):Gj s E e=if Kr E s e then some (Ih E (jY E s e),Ih E (jQ E s e))else none:=by
 by_cases h30:e.ahead+30<=E
 .have p0:Ae E (some 0) e.ahead=some e.ahead:=by simp[Ae];omega
  have r26:Ah s E (some (e.ahead+26)) 2=Aa s (e.ahead+26) 2:=Gy s E _ 2 hE (by omega);have r28:Ah s E (some (e.ahead+28)) 2=Aa s (e.ahead+28) 2:=Gy s E _ 2 hE (by omega);have q:∀k,e.ahead+k<=E->Ae E (some e.ahead) k=some (e.ahead+k):=fun k hk=>by simp[Ae,hk]
  have q':∀k,¬e.ahead+k<=E->Ae E (some e.ahead) k=none:=fun k hk=>by simp[Ae,hk]
  obtain⟨n,hn⟩:∃n,n=Aa s (e.ahead+26) 2:=⟨_,rfl⟩;obtain⟨x,hx⟩:∃x,x=Aa s (e.ahead+28) 2:=⟨_,rfl⟩;have eB:jY E s e=Ae E (some e.ahead) (30+n+x):=by unfold jY;rw[p0,q 26 (by omega),q 28 (by omega),r26,r28,<-hn,<-hx]
  obtain⟨lt,hlt⟩:∃b,b=Fh e:=⟨_,rfl⟩;have eT:jQ E s e=Ae E (some e.ahead) (30+n+x+e.packed+(if lt then 16 else 0)):=by
   unfold jQ;rw[eB,<-hlt];cases lt;.simp only[Bool.false_eq_true,if_false,Nat.add_zero];rw[Bc]
   simp only[if_true];rw[Bc,Bc];congr 1
  by_cases ht:e.ahead+30+n+x+e.packed+(if lt then 16 else 0)<=E
  .have eT':jQ E s e=some (e.ahead+(30+n+x+e.packed+(if lt then 16 else 0))):=by rw[eT];exact q _ (by omega)
   have eB':jY E s e=some (e.ahead+(30+n+x)):=by rw[eB];exact q _ (by omega)
   have eP:Ae E (jY E s e) e.packed=some (e.ahead+30+n+x+e.packed):=by rw[eB,Bc,q _ (by omega)];congr 1;omega
   have o1:∀k m,e.ahead+k+m<=E->Bv s E (Ae E (some e.ahead) k) m=s.extract (e.ahead+k) (e.ahead+k+m):=fun k m hk=>by
    unfold Bv;rw[Bc,q (k+m) (by omega)];simp only;congr 1<;>omega
   have o2:∀k m,e.ahead+k+m<=E->Ah s E (Ae E (some e.ahead) k) m=Aa s (e.ahead+k) m:=fun k m hk=>by
    rw[q k (by omega)];exact Gy s E _ m hE hk
   have eH:hdB s E (Ae E (some 0) e.ahead) e=(Eg s e.ahead 3 4&&decide (Aa s (e.ahead+6) 2=e.flags)&&decide (Aa s (e.ahead+8) 2=e.method)&&decide (s.extract (e.ahead+30) (e.ahead+30+n)=e.name) && (decide (s.extract (e.ahead+14) (e.ahead+26)=e.three)||(lt&&decide (s.extract (e.ahead+14) (e.ahead+26)=⟨#[0,0,0,0,0,0,0,0,0,0,0,0]⟩)))):=by
    unfold hdB Eg;rw[p0,o2 6 2 (by omega),o2 8 2 (by omega),o2 26 2 (by omega),<-hn,o1 30 n (by omega),o1 14 12 (by omega),<-hlt];have o3:Bv s E (some e.ahead) 4=s.extract e.ahead (e.ahead+4):=by
     have:=o1 0 4 (by omega);rw[q 0 (by omega)]at this;exact this
    have z1:∀a:ByteArray,(a.toList=[0,0,0,0,0,0,0,0,0,0,0,0])↔a=⟨#[0,0,0,0,0,0,0,0,0,0,0,0]⟩:=fun a=>Qc8 a _;rw[o3];simp only[bytes_eq,z1]
   have eL:lt=true->ltB s E (Ae E (jY E s e) e.packed) e=(Eg s (e.ahead+30+n+x+e.packed) 7 8&&decide (Aa s (e.ahead+30+n+x+e.packed+4) 4=e.sum)&&decide (Aa s (e.ahead+30+n+x+e.packed+8) 4=e.packed%4294967296)&&decide (Aa s (e.ahead+30+n+x+e.packed+12) 4=e.size%4294967296)):=by
    intro hl;rw[hl]at ht;simp only[if_true]at ht;unfold ltB Eg;rw[eP];have z:∀k,k<=16->Ae E (some (e.ahead+30+n+x+e.packed)) k=some (e.ahead+30+n+x+e.packed+k):=fun k hk=>by simp[Ae];omega
    rw[z 4 (by omega),z 8 (by omega),z 12 (by omega),Gy s E _ 4 hE (by omega),Gy s E _ 4 hE (by omega),Gy s E _ 4 hE (by omega)];have o3:Bv s E (some (e.ahead+30+n+x+e.packed)) 4=s.extract (e.ahead+30+n+x+e.packed) (e.ahead+30+n+x+e.packed+4):=by
     unfold Bv;rw[z 4 (by omega)];simp only;congr 1
    rw[o3]
   have eO:Kr E s e=((Eg s e.ahead 3 4&&decide (Aa s (e.ahead+6) 2=e.flags)&&decide (Aa s (e.ahead+8) 2=e.method)&&decide (s.extract (e.ahead+30) (e.ahead+30+n)=e.name) && (decide (s.extract (e.ahead+14) (e.ahead+26)=e.three)||(lt&&decide (s.extract (e.ahead+14) (e.ahead+26)=⟨#[0,0,0,0,0,0,0,0,0,0,0,0]⟩)))) && (!lt||(Eg s (e.ahead+30+n+x+e.packed) 7 8&&decide (Aa s (e.ahead+30+n+x+e.packed+4) 4=e.sum)&&decide (Aa s (e.ahead+30+n+x+e.packed+8) 4=e.packed%4294967296)&&decide (Aa s (e.ahead+30+n+x+e.packed+12) 4=e.size%4294967296)))):=by
    unfold Kr;rw[eT',eH,<-hlt];cases lt with
    |false=>simp
    |true=>rw[eL rfl];simp
   rw[eO,eB',eT'];unfold Gj;simp only[<-hn,<-hx,<-hlt,Ih,Option.getD_some];refine Qgn ?_ (by congr 2<;>omega);simp only[Bool.and_eq_true,Bool.or_eq_true,Bool.not_eq_true',decide_eq_true_eq];refine⟨fun h=>?_,fun h=>?_⟩
   .obtain⟨_,_,a1,a2,a3,a4,a5,a6⟩:=h;refine⟨⟨⟨⟨⟨a1,a2⟩,a3⟩,a4⟩,a5⟩,?_⟩;cases lt;.exact .inl rfl
    obtain⟨b1,b2,b3,b4⟩:=a6 rfl;exact .inr ⟨⟨⟨b1,b2⟩,b3⟩,b4⟩
   obtain⟨⟨⟨⟨⟨a1,a2⟩,a3⟩,a4⟩,a5⟩,a6⟩:=h;refine⟨h30,ht,a1,a2,a3,a4,a5,fun hl=>?_⟩;rcases a6 with a6|⟨⟨⟨b1,b2⟩,b3⟩,b4⟩;.rw[hl]at a6;cases a6
   exact⟨b1,b2,b3,b4⟩
  have eT':jQ E s e=none:=by rw[eT];exact q' _ (by omega)
  have eO:Kr E s e=false:=by unfold Kr;rw[eT'];simp
  rw[eO];unfold Gj;simp only[<-hn,<-hx,<-hlt];rw[if_neg (by intro h;exact ht h.2.1)];rfl
 have eO:Kr E s e=false:=by
  have p0:∀k,30<=k->Ae E (Ae E (some 0) e.ahead) k=none:=by
   intro k hk;rw[Bc];simp[Ae];omega
  have eB:jY E s e=none:=by unfold jY;exact p0 _ (by omega)
  have eT:jQ E s e=none:=by unfold jQ;rw[eB];cases Fh e<;>rfl
  unfold Kr;rw[eT];simp
 rw[eO];unfold Gj;rw[if_neg (by intro h;exact h30 h.1)];rfl
end Go.Proofs.YtmhlkdlcpicekaaGreatDoor
