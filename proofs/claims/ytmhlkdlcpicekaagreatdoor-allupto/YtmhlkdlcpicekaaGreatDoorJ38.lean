/- Joined. -/
import Derived.Test.YtmhlkdlcpicekaaGreatDoorJ37
import Derived.Test.YtmhlkdlcpicekaaGreatDoorJ20
set_option linter.unusedSimpArgs false
set_option linter.unusedVariables false
set_option maxRecDepth 100000
set_option maxHeartbeats 20000000
namespace Go.Proofs.YtmhlkdlcpicekaaGreatDoor
open Go.RowKit Go.Shelf
theorem Qc3(w:World)(x y z:Value)(t:TypeId):(w.alloc (Obj.cells #[x,y,z] t)).cell? ⟨w.heap.size,0,none⟩=some x/\(w.alloc (Obj.cells #[x,y,z] t)).cell? ⟨w.heap.size,1,none⟩=some y/\(w.alloc (Obj.cells #[x,y,z] t)).cell? ⟨w.heap.size,2,none⟩=some z:=by
 have hb:=heap_alloc_new w (Obj.cells #[x,y,z] t);refine⟨?_,?_,?_⟩<;>rw[Ac hb]<;>rfl
theorem Ti(w:World)(l:List Value)(t:TypeId):∀(j:Nat) (v:Value),l[j]?=some v->(w.alloc (Obj.cells l.toArray t)).cell? ⟨w.heap.size,j,none⟩=some v:=fun j v h=>by
 rw[Ac (heap_alloc_new w _)];simpa using h
open Go.Lib
def Qfw(w:World)(y:Nat)(H:Nat->Prop)(X:Nat×List Fold×Bo×Bool)(r:Ending)(w':World):Prop:=∃H',r=.returned (.int .i64 (X.1:Int))/\Jc w' y H' X.2.1 X.2.2.1 X.2.2.2/\Touch H w w'/\∀q,H' q->H q\/w.heap.size<=q
theorem Qib(w:World)(y:Nat)(H:Nat->Prop)(l:List Fold)(c:Bo)(np:Bool)(h:Jc w y H l c np)(name A:ByteArray)(qe qn qb:Int)(hA:A.size<=1048576)(hnm:name.size<=1048576)(hl:l.length<=1000000000): Calls Tryz.prog 105 #[.pointer (some ⟨y,0,none⟩),.string name,.string A,.agg #[.int .i64 qe,.int .i64 qn,.int .i64 qb]] w fun r w'=>Qfw w y H (Ha l c np name (Gm A qe qn qb)) r w':=by
 obtain⟨iS,hiS,hzS0,hzS1,hzS2⟩:=info_parts Tryz.Qc0;have T0:Touch (fun _=>False) w (w.alloc (Obj.cells #[.int .i64 qe,.int .i64 qn,.int .i64 qb] 63)):=(Touch.refl _ w).alloc _;have hy:=h.low y h.own;have HFIN:Hid (∀W,Touch (fun _=>False) w W->∃H',Jc W y H' l c np/\Touch H w W/\∀q,H' q->H q\/w.heap.size<=q):=fun W t=>⟨H,h.same t,t.wide (fun k e=>e.elim),fun q e=>.inl e⟩;obtain⟨vS,fa,L,h1,h2,h3,h4,h5,h6⟩:=h.box;obtain⟨q0,q1,q2⟩:=Qc3 w (.int .i64 qe) (.int .i64 qn) (.int .i64 qb) 63;have hb0:=(T0.block y hy (fun e=>e)).trans h1;cases np with
 |true=>
  have e:Ha l c true name (Gm A qe qn qb)=(14,l,c,true):=rfl;rw[e];have c3:(w.alloc (Obj.cells #[.int .i64 qe,.int .i64 qn,.int .i64 qb] 63)).cell? ⟨y,3,none⟩=some (.bool true):=by rw[Ac hb0];rfl
  obtain⟨H',g1,g2,g3⟩:=HFIN.out _ T0;have HG:Hid (Jc (w.alloc (Obj.cells #[.int .i64 qe,.int .i64 qn,.int .i64 qb] 63)) y H' l c true/\Touch H w (w.alloc (Obj.cells #[.int .i64 qe,.int .i64 qn,.int .i64 qb] 63))/\∀q,H' q->H q\/w.heap.size<=q):=⟨g1,g2,g3⟩;clear h h1 h2 h3 h4 h5 h6 g1 g2 g3 HFIN hb0;go_enter Tryz.func105,Tryz.ntmps105;go_wp2;go_ret;exact⟨H',rfl,HG.out.1,HG.out.2.1,HG.out.2.2⟩
 |false=>
  obtain⟨X,hX⟩:∃X,X=Ha l c false name (Gm A qe qn qb):=⟨_,rfl⟩;rw[<-hX];have HX:Hid (X=Ha l c false name (Gm A qe qn qb)):=hX;clear hX;have HIN:Hid (∀W,Calls Tryz.prog 161 #[.string name] W fun e w'=>e=.returned (.bool (Ci name))/\Touch (fun _=>False) W w'):=fun W=>mW W name (by omega);have HUP:Hid (∀W,Calls Tryz.prog 102 #[.string A,.agg #[.int .i64 qe,.int .i64 qn,.int .i64 qb]] W fun r w'=>Touch (fun _=>False) W w'/\match Gm A qe qn qb with
   |.inl k=>r=.returned (.tuple #[.slice none 0 0,.int .i64 (k:Int)])
   |.inr o=>∃v,r=.returned (.tuple #[v,.int .i64 0])/\Fj w' W.heap.size v o):=fun W=>Qip W A qe qn qb hA
  obtain⟨n,hn⟩:∃n,n=L.length:=⟨_,rfl⟩;have hn1:n<=1000000000:=by rw[hn,<-List.length_map (f:=(·.1)),h4];exact hl
  have HN:Hid (n=L.length):=hn;have HR:Hid (Jc w y H l c false):=h;have HB:Hid (w.heap[y]?=some (.cells #[vS,.int .i64 (leftOf c),.bool fa,.bool false] 68 (0,0))/\(c.isSome=true->fa=Jg c)/\(∀q,vS.ownBlock=some q->H q)/\L.map (·.1)=l/\w.ownsRow 0 74 2 vS L.length (Jm L)/\∀x∈L,Fj w 0 x.2 x.1.2/\∀q,x.2.ownBlock=some q->H q):=⟨h1,h2,h3,h4,h5,h6⟩;have HQ:Hid (∀W,Touch (fun _=>False) (w.alloc (Obj.cells #[.int .i64 qe,.int .i64 qn,.int .i64 qb] 63)) W->W.cell? ⟨w.heap.size,0,none⟩=some (.int .i64 qe)/\W.cell? ⟨w.heap.size,1,none⟩=some (.int .i64 qn)/\W.cell? ⟨w.heap.size,2,none⟩=some (.int .i64 qb)):=fun W t=>⟨t.at q0 (fun e=>e),t.at q1 (fun e=>e),t.at q2 (fun e=>e)⟩;have HY:Hid (∀W,Touch (fun _=>False) w W->W.heap[y]?=some (.cells #[vS,.int .i64 (leftOf c),.bool fa,.bool false] 68 (0,0))):=fun W t=>(t.block y hy (fun e=>e)).trans h1;have c3:(w.alloc (Obj.cells #[.int .i64 qe,.int .i64 qn,.int .i64 qb] 63)).cell? ⟨y,3,none⟩=some (.bool false):=by rw[Ac hb0];rfl
  have HSH:Hid (n=L.length->(vS=.slice none 0 0/\L=[])\/∃g cap,vS=.slice (some ⟨g,0,none⟩) n cap/\n<=cap/\g<w.heap.size/\∀j u,(Jm L)[j]?=some u->w.cell? ⟨g,j,none⟩=some u):=fun e=>by rw[e];exact xP h5
  have HF2:Hid (∀W,Touch (fun _=>False) w W->∃H',Jc W y H' l c false/\Touch H w W/\∀q,H' q->H q\/w.heap.size<=q):=HFIN;have HAS:Hid (A.size<=1048576):=hA;clear h h1 h2 h3 h4 h5 h6 HFIN hb0 q0 q1 q2 hn hl hA;go_enter Tryz.func105,Tryz.ntmps105;go_wp2_with fail;refine(HIN.out _).mono ?_;rintro e w1 ⟨rfl,t1⟩;have T1:=T0.trans t1;have HT1:Hid (Touch (fun _=>False) w w1):=T1;have HQ1:Hid (∀W,Touch (fun _=>False) w1 W->W.cell? ⟨w.heap.size,0,none⟩=some (.int .i64 qe)/\W.cell? ⟨w.heap.size,1,none⟩=some (.int .i64 qn)/\W.cell? ⟨w.heap.size,2,none⟩=some (.int .i64 qb)):=fun W t=>HQ.out W (t1.trans t);have hsz1:w.heap.size<w1.heap.size:=by have:=t1.size;rw[World.size_alloc]at this;omega
  clear t1 T1 T0 c3 HIN HQ;cases hno:Ci name with
  |false=>
   have HE:Hid (X=(15,l,c,false)):=by
    unfold Hid;rw[HX.out];unfold Ha Dq;rw[if_neg (by simp),hno,if_pos (by simp)]
   obtain⟨H',g1,g2,g3⟩:=HF2.out _ HT1.out;have HG:Hid (Jc w1 y H' l c false/\Touch H w w1/\∀q,H' q->H q\/w.heap.size<=q):=⟨g1,g2,g3⟩;clear g1 g2 g3 HUP HSH HB HR;go_wp2;go_ret;rw[HE.out];exact⟨H',rfl,HG.out.1,HG.out.2.1,HG.out.2.2⟩
  |true=>
   go_wp2;go_loop [10] (fun i=>∃k:Nat,k<=name.size/\i=.int .i64 (k:Int)/\Hid (∀j (h:j<name.size),j<k->name[j]≠47)) (fun i=>name.size-(intOf i).toNat)
   case atStart=>exact⟨0,Nat.zero_le _,rfl,(fun j h hj=>by omega)⟩
   case round=>
    obtain⟨k,hk,rfl,HJ⟩:=hrel;by_cases hlt:k<name.size
    .have i1:(k:Int)<(name.size:Int):=(by omega);by_cases hc:name[k]=47
     .have HE:Hid (X=(15,l,c,false)):=by
       unfold Hid;rw[HX.out];unfold Ha Dq;rw[if_neg (by simp),hno,Qe5 hlt hc,if_pos (by simp)]
      have c1:((name[k].toNat:Int)==47)=true:=(by rw[hc];rfl);have c2:(name[k].toNat:Int)=47:=(by rw[hc];rfl);obtain⟨H',g1,g2,g3⟩:=HF2.out _ HT1.out;have HG:Hid (Jc w1 y H' l c false/\Touch H w w1/\∀q,H' q->H q\/w.heap.size<=q):=⟨g1,g2,g3⟩;clear g1 g2 g3 HUP HSH HB HR hc HJ;go_wp2;go_ret;rw[HE.out];exact⟨H',rfl,HG.out.1,HG.out.2.1,HG.out.2.2⟩
     have c2:¬(name[k].toNat:Int)=47:=fun e=>hc (UInt8.toNat_inj.1 (by rw[show name[k].toNat=47 by omega];rfl));have c1:((name[k].toNat:Int)==47)=false:=(by simpa using c2);have HJ2:Hid (∀j (h:j<name.size),j<k+1->name[j]≠47):=fun j h hj=>by
      by_cases e:j=k;.subst e;exact hc
      exact HJ.out j h (by omega)
     clear HJ hc;go_wp2;exact⟨⟨k+1,by omega,by go_num,HJ2⟩,by simp[intOf];omega⟩
    have hsl:Ou name=false:=Qdb (fun j hj=>HJ.out j hj (by omega));have HFN:Hid (Dq name=true):=(by unfold Hid Dq;rw[hno,hsl];rfl);have i1:¬(k:Int)<(name.size:Int):=(by omega);have c0:w1.cell? ⟨y,0,none⟩=some vS:=(by rw[Ac (HY.out w1 HT1.out)];rfl);clear HJ hsl;obtain⟨a,cap,hvS,hcap,HCE⟩:∃a cap,vS=.slice a n cap/\n<=cap/\Hid ((a=none/\n=0/\cap=0)\/∃g,a=some ⟨g,0,none⟩/\g<w.heap.size/\∀j u,(Jm L)[j]?=some u->w.cell? ⟨g,j,none⟩=some u):=by
     rcases HSH.out HN.out with⟨e1,e2⟩|⟨g,cap,e1,e2,e3,e4⟩;.exact⟨none,0,by rw[HN.out,e2];exact e1,by rw[HN.out,e2];exact Nat.zero_le _,.inl ⟨rfl,by rw[HN.out,e2];rfl,rfl⟩⟩
     exact⟨some ⟨g,0,none⟩,cap,e1,e2,.inr ⟨g,rfl,e3,e4⟩⟩
    subst hvS;have HCL:Hid (∀W,Touch (fun _=>False) w W->∀j (h:j<L.length),∃g,a=some ⟨g,0,none⟩/\g<W.heap.size/\W.cell? ⟨g,j*2,none⟩=some (.string L[j].1.1)/\W.cell? ⟨g,j*2+1,none⟩=some L[j].2):=fun W t j h=>by
     rcases HCE.out with⟨_,e2⟩|⟨g,e1,e2,e3⟩;.have:=HN.out;omega
     obtain⟨k1,k2⟩:=gY L j h;exact⟨g,e1,Nat.lt_of_lt_of_le e2 t.size,t.at (e3 _ _ k1) (fun e=>e),t.at (e3 _ _ k2) (fun e=>e)⟩
    clear HSH;go_wp2;go_loop [11] (fun i=>∃k:Nat,k<=n/\i=.int .i64 (k:Int)/\Hid (∀j (h:j<L.length),j<k->L[j].1.1≠name)) (fun i=>n-(intOf i).toNat)
    case atStart=>exact⟨0,Nat.zero_le _,rfl,(fun j h hj=>by omega)⟩
    case round=>
     clear hk hlt i1;obtain⟨k,hk,rfl,HJ⟩:=hrel;by_cases hlt:k<n
     .have hk':k<L.length:=(by have:=HN.out;omega);obtain⟨g,rfl,hg,x0,x1⟩:=HCL.out w1 HT1.out k hk';have i1:(k:Int)<(n:Int):=(by omega);by_cases he:L[k].1.1=name
      .have HE:Hid (X=(8,l,c,false)):=by
        unfold Hid;rw[HX.out];unfold Ha;rw[if_neg (by simp),HFN.out,if_neg (by simp),if_pos ((Zk _ _).2 ?_)];rw[<-HB.out.2.2.2.1];exact List.mem_map.2 ⟨L[k].1,List.mem_map.2 ⟨L[k],List.getElem_mem hk',rfl⟩,by unfold Ir;rw[he]⟩
       rw[he]at x0;have b1:(name.toList==name.toList)=true:=(by simp);obtain⟨H',g1,g2,g3⟩:=HF2.out _ HT1.out;have HG:Hid (Jc w1 y H' l c false/\Touch H w w1/\∀q,H' q->H q\/w.heap.size<=q):=⟨g1,g2,g3⟩;clear g1 g2 g3 HUP HB HR he HJ x1 HCL;go_wp2;go_ret;rw[HE.out];exact⟨H',rfl,HG.out.1,HG.out.2.1,HG.out.2.2⟩
      obtain⟨nm,hnm'⟩:∃nm,nm=L[k].1.1:=⟨_,rfl⟩;have HJ2:Hid (∀j (h:j<L.length),j<k+1->L[j].1.1≠name):=fun j h hj=>by
       by_cases e:j=k;.subst e;exact he
       exact HJ.out j h (by omega)
      rw[<-hnm']at x0 he;have b1:(nm.toList==name.toList)=false:=by
       rw[beq_eq_false_iff_ne];intro e;exact he (Oo (by rw[<-toList_data,<-toList_data];exact e))
      clear hnm' HJ he x1 HCL;go_wp2;exact⟨⟨k+1,by omega,by go_num,HJ2⟩,by simp[intOf];omega⟩
     have HNI:Hid (yX l name=false):=by
      unfold Hid;cases hi:yX l name with
      |false=>rfl
      |true=>
       have h9:=(Zk _ _).1 hi;rw[<-HB.out.2.2.2.1]at h9;obtain⟨x,hx,e⟩:=List.mem_map.1 h9;obtain⟨z,hz,rfl⟩:=List.mem_map.1 hx;obtain⟨j,hj,rfl⟩:=List.getElem_of_mem hz;exact absurd (Oo e) (HJ.out j hj (by have:=HN.out;omega))
     have i1:¬(k:Int)<(n:Int):=(by omega);have HXU:Hid (X=Qh1 l c name (Gm A qe qn qb)):=by
      unfold Hid;rw[HX.out];exact Qgx l c name _ HFN.out HNI.out
     obtain⟨d0,d1,d2⟩:=HQ1.out w1 (Touch.refl _ _);clear HJ HX HFN;go_wp2_with fail;refine(HUP.out _).mono ?_;rintro e w2 ⟨t2,hp⟩;clear d0 d1 d2 HUP;have HT2:Hid (Touch (fun _=>False) w w2):=HT1.out.trans t2;have hs12:=t2.size;cases hU:Gm A qe qn qb with
     |inl kk=>
      rw[hU]at hp HXU;obtain rfl:=(show e=_ from hp);have HE:Hid (X=(kk,l,c,false)):=HXU;have hkk:=mM (by have:=HAS.out;omega) hU;have z1:((kk:Int) != 0)=true:=(by simp;omega);have z2:¬(kk:Int)=0:=(by omega);obtain⟨H',g1,g2,g3⟩:=HF2.out _ HT2.out;have HG:Hid (Jc w2 y H' l c false/\Touch H w w2/\∀q,H' q->H q\/w.heap.size<=q):=⟨g1,g2,g3⟩;clear g1 g2 g3 HB HR HCL HXU hp;go_wp2;go_ret;rw[HE.out];exact⟨H',rfl,HG.out.1,HG.out.2.1,HG.out.2.2⟩
     |inr o=>
      rw[hU]at hp HXU;obtain⟨v,rfl,hv⟩:=hp;obtain⟨hFO,hol,hod⟩:=fB HAS.out hU
      -- TAIL
      obtain⟨va,vc,vg,hvv,hvf⟩:=Qi5 hv;subst hvv;have HVR:Hid (Fj w2 w1.heap.size (.slice va o.length vc) o):=hv;have HST:Hid (∀W,Touch (fun _=>False) w2 W->Calls Tryz.prog 162 #[.slice va o.length vc] W fun r w'=>r=.returned (.int .i64 ((Eh o+1:Nat):Int))/\W=w'):=fun W t=>by
       rw[Qaf o hFO];exact Qdq W va vg vc o (fun h0=>⟨(hvf h0).1,fun i hi=>⟨t.at ((hvf h0).2.1 i hi).1 (fun e=>e),t.at ((hvf h0).2.1 i hi).2 (fun e=>e)⟩⟩) hol hod
      obtain⟨on,hon⟩:∃on,on=o.length:=⟨_,rfl⟩;rw[<-hon]at HST HVR ⊢;have HON':Hid (on=o.length):=hon;have hstb:Eh o+1<=2199027256000000001:=by
       rw[Qaf o hFO];have h8:=yT o 1099511627776 hod o.length;have h9:o.length*(1099511627776+2)<=2000000*(1099511627776+2):=Nat.mul_le_mul_right _ hol;omega
      obtain⟨st,hst⟩:∃st,st=Eh o+1:=⟨_,rfl⟩;rw[<-hst]at HST hstb;have HXS:Hid (X=match takeC c st with
        |some d=>(0,Oh l (name,o),d,false)
        |none=>(14,l,if Jg c then none else some (0,false),!Jg c)):=by
       unfold Hid;rw[HXU.out,hst];unfold Qh1;simp only;cases takeC c (Eh o+1)<;>rfl
      clear hv hvf hFO hol hod hon hst HXU;go_wp2_with fail;refine(HST.out w2 (Touch.refl _ _)).mono ?_;rintro e w2' ⟨rfl,rfl⟩;have hb2:=HY.out w2 HT2.out;have cl:w2.cell? ⟨y,1,none⟩=some (.int .i64 (leftOf c)):=(by rw[Ac hb2];rfl);have cf:w2.cell? ⟨y,2,none⟩=some (.bool fa):=(by rw[Ac hb2];rfl);have cc3:w2.cell? ⟨y,3,none⟩=some (.bool false):=(by rw[Ac hb2];rfl);have fl1:=Ew hb2 1;have fl3:=Ew hb2 3;have hy2:y<w2.heap.size:=(by omega);have HB2:Hid (w2.heap[y]?=some (.cells #[.slice a n cap,.int .i64 (leftOf c),.bool fa,.bool false] 68 (0,0))):=hb2;have HLO:Hid ((Ol c:Int)<=9223372036854775807):=HR.out.hc
      -- the store behind a turn of its own cells
      have HTU:Hid (∀(W:World) (c':Bo) (fa' np':Bool),Touch (fun q=>q=y) w2 W->W.heap[y]?=some (.cells #[.slice a n cap,.int .i64 (leftOf c'),.bool fa',.bool np'] 68 (0,0))->(c'.isSome=true->fa'=Jg c')->(Ol c':Int)<=9223372036854775807->Jc W y H l c' np'/\Touch H w W):=fun W c' fa' np' t hb hf hc=>by
       obtain⟨k1,k2,k3,k4,k5,k6⟩:=HB.out;have hR2:=HR.out.same HT2.out;refine⟨hR2.turn HB2.out k3 k4 (HT2.out.owns k5 (fun _ _ e=>e)) (fun x hx=>⟨HT2.out.owns (k6 x hx).1 (fun _ _ e=>e),(k6 x hx).2⟩) t hb hf hc,?_⟩;exact(HT2.out.wide (G:=H) (fun k e=>e.elim)).trans (t.wide (fun k e=>by rw[e];exact HR.out.own))
      clear hb2;by_cases hno:takeC c st=none
      .obtain⟨nn,f,rfl,hlt2⟩:∃nn f,c=some (nn,f)/\¬st<=nn:=by
        rcases c with _|⟨nn,f⟩;.cases hno
        refine⟨nn,f,rfl,fun e=>?_⟩;simp only[takeC]at hno;rw[if_pos e]at hno;cases hno
       have HE0:=HXS.out;rw[hno]at HE0;have hfa:fa=f:=HB.out.2.1 rfl;subst hfa;have j1:(0:Int)<=(nn:Int):=(by omega);have j2:(nn:Int)<(st:Int):=(by omega);change w2.cell? ⟨y,1,none⟩=some (.int .i64 (nn:Int))at cl;cases fa with
       |true=>
        have HE:Hid (X=(14,l,none,false)):=HE0;obtain⟨g1,g2⟩:=HTU.out (w2.setCell ⟨y,1,none⟩ (.int .i64 (-1))) none true false (Bf w2 y 1 _) (Dz HB2.out 1 _) (fun e=>by cases e) (by simp[Ol]);have HG:Hid (Jc (w2.setCell ⟨y,1,none⟩ (.int .i64 (-1))) y H l none false/\Touch H w (w2.setCell ⟨y,1,none⟩ (.int .i64 (-1)))):=⟨g1,g2⟩;clear g1 g2 HE0 HXS HTU HB2 HB HR HCL HCE HY HLO HST HVR hno;go_wp2;go_ret;rw[HE.out];exact⟨H,rfl,HG.out.1,HG.out.2,fun q e=>.inl e⟩
       |false=>
        have HE:Hid (X=(14,l,some (0,false),true)):=HE0;obtain⟨g1,g2⟩:=HTU.out ((w2.setCell ⟨y,1,none⟩ (.int .i64 0)).setCell ⟨y,3,none⟩ (.bool true)) (some (0,false)) false true ((Bf w2 y 1 _).trans (Bf _ y 3 _)) (Dz (Dz HB2.out 1 _) 3 _) (fun _=>rfl) (by simp[Ol]);have HG:Hid (Jc ((w2.setCell ⟨y,1,none⟩ (.int .i64 0)).setCell ⟨y,3,none⟩ (.bool true)) y H l (some (0,false)) true/\Touch H w ((w2.setCell ⟨y,1,none⟩ (.int .i64 0)).setCell ⟨y,3,none⟩ (.bool true))):=⟨g1,g2⟩;clear g1 g2 HE0 HXS HTU HB2 HB HR HCL HCE HY HLO HST HVR hno;go_wp2;go_ret;rw[HE.out];exact⟨H,rfl,HG.out.1,HG.out.2,fun q e=>.inl e⟩
      obtain⟨d,hd⟩:∃d,takeC c st=some d:=by cases hx:takeC c st with|none=>exact absurd hx hno|some d=>exact⟨d,rfl⟩
      have HE0:=HXS.out;rw[hd]at HE0;have HE:Hid (X=(0,Oh l (name,o),d,false)):=HE0;have HW6:Hid (∀w6,Touch (fun q=>q=y) w2 w6->w6.heap[y]?=some (.cells #[.slice a n cap,.int .i64 (leftOf d),.bool fa,.bool false] 68 (0,0))->(d.isSome=true->fa=Jg d)->(Ol d:Int)<=9223372036854775807 ->(∀j (h:j<L.length),∃g,a=some ⟨g,0,none⟩/\g<w6.heap.size/\w6.cell? ⟨g,j*2,none⟩=some (.string L[j].1.1)) /\(∀g,a=some ⟨g,0,none⟩->g<w6.heap.size/\∀j u,(Jm L)[j]?=some u->w6.cell? ⟨g,j,none⟩=some u) /\∀(w3:World) (v3:Value) (k:Nat),k<=n->Touch (fun q=>w6.heap.size<=q) w6 w3->w3.ownsRow w6.heap.size 74 2 v3 (k+1+(L.length-k)) (Jm (L.take k++((name,o),.slice va on vc)::L.drop k))->(Oh l (name,o)=(L.take k++((name,o),.slice va on vc)::L.drop k).map (·.1))->Qfw w y H (0,Oh l (name,o),d,false) (.returned (.int .i64 0)) (w3.setCell ⟨y,0,none⟩ v3)):=fun w6 t6 hb6 hf6 hc6=>by
       obtain⟨k1,k2,k3,k4,k5,k6⟩:=HB.out;obtain⟨hR6,hT6⟩:=HTU.out w6 d fa false t6 hb6 hf6 hc6;have hyt:Typed w y 68:=⟨_,_,k1⟩;have hty2:Typed w2 y 68:=⟨_,_,HB2.out⟩;have hgr:∀g,a=some ⟨g,0,none⟩->g<w6.heap.size/\∀j u,(Jm L)[j]?=some u->w6.cell? ⟨g,j,none⟩=some u:=fun g hg=>by
        rcases HCE.out with⟨e1,_⟩|⟨g',e1,e2,e3⟩;.rw[e1]at hg;cases hg
        rw[e1]at hg;cases hg;have hne:g≠y:=fun e=>by
         subst e;have h9:Typed w g 74:=Typed.owned k5 (by rw[e1];rfl);exact absurd (h9.ne hyt) (by decide)
        exact⟨Nat.lt_of_lt_of_le e2 (Nat.le_trans HT2.out.size t6.size),fun j u hu=>t6.at (HT2.out.at (e3 j u hu) (fun e=>e)) hne⟩
       refine⟨fun j h=>?_,hgr,fun w3 v3 k hk t3 ho3 hins=>?_⟩
       .rcases HCE.out with⟨_,e2⟩|⟨g,e1,_,_⟩;.have:=HN.out;omega
        obtain⟨q1,q2⟩:=hgr g e1;exact⟨g,e1,q1,q2 _ _ (gY L j h).1⟩
       have hs6:w.heap.size<=w6.heap.size:=Nat.le_trans HT2.out.size t6.size;have hs3:=t3.size;have hy6:y<w6.heap.size:=hR6.low y hR6.own;have tH:Touch H w6 (w3.setCell ⟨y,0,none⟩ v3):=by
        have q1:Touch (fun q=>H q\/w6.heap.size<=q) w6 w3:=t3.wide (fun k e=>.inr e);exact(q1.setCell (p:=⟨y,0,none⟩) (.inl HR.out.own) _).mono (fun q hq e=>e.elim (fun e=>e) (fun e=>by omega))
       have hsz:(w3.setCell ⟨y,0,none⟩ v3).heap.size=w3.heap.size:=(by simp);have hb3:w3.heap[y]?=some (.cells #[.slice a n cap,.int .i64 (leftOf d),.bool fa,.bool false] 68 (0,0)):=(t3.block y hy6 (by omega)).trans hb6;refine⟨fun q=>H q\/(w.heap.size<=q/\q<w3.heap.size),rfl,⟨fun q hq=>?_,.inl HR.out.own,hc6,v3,fa,L.take k++((name,o),.slice va on vc)::L.drop k,(Dz hb3 0 v3).trans rfl,hf6,fun q hq=>?_,hins.symm,?_,fun x hx=>?_⟩,hT6.trans tH,fun q e=>e.imp (fun e=>e) (fun e=>e.1)⟩
       .rw[hsz];exact hq.elim (fun e=>Nat.lt_of_lt_of_le (HR.out.low q e) (by omega)) (fun e=>e.2)
       .have h9:=ho3.lt q hq;exact .inr ⟨by omega,h9.2⟩
       .have hl2:(L.take k++((name,o),.slice va on vc)::L.drop k).length=k+1+(L.length-k):=by
         have:=HN.out;rw[List.length_append,List.length_take,List.length_cons,List.length_drop];omega
        rw[hl2];refine(Bf w3 y 0 v3).owns (Je ho3 (Nat.zero_le _)) (fun q hq e=>?_);subst e;have:=(ho3.lt q hq).1;omega
       have hold:∀(u:Value) (oo:List Gn) (B:Nat),Fj w2 B u oo->(∀q,u.ownBlock=some q->q≠y)->Fj (w3.setCell ⟨y,0,none⟩ v3) 0 u oo:=fun u oo B hu hq'=>by
        have u6:=t6.owns hu (fun q hq e=>hq' q hq e);have u3:=t3.owns u6 (fun q hq e=>by have:=(u6.lt q hq).2;omega);exact Je ((Bf w3 y 0 v3).owns u3 (fun q hq e=>hq' q hq e)) (Nat.zero_le _)
       have hLx:∀z∈L,Fj (w3.setCell ⟨y,0,none⟩ v3) 0 z.2 z.1.2/\∀q,z.2.ownBlock=some q->H q\/(w.heap.size<=q/\q<w3.heap.size):=fun z hz=>by
        refine⟨hold _ _ 0 (HT2.out.owns (k6 z hz).1 (fun _ _ e=>e)) (fun q hq e=>?_),fun q hq=>.inl ((k6 z hz).2 q hq)⟩;subst e;exact absurd ((Typed.owned (k6 z hz).1 hq).ne hyt) (by decide)
       rcases List.mem_append.1 hx with hx|hx;.exact hLx x (List.mem_of_mem_take hx)
       rcases List.mem_cons.1 hx with rfl|hx
       .refine⟨hold _ _ _ (by have h9:=HVR.out;rw[HON'.out]at h9 ⊢;exact h9) (fun q hq e=>?_),fun q hq=>?_⟩
        .subst e;have h9:=(HVR.out.lt q hq).1;omega
        have h9:=HVR.out.lt q hq;have h8:=t6.size;exact .inr ⟨by omega,by omega⟩
       exact hLx x (List.mem_of_mem_drop hx)
      have HAN:Hid ((a=none/\n=0/\cap=0)\/∃g,a=some ⟨g,0,none⟩):=HCE.out.imp (fun e=>e) (fun⟨g,e,_⟩=>⟨g,e⟩);have HON:Hid (∀k,(∀u∈Jm (L.take k),u.oneCell'=true)/\∀u∈Jm (L.drop k),u.oneCell'=true):=fun k=>by
       have hf:∀x∈L,∃a n c,x.2=.slice a n c:=fun x hx=>by
        obtain⟨b1,b2,b3⟩:=Ei (HB.out.2.2.2.2.2 x hx).1;exact⟨b1,_,b2,b3⟩
       exact⟨Qa3 _ (fun x hx=>hf x (List.mem_of_mem_take hx)),Qa3 _ (fun x hx=>hf x (List.mem_of_mem_drop hx))⟩
      have HML:Hid (L.map (·.1)=l):=HB.out.2.2.2.1;obtain⟨w6,hw6,hL6,hnn⟩:∃w6,(w6=w2\/∃nn:Nat,leftOf c=(nn:Int)/\st<=nn/\w6=w2.setCell ⟨y,1,none⟩ (.int .i64 ((nn:Int)-(st:Int))))/\Hid (Touch (fun q=>q=y) w2 w6/\w6.heap[y]?=some (.cells #[.slice a n cap,.int .i64 (leftOf d),.bool fa,.bool false] 68 (0,0))/\(d.isSome=true->fa=Jg d)/\(Ol d:Int)<=9223372036854775807)/\(w6=w2/\c=none\/∃nn f,c=some (nn,f)/\st<=nn/\w6=w2.setCell ⟨y,1,none⟩ (.int .i64 ((nn:Int)-(st:Int)))):=by
       rcases c with _|⟨nn,f⟩
       .simp only[takeC,Option.some.injEq]at hd;subst hd;exact⟨w2,.inl rfl,⟨Touch.refl _ _,HB2.out,fun e=>(by cases e),HLO.out⟩,.inl ⟨rfl,rfl⟩⟩
       by_cases hle:st<=nn
       .simp only[takeC]at hd;rw[if_pos hle]at hd;simp only[Option.some.injEq]at hd;subst hd;have hL:leftOf (some (nn-st,f))=(nn:Int)-(st:Int):=(by show((nn-st:Nat):Int)=_;omega);have hfa:fa=f:=HB.out.2.1 rfl;refine⟨_,.inr ⟨nn,rfl,hle,rfl⟩,⟨Bf w2 y 1 _,?_,fun _=>hfa,?_⟩,.inr ⟨nn,f,rfl,hle,rfl⟩⟩;.rw[hL];exact Dz HB2.out 1 _
        have:=HLO.out;simp only[Ol]at this ⊢;omega
       simp only[takeC]at hd;rw[if_neg hle]at hd;cases hd
      obtain⟨HC6,HG6,HRS0⟩:=HW6.out w6 hL6.out.1 hL6.out.2.1 hL6.out.2.2.1 hL6.out.2.2.2;have HC:Hid (∀j (h:j<L.length),∃g,a=some ⟨g,0,none⟩/\g<w6.heap.size/\w6.cell? ⟨g,j*2,none⟩=some (.string L[j].1.1)):=HC6;have HG:Hid (∀g,a=some ⟨g,0,none⟩->g<w6.heap.size/\∀j u,(Jm L)[j]?=some u->w6.cell? ⟨g,j,none⟩=some u):=HG6;have HRS:Hid (∀(w3:World) (v3:Value) (k:Nat),k<=n->Touch (fun q=>w6.heap.size<=q) w6 w3->w3.ownsRow w6.heap.size 74 2 v3 (k+1+(L.length-k)) (Jm (L.take k++((name,o),.slice va on vc)::L.drop k))->(Oh l (name,o)=(L.take k++((name,o),.slice va on vc)::L.drop k).map (·.1))->Qfw w y H (0,Oh l (name,o),d,false) (.returned (.int .i64 0)) (w3.setCell ⟨y,0,none⟩ v3)):=HRS0;have cy:w6.cell? ⟨y,0,none⟩=some (.slice a n cap):=(by rw[Ac hL6.out.2.1];rfl);have fy:=Ew hL6.out.2.1 0;have hy6:y<w6.heap.size:=Nat.lt_of_lt_of_le hy2 hL6.out.1.size;have hw3:w.heap.size<=w6.heap.size:=Nat.le_trans HT2.out.size hL6.out.1.size;have HNN:(Hid (w6=w2)/\c=none)\/∃nn f,c=some (nn,f)/\st<=nn/\Hid (w6=w2.setCell ⟨y,1,none⟩ (.int .i64 ((nn:Int)-(st:Int)))):=hnn;clear hw6 hnn HC6 HG6 HRS0 HW6 HTU HE0 hd hno HXS HCL HB HCE HR HY HST HVR hL6 HB2 cc3 cf fl3;rcases HNN with⟨H26,rfl⟩|⟨nn,f,rfl,hle,H26⟩;all_goals
       first|(change w2.cell? ⟨y,1,none⟩=some (.int .i64 (-1))at cl)|(change w2.cell? ⟨y,1,none⟩=some (.int .i64 (nn:Int))at cl)
       first|have j1:(0:Int)<=(nn:Int):=by omega|skip
       first|have j2:¬(nn:Int)<(st:Int):=by omega|skip
       first|have j3:(st:Int)<=(nn:Int):=by omega|skip
       first|have hnb:(nn:Int)<=9223372036854775807:=HLO.out|skip
       first|have j4:IntKind.i64.wrap ((nn:Int)-(st:Int))=(nn:Int)-(st:Int):=IntWalk.i64_in _ ⟨by omega,by omega⟩|skip
       go_wp2;rw[<-H26.out];clear cl HLO H26;go_loop [15] (fun i=>∃k:Nat,k<=n/\i=.int .i64 (k:Int)/\Hid (∀j (h:j<L.length),j<k->Ir L[j].1<name.data.toList)) (fun i=>n-(intOf i).toNat)
       case atStart=>exact⟨0,Nat.zero_le _,rfl,(fun j h hj=>by omega)⟩
       case round=>
        obtain⟨k,hk,rfl,HJ⟩:=hrel;have HTL:Hid ((Jm (L.take k)).length=k*2):=(by unfold Hid;rw[gQ,List.length_take];have:=HN.out;omega);by_cases hlt:k<n
        .have hk':k<L.length:=(by have:=HN.out;omega);obtain⟨g,rfl,hg,x0⟩:=HC.out k hk';obtain⟨_,hcell⟩:=HG.out g rfl;have i1:(k:Int)<(n:Int):=(by omega);obtain⟨nm,hnm'⟩:∃nm,nm=L[k].1.1:=⟨_,rfl⟩;rw[<-hnm']at x0;by_cases hls:Ir L[k].1<name.data.toList
         .have b1:Op.bytesLess nm.toList name.toList=true:=by
           rw[bytesLess_eq,hnm'];exact decide_eq_true (by simpa [Ir,ByteArray.toList_eq]using hls)
          have HJ2:Hid (∀j (h:j<L.length),j<k+1->Ir L[j].1<name.data.toList):=fun j h hj=>by
           by_cases e:j=k;.subst e;exact hls
           exact HJ.out j h (by omega)
          clear HJ hls hcell hnm' HC HG HRS;go_wp2;exact⟨⟨k+1,by omega,by go_num,HJ2⟩,by simp[intOf];omega⟩
         have b1:Op.bytesLess nm.toList name.toList=false:=by
          rw[bytesLess_eq,hnm'];exact decide_eq_false (by simpa [Ir,ByteArray.toList_eq]using hls)
         have HIS:Hid (Oh l (name,o)=(L.take k++((name,o),.slice va on vc)::L.drop k).map (·.1)):=by
          unfold Hid;rw[<-HML.out,oI (L.map (·.1)) (name,o) k (by rw[List.length_map];omega) (fun j h hj=>by rw[List.getElem_map];exact HJ.out j (by rw[List.length_map]at h;exact h) hj) (fun h=>by rw[List.getElem_map];exact hls),List.map_append,List.map_cons,List.map_take,List.map_drop]
         have HTK:Hid (∀j u,(Jm (L.take k))[j]?=some u->w6.cell? ((⟨g,0,none⟩:Addr).add j)=some u):=fun j u h=>by
          rw[Addr.add_lit,Nat.zero_add];exact hcell j u (xG L k j u h)
         have HDR:Hid (∀j u,(Jm (L.drop k))[j]?=some u->w6.cell? ⟨g,k*2+j,none⟩=some u):=fun j u h=>hcell _ u (Qej L k j (by omega) u h);have HDL:Hid ((Jm (L.drop k)).length=(n-k)*2):=(by unfold Hid;rw[gQ,List.length_drop];have:=HN.out;omega);have k1:(k:Int)<=(n:Int):=(by omega);have kcc:¬cap=k:=(by omega);have kcc2:¬k=cap:=(by omega);clear HJ hls hcell hnm' HC HG;have c1:0+k<=maxLen:=(by unfold maxLen;omega);have c2:(0+k)*40<=140737488355328:=(by omega);have k0:(0:Int)<=(k:Int):=(by omega);have kc:k<=cap:=(by omega);have kc2:(k:Int)<=(cap:Int):=(by omega);have c3:k+1<=maxLen:=(by unfold maxLen;omega);have c4:(k+1)*40<=140737488355328:=(by omega);have c5:k+1+(n-k)<=maxLen:=(by unfold maxLen;omega);have c6:(k+1+(n-k))*40<=140737488355328:=(by omega);go_wp2_with (first|(at_builtin;refine wpList_append_own _ rfl _ _ 66 rfl w6.heap.size 74 iS (.agg #[.string ⟨#[]⟩,.slice none 0 0]) 2 40 Tryz.underlying66 hiS hzS0 hzS1 hzS2 rfl (by decide) (.slice none 0 0) 0 [] rfl (World.ownsRow_nil _ _ _ _) ⟨g,0,none⟩ k _ (Jm (L.take k)) rfl HTL.out HTK.out (HON.out k).1 c1 c2 (Nat.le_refl _) ?_;intro v1 w4 ho1 hg1 _;have t1:Touch (fun _=>False) w6 w4:=(Touch.refl (fun _=>False) w6).grown hg1 (fun q hq=>by cases hq);have s1:=t1.size;rw[Nat.zero_add,List.nil_append]at ho1)|(at_builtin;refine wpList_append_own _ rfl _ _ 66 rfl w6.heap.size 74 iS (.agg #[.string ⟨#[]⟩,.slice none 0 0]) 2 40 Tryz.underlying66 hiS hzS0 hzS1 hzS2 rfl (by decide) v1 k (Jm (L.take k)) rfl (ho1.alloc _) ⟨w4.heap.size,0,none⟩ 1 1 [.string name,.slice va on vc] rfl rfl (cell_two_new _ _ _ _) (by simp[Value.oneCell']) c3 c4 (by simp;omega) ?_;intro v2 w5 ho2 hg2 _;have B1:∀q,v1.ownBlock=some q->w6.heap.size<=q:=fun q hq=>(ho1.lt q hq).1;have t2':Touch (fun q=>w6.heap.size<=q) w6 w5:=((t1.mono (fun _ _ h=>h.elim)).alloc _).grown hg2 (fun q hq=>B1 q hq);have HDR2:Hid (∀j u,(Jm (L.drop k))[j]?=some u->w5.cell? ((⟨g,k*2,none⟩:Addr).add j)=some u):=(fun j u h=>by rw[Addr.add_lit];exact t2'.at (HDR.out j u h) (show¬w6.heap.size<=g by omega));have s2:=t2'.size;have cy5:=t2'.at cy (show¬w6.heap.size<=y by omega))|(at_builtin;refine wpList_append_own _ rfl _ _ 66 rfl w6.heap.size 74 iS (.agg #[.string ⟨#[]⟩,.slice none 0 0]) 2 40 Tryz.underlying66 hiS hzS0 hzS1 hzS2 rfl (by decide) v2 (k+1) (Jm (L.take k)++[.string name,.slice va on vc]) rfl ho2 ⟨g,k*2,none⟩ (n-k) _ (Jm (L.drop k)) rfl HDL.out HDR2.out (HON.out k).2 c5 c6 (by omega) ?_;intro v3 w3 ho3 hg3 _;have B2:∀q,v2.ownBlock=some q->w6.heap.size<=q:=fun q hq=>(ho2.lt q hq).1;have t3:Touch (fun q=>w6.heap.size<=q) w6 w3:=t2'.grown hg3 (fun q hq=>B2 q hq);have cy3:=t3.at cy (show¬w6.heap.size<=y by omega);have fy3:=(t3.frozen (p:=⟨y,0,none⟩) (show y<w6.heap.size by omega) (show¬w6.heap.size<=y by omega)).trans fy;obtain⟨v3a,v3c,hv3⟩:=Ei ho3;subst hv3));have ho3':w3.ownsRow w6.heap.size 74 2 (.slice v3a (k+1+(n-k)) v3c) (k+1+(L.length-k)) (Jm (L.take k++((name,o),.slice va on vc)::L.drop k)):=by
          rw[show k+1+(L.length-k)=k+1+(n-k) by have:=HN.out;omega,aW];have e:Jm (((name,o),.slice va on vc)::L.drop k)=[.string name,.slice va on vc]++Jm (L.drop k):=rfl;rw[e,<-List.append_assoc];exact ho3
         clear ho3 ho2 ho1 HDR2;go_wp2;go_ret;rw[HE.out];exact HRS.out w3 _ k (by omega) t3 ho3' HIS.out
        obtain rfl:n=k:=by omega
        have HIS:Hid (Oh l (name,o)=(L.take n++((name,o),.slice va on vc)::L.drop n).map (·.1)):=by
         unfold Hid;rw[<-HML.out,oI (L.map (·.1)) (name,o) n (by rw[List.length_map];have:=HN.out;omega) (fun j h hj=>by rw[List.getElem_map];exact HJ.out j (by rw[List.length_map]at h;exact h) hj) (fun h=>by rw[List.length_map]at h;have:=HN.out;omega),List.map_append,List.map_cons,List.map_take,List.map_drop]
        have HDL:Hid ((Jm (L.drop n)).length=0*2):=(by unfold Hid;rw[gQ,List.length_drop];have:=HN.out;omega);have i1:¬(n:Int)<(n:Int):=(by omega);obtain⟨k,hkn⟩:∃k,k=n:=⟨_,rfl⟩;have HNV:Hid (∀(ad:Addr) (W:World) j u,(Jm (L.drop n))[j]?=some u->W.cell? (ad.add j)=some u):=fun ad W j u h=>by rw[List.eq_nil_of_length_eq_zero (by have:=HDL.out;omega:(Jm (L.drop n)).length=0)]at h;cases h
        rcases HAN.out with⟨rfl,hn0,hcap0⟩|⟨g,rfl⟩
        .subst hn0 hcap0;clear HJ HC HG HNV hkn k;have cz1:0+0<=maxLen:=(by unfold maxLen;omega);have cz2:(0+0)*40<=140737488355328:=(by omega);have c3:0+1<=maxLen:=(by unfold maxLen;omega);have c4:(0+1)*40<=140737488355328:=(by omega);have c5:0+1+0<=maxLen:=(by unfold maxLen;omega);have c6:(0+1+0)*40<=140737488355328:=(by omega);go_wp2_with (first|(at_builtin;refine Gi rfl _ _ 66 rfl w6.heap.size w6.heap.size 74 iS (.agg #[.string ⟨#[]⟩,.slice none 0 0]) 2 40 Tryz.underlying66 hiS hzS0 hzS1 hzS2 rfl (by decide) (.slice none 0 0) 0 [] rfl (World.ownsRow_nil _ _ _ _) (.slice none 0 0) 0 [] rfl (World.ownsRow_nil _ _ _ _) (by intro u hu;cases hu) cz1 cz2 (Nat.le_refl _) ?_;intro v1 w4 ho1 hg1;have t1:Touch (fun _=>False) w6 w4:=(Touch.refl (fun _=>False) w6).grown hg1 (fun q hq=>by cases hq);have s1:=t1.size)|(at_builtin;refine wpList_append_own _ rfl _ _ 66 rfl w6.heap.size 74 iS (.agg #[.string ⟨#[]⟩,.slice none 0 0]) 2 40 Tryz.underlying66 hiS hzS0 hzS1 hzS2 rfl (by decide) v1 0 [] rfl (ho1.alloc _) ⟨w4.heap.size,0,none⟩ 1 1 [.string name,.slice va on vc] rfl rfl (cell_two_new _ _ _ _) (by simp[Value.oneCell']) c3 c4 (by simp;omega) ?_;intro v2 w5 ho2 hg2 _;have B1:∀q,v1.ownBlock=some q->w6.heap.size<=q:=fun q hq=>(ho1.lt q hq).1;have t2':Touch (fun q=>w6.heap.size<=q) w6 w5:=((t1.mono (fun _ _ h=>h.elim)).alloc _).grown hg2 (fun q hq=>B1 q hq);have s2:=t2'.size;have cy5:=t2'.at cy (show¬w6.heap.size<=y by omega))|(at_builtin;refine Gi rfl _ _ 66 rfl w6.heap.size w6.heap.size 74 iS (.agg #[.string ⟨#[]⟩,.slice none 0 0]) 2 40 Tryz.underlying66 hiS hzS0 hzS1 hzS2 rfl (by decide) v2 (0+1) ([]++[.string name,.slice va on vc]) rfl ho2 (.slice none 0 0) 0 [] rfl (World.ownsRow_nil _ _ _ _) (by intro u hu;cases hu) c5 c6 (by omega) ?_;intro v3 w3 ho3 hg3;have B2:∀q,v2.ownBlock=some q->w6.heap.size<=q:=fun q hq=>(ho2.lt q hq).1;have t3:Touch (fun q=>w6.heap.size<=q) w6 w3:=t2'.grown hg3 (fun q hq=>B2 q hq);have cy3:=t3.at cy (show¬w6.heap.size<=y by omega);have fy3:=(t3.frozen (p:=⟨y,0,none⟩) (show y<w6.heap.size by omega) (show¬w6.heap.size<=y by omega)).trans fy;obtain⟨v3a,v3c,hv3⟩:=Ei ho3;subst hv3));have ho3':w3.ownsRow w6.heap.size 74 2 (.slice v3a (0+1+0) v3c) (0+1+(L.length-0)) (Jm (L.take 0++((name,o),.slice va on vc)::L.drop 0)):=by
          rw[show 0+1+(L.length-0)=0+1+0 by have:=HN.out;omega,List.eq_nil_of_length_eq_zero (by have:=HN.out;omega:L.length=0)];exact ho3
         clear ho3 ho2 ho1;go_wp2;go_ret;rw[HE.out];exact HRS.out w3 _ 0 (by omega) t3 ho3' HIS.out
        obtain⟨hg,hcell⟩:=HG.out g rfl;subst hkn;have HTK:Hid (∀j u,(Jm (L.take k))[j]?=some u->w6.cell? ((⟨g,0,none⟩:Addr).add j)=some u):=fun j u h=>by
         rw[Addr.add_lit,Nat.zero_add];exact hcell j u (xG L k j u h)
        clear HJ HC HG hcell;by_cases hck:cap=k
        .have c1:0+k<=maxLen:=(by unfold maxLen;omega);have c2:(0+k)*40<=140737488355328:=(by omega);have k0:(0:Int)<=(k:Int):=(by omega);have kc:k<=cap:=(by omega);have kc2:(k:Int)<=(cap:Int):=(by omega);have c3:k+1<=maxLen:=(by unfold maxLen;omega);have c4:(k+1)*40<=140737488355328:=(by omega);have c5:k+1+0<=maxLen:=(by unfold maxLen;omega);have c6:(k+1+0)*40<=140737488355328:=(by omega);go_wp2_with (first|(at_builtin;refine wpList_append_own _ rfl _ _ 66 rfl w6.heap.size 74 iS (.agg #[.string ⟨#[]⟩,.slice none 0 0]) 2 40 Tryz.underlying66 hiS hzS0 hzS1 hzS2 rfl (by decide) (.slice none 0 0) 0 [] rfl (World.ownsRow_nil _ _ _ _) ⟨g,0,none⟩ k _ (Jm (L.take k)) rfl HTL.out HTK.out (HON.out k).1 c1 c2 (Nat.le_refl _) ?_;intro v1 w4 ho1 hg1 _;have t1:Touch (fun _=>False) w6 w4:=(Touch.refl (fun _=>False) w6).grown hg1 (fun q hq=>by cases hq);have s1:=t1.size;rw[Nat.zero_add,List.nil_append]at ho1)|(at_builtin;refine wpList_append_own _ rfl _ _ 66 rfl w6.heap.size 74 iS (.agg #[.string ⟨#[]⟩,.slice none 0 0]) 2 40 Tryz.underlying66 hiS hzS0 hzS1 hzS2 rfl (by decide) v1 k (Jm (L.take k)) rfl (ho1.alloc _) ⟨w4.heap.size,0,none⟩ 1 1 [.string name,.slice va on vc] rfl rfl (cell_two_new _ _ _ _) (by simp[Value.oneCell']) c3 c4 (by simp;omega) ?_;intro v2 w5 ho2 hg2 _;have B1:∀q,v1.ownBlock=some q->w6.heap.size<=q:=fun q hq=>(ho1.lt q hq).1;have t2':Touch (fun q=>w6.heap.size<=q) w6 w5:=((t1.mono (fun _ _ h=>h.elim)).alloc _).grown hg2 (fun q hq=>B1 q hq);have HDR2:Hid (∀j u,(Jm (L.drop k))[j]?=some u->w5.cell? ((⟨g,0,none⟩:Addr).add j)=some u):=(fun j u h=>HNV.out _ _ j u h);have s2:=t2'.size;have cy5:=t2'.at cy (show¬w6.heap.size<=y by omega))|(at_builtin;refine wpList_append_own _ rfl _ _ 66 rfl w6.heap.size 74 iS (.agg #[.string ⟨#[]⟩,.slice none 0 0]) 2 40 Tryz.underlying66 hiS hzS0 hzS1 hzS2 rfl (by decide) v2 (k+1) (Jm (L.take k)++[.string name,.slice va on vc]) rfl ho2 ⟨g,0,none⟩ 0 _ (Jm (L.drop k)) rfl HDL.out HDR2.out (HON.out k).2 c5 c6 (by omega) ?_;intro v3 w3 ho3 hg3 _;have B2:∀q,v2.ownBlock=some q->w6.heap.size<=q:=fun q hq=>(ho2.lt q hq).1;have t3:Touch (fun q=>w6.heap.size<=q) w6 w3:=t2'.grown hg3 (fun q hq=>B2 q hq);have cy3:=t3.at cy (show¬w6.heap.size<=y by omega);have fy3:=(t3.frozen (p:=⟨y,0,none⟩) (show y<w6.heap.size by omega) (show¬w6.heap.size<=y by omega)).trans fy;obtain⟨v3a,v3c,hv3⟩:=Ei ho3;subst hv3));have ho3':w3.ownsRow w6.heap.size 74 2 (.slice v3a (k+1+0) v3c) (k+1+(L.length-k)) (Jm (L.take k++((name,o),.slice va on vc)::L.drop k)):=by
          rw[show k+1+(L.length-k)=k+1+0 by have:=HN.out;omega,aW];have e:Jm (((name,o),.slice va on vc)::L.drop k)=[.string name,.slice va on vc]++Jm (L.drop k):=rfl;rw[e,<-List.append_assoc];exact ho3
         clear ho3 ho2 ho1 HDR2;go_wp2;go_ret;rw[HE.out];exact HRS.out w3 _ k (by omega) t3 ho3' HIS.out
        have hck2:¬k=cap:=fun e=>hck e.symm;have c1:0+k<=maxLen:=(by unfold maxLen;omega);have c2:(0+k)*40<=140737488355328:=(by omega);have k0:(0:Int)<=(k:Int):=(by omega);have kc:k<=cap:=(by omega);have kc2:(k:Int)<=(cap:Int):=(by omega);have c3:k+1<=maxLen:=(by unfold maxLen;omega);have c4:(k+1)*40<=140737488355328:=(by omega);have c5:k+1+0<=maxLen:=(by unfold maxLen;omega);have c6:(k+1+0)*40<=140737488355328:=(by omega);go_wp2_with (first|(at_builtin;refine wpList_append_own _ rfl _ _ 66 rfl w6.heap.size 74 iS (.agg #[.string ⟨#[]⟩,.slice none 0 0]) 2 40 Tryz.underlying66 hiS hzS0 hzS1 hzS2 rfl (by decide) (.slice none 0 0) 0 [] rfl (World.ownsRow_nil _ _ _ _) ⟨g,0,none⟩ k _ (Jm (L.take k)) rfl HTL.out HTK.out (HON.out k).1 c1 c2 (Nat.le_refl _) ?_;intro v1 w4 ho1 hg1 _;have t1:Touch (fun _=>False) w6 w4:=(Touch.refl (fun _=>False) w6).grown hg1 (fun q hq=>by cases hq);have s1:=t1.size;rw[Nat.zero_add,List.nil_append]at ho1)|(at_builtin;refine wpList_append_own _ rfl _ _ 66 rfl w6.heap.size 74 iS (.agg #[.string ⟨#[]⟩,.slice none 0 0]) 2 40 Tryz.underlying66 hiS hzS0 hzS1 hzS2 rfl (by decide) v1 k (Jm (L.take k)) rfl (ho1.alloc _) ⟨w4.heap.size,0,none⟩ 1 1 [.string name,.slice va on vc] rfl rfl (cell_two_new _ _ _ _) (by simp[Value.oneCell']) c3 c4 (by simp;omega) ?_;intro v2 w5 ho2 hg2 _;have B1:∀q,v1.ownBlock=some q->w6.heap.size<=q:=fun q hq=>(ho1.lt q hq).1;have t2':Touch (fun q=>w6.heap.size<=q) w6 w5:=((t1.mono (fun _ _ h=>h.elim)).alloc _).grown hg2 (fun q hq=>B1 q hq);have HDR2:Hid (∀j u,(Jm (L.drop k))[j]?=some u->w5.cell? ((⟨g,k*2,none⟩:Addr).add j)=some u):=(fun j u h=>HNV.out _ _ j u h);have s2:=t2'.size;have cy5:=t2'.at cy (show¬w6.heap.size<=y by omega))|(at_builtin;refine wpList_append_own _ rfl _ _ 66 rfl w6.heap.size 74 iS (.agg #[.string ⟨#[]⟩,.slice none 0 0]) 2 40 Tryz.underlying66 hiS hzS0 hzS1 hzS2 rfl (by decide) v2 (k+1) (Jm (L.take k)++[.string name,.slice va on vc]) rfl ho2 ⟨g,k*2,none⟩ 0 _ (Jm (L.drop k)) rfl HDL.out HDR2.out (HON.out k).2 c5 c6 (by omega) ?_;intro v3 w3 ho3 hg3 _;have B2:∀q,v2.ownBlock=some q->w6.heap.size<=q:=fun q hq=>(ho2.lt q hq).1;have t3:Touch (fun q=>w6.heap.size<=q) w6 w3:=t2'.grown hg3 (fun q hq=>B2 q hq);have cy3:=t3.at cy (show¬w6.heap.size<=y by omega);have fy3:=(t3.frozen (p:=⟨y,0,none⟩) (show y<w6.heap.size by omega) (show¬w6.heap.size<=y by omega)).trans fy;obtain⟨v3a,v3c,hv3⟩:=Ei ho3;subst hv3));have ho3':w3.ownsRow w6.heap.size 74 2 (.slice v3a (k+1+0) v3c) (k+1+(L.length-k)) (Jm (L.take k++((name,o),.slice va on vc)::L.drop k)):=by
         rw[show k+1+(L.length-k)=k+1+0 by have:=HN.out;omega,aW];have e:Jm (((name,o),.slice va on vc)::L.drop k)=[.string name,.slice va on vc]++Jm (L.drop k):=rfl;rw[e,<-List.append_assoc];exact ho3
        clear ho3 ho2 ho1 HDR2;go_wp2;go_ret;rw[HE.out];exact HRS.out w3 _ k (by omega) t3 ho3' HIS.out
@[reducible] def kE:Kd:=⟨59,3,134,6,Zx,fun k=>.int .i64 (-(k:Int)),Zc⟩
theorem aY.wide{w:World}{κ:Kd}{D D':Nat->Prop}{vL vM:Value}{K:List (Value×Nat)}(h:aY w κ D vL vM K)(hd:∀q,D q->D' q):aY w κ D' vL vM K:=
 ⟨h.rL,h.rM,h.kept,fun q hq=>hd q (h.dL q hq),fun q hq=>hd q (h.dM q hq),fun x hx q hq=>hd q (h.dK x hx q hq),h.nLM,h.nK⟩
theorem Xo.wide{w:World}{S:Nat}{G G':Nat->Prop}{l:List Fold}{c:Bo}{np:Bool}(h:Xo w S G l c np)(hg:∀q,G q->G' q)(hl:∀q,G' q->q<w.heap.size):Xo w S G' l c np:=by
 obtain⟨sh,be,hS,hG,h2⟩:=h.box;refine⟨hl,h.fP,sh,be,hS,hg S hG,?_⟩;rcases h2 with h2|⟨m,b,ns,fs,nb,fb,e1,e2,hne,gm,gb,hm,hns,hsh,hb,h0⟩;.exact .inl h2
 exact .inr ⟨m,b,ns,fs,nb,fb,e1,e2,hne,hg m gm,hg b gb,hm,hns,⟨hsh.keys,fun x hx=>by obtain⟨v,a1,a2,a3⟩:=hsh.rows x hx;exact⟨v,a1,a2,fun q hq=>hg q (a3 q hq)⟩⟩,hb,h0⟩
theorem Jc.wide{w:World}{y:Nat}{H H':Nat->Prop}{l:List Fold}{c:Bo}{np:Bool}(h:Jc w y H l c np)(hg:∀q,H q->H' q)(hl:∀q,H' q->q<w.heap.size):Jc w y H' l c np:=by
 obtain⟨vS,fa,L,h1,h2,h3,h4,h5,h6⟩:=h.box;exact⟨hl,hg y h.own,h.hc,vS,fa,L,h1,h2,fun q hq=>hg q (h3 q hq),h4,h5,fun x hx=>⟨(h6 x hx).1,fun q hq=>hg q ((h6 x hx).2 q hq)⟩⟩
theorem retag(own:Nat->Nat)(t:Nat)(ht:t≠0)(N:Nat->Prop)(hN:∀q,N q->own q=t\/own q=0):∃own':Nat->Nat,(∀q,own' q=t↔own q=t\/N q)/\∀q s,s≠t->s≠0->(own' q=s↔own q=s):=by
 refine⟨fun q=>@ite _ (own q=t\/N q) (Classical.propDecidable _) t (own q),fun q=>?_,fun q s h1 h2=>?_⟩
 .by_cases h:own q=t\/N q;.simp only[if_pos h];exact iff_of_true (by trivial) h
  simp only[if_neg h];exact⟨fun e=>.inl e,fun e=>absurd e h⟩
 by_cases h:own q=t\/N q
 .simp only[if_pos h];refine⟨fun e=>absurd e.symm h1,fun e=>?_⟩;rcases h with h|h;.exact absurd (e.symm.trans h) h1
  rcases hN q h with h3|h3;.exact absurd (e.symm.trans h3) h1
  exact absurd (e.symm.trans h3) h2
 simp only[if_neg h]
def Qc(PS:List (Nat×Nat)):List Value:=PS.flatMap fun p=>[.pointer (some ⟨p.1,0,none⟩),.pointer (some ⟨p.2,0,none⟩)]
theorem zU(PS:List (Nat×Nat))(a:Nat×Nat):Qc (PS++[a])=Qc PS++[.pointer (some ⟨a.1,0,none⟩),.pointer (some ⟨a.2,0,none⟩)]:=by simp[Qc]
theorem bW:∀(PS:List (Nat×Nat)) (i:Nat) (h:i<PS.length),(Qc PS)[i*2]?=some (.pointer (some ⟨PS[i].1,0,none⟩))/\(Qc PS)[i*2+1]?=some (.pointer (some ⟨PS[i].2,0,none⟩))
 |a::PS,0,_=>⟨rfl,rfl⟩
 |a::PS,i+1,h=>by
  have ih:=bW PS i (by simpa using h);have e:Qc (a::PS)=.pointer (some ⟨a.1,0,none⟩)::.pointer (some ⟨a.2,0,none⟩)::Qc PS:=rfl;rw[e,show(i+1)*2=i*2+1+1 by omega];simpa using ih
abbrev Nc:=List Fold×Bo×Bool
structure oL (w:World) (wb m:Nat) (own:Nat->Nat) (FL EL NL:List (Value×Nat)) (PS:List (Nat×Nat)) (vA vF vE vNm vM vNu vO:Value):Prop where
 hp:w.heap[wb]?=some (.cells #[vA,vF,vE,vNm,vM,vNu,vO,.int .i64 (m:Int)] 56 (0,0))
 gF:aY w kF (fun q=>own q=3) vF vM FL
 gE:aY w kE (fun q=>own q=4) vE vNu EL
 gN:aY w kN (fun q=>own q=5) vNm vO NL
 rA:w.ownsRow 0 71 2 vA PS.length (Qc PS)
 oA:∀q,vA.ownBlock=some q->own q=2
structure Inv (base:Nat) (w:World) (wb m:Nat) (own:Nat->Nat) (FL EL NL:List (Value×Nat)) (PS:List (Nat×Nat)) (sx sy:Nat->Nc):Prop where
 low:∀q,own q≠0->q<w.heap.size/\own q<6+2*PS.length/\base<=q
 me:own wb=1
 box:∃vA vF vE vNm vM vNu vO,oL w wb m own FL EL NL PS vA vF vE vNm vM vNu vO
 stx:∀i (h:i<PS.length),Xo w PS[i].1 (fun q=>own q=6+2*i) (sx i).1 (sx i).2.1 (sx i).2.2
 yA:∀i (h:i<PS.length),Jc w PS[i].2 (fun q=>own q=7+2*i) (sy i).1 (sy i).2.1 (sy i).2.2
theorem oL.keep{S:Nat->Prop}{w w':World}{wb m:Nat}{own:Nat->Nat}{FL EL NL:List (Value×Nat)}{PS:List (Nat×Nat)}{vA vF vE vNm vM vNu vO:Value}(h:oL w wb m own FL EL NL PS vA vF vE vNm vM vNu vO)(t:Touch S w w')(hs:∀q,0<own q->own q<6->¬S q)(hw:own wb=1):oL w' wb m own FL EL NL PS vA vF vE vNm vM vNu vO :=⟨(t.block wb (Array.getElem?_eq_some_iff.1 h.hp).1 (hs wb (by omega) (by omega))).trans h.hp,h.gF.keep t (fun q e=>hs q (by omega) (by omega)),h.gE.keep t (fun q e=>hs q (by omega) (by omega)),h.gN.keep t (fun q e=>hs q (by omega) (by omega)),t.owns h.rA (fun q hq=>hs q (by rw[h.oA q hq];omega) (by rw[h.oA q hq];omega)),h.oA⟩
theorem oL.own{w:World}{wb m:Nat}{own own':Nat->Nat}{FL EL NL:List (Value×Nat)}{PS:List (Nat×Nat)}{vA vF vE vNm vM vNu vO:Value}(h:oL w wb m own FL EL NL PS vA vF vE vNm vM vNu vO)(ho:∀q s,0<s->s<6->own q=s->own' q=s):oL w wb m own' FL EL NL PS vA vF vE vNm vM vNu vO :=⟨h.hp,h.gF.wide (fun q e=>ho q 3 (by omega) (by omega) e),h.gE.wide (fun q e=>ho q 4 (by omega) (by omega) e),h.gN.wide (fun q e=>ho q 5 (by omega) (by omega) e),h.rA,fun q hq=>ho q 2 (by omega) (by omega) (h.oA q hq)⟩
theorem Inv.frame{S:Nat->Prop}{base:Nat}{w w':World}{wb m:Nat}{own:Nat->Nat}{FL EL NL:List (Value×Nat)}{PS:List (Nat×Nat)}{sx sy:Nat->Nc}(h:Inv base w wb m own FL EL NL PS sx sy)(t:Touch S w w')(hs:∀q,own q≠0->¬S q):Inv base w' wb m own FL EL NL PS sx sy:=by
 obtain⟨vA,vF,vE,vNm,vM,vNu,vO,hb⟩:=h.box;exact⟨fun q hq=>⟨Nat.lt_of_lt_of_le (h.low q hq).1 t.size,(h.low q hq).2⟩,h.me,⟨vA,vF,vE,vNm,vM,vNu,vO,hb.keep t (fun q h1 h2=>hs q (by omega)) h.me⟩,fun i hi=>(h.stx i hi).keep t (fun q e=>hs q (by omega)),fun i hi=>(h.yA i hi).keep t (fun q e=>hs q (by omega))⟩
theorem Inv.same{base:Nat}{w w':World}{wb m:Nat}{own:Nat->Nat}{FL EL NL:List (Value×Nat)}{PS:List (Nat×Nat)}{sx sy:Nat->Nc}(h:Inv base w wb m own FL EL NL PS sx sy)(t:Touch (fun _=>False) w w'):Inv base w' wb m own FL EL NL PS sx sy:=h.frame t (fun _ _ e=>e)
def Ql(s:Nat->Nc)(i:Nat)(v:Nc):Nat->Nc:=fun j=>if j=i then v else s j
theorem Oa(s:Nat->Nc)(i:Nat)(v:Nc):Ql s i v i=v:=if_pos rfl
theorem Le(s:Nat->Nc)(i j:Nat)(v:Nc)(h:j≠i):Ql s i v j=s j:=if_neg h
theorem Inv.putX{base:Nat}{w w':World}{wb m:Nat}{own:Nat->Nat}{FL EL NL:List (Value×Nat)}{PS:List (Nat×Nat)}{sx sy:Nat->Nc}(h:Inv base w wb m own FL EL NL PS sx sy)(i:Nat)(hi:i<PS.length)(G':Nat->Prop)(l:List Fold)(c:Bo)(np:Bool)(hS:Xo w' PS[i].1 G' l c np)(t:Touch (fun q=>own q=6+2*i) w w')(hG:∀q,G' q->own q=6+2*i\/w.heap.size<=q): ∃own',Inv base w' wb m own' FL EL NL PS (Ql sx i (l,c,np)) sy/\∀q,own' q≠0->own q≠0\/(w.heap.size<=q/\G' q):=by
 have h0:∀q,w.heap.size<=q->own q=0:=fun q hq=>Classical.byContradiction fun e=>by have:=(h.low q e).1;omega
 obtain⟨own',o1,o2⟩:=retag own (6+2*i) (by omega) G' (fun q hq=>(hG q hq).imp (fun e=>e) (fun e=>h0 q e));have hsz:=t.size;have hlow:∀q,own' q≠0->(own q≠0\/(w.heap.size<=q/\G' q)):=fun q hq=>by
  by_cases e:own' q=6+2*i
  .rcases(o1 q).1 e with e|e;.exact .inl (by omega)
   rcases hG q e with e2|e2;.exact .inl (by omega)
   exact .inr ⟨e2,e⟩
  have:=(o2 q (own' q) e hq).1 rfl;exact .inl (by omega)
 have hlt:∀q,own' q≠0->q<w'.heap.size:=fun q hq=>(hlow q hq).elim (fun e=>Nat.lt_of_lt_of_le (h.low q e).1 hsz) (fun e=>hS.low q e.2);refine⟨own',⟨fun q hq=>⟨hlt q hq,?_⟩,(o2 wb 1 (by omega) (by omega)).2 h.me,?_,fun j hj=>?_,fun j hj=>?_⟩,hlow⟩
 .have hwb:=(h.low wb (by rw[h.me];omega));by_cases e:own' q=6+2*i
  .refine⟨by omega,?_⟩;rcases hlow q hq with e1|e1;.exact(h.low q e1).2.2
   omega
  have h1:=(o2 q (own' q) e hq).1 rfl;have:=(h.low q (by omega)).2;omega
 .obtain⟨vA,vF,vE,vNm,vM,vNu,vO,hb⟩:=h.box;exact⟨vA,vF,vE,vNm,vM,vNu,vO,(hb.keep t (fun q h1 h2 e=>by omega) h.me).own (fun q s h1 h2 e=>(o2 q s (by omega) (by omega)).2 e)⟩
 .by_cases e:j=i
  .subst e;rw[Oa];exact hS.wide (fun q hq=>(o1 q).2 (.inr hq)) (fun q hq=>hlt q (by omega))
  rw[Le _ _ _ _ e];have hk:=(h.stx j hj).keep t (fun q e1 e2=>by omega);exact hk.wide (fun q hq=>(o2 q _ (by omega) (by omega)).2 hq) (fun q hq=>hlt q (by omega))
 have hk:=(h.yA j hj).keep t (fun q e1 e2=>by omega);exact hk.wide (fun q hq=>(o2 q _ (by omega) (by omega)).2 hq) (fun q hq=>hlt q (by omega))
theorem Inv.putY{base:Nat}{w w':World}{wb m:Nat}{own:Nat->Nat}{FL EL NL:List (Value×Nat)}{PS:List (Nat×Nat)}{sx sy:Nat->Nc}(h:Inv base w wb m own FL EL NL PS sx sy)(i:Nat)(hi:i<PS.length)(G':Nat->Prop)(l:List Fold)(c:Bo)(np:Bool)(hS:Jc w' PS[i].2 G' l c np)(t:Touch (fun q=>own q=7+2*i) w w')(hG:∀q,G' q->own q=7+2*i\/w.heap.size<=q): ∃own',Inv base w' wb m own' FL EL NL PS sx (Ql sy i (l,c,np)):=by
 have h0:∀q,w.heap.size<=q->own q=0:=fun q hq=>Classical.byContradiction fun e=>by have:=(h.low q e).1;omega
 obtain⟨own',o1,o2⟩:=retag own (7+2*i) (by omega) G' (fun q hq=>(hG q hq).imp (fun e=>e) (fun e=>h0 q e));have hsz:=t.size;have hlt:∀q,own' q≠0->q<w'.heap.size:=fun q hq=>by
  by_cases e:own' q=7+2*i
  .rcases(o1 q).1 e with e|e;.exact Nat.lt_of_lt_of_le (h.low q (by omega)).1 hsz
   exact hS.low q e
  have:=(o2 q (own' q) e hq).1 rfl;exact Nat.lt_of_lt_of_le (h.low q (by omega)).1 hsz
 refine⟨own',fun q hq=>⟨hlt q hq,?_⟩,(o2 wb 1 (by omega) (by omega)).2 h.me,?_,fun j hj=>?_,fun j hj=>?_⟩
 .have hwb:=(h.low wb (by rw[h.me];omega));by_cases e:own' q=7+2*i
  .refine⟨by omega,?_⟩;rcases(o1 q).1 e with e1|e1;.exact(h.low q (by omega)).2.2
   rcases hG q e1 with e2|e2;.exact(h.low q (by omega)).2.2
   omega
  have h1:=(o2 q (own' q) e hq).1 rfl;have:=(h.low q (by omega)).2;omega
 .obtain⟨vA,vF,vE,vNm,vM,vNu,vO,hb⟩:=h.box;exact⟨vA,vF,vE,vNm,vM,vNu,vO,(hb.keep t (fun q h1 h2 e=>by omega) h.me).own (fun q s h1 h2 e=>(o2 q s (by omega) (by omega)).2 e)⟩
 .have hk:=(h.stx j hj).keep t (fun q e1 e2=>by omega);exact hk.wide (fun q hq=>(o2 q _ (by omega) (by omega)).2 hq) (fun q hq=>hlt q (by omega))
 by_cases e:j=i
 .subst e;rw[Oa];exact hS.wide (fun q hq=>(o1 q).2 (.inr hq)) (fun q hq=>hlt q (by omega))
 rw[Le _ _ _ _ e];have hk:=(h.yA j hj).keep t (fun q e1 e2=>by omega);exact hk.wide (fun q hq=>(o2 q _ (by omega) (by omega)).2 hq) (fun q hq=>hlt q (by omega))
theorem nM(base:Nat)(w:World)(wb m n:Nat)(own:Nat->Nat)(FL EL NL:List (Value×Nat))(PS:List (Nat×Nat))(sx sy:Nat->Nc)(h:Inv base w wb m own FL EL NL PS sx sy)(l:Value)(xs:List Value)(ho:w.ownsRow 0 41 2 l n xs)(hl:∀q,l.ownBlock=some q->own q=0/\base<=q)(hn:n<=10000000)(hm:m<=1073741823)(hfl:FL.length<=1000000000): Calls Tryz.prog 104 #[.pointer (some ⟨wb,0,none⟩),l] w fun r w'=>r=.returned (.tuple #[])/\(∃own' FL',FL'.length=FL.length+9/\(∀q,6<=own q->own' q=own q)/\Inv base w' wb (m+1) own' FL' EL NL PS sx sy)/\Touch (fun q=>base<=q/\¬(6<=own q/\own q%2=1)) w w':=by
 obtain⟨vA,vF,vE,vNm,vM,vNu,vO,hb⟩:=h.box;have hme:=h.me;refine(Qf0 w wb m n vA vE vNm vNu vO vF vM (fun q=>own q=3) FL l xs hb.hp hb.gF (by omega) ho (fun q hq=>⟨by have:=(hl q hq).1;omega,fun e=>by subst e;have:=(hl q hq).1;omega⟩) hn hm hfl).mono ?_;rintro r w' ⟨rfl,vL',vM',K',hK,hp',hg',t⟩;have h0:∀q,w.heap.size<=q->own q=0:=fun q hq=>Classical.byContradiction fun e=>by have:=(h.low q e).1;omega
 obtain⟨own',o1,o2⟩:=retag own 3 (by omega) (fun q=>l.ownBlock=some q\/(w.heap.size<=q/\q<w'.heap.size)) (fun q hq=>.inr (hq.elim (fun e=>(hl q e).1) (fun e=>h0 q e.1)));have hsz:=t.size;have hlt:∀q,own' q≠0->q<w'.heap.size:=fun q hq=>by
  by_cases e:own' q=3
  .rcases(o1 q).1 e with e|e|e;.exact Nat.lt_of_lt_of_le (h.low q (by omega)).1 hsz
   .exact Nat.lt_of_lt_of_le (ho.lt q e).2 hsz
   exact e.2
  have:=(o2 q (own' q) e hq).1 rfl;exact Nat.lt_of_lt_of_le (h.low q (by omega)).1 hsz
 have hS:∀q,(q=wb\/own q=3\/l.ownBlock=some q)->own q=1\/own q=3\/own q=0:=fun q e=>by
  rcases e with rfl|e|e;.exact .inl hme
  .exact .inr (.inl e)
  exact .inr (.inr (hl q e).1)
 refine⟨rfl,⟨own',K',hK,fun q hq=>(o2 q (own q) (by omega) (by omega)).2 rfl,⟨fun q hq=>⟨hlt q hq,?_⟩,(o2 wb 1 (by omega) (by omega)).2 hme,⟨vA,vL',vE,vNm,vM',vNu,vO,⟨?_,hg'.wide (fun q hq=>(o1 q).2 hq),?_,?_,?_,?_⟩⟩,fun j hj=>?_,fun j hj=>?_⟩⟩,t.mono (fun q _ e=>?_)⟩
 .have hwb:=(h.low wb (by rw[h.me];omega));by_cases e:own' q=3
  .refine⟨by omega,?_⟩;rcases(o1 q).1 e with e1|e1|e1;.exact(h.low q (by omega)).2.2
   .exact(hl q e1).2
   omega
  have h1:=(o2 q (own' q) e hq).1 rfl;have:=(h.low q (by omega)).2;omega
 .rw[hp'];simp
 .exact(hb.gE.keep t (fun q e1 e2=>by have:=hS q e2;omega)).wide (fun q e=>(o2 q 4 (by omega) (by omega)).2 e)
 .exact(hb.gN.keep t (fun q e1 e2=>by have:=hS q e2;omega)).wide (fun q e=>(o2 q 5 (by omega) (by omega)).2 e)
 .exact t.owns hb.rA (fun q hq e2=>by have:=hS q e2;have:=hb.oA q hq;omega)
 .intro q hq;exact(o2 q 2 (by omega) (by omega)).2 (hb.oA q hq)
 .exact((h.stx j hj).keep t (fun q e1 e2=>by have:=hS q e2;omega)).wide (fun q hq=>(o2 q _ (by omega) (by omega)).2 hq) (fun q hq=>hlt q (by omega))
 .exact((h.yA j hj).keep t (fun q e1 e2=>by have:=hS q e2;omega)).wide (fun q hq=>(o2 q _ (by omega) (by omega)).2 hq) (fun q hq=>hlt q (by omega))
 refine⟨?_,by have:=hS q e;omega⟩;rcases e with rfl|e|e;.exact(h.low q (by omega)).2.2
 .exact(h.low q (by omega)).2.2
 exact(hl q e).2
theorem Qbq(base:Nat)(w:World)(wb m n:Nat)(own:Nat->Nat)(FL EL NL:List (Value×Nat))(PS:List (Nat×Nat))(sx sy:Nat->Nc)(h:Inv base w wb m own FL EL NL PS sx sy)(l:Value)(xs:List Value)(ho:w.ownsRow 0 9 1 l n xs)(hl:∀q,l.ownBlock=some q->own q=0/\base<=q)(hn:n<=10000000)(hm:m<=1073741823)(hfl:NL.length<=1000000000): Calls Tryz.prog 108 #[.pointer (some ⟨wb,0,none⟩),l] w fun r w'=>r=.returned (.tuple #[])/\(∃own' NL',NL'.length=NL.length+9/\(∀q,6<=own q->own' q=own q)/\Inv base w' wb (m+1) own' FL EL NL' PS sx sy)/\Touch (fun q=>base<=q/\¬(6<=own q/\own q%2=1)) w w':=by
 obtain⟨vA,vF,vE,vNm,vM,vNu,vO,hb⟩:=h.box;have hme:=h.me;refine(Qd3 w wb m n vA vF vE vM vNu vNm vO (fun q=>own q=5) NL l xs hb.hp hb.gN (by omega) ho (fun q hq=>⟨by have:=(hl q hq).1;omega,fun e=>by subst e;have:=(hl q hq).1;omega⟩) hn hm hfl).mono ?_;rintro r w' ⟨rfl,vL',vM',K',hK,hp',hg',t⟩;have h0:∀q,w.heap.size<=q->own q=0:=fun q hq=>Classical.byContradiction fun e=>by have:=(h.low q e).1;omega
 obtain⟨own',o1,o2⟩:=retag own 5 (by omega) (fun q=>l.ownBlock=some q\/(w.heap.size<=q/\q<w'.heap.size)) (fun q hq=>.inr (hq.elim (fun e=>(hl q e).1) (fun e=>h0 q e.1)));have hsz:=t.size;have hlt:∀q,own' q≠0->q<w'.heap.size:=fun q hq=>by
  by_cases e:own' q=5
  .rcases(o1 q).1 e with e|e|e;.exact Nat.lt_of_lt_of_le (h.low q (by omega)).1 hsz
   .exact Nat.lt_of_lt_of_le (ho.lt q e).2 hsz
   exact e.2
  have:=(o2 q (own' q) e hq).1 rfl;exact Nat.lt_of_lt_of_le (h.low q (by omega)).1 hsz
 have hS:∀q,(q=wb\/own q=5\/l.ownBlock=some q)->own q=1\/own q=5\/own q=0:=fun q e=>by
  rcases e with rfl|e|e;.exact .inl hme
  .exact .inr (.inl e)
  exact .inr (.inr (hl q e).1)
 refine⟨rfl,⟨own',K',hK,fun q hq=>(o2 q (own q) (by omega) (by omega)).2 rfl,⟨fun q hq=>⟨hlt q hq,?_⟩,(o2 wb 1 (by omega) (by omega)).2 hme,⟨vA,vF,vE,vL',vM,vNu,vM',⟨?_,?_,?_,hg'.wide (fun q hq=>(o1 q).2 hq),?_,?_⟩⟩,fun j hj=>?_,fun j hj=>?_⟩⟩,t.mono (fun q _ e=>?_)⟩
 .have hwb:=(h.low wb (by rw[h.me];omega));by_cases e:own' q=5
  .refine⟨by omega,?_⟩;rcases(o1 q).1 e with e1|e1|e1;.exact(h.low q (by omega)).2.2
   .exact(hl q e1).2
   omega
  have h1:=(o2 q (own' q) e hq).1 rfl;have:=(h.low q (by omega)).2;omega
 .rw[hp'];simp
 .exact(hb.gF.keep t (fun q e1 e2=>by have:=hS q e2;omega)).wide (fun q e=>(o2 q 3 (by omega) (by omega)).2 e)
 .exact(hb.gE.keep t (fun q e1 e2=>by have:=hS q e2;omega)).wide (fun q e=>(o2 q 4 (by omega) (by omega)).2 e)
 .exact t.owns hb.rA (fun q hq e2=>by have:=hS q e2;have:=hb.oA q hq;omega)
 .intro q hq;exact(o2 q 2 (by omega) (by omega)).2 (hb.oA q hq)
 .exact((h.stx j hj).keep t (fun q e1 e2=>by have:=hS q e2;omega)).wide (fun q hq=>(o2 q _ (by omega) (by omega)).2 hq) (fun q hq=>hlt q (by omega))
 .exact((h.yA j hj).keep t (fun q e1 e2=>by have:=hS q e2;omega)).wide (fun q hq=>(o2 q _ (by omega) (by omega)).2 hq) (fun q hq=>hlt q (by omega))
 refine⟨?_,by have:=hS q e;omega⟩;rcases e with rfl|e|e;.exact(h.low q (by omega)).2.2
 .exact(h.low q (by omega)).2.2
 exact(hl q e).2
end Go.Proofs.YtmhlkdlcpicekaaGreatDoor
