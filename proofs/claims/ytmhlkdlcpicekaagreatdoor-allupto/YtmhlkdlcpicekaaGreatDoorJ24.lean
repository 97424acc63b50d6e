/- Joined. -/
import Derived.Test.YtmhlkdlcpicekaaGreatDoorJ23
import Derived.Maps.RangeWalk
import Derived.Sort.KeysCollected
import Derived.Deep.DeepCutAuto
set_option linter.unusedSimpArgs false
set_option linter.unusedVariables false
set_option maxRecDepth 100000
set_option maxHeartbeats 20000000
namespace Go.Proofs.YtmhlkdlcpicekaaGreatDoor
open Go.RowKit Go.Maps
def kD(B:List UInt8->List UInt8)(k:List UInt8):Gn:=(⟨k.toArray⟩,B k)
theorem zY{files d:List Gn}{ss:List (List UInt8)}{B:List UInt8->List UInt8}(hnd:(files.map fun x=>x.1.data.toList).Nodup)(hB:∀x∈files,x.2=B x.1.data.toList)(hss:ss.Nodup)(hm:∀k,k∈ss↔k∈files.map fun x=>x.1.data.toList)(hp:d.Perm (ss.map (kD B)))(hs:Srt files)(ho:d.Pairwise fun a b=>En a.1.data.toList b.1.data.toList<=0):d=files:=by
 refine Ue files d (hp.trans ?_) hs ho;have h1:ss.Perm (files.map fun x=>x.1.data.toList):=(List.perm_ext_iff_of_nodup hss hnd).2 hm;refine(h1.map (kD B)).trans ?_;rw[List.map_map];refine List.Perm.of_eq ?_
 conv=>rhs;rw[<-List.map_id files]
 refine List.map_congr_left fun x hx=>?_;show kD B x.1.data.toList=x;unfold kD;rw[<-hB x hx]
theorem Qi7(key:Value)(kl:Lit)(h:keyOf Tryz.prog 9 key=some kl):∃x:List UInt8,key=Value.string ⟨x.toArray⟩:=by
 obtain⟨x,hx,_⟩:=Maps.keyOf_str Tryz.underlying9 h;exact⟨x,hx⟩
theorem Yo{H:Type}{P:Program}{k:TypeId}{R:Value->Option (DataW H×List MemPlace)}{w:World}{b r n g:Nat}{D:DataW H}{left:Lit->Bool}{cnt:Nat}{cs:Array Value}{t:TypeId}{z:Nat×Nat}(h:w.ranges P k R b r n D left cnt)(hg:w.heap[g]?=some (.cells cs t z)):¬g=r/\¬g=b:=by
 obtain⟨es,clock,since,seen,c0,hb,_,_,_,hr,_⟩:=h;refine⟨fun e=>?_,fun e=>?_⟩;.rw[e,hr]at hg;cases hg
 rw[e,hb]at hg;cases hg
theorem Qgq(w:World)(b n:Nat)(f:List UInt8->Option Value)(B:List UInt8->List UInt8)(files:List Gn)(hb:Ap w b n f)(hn:n<=1000000000000)(hkeys:∀key,(f key).isSome=true↔key∈files.map fun x=>x.1.data.toList)(hBv:∀key v,f key=some v->w.ownsRow 0 5 1 v (B key).length (Dy (B key)))(hB:∀x∈files,x.2=B x.1.data.toList)(hnd:(files.map fun x=>x.1.data.toList).Nodup)(hs:Srt files)(hok:∀x∈files,Pn x)(hlen:files.length<=1000000000000): Calls Tryz.prog 130 #[.map (some b)] w fun r w'=>∃v,r=.returned v/\w'.ownsRow w.heap.size 41 2 v files.length (Ar files)/\Touch (fun _=>False) w w':=by
 obtain⟨D,ho,hh,hv⟩:=hb;obtain⟨i0,hi,hz0,hz1,hz2⟩:=info_parts Tryz.Vp;have hsz:=ho.size_le;have hblt:=ho.lt;have hln:∀ty,(Builtin.len_ #[86] ty #[.map (some b)]).run Tryz.prog w=.ok (.int .i64 (Maps.size D)) w:=fun ty=>ho.len Tryz.underlying86 ty;obtain⟨N,hN⟩:∃N,N=Maps.size D:=⟨_,rfl⟩;rw[<-hN]at hln hsz;have hby:i0.bytes*N<=281474976710656:=by rw[hz2];omega
 have hnm:N<=maxLen:=by unfold maxLen;omega
 have HK:Hid (∀key,(f key).isSome=true↔key∈files.map fun x=>x.1.data.toList):=hkeys;have HV:Hid (∀key v,f key=some v->w.ownsRow 0 5 1 v (B key).length (Dy (B key))):=hBv;have HH:Hid (∀key,Maps.has D (.string key)=(f key).isSome):=hh;have HA:Hid (∀key,D.atKey (.string key) (.held Qn)=.held ((f key).getD Qn)):=hv;have HE:Hid (∀(d:List Gn) (ss:List (List UInt8)),ss.Nodup->(∀k,k∈ss↔k∈files.map fun x=>x.1.data.toList)->d.Perm (ss.map (kD B))->(d.Pairwise fun a b=>En a.1.data.toList b.1.data.toList<=0)->d=files):=fun d ss h1 h2 h3 h4=>zY hnd hB h1 h2 h3 hs h4;have HO:Hid (∀x∈files,Pn x):=hok;have HL:Hid ((files.map fun x=>x.1.data.toList).Nodup/\files.length<=1000000000000):=⟨hnd,hlen⟩;have HB:Hid (∀x∈files,x.2=B x.1.data.toList):=hB;have HN:Hid (N=Maps.size D):=hN;clear hkeys hBv hh hv hB hnd hs hok hlen hN;go_enter Tryz.func130,Tryz.ntmps130;go_wp2_with (first|(at_make;refine wpList_make_own _ rfl _ _ 30 rfl w.heap.size 41 i0 (.agg #[.string ⟨#[]⟩,.string ⟨#[]⟩]) 2 Tryz.underlying30 hi hz0 hz1 .i64 .i64 _ N rfl rfl rfl hby hnm (Nat.le_refl _) ?_;intro w0 ho0 hg0;have hD0:=ho.kept hg0 (by simp))|(at_range;refine wpList_range_own _ rfl _ 86 rfl 9 114 Yl Tryz.underlying86 Qb1 b n D rfl hD0 ?_;intro w1 hrg hg1 hs1))
 go_frame
 obtain⟨r,hr⟩:∃r,r=w0.heap.size:=⟨_,rfl⟩;rw[<-hr]at hrg hs1 ⊢;have T0:Touch (fun _=>False) w w0:=(Touch.refl _ w).grown hg0 (fun k hk=>by cases hk);have t1:Touch (fun _=>False) w0 w1:=(Touch.refl _ w0).grown hg1 (fun k hk=>by cases hk);have o1:=t1.owns ho0 (fun _ _ e=>e);have hrl:w.heap.size<=r:=by rw[hr];exact T0.size
 have C0:Hid (Collected D (Maps.has D) []):=Collected.start D;have T1:=T0.trans t1;rw[<-HN.out]at hrg;clear hr t1 T0 hs1 hg0 hg1 ho0 hD0 hln;go_loopw [3] (fun fv wr=>∃(left:Lit->Bool) (cnt:Nat) (ss:List (List UInt8)),wr.ranges Tryz.prog 9 Qb1 b r n D left cnt/\Hid (Collected D left ss)/\ss.length+cnt<=N/\wr.ownsRow w.heap.size 41 2 fv ss.length (Ar (ss.map (kD B)))/\Touch (fun _=>False) w wr) (fun _ wr=>wr.rangeLeft b r)
 case atStart=>exact⟨_,_,[],hrg,C0,by simp,o1,T1⟩
 case round=>
  obtain⟨left,cnt,ss,hrg,HC,hcn,hro,T⟩:=hrel;obtain⟨va,vc,hv⟩:=Ei hro;subst hv;clear T1 o1 C0;go_wp2_with (at_next;refine wpList_next_ranges _ rfl _ rfl 9 Yl Qb1 (fun x:List UInt8=>Value.string ⟨x.toArray⟩) (fun v:Value=>v) Qi7 (fun v y _=>⟨v,rfl⟩) b r n D left cnt rfl hrg ?_ ?_)
  .intro hc0 hl0;have HM:Hid (∀k,k∈ss↔k∈files.map fun x=>x.1.data.toList):=fun k=>by
    rw[HC.out.2 k,hl0,HH.out,HK.out];simp
   have HSC:Hid (∀W,W=wr->Calls Tryz.prog 32 #[.slice va ss.length vc] W fun e w'=>e=.returned (.tuple #[])/\w'.ownsRow w.heap.size 41 2 (.slice va ss.length vc) files.length (Ar files)/\Touch (fun b=>w.heap.size<=b) W w'):=fun W e=>by
    subst e;refine(Zo W w.heap.size _ (ss.map (kD B)) (by rw[List.length_map];exact hro) (fun x hx=>?_) (by rw[List.length_map];omega)).mono ?_
    .obtain⟨k,hk,rfl⟩:=List.mem_map.1 hx;obtain⟨y,hy,hyk⟩:=List.mem_map.1 ((HM.out k).1 hk);have hyy:kD B k=y:=by
      unfold kD;rw[<-hyk,<-HB.out y hy]
     rw[hyy];exact HO.out y hy
    rintro e w' ⟨rfl,d,h1,h2,⟨a9,c9,h3,h4,_⟩,t9⟩;have hd:=HE.out d ss HC.out.1 HM.out h1 h2;subst hd;exact⟨rfl,h4,t9⟩
   clear hrg hro;go_wp2_with (go_at_call 32;refine(HSC.out _ rfl).mono ?_;rintro e w3 ⟨rfl,ho3,t3⟩);go_ret;exact⟨_,rfl,ho3,((T.wide (fun k e=>e.elim)).trans t3).fresh⟩
  intro x v kl y ps w2 cnt2 hkey hlk hRv hat hrg2 hlt hg2 hs2 hen;obtain⟨x',hx1,rfl,hx3⟩:=Maps.keyOf_str Tryz.underlying9 hkey;have hxx:x'=x:=by
   have:Value.string ⟨x.toArray⟩=Value.string ⟨x'.toArray⟩:=hx1;simp only[Value.string.injEq,ByteArray.mk.injEq]at this;simpa using this.symm
  subst hxx;have hy:y=.held v:=by
   unfold Qb1 at hRv;exact(congrArg Prod.fst (Option.some.inj hRv)).symm
  subst hy;have hfx:f x'=some v:=by
   have e1:=hat (.held Qn);rw[HA.out]at e1;have e2:=has_true_of_atKey hat
   rw[HH.out]at e2;cases hx:f x' with
   |none=>rw[hx]at e2;cases e2
   |some u=>rw[hx]at e1;cases e1;rfl
  have T2:=T.Fa hg2 (fun k hk=>by cases hk;exact hrl);have hrow:=T2.owns (HV.out x' v hfx) (fun _ _ e=>e);obtain⟨ua,uc,hu⟩:=Ei hrow;subst hu;have cv:=Yz hrow rfl;have tg:Touch (fun k=>k=r) wr w2:=(Touch.refl (fun k=>k=r) wr).grown hg2 (fun k hk=>by cases hk;rfl);have hro2:=tg.owns hro (fun k hk e=>by
   obtain⟨g1,g2,g3⟩:=Kq hro hk;exact(Yo hrg g3).1 e)
  have HC2:Hid (Collected D (fun z=>left z&&!z.sameKey (.string x')) (ss++[x'])):=HC.out.step hlk hat
  have q1:ss.length+1<=maxLen:=by unfold maxLen;omega
  have q2:(ss.length+1)*32<=140737488355328:=by omega
  have hw2:=T2.size;obtain⟨DX,hDX⟩:∃X:ByteArray,X=⟨(B x').toArray⟩:=⟨_,rfl⟩;obtain⟨KX,hKX⟩:∃X:ByteArray,X=⟨x'.toArray⟩:=⟨_,rfl⟩;have HFV:Hid (Ar ((ss++[x']).map (kD B))=Ar (ss.map (kD B))++[.string KX,.string DX]):=by
   unfold Hid;rw[List.map_append,List.map_cons,List.map_nil,Yi,hKX,hDX];rfl
  rw[<-hDX]at cv;try dsimp only at hen ⊢
  rw[<-hKX]at hen ⊢;clear hDX hKX hx1 hkey hat hRv hfx hrow hs2;go_wp2_with (at_builtin;refine wpList_append_own _ rfl _ _ 30 rfl w.heap.size 41 i0 (.agg #[.string ⟨#[]⟩,.string ⟨#[]⟩]) 2 32 Tryz.underlying30 hi hz0 hz1 hz2 rfl (by decide) _ _ _ rfl (hro2.alloc _) ⟨_,0,none⟩ 1 1 [.string KX,.string DX] rfl rfl (cell_two_new _ _ _ _) (by simp[Value.oneCell']) q1 q2 (by simp;omega) ?_;intro v' w3 hown' hgrow hnil;obtain⟨va',vc',hv'⟩:=Ei hown';subst hv');have T3:=(T2.alloc (Obj.cells #[.string KX,.string DX] 41)).Fa hgrow (fun j hj=>(hro2.lt j hj).1);have hrg3:=(hrg2.alloc (Obj.cells #[.string KX,.string DX] 41)).kept hgrow (fun e=>by
   obtain⟨g1,g2,g3⟩:=Kq hro2 e.symm;exact(Yo hrg2 g3).2 rfl) (fun e=>by
   obtain⟨g1,g2,g3⟩:=Kq hro2 e.symm;exact(Yo hrg2 g3).1 rfl)
  go_roundw
  case rel=>exact⟨_,cnt2,ss++[x'],hrg3,HC2,by rw[List.length_append,List.length_singleton];omega,by rw[HFV.out,List.length_append,List.length_singleton];exact hown',T3⟩
  case measure=>rw[hrg3.left_eq,hrg.left_eq];exact hlt
structure Lies (w:World) (b n:Nat) (f:List UInt8->Option Value) (B:List UInt8->List UInt8) (files:List Gn):Prop where
 map:Ap w b n f
 keys:∀key,(f key).isSome=true↔key∈files.map fun x=>x.1.data.toList
 rows:∀key v,f key=some v->w.ownsRow 0 5 1 v (B key).length (Dy (B key))
 val:∀x∈files,x.2=B x.1.data.toList
theorem Lies.keep{F:Nat->Prop}{w w':World}{b n:Nat}{f:List UInt8->Option Value}{B:List UInt8->List UInt8}{files:List Gn}(h:Lies w b n f B files)(t:Touch F w w')(hb:¬F b)(hr:∀k cs z,F k->w.heap[k]?=some (.cells cs 5 z)->False):Lies w' b n f B files :=⟨h.map.keep t hb,h.keys,fun key v hv=>t.owns (h.rows key v hv) (fun k hk e=>by
  obtain⟨g1,g2,g3⟩:=Kq (h.rows key v hv) hk;exact hr k g1 g2 e g3),h.val⟩
theorem Je{w:World}{b c:Nat}{e:TypeId}{s n:Nat}{v:Value}{xs:List Value}(h:w.ownsRow b e s v n xs)(hc:c<=b):w.ownsRow c e s v n xs:=by
 obtain⟨h1,h2|⟨g,cap,cur,e,hb,hrest⟩⟩:=h;.exact⟨h1,.inl h2⟩
 exact⟨h1,.inr ⟨g,cap,cur,e,Nat.le_trans hc hb,hrest⟩⟩
theorem Qhy(w:World)(S m b n ns:Nat)(f fs:List UInt8->Option Value)(B:List UInt8->List UInt8)(files:List Gn)(c:Bo)(np:Bool)(folder:ByteArray)(h:SB w S 1 (some m) (some b) c np)(hm:Ap w m ns fs)(hL:Lies w b n f B files)(hmb:m≠b)(hn:n<=1000000000000)(hns:ns<maxLen)(hp:Vk c=true)(hfo:folder.size<=maxLen)(hnd:(files.map fun x=>x.1.data.toList).Nodup)(hs:Srt files)(hok:∀x∈files,Pn x)(hlen:files.length<=1000000000000): Calls Tryz.prog 76 #[.pointer (some ⟨S,0,none⟩),.agg #[.int .i64 3,.string folder,.string ⟨#[]⟩]] w fun r w'=>r=.returned (.bool true)/\SB w' S 1 (some m) (some b) (Ri c) np/\∃v,Ap w' m (ns+1) (Jf fs folder.data.toList (some v))/\w'.ownsRow w.heap.size 41 2 v files.length (Ar files)/\Ap w' b 0 (fun _=>none)/\Touch (fun k=>k=S\/k=m\/k=b) w w':=by
 have ta:Touch (fun _=>False) w (w.alloc (.cells #[.int .i64 3,.string folder,.string ⟨#[]⟩] 161)):=(Touch.refl _ _).alloc _;have h1:=h.keep ta (fun e=>e);have hm1:=hm.keep ta (fun e=>e);have hL1:=hL.keep ta (fun e=>e) (fun _ _ _ e=>e.elim);have hne:=hL.map.Gf h.hp;have hnm:=hm.Gf h.hp;have hlt:=h.lt;have bx:(w.alloc (.cells #[.int .i64 3,.string folder,.string ⟨#[]⟩] 161)).heap[w.heap.size]?=some (.cells #[.int .i64 3,.string folder,.string ⟨#[]⟩] 161 (0,0)):=heap_alloc_new w _;have x0:=Ac bx 0;have x1:=Ac bx 1;have sne:¬w.heap.size=S:=by omega
 have HS0:Hid (∀k cs z,k=S->w.heap[k]?=some (.cells cs 5 z)->False):=fun k cs z e hx=>by subst e;rw[h.hp]at hx;cases hx
 have HX:Hid (ns<maxLen/\folder.size<=maxLen/\n<=1000000000000):=⟨hns,hfo,hn⟩;have HFC:Hid (∀W,Lies W b n f B files->Calls Tryz.prog 130 #[.map (some b)] W fun r w'=>∃v,r=.returned v/\w'.ownsRow W.heap.size 41 2 v files.length (Ar files)/\Touch (fun _=>False) W w'):=fun W hl=>Qgq W b n f B files hl.map HX.out.2.2 hl.keys hl.rows hl.val hnd hs hok hlen;have hpS:(w.alloc (.cells #[.int .i64 3,.string folder,.string ⟨#[]⟩] 161)).heap[S]?=w.heap[S]?:=ta.block S hlt (fun e=>e);clear bx hnd hs hok hlen hn hns hfo;go_enter Tryz.func76,Tryz.ntmps76;go_wp2_with (go_at_call 129;refine(Zw _ S 1 (some m) (some b) c np h1).mono ?_;rintro e w2 ⟨rfl,h2,t2⟩;rw[hp];have y0:=t2.at x0 sne;have y1:=t2.at x1 sne;have hm2:=hm1.keep t2 hnm;obtain⟨d0,d2,d3,d4,d5,d6,d7⟩:=h2.cs);have hL2:=hL1.keep t2 hne (fun k cs z e hx=>HS0.out k cs z e (by rw[<-hx,e,hpS]));have hsz:=t2.size;rw[World.size_alloc]at hsz;have CB:w2.drew.cell? ⟨S,2,none⟩=some (.map (some m))/\w2.drew.cell? ⟨w.heap.size,1,none⟩=some (.string folder)/\w2.drew.cell? ⟨S,3,none⟩=some (.map (some b)):=⟨d2,y1,d3⟩;go_upto_region 10 with fail;go_cut [] from 41 to 51 (fun wc=>∃v,SB wc S 1 (some m) (some b) (Ri c) np/\Ap wc m (ns+1) (Jf fs folder.data.toList (some v))/\wc.ownsRow w.heap.size 41 2 v files.length (Ar files)/\(∃k f',Ap wc b k f')/\Touch (fun k=>k=S\/k=m) w wc)
 case first=>
  refine Vf (fun X=>X.cell? ⟨S,2,none⟩=some (.map (some m))/\X.cell? ⟨w.heap.size,1,none⟩=some (.string folder)/\X.cell? ⟨S,3,none⟩=some (.map (some b))) 11 (by kernel_rfl) ?_;refine Bh (i:=0) (v:=?va0) rfl (by kernel_rfl) (by kernel_rfl) (by kernel_rfl) (by kernel_rfl) (by kernel_rfl) (fun _ _ _ h=>h) (Or.inl ⟨by rfl,?hya0⟩) CB ?resta0
  case hya0=>((intro wx hSw;(try dsimp only at hSw);(try obtain⟨hs1,hs2,hs3⟩:=hSw);go_simp)<;>(with_reducible rfl))
  try simp only[Act.put,List.setIfInBounds_toArray,List.set_cons_zero,List.set_cons_succ]
  refine Bh (i:=1) (v:=?va1) rfl (by kernel_rfl) (by kernel_rfl) (by kernel_rfl) (by kernel_rfl) (by kernel_rfl) (fun _ _ _ h=>h) (Or.inl ⟨by rfl,?hya1⟩) CB ?resta1
  case hya1=>((intro wx hSw;(try dsimp only at hSw);(try obtain⟨hs1,hs2,hs3⟩:=hSw);go_simp)<;>(with_reducible rfl))
  try simp only[Act.put,List.setIfInBounds_toArray,List.set_cons_zero,List.set_cons_succ]
  refine Bh (i:=2) (v:=?va2) rfl (by kernel_rfl) (by kernel_rfl) (by kernel_rfl) (by kernel_rfl) (by kernel_rfl) (fun _ _ _ h=>h) (Or.inl ⟨by rfl,?hya2⟩) CB ?resta2
  case hya2=>((intro wx hSw;(try dsimp only at hSw);(try obtain⟨hs1,hs2,hs3⟩:=hSw);go_simp)<;>(with_reducible rfl))
  try simp only[Act.put,List.setIfInBounds_toArray,List.set_cons_zero,List.set_cons_succ]
  refine Bh (i:=3) (v:=?va3) rfl (by kernel_rfl) (by kernel_rfl) (by kernel_rfl) (by kernel_rfl) (by kernel_rfl) (fun _ _ _ h=>h) (Or.inl ⟨by rfl,?hya3⟩) CB ?resta3
  case hya3=>((intro wx hSw;(try dsimp only at hSw);(try obtain⟨hs1,hs2,hs3⟩:=hSw);go_simp)<;>(with_reducible rfl))
  try simp only[Act.put,List.setIfInBounds_toArray,List.set_cons_zero,List.set_cons_succ]
  refine Bh (i:=4) (v:=?va4) rfl (by kernel_rfl) (by kernel_rfl) (by kernel_rfl) (by kernel_rfl) (by kernel_rfl) (fun _ _ _ h=>h) (Or.inl ⟨by rfl,?hya4⟩) CB ?resta4
  case hya4=>((intro wx hSw;(try dsimp only at hSw);(try obtain⟨hs1,hs2,hs3⟩:=hSw);go_simp)<;>(with_reducible rfl))
  try simp only[Act.put,List.setIfInBounds_toArray,List.set_cons_zero,List.set_cons_succ]
  refine Bh (i:=5) (v:=?va5) rfl (by kernel_rfl) (by kernel_rfl) (by kernel_rfl) (by kernel_rfl) (by kernel_rfl) (fun _ _ _ h=>h) (Or.inl ⟨by rfl,?hya5⟩) CB ?resta5
  case hya5=>((intro wx hSw;(try dsimp only at hSw);(try obtain⟨hs1,hs2,hs3⟩:=hSw);go_simp)<;>(with_reducible rfl))
  try simp only[Act.put,List.setIfInBounds_toArray,List.set_cons_zero,List.set_cons_succ]
  refine Bh (i:=6) (v:=?va6) rfl (by kernel_rfl) (by kernel_rfl) (by kernel_rfl) (by kernel_rfl) (by kernel_rfl) (fun _ _ _ h=>h) (Or.inl ⟨by rfl,?hya6⟩) CB ?resta6
  case hya6=>((intro wx hSw;(try dsimp only at hSw);(try obtain⟨hs1,hs2,hs3⟩:=hSw);go_simp)<;>(with_reducible rfl))
  try simp only[Act.put,List.setIfInBounds_toArray,List.set_cons_zero,List.set_cons_succ]
  refine Bh (i:=7) (v:=?va7) rfl (by kernel_rfl) (by kernel_rfl) (by kernel_rfl) (by kernel_rfl) (by kernel_rfl) (fun _ _ _ h=>h) (Or.inl ⟨by rfl,?hya7⟩) CB ?resta7
  case hya7=>((intro wx hSw;(try dsimp only at hSw);(try obtain⟨hs1,hs2,hs3⟩:=hSw);go_simp)<;>(with_reducible rfl))
  try simp only[Act.put,List.setIfInBounds_toArray,List.set_cons_zero,List.set_cons_succ]
  refine Bh (i:=8) (v:=?va8) rfl (by kernel_rfl) (by kernel_rfl) (by kernel_rfl) (by kernel_rfl) (by kernel_rfl) (fun _ _ _ h=>h) (Or.inl ⟨by rfl,?hya8⟩) CB ?resta8
  case hya8=>((intro wx hSw;(try dsimp only at hSw);(try obtain⟨hs1,hs2,hs3⟩:=hSw);go_simp)<;>(with_reducible rfl))
  try simp only[Act.put,List.setIfInBounds_toArray,List.set_cons_zero,List.set_cons_succ]
  refine Bh (i:=9) (v:=?va9) rfl (by kernel_rfl) (by kernel_rfl) (by kernel_rfl) (by kernel_rfl) (by kernel_rfl) (fun _ _ _ h=>h) (Or.inl ⟨by rfl,?hya9⟩) CB ?resta9
  case hya9=>((intro wx hSw;(try dsimp only at hSw);(try obtain⟨hs1,hs2,hs3⟩:=hSw);go_simp)<;>(with_reducible rfl))
  try simp only[Act.put,List.setIfInBounds_toArray,List.set_cons_zero,List.set_cons_succ]
  refine Qb (i:=10) (by kernel_rfl) rfl (fun K hK=>?_);go_simp;refine(HFC.out w2.drew ⟨hL2.map,hL2.keys,hL2.rows,hL2.val⟩).mono ?_;rintro e w4 ⟨v,rfl,ho4,t4⟩;replace CB:w4.cell? ⟨S,2,none⟩=some (.map (some m))/\w4.cell? ⟨w.heap.size,1,none⟩=some (.string folder)/\w4.cell? ⟨S,3,none⟩=some (.map (some b)):=⟨t4.at CB.1 (fun e=>e),t4.at CB.2.1 (fun e=>e),t4.at CB.2.2 (fun e=>e)⟩;go_wp2_with fail;refine hK.out _ _ (fun _=>CB) ?_;clear hK K;try simp only[Act.put,List.setIfInBounds_toArray,List.set_cons_zero,List.set_cons_succ]
  have hm4:Ap w4 m ns fs:=hm2.Qae.keep t4 (fun e=>e);have h4:=h2.Qe8.keep t4 (fun e=>e);have hb4:Ap w4 b n f:=hL2.map.Qae.keep t4 (fun e=>e);obtain⟨w5,hput,hm5,hg5⟩:=hm4.put Tryz.underlying84 folder HX.out.2.1 HX.out.1 v;refine Qb (i:=11) (by kernel_rfl) rfl (fun K hK=>?_);go_simp;refine hK.out _ _ (fun h=>absurd rfl h) ?_;clear hK K;try simp only[Act.put,List.setIfInBounds_toArray,List.set_cons_zero,List.set_cons_succ]
  refine dP (by kernel_rfl) ?_ _;have t5:=Touch.turned hg5;go_wp2_with fail;go_meet
  case rel=>exact⟨v,h4.keep t5 (fun e=>hnm e.symm),hm5,t5.owns (Je ho4 (by show w.heap.size<=w2.heap.size;omega)) (fun k hk e=>by
   subst e;obtain⟨g1,g2,g3⟩:=Kq ho4 hk;exact hm4.Gf g3 rfl),⟨_,_,hb4.keep t5 (fun e=>hmb e.symm)⟩,(((ta.wide (fun k e=>e.elim)).trans (t2.wide (fun k e=>Or.inl e))).drew.trans (t4.wide (fun k e=>e.elim))).trans (t5.wide (fun k e=>Or.inr e))⟩
 case rest=>
  obtain⟨v,h5,hm5,ho5,⟨nb,fb,hb5⟩,t5⟩:=hcut;obtain⟨w6,hcl,hb6,hg6⟩:=hb5.clear Tryz.underlying86 0;have t6:=Touch.turned hg6;obtain⟨e0,e2,e3,e4,e5,e6,e7⟩:=h5.cs;clear CB d0 d2 d3 d4 d5 d6 d7;go_wp2;go_ret;exact⟨rfl,h5.keep t6 (fun e=>hne e.symm),v,hm5.keep t6 hmb,t6.owns ho5 (fun k hk e=>by
   subst e;obtain⟨g1,g2,g3⟩:=Kq ho5 hk;exact hb5.Gf g3 rfl),hb6,(t5.wide (fun k e=>e.elim Or.inl (fun e=>Or.inr (Or.inl e)))).trans (t6.wide (fun k e=>Or.inr (Or.inr e)))⟩
theorem bC{c d:Bo}{a:Nat}(h:takeC c a=some d)(b:Nat):takeC c (a+b)=takeC d b/\Jg d=Jg c:=by
 rcases c with _|⟨n,f⟩
 .simp only[takeC,Option.some.injEq]at h;subst h;exact⟨rfl,rfl⟩
 unfold takeC at h;simp only at h;split at h
 .rename_i hk;cases h;refine⟨?_,rfl⟩;unfold takeC;simp only;by_cases hb:a+b<=n;.rw[if_pos hb,if_pos (by omega),Nat.sub_sub]
  rw[if_neg hb,if_neg (by omega)]
 cases h
theorem yV{c:Bo}{a:Nat}(h:takeC c a=none)(b:Nat):takeC c (a+b)=none:=by
 rcases c with _|⟨n,f⟩;.cases h
 unfold takeC at h ⊢;simp only at h ⊢;split at h;.cases h
 rw[if_neg (by omega)]
theorem exB:∀(l:List Gn),(l.map fun x=>x.1.data.toList).Nodup->∃B:List UInt8->List UInt8,∀x∈l,x.2=B x.1.data.toList
 | [],_=>⟨fun _=>[],fun x hx=>by cases hx⟩
 |y::l,h=>by
  rw[List.map_cons,List.nodup_cons]at h;obtain⟨B,hB⟩:=exB l h.2;refine⟨fun k=>if k=y.1.data.toList then y.2 else B k,fun x hx=>?_⟩;rcases List.mem_cons.1 hx with rfl|hx;.simp
  have:¬x.1.data.toList=y.1.data.toList:=fun e=>h.1 (e▸List.mem_map.2 ⟨x,hx,rfl⟩);simp only[if_neg this];exact hB x hx
def aI(x:Gn):ByteArray:=⟨x.2.toArray⟩
theorem zI(x:Gn):(aI x).data.toList=x.2:=rfl
theorem Yb(x:Gn):(aI x).size=x.2.length:=by show x.2.toArray.size=_;simp
def Eh(files:List Gn):Nat:=(files.map fun x=>Nb x.1 (aI x)).sum
theorem pI(files:List Gn)(k:Nat)(h:k<files.length):Eh (files.take (k+1))=Eh (files.take k)+Nb files[k].1 (aI files[k]):=by
 unfold Eh;rw[List.take_succ_eq_append_getElem h,List.map_append,List.sum_append];simp
structure Pj (files:List Gn):Prop where
 fP:Srt files
 nd:(files.map fun x=>x.1.data.toList).Nodup
 ok:∀x∈files,Pn x
 fol:∀x∈files,Aj x.1=true->x.2=[]
 dat:∀x∈files,x.2.length<=140737488355328
 len:files.length<=100000000000
theorem Lies.nil{w:World}{b n:Nat}{B:List UInt8->List UInt8}(h:Ap w b n (fun _=>none)):Lies w b n (fun _=>none) B [] :=⟨h,fun key=>(by simp),fun key v hv=>(by cases hv),fun x hx=>(by cases hx)⟩
theorem Lies.more{w w':World}{S b n lim:Nat}{f:List UInt8->Option Value}{B:List UInt8->List UInt8}{files:List Gn}{x:Gn}{v:Value}{sh:Option Nat}{c:Bo}{np:Bool}(h:Lies w b n f B files)(hS:SB w S 1 sh (some b) c np)(t:Touch (fun k=>k=S\/k=b\/lim<=k) w w')(hl:w.heap.size<=lim)(hm:Ap w' b (n+1) (Jf f x.1.data.toList (some v)))(ho:w'.ownsRow lim 5 1 v (aI x).size (Dy (aI x).data.toList))(hB:x.2=B x.1.data.toList):Lies w' b (n+1) (Jf f x.1.data.toList (some v)) B (files++[x]):=by
 refine⟨hm,fun key=>?_,fun key u hu=>?_,fun y hy=>?_⟩
 .rw[List.map_append,List.mem_append];unfold Jf;by_cases e:key=x.1.data.toList;.simp[e]
  rw[if_neg e,h.keys key];simp[e]
 .unfold Jf at hu;split at hu
  .rename_i e;cases hu;rw[e,<-hB];have:=Je ho (Nat.zero_le _);rw[Yb,zI]at this;exact this
  have hr:=h.rows key u hu;refine t.owns hr (fun k hk e=>?_);obtain⟨g1,g2,g3⟩:=Kq hr hk;rcases e with rfl|rfl|e;.rw[hS.hp]at g3;cases g3
  .exact h.map.Gf g3 rfl
  have:=(hr.lt k hk).2;omega
 rcases List.mem_append.1 hy with hy|hy;.exact h.val y hy
 rw[List.mem_singleton]at hy;subst hy;exact hB
theorem Qil(w:World)(S b n g cap:Nat)(a:Option Addr)(f:List UInt8->Option Value)(sh:Option Nat)(m:Nat)(fl np:Bool)(files:List Gn)(h:SB w S 1 sh (some b) (some (m,fl)) np)(hb:Ap w b n f)(hF:0<files.length->a=some ⟨g,0,none⟩/\Dc w g files)(hl:files.length<=1000000000000)(hs:∀x∈files,x.1.size<=maxLen)(hsub:∀key,f key≠none->key∈files.map fun x=>x.1.data.toList): Calls Tryz.prog 75 #[.pointer (some ⟨S,0,none⟩),.slice a files.length cap] w fun r w'=>r=.returned (.int .i64 14)/\SB w' S 1 sh (some b) (if fl then none else some (m,false)) (if fl then np else true)/\(∃f',Ap w' b n f'/\(fl=true->∀key,f' key=none))/\Touch (fun k=>k=S\/k=b) w w':=by
 cases fl with
 |true=>
  refine(yJ w S b n g cap a f sh m np files h hb hF hl hs hsub).mono ?_;rintro r w' ⟨rfl,h1,h2,t⟩;exact⟨rfl,h1,⟨_,h2,fun _ _=>rfl⟩,t⟩
 |false=>
  refine(yK w S _ sh (some b) m np h).mono ?_;rintro r w' ⟨rfl,h1,t⟩;exact⟨rfl,h1,⟨f,hb.keep t (hb.Gf h.hp),fun e=>by cases e⟩,t.wide (fun k e=>Or.inl e)⟩
def Lc(S m b ns:Nat)(fs:List UInt8->Option Value)(c:Bo)(np:Bool)(folder:ByteArray)(files:List Gn)(base:Nat)(r:Ending)(w':World):Prop:=
 match takeC c (Eh files+1)with
 |some d=>r=.returned (.int .i64 0)/\SB w' S 1 (some m) (some b) d np/\(∃v,Ap w' m (ns+1) (Jf fs folder.data.toList (some v))/\w'.ownsRow base 41 2 v files.length (Ar files))/\Ap w' b 0 (fun _=>none)
 |none=>r=.returned (.int .i64 14)/\SB w' S 1 (some m) (some b) (if Jg c then none else some (0,false)) (if Jg c then np else true)/\Ap w' m ns fs/\∃n' f',Ap w' b n' f'/\(Jg c=true->∀key,f' key=none)
theorem Qai(w w1:World)(S m b ns g cap:Nat)(a:Option Addr)(fs:List UInt8->Option Value)(c:Bo)(np:Bool)(folder:ByteArray)(files:List Gn)(hok:Pj files)(h:SB w1 S 1 (some m) (some b) c np)(hm:Ap w1 m ns fs)(hb:Ap w1 b 0 (fun _=>none))(hmb:m≠b)(hns:ns<maxLen)(hfo:folder.size<=maxLen)(t1:Touch (fun k=>k=S) w w1)(HMM:Hid (Calls Tryz.prog 73 #[.pointer (some ⟨S,0,none⟩)] w fun r w'=>r=.returned (.tuple #[])/\w'=w1))(hF:0<files.length->a=some ⟨g,0,none⟩/\Dc w1 g files): Calls Tryz.prog 36 #[.pointer (some ⟨S,0,none⟩),.string folder,.slice a files.length cap] w fun r w'=>Lc S m b ns fs c np folder files w.heap.size r w'/\Touch (fun k=>k=S\/k=m\/k=b) w w':=by
 obtain⟨B,hB⟩:=exB files hok.nd;obtain⟨N,hN⟩:∃N,N=files.length:=⟨_,rfl⟩;have HOK:Hid (Pj files):=hok;have HB:Hid (∀x∈files,x.2=B x.1.data.toList):=hB;have HN:Hid (N=files.length):=hN;have HF:Hid (0<files.length->a=some ⟨g,0,none⟩/\Dc w1 g files):=hF;have HX:Hid (ns<maxLen/\folder.size<=maxLen):=⟨hns,hfo⟩;have hNl:N<=100000000000:=by rw[hN];exact hok.len
 have hne:=hb.Gf h.hp;have hnm:=hm.Gf h.hp;have hblt:=hb.lt;have hslt:=h.lt;have L0:Lies w1 b 0 (fun _=>none) B (files.take 0):=Lies.nil hb;have HT0:Hid (takeC c (Eh (files.take 0))=some c):=kS c;have HSZ:Hid (∀x∈files,x.1.size<=maxLen):=fun x hx=>by have:=(hok.ok x hx).2;unfold maxLen;omega
 have hgne:∀W,Touch (fun k=>k=S\/k=b) w1 W->0<files.length->a=some ⟨g,0,none⟩/\Dc W g files:=fun W t h0=>by
  obtain⟨e1,e2⟩:=hF h0;obtain⟨z0,_⟩:=e2 0 h0;refine⟨e1,Rx e2 t (fun e=>?_)⟩;rcases e with e|e
  .subst e;have:=h.cs.1;rw[Nat.zero_mul]at z0;rw[z0]at this;cases this
  exact hb.Qa2 z0 e.symm
 have HG:Hid (∀W,Touch (fun k=>k=S\/k=b) w1 W->0<files.length->a=some ⟨g,0,none⟩/\Dc W g files):=hgne;have HST:Hid (∀W n f d,Touch (fun k=>k=S\/k=b) w1 W->SB W S 1 (some m) (some b) (some (0,d)) np->Ap W b n f->(∀key,f key≠none->key∈files.map fun x=>x.1.data.toList)->Calls Tryz.prog 75 #[.pointer (some ⟨S,0,none⟩),.slice a N cap] W fun r w'=>r=.returned (.int .i64 14)/\SB w' S 1 (some m) (some b) (if d then none else some (0,false)) (if d then np else true)/\(∃f',Ap w' b n f'/\(d=true->∀key,f' key=none))/\Touch (fun k=>k=S\/k=b) W w'):=fun W n f d t h1 h2 h3=>by
  rw[HN.out];exact Qil W S b n g cap a f (some m) 0 d np files h1 h2 (hgne W t) (by have:=HOK.out.len;omega) HSZ.out h3
 rw[<-hN];clear hok hB hN hF hns hfo hgne;go_enter Tryz.func36,Tryz.ntmps36;go_wp2_with fail;refine HMM.out.mono ?_;rintro e w' ⟨rfl,rfl⟩;obtain⟨w1,hw1⟩:∃x,x=w':=⟨_,rfl⟩;subst hw1;go_wp2_with fail;go_loopw [13] (fun i wr=>∃(k:Nat) (d:Bo) (f:List UInt8->Option Value),k<=N/\i=.int .i64 (k:Int)/\Hid (takeC c (Eh (files.take k))=some d)/\SB wr S 1 (some m) (some b) d np/\Lies wr b k f B (files.take k)/\Ap wr m ns fs/\Touch (fun k=>k=S\/k=b) w1 wr) (fun i _=>N-(intOf i).toNat)
 case atStart=>exact⟨0,c,_,Nat.zero_le _,rfl,HT0,h,L0,hm,Touch.refl _ _⟩
 case round=>
  obtain⟨k,d,f,hk,rfl,HT,hS,hL,hM,T⟩:=hrel;by_cases hlt:k<N
  .have hkl:k<files.length:=by have:=HN.out;omega
   obtain⟨rfl,hFA⟩:=HG.out wr T (by omega);obtain⟨y0,y1⟩:=hFA k hkl;obtain⟨x,hx⟩:∃x,x=files[k]:=⟨_,rfl⟩;rw[<-hx]at y0 y1;have hxm:x∈files:=by rw[hx];exact List.getElem_mem hkl
   have hxo:=HOK.out;have glt:g<wr.heap.size:=World.block_lt_of_cell? wr _ y0;obtain⟨P,hP⟩:∃P,P=x.1:=⟨_,rfl⟩;obtain⟨D,hD⟩:∃D,D=aI x:=⟨_,rfl⟩;rw[<-hP]at y0;rw[show(⟨x.2.toArray⟩:ByteArray)=D by rw[hD];rfl]at y1;have hP1:P.size<=140737488355328:=by rw[hP];exact(hxo.ok x hxm).2
   have hD1:D.size<=140737488355328:=by rw[hD,Yb];exact hxo.dat x hxm
   have hfol:Aj P=true->D=⟨#[]⟩:=fun e=>by
    rw[hD];unfold aI;rw[hxo.fol x hxm (by rw[<-hP];exact e)]
   have HTK:Hid (files.take (k+1)=files.take k++[x]):=by unfold Hid;rw[List.take_succ_eq_append_getElem hkl,hx]
   have HSK:Hid (Eh (files.take (k+1))=Eh (files.take k)+Nb P D):=by unfold Hid;rw[pI files k hkl,<-hx,hP,hD]
   have HDR:Hid (∃q,Eh files+1=Eh (files.take k)+Nb P D+q):=by
    refine⟨Eh (files.drop (k+1))+1,?_⟩;rw[<-HSK.out,<-Nat.add_assoc];congr 1;unfold Eh;rw[<-List.sum_append,<-List.map_append,List.take_append_drop]
   have ta:Touch (fun _=>False) wr (wr.alloc (.cells #[.string P,.string D] 41)):=(Touch.refl _ _).alloc _;have HOC:Hid (∀W,W=wr.alloc (.cells #[.string P,.string D] 41)->Calls Tryz.prog 74 #[.pointer (some ⟨S,0,none⟩),.agg #[.string P,.string D]] W fun r w'=>Ph S b k (wr.heap.size+1) f (some m) d np P D W r w'):=fun W e=>by
    subst e;refine zL _ S b k (wr.heap.size+1) f (some m) d np P D (hS.keep ta (fun e=>e)) (hL.map.keep ta (fun e=>e)) (by omega) hP1 hD1 hfol (by rw[World.size_alloc];exact Nat.le_refl _) (by have:=hS.lt;omega)
   have HBX:Hid (x.2=B x.1.data.toList):=HB.out x hxm;have HPX:Hid (P=x.1/\D=aI x/\x∈files):=⟨hP,hD,hxm⟩;clear hx hxm hxo hP hD hfol;have i1:(k:Int)<(N:Int):=by omega
   cases htk:takeC d (Nb P D)with
   |some d'=>
    have HT2:Hid (takeC c (Eh (files.take (k+1)))=some d'):=(by unfold Hid;rw[HSK.out,(bC HT.out _).1,htk]);go_wp2_with (go_at_call 74;refine(HOC.out _ rfl).mono ?_;intro e w5 hop;unfold Ph at hop;rw[htk]at hop;obtain⟨t5,rfl,h5,v,hm5,ho5⟩:=hop);obtain⟨rfl,rfl,hxm⟩:=HPX.out;have L5:=Lies.more (hL.keep ta (fun e=>e) (fun _ _ _ e=>e.elim)) (hS.keep ta (fun e=>e)) t5 (by rw[World.size_alloc];exact Nat.le_refl _) hm5 ho5 HBX.out;have M5:=(hM.keep ta (fun e=>e)).keep t5 (fun e=>e.elim hnm (fun e=>e.elim hmb (fun e=>by have:=hM.lt;omega)));have T5:Touch (fun k=>k=S\/k=b) w1 w5:=((T.wide (fun k e=>e.elim Or.inl (fun e=>Or.inr (Or.inl e)))).trans ((ta.wide (fun k e=>e.elim)).trans t5)).mono (fun q hq e=>e.elim Or.inl (fun e=>e.elim Or.inr (fun e=>by have:=T.size;omega)));exact⟨⟨k+1,d',_,by omega,by go_num,HT2,h5,by rw[HTK.out];exact L5,M5,T5⟩,by simp[intOf];omega⟩
   |none=>
    have HTN:Hid (takeC c (Eh files+1)=none):=by
     unfold Hid;obtain⟨q,hq⟩:=HDR.out;rw[hq];exact yV (by rw[(bC HT.out _).1,htk]) q
    have HCF:Hid (Jg d=Jg c):=(bC HT.out 0).2;have HKY:Hid (∀key,f key≠none\/key=P.data.toList->key∈files.map fun x=>x.1.data.toList):=fun key e=>by
     rcases e with e|e
     .have h9:=(hL.keys key).1 (by cases hx:f key with|none=>exact absurd hx e|some u=>rfl);obtain⟨y,hy,hyk⟩:=List.mem_map.1 h9;exact List.mem_map.2 ⟨y,List.mem_of_mem_take hy,hyk⟩
     obtain⟨e1,_,e3⟩:=HPX.out;exact List.mem_map.2 ⟨x,e3,by rw[e,e1]⟩
    have HTT:Hid (∀w5,Touch (fun k=>k=S\/k=b\/wr.heap.size+1<=k) (wr.alloc (.cells #[.string P,.string D] 41)) w5->Touch (fun k=>k=S\/k=b) w1 w5):=fun w5 t5=>((T.wide (fun k e=>e.elim Or.inl (fun e=>Or.inr (Or.inl e)))).trans ((ta.wide (fun k e=>e.elim)).trans t5)).mono (fun q hq e=>e.elim Or.inl (fun e=>e.elim Or.inr (fun e=>by have:=T.size;omega)));go_wp2_with (first|(go_at_call 74;refine(HOC.out _ rfl).mono ?_;intro e w5 hop;unfold Ph at hop;rw[htk]at hop;obtain⟨t5,rfl,h5,g5,hm5,hs5⟩:=hop)|(go_at_call 75;refine(HST.out _ _ _ (Jg d) (HTT.out _ t5) h5 hm5 (fun key hk=>HKY.out key (hs5 key hk))).mono ?_;rintro e w6 ⟨rfl,h6,⟨f6,hm6,hz6⟩,t6⟩));go_ret;have M6:=((hM.keep ta (fun e=>e)).keep t5 (fun e=>e.elim hnm (fun e=>e.elim hmb (fun e=>by have:=hM.lt;omega)))).keep t6 (fun e=>e.elim hnm hmb);refine⟨?_,(t1.wide (fun k e=>Or.inl e)).trans (((HTT.out _ t5).trans t6).wide (fun k e=>e.elim Or.inl (fun e=>Or.inr (Or.inr e))))⟩;unfold Lc;rw[HTN.out];rw[HCF.out]at h6 hz6;exact⟨rfl,h6,M6,_,f6,hm6,hz6⟩
  obtain rfl:k=N:=by omega
  have i1:¬(k:Int)<(k:Int):=by omega
  have htf:files.take k=files:=List.take_of_length_le (by have:=HN.out;omega);rw[htf]at HT hL;have hxo:=HOK.out;cases hp:Vk d with
  |true=>
   have HT2:Hid (takeC c (Eh files+1)=some (Ri d)):=Ul HT.out hp;have HSH:Hid (∀W,W=wr->Calls Tryz.prog 76 #[.pointer (some ⟨S,0,none⟩),.agg #[.int .i64 3,.string folder,.string ⟨#[]⟩]] W fun r w'=>r=.returned (.bool true)/\SB w' S 1 (some m) (some b) (Ri d) np/\∃v,Ap w' m (ns+1) (Jf fs folder.data.toList (some v))/\w'.ownsRow W.heap.size 41 2 v files.length (Ar files)/\Ap w' b 0 (fun _=>none)/\Touch (fun k=>k=S\/k=m\/k=b) W w'):=fun W e=>by
    subst e;exact Qhy W S m b k _ f fs B files d np folder hS hM hL hmb (by omega) HX.out.1 hp HX.out.2 hxo.nd hxo.fP hxo.ok (by have:=hxo.len;omega)
   clear hxo;go_wp2_with (go_at_call 76;refine(HSH.out _ rfl).mono ?_;rintro e w5 ⟨rfl,h5,v,hm5,ho5,hb5,t5⟩);go_ret;refine⟨?_,(t1.wide (fun k e=>Or.inl e)).trans ((T.wide (fun k e=>e.elim Or.inl (fun e=>Or.inr (Or.inr e)))).trans t5)⟩;unfold Lc;rw[HT2.out];exact⟨rfl,h5,⟨v,hm5,Je ho5 (Nat.le_trans t1.size T.size)⟩,hb5⟩
  |false=>
   obtain⟨HTN,hdd⟩:=Uy (s:=Eh files+1) HT.out hp (by omega);have HKY:Hid (∀key,f key≠none->key∈files.map fun x=>x.1.data.toList):=fun key e=>(hL.keys key).1 (by cases hx:f key with|none=>exact absurd hx e|some u=>rfl);have hLm:=hL.map;clear hxo;go_wp2_with (first|(go_at_call 76;refine(Qa1 _ S (some m) (some b) d np hS hp 3 folder ⟨#[]⟩).mono ?_;rintro e w5 ⟨rfl,h5,t5⟩;rw[hdd]at h5)|(go_at_call 75;refine(HST.out _ _ _ (Jg c) (T.trans (t5.wide (fun k e=>Or.inl e))) h5 (hLm.keep t5 hne) HKY.out).mono ?_;rintro e w6 ⟨rfl,h6,⟨f6,hm6,hz6⟩,t6⟩));go_ret;refine⟨?_,(t1.wide (fun k e=>Or.inl e)).trans (((T.trans (t5.wide (fun k e=>Or.inl e))).trans t6).wide (fun k e=>e.elim Or.inl (fun e=>Or.inr (Or.inr e))))⟩;unfold Lc;rw[HTN];exact⟨rfl,h6,(hM.keep t5 hnm).keep t6 (fun e=>e.elim hnm hmb),_,f6,hm6,hz6⟩
open Go.Shelf
def Ou(s:ByteArray):Bool:=decide (0<=Lib.indexByte s.data.toList 47)
def Dq(s:ByteArray):Bool:=Ci s&&!Ou s
theorem contains_c(w:World)(s:ByteArray):Calls Tryz.prog 72 #[.string s,.string ⟨#[47]⟩] w fun e w'=>e=.returned (.bool (Ou s))/\w=w':=by
 obtain⟨i,hi⟩:∃i:Int,i=Lib.indexByte s.data.toList 47:=⟨_,rfl⟩;have HI:Hid (∀W,Calls Tryz.prog 127 #[.string s,.string ⟨#[47]⟩] W fun e w'=>e=.returned (.int .i64 i)/\W=w'):=fun W=>by rw[hi];exact oH s W
 have HS:Hid (Ou s=decide (0<=i)):=by unfold Hid Ou;rw[hi]
 clear hi;by_cases h:0<=i;all_goals
  go_enter Tryz.func72,Tryz.ntmps72;go_wp2_with (go_at_call 127;refine(HI.out _).mono ?_;rintro e w' ⟨rfl,rfl⟩);go_ret;exact⟨by rw[HS.out];simp[h],rfl⟩
theorem Me(w:World)(s:ByteArray)(hs:s.size<=140737488355328):Calls Tryz.prog 35 #[.string s] w fun e w'=>e=.returned (.bool (Dq s))/\Touch (fun _=>False) w w':=by
 have HN:Hid (∀W,Calls Tryz.prog 71 #[.string s] W fun e w'=>e=.returned (.bool (Ci s))/\Touch (fun _=>False) W w'):=fun W=>tX W s hs;have HC:Hid (∀W,Calls Tryz.prog 72 #[.string s,.string ⟨#[47]⟩] W fun e w'=>e=.returned (.bool (Ou s))/\W=w'):=fun W=>contains_c W s;have HF:Hid (Dq s=(Ci s&&!Ou s)):=rfl;cases h1:Ci s<;>cases h2:Ou s;all_goals
  rw[h1]at HN;rw[h2]at HC;rw[h1,h2]at HF;go_enter Tryz.func35,Tryz.ntmps35;go_wp2_with (first|(go_at_call 71;refine(HN.out _).mono ?_;rintro e w1 ⟨rfl,t1⟩)|(go_at_call 72;refine(HC.out _).mono ?_;rintro e w2 ⟨rfl,rfl⟩));go_ret;exact⟨by rw[HF.out];rfl,t1⟩
theorem Ap.zero{w:World}{B n:Nat}{f:List UInt8->Option Value}(h:Ap w B n f)(h0:∀key,f key=none):Ap w B 0 (fun _=>none):=by
 obtain⟨D,ho,hh,hv⟩:=h;obtain⟨es,rfl,hko⟩:=ho.keysOf;have he:es=[]:=by
  cases es with
  |nil=>rfl
  |cons p l=>
   obtain⟨v,hk⟩:=hko p (List.mem_cons_self ..);obtain⟨x,_,hx,_⟩:=Maps.keyOf_str Tryz.underlying9 hk;have:=hh x;rw[h0 x]at this;simp[Maps.has,hx,Lit.sameKey]at this
 subst he;have:=Xu ho;exact⟨_,this,fun _=>rfl,fun _=>rfl⟩
open Go.MuLone
theorem Pv(w:World):(zeroValue 30).run Tryz.prog w=.ok Qn w:=by kernel_rfl
def begun(w:World)(S:Nat)(q:Array Value):World:=(w.setCell ⟨S,0,none⟩ (.int .i32 1)).alloc (.cells q 35)
theorem Ob(w:World)(S:Nat)(q:Array Value):Touch (fun k=>k=S) w (begun w S q):=(Ba w S 0 (.int .i32 1)).alloc _
theorem Tj(w:World)(S:Nat)(q:Array Value):Touch (fun _=>False) (w.setCell ⟨S,0,none⟩ (.int .i32 1)) (begun w S q):=(Touch.refl _ _).alloc _
theorem uQ(w:World)(S:Nat)(sh be:Option Nat)(c:Bo)(folder A:ByteArray)(q0 q1 q2:Value)(h:SB w S 0 sh be c true): Calls Tryz.prog 14 #[.pointer (some ⟨S,0,none⟩),.string folder,.string A,.agg #[q0,q1,q2]] w fun r w'=>r=.returned (.int .i64 14)/\SB w' S 0 sh be c true/\Touch (fun k=>k=S) w w':=by
 have h1:=(h.lock 1).keep (Tj w S #[q0,q1,q2]) (fun e=>e);have tb:=Ob w S #[q0,q1,q2];unfold begun at h1 tb;obtain⟨c0,c2,c3,c4,c5,c6,c7⟩:=h.cs;have f0:=h.fr 0;have hlt:=h.lt;obtain⟨d0,d2,d3,d4,d5,d6,d7⟩:=h1.cs;have ca:(w.alloc (.cells #[q0,q1,q2] 35)).cell? ⟨S,0,none⟩=some (.int .i32 0):=((Touch.refl (fun _=>False) w).alloc _).at c0 (fun e=>e);have fa:(w.alloc (.cells #[q0,q1,q2] 35)).frozen? ⟨S,0,none⟩=false:=(((Touch.refl (fun _=>False) w).alloc (.cells #[q0,q1,q2] 35)).frozen (p:=⟨S,0,none⟩) hlt (fun e=>e)).trans f0;go_enter_defers Tryz.func14,Tryz.ntmps14;go_wp2_with (go_at_call 33;refine(lock_free muLib ⟨S,0,none⟩ _ ca fa).mono ?_;rintro e w' ⟨rfl,rfl⟩);refine leaves_cons (f:=34) (args:=#[.pointer (some ⟨S,0,none⟩)]) (by simp) (by simp[go_sem]) ?_;refine(unlock_deferred muLib ⟨S,0,none⟩ .returning _ d0 (h1.fr 0)).mono ?_;rintro e u' w'' ⟨rfl,rfl,rfl⟩;exact⟨_,results_tmp rfl _ _ _,rfl,h1.lock 0,tb.trans (Ba _ _ _ _)⟩
theorem Xa(w:World)(S:Nat)(o:Obj)(v:Value)(h:S<w.heap.size):(w.alloc o).setCell ⟨S,0,none⟩ v=(w.setCell ⟨S,0,none⟩ v).alloc o:=by
 first|exact World.setCell_alloc_past (w:=w) o S 0 v h|exact World.setCell_alloc_past w o S 0 v h
theorem xI(w:World)(S:Nat)(sh be:Option Nat)(c:Bo)(folder A:ByteArray)(q0 q1 q2:Value)(h:SB w S 0 sh be c false)(hfs:folder.size<=140737488355328)(hfn:Dq folder=false): Calls Tryz.prog 14 #[.pointer (some ⟨S,0,none⟩),.string folder,.string A,.agg #[q0,q1,q2]] w fun r w'=>r=.returned (.int .i64 15)/\SB w' S 0 sh be c false/\Touch (fun k=>k=S) w w':=by
 have tb:=Ob w S #[q0,q1,q2];have h1:=(h.lock 1).keep (Tj w S #[q0,q1,q2]) (fun e=>e);have bx:(begun w S #[q0,q1,q2]).heap[w.heap.size]?=some (.cells #[q0,q1,q2] 35 (0,0)):=by
  have:=heap_alloc_new (w.setCell ⟨S,0,none⟩ (.int .i32 1)) (.cells #[q0,q1,q2] 35);rw[show(w.setCell ⟨S,0,none⟩ (.int .i32 1)).heap.size=w.heap.size by simp]at this;exact this
 obtain⟨wb,hwb⟩:∃x,x=begun w S #[q0,q1,q2]:=⟨_,rfl⟩;rw[<-hwb]at tb h1 bx;have HWB:Hid ((w.setCell ⟨S,0,none⟩ (.int .i32 1)).alloc (.cells #[q0,q1,q2] 35)=wb):=hwb.symm;clear hwb;obtain⟨c0,c2,c3,c4,c5,c6,c7⟩:=h.cs;have f0:=h.fr 0;have hlt:=h.lt;obtain⟨d0,d2,d3,d4,d5,d6,d7⟩:=h1.cs;have ca:(w.alloc (.cells #[q0,q1,q2] 35)).cell? ⟨S,0,none⟩=some (.int .i32 0):=((Touch.refl (fun _=>False) w).alloc _).at c0 (fun e=>e);have fa:(w.alloc (.cells #[q0,q1,q2] 35)).frozen? ⟨S,0,none⟩=false:=(((Touch.refl (fun _=>False) w).alloc (.cells #[q0,q1,q2] 35)).frozen (p:=⟨S,0,none⟩) hlt (fun e=>e)).trans f0;have HFN:Hid (∀W,Calls Tryz.prog 35 #[.string folder] W fun e w'=>e=.returned (.bool (Dq folder))/\Touch (fun _=>False) W w'):=fun W=>Me W folder hfs;rw[hfn]at HFN;go_enter_defers Tryz.func14,Tryz.ntmps14;go_wp2_with fail;refine(lock_free muLib ⟨S,0,none⟩ _ ca fa).mono ?_;rintro e w' ⟨rfl,rfl⟩;rw[show((w.alloc (.cells #[q0,q1,q2] 35)).setCell ⟨S,0,none⟩ (.int .i32 1))=wb by rw[<-HWB.out];exact Xa w S _ _ hlt];clear ca fa c0 c2 c3 c4 c5 c6 c7;go_wp2_with (go_at_call 35;refine(HFN.out _).mono ?_;rintro e w3 ⟨rfl,t3⟩);have h3:=h1.keep t3 (fun e=>e);refine leaves_cons (f:=34) (args:=#[.pointer (some ⟨S,0,none⟩)]) (by simp) (by simp[go_sem]) ?_;refine(unlock_deferred muLib ⟨S,0,none⟩ .returning _ h3.cs.1 (h3.fr 0)).mono ?_;rintro e u' w'' ⟨rfl,rfl,rfl⟩;exact⟨_,results_tmp rfl _ _ _,rfl,h3.lock 0,(tb.trans (t3.wide (fun k e=>e.elim))).trans (Ba _ _ _ _)⟩
theorem kZ(w:World)(S m ns:Nat)(fs:List UInt8->Option Value)(be:Option Nat)(c:Bo)(folder A:ByteArray)(q0 q1 q2:Value)(h:SB w S 0 (some m) be c false)(hm:Ap w m ns fs)(hfs:folder.size<=140737488355328)(hfn:Dq folder=true)(hin:(fs folder.data.toList).isSome=true): Calls Tryz.prog 14 #[.pointer (some ⟨S,0,none⟩),.string folder,.string A,.agg #[q0,q1,q2]] w fun r w'=>r=.returned (.int .i64 8)/\SB w' S 0 (some m) be c false/\Touch (fun k=>k=S) w w':=by
 have hnm:=hm.Gf h.hp;have tb:=Ob w S #[q0,q1,q2];have h1:=(h.lock 1).keep (Tj w S #[q0,q1,q2]) (fun e=>e);have bx:(begun w S #[q0,q1,q2]).heap[w.heap.size]?=some (.cells #[q0,q1,q2] 35 (0,0)):=by
  have:=heap_alloc_new (w.setCell ⟨S,0,none⟩ (.int .i32 1)) (.cells #[q0,q1,q2] 35);rw[show(w.setCell ⟨S,0,none⟩ (.int .i32 1)).heap.size=w.heap.size by simp]at this;exact this
 obtain⟨wb,hwb⟩:∃x,x=begun w S #[q0,q1,q2]:=⟨_,rfl⟩;rw[<-hwb]at tb h1 bx;have HWB:Hid ((w.setCell ⟨S,0,none⟩ (.int .i32 1)).alloc (.cells #[q0,q1,q2] 35)=wb):=hwb.symm;clear hwb;obtain⟨c0,c2,c3,c4,c5,c6,c7⟩:=h.cs;have f0:=h.fr 0;have hlt:=h.lt;obtain⟨d0,d2,d3,d4,d5,d6,d7⟩:=h1.cs;have ca:(w.alloc (.cells #[q0,q1,q2] 35)).cell? ⟨S,0,none⟩=some (.int .i32 0):=((Touch.refl (fun _=>False) w).alloc _).at c0 (fun e=>e);have fa:(w.alloc (.cells #[q0,q1,q2] 35)).frozen? ⟨S,0,none⟩=false:=(((Touch.refl (fun _=>False) w).alloc (.cells #[q0,q1,q2] 35)).frozen (p:=⟨S,0,none⟩) hlt (fun e=>e)).trans f0;have HFN:Hid (∀W,Calls Tryz.prog 35 #[.string folder] W fun e w'=>e=.returned (.bool (Dq folder))/\Touch (fun _=>False) W w'):=fun W=>Me W folder hfs;rw[hfn]at HFN;have hm1:=hm.keep tb hnm;go_enter_defers Tryz.func14,Tryz.ntmps14;go_wp2_with fail;refine(lock_free muLib ⟨S,0,none⟩ _ ca fa).mono ?_;rintro e w' ⟨rfl,rfl⟩;rw[show((w.alloc (.cells #[q0,q1,q2] 35)).setCell ⟨S,0,none⟩ (.int .i32 1))=wb by rw[<-HWB.out];exact Xa w S _ _ hlt];clear ca fa c0 c2 c3 c4 c5 c6 c7;go_wp2_with (go_at_call 35;refine(HFN.out _).mono ?_;rintro e w3 ⟨rfl,t3⟩;have h3:=h1.keep t3 (fun e=>e);obtain⟨e0,e2,e3,e4,e5,e6,e7⟩:=h3.cs;have hlk:=(hm1.keep t3 (fun e=>e)).look Tryz.underlying84 (Pv _) folder (by unfold maxLen;omega);rw[hin]at hlk);refine leaves_cons (f:=34) (args:=#[.pointer (some ⟨S,0,none⟩)]) (by simp) (by simp[go_sem]) ?_;refine(unlock_deferred muLib ⟨S,0,none⟩ .returning _ h3.cs.1 (h3.fr 0)).mono ?_;rintro e u' w'' ⟨rfl,rfl,rfl⟩;exact⟨_,results_tmp rfl _ _ _,rfl,h3.lock 0,(tb.trans (t3.wide (fun k e=>e.elim))).trans (Ba _ _ _ _)⟩
theorem xX(w:World)(S:Nat)(sh be:Option Nat)(c:Bo)(folder A:ByteArray)(q0 q1 q2:Value)(files:List Gn)(Post:World->Int->Option Nat->Option Nat->Bo->Bool->World->Prop)(h:SB w S 0 sh be c false)(hfs:folder.size<=140737488355328)(hfn:Dq folder=true)(HLK:Hid (∀W,Touch (fun k=>k=S) w W->(Instr.lookup 84 (.map sh) (.string folder) true).run Tryz.prog W=.ok (.tuple #[Qn,.bool false]) W))(HU:Hid (∀W,Touch (fun k=>k=S) w W->Calls Tryz.prog 11 #[.string A,.agg #[q0,q1,q2]] W fun r w'=>Touch (fun _=>False) W w'/\∃a cap g,r=.returned (.tuple #[.slice a files.length cap,.int .i64 0])/\(0<files.length->a=some ⟨g,0,none⟩/\Dc w' g files)))(HBD:Hid (∀W a g cap,Touch (fun k=>k=S) w W->SB W S 1 sh be c false->(0<files.length->a=some ⟨g,0,none⟩/\Dc W g files)->Calls Tryz.prog 36 #[.pointer (some ⟨S,0,none⟩),.string folder,.slice a files.length cap] W fun r w'=>∃k sh' be' c' np',r=.returned (.int .i64 k)/\SB w' S 1 sh' be' c' np'/\Post W k sh' be' c' np' w')): Calls Tryz.prog 14 #[.pointer (some ⟨S,0,none⟩),.string folder,.string A,.agg #[q0,q1,q2]] w fun r w'=>∃W k sh' be' c' np' w6,Touch (fun k=>k=S) w W/\r=.returned (.int .i64 k)/\Post W k sh' be' c' np' w6/\w'=w6.setCell ⟨S,0,none⟩ (.int .i32 0)/\SB w' S 0 sh' be' c' np':=by
 obtain⟨N,hN⟩:∃N,N=files.length:=⟨_,rfl⟩;rw[<-hN]at HU HBD;clear hN;have HCL:Hid (∀W,Calls Tryz.prog 37 #[.string folder] W fun e w'=>e=.returned (.string folder)/\Touch (fun _=>False) W w'):=fun W=>qG W folder (by omega);have tb:=Ob w S #[q0,q1,q2];have h1:=(h.lock 1).keep (Tj w S #[q0,q1,q2]) (fun e=>e);have bx:(begun w S #[q0,q1,q2]).heap[w.heap.size]?=some (.cells #[q0,q1,q2] 35 (0,0)):=by
  have:=heap_alloc_new (w.setCell ⟨S,0,none⟩ (.int .i32 1)) (.cells #[q0,q1,q2] 35);rw[show(w.setCell ⟨S,0,none⟩ (.int .i32 1)).heap.size=w.heap.size by simp]at this;exact this
 obtain⟨wb,hwb⟩:∃x,x=begun w S #[q0,q1,q2]:=⟨_,rfl⟩;rw[<-hwb]at tb h1 bx;have HWB:Hid ((w.setCell ⟨S,0,none⟩ (.int .i32 1)).alloc (.cells #[q0,q1,q2] 35)=wb):=hwb.symm;clear hwb;obtain⟨c0,c2,c3,c4,c5,c6,c7⟩:=h.cs;have f0:=h.fr 0;have hlt:=h.lt;obtain⟨d0,d2,d3,d4,d5,d6,d7⟩:=h1.cs;have ca:(w.alloc (.cells #[q0,q1,q2] 35)).cell? ⟨S,0,none⟩=some (.int .i32 0):=((Touch.refl (fun _=>False) w).alloc _).at c0 (fun e=>e);have fa:(w.alloc (.cells #[q0,q1,q2] 35)).frozen? ⟨S,0,none⟩=false:=(((Touch.refl (fun _=>False) w).alloc (.cells #[q0,q1,q2] 35)).frozen (p:=⟨S,0,none⟩) hlt (fun e=>e)).trans f0;have HFN:Hid (∀W,Calls Tryz.prog 35 #[.string folder] W fun e w'=>e=.returned (.bool (Dq folder))/\Touch (fun _=>False) W w'):=fun W=>Me W folder hfs;rw[hfn]at HFN;have x0:=Ac bx 0;have x1:=Ac bx 1;have x2:=Ac bx 2;go_enter_defers Tryz.func14,Tryz.ntmps14;go_wp2_with fail;refine(lock_free muLib ⟨S,0,none⟩ _ ca fa).mono ?_;rintro e w' ⟨rfl,rfl⟩;rw[show((w.alloc (.cells #[q0,q1,q2] 35)).setCell ⟨S,0,none⟩ (.int .i32 1))=wb by rw[<-HWB.out];exact Xa w S _ _ hlt];clear ca fa c0 c2 c3 c4 c5 c6 c7;go_wp2_with (go_at_call 35;refine(HFN.out _).mono ?_;rintro e w3 ⟨rfl,t3⟩;have h3:=h1.keep t3 (fun e=>e);obtain⟨e0,e2,e3,e4,e5,e6,e7⟩:=h3.cs;have T3:=tb.trans (t3.wide (fun k e=>e.elim));have hlk:=HLK.out _ T3;have y0:=t3.at x0 (fun e=>e);have y1:=t3.at x1 (fun e=>e);have y2:=t3.at x2 (fun e=>e));refine(HU.out _ T3).mono ?_;rintro e w4 ⟨t4,a,cap,g,rfl,hF⟩;have HFF:Hid (0<N->a=some ⟨g,0,none⟩/\Dc w4 g files):=hF;have h4:=h3.keep t4 (fun e=>e);have T4:=T3.trans (t4.wide (fun k e=>e.elim));clear hF y0 y1 y2 x0 x1 x2 bx hlk e0 e2 e3 e4 e5 e6 e7 d0 d2 d3 d4 d5 d6 d7;go_wp2_with fail;refine(HCL.out _).mono ?_;rintro e w5 ⟨rfl,t5⟩;go_wp2_with fail;refine(HBD.out w5 a g cap (T4.trans (t5.wide (fun k e=>e.elim))) (h4.keep t5 (fun e=>e)) (fun h0=>⟨(HFF.out h0).1,Rx (HFF.out h0).2 t5 (fun e=>e)⟩)).mono ?_;rintro e w6 ⟨k,sh',be',c',np',rfl,h6,hP⟩;go_wp2_with fail;refine leaves_cons (f:=34) (args:=#[.pointer (some ⟨S,0,none⟩)]) (by simp) (by simp[go_sem]) ?_;refine(unlock_deferred muLib ⟨S,0,none⟩ .returning _ h6.cs.1 (h6.fr 0)).mono ?_;rintro e u' w'' ⟨rfl,rfl,rfl⟩;exact⟨_,results_tmp rfl _ _ _,_,k,sh',be',c',np',w6,T4.trans (t5.wide (fun k e=>e.elim)),rfl,hP,rfl,h6.lock 0⟩
def Nz(w:World)(S:Nat):World:=((((w.setCell ⟨S,2,none⟩ (.map (some w.heap.size))).setCell ⟨S,3,none⟩ (.map (some (w.heap.size+1)))).alloc (.map #[] 0)).alloc (.map #[] 0))
theorem wV(w:World)(S:Nat)(c:Bo)(np:Bool)(h:SB w S 1 none none c np):SB (Nz w S) S 1 (some w.heap.size) (some (w.heap.size+1)) c np/\Ap (Nz w S) w.heap.size 0 (fun _=>none)/\Ap (Nz w S) (w.heap.size+1) 0 (fun _=>none)/\Touch (fun k=>k=S) w (Nz w S):=by
 have h2:=(h.shown (some w.heap.size)).beside (some (w.heap.size+1));have t2:=(Ba w S 2 (.map (some w.heap.size))).trans (Ba _ S 3 (.map (some (w.heap.size+1))));obtain⟨w3,hw3⟩:∃w3,w3=(w.setCell ⟨S,2,none⟩ (.map (some w.heap.size))).setCell ⟨S,3,none⟩ (.map (some (w.heap.size+1))):=⟨_,rfl⟩;have hs3:w3.heap.size=w.heap.size:=by rw[hw3];simp
 have m1:=Ap.made w3;have m2:=Ap.made (w3.alloc (.map #[] 0));rw[World.size_alloc,hs3]at m2;rw[hs3]at m1;have ta:Touch (fun _=>False) w3 ((w3.alloc (.map #[] 0)).alloc (.map #[] 0)):=((Touch.refl _ _).alloc _).alloc _;have m1':=m1.keep ((Touch.refl (fun _=>False) (w3.alloc (.map #[] 0))).alloc (.map #[] 0)) (fun e=>e);rw[<-hw3]at h2 t2;unfold Nz;rw[<-hw3];exact⟨h2.keep ta (fun e=>e),m1',m2,t2.trans (ta.wide (fun k e=>e.elim))⟩
theorem vX(w:World)(S:Nat)(c:Bo)(np:Bool)(h:SB w S 1 none none c np): Calls Tryz.prog 73 #[.pointer (some ⟨S,0,none⟩)] w fun r w'=>r=.returned (.tuple #[])/\w'=Nz w S:=by
 have hmm:=@run_makeMap Tryz.prog;have heq:=run_eql_map_nil (P:=Tryz.prog) w 84 9 30 none Tryz.underlying84;have hlt:=h.lt;obtain⟨c0,c2,c3,c4,c5,c6,c7⟩:=h.cs;have f2:=h.fr 2;have f3:=h.fr 3;have HW:Hid (Nz w S=((((w.setCell ⟨S,2,none⟩ (.map (some w.heap.size))).setCell ⟨S,3,none⟩ (.map (some (w.heap.size+1)))).alloc (.map #[] 0)).alloc (.map #[] 0))):=rfl;go_enter Tryz.func73,Tryz.ntmps73;go_wp2;rw[<-HW.out];go_end0;exact⟨rfl,rfl⟩
theorem Qco(w:World)(S m b ns nb g cap:Nat)(a:Option Addr)(fs fb:List UInt8->Option Value)(c:Bo)(np:Bool)(folder:ByteArray)(files:List Gn)(hok:Pj files)(h:SB w S 1 (some m) (some b) c np)(hm:Ap w m ns fs)(hb:Ap w b nb fb)(h0:∀key,fb key=none)(hmb:m≠b)(hns:ns<maxLen)(hfo:folder.size<=maxLen)(hF:0<files.length->a=some ⟨g,0,none⟩/\Dc w g files):
  Calls Tryz.prog 36 #[.pointer (some ⟨S,0,none⟩),.string folder,.slice a files.length cap] w fun r w'=>Lc S m b ns fs c np folder files w.heap.size r w'/\Touch (fun k=>k=S\/k=m\/k=b) w w':=
 Qai w w S m b ns g cap a fs c np folder files hok h hm (hb.zero h0) hmb hns hfo (Touch.refl _ _) (pK w S m (some b) c np h) hF
theorem Qbv(w:World)(S g cap:Nat)(a:Option Addr)(c:Bo)(np:Bool)(folder:ByteArray)(files:List Gn)(hok:Pj files)(h:SB w S 1 none none c np)(hfo:folder.size<=maxLen)(hF:0<files.length->a=some ⟨g,0,none⟩/\Dc w g files): Calls Tryz.prog 36 #[.pointer (some ⟨S,0,none⟩),.string folder,.slice a files.length cap] w fun r w'=>Lc S w.heap.size (w.heap.size+1) 0 (fun _=>none) c np folder files w.heap.size r w'/\Touch (fun k=>k=S\/k=w.heap.size\/k=w.heap.size+1) w w':=by
 obtain⟨h1,h2,h3,t⟩:=wV w S c np h;refine Qai w (Nz w S) S w.heap.size (w.heap.size+1) 0 g cap a (fun _=>none) c np folder files hok h1 h2 h3 (by omega) (by unfold maxLen;omega) hfo t (vX w S c np h) (fun h0=>?_);obtain⟨e1,e2⟩:=hF h0;obtain⟨z0,_⟩:=e2 0 h0;refine⟨e1,Rx e2 t (fun e=>?_)⟩;have:=h.cs.1;rw[Nat.zero_mul]at z0;subst e;rw[z0]at this;cases this
theorem xN(w:World)(S:Nat)(sh be:Option Nat)(c:Bo)(folder A:ByteArray)(q0 q1 q2:Value)(k:Int)(h:SB w S 0 sh be c false)(hfs:folder.size<=140737488355328)(hfn:Dq folder=true)(hk:¬k=0)(HLK:Hid (∀W,Touch (fun k=>k=S) w W->(Instr.lookup 84 (.map sh) (.string folder) true).run Tryz.prog W=.ok (.tuple #[Qn,.bool false]) W))(HU:Hid (∀W,Touch (fun k=>k=S) w W->Calls Tryz.prog 11 #[.string A,.agg #[q0,q1,q2]] W fun r w'=>Touch (fun _=>False) W w'/\r=.returned (.tuple #[.slice none 0 0,.int .i64 k]))): Calls Tryz.prog 14 #[.pointer (some ⟨S,0,none⟩),.string folder,.string A,.agg #[q0,q1,q2]] w fun r w'=>r=.returned (.int .i64 k)/\SB w' S 0 sh be c false/\Touch (fun k=>k=S) w w':=by
 have hk1:(k != 0)=true:=by simpa using hk
 have tb:=Ob w S #[q0,q1,q2];have h1:=(h.lock 1).keep (Tj w S #[q0,q1,q2]) (fun e=>e);have bx:(begun w S #[q0,q1,q2]).heap[w.heap.size]?=some (.cells #[q0,q1,q2] 35 (0,0)):=by
  have:=heap_alloc_new (w.setCell ⟨S,0,none⟩ (.int .i32 1)) (.cells #[q0,q1,q2] 35);rw[show(w.setCell ⟨S,0,none⟩ (.int .i32 1)).heap.size=w.heap.size by simp]at this;exact this
 obtain⟨wb,hwb⟩:∃x,x=begun w S #[q0,q1,q2]:=⟨_,rfl⟩;rw[<-hwb]at tb h1 bx;have HWB:Hid ((w.setCell ⟨S,0,none⟩ (.int .i32 1)).alloc (.cells #[q0,q1,q2] 35)=wb):=hwb.symm;clear hwb;obtain⟨c0,c2,c3,c4,c5,c6,c7⟩:=h.cs;have f0:=h.fr 0;have hlt:=h.lt;obtain⟨d0,d2,d3,d4,d5,d6,d7⟩:=h1.cs;have ca:(w.alloc (.cells #[q0,q1,q2] 35)).cell? ⟨S,0,none⟩=some (.int .i32 0):=((Touch.refl (fun _=>False) w).alloc _).at c0 (fun e=>e);have fa:(w.alloc (.cells #[q0,q1,q2] 35)).frozen? ⟨S,0,none⟩=false:=(((Touch.refl (fun _=>False) w).alloc (.cells #[q0,q1,q2] 35)).frozen (p:=⟨S,0,none⟩) hlt (fun e=>e)).trans f0;have HFN:Hid (∀W,Calls Tryz.prog 35 #[.string folder] W fun e w'=>e=.returned (.bool (Dq folder))/\Touch (fun _=>False) W w'):=fun W=>Me W folder hfs;rw[hfn]at HFN;have x0:=Ac bx 0;have x1:=Ac bx 1;have x2:=Ac bx 2;go_enter_defers Tryz.func14,Tryz.ntmps14;go_wp2_with fail;refine(lock_free muLib ⟨S,0,none⟩ _ ca fa).mono ?_;rintro e w' ⟨rfl,rfl⟩;rw[show((w.alloc (.cells #[q0,q1,q2] 35)).setCell ⟨S,0,none⟩ (.int .i32 1))=wb by rw[<-HWB.out];exact Xa w S _ _ hlt];clear ca fa c0 c2 c3 c4 c5 c6 c7;go_wp2_with (first|(go_at_call 35;refine(HFN.out _).mono ?_;rintro e w3 ⟨rfl,t3⟩;have h3:=h1.keep t3 (fun e=>e);obtain⟨e0,e2,e3,e4,e5,e6,e7⟩:=h3.cs;have T3:=tb.trans (t3.wide (fun k e=>e.elim));have hlk:=HLK.out _ T3;have y0:=t3.at x0 (fun e=>e);have y1:=t3.at x1 (fun e=>e);have y2:=t3.at x2 (fun e=>e))|(go_at_call 11;refine(HU.out _ T3).mono ?_;rintro e w4 ⟨t4,rfl⟩;have h4:=h3.keep t4 (fun e=>e)));refine leaves_cons (f:=34) (args:=#[.pointer (some ⟨S,0,none⟩)]) (by simp) (by simp[go_sem]) ?_;refine(unlock_deferred muLib ⟨S,0,none⟩ .returning _ h4.cs.1 (h4.fr 0)).mono ?_;rintro e u' w'' ⟨rfl,rfl,rfl⟩;exact⟨_,results_tmp rfl _ _ _,rfl,h4.lock 0,(T3.trans (t4.wide (fun k e=>e.elim))).trans (Ba _ _ _ _)⟩
end Go.Proofs.YtmhlkdlcpicekaaGreatDoor
