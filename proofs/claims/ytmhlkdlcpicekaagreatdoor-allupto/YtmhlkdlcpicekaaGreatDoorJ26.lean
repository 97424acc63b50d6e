/- Joined. -/
import Derived.Test.YtmhlkdlcpicekaaGreatDoorJ25
import Derived.Test.YtmhlkdlcpicekaaGreatDoorJ23
import Derived.Test.YtmhlkdlcpicekaaGreatDoorJ19
import Derived.Sort.Walk0
set_option linter.unusedSimpArgs false
set_option linter.unusedVariables false
set_option maxRecDepth 100000
set_option maxHeartbeats 20000000
namespace Go.Proofs.YtmhlkdlcpicekaaGreatDoor
open Go.RowKit Go.Shelf Go.Lib
theorem Tryz.Qgb:(Tryz.prog.info? 9).map (fun i=>(i.zero,i.size,i.bytes))=some (some (.string ⟨#[]⟩),1,16):=by kernel_rfl
def Qeh(l:List UInt8):Value:=.string ⟨l.toArray⟩
def strs(l:List (List UInt8)):List Value:=l.map Qeh
theorem lT(l:List (List UInt8))(x:List UInt8):strs (l++[x])=strs l++[Qeh x]:=by simp[strs]
theorem wY(w:World)(s:ByteArray)(h:0<s.size)(hs:s.size<=1048576): Calls Tryz.prog 252 #[.string s] w fun r w'=>∃v,r=.returned v/\w'.ownsRow w.heap.size 9 1 v (Az (Ak s) []).length (strs (Az (Ak s) []))/\Touch (fun _=>False) w w':=by
 obtain⟨i0,hi,hz0,hz1,hz2⟩:=info_parts Tryz.Qgb;obtain⟨Pt,hPt⟩:∃P,P=Az (Ak s) []:=⟨_,rfl⟩;rw[<-hPt];rw[<-Qd]at hPt;have hsz:=Qk s;have HB:Hid (∀W,Calls Tryz.prog 227 #[.string s] W fun e w'=>e=.returned (.string (Gh s))/\Touch (fun _=>False) W w'):=fun W=>oZ W s h (by omega);revert hPt hsz HB;generalize Gh s=t;intro hPt hsz HB;have ht:t.size<=1048576:=by omega
 have HP:Hid (Pt=[]++Az (t.toList.drop 0) []):=hPt;clear hPt hsz h hs;go_enter Tryz.func252,Tryz.ntmps252;go_wp2_with fail;refine(HB.out _).mono ?_;rintro e w1 ⟨rfl,t1⟩;have hs1:=t1.size;go_wp2;go_loopw [3,4,6] (fun v q i wr=>∃(k:Nat) (D:List (List UInt8)) (p:List UInt8),k<=t.size/\i=.int .i64 (k:Int)/\q=.string ⟨p.toArray⟩/\D.length<=k/\p.length<=k/\wr.ownsRow w.heap.size 9 1 v D.length (strs D)/\Hid (Pt=D++Az (t.toList.drop k) p)/\Touch (fun _=>False) w wr) (fun v q i wr=>t.size-(intOf i).toNat)
 case atStart=>exact⟨0,[],[],Nat.zero_le _,rfl,rfl,Nat.zero_le _,Nat.zero_le _,World.ownsRow_nil _ _ _ _,HP,t1⟩
 case round=>
  obtain⟨k,D,p,hk,rfl,rfl,hD,hp,hro,HK,T⟩:=hrel;have hsw:=T.size;clear t1 hs1 HP;have b3:D.length+1<=maxLen:=by unfold maxLen;omega
  have b4:(D.length+1)*16<=140737488355328:=by omega
  by_cases hlt:k<t.size
  .have hc:t.toList.drop k=t[k]::t.toList.drop (k+1):=by
    rw[ByteArray.toList_eq,List.drop_eq_getElem_cons (by simpa using hlt)];rfl
   have HX:Hid (Pt=D++Az (t[k]::t.toList.drop (k+1)) p):=by unfold Hid;rw[HK.out,hc]
   have HE:Hid ((⟨p.toArray⟩:ByteArray)++t.extract k (k+1)=⟨(p++[t[k]]).toArray⟩):=by
    unfold Hid;apply ByteArray.ext;apply Array.toList_inj.1;rw[ByteArray.data_append,Array.toList_append,ByteArray.data_extract,Array.toList_extract,List.extract_eq_take_drop];have e:t.data.toList.drop k=t[k]::t.data.toList.drop (k+1):=by
     have:=hc;rw[ByteArray.toList_eq]at this;exact this
    rw[e];simp
   have l1:(⟨p.toArray⟩:ByteArray).size=p.length:=by show p.toArray.size=_;simp
   have k1:(k:Int)<(t.size:Int):=by omega
   clear HK hc;by_cases hc:t[k]=47
   .have hx:=HX.out;rw[hc,Az,if_pos rfl]at hx;have HN:Hid (Pt=(D++[p])++Az (t.toList.drop (k+1)) []):=(by unfold Hid;rw[hx];simp);have c1:((t[k].toNat:Int)==47)=true:=(by rw[hc];rfl);have c2:(t[k].toNat:Int)=47:=(by rw[hc];rfl);clear hx HX hc HE;go_wp2_with (at_builtin;refine wpList_append_own _ rfl _ _ 45 rfl w.heap.size 9 i0 (.string ⟨#[]⟩) 1 16 Tryz.underlying45 hi hz0 hz1 hz2 rfl (by decide) _ _ _ rfl (hro.alloc _) ⟨_,0,none⟩ 1 1 [.string ⟨p.toArray⟩] rfl rfl (cell_one_new _ _ _) (by simp[Value.oneCell']) b3 b4 (by simp;omega) ?_;intro v' w3 hown' hgrow _);refine⟨⟨k+1,D++[p],[],by omega,by go_num,rfl,by simp;omega,Nat.zero_le _,?_,HN,?_⟩,by simp[intOf];omega⟩;.rw[lT,List.length_append];exact hown'
    exact(T.alloc _).Fa hgrow (fun q hq=>(hro.lt q hq).1)
   have hx:=HX.out;rw[Az,if_neg hc]at hx;have HN:Hid (Pt=D++Az (t.toList.drop (k+1)) (p++[t[k]])):=hx;have c2:¬(t[k].toNat:Int)=47:=fun e=>hc (UInt8.toNat_inj.1 (by simpa using(by omega:t[k].toNat=47)));have c1:((t[k].toNat:Int)==47)=false:=by simpa using c2
   clear hx HX hc;go_wp2;exact⟨⟨k+1,D,p++[t[k]],by omega,by go_num,by rw[<-HE.out],by omega,by simp;omega,hro,HN,T⟩,by simp[intOf];omega⟩
  obtain rfl:k=t.size:=by omega
  have hx:=HK.out;rw[List.drop_of_length_le (by rw[ByteArray.toList_eq];exact Nat.le_refl _),Az]at hx;have HN:Hid (Pt=D++[p]):=hx;clear hx HK;go_wp2_with (at_builtin;refine wpList_append_own _ rfl _ _ 45 rfl w.heap.size 9 i0 (.string ⟨#[]⟩) 1 16 Tryz.underlying45 hi hz0 hz1 hz2 rfl (by decide) _ _ _ rfl (hro.alloc _) ⟨_,0,none⟩ 1 1 [.string ⟨p.toArray⟩] rfl rfl (cell_one_new _ _ _) (by simp[Value.oneCell']) b3 b4 (by simp;omega) ?_;intro v' w3 hown' hgrow _);go_ret;refine⟨_,rfl,?_,(T.alloc _).Fa hgrow (fun q hq=>(hro.lt q hq).1)⟩;rw[HN.out,lT,List.length_append];exact hown'
structure Um (w:World) (g:Nat) (X:List (List UInt8)):Prop where
 cells:∀i (h:i<X.length),w.cell? ⟨g,i,none⟩=some (Qeh X[i])
 lt:g<w.heap.size
theorem Um.keep{S:Nat->Prop}{w w':World}{g:Nat}{X:List (List UInt8)}(h:Um w g X)(ht:Touch S w w')(hs:¬S g):Um w' g X:=
 ⟨fun i hi=>(ht.cell (p:=⟨g,i,none⟩) h.lt hs).trans (h.cells i hi),Nat.lt_of_lt_of_le h.lt ht.size⟩
theorem Um.owned{w:World}{base:Nat}{v:Value}{X:List (List UInt8)}(h:w.ownsRow base 9 1 v X.length (strs X))(hX:0<X.length):∃g cap,v=.slice (some ⟨g,0,none⟩) X.length cap/\Um w g X:=by
 obtain⟨h1,⟨h2,h3⟩|⟨g',cap',cur,rfl,hb,hg,h3,h4,h5,h6⟩⟩:=h;.omega
 refine⟨g',cap',rfl,fun i hi=>?_,(Array.getElem?_eq_some_iff.1 hg).1⟩;have e:(strs X)[i]?=some (Qeh X[i]):=by unfold strs;rw[List.getElem?_map,List.getElem?_eq_getElem hi];rfl
 rw[Ac hg i,<-e,<-h6,List.getElem?_take_of_lt (by omega)];simp
theorem eG(u p:List UInt8):0<(Az u p).length:=by
 obtain⟨x,xs,h⟩:=Gv u p;rw[h];simp
theorem Rk:∀(u p:List UInt8),(Az u p).length<=u.length+1
 | [],p=>by simp[Az]
 |c::u,p=>by
  unfold Az;split;.have:=Rk u [];simp;omega
  have:=Rk u (p++[c]);simp;omega
theorem mP(s:ByteArray):(Ak s).length<=s.size:=by
 rw[<-Qd,ByteArray.toList_eq];have:=Qk s;simpa using this
theorem Qhh(w:World)(a b:ByteArray)(ha0:0<a.size)(hb0:0<b.size)(ha:a.size<=1048576)(hb:b.size<=1048576): Calls Tryz.prog 229 #[.string a,.string b] w fun r w'=>r=.returned (.bool (Vd a b))/\Touch (fun _=>False) w w':=by
 obtain⟨R,hR⟩:∃R,R=Vd a b:=⟨_,rfl⟩;rw[<-hR];have x0:=eG (Ak a) [];have y0:=eG (Ak b) [];have x1:=Rk (Ak a) [];have y1:=Rk (Ak b) [];have x2:=mP a;have y2:=mP b;have HA:Hid (∀W,Calls Tryz.prog 252 #[.string a] W fun r w'=>∃v,r=.returned v/\w'.ownsRow W.heap.size 9 1 v (Az (Ak a) []).length (strs (Az (Ak a) []))/\Touch (fun _=>False) W w'):=fun W=>wY W a ha0 ha;have HB:Hid (∀W,Calls Tryz.prog 252 #[.string b] W fun r w'=>∃v,r=.returned v/\w'.ownsRow W.heap.size 9 1 v (Az (Ak b) []).length (strs (Az (Ak b) []))/\Touch (fun _=>False) W w'):=fun W=>wY W b hb0 hb;unfold Vd at hR;revert hR x0 y0 x1 y1 HA HB;generalize Az (Ak a) []=X;generalize Az (Ak b) []=Y;intro hR x0 y0 x1 y1 HA HB;have HR:Hid (R=Sr (X.drop 0) (Y.drop 0)):=hR;obtain⟨nx,hnx⟩:∃n,n=X.length:=⟨_,rfl⟩;obtain⟨ny,hny⟩:∃n,n=Y.length:=⟨_,rfl⟩;have HNX:Hid (nx=X.length):=hnx;have HNY:Hid (ny=Y.length):=hny;have lx:nx<=1048577:=by omega
 have ly:ny<=1048577:=by omega
 clear x1 y1 x2 y2 ha hb ha0 hb0 hR;go_enter Tryz.func229,Tryz.ntmps229;go_wp2_with fail;refine(HA.out _).mono ?_;rintro e w1 ⟨v1,rfl,hro1,t1⟩;go_wp2_with fail;refine(HB.out _).mono ?_;rintro e w2 ⟨v2,rfl,hro2,t2⟩;have hro1':=t2.owns hro1 (fun _ _ h=>h);obtain⟨g,cap,rfl,hX⟩:=Um.owned hro1' x0;obtain⟨g',cap',rfl,hY⟩:=Um.owned hro2 y0;have T2:=t1.trans t2;rw[<-hnx,<-hny];clear HA HB hro1 hro2 hro1' t1 t2 x0 y0 hnx hny;go_wp2;go_loopw [7] (fun i wr=>∃k:Nat,k<=nx/\k<=ny/\i=.int .i64 (k:Int)/\Hid (R=Sr (X.drop k) (Y.drop k))/\Um wr g X/\Um wr g' Y/\Touch (fun _=>False) w wr) (fun i wr=>nx-(intOf i).toNat)
 case atStart=>exact⟨0,Nat.zero_le _,Nat.zero_le _,rfl,HR,hX,hY,T2⟩
 case round=>
  clear hX hY T2 HR;obtain⟨k,kx,ky,rfl,HK,hX,hY,T⟩:=hrel;by_cases h1:k<nx
  .have h1':k<X.length:=by have:=HNX.out;omega
   have e1:(k:Int)<(nx:Int):=by omega
   by_cases h2:k<ny
   .have h2':k<Y.length:=(by have:=HNY.out;omega);have e2:(k:Int)<(ny:Int):=(by omega);have c1:=hX.cells k h1';have c2:=hY.cells k h2';have HX:Hid (R=if X[k]=Y[k]then Sr (X.drop (k+1)) (Y.drop (k+1))else decide (X[k]<Y[k])):=by
     unfold Hid;rw[HK.out,List.drop_eq_getElem_cons h1',List.drop_eq_getElem_cons h2',Sr]
    unfold Qeh at c1 c2;clear HK;revert c1 c2 HX;generalize X[k]=x;generalize Y[k]=y;intro c1 c2 HX;by_cases hxy:x=y
    .have hx:=HX.out;rw[if_pos hxy]at hx;have HN:Hid (R=Sr (X.drop (k+1)) (Y.drop (k+1))):=hx;have q1:(x==y)=true:=(by simpa using hxy);clear HX hx;go_wp2;go_quiet (fail);go_wp2;exact⟨⟨k+1,by omega,by omega,by go_num,HN,hX.keep ((Touch.refl (fun _=>False) _).drewN _) (fun e=>e),hY.keep ((Touch.refl (fun _=>False) _).drewN _) (fun e=>e),T.drewN _⟩,by simp[intOf];omega⟩
    have hx:=HX.out;rw[if_neg hxy]at hx;have HN:Hid (R=decide (x<y)):=hx;have q1:(x==y)=false:=(by simpa using hxy);clear HX hx;go_wp2;go_quiet (fail);go_wp2;go_quiet (fail);go_wp2;go_ret;exact⟨by rw[HN.out,<-bytesLess_eq];rfl,(T.drewN _).drewN _⟩
   obtain rfl:k=ny:=by omega
   have hx:=HK.out;rw[List.drop_eq_getElem_cons h1',List.drop_of_length_le (show Y.length<=k by have:=HNY.out;omega),Sr]at hx;have HE:Hid (R=false):=hx;have e2:¬(k:Int)<(k:Int):=by omega
   have e3:¬(nx:Int)<(k:Int):=by omega
   clear HK hx;go_wp2;go_ret;exact⟨by rw[HE.out];rfl,T⟩
  obtain rfl:k=nx:=by omega
  have HE:Hid (R=decide (k<ny)):=by
   unfold Hid;rw[HK.out,List.drop_of_length_le (show X.length<=k by have:=HNX.out;omega)];by_cases h2:k<ny;.rw[List.drop_eq_getElem_cons (show k<Y.length by have:=HNY.out;omega),Sr,decide_eq_true h2]
   rw[List.drop_of_length_le (show Y.length<=k by have:=HNY.out;omega),Sr,decide_eq_false h2]
  have e2:¬(k:Int)<(k:Int):=by omega
  clear HK;go_wp2;go_ret;exact⟨by rw[HE.out];rfl,T⟩
theorem Tryz.dZ:(Tryz.prog.info? 255).map (fun i=>(i.zero,i.size,i.bytes))=some (some (.agg #[.string ⟨#[]⟩,.string ⟨#[]⟩]),2,32):=by kernel_rfl
@[reducible] def Fj(w:World)(base:Nat)(v:Value)(L:List Gn):Prop:=w.ownsRow base 255 2 v L.length (Ar L)
theorem Ll(l k:List Gn):Ar (l++k)=Ar l++Ar k:=by simp[Ar]
theorem Kw(l:List Gn):∀u∈Ar l,u.oneCell'=true:=by
 intro u hu;unfold Ar at hu;rw[List.mem_flatMap]at hu;obtain⟨f,_,h⟩:=hu;simp[Wn]at h;rcases h with rfl|rfl<;>rfl
theorem Fj.files{w:World}{base g cap:Nat}{L:List Gn}(h:Fj w base (.slice (some ⟨g,0,none⟩) L.length cap) L):Dc w g L/\g<w.heap.size/\L.length<=cap/\∀j u,(Ar L)[j]?=some u->w.cell? ⟨g,j,none⟩=some u:=by
 obtain⟨h1,⟨h2,_⟩|⟨g',cap',cur,e,hb,hg,h3,h4,h5,h6⟩⟩:=h;.cases h2
 cases e;have key:∀j u,(Ar L)[j]?=some u->w.cell? ⟨g,j,none⟩=some u:=by
  intro j u hj;have hlt:j<L.length*2:=by rw[<-h1];exact(List.getElem?_eq_some_iff.1 hj).1
  rw[<-h6,List.getElem?_take_of_lt hlt]at hj;rw[Ac hg j];simpa using hj
 refine⟨fun i hi=>?_,(Array.getElem?_eq_some_iff.1 hg).1,h3,key⟩;obtain⟨a1,a2⟩:=Xb L i hi;exact⟨key _ _ a1,key _ _ a2⟩
theorem yC(L:List Gn)(k j:Nat):(Ar (L.drop k))[j]?=(Ar L)[k*2+j]?\/L.length<k:=by
 by_cases hk:k<=L.length
 .left;have e:Ar L=Ar (L.take k)++Ar (L.drop k):=by rw[<-Ll,List.take_append_drop]
  have hl:(Ar (L.take k)).length=k*2:=by rw[Xf,List.length_take];omega
  rw[e,List.getElem?_append_right (by omega),hl];congr 1;omega
 right;omega
theorem yS(L:List Gn)(k j:Nat)(u:Value)(h:(Ar (L.take k))[j]?=some u):(Ar L)[j]?=some u:=by
 have e:Ar L=Ar (L.take k)++Ar (L.drop k):=by rw[<-Ll,List.take_append_drop]
 rw[e,List.getElem?_append_left (List.getElem?_eq_some_iff.1 h).1];exact h
theorem Qb8(L:List Gn)(f:Gn)(k:Nat)(h:k<L.length):Hy (L.drop k) f=if L[k].1=f.1 then L.drop k else if Vd f.1 L[k].1 then f::L.drop k else L[k]::Hy (L.drop (k+1)) f:=by
 rw[List.drop_eq_getElem_cons h,Hy]
theorem Fj.mono{w:World}{base base':Nat}{v:Value}{L:List Gn}(h:Fj w base v L)(hb:base'<=base):Fj w base' v L:=
 ⟨h.1,h.2.imp id (fun⟨g,cap,cur,q1,q2,q3⟩=>⟨g,cap,cur,q1,Nat.le_trans hb q2,q3⟩)⟩
theorem Qcb(w:World)(base g cap:Nat)(L:List Gn)(nm D:ByteArray)(hL:Fj w base (.slice (some ⟨g,0,none⟩) L.length cap) L)(hb:base<=w.heap.size)(hn:∀x∈L,0<x.1.size/\x.1.size<=1048576)(hf:0<nm.size/\nm.size<=1048576)(hlen:L.length<=100000000): Calls Tryz.prog 158 #[.slice (some ⟨g,0,none⟩) L.length cap,.agg #[.string nm,.string D]] w fun r w'=>∃v',r=.returned v'/\Fj w' base v' (Hy L (nm,D.data.toList))/\Touch (fun _=>False) w w':=by
 obtain⟨i0,hi,hz0,hz1,hz2⟩:=info_parts Tryz.dZ;obtain⟨n,hN⟩:∃n,n=L.length:=⟨_,rfl⟩;rw[<-hN];have HN:Hid (n=L.length):=hN;have hn':n<=100000000:=by omega
 obtain⟨P,hP⟩:∃P,P=Hy L (nm,D.data.toList):=⟨_,rfl⟩;rw[<-hP];have HP:Hid (P=L.take 0++Hy (L.drop 0) (nm,D.data.toList)):=hP;have HNM:Hid (∀x∈L,0<x.1.size/\x.1.size<=1048576):=hn;have B0:=CB.new w [.string nm,.string D] 255;have T0:=(Touch.refl (fun _=>False) w).alloc (Obj.cells #[.string nm,.string D] 255);have L0:=hL.alloc (Obj.cells #[.string nm,.string D] 255);rw[<-hN]at L0;clear hP hlen hn hL hN;go_enter Tryz.func158,Tryz.ntmps158;go_wp2;go_loopw [5] (fun i wr=>∃k:Nat,k<=n/\i=.int .i64 (k:Int)/\Hid (P=L.take k++Hy (L.drop k) (nm,D.data.toList))/\wr.ownsRow base 255 2 (.slice (some ⟨g,0,none⟩) n cap) n (Ar L)/\CB wr w.heap.size [.string nm,.string D]/\Touch (fun _=>False) w wr) (fun i wr=>n-(intOf i).toNat)
 case atStart=>
  refine⟨0,Nat.zero_le _,rfl,HP,?_,B0,T0⟩;exact L0
 case round=>
  clear B0 T0 L0 HP;obtain⟨k,hk,rfl,HK,hL,hB,T⟩:=hrel;have hL':Fj wr base (.slice (some ⟨g,0,none⟩) L.length cap) L:=by have h:=hL;rw[HN.out]at h;exact h
  obtain⟨hF,hg,hcap,hcell⟩:=hL'.files;have b0:wr.cell? ⟨w.heap.size,0,none⟩=some (.string nm):=hB.cells 0 (by simp);have b1:wr.cell? ⟨w.heap.size,1,none⟩=some (.string D):=hB.cells 1 (by simp);have szw:=T.size;have HTK:Hid (∀j u,(Ar (L.take k))[j]?=some u->wr.cell? ((⟨g,0,none⟩:Addr).add j)=some u):=fun j u h=>by
   have:=hcell j u (yS L k j u h);rw[Addr.add_lit,Nat.zero_add];exact this
  have HDR:Hid (∀j u,(Ar (L.drop k))[j]?=some u->wr.cell? ⟨g,k*2+j,none⟩=some u):=fun j u h=>by
   have hkn:k<=L.length:=by have:=HN.out;omega
   rcases yC L k j with e|e;.rw[e]at h;exact hcell _ u h
   omega
  have HTL:Hid ((Ar (L.take k)).length=k*2):=by unfold Hid;rw[Xf,List.length_take];have:=HN.out;omega
  have HDL:Hid ((Ar (L.drop k)).length=(n-k)*2):=by unfold Hid;rw[Xf,List.length_drop];have:=HN.out;omega
  clear hcell;by_cases hlt:k<n
  .have hlt':k<L.length:=by have:=HN.out;omega
   have cx:=(hF k hlt').1;have hnm:=HNM.out L[k] (List.getElem_mem hlt');have HX:Hid (P=L.take k++if L[k].1=nm then L.drop k else if Vd nm L[k].1 then(nm,D.data.toList)::L.drop k else L[k]::Hy (L.drop (k+1)) (nm,D.data.toList)):=by
    unfold Hid;rw[HK.out,Qb8 L _ k hlt']
   have HTS:Hid (L.take (k+1)=L.take k++[L[k]]):=List.take_succ_eq_append_getElem hlt';have HTD:Hid (L.take k++L.drop k=L):=List.take_append_drop k L;clear HK hF;have i1:(k:Int)<(n:Int):=by omega
   revert cx hnm HX HTS;generalize L[k]=y;intro cx hnm HX HTS;obtain⟨yn,yd⟩:=y;simp only at cx hnm HX;by_cases heq:yn=nm
   .have hx:=HX.out;rw[if_pos heq,HTD.out]at hx;have HE:Hid (P=L):=hx;have q1:(yn.toList==nm.toList)=true:=(by rw[heq];simp);clear HX hx HTS HTK HDR HTL HDL;go_wp2;go_quiet (fail);go_wp2;go_ret;exact⟨.slice (some ⟨g,0,none⟩) n cap,rfl,by rw[HE.out];show World.ownsRow _ _ _ _ _ _ _;rw[<-HN.out];exact hL,T.drewN _⟩
   have q1:(yn.toList==nm.toList)=false:=by rw[beq_eq_false_iff_ne,Ne,bytes_eq];exact heq
   have hx:=HX.out;rw[if_neg heq]at hx;have HX2:Hid (P=L.take k++if Vd nm yn then(nm,D.data.toList)::L.drop k else(yn,yd)::Hy (L.drop (k+1)) (nm,D.data.toList)):=hx;have HLS:Hid (∀W,Calls Tryz.prog 229 #[.string nm,.string yn] W fun r w'=>r=.returned (.bool (Vd nm yn))/\Touch (fun _=>False) W w'):=fun W=>Qhh W nm yn hf.1 hnm.1 hf.2 hnm.2;clear HX hx;go_wp2;go_quiet (fail);go_wp2;go_region_held3 (fun X=>X.cell? ⟨g,k*2,none⟩=some (.string yn)/\X.cell? ⟨w.heap.size,0,none⟩=some (.string nm)) (first|exact⟨cx,b0⟩|exact⟨t5.at cx (fun e=>e),t5.at b0 (fun e=>e)⟩|assumption|go_keep) (first|(go_at_call 229;refine(HLS.out _).mono ?_;rintro e w5 ⟨rfl,t5⟩));all_goals
    have t5':Touch (fun _=>False) wr w5:=(((Touch.refl (fun _=>False) wr).drewN _).drew).trans t5;have hL5:=t5'.owns hL (fun _ _ h=>h);have hB5:=hB.keep t5' (fun e=>e);have T5:=T.trans t5';have f0:=t5'.at b0 (fun e=>e);have f1:=t5'.at b1 (fun e=>e);have s5:=t5'.size;have HTK5:Hid (∀j u,(Ar (L.take k))[j]?=some u->w5.cell? ((⟨g,0,none⟩:Addr).add j)=some u):=fun j u h=>t5'.at (HTK.out j u h) (fun e=>e);have HDR5:Hid (∀j u,(Ar (L.drop k))[j]?=some u->w5.cell? ⟨g,k*2+j,none⟩=some u):=fun j u h=>t5'.at (HDR.out j u h) (fun e=>e);clear HLS cx b0 b1 hB hL hL' t5 t5' HTK HDR T;cases hb2:Vd nm yn with
    |true=>
     have hx:=HX2.out;rw[hb2,if_pos rfl]at hx;have HFIN:Hid (P=L.take k++(nm,D.data.toList)::L.drop k):=hx;have b0:=f0;have b1:=f1;have HTK:=HTK5;have HDR:=HDR5;have T:=T5;clear HX2 hx HTS f0 f1 HTK5 HDR5;have c1:0+k<=maxLen:=(by unfold maxLen;omega);have c2:(0+k)*32<=140737488355328:=(by omega);have k0:(0:Int)<=(k:Int):=(by omega);have kc:k<=cap:=(by have:=HN.out;omega);have kc2:(k:Int)<=(cap:Int):=(by omega);have k1:(k:Int)<=(n:Int):=(by omega);have c3:k+1<=maxLen:=(by unfold maxLen;omega);have c4:(k+1)*32<=140737488355328:=(by omega);have c5:k+1+(n-k)<=maxLen:=(by unfold maxLen;omega);have c6:(k+1+(n-k))*32<=140737488355328:=(by omega);go_wp2_with (first|(at_builtin;refine wpList_append_own _ rfl _ _ 72 rfl w5.heap.size 255 i0 (.agg #[.string ⟨#[]⟩,.string ⟨#[]⟩]) 2 32 Tryz.underlying72 hi hz0 hz1 hz2 rfl (by decide) (.slice none 0 0) 0 [] rfl (World.ownsRow_nil _ _ _ _) ⟨g,0,none⟩ k _ (Ar (L.take k)) rfl HTL.out HTK.out (Kw _) c1 c2 (Nat.le_refl _) ?_;intro v1 w1 ho1 hg1 _;have t1:Touch (fun _=>False) w5 w1:=(Touch.refl (fun _=>False) w5).grown hg1 (fun q hq=>by cases hq);have e0:=t1.at b0 (fun e=>e);have e1:=t1.at b1 (fun e=>e);have s1:=t1.size;rw[Nat.zero_add,List.nil_append]at ho1)|(at_builtin;refine wpList_append_own _ rfl _ _ 72 rfl w5.heap.size 255 i0 (.agg #[.string ⟨#[]⟩,.string ⟨#[]⟩]) 2 32 Tryz.underlying72 hi hz0 hz1 hz2 rfl (by decide) v1 k (Ar (L.take k)) rfl (ho1.alloc _) ⟨w1.heap.size,0,none⟩ 1 1 [.string nm,.string D] rfl rfl (cell_two_new _ _ _ _) (by simp[Value.oneCell']) c3 c4 (by simp;omega) ?_;intro v2 w2 ho2 hg2 _;have B1:∀q,v1.ownBlock=some q->w5.heap.size<=q:=fun q hq=>(ho1.lt q hq).1;have t2:Touch (fun q=>w5.heap.size<=q) w5 w2:=((t1.mono (fun _ _ h=>h.elim)).alloc _).grown hg2 (fun q hq=>B1 q hq);have HDR2:Hid (∀j u,(Ar (L.drop k))[j]?=some u->w2.cell? ((⟨g,k*2,none⟩:Addr).add j)=some u):=(fun j u h=>by rw[Addr.add_lit];exact t2.at (HDR.out j u h) (show¬w5.heap.size<=g by omega));have s2:=t2.size)|(at_builtin;refine wpList_append_own _ rfl _ _ 72 rfl w5.heap.size 255 i0 (.agg #[.string ⟨#[]⟩,.string ⟨#[]⟩]) 2 32 Tryz.underlying72 hi hz0 hz1 hz2 rfl (by decide) v2 (k+1) (Ar (L.take k)++[.string nm,.string D]) rfl ho2 ⟨g,k*2,none⟩ (n-k) _ (Ar (L.drop k)) rfl HDL.out HDR2.out (Kw _) c5 c6 (by omega) ?_;intro v3 w3 ho3 hg3 _));have B2:∀q,v2.ownBlock=some q->w5.heap.size<=q:=fun q hq=>(ho2.lt q hq).1;have t3:Touch (fun q=>w5.heap.size<=q) w5 w3:=t2.grown hg3 (fun q hq=>B2 q hq);go_ret;refine⟨v3,rfl,?_,?_⟩
     .have e:Ar P=Ar (L.take k)++[.string nm,.string D]++Ar (L.drop k):=by
       rw[HFIN.out,Ll,List.append_assoc];rfl
      have el:P.length=k+1+(n-k):=by
       rw[HFIN.out,List.length_append,List.length_take,List.length_cons,List.length_drop];have:=HN.out;omega
      have ho4:w3.ownsRow w5.heap.size 255 2 v3 P.length (Ar P):=(by rw[e,el];exact ho3);exact Fj.mono ho4 (by omega)
     exact T.trans (t3.mono (fun q hq h=>absurd h (by omega)))
    |false=>
     have hx:=HX2.out;rw[hb2]at hx;have HN2:Hid (P=L.take (k+1)++Hy (L.drop (k+1)) (nm,D.data.toList)):=by
      unfold Hid;rw[HTS.out,hx];simp
     clear HX2 hx HTS HTK5 HDR5 HTL HDL;go_wp2;exact⟨⟨k+1,by omega,by go_num,HN2,hL5,hB5,T5⟩,by simp[intOf];omega⟩
  obtain rfl:k=n:=by omega
  have hx:=HK.out;rw[List.drop_of_length_le (by have:=HN.out;omega),Hy]at hx;have HFIN:Hid (P=L.take k++(nm,D.data.toList)::L.drop k):=by unfold Hid;rw[hx,List.drop_of_length_le (by have:=HN.out;omega)]
  clear HK hx hF;have hdl:=HDL.out;rw[Nat.sub_self]at hdl;clear HDL;have HDL:Hid ((Ar (L.drop k)).length=0*2):=hdl;clear hdl;have HNV:Hid (∀(ad:Addr) (W:World) j u,(Ar (L.drop k))[j]?=some u->W.cell? (ad.add j)=some u):=fun ad W j u h=>by rw[List.eq_nil_of_length_eq_zero (by have:=HDL.out;omega:(Ar (L.drop k)).length=0)]at h;cases h
  by_cases hck:cap=k
  .have c1:0+k<=maxLen:=by unfold maxLen;omega
   have c2:(0+k)*32<=140737488355328:=by omega
   have k0:(0:Int)<=(k:Int):=by omega
   have kc:k<=cap:=by have:=HN.out;omega
   have kc2:(k:Int)<=(cap:Int):=by omega
   have k1:(k:Int)<=(k:Int):=by omega
   have c3:k+1<=maxLen:=by unfold maxLen;omega
   have c4:(k+1)*32<=140737488355328:=by omega
   have c5:k+1+0<=maxLen:=by unfold maxLen;omega
   have c6:(k+1+0)*32<=140737488355328:=by omega
   go_wp2_with (first|(at_builtin;refine wpList_append_own _ rfl _ _ 72 rfl wr.heap.size 255 i0 (.agg #[.string ⟨#[]⟩,.string ⟨#[]⟩]) 2 32 Tryz.underlying72 hi hz0 hz1 hz2 rfl (by decide) (.slice none 0 0) 0 [] rfl (World.ownsRow_nil _ _ _ _) ⟨g,0,none⟩ k _ (Ar (L.take k)) rfl HTL.out HTK.out (Kw _) c1 c2 (Nat.le_refl _) ?_;intro v1 w1 ho1 hg1 _;have t1:Touch (fun _=>False) wr w1:=(Touch.refl (fun _=>False) wr).grown hg1 (fun q hq=>by cases hq);have e0:=t1.at b0 (fun e=>e);have e1:=t1.at b1 (fun e=>e);have s1:=t1.size;rw[Nat.zero_add,List.nil_append]at ho1)|(at_builtin;refine wpList_append_own _ rfl _ _ 72 rfl wr.heap.size 255 i0 (.agg #[.string ⟨#[]⟩,.string ⟨#[]⟩]) 2 32 Tryz.underlying72 hi hz0 hz1 hz2 rfl (by decide) v1 k (Ar (L.take k)) rfl (ho1.alloc _) ⟨w1.heap.size,0,none⟩ 1 1 [.string nm,.string D] rfl rfl (cell_two_new _ _ _ _) (by simp[Value.oneCell']) c3 c4 (by simp;omega) ?_;intro v2 w2 ho2 hg2 _;have B1:∀q,v1.ownBlock=some q->wr.heap.size<=q:=fun q hq=>(ho1.lt q hq).1;have t2:Touch (fun q=>wr.heap.size<=q) wr w2:=((t1.mono (fun _ _ h=>h.elim)).alloc _).grown hg2 (fun q hq=>B1 q hq);have HDR2:Hid (∀j u,(Ar (L.drop k))[j]?=some u->w2.cell? ((⟨g,k*2,none⟩:Addr).add j)=some u):=(fun j u h=>by rw[Addr.add_lit];exact t2.at (HDR.out j u h) (show¬wr.heap.size<=g by omega));have s2:=t2.size)|(at_builtin;refine wpList_append_own _ rfl _ _ 72 rfl wr.heap.size 255 i0 (.agg #[.string ⟨#[]⟩,.string ⟨#[]⟩]) 2 32 Tryz.underlying72 hi hz0 hz1 hz2 rfl (by decide) v2 (k+1) (Ar (L.take k)++[.string nm,.string D]) rfl ho2 ⟨g,0,none⟩ 0 _ (Ar (L.drop k)) rfl HDL.out (HNV.out _ _) (Kw _) c5 c6 (by omega) ?_;intro v3 w3 ho3 hg3 _));have B2:∀q,v2.ownBlock=some q->wr.heap.size<=q:=fun q hq=>(ho2.lt q hq).1;have t3:Touch (fun q=>wr.heap.size<=q) wr w3:=t2.grown hg3 (fun q hq=>B2 q hq);go_ret;refine⟨v3,rfl,?_,?_⟩
   .have e:Ar P=Ar (L.take k)++[.string nm,.string D]++Ar (L.drop k):=by
     rw[HFIN.out,Ll,List.append_assoc];rfl
    have el:P.length=k+1+0:=by
     rw[HFIN.out,List.length_append,List.length_take,List.length_cons,List.length_drop];have:=HN.out;omega
    have ho4:w3.ownsRow wr.heap.size 255 2 v3 P.length (Ar P):=(by rw[e,el];exact ho3);exact Fj.mono ho4 (by omega)
   exact T.trans (t3.mono (fun q hq h=>absurd h (by omega)))
  have c1:0+k<=maxLen:=by unfold maxLen;omega
  have c2:(0+k)*32<=140737488355328:=by omega
  have k0:(0:Int)<=(k:Int):=by omega
  have kc:k<=cap:=by have:=HN.out;omega
  have kc2:(k:Int)<=(cap:Int):=by omega
  have k1:(k:Int)<=(k:Int):=by omega
  have c3:k+1<=maxLen:=by unfold maxLen;omega
  have c4:(k+1)*32<=140737488355328:=by omega
  have c5:k+1+0<=maxLen:=by unfold maxLen;omega
  have c6:(k+1+0)*32<=140737488355328:=by omega
  go_wp2_with (first|(at_builtin;refine wpList_append_own _ rfl _ _ 72 rfl wr.heap.size 255 i0 (.agg #[.string ⟨#[]⟩,.string ⟨#[]⟩]) 2 32 Tryz.underlying72 hi hz0 hz1 hz2 rfl (by decide) (.slice none 0 0) 0 [] rfl (World.ownsRow_nil _ _ _ _) ⟨g,0,none⟩ k _ (Ar (L.take k)) rfl HTL.out HTK.out (Kw _) c1 c2 (Nat.le_refl _) ?_;intro v1 w1 ho1 hg1 _;have t1:Touch (fun _=>False) wr w1:=(Touch.refl (fun _=>False) wr).grown hg1 (fun q hq=>by cases hq);have e0:=t1.at b0 (fun e=>e);have e1:=t1.at b1 (fun e=>e);have s1:=t1.size;rw[Nat.zero_add,List.nil_append]at ho1)|(at_builtin;refine wpList_append_own _ rfl _ _ 72 rfl wr.heap.size 255 i0 (.agg #[.string ⟨#[]⟩,.string ⟨#[]⟩]) 2 32 Tryz.underlying72 hi hz0 hz1 hz2 rfl (by decide) v1 k (Ar (L.take k)) rfl (ho1.alloc _) ⟨w1.heap.size,0,none⟩ 1 1 [.string nm,.string D] rfl rfl (cell_two_new _ _ _ _) (by simp[Value.oneCell']) c3 c4 (by simp;omega) ?_;intro v2 w2 ho2 hg2 _;have B1:∀q,v1.ownBlock=some q->wr.heap.size<=q:=fun q hq=>(ho1.lt q hq).1;have t2:Touch (fun q=>wr.heap.size<=q) wr w2:=((t1.mono (fun _ _ h=>h.elim)).alloc _).grown hg2 (fun q hq=>B1 q hq);have HDR2:Hid (∀j u,(Ar (L.drop k))[j]?=some u->w2.cell? ((⟨g,k*2,none⟩:Addr).add j)=some u):=(fun j u h=>by rw[Addr.add_lit];exact t2.at (HDR.out j u h) (show¬wr.heap.size<=g by omega));have s2:=t2.size)|(at_builtin;refine wpList_append_own _ rfl _ _ 72 rfl wr.heap.size 255 i0 (.agg #[.string ⟨#[]⟩,.string ⟨#[]⟩]) 2 32 Tryz.underlying72 hi hz0 hz1 hz2 rfl (by decide) v2 (k+1) (Ar (L.take k)++[.string nm,.string D]) rfl ho2 ⟨g,k*2,none⟩ 0 _ (Ar (L.drop k)) rfl HDL.out HDR2.out (Kw _) c5 c6 (by omega) ?_;intro v3 w3 ho3 hg3 _));have B2:∀q,v2.ownBlock=some q->wr.heap.size<=q:=fun q hq=>(ho2.lt q hq).1;have t3:Touch (fun q=>wr.heap.size<=q) wr w3:=t2.grown hg3 (fun q hq=>B2 q hq);go_ret;refine⟨v3,rfl,?_,?_⟩
  .have e:Ar P=Ar (L.take k)++[.string nm,.string D]++Ar (L.drop k):=by
    rw[HFIN.out,Ll,List.append_assoc];rfl
   have el:P.length=k+1+0:=by
    rw[HFIN.out,List.length_append,List.length_take,List.length_cons,List.length_drop];have:=HN.out;omega
   have ho4:w3.ownsRow wr.heap.size 255 2 v3 P.length (Ar P):=by rw[e,el];exact ho3
   exact Fj.mono ho4 (by omega)
  exact T.trans (t3.mono (fun q hq h=>absurd h (by omega)))
theorem Qbb(w:World)(nm D:ByteArray): Calls Tryz.prog 158 #[.slice none 0 0,.agg #[.string nm,.string D]] w fun r w'=>∃v',r=.returned v'/\Fj w' w.heap.size v' [(nm,D.data.toList)]/\Touch (fun _=>False) w w':=by
 obtain⟨i0,hi,hz0,hz1,hz2⟩:=info_parts Tryz.dZ;have B0:=CB.new w [.string nm,.string D] 255;have T0:=(Touch.refl (fun _=>False) w).alloc (Obj.cells #[.string nm,.string D] 255);have s0:(w.alloc (Obj.cells #[.string nm,.string D] 255)).heap.size=w.heap.size+1:=by simp
 go_enter Tryz.func158,Tryz.ntmps158;go_wp2;go_loopw [5] (fun i wr=>i=.int .i64 0/\wr=w.alloc (Obj.cells #[.string nm,.string D] 255)) (fun i wr=>0)
 case atStart=>exact⟨rfl,rfl⟩
 case round=>
  obtain⟨rfl,rfl⟩:=hrel;have b0:(w.alloc (Obj.cells #[.string nm,.string D] 255)).cell? ⟨w.heap.size,0,none⟩=some (.string nm):=B0.cells 0 (by simp);have b1:(w.alloc (Obj.cells #[.string nm,.string D] 255)).cell? ⟨w.heap.size,1,none⟩=some (.string D):=B0.cells 1 (by simp);obtain⟨W,hW⟩:∃W,W=w.alloc (Obj.cells #[.string nm,.string D] 255):=⟨_,rfl⟩;rw[<-hW]at b0 b1 T0 s0 ⊢;clear hW B0;have c3:0+1<=maxLen:=by unfold maxLen;omega
  have c1:0+0<=maxLen:=by unfold maxLen;omega
  have c5:1+0<=maxLen:=by unfold maxLen;omega
  go_wp2_with (first|(at_builtin;refine Gi rfl _ _ 72 rfl W.heap.size W.heap.size 255 i0 (.agg #[.string ⟨#[]⟩,.string ⟨#[]⟩]) 2 32 Tryz.underlying72 hi hz0 hz1 hz2 rfl (by decide) (.slice none 0 0) 0 [] rfl (World.ownsRow_nil _ _ _ _) (.slice none 0 0) 0 [] rfl (World.ownsRow_nil _ _ _ _) (by intro u hu;cases hu) c1 (by omega) (Nat.le_refl _) ?_;intro v1 w1 ho1 hg1;have t1:Touch (fun _=>False) W w1:=(Touch.refl (fun _=>False) W).grown hg1 (fun q hq=>by cases hq);have e0:=t1.at b0 (fun e=>e);have e1:=t1.at b1 (fun e=>e);have s1:=t1.size;rw[Nat.zero_add,List.nil_append]at ho1)|(at_builtin;refine wpList_append_own _ rfl _ _ 72 rfl W.heap.size 255 i0 (.agg #[.string ⟨#[]⟩,.string ⟨#[]⟩]) 2 32 Tryz.underlying72 hi hz0 hz1 hz2 rfl (by decide) v1 0 [] rfl (ho1.alloc _) ⟨w1.heap.size,0,none⟩ 1 1 [.string nm,.string D] rfl rfl (cell_two_new _ _ _ _) (by simp[Value.oneCell']) c3 (by omega) (by simp;omega) ?_;intro v2 w2 ho2 hg2 _;have B1:∀q,v1.ownBlock=some q->W.heap.size<=q:=fun q hq=>(ho1.lt q hq).1;have t2:Touch (fun q=>W.heap.size<=q) W w2:=((t1.mono (fun _ _ h=>h.elim)).alloc _).grown hg2 (fun q hq=>B1 q hq);have s2:=t2.size;rw[Nat.zero_add,List.nil_append]at ho2)|(at_builtin;refine Gi rfl _ _ 72 rfl W.heap.size W.heap.size 255 i0 (.agg #[.string ⟨#[]⟩,.string ⟨#[]⟩]) 2 32 Tryz.underlying72 hi hz0 hz1 hz2 rfl (by decide) v2 1 [.string nm,.string D] rfl ho2 (.slice none 0 0) 0 [] rfl (World.ownsRow_nil _ _ _ _) (by intro u hu;cases hu) c5 (by omega) (by omega) ?_;intro v3 w3 ho3 hg3));have B2:∀q,v2.ownBlock=some q->W.heap.size<=q:=fun q hq=>(ho2.lt q hq).1;have t3:Touch (fun q=>W.heap.size<=q) W w3:=t2.grown hg3 (fun q hq=>B2 q hq);go_ret;refine⟨v3,rfl,?_,T0.trans (t3.mono (fun q hq h=>absurd h (by omega)))⟩;rw[Nat.add_zero,List.append_nil]at ho3;have ho4:Fj w3 W.heap.size v3 [(nm,D.data.toList)]:=ho3;exact ho4.mono (by omega)
theorem zK(w:World)(base:Nat)(v:Value)(L:List Gn)(nm D:ByteArray)(hL:Fj w base v L)(hb:base<=w.heap.size)(hn:∀x∈L,0<x.1.size/\x.1.size<=1048576)(hf:0<nm.size/\nm.size<=1048576)(hlen:L.length<=100000000): Calls Tryz.prog 158 #[v,.agg #[.string nm,.string D]] w fun r w'=>∃v',r=.returned v'/\Fj w' base v' (Hy L (nm,D.data.toList))/\Touch (fun _=>False) w w':=by
 obtain⟨q1,⟨q2,q3⟩|⟨g',cap',cur,rfl,hrest⟩⟩:=id hL
 .subst q2;obtain rfl:L=[]:=List.eq_nil_of_length_eq_zero q3;refine(Qbb w nm D).mono ?_;rintro r w' ⟨v',h1,h2,h3⟩;exact⟨v',h1,h2.mono hb,h3⟩
 exact Qcb w base g' cap' L nm D hL hb hn hf hlen
theorem Ld(p:ByteArray):p.data.toList=Ak p++(if Aj p then [47]else []):=by
 unfold Ak;by_cases h:Aj p=true
 .rw[if_pos h,if_pos h,ByteArray.toList_eq];unfold Aj at h;rw[ByteArray.toList_eq]at h;have h':=of_decide_eq_true h;cases hl:p.data.toList with
  |nil=>rw[hl]at h';cases h'
  |cons a l=>
   rw[hl]at h';have hne:a::l≠[]:=by simp
   rw[List.getLast?_eq_some_getLast hne]at h';have:=List.dropLast_concat_getLast hne;rw[Option.some.inj h']at this;exact this.symm
 rw[if_neg h,if_neg h,ByteArray.toList_eq,List.append_nil]
theorem Qe4(p:ByteArray):p.data.toList.length<=(Ak p).length+1:=by
 have:=congrArg List.length (Ld p);rw[List.length_append]at this;split at this<;>simp at this ⊢<;>omega
structure Qbz (nm:ByteArray):Prop where
 nul:Jh nm.data.toList
 apart:∀k,((Ak nm)[k]?=some 47\/k=(Ak nm).length)->0<k/\(Ak nm)[k-1]?≠some 47
theorem jT(nm:ByteArray)(h:Ci nm=true):Qbz nm:=by
 unfold Ci at h;rw[Bool.and_eq_true,Bool.and_eq_true]at h;obtain⟨⟨h1,h2⟩,h3⟩:=h;refine⟨fun c hc e=>?_,fun k hk=>?_⟩
 .rw[ByteArray.toList_eq]at h2;have:=List.all_eq_true.1 h2 c hc;rw[e]at this;revert this;decide
 have:=Vs (Ak nm) [] (fun x hx e=>by
  have:=List.all_eq_true.1 h3 x hx;rw[e]at this;revert this;decide) k hk
 have hk0:k≠0:=fun e=>this.1 e rfl;refine⟨by omega,?_⟩;exact this.2 (k-1) (by omega)
def fO(L:List Ai)(p:ByteArray):Prop:=∃x∈L,(Aj x.Af.name=false/\p=x.Af.name)\/∃k,x.Af.name.data.toList[k]?=some 47/\p=(Ez (x.Af.name.data.toList.take (k+1))).1
theorem vG(l:List UInt8):(Ez l).1.data.toList=l:=rfl
theorem Jn(l:List UInt8)(k:Nat)(h:l[k]?=some 47):Aj (Ez (l.take (k+1))).1=true/\Ak (Ez (l.take (k+1))).1=l.take k:=by
 have hk:k<l.length:=(List.getElem?_eq_some_iff.1 h).1;have e:Aj (Ez (l.take (k+1))).1=true:=by
  unfold Aj;rw[ByteArray.toList_eq,vG,List.getLast?_eq_getElem?,List.length_take,show min (k+1) l.length-1=k by omega,List.getElem?_take_of_lt (by omega)];exact decide_eq_true h
 refine⟨e,?_⟩;unfold Ak;rw[if_pos e,ByteArray.toList_eq,vG,List.dropLast_eq_take,List.length_take,List.take_take];congr 1;omega
theorem Qav(nm:ByteArray)(k:Nat)(h:nm.data.toList[k]?=some 47):((Ak nm)[k]?=some 47\/k=(Ak nm).length)/\nm.data.toList.take k=(Ak nm).take k:=by
 have ht:=Ld nm;have hl:=Qe4 nm;have hk:k<nm.data.toList.length:=(List.getElem?_eq_some_iff.1 h).1;by_cases hlt:k<(Ak nm).length
 .refine⟨.inl ?_,?_⟩;.rw[ht,List.getElem?_append_left hlt]at h;exact h
  conv=>lhs;rw[ht]
  rw[List.take_append_of_le_length (by omega)]
 refine⟨.inr (by omega),?_⟩
 conv=>lhs;rw[ht]
 rw[List.take_append_of_le_length (by omega)]
theorem dG{L:List Ai}(hn:∀x∈L,Ci x.Af.name=true){p:ByteArray}(h:fO L p):Jh p.data.toList/\(Ak p).getLast?≠some 47:=by
 obtain⟨x,hx,⟨hf,rfl⟩|⟨k,hk,rfl⟩⟩:=h
 .refine⟨(jT _ (hn x hx)).nul,?_⟩;unfold Ak;rw[if_neg (by rw[hf];simp)];unfold Aj at hf;exact of_decide_eq_false hf
 have nf:=jT _ (hn x hx);refine⟨fun c hc=>nf.nul c (List.mem_of_mem_take hc),?_⟩;rw[(Jn _ k hk).2];obtain⟨b1,b2⟩:=Qav _ k hk;obtain⟨a1,a2⟩:=nf.apart k b1;have hkl:k<x.Af.name.data.toList.length:=(List.getElem?_eq_some_iff.1 hk).1;rw[List.getLast?_eq_getElem?,List.length_take,show min k x.Af.name.data.toList.length-1=k-1 by omega,b2,List.getElem?_take_of_lt (by omega)];exact a2
theorem Qcx(a b:ByteArray):Dj a b=Dj b a:=by
 unfold Dj;rw[decide_eq_decide.2 (⟨Eq.symm,Eq.symm⟩:Ak a=Ak b↔Ak b=Ak a)];generalize (decide (Ak b=Ak a))=x;generalize (Fg (Ak a) (Ak b)&&!Aj a)=y;generalize (Fg (Ak b) (Ak a)&&!Aj b)=z;cases x<;>cases y<;>cases z<;>rfl
theorem Qep{L:List Ai}(hc:Bl (fun a b=>Dj a.name b.name) (L.map (·.Af))=false){x y:Ai}(hx:x∈L)(hy:y∈L)(hne:x≠y):Dj x.Af.name y.Af.name=false:=by
 rw[Gz,List.pairwise_map,List.pairwise_iff_getElem]at hc;obtain⟨i,hi,rfl⟩:=List.getElem_of_mem hx;obtain⟨j,hj,rfl⟩:=List.getElem_of_mem hy;rcases Nat.lt_trichotomy i j with h|h|h;.exact hc i j hi hj h
 .subst h;exact absurd rfl hne
 rw[Qcx];exact hc j i hj hi h
theorem uM{a b:ByteArray}(ha:Aj a=false)(k:Nat)(hk:b.data.toList[k]?=some 47)(h:a.data.toList=b.data.toList.take k):Dj a b=true:=by
 have e1:Ak a=a.data.toList:=by unfold Ak;rw[if_neg (by rw[ha];simp),ByteArray.toList_eq]
 obtain⟨b1,b2⟩:=Qav b k hk;unfold Dj;rcases b1 with b1|b1
 .have:Fg (Ak a) (Ak b)=true:=by
   unfold Fg;rw[List.isPrefixOf_iff_prefix,e1,h,b2];have hkl:=(List.getElem?_eq_some_iff.1 b1).1;have:(Ak b).take k++[47]=(Ak b).take (k+1):=by
    rw[List.take_add_one,b1];rfl
   rw[this];exact List.take_prefix ..
  rw[this,ha];simp
 have:Ak a=Ak b:=by rw[e1,h,b2,b1,List.take_length]
 rw[decide_eq_true this];rfl
theorem Qfh{L:List Ai}(hc:Bl (fun a b=>Dj a.name b.name) (L.map (·.Af))=false){p q:ByteArray}(hp:fO L p)(hq:fO L q)(h:Ak p=Ak q):p=q:=by
 have file_fold:∀{x y:Ai} {k:Nat},x∈L->y∈L->Aj x.Af.name=false->y.Af.name.data.toList[k]?=some 47->Ak x.Af.name=y.Af.name.data.toList.take k->False:=by
  intro x y k hx hy hf hk he;have e1:Ak x.Af.name=x.Af.name.data.toList:=by unfold Ak;rw[if_neg (by rw[hf];simp),ByteArray.toList_eq]
  rw[e1]at he;by_cases hxy:x=y
  .subst hxy;have:=congrArg List.length he;have hkl:=(List.getElem?_eq_some_iff.1 hk).1;rw[List.length_take]at this;omega
  have:=Qep hc hx hy hxy;rw[uM hf k hk he]at this;cases this
 obtain⟨x,hx,⟨hf,rfl⟩|⟨k,hk,rfl⟩⟩:=hp
 .obtain⟨y,hy,⟨hg,rfl⟩|⟨j,hj,rfl⟩⟩:=hq
  .refine Oo ?_;rw[Ld x.Af.name,Ld y.Af.name,h,hf,hg]
  rw[(Jn _ j hj).2]at h;exact(file_fold hx hy hf hj h).elim
 rw[(Jn _ k hk).2]at h;obtain⟨y,hy,⟨hg,rfl⟩|⟨j,hj,rfl⟩⟩:=hq;.exact(file_fold hy hx hg hk h.symm).elim
 refine Oo ?_;rw[Ld (Ez (x.Af.name.data.toList.take (k+1))).1,Ld (Ez (y.Af.name.data.toList.take (j+1))).1,(Jn _ j hj).1,(Jn _ k hk).1,(Jn _ k hk).2,h,(Jn _ j hj).2]
theorem kQ{L:List Ai}(hn:∀x∈L,Ci x.Af.name=true)(hc:Bl (fun a b=>Dj a.name b.name) (L.map (·.Af))=false):eX (fO L):=by
 refine⟨fun a b ha hb hne=>?_,fun a ha=>(dG hn ha).1⟩;obtain⟨a1,a2⟩:=dG hn ha;obtain⟨b1,b2⟩:=dG hn hb;have ta:=Ld a;have tb:=Ld b;have na:Jh (Ak a):=fun c hc=>a1 c (by rw[ta];exact List.mem_append_left _ hc);have nb:Jh (Ak b):=fun c hc=>b1 c (by rw[tb];exact List.mem_append_left _ hc);unfold Vd;rw[pG _ _ _ na nb];refine decide_eq_decide.2 ?_;rw[ta,tb];refine(lX _ _ _ _ (fun e=>hne (Qfh hc ha hb e)) na nb ?_ ?_ a2 b2).symm
 .split;.exact .inr rfl
  exact .inl rfl
 split;.exact .inr rfl
 exact .inl rfl
structure Nq (L:List Ai) (acc:List Gn) (K:List (List UInt8)) (out:List Gn):Prop where
 perm:out.Perm (acc++K.map Ez)
 fP:Srt out
 Qdo:∀f∈acc,fO L f.1/\Aj f.1=false
 Qgi:∀k∈K,fO L (Ez k).1/\Aj (Ez k).1=true
theorem Nq.all{L:List Ai}{acc:List Gn}{K:List (List UInt8)}{out:List Gn}(h:Nq L acc K out):∀x∈out,fO L x.1:=by
 intro x hx;rcases List.mem_append.1 (h.perm.mem_iff.1 hx)with h1|h1;.exact(h.Qdo x h1).1
 obtain⟨k,hk,rfl⟩:=List.mem_map.1 h1;exact(h.Qgi k hk).1
theorem Qcv{a b:List UInt8}(h:(Ez a).1=(Ez b).1):a=b:=by
 have:=congrArg (fun x:ByteArray=>x.data.toList) h;exact this
theorem Nq.folds{L:List Ai}(hP:eX (fO L)){x:Ai}(hx:x∈L):∀(f i:Nat) {acc:List Gn}{K:List (List UInt8)}{out:List Gn},Nq L acc K out->Nq L acc (Jy x.Af.name.data.toList f i K) (Fb x.Af.name.data.toList f i out)
 |0,_,_,_,_,h=>h
 |f+1,i,acc,K,out,h=>by
  unfold Jy Fb;refine Nq.folds hP hx f (i+1) ?_;by_cases h47:x.Af.name.data.toList[i]?=some 47
  .have hA:fO L (Ez (x.Af.name.data.toList.take (i+1))).1:=⟨x,hx,.inr ⟨i,h47,rfl⟩⟩;have hF:=(Jn _ i h47).1;rw[if_pos h47];by_cases hk:K.contains (x.Af.name.data.toList.take (i+1))=true
   .rw[if_neg (by rw[hk];simp)];have hm:Ez (x.Af.name.data.toList.take (i+1))∈out:=h.perm.mem_iff.2 (List.mem_append_right _ (List.mem_map.2 ⟨_,by simpa using hk,rfl⟩));rw[uH hP _ hA out h.all h.fP ⟨_,hm,rfl⟩];exact h
   rw[if_pos ⟨h47,by simpa using hk⟩];have hnew:∀y∈out,y.1≠(Ez (x.Af.name.data.toList.take (i+1))).1:=by
    intro y hy e;rcases List.mem_append.1 (h.perm.mem_iff.1 hy)with h1|h1
    .have:=(h.Qdo y h1).2;rw[e,hF]at this;cases this
    obtain⟨k,hk',rfl⟩:=List.mem_map.1 h1;rw[Qcv e]at hk';exact hk (by simpa using hk')
   obtain⟨q1,q2⟩:=jR hP _ hA out h.all h.fP hnew;refine⟨q1.trans ?_,q2,h.Qdo,fun k hk'=>?_⟩
   .rw[List.map_append,<-List.append_assoc];exact(List.Perm.cons _ h.perm).trans (List.perm_append_comm (l₁:=[_]) (l₂:=acc++K.map Ez))
   rcases List.mem_append.1 hk' with h1|h1;.exact h.Qgi k h1
   rw[List.mem_singleton.1 h1];exact⟨hA,hF⟩
  rw[if_neg h47,if_neg (fun e=>h47 e.1)];exact h
theorem Nq.file{L:List Ai}(hP:eX (fO L)){x:Ai}(hx:x∈L)(hf:Aj x.Af.name=false){acc:List Gn}{K:List (List UInt8)}{out:List Gn}(h:Nq L acc K out)(hne:∀f∈acc,f.1≠x.Af.name)(d:List UInt8):Nq L (acc++[(x.Af.name,d)]) K (Hy out (x.Af.name,d)):=by
 have hA:fO L (x.Af.name,d).1:=⟨x,hx,.inl ⟨hf,rfl⟩⟩;have hnew:∀y∈out,y.1≠(x.Af.name,d).1:=by
  intro y hy e;rcases List.mem_append.1 (h.perm.mem_iff.1 hy)with h1|h1;.exact hne y h1 e
  obtain⟨k,hk',rfl⟩:=List.mem_map.1 h1;have:=(h.Qgi k hk').2;rw[e]at this;rw[show Aj (x.Af.name,d).1=false from hf]at this;cases this
 obtain⟨q1,q2⟩:=jR hP _ hA out h.all h.fP hnew;refine⟨q1.trans ?_,q2,fun f hf'=>?_,h.Qgi⟩
 .refine(List.Perm.cons _ h.perm).trans ?_;rw[List.append_assoc];exact List.perm_middle.symm
 rcases List.mem_append.1 hf' with h1|h1;.exact h.Qdo f h1
 rw[List.mem_singleton.1 h1];exact⟨hA,hf⟩
theorem Wp(s:ByteArray){L:List Ai}(hP:eX (fO L))(hc:Bl (fun a b=>Dj a.name b.name) (L.map (·.Af))=false):∀(l L0:List Ai) (acc:List Gn) (K:List (List UInt8)) (out:List Gn),L=L0++l->Nq L acc K out->(∀f∈acc,∃y∈L0,f.1=y.Af.name) ->match Dp s l acc with
  |.inl k=>Gx s l out=.inl k
  |.inr fs=>∃o,Gx s l out=.inr o/\Nq L fs (Ep l K) o
 | [],L0,acc,K,out,_,h,_=>⟨out,rfl,h⟩
 |x::l,L0,acc,K,out,hL,h,ha=>by
  have hx:x∈L:=by rw[hL];simp
  have h1:=Nq.folds hP hx x.Af.name.size 0 h;have hL':L=(L0++[x])++l:=by rw[hL];simp
  unfold Dp Gx;by_cases hf:Aj x.Af.name=true
  .rw[if_pos hf,if_pos hf];exact Wp s hP hc l (L0++[x]) acc _ _ hL' h1 (fun f hf=>by
    obtain⟨y,hy,e⟩:=ha f hf;exact⟨y,List.mem_append_left _ hy,e⟩)
  have hf':Aj x.Af.name=false:=by simpa using hf
  rw[if_neg hf,if_neg hf];cases hd:Ff s x with
  |inl k=>rfl
  |inr d=>
   simp only;have hne:∀f∈acc,f.1≠x.Af.name:=by
    intro f hfa e;obtain⟨y,hy,e2⟩:=ha f hfa;rw[Gz,List.pairwise_map,hL,List.pairwise_append]at hc;have:=hc.2.2 y hy x (List.mem_cons_self ..);rw[<-e2,e]at this;unfold Dj at this;simp at this
   refine Wp s hP hc l (L0++[x]) (acc++[(x.Af.name,d)]) _ _ hL' (Nq.file hP hx hf' h1 hne d) (fun f hf=>?_);rcases List.mem_append.1 hf with h2|h2
   .obtain⟨y,hy,e⟩:=ha f h2;exact⟨y,List.mem_append_left _ hy,e⟩
   rw[List.mem_singleton.1 h2];exact⟨x,by simp,rfl⟩
theorem Su(s:ByteArray)(L:List Ai)(hn:∀x∈L,Ci x.Af.name=true)(hc:Bl (fun a b=>Dj a.name b.name) (L.map (·.Af))=false): match Dp s L []with
  |.inl k=>Gx s L []=.inl k
  |.inr fs=>∃o,Gx s L []=.inr o/\∀d:List Gn,d.Perm (fs++(Ep L []).map Ez)->d.Pairwise (fun a b=>En a.1.data.toList b.1.data.toList<=0)->d=o:=by
 have h0:Nq L [] [] []:=⟨List.Perm.refl _,List.Pairwise.nil,fun f hf=>(by cases hf),fun f hf=>(by cases hf)⟩;have:=Wp s (kQ hn hc) hc L [] [] [] [] rfl h0 (fun f hf=>by cases hf);revert this;cases Dp s L []with
 |inl k=>exact fun h=>h
 |inr fs=>
  rintro⟨o,ho,h⟩;exact⟨o,ho,fun d hd hs=>Ue o d (hd.trans h.perm.symm) h.fP hs⟩
theorem Iz(s:ByteArray)(qe qn qb:Int)(L:List Ai)(h:listOf s qe qn qb=.ok L):(∀x∈L,Na x.Af/\Aw x.Af=0)/\Bl (fun a b=>Dj a.name b.name) (L.map (·.Af))=false:=by
 unfold listOf at h;cases hd:Ey s with
 |error k=>rw[hd]at h;cases h
 |ok d=>
  rw[hd]at h;simp only at h;split at h;.cases h
  split at h;.cases h
  cases he:Ce s d.stop d.count d.place []with
  |error k=>rw[he]at h;cases h
  |ok l=>
   rw[he]at h;simp only at h;split at h;.cases h
   split at h;.cases h
   rename_i hcl;cases hsp:spansOf s d.place l with
   |none=>rw[hsp]at h;cases h
   |some r=>
    rw[hsp]at h;simp only at h;split at h;.cases h
    split at h;.cases h
    cases h;obtain⟨c1,c2⟩:=Ui s _ _ _ hsp;have b3:=(Pq s _ _ _ _ _ he).2.2;refine⟨fun x hx=>?_,by rw[c1];simpa using hcl⟩;rcases b3 x.Af (c2 x hx).1 with h0|h0;.cases h0
    exact h0
theorem kC(e:Eo)(h:Aw e=0):e.method=0\/e.method=8:=by
 unfold Aw at h;split at h;.cases h
 split at h;.cases h
 rename_i hn;simp only[Bool.or_eq_true,Bool.and_eq_true,decide_eq_true_eq,not_or,not_and]at hn;by_cases h0:e.method=0;.exact .inl h0
 right;have:=hn.1.2 h0;omega
theorem Sv(f:Gn):∀l:List Gn,(Hy l f).length<=l.length+1
 | []=>by simp[Hy]
 |x::l=>by
  unfold Hy;split;.simp
  split;.simp
  have:=Sv f l;simp;omega
theorem aG(P:Gn->Prop)(f:Gn)(hf:P f):∀l:List Gn,(∀x∈l,P x)->∀x∈Hy l f,P x
 | [],_,x,hx=>by simp[Hy]at hx;rw[hx];exact hf
 |y::l,h,x,hx=>by
  unfold Hy at hx;split at hx;.exact h x hx
  split at hx
  .rcases List.mem_cons.1 hx with rfl|hx;.exact hf
   exact h x hx
  rcases List.mem_cons.1 hx with rfl|hx;.exact h _ (List.mem_cons_self ..)
  exact aG P f hf l (fun z hz=>h z (List.mem_cons_of_mem _ hz)) x hx
theorem kX(nm:List UInt8)(n m:Nat)(h:m<n)(o:List Gn):Fb nm (n-m) m o=Fb nm (n-(m+1)) (m+1) (if nm[m]?=some 47 then Hy o (Ez (nm.take (m+1)))else o):=by
 rw[show n-m=(n-(m+1))+1 by omega];rfl
theorem zC(s:ByteArray)(m:Nat):Ez (s.data.toList.take m)=(s.extract 0 m,[]):=by
 unfold Ez;congr 1;apply ByteArray.ext;rw[ByteArray.data_extract];apply Array.toList_inj.1;rw[Array.toList_extract,List.extract_eq_take_drop];simp
def Hg(base:Nat)(s:ByteArray)(R:Except Nat (List Ai))(r:Ending)(w':World):Prop:=match R with
 |.error k=>r=.returned (.tuple #[.slice none 0 0,.int .i64 (k:Int)])
 |.ok L=>match Gx s L []with
  |.inl k=>r=.returned (.tuple #[.slice none 0 0,.int .i64 (k:Int)])
  |.inr o=>∃v,r=.returned (.tuple #[v,.int .i64 0])/\Fj w' base v o
theorem oG(e:Eo)(h:Aw e=0):(Aj e.name=true->e.size=0)/\(e.method=0->e.size=e.packed):=by
 unfold Aw at h;split at h;.cases h
 split at h;.cases h
 split at h;.cases h
 split at h;.cases h
 rename_i hn;simp only[Bool.or_eq_true,Bool.and_eq_true,decide_eq_true_eq,not_or,not_and]at hn;obtain⟨h1,h2⟩:=hn;refine⟨fun hf=>?_,fun hm=>?_⟩
 .have:=h1 hf;omega
 have:=h2 hm;omega
theorem iZ(s:ByteArray)(x:Ai)(d:List UInt8)(hf:Yk s x)(h0:Aw x.Af=0)(h:Ff s x=.inr d):d.length=x.Af.size/\sumOf ⟨d.toArray⟩=x.Af.sum:=by
 unfold Ff at h;cases hg:Gt (s.extract x.place (x.place+x.Af.packed)) x.Af with
 |inl k=>rw[hg]at h;cases h
 |inr l=>
  rw[hg]at h;simp only at h;split at h
  .rename_i hs;cases h;refine⟨?_,hs⟩;unfold Gt at hg;split at hg
   .rename_i hm;cases hg;have e:=(oG _ h0).2 hm;have e2:(s.extract x.place (x.place+x.Af.packed)).data.toList.length=(s.extract x.place (x.place+x.Af.packed)).size:=Array.length_toList;rw[e2,ByteArray.size_extract];have:=hf.inside;omega
   unfold Gq at hg;split at hg;.cases hg
   split at hg;.cases hg
   rename_i hne;split at hg;.cases hg
   cases hg;exact Classical.byContradiction hne
  cases h
theorem iY(s:ByteArray)(qe qn qb:Int)(k:Nat)(h:listOf s qe qn qb=.error k):0<k:=by
 unfold listOf at h;cases hd:Ey s with
 |error x=>rw[hd]at h;simp only[Except.error.injEq]at h;subst h;exact Xg s _ hd
 |ok d=>
  rw[hd]at h;simp only at h;split at h;.simp only[Except.error.injEq]at h;omega
  split at h;.simp only[Except.error.injEq]at h;omega
  cases he:Ce s d.stop d.count d.place []with
  |error x=>rw[he]at h;simp only[Except.error.injEq]at h;subst h;exact Ya s _ _ _ _ _ he
  |ok l=>
   rw[he]at h;simp only at h;split at h;.simp only[Except.error.injEq]at h;omega
   split at h;.simp only[Except.error.injEq]at h;omega
   cases hsp:spansOf s d.place l with
   |none=>rw[hsp]at h;simp only[Except.error.injEq]at h;omega
   |some r=>
    rw[hsp]at h;simp only at h;split at h;.simp only[Except.error.injEq]at h;omega
    split at h;.simp only[Except.error.injEq]at h;omega
    cases h
theorem Ux(s:ByteArray)(qe qn qb:Int)(L:List Ai)(h:listOf s qe qn qb=.ok L):L.length*46<=s.size:=by
 unfold listOf at h;cases hd:Ey s with
 |error k=>rw[hd]at h;cases h
 |ok d=>
  rw[hd]at h;simp only at h;split at h;.cases h
  split at h;.cases h
  cases he:Ce s d.stop d.count d.place []with
  |error k=>rw[he]at h;cases h
  |ok l=>
   rw[he]at h;simp only at h;split at h;.cases h
   split at h;.cases h
   cases hsp:spansOf s d.place l with
   |none=>rw[hsp]at h;cases h
   |some r=>
    rw[hsp]at h;simp only at h;split at h;.cases h
    split at h;.cases h
    cases h;have c1:=(Ui s _ _ _ hsp).1;have b2:=(Pq s _ _ _ _ _ he).2.1;have d1:=(Og s d hd).1;have hlen:L.length=l.length:=(by rw[<-c1];simp);simp only[List.length_nil]at b2;omega
def Qhb(z k a:Nat)(j:Nat):Nat:=if j=0 then z else if j=1 then k else a
theorem oW(w:World)(rb:Nat)(s:ByteArray)(E p0:Nat)(p:Option Nat)(hp:p=some p0)(hr:FR w rb s E p)(hs:s.size<=140737488355328): Calls Tryz.prog 88 #[.pointer (some ⟨rb,0,none⟩)] w fun r w'=>Touch (fun k=>k=rb) w w'/\Ib s E rb p0 r w':=by
 have hE:=hr.size;have hrl:=World.block_lt_of_cell? w _ hr.rest;have hne:¬w.heap.size+1=rb:=fun e=>by have:rb<w.heap.size:=hrl;omega
 have hne0:¬w.heap.size=rb:=fun e=>by have:rb<w.heap.size:=hrl;omega
 have HB:Hid (p=some p0):=hp;have A0:=LB.new w;have A1:=A0.keep ((Touch.refl (fun _=>False) _).alloc (Obj.cells #[.string ⟨#[]⟩,.int .i64 0,.int .u32 0,.int .i64 0,.int .i64 0,.int .i64 0,.int .i64 0,.int .i64 0,.int .i64 0,.int .i64 0,.string ⟨#[]⟩,.int .i64 0,.int .i64 0] 179)) (fun e=>e);have B0:=LB.new (w.alloc (Obj.cells #[.string ⟨#[]⟩,.int .i64 0,.int .u32 0,.int .i64 0,.int .i64 0,.int .i64 0,.int .i64 0,.int .i64 0,.int .i64 0,.int .i64 0,.string ⟨#[]⟩,.int .i64 0,.int .i64 0] 179));rw[World.size_alloc]at B0;have U0:Touch (fun k=>k=rb\/k=w.heap.size+1) ((w.alloc (Obj.cells #[.string ⟨#[]⟩,.int .i64 0,.int .u32 0,.int .i64 0,.int .i64 0,.int .i64 0,.int .i64 0,.int .i64 0,.int .i64 0,.int .i64 0,.string ⟨#[]⟩,.int .i64 0,.int .i64 0] 179)).alloc (Obj.cells #[.string ⟨#[]⟩,.int .i64 0,.int .u32 0,.int .i64 0,.int .i64 0,.int .i64 0,.int .i64 0,.int .i64 0,.int .i64 0,.int .i64 0,.string ⟨#[]⟩,.int .i64 0,.int .i64 0] 179)) ((w.alloc (Obj.cells #[.string ⟨#[]⟩,.int .i64 0,.int .u32 0,.int .i64 0,.int .i64 0,.int .i64 0,.int .i64 0,.int .i64 0,.int .i64 0,.int .i64 0,.string ⟨#[]⟩,.int .i64 0,.int .i64 0] 179)).alloc (Obj.cells #[.string ⟨#[]⟩,.int .i64 0,.int .u32 0,.int .i64 0,.int .i64 0,.int .i64 0,.int .i64 0,.int .i64 0,.int .i64 0,.int .i64 0,.string ⟨#[]⟩,.int .i64 0,.int .i64 0] 179)):=Touch.refl _ _;have HA:Hid (LB ((w.alloc (Obj.cells #[.string ⟨#[]⟩,.int .i64 0,.int .u32 0,.int .i64 0,.int .i64 0,.int .i64 0,.int .i64 0,.int .i64 0,.int .i64 0,.int .i64 0,.string ⟨#[]⟩,.int .i64 0,.int .i64 0] 179)).alloc (Obj.cells #[.string ⟨#[]⟩,.int .i64 0,.int .u32 0,.int .i64 0,.int .i64 0,.int .i64 0,.int .i64 0,.int .i64 0,.int .i64 0,.int .i64 0,.string ⟨#[]⟩,.int .i64 0,.int .i64 0] 179)) w.heap.size fM):=A1;have T0:Touch (fun k=>k=rb) w ((w.alloc (Obj.cells #[.string ⟨#[]⟩,.int .i64 0,.int .u32 0,.int .i64 0,.int .i64 0,.int .i64 0,.int .i64 0,.int .i64 0,.int .i64 0,.int .i64 0,.string ⟨#[]⟩,.int .i64 0,.int .i64 0] 179)).alloc (Obj.cells #[.string ⟨#[]⟩,.int .i64 0,.int .u32 0,.int .i64 0,.int .i64 0,.int .i64 0,.int .i64 0,.int .i64 0,.int .i64 0,.int .i64 0,.string ⟨#[]⟩,.int .i64 0,.int .i64 0] 179)):=((Touch.refl _ w).alloc _).alloc _;have f0:=(hr.keep ((Touch.refl (fun _=>False) w).alloc (Obj.cells #[.string ⟨#[]⟩,.int .i64 0,.int .u32 0,.int .i64 0,.int .i64 0,.int .i64 0,.int .i64 0,.int .i64 0,.int .i64 0,.int .i64 0,.string ⟨#[]⟩,.int .i64 0,.int .i64 0] 179)) (fun e=>e)).keep ((Touch.refl (fun _=>False) _).alloc (Obj.cells #[.string ⟨#[]⟩,.int .i64 0,.int .u32 0,.int .i64 0,.int .i64 0,.int .i64 0,.int .i64 0,.int .i64 0,.int .i64 0,.int .i64 0,.string ⟨#[]⟩,.int .i64 0,.int .i64 0] 179)) (fun e=>e);clear A0 A1;have n1:=Ju s E (Ae E p 28) 2 hE;have n2:=Ju s E (Ae E p 30) 2 hE;have n3:=Ju s E (Ae E p 32) 2 hE;have hlb:w.heap.size<=w.heap.size+1:=by omega
 clear hp hr;go_enter Tryz.func88,Tryz.ntmps88;go_wp2_with fail;refine(Iw _ _ s E _ 4 4 rfl (by omega) hs f0).mono ?_;rintro r w1 ⟨rfl,f1,t1⟩;have T1:=T0.trans t1;have B1:=B0.keep t1 hne;have U1:=U0.trans (t1.mono (fun k _ e=>Or.inl e));clear t1 T0 f0 B0 U0;go_wp2_with fail;refine(Ee _ _ s E _ 2 2 rfl (by omega) hs f1).mono ?_;rintro r w2 ⟨rfl,f2,t2⟩;rw[Bc]at f2;have T2:=T1.trans t2;have B2:=B1.keep t2 hne;have U2:=U1.trans (t2.mono (fun k _ e=>Or.inl e));clear t2 T1 f1 B1 U1;have c2_6:w2.cell? ⟨w.heap.size+1,6,none⟩=some (.int .i64 ((0:Nat):Int)):=B2.lst 6 (by omega);have z2_6:=B2.frozen 6;have B2s:=(B2.set 6 (.int .i64 (Ah s E (Ae E p 4) 2:Nat)) { fM with maker:=Ah s E (Ae E p 4) 2 } (by omega) rfl);have f2s:=(f2.other (o:=6) (.int .i64 (Ah s E (Ae E p 4) 2:Nat)) (fun e=>hne e.symm));have T2s:=(T2.Ag (p:=⟨w.heap.size+1,6,none⟩) hlb (.int .i64 (Ah s E (Ae E p 4) 2:Nat)));have U2s:=(U2.setCell (p:=⟨w.heap.size+1,6,none⟩) (Or.inr rfl) (.int .i64 (Ah s E (Ae E p 4) 2:Nat)));clear B2 f2 T2 U2;have B2:=B2s;have f2:=f2s;have T2:=T2s;have U2:=U2s;clear B2s f2s T2s U2s;go_wp2_with fail;refine(Iw _ _ s E _ 2 2 rfl (by omega) hs f2).mono ?_;rintro r w3 ⟨rfl,f3,t3⟩;rw[Bc]at f3;have T3:=T2.trans t3;have B3:=B2.keep t3 hne;have U3:=U2.trans (t3.mono (fun k _ e=>Or.inl e));clear t3 T2 f2 B2 U2;clear c2_6 z2_6;go_wp2_with fail;refine(Ee _ _ s E _ 2 2 rfl (by omega) hs f3).mono ?_;rintro r w4 ⟨rfl,f4,t4⟩;rw[Bc]at f4;have T4:=T3.trans t4;have B4:=B3.keep t4 hne;have U4:=U3.trans (t4.mono (fun k _ e=>Or.inl e));clear t4 T3 f3 B3 U3;go_wp2_with fail;refine(Ee _ _ s E _ 2 2 rfl (by omega) hs f4).mono ?_;rintro r w5 ⟨rfl,f5,t5⟩;rw[Bc]at f5;have T5:=T4.trans t5;have B5:=B4.keep t5 hne;have U5:=U4.trans (t5.mono (fun k _ e=>Or.inl e));clear t5 T4 f4 B4 U4;have c5_7:w5.cell? ⟨w.heap.size+1,7,none⟩=some (.int .i64 ((0:Nat):Int)):=B5.lst 7 (by omega);have z5_7:=B5.frozen 7;have c5_1:w5.cell? ⟨w.heap.size+1,1,none⟩=some (.int .i64 ((0:Nat):Int)):=B5.lst 1 (by omega);have z5_1:=B5.frozen 1;have B5s:=((B5.set 7 (.int .i64 (Ah s E (Ae E p 8) 2:Nat)) { { fM with maker:=Ah s E (Ae E p 4) 2 } with flags:=Ah s E (Ae E p 8) 2 } (by omega) rfl).set 1 (.int .i64 (Ah s E (Ae E p 10) 2:Nat)) { { { fM with maker:=Ah s E (Ae E p 4) 2 } with flags:=Ah s E (Ae E p 8) 2 } with method:=Ah s E (Ae E p 10) 2 } (by omega) rfl);have f5s:=((f5.other (o:=7) (.int .i64 (Ah s E (Ae E p 8) 2:Nat)) (fun e=>hne e.symm)).other (o:=1) (.int .i64 (Ah s E (Ae E p 10) 2:Nat)) (fun e=>hne e.symm));have T5s:=((T5.Ag (p:=⟨w.heap.size+1,7,none⟩) hlb (.int .i64 (Ah s E (Ae E p 8) 2:Nat))).Ag (p:=⟨w.heap.size+1,1,none⟩) hlb (.int .i64 (Ah s E (Ae E p 10) 2:Nat)));have U5s:=((U5.setCell (p:=⟨w.heap.size+1,7,none⟩) (Or.inr rfl) (.int .i64 (Ah s E (Ae E p 8) 2:Nat))).setCell (p:=⟨w.heap.size+1,1,none⟩) (Or.inr rfl) (.int .i64 (Ah s E (Ae E p 10) 2:Nat)));clear B5 f5 T5 U5;have B5:=B5s;have f5:=f5s;have T5:=T5s;have U5:=U5s;clear B5s f5s T5s U5s;go_wp2_with fail;refine(Iw _ _ s E _ 4 4 rfl (by omega) hs f5).mono ?_;rintro r w6 ⟨rfl,f6,t6⟩;rw[Bc]at f6;have T6:=T5.trans t6;have B6:=B5.keep t6 hne;have U6:=U5.trans (t6.mono (fun k _ e=>Or.inl e));clear t6 T5 f5 B5 U5;clear c5_7 z5_7;clear c5_1 z5_1;go_wp2_with fail;refine(Iw _ _ s E _ 12 12 rfl (by omega) hs f6).mono ?_;rintro r w7 ⟨rfl,f7,t7⟩;rw[Bc]at f7;have T7:=T6.trans t7;have B7:=B6.keep t7 hne;have U7:=U6.trans (t7.mono (fun k _ e=>Or.inl e));clear t7 T6 f6 B6 U6;have c7_10:w7.cell? ⟨w.heap.size+1,10,none⟩=some (.string ⟨#[]⟩):=B7.lst 10 (by omega);have z7_10:=B7.frozen 10;have B7s:=(B7.set 10 (.string (Bv s E (Ae E p 16) 12)) { { { { fM with maker:=Ah s E (Ae E p 4) 2 } with flags:=Ah s E (Ae E p 8) 2 } with method:=Ah s E (Ae E p 10) 2 } with three:=Bv s E (Ae E p 16) 12 } (by omega) rfl);have f7s:=(f7.other (o:=10) (.string (Bv s E (Ae E p 16) 12)) (fun e=>hne e.symm));have T7s:=(T7.Ag (p:=⟨w.heap.size+1,10,none⟩) hlb (.string (Bv s E (Ae E p 16) 12)));have U7s:=(U7.setCell (p:=⟨w.heap.size+1,10,none⟩) (Or.inr rfl) (.string (Bv s E (Ae E p 16) 12)));clear B7 f7 T7 U7;have B7:=B7s;have f7:=f7s;have T7:=T7s;have U7:=U7s;clear B7s f7s T7s U7s;go_wp2_with fail;refine(Ee _ _ s E _ 2 2 rfl (by omega) hs f7).mono ?_;rintro r w8 ⟨rfl,f8,t8⟩;rw[Bc]at f8;have T8:=T7.trans t8;have B8:=B7.keep t8 hne;have U8:=U7.trans (t8.mono (fun k _ e=>Or.inl e));clear t8 T7 f7 B7 U7;clear c7_10 z7_10;go_wp2_with fail;refine(Ee _ _ s E _ 2 2 rfl (by omega) hs f8).mono ?_;rintro r w9 ⟨rfl,f9,t9⟩;rw[Bc]at f9;have T9:=T8.trans t9;have B9:=B8.keep t9 hne;have U9:=U8.trans (t9.mono (fun k _ e=>Or.inl e));clear t9 T8 f8 B8 U8;go_wp2_with fail;refine(Ee _ _ s E _ 2 2 rfl (by omega) hs f9).mono ?_;rintro r w10 ⟨rfl,f10,t10⟩;rw[Bc]at f10;have T10:=T9.trans t10;have B10:=B9.keep t10 hne;have U10:=U9.trans (t10.mono (fun k _ e=>Or.inl e));clear t10 T9 f9 B9 U9;go_wp2_with fail;refine(Ee _ _ s E _ 2 2 rfl (by omega) hs f10).mono ?_;rintro r w11 ⟨rfl,f11,t11⟩;rw[Bc]at f11;have T11:=T10.trans t11;have B11:=B10.keep t11 hne;have U11:=U10.trans (t11.mono (fun k _ e=>Or.inl e));clear t11 T10 f10 B10 U10;have c11_8:w11.cell? ⟨w.heap.size+1,8,none⟩=some (.int .i64 ((0:Nat):Int)):=B11.lst 8 (by omega);have z11_8:=B11.frozen 8;have B11s:=(B11.set 8 (.int .i64 (Ah s E (Ae E p 34) 2:Nat)) { { { { { fM with maker:=Ah s E (Ae E p 4) 2 } with flags:=Ah s E (Ae E p 8) 2 } with method:=Ah s E (Ae E p 10) 2 } with three:=Bv s E (Ae E p 16) 12 } with disk:=Ah s E (Ae E p 34) 2 } (by omega) rfl);have f11s:=(f11.other (o:=8) (.int .i64 (Ah s E (Ae E p 34) 2:Nat)) (fun e=>hne e.symm));have T11s:=(T11.Ag (p:=⟨w.heap.size+1,8,none⟩) hlb (.int .i64 (Ah s E (Ae E p 34) 2:Nat)));have U11s:=(U11.setCell (p:=⟨w.heap.size+1,8,none⟩) (Or.inr rfl) (.int .i64 (Ah s E (Ae E p 34) 2:Nat)));clear B11 f11 T11 U11;have B11:=B11s;have f11:=f11s;have T11:=T11s;have U11:=U11s;clear B11s f11s T11s U11s;go_wp2_with fail;refine(Iw _ _ s E _ 2 2 rfl (by omega) hs f11).mono ?_;rintro r w12 ⟨rfl,f12,t12⟩;rw[Bc]at f12;have T12:=T11.trans t12;have B12:=B11.keep t12 hne;have U12:=U11.trans (t12.mono (fun k _ e=>Or.inl e));clear t12 T11 f11 B11 U11;clear c11_8 z11_8;go_wp2_with fail;refine(Ee _ _ s E _ 4 4 rfl (by omega) hs f12).mono ?_;rintro r w13 ⟨rfl,f13,t13⟩;rw[Bc]at f13;have T13:=T12.trans t13;have B13:=B12.keep t13 hne;have U13:=U12.trans (t13.mono (fun k _ e=>Or.inl e));clear t13 T12 f12 B12 U12;go_wp2_with fail;refine(Ee _ _ s E _ 4 4 rfl (by omega) hs f13).mono ?_;rintro r w14 ⟨rfl,f14,t14⟩;rw[Bc]at f14;have T14:=T13.trans t14;have B14:=B13.keep t14 hne;have U14:=U13.trans (t14.mono (fun k _ e=>Or.inl e));clear t14 T13 f13 B13 U13;have c14_9:w14.cell? ⟨w.heap.size+1,9,none⟩=some (.int .i64 ((0:Nat):Int)):=B14.lst 9 (by omega);have z14_9:=B14.frozen 9;have c14_11:w14.cell? ⟨w.heap.size+1,11,none⟩=some (.int .i64 ((0:Nat):Int)):=B14.lst 11 (by omega);have z14_11:=B14.frozen 11;have B14s:=((B14.set 9 (.int .i64 (Ah s E (Ae E p 38) 4:Nat)) { { { { { { fM with maker:=Ah s E (Ae E p 4) 2 } with flags:=Ah s E (Ae E p 8) 2 } with method:=Ah s E (Ae E p 10) 2 } with three:=Bv s E (Ae E p 16) 12 } with disk:=Ah s E (Ae E p 34) 2 } with outer:=Ah s E (Ae E p 38) 4 } (by omega) rfl).set 11 (.int .i64 (Ah s E (Ae E p 42) 4:Nat)) { { { { { { { fM with maker:=Ah s E (Ae E p 4) 2 } with flags:=Ah s E (Ae E p 8) 2 } with method:=Ah s E (Ae E p 10) 2 } with three:=Bv s E (Ae E p 16) 12 } with disk:=Ah s E (Ae E p 34) 2 } with outer:=Ah s E (Ae E p 38) 4 } with ahead:=Ah s E (Ae E p 42) 4 } (by omega) rfl);have f14s:=((f14.other (o:=9) (.int .i64 (Ah s E (Ae E p 38) 4:Nat)) (fun e=>hne e.symm)).other (o:=11) (.int .i64 (Ah s E (Ae E p 42) 4:Nat)) (fun e=>hne e.symm));have T14s:=((T14.Ag (p:=⟨w.heap.size+1,9,none⟩) hlb (.int .i64 (Ah s E (Ae E p 38) 4:Nat))).Ag (p:=⟨w.heap.size+1,11,none⟩) hlb (.int .i64 (Ah s E (Ae E p 42) 4:Nat)));have U14s:=((U14.setCell (p:=⟨w.heap.size+1,9,none⟩) (Or.inr rfl) (.int .i64 (Ah s E (Ae E p 38) 4:Nat))).setCell (p:=⟨w.heap.size+1,11,none⟩) (Or.inr rfl) (.int .i64 (Ah s E (Ae E p 42) 4:Nat)));clear B14 f14 T14 U14;have B14:=B14s;have f14:=f14s;have T14:=T14s;have U14:=U14s;clear B14s f14s T14s U14s;go_wp2_with fail;refine(Iw _ _ s E _ _ _ rfl (by omega) hs f14).mono ?_;rintro r w15 ⟨rfl,f15,t15⟩;rw[Bc]at f15;have T15:=T14.trans t15;have B15:=B14.keep t15 hne;have U15:=U14.trans (t15.mono (fun k _ e=>Or.inl e));clear t15 T14 f14 B14 U14;clear c14_9 z14_9;clear c14_11 z14_11;have c15_0:w15.cell? ⟨w.heap.size+1,0,none⟩=some (.string ⟨#[]⟩):=B15.lst 0 (by omega);have z15_0:=B15.frozen 0;have B15s:=(B15.set 0 (.string (Bv s E (Ae E p 46) (Ah s E (Ae E p 28) 2))) { { { { { { { { fM with maker:=Ah s E (Ae E p 4) 2 } with flags:=Ah s E (Ae E p 8) 2 } with method:=Ah s E (Ae E p 10) 2 } with three:=Bv s E (Ae E p 16) 12 } with disk:=Ah s E (Ae E p 34) 2 } with outer:=Ah s E (Ae E p 38) 4 } with ahead:=Ah s E (Ae E p 42) 4 } with name:=Bv s E (Ae E p 46) (Ah s E (Ae E p 28) 2) } (by omega) rfl);have f15s:=(f15.other (o:=0) (.string (Bv s E (Ae E p 46) (Ah s E (Ae E p 28) 2))) (fun e=>hne e.symm));have T15s:=(T15.Ag (p:=⟨w.heap.size+1,0,none⟩) hlb (.string (Bv s E (Ae E p 46) (Ah s E (Ae E p 28) 2))));have U15s:=(U15.setCell (p:=⟨w.heap.size+1,0,none⟩) (Or.inr rfl) (.string (Bv s E (Ae E p 46) (Ah s E (Ae E p 28) 2))));clear B15 f15 T15 U15;have B15:=B15s;have f15:=f15s;have T15:=T15s;have U15:=U15s;clear B15s f15s T15s U15s;go_wp2_with fail;refine(Iw _ _ s E _ _ _ rfl (by omega) hs f15).mono ?_;rintro r w16 ⟨rfl,f16,t16⟩;rw[Bc]at f16;have T16:=T15.trans t16;have B16:=B15.keep t16 hne;have U16:=U15.trans (t16.mono (fun k _ e=>Or.inl e));clear t16 T15 f15 B15 U15;clear c15_0 z15_0;go_wp2_with fail;refine(Iw _ _ s E _ _ _ rfl (by omega) hs f16).mono ?_;rintro r w17 ⟨rfl,f17,t17⟩;rw[Bc]at f17;have T17:=T16.trans t17;have B17:=B16.keep t17 hne;have U17:=U16.trans (t17.mono (fun k _ e=>Or.inl e));clear t17 T16 f16 B16 U16;by_cases hbad:Qfi s E p=false
 case pos=>
  have HBD:Hid (∀W,Ib s E rb p0 (.returned (.tuple #[.agg #[.string ⟨#[]⟩,.int .i64 0,.int .u32 0,.int .i64 0,.int .i64 0,.int .i64 0,.int .i64 0,.int .i64 0,.int .i64 0,.int .i64 0,.string ⟨#[]⟩,.int .i64 0,.int .i64 0],.bool false])) W):=fun W=>yR s E rb p0 hE (by rw[<-HB.out];exact hbad) W;have AW:=HA.out.keep U17 (fun e=>by rcases e with e|e<;>omega);have r1:=f17.short;refine Hm (v0:=.string ⟨#[]⟩) (v1:=.int .i64 0) (v2:=.int .u32 0) (v3:=.int .i64 0) (v4:=.int .i64 0) (v5:=.int .i64 0) (v6:=.int .i64 0) (v7:=.int .i64 0) (v8:=.int .i64 0) (v9:=.int .i64 0) (v10:=.string ⟨#[]⟩) (v11:=.int .i64 0) (v12:=.int .i64 0) (fun i hi=>(by have:=AW.lst i hi;rw[Nat.zero_add]at this;exact this)) fun a0 a1 a2 a3 a4 a5 a6 a7 a8 a9 a10 a11 a12=>?_;refine gZ AW.frozen fun y0 y1 y2 y3 y4 y5 y6 y7 y8 y9 y10 y11 y12=>?_;have es0:=Dw w17 w.heap.size 0 _ a0;have es1:=Dw w17 w.heap.size 1 _ a1;have es2:=Dw w17 w.heap.size 2 _ a2;have es3:=Dw w17 w.heap.size 3 _ a3;have es4:=Dw w17 w.heap.size 4 _ a4;have es5:=Dw w17 w.heap.size 5 _ a5;have es6:=Dw w17 w.heap.size 6 _ a6;have es7:=Dw w17 w.heap.size 7 _ a7;have es8:=Dw w17 w.heap.size 8 _ a8;have es9:=Dw w17 w.heap.size 9 _ a9;have es10:=Dw w17 w.heap.size 10 _ a10;have es11:=Dw w17 w.heap.size 11 _ a11;have es12:=Dw w17 w.heap.size 12 _ a12;have HS:Hid ((Ae E p (46+Ah s E (Ae E p 28) 2+Ah s E (Ae E p 30) 2+Ah s E (Ae E p 32) 2)).isNone=true\/((Ae E p (46+Ah s E (Ae E p 28) 2+Ah s E (Ae E p 30) 2+Ah s E (Ae E p 32) 2)).isNone=false/\((Bv s E p 4).toList==[80,75,1,2])=false)):=by
   have:=hbad;unfold Qfi at this;cases hh:Ae E p (46+Ah s E (Ae E p 28) 2+Ah s E (Ae E p 30) 2+Ah s E (Ae E p 32) 2)with
   |none=>exact .inl rfl
   |some q=>rw[hh]at this;exact .inr ⟨rfl,by simpa using this⟩
  clear HA AW f17 B17 U17;rcases HS.out with h1|⟨h1,h2⟩
  .rw[h1]at r1;clear HS;go_wp2;refine bodyPost_ret (v:=.tuple #[.agg #[.string ⟨#[]⟩,.int .i64 0,.int .u32 0,.int .i64 0,.int .i64 0,.int .i64 0,.int .i64 0,.int .i64 0,.int .i64 0,.int .i64 0,.string ⟨#[]⟩,.int .i64 0,.int .i64 0],.bool false]) (by simp[results,Tryz.results88,go_sem,a0,a1,a2,a3,a4,a5,a6,a7,a8,a9,a10,a11,a12]) rfl ⟨T17,HBD.out _⟩
  rw[h1]at r1;clear HS;go_wp2;refine bodyPost_ret (v:=.tuple #[.agg #[.string ⟨#[]⟩,.int .i64 0,.int .u32 0,.int .i64 0,.int .i64 0,.int .i64 0,.int .i64 0,.int .i64 0,.int .i64 0,.int .i64 0,.string ⟨#[]⟩,.int .i64 0,.int .i64 0],.bool false]) (by simp[results,Tryz.results88,go_sem,a0,a1,a2,a3,a4,a5,a6,a7,a8,a9,a10,a11,a12]) rfl ⟨T17,HBD.out _⟩
 have A17:=HA.out.keep U17 (fun e=>by rcases e with e|e<;>omega);clear HA U17;obtain rfl:=HB.out;have hfit:Zt s E p0:=(Qal s E p0 hE).1 (by simpa using hbad);clear hbad;obtain⟨e4,e8,e10,e16,e28,e30,e32,e34,e38,e42,e46,e46x,eq,emark⟩:=zV s E p0 hE hfit;simp only[e28,e30,e32,e4,e8,e10,e16,e34,e38,e42,e46,e46x,eq]at B17 f17 ⊢;have HB2:Hid (Zt s E p0):=hfit;obtain⟨k1,k2,k3⟩:=hfit;have hmk:((Bv s E (some p0) 4).toList==[80,75,1,2])=true:=by simpa using emark
 have r1:=f17.short;simp only[Option.isNone_some]at r1;have c10:w17.cell? ⟨w.heap.size+1,10,none⟩=some (.string (s.extract (p0+16) (p0+28))):=B17.lst 10 (by omega);have g0:=FR.Qce w17 s (p0+16) (p0+28) (by omega) (by omega) _ rfl;have tn:=(Touch.refl (fun _=>False) w17).alloc (.cells #[.string (s.extract (p0+16) (p0+28)),.bool false] 175);have x17:=B17.lt;have neB:¬w.heap.size+1=w17.heap.size:=by omega
 have neA:¬w.heap.size=w17.heap.size:=by omega
 have neR:¬rb=w17.heap.size:=by have:rb<w.heap.size:=hrl;omega
 have hz17:w.heap.size<=w17.heap.size:=by omega
 clear HB e4 e8 e10 e16 e28 e30 e32 e34 e38 e42 e46 e46x eq emark n1 n2 n3 k3;go_wp2_with fail;refine(Fe _ _ s (p0+28) (p0+16) 4 g0 (by omega) (by omega) hs).mono ?_;rintro r w18 ⟨rfl,g1,t18⟩;have B18:=(B17.keep tn (fun e=>e)).keep t18 neB;have A18:=(A17.keep tn (fun e=>e)).keep t18 neA;have f18:=(f17.keep tn (fun e=>e)).keep t18 neR;have T18:=(T17.alloc _).Hf t18 hz17;clear t18 B17 A17 f17 T17 tn g0 c10 r1 hmk;go_wp2_with fail;refine(Fe _ _ s (p0+28) (p0+16+4) 4 g1 (by omega) (by omega) hs).mono ?_;rintro r w19 ⟨rfl,g2,t19⟩;have B19:=B18.keep t19 neB;have A19:=A18.keep t19 neA;have f19:=f18.keep t19 neR;have T19:=T18.Hf t19 hz17;clear t19 B18 A18 f18 T18 g1;go_wp2_with fail;refine(Fe _ _ s (p0+28) (p0+16+4+4) 4 g2 (by omega) (by omega) hs).mono ?_;rintro r w20 ⟨rfl,g3,t20⟩;have B20:=B19.keep t20 neB;have A20:=A19.keep t20 neA;have f20:=f19.keep t20 neR;have T20:=T19.Hf t20 hz17;clear t20 B19 A19 f19 T19 g2 g3 neB neA neR;have s16:=Bj s (p0+16) 4;have e20:Aa s (p0+16+4) 4=Aa s (p0+20) 4:=rfl;have e24:Aa s (p0+16+4+4) 4=Aa s (p0+24) 4:=rfl;rw[e20,e24];have u1:IntKind.u32.wrap ((Aa s (p0+16) 4:Nat):Int)=((Aa s (p0+16) 4:Nat):Int):=by simp[IntKind.wrap,IntKind.bits,IntKind.signed];omega
 have u2:((Aa s (p0+16) 4:Nat):Int)%4294967296=((Aa s (p0+16) 4:Nat):Int):=by omega
 have c2:w20.cell? ⟨w.heap.size+1,2,none⟩=some (.int .u32 ((0:Nat):Int)):=B20.lst 2 (by omega);have c3:w20.cell? ⟨w.heap.size+1,3,none⟩=some (.int .i64 ((0:Nat):Int)):=B20.lst 3 (by omega);have c4:w20.cell? ⟨w.heap.size+1,4,none⟩=some (.int .i64 ((0:Nat):Int)):=B20.lst 4 (by omega);have z2:=B20.frozen 2;have z3:=B20.frozen 3;have z4:=B20.frozen 4;clear e20 e24;have B21a:LB w20 (w.heap.size+1) ⟨s.extract (p0+46) (p0+46+Aa s (p0+28) 2),Aa s (p0+10) 2,0,0,0,Aa s (p0+42) 4,Aa s (p0+4) 2,Aa s (p0+8) 2,Aa s (p0+34) 2,Aa s (p0+38) 4,s.extract (p0+16) (p0+28)⟩:=B20;have B21:=((B21a.set 2 (.int .u32 (Aa s (p0+16) 4:Nat)) ⟨s.extract (p0+46) (p0+46+Aa s (p0+28) 2),Aa s (p0+10) 2,Aa s (p0+16) 4,0,0,Aa s (p0+42) 4,Aa s (p0+4) 2,Aa s (p0+8) 2,Aa s (p0+34) 2,Aa s (p0+38) 4,s.extract (p0+16) (p0+28)⟩ (by omega) rfl).set 3 (.int .i64 (Aa s (p0+20) 4:Nat)) ⟨s.extract (p0+46) (p0+46+Aa s (p0+28) 2),Aa s (p0+10) 2,Aa s (p0+16) 4,Aa s (p0+20) 4,0,Aa s (p0+42) 4,Aa s (p0+4) 2,Aa s (p0+8) 2,Aa s (p0+34) 2,Aa s (p0+38) 4,s.extract (p0+16) (p0+28)⟩ (by omega) rfl).set 4 (.int .i64 (Aa s (p0+24) 4:Nat)) ⟨s.extract (p0+46) (p0+46+Aa s (p0+28) 2),Aa s (p0+10) 2,Aa s (p0+16) 4,Aa s (p0+20) 4,Aa s (p0+24) 4,Aa s (p0+42) 4,Aa s (p0+4) 2,Aa s (p0+8) 2,Aa s (p0+34) 2,Aa s (p0+38) 4,s.extract (p0+16) (p0+28)⟩ (by omega) rfl;have t3:Touch (fun k=>k=w.heap.size+1) w20 (((w20.setCell ⟨w.heap.size+1,2,none⟩ (.int .u32 (Aa s (p0+16) 4:Nat))).setCell ⟨w.heap.size+1,3,none⟩ (.int .i64 (Aa s (p0+20) 4:Nat))).setCell ⟨w.heap.size+1,4,none⟩ (.int .i64 (Aa s (p0+24) 4:Nat))):=((Bf w20 (w.heap.size+1) 2 _).trans (Bf _ (w.heap.size+1) 3 _)).trans (Bf _ (w.heap.size+1) 4 _);have hsz3:(((w20.setCell ⟨w.heap.size+1,2,none⟩ (.int .u32 (Aa s (p0+16) 4:Nat))).setCell ⟨w.heap.size+1,3,none⟩ (.int .i64 (Aa s (p0+20) 4:Nat))).setCell ⟨w.heap.size+1,4,none⟩ (.int .i64 (Aa s (p0+24) 4:Nat))).heap.size=w20.heap.size:=by simp[size_setCell]
 have x20:=B20.lt;have neN:w20.heap.size≠w.heap.size+1:=by omega
 have A21a:=A20.keep t3 (by show¬w.heap.size=w.heap.size+1;omega);have f21a:=f20.keep t3 (by show¬rb=w.heap.size+1;exact fun e=>hne e.symm);have T21a:=T20.Hf t3 hlb;have bn:=heap_alloc_new (((w20.setCell ⟨w.heap.size+1,2,none⟩ (.int .u32 (Aa s (p0+16) 4:Nat))).setCell ⟨w.heap.size+1,3,none⟩ (.int .i64 (Aa s (p0+20) 4:Nat))).setCell ⟨w.heap.size+1,4,none⟩ (.int .i64 (Aa s (p0+24) 4:Nat))) (Obj.cells #[.pointer (some ⟨w.heap.size+1,4,none⟩),.pointer (some ⟨w.heap.size+1,3,none⟩),.pointer (some ⟨w.heap.size+1,11,none⟩)] 228);rw[hsz3]at bn;have tr:=(Touch.refl (fun _=>False) (((w20.setCell ⟨w.heap.size+1,2,none⟩ (.int .u32 (Aa s (p0+16) 4:Nat))).setCell ⟨w.heap.size+1,3,none⟩ (.int .i64 (Aa s (p0+20) 4:Nat))).setCell ⟨w.heap.size+1,4,none⟩ (.int .i64 (Aa s (p0+24) 4:Nat)))).alloc (Obj.cells #[.pointer (some ⟨w.heap.size+1,4,none⟩),.pointer (some ⟨w.heap.size+1,3,none⟩),.pointer (some ⟨w.heap.size+1,11,none⟩)] 228);have B21r:=B21.keep tr (fun e=>e);have A21r:=A21a.keep tr (fun e=>e);have f21r:=f21a.keep tr (fun e=>e);have T21r:=T21a.alloc (Obj.cells #[.pointer (some ⟨w.heap.size+1,4,none⟩),.pointer (some ⟨w.heap.size+1,3,none⟩),.pointer (some ⟨w.heap.size+1,11,none⟩)] 228);clear B20 B21a A20 f20 T20 t3 tr B21 A21a f21a T21a hsz3;go_wp2_with fail;have hN:Nums ((((w20.setCell ⟨w.heap.size+1,2,none⟩ (.int .u32 (Aa s (p0+16) 4:Nat))).setCell ⟨w.heap.size+1,3,none⟩ (.int .i64 (Aa s (p0+20) 4:Nat))).setCell ⟨w.heap.size+1,4,none⟩ (.int .i64 (Aa s (p0+24) 4:Nat))).alloc (Obj.cells #[.pointer (some ⟨w.heap.size+1,4,none⟩),.pointer (some ⟨w.heap.size+1,3,none⟩),.pointer (some ⟨w.heap.size+1,11,none⟩)] 228)) (w.heap.size+1) (Qhb (Aa s (p0+24) 4) (Aa s (p0+20) 4) (Aa s (p0+42) 4)):=by
  refine⟨fun j hj=>?_,fun j=>B21r.frozen j⟩;rcases(by omega:j=0\/j=1\/j=2)with rfl|rfl|rfl;.exact B21r.lst 4 (by omega)
  .exact B21r.lst 3 (by omega)
  exact B21r.lst 11 (by omega)
 have hnb:∀j,j<3->((((w20.setCell ⟨w.heap.size+1,2,none⟩ (.int .u32 (Aa s (p0+16) 4:Nat))).setCell ⟨w.heap.size+1,3,none⟩ (.int .i64 (Aa s (p0+20) 4:Nat))).setCell ⟨w.heap.size+1,4,none⟩ (.int .i64 (Aa s (p0+24) 4:Nat))).alloc (Obj.cells #[.pointer (some ⟨w.heap.size+1,4,none⟩),.pointer (some ⟨w.heap.size+1,3,none⟩),.pointer (some ⟨w.heap.size+1,11,none⟩)] 228)).cell? ⟨w20.heap.size,j,none⟩=some (.pointer (some ⟨w.heap.size+1,Oz j,none⟩)):=by
  intro j hj;rw[Ac bn j];rcases(by omega:j=0\/j=1\/j=2)with rfl|rfl|rfl<;>rfl
 refine(uK _ s (p0+46+Aa s (p0+28) 2) (p0+46+Aa s (p0+28) 2+Aa s (p0+30) 2) (Aa s (p0+30) 2+1) (w.heap.size+1) w20.heap.size _ (by omega) (by omega) hs (by omega) hN hnb neN).mono ?_;rintro r w21 ⟨rfl,⟨d,hN',hR⟩,hoth,t21⟩;have A21:=A21r.keep t21 (by show¬w.heap.size=w.heap.size+1;omega);have f21:=f21r.keep t21 (by show¬rb=w.heap.size+1;exact fun e=>hne e.symm);have T21:=T21r.Hf t21 hlb;have B22:LB w21 (w.heap.size+1) ⟨s.extract (p0+46) (p0+46+Aa s (p0+28) 2),Aa s (p0+10) 2,Aa s (p0+16) 4,d 1,d 0,d 2,Aa s (p0+4) 2,Aa s (p0+8) 2,Aa s (p0+34) 2,Aa s (p0+38) 4,s.extract (p0+16) (p0+28)⟩:=by
  refine⟨fun i hi=>?_,hN'.frozen,Nat.lt_of_lt_of_le B21r.lt t21.size⟩;rw[Nat.zero_add];by_cases h4:i=4;.subst h4;exact hN'.cell 0 (by omega)
  by_cases h3:i=3;.subst h3;exact hN'.cell 1 (by omega)
  by_cases h11:i=11;.subst h11;exact hN'.cell 2 (by omega)
  rw[hoth i h4 h3 h11];have:=B21r.lst i hi;rw[Nat.zero_add]at this;rw[this];rcases(by omega:i=0\/i=1\/i=2\/i=5\/i=6\/i=7\/i=8\/i=9\/i=10\/i=12)with rfl|rfl|rfl|rfl|rfl|rfl|rfl|rfl|rfl|rfl<;>rfl
 have FIN:Hid (∀w',FR w' rb s E (some (p0+46+Aa s (p0+28) 2+Aa s (p0+30) 2+Aa s (p0+32) 2))->Ib s E rb p0 (.returned (.tuple #[.agg (Jj ⟨s.extract (p0+46) (p0+46+Aa s (p0+28) 2),Aa s (p0+10) 2,Aa s (p0+16) 4,d 1,d 0,d 2,Aa s (p0+4) 2,Aa s (p0+8) 2,Aa s (p0+34) 2,Aa s (p0+38) 4,s.extract (p0+16) (p0+28)⟩ 0 0).toArray,.bool ((Bg s (p0+46+Aa s (p0+28) 2+Aa s (p0+30) 2) (Aa s (p0+30) 2+1) (p0+46+Aa s (p0+28) 2) none).bind fun fo=>mF s (fo.getD (0,0)).2 3 0 (fo.getD (0,0)).1 (Qhb (Aa s (p0+24) 4) (Aa s (p0+20) 4) (Aa s (p0+42) 4))).isSome])) w'):=by
  intro w' hf;unfold Ib;rw[Qcw s E p0 HB2.out (Qhb (Aa s (p0+24) 4) (Aa s (p0+20) 4) (Aa s (p0+42) 4)) rfl rfl rfl];rcases hR with hR|hR;.rw[hR];exact⟨⟨s.extract (p0+46) (p0+46+Aa s (p0+28) 2),Aa s (p0+10) 2,Aa s (p0+16) 4,d 1,d 0,d 2,Aa s (p0+4) 2,Aa s (p0+8) 2,Aa s (p0+34) 2,Aa s (p0+38) 4,s.extract (p0+16) (p0+28)⟩,0,0,rfl⟩
  rw[hR];exact⟨rfl,hf⟩
 clear hN hnb hR hoth t21 hN' A21r f21r T21r B21r bn HB2;revert FIN B22;generalize (⟨s.extract (p0+46) (p0+46+Aa s (p0+28) 2),Aa s (p0+10) 2,Aa s (p0+16) 4,d 1,d 0,d 2,Aa s (p0+4) 2,Aa s (p0+8) 2,Aa s (p0+34) 2,Aa s (p0+38) 4,s.extract (p0+16) (p0+28)⟩:Eo)=ef;obtain⟨nm,me,su,pa,si,ah,ma,fl,di,ou,th⟩:=ef;generalize ((Bg s (p0+46+Aa s (p0+28) 2+Aa s (p0+30) 2) (Aa s (p0+30) 2+1) (p0+46+Aa s (p0+28) 2) none).bind fun fo=>mF s (fo.getD (0,0)).2 3 0 (fo.getD (0,0)).1 (Qhb (Aa s (p0+24) 4) (Aa s (p0+20) 4) (Aa s (p0+42) 4))).isSome=ok;intro B22 FIN;have c0:w21.cell? ⟨w.heap.size+1,0,none⟩=some (.string nm):=B22.lst 0 (by omega);have a0:w21.cell? ⟨w.heap.size,0,none⟩=some (.string ⟨#[]⟩):=A21.lst 0 (by omega);have y0:=A21.frozen 0;have c1:w21.cell? ⟨w.heap.size+1,1,none⟩=some (.int .i64 (me:Int)):=B22.lst 1 (by omega);have a1:w21.cell? ⟨w.heap.size,1,none⟩=some (.int .i64 0):=A21.lst 1 (by omega);have y1:=A21.frozen 1;have c2:w21.cell? ⟨w.heap.size+1,2,none⟩=some (.int .u32 (su:Int)):=B22.lst 2 (by omega);have a2:w21.cell? ⟨w.heap.size,2,none⟩=some (.int .u32 0):=A21.lst 2 (by omega);have y2:=A21.frozen 2;have c3:w21.cell? ⟨w.heap.size+1,3,none⟩=some (.int .i64 (pa:Int)):=B22.lst 3 (by omega);have a3:w21.cell? ⟨w.heap.size,3,none⟩=some (.int .i64 0):=A21.lst 3 (by omega);have y3:=A21.frozen 3;have c4:w21.cell? ⟨w.heap.size+1,4,none⟩=some (.int .i64 (si:Int)):=B22.lst 4 (by omega);have a4:w21.cell? ⟨w.heap.size,4,none⟩=some (.int .i64 0):=A21.lst 4 (by omega);have y4:=A21.frozen 4;have c5:w21.cell? ⟨w.heap.size+1,5,none⟩=some (.int .i64 ((0:Nat):Int)):=B22.lst 5 (by omega);have a5:w21.cell? ⟨w.heap.size,5,none⟩=some (.int .i64 0):=A21.lst 5 (by omega);have y5:=A21.frozen 5;have c6:w21.cell? ⟨w.heap.size+1,6,none⟩=some (.int .i64 (ma:Int)):=B22.lst 6 (by omega);have a6:w21.cell? ⟨w.heap.size,6,none⟩=some (.int .i64 0):=A21.lst 6 (by omega);have y6:=A21.frozen 6;have c7:w21.cell? ⟨w.heap.size+1,7,none⟩=some (.int .i64 (fl:Int)):=B22.lst 7 (by omega);have a7:w21.cell? ⟨w.heap.size,7,none⟩=some (.int .i64 0):=A21.lst 7 (by omega);have y7:=A21.frozen 7;have c8:w21.cell? ⟨w.heap.size+1,8,none⟩=some (.int .i64 (di:Int)):=B22.lst 8 (by omega);have a8:w21.cell? ⟨w.heap.size,8,none⟩=some (.int .i64 0):=A21.lst 8 (by omega);have y8:=A21.frozen 8;have c9:w21.cell? ⟨w.heap.size+1,9,none⟩=some (.int .i64 (ou:Int)):=B22.lst 9 (by omega);have a9:w21.cell? ⟨w.heap.size,9,none⟩=some (.int .i64 0):=A21.lst 9 (by omega);have y9:=A21.frozen 9;have c10:w21.cell? ⟨w.heap.size+1,10,none⟩=some (.string th):=B22.lst 10 (by omega);have a10:w21.cell? ⟨w.heap.size,10,none⟩=some (.string ⟨#[]⟩):=A21.lst 10 (by omega);have y10:=A21.frozen 10;have c11:w21.cell? ⟨w.heap.size+1,11,none⟩=some (.int .i64 (ah:Int)):=B22.lst 11 (by omega);have a11:w21.cell? ⟨w.heap.size,11,none⟩=some (.int .i64 0):=A21.lst 11 (by omega);have y11:=A21.frozen 11;have c12:w21.cell? ⟨w.heap.size+1,12,none⟩=some (.int .i64 ((0:Nat):Int)):=B22.lst 12 (by omega);have a12:w21.cell? ⟨w.heap.size,12,none⟩=some (.int .i64 0):=A21.lst 12 (by omega);have y12:=A21.frozen 12;clear B22 A21;go_wp2;refine bodyPost_ret (v:=.tuple #[.agg #[.string nm,.int .i64 (me:Int),.int .u32 (su:Int),.int .i64 (pa:Int),.int .i64 (si:Int),.int .i64 0,.int .i64 (ma:Int),.int .i64 (fl:Int),.int .i64 (di:Int),.int .i64 (ou:Int),.string th,.int .i64 (ah:Int),.int .i64 0],.bool ok]) (by simp[results,Tryz.results88,go_sem,Ad,a0,a1,a2,a3,a4,a5,a6,a7,a8,a9,a10,a11,a12]) rfl ⟨?_,FIN.out _ ?_⟩;.exact(((((((((((((T21.Ag (Nat.le_refl _) _).Ag (Nat.le_refl _) _).Ag (Nat.le_refl _) _).Ag (Nat.le_refl _) _).Ag (Nat.le_refl _) _).Ag (Nat.le_refl _) _).Ag (Nat.le_refl _) _).Ag (Nat.le_refl _) _).Ag (Nat.le_refl _) _).Ag (Nat.le_refl _) _).Ag (Nat.le_refl _) _).Ag (Nat.le_refl _) _).Ag (Nat.le_refl _) _)
 exact(((((((((((((f21.other _ (fun e=>hne0 e.symm)).other _ (fun e=>hne0 e.symm)).other _ (fun e=>hne0 e.symm)).other _ (fun e=>hne0 e.symm)).other _ (fun e=>hne0 e.symm)).other _ (fun e=>hne0 e.symm)).other _ (fun e=>hne0 e.symm)).other _ (fun e=>hne0 e.symm)).other _ (fun e=>hne0 e.symm)).other _ (fun e=>hne0 e.symm)).other _ (fun e=>hne0 e.symm)).other _ (fun e=>hne0 e.symm)).other _ (fun e=>hne0 e.symm))
theorem qX(w:World)(rb:Nat)(s:ByteArray)(E p:Nat)(hr:FR w rb s E (some p))(hs:s.size<=140737488355328): Calls Tryz.prog 88 #[.pointer (some ⟨rb,0,none⟩)] w fun r w'=>Touch (fun k=>k=rb) w w'/\Ib s E rb p r w':=by
 exact oW w rb s E p _ rfl hr hs
theorem rX(w:World)(s:ByteArray)(qe qn qb:Int)(hn:-9223372036854775808<=qn/\qn<=9223372036854775807)(hb:-9223372036854775808<=qb/\qb<=9223372036854775807)(hs:s.size<=2147483648): Calls Tryz.prog 20 #[.string s,.agg #[.int .i64 qe,.int .i64 qn,.int .i64 qb]] w fun r w'=>Touch (fun _=>False) w w'/\Hq w.heap.size (listOf s qe qn qb) r w':=by
 refine Qgr w s qe qn qb hn hb hs (fun d hd h1 h2 W=>?_);obtain⟨d1,d2,d3,d4⟩:=Og s d hd;exact zO W s d h1 d1 d2 hs (fun W rb p hF=>qX W rb s d.stop p hF (by omega))
theorem Zi(w:World)(s:ByteArray)(qe qn qb:Int)(hn:-9223372036854775808<=qn/\qn<=9223372036854775807)(hb:-9223372036854775808<=qb/\qb<=9223372036854775807)(hs:s.size<=2147483648)(ho:Ord w)(h0:1<w.heap.size):
  Calls Tryz.prog 11 #[.string s,.agg #[.int .i64 qe,.int .i64 qn,.int .i64 qb]] w fun r w'=>Touch (fun _=>False) w w'/\Hz w.heap.size s (listOf s qe qn qb) r w':=
 Qch w s qe qn qb _ (fun W _=>rX W s qe qn qb hn hb hs) (fun L h=>Td s qe qn qb L h hs) hs ho h0
end Go.Proofs.YtmhlkdlcpicekaaGreatDoor
