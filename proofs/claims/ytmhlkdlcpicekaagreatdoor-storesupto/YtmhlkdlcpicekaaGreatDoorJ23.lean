/- Joined. -/
import Derived.Test.YtmhlkdlcpicekaaGreatDoorJ22
import Derived.Test.YtmhlkdlcpicekaaGreatDoorJ14
set_option linter.unusedSimpArgs false
set_option linter.unusedVariables false
set_option maxRecDepth 100000
set_option maxHeartbeats 20000000
namespace Go.Proofs.YtmhlkdlcpicekaaGreatDoor
open Go.RowKit Go.Maps
def takeC(c:Bo)(k:Nat):Option Bo:=match c with
 |none=>some none
 |some (n,f)=>if k<=n then some (some (n-k,f))else none
theorem kS(c:Bo):takeC c 0=some c:=by
 rcases c with _|⟨n,f⟩<;>simp[takeC]
theorem Ul{c d:Bo}{k:Nat}(h:takeC c k=some d)(hp:Vk d=true):takeC c (k+1)=some (Ri d):=by
 rcases c with _|⟨n,f⟩
 .simp only[takeC,Option.some.injEq]at h ⊢;rw[<-h];rfl
 unfold takeC at h ⊢;simp only at h ⊢;split at h
 .rename_i hk;cases h;by_cases hk1:k+1<=n
  .rw[if_pos hk1];obtain⟨m,hm⟩:∃m,n-k=m+1:=⟨n-k-1,by omega⟩;rw[hm];simp only[Ri];rw[show n-(k+1)=m by omega]
  rw[show n-k=0 by omega]at hp;cases hp
 cases h
theorem Uy{c d:Bo}{k s:Nat}(h:takeC c k=some d)(hp:Vk d=false)(hs:k<s):takeC c s=none/\d=some (0,Jg c):=by
 rcases c with _|⟨n,f⟩
 .simp only[takeC,Option.some.injEq]at h;rw[<-h]at hp;cases hp
 unfold takeC at h ⊢;simp only at h ⊢;split at h
 .rename_i hk;cases h;have h0:n-k=0:=by
   cases hm:n-k with
   |zero=>rfl
   |succ m=>rw[hm]at hp;cases hp
  rw[if_neg (by omega),h0];exact⟨rfl,rfl⟩
 cases h
def chunks(n:Nat):Nat:=(n+15)/16
def Nb(path data:ByteArray):Nat:=if Aj path then 1 else 1+chunks data.size
def Ph(S b n lim:Nat)(f:List UInt8->Option Value)(sh:Option Nat)(c:Bo)(np:Bool)(path data:ByteArray)(w:World)(r:Ending)(w':World):Prop:=
 Touch (fun k=>k=S\/k=b\/lim<=k) w w'/\match takeC c (Nb path data)with
 |some d=>r=.returned (.bool true)/\SB w' S 1 sh (some b) d np/\∃v,Ap w' b (n+1) (Jf f path.data.toList (some v))/\w'.ownsRow lim 5 1 v data.size (Dy data.data.toList)
 |none=>r=.returned (.bool false)/\SB w' S 1 sh (some b) (some (0,Jg c)) np/\∃g,Ap w' b (n+1) g/\∀key,g key≠none->f key≠none\/key=path.data.toList
def qN:Value->Nat|.string s=>s.size|_=>0
def Qdk:Value->Nat|.bool true=>1|_=>0
theorem SB.Qe8{w:World}{S:Nat}{lk:Int}{sh be:Option Nat}{c:Bo}{np:Bool}(h:SB w S lk sh be c np):SB w.drew S lk sh be c np:=⟨h.hp,h.hc⟩
theorem Ap.Qae{w:World}{B n:Nat}{f:List UInt8->Option Value}(h:Ap w B n f):Ap w.drew B n f:=h
theorem zA(f:List UInt8->Option Value)(k:List UInt8)(u v:Option Value):Jf (Jf f k u) k v=Jf f k v:=by
 funext x;unfold Jf;split<;>rfl
theorem Qbj(f:List UInt8->Option Value)(k:List UInt8)(v:Option Value):Jf f k v k=v:=if_pos rfl
theorem zL(w:World)(S b n lim:Nat)(f:List UInt8->Option Value)(sh:Option Nat)(c:Bo)(np:Bool)(path data:ByteArray)(h:SB w S 1 sh (some b) c np)(hb:Ap w b n f)(hn:n<=4611686018427387904)(hpa:path.size<=140737488355328)(hda:data.size<=140737488355328)(hfo:Aj path=true->data=⟨#[]⟩)(hlim:lim<=w.heap.size)(hS:S<lim): Calls Tryz.prog 74 #[.pointer (some ⟨S,0,none⟩),.agg #[.string path,.string data]] w fun r w'=>Ph S b n lim f sh c np path data w r w':=by
 have hpm:path.size<=maxLen:=by unfold maxLen;omega
 have ta:Touch (fun _=>False) w (w.alloc (.cells #[.string path,.string data] 41)):=(Touch.refl _ _).alloc _;have h1:=h.keep ta (fun e=>e);have hb1:=hb.keep ta (fun e=>e);have hne:=hb.Gf h.hp;have hlt:=h.lt;have hblt:=hb.lt;have bx:(w.alloc (.cells #[.string path,.string data] 41)).heap[w.heap.size]?=some (.cells #[.string path,.string data] 41 (0,0)):=heap_alloc_new w _;have x0:=Ac bx 0;have x1:=Ac bx 1;have sne:¬w.heap.size=S:=by omega
 have bne:¬w.heap.size=b:=by omega
 have HF:Hid (∀W,Calls Tryz.prog 64 #[.string path] W fun e w'=>e=.returned (.bool (Aj path))/\W=w'):=fun W=>Us W path hpa;have HT0:Hid (takeC c 0=some c):=kS c;cases hfd:Aj path with
 |true=>
  rw[hfd]at HF;have HS:Hid (Nb path data=1):=by unfold Hid Nb;rw[hfd];rfl
  have HD:Hid (data=⟨#[]⟩):=hfo hfd;clear hfo;cases hp:Vk c with
  |true=>
   have HT:=Ul HT0.out hp;go_enter Tryz.func74,Tryz.ntmps74;go_wp2_with (first|(go_at_call 64;refine(HF.out _).mono ?_;rintro e w' ⟨rfl,rfl⟩)|(go_at_call 76;refine(Qaj _ S b n f sh c np h1 hb1 (by unfold maxLen;omega) hp 0 (Or.inl rfl) path ⟨#[]⟩ hpm).mono ?_;rintro e w2 ⟨rfl,h2,hb2,t2⟩));go_ret;unfold Ph;rw[HS.out,HT];exact⟨(ta.wide (fun k e=>e.elim)).trans (t2.wide (fun k e=>e.elim Or.inl (fun e=>Or.inr (Or.inl e)))),rfl,h2,Qn,hb2,by rw[HD.out];exact World.ownsRow_nil _ _ _ _⟩
  |false=>
   obtain⟨HT,hc⟩:=Uy (s:=1) HT0.out hp (by omega);go_enter Tryz.func74,Tryz.ntmps74;go_wp2_with (first|(go_at_call 64;refine(HF.out _).mono ?_;rintro e w' ⟨rfl,rfl⟩)|(go_at_call 76;refine(Qa1 _ S sh (some b) c np h1 hp 0 path ⟨#[]⟩).mono ?_;rintro e w2 ⟨rfl,h2,t2⟩));go_ret;unfold Ph;rw[HS.out,HT];exact⟨(ta.wide (fun k e=>e.elim)).trans (t2.wide (fun k e=>Or.inl e)),rfl,hc▸h2,f,(hb1.keep t2 hne).mono (by omega),fun key hk=>Or.inl hk⟩
 |false=>
  rw[hfd]at HF;have HS:Hid (Nb path data=1+chunks data.size):=by unfold Hid Nb;rw[hfd];rfl
  cases hp:Vk c with
  |false=>
   obtain⟨HT,hc⟩:=Uy (s:=1+chunks data.size) HT0.out hp (by omega);obtain⟨emp,hemp⟩:∃e:Bool,e=(data != ⟨#[]⟩):=⟨_,rfl⟩;go_enter Tryz.func74,Tryz.ntmps74;go_wp2_with (first|(go_at_call 64;refine(HF.out _).mono ?_;rintro e w' ⟨rfl,rfl⟩)|(go_at_call 76;refine(Qa1 _ S sh (some b) c np h1 hp 1 path ⟨#[]⟩).mono ?_;rintro e w2 ⟨rfl,h2,t2⟩;have y1:=t2.at x1 sne));go_loopw [5,6] (fun dn rs wr=>dn=.bool false/\wr=w2) (fun _ _ _=>0)
   case atStart=>exact⟨rfl,rfl⟩
   case round=>
    obtain⟨rfl,rfl⟩:=hrel;go_wp2;go_ret;unfold Ph;rw[HS.out,HT];exact⟨(ta.wide (fun k e=>e.elim)).trans (t2.wide (fun k e=>Or.inl e)),rfl,hc▸h2,f,(hb1.keep t2 hne).mono (by omega),fun key hk=>Or.inl hk⟩
  |true=>
   have HT:=Ul HT0.out hp;have HTT:Hid (takeC c 1=some (Ri c)):=HT;have HCH:Hid (∀k,16*k<data.size->k<chunks data.size):=fun k hk=>by unfold chunks;omega
   have HCE:Hid (∀k,¬16*k<data.size->k<=chunks data.size->k=chunks data.size):=fun k hk h2=>by unfold chunks at h2 ⊢;omega
   clear hfo HT;go_enter Tryz.func74,Tryz.ntmps74;go_wp2_with (first|(go_at_call 64;refine(HF.out _).mono ?_;rintro e w' ⟨rfl,rfl⟩)|(go_at_call 76;refine(Qaj _ S b n f sh c np h1 hb1 (by unfold maxLen;omega) hp 1 (Or.inr rfl) path ⟨#[]⟩ hpm).mono ?_;rintro e w2 ⟨rfl,h2,hb2,t2⟩;have y9:=(t2.block w.heap.size (by simp) (fun e=>e.elim sne bne)).trans bx;have y1:=t2.at x1 (fun e=>e.elim sne bne)));have T2:Touch (fun k=>k=S\/k=b\/lim<=k) w w2:=(ta.wide (fun k e=>e.elim)).trans (t2.wide (fun k e=>e.elim Or.inl (fun e=>Or.inr (Or.inl e))));have o2:w2.ownsRow lim 5 1 Qn 0 (Dy []):=World.ownsRow_nil _ _ _ _;have hs2:=t2.size;rw[World.size_alloc]at hs2;go_loopw [5,6] (fun dn rs wr=>Touch (fun k=>k=S\/k=b\/lim<=k) w wr/\w.heap.size<wr.heap.size/\wr.heap[w.heap.size]?=some (.cells #[.string path,.string data] 41 (0,0))/\((dn=.bool true/\∃(k len:Nat) (d:Bo) (v:Value) (rest:ByteArray),k<=chunks data.size/\len=min (16*k) data.size/\rs=.string rest/\rest.size=data.size-len/\Hid (rest.data.toList=data.data.toList.drop len)/\Hid (takeC c (1+k)=some d)/\SB wr S 1 sh (some b) d np/\Ap wr b (n+1) (Jf f path.data.toList (some v))/\wr.ownsRow lim 5 1 v len (Dy (data.data.toList.take len)))\/(dn=.bool false/\Hid (takeC c (1+chunks data.size)=none)/\SB wr S 1 sh (some b) (some (0,Jg c)) np/\∃g,Ap wr b (n+1) g/\Hid (∀key,g key≠none->f key≠none\/key=path.data.toList)))) (fun dn rs _=>2*qN rs+Qdk dn)
   case atStart=>exact⟨T2,by omega,y9,Or.inl ⟨rfl,0,0,Ri c,Qn,data,Nat.zero_le _,by omega,rfl,by omega,by unfold Hid;simp,HTT,h2,hb2,by simpa using o2⟩⟩
   case round=>
    obtain⟨TT,hsz,zx,⟨rfl,k,len,d,v,rest,hk,hlen,rfl,hrs,HR,HTK,hS2,hM,hO⟩|⟨rfl,HN,hS2,g,hM,HG⟩⟩:=hrel
    .have z0:=Ac zx 0;have HZX:Hid (wr.heap[w.heap.size]?=some (.cells #[.string path,.string data] 41 (0,0))):=zx;have HOB:Hid (∀q,v.ownBlock=some q->lim<=q/\¬q=w.heap.size):=fun q hq=>⟨(hO.lt q hq).1,fun e=>by
      subst e;obtain⟨g1,g2,g3⟩:=Kq hO hq;rw[zx]at g3;cases g3⟩
     clear zx;by_cases hmore:16*k<data.size
     .have hk1:=HCH.out k hmore;have q1:¬rest=⟨#[]⟩:=fun e=>by rw[e]at hrs;have:(⟨#[]⟩:ByteArray).size=0:=rfl;omega
      have hrest:0<rest.size:=(by omega);have q5:rest.toList.isEmpty=false:=by
       have hl:rest.data.toList.length=rest.size:=Array.length_toList;rw[ByteArray.toList_eq];cases hx:rest.data.toList with
       |nil=>rw[hx]at hl;simp at hl;omega
       |cons a l=>rfl
      have hcnt:∃cnt:Nat,(cnt=rest.size/\rest.size<16\/cnt=16/\16<=rest.size):=by
       by_cases h16:rest.size<16;.exact⟨_,Or.inl ⟨rfl,h16⟩⟩
       exact⟨_,Or.inr ⟨rfl,by omega⟩⟩
      obtain⟨cnt,hcc⟩:=hcnt;have hc1:cnt<=rest.size:=(by omega);have hc0:0<cnt:=(by omega);have hc2:len+cnt=min (16*(k+1)) data.size:=(by omega);have e1:(rest.extract 0 cnt).size=cnt:=(by rw[ByteArray.size_extract];omega);have e2:(rest.extract cnt rest.size).size=rest.size-cnt:=(by rw[ByteArray.size_extract];omega);have HE1:Hid (data.data.toList.take len++(rest.extract 0 cnt).data.toList=data.data.toList.take (len+cnt)):=by
       unfold Hid;rw[show(rest.extract 0 cnt).data.toList=rest.data.toList.take cnt by simp[ByteArray.data_extract],HR.out,List.take_add]
      have HE2:Hid ((rest.extract cnt rest.size).data.toList=data.data.toList.drop (len+cnt)):=by
       unfold Hid;have hl:rest.data.toList.length=rest.size:=Array.length_toList;have e:(rest.extract cnt rest.size).data.toList=(rest.data.toList.drop cnt).take (rest.size-cnt):=(by simp[ByteArray.data_extract]);rw[e,List.take_of_length_le (by rw[List.length_drop,hl];exact Nat.le_refl _),HR.out,List.drop_drop]
      have HE1s:Hid ((rest.extract 0 cnt).size=cnt):=e1;have HE2s:Hid ((rest.extract cnt rest.size).size=rest.size-cnt):=e2;have hfv:Jf f path.data.toList (some v) path.data.toList=some v:=Qbj _ _ _;have HUT:Hid (∀v',Jf (Jf f path.data.toList (some v)) path.data.toList (some v')=Jf f path.data.toList (some v')):=fun v'=>zA _ _ _ _;have hlm:lim<=wr.heap.size:=Nat.le_trans hlim TT.size;have dlen:len+cnt<=140737488355328:=(by omega);have c1:(cnt:Int)<=(rest.size:Int):=(by omega);have c2:(0:Int)<=(cnt:Int):=(by omega);have hmin:min (rest.size:Int) 16=(cnt:Int):=(by omega);have HN1:Hid (len=min (16*k) data.size/\rest.size=data.size-len/\len+cnt=min (16*(k+1)) data.size/\0<cnt/\cnt<=rest.size):=⟨hlen,hrs,hc2,hc0,hc1⟩;have HKK:Hid (n<=4611686018427387904/\k+1<=chunks data.size/\chunks data.size<=140737488355328):=⟨hn,by omega,by unfold chunks;omega⟩;have HDL:Hid (len+cnt<=140737488355328):=dlen;clear e1 e2 hcc hlen hrs hc2 hc1 dlen hmore hk1 hk hn;cases hpd:Vk d with
      |true=>
       have HTN:Hid (takeC c (1+(k+1))=some (Ri d)):=(by unfold Hid;rw[<-Nat.add_assoc];exact Ul HTK.out hpd);go_wp2_with fail
       go_region_with (go_at_call 76;refine(Qdy _ S b (n+1) lim len (Jf f path.data.toList (some v)) v (data.data.toList.take len) sh d np hS2.Qe8 hM.Qae (by have:=HKK.out;unfold maxLen;omega) hpd path (rest.extract 0 cnt) hpm hfv hO.drew hlm hS (by rw[HE1s.out];exact HDL.out)).mono ?_;rintro e w5 ⟨rfl,h5,v',hb5,ho5,t5⟩)
       all_goals
        go_wp2_with fail;have T5:=TT.drew.trans (t5.wide (fun q e=>e.elim Or.inl (fun e=>e.elim (fun e=>Or.inr (Or.inl e)) (fun e=>Or.inr (Or.inr (HOB.out q e).1)))));rw[HUT.out]at hb5;rw[HE1.out,HE1s.out]at ho5;have hn1:=HN1.out;refine⟨⟨T5,Nat.lt_of_lt_of_le hsz t5.size,(t5.block w.heap.size hsz (fun e=>e.elim sne (fun e=>e.elim bne (fun e=>(HOB.out _ e).2 rfl)))).trans HZX.out,Or.inl ⟨rfl,k+1,len+cnt,Ri d,v',_,by have:=HKK.out;omega,hn1.2.2.1,rfl,by rw[HE2s.out];omega,HE2,HTN,h5,hb5,ho5⟩⟩,?_⟩;simp only[qN,Qdk];rw[HE2s.out];omega
      |false=>
       obtain⟨HTX,hdd⟩:=Uy (s:=1+chunks data.size) HTK.out hpd (by have:=HKK.out;omega);go_wp2_with fail
       go_region_with (go_at_call 76;refine(Qa1 _ S sh (some b) d np hS2.Qe8 hpd 2 path (rest.extract 0 cnt)).mono ?_;rintro e w5 ⟨rfl,h5,t5⟩)
       all_goals
        go_wp2_with fail;have T5:=TT.drew.trans (t5.wide (fun q e=>Or.inl e));have hn1:=HN1.out;refine⟨⟨T5,Nat.lt_of_lt_of_le hsz t5.size,(t5.block w.heap.size hsz sne).trans HZX.out,Or.inr ⟨rfl,HTX,hdd▸h5,_,(hM.Qae.keep t5 hne).mono (by have:=HKK.out;omega),fun key hk=>?_⟩⟩,?_⟩
        .by_cases e:key=path.data.toList;.exact Or.inr e
         unfold Jf at hk;rw[if_neg e]at hk;exact Or.inl hk
        simp only[qN,Qdk];rw[HE2s.out];omega
     have hkc:=HCE.out k hmore hk;have hl2:len=data.size:=(by omega);have hr0:rest=⟨#[]⟩:=by
      have hz:rest.size=0:=(by omega);have:rest.data.size=0:=hz;cases rest with
      |mk a=>simp at this;rw[this]
     subst hr0;have HLL:Hid (len=data.size/\k=chunks data.size):=⟨hl2,hkc⟩;clear hl2 hkc hmore;go_wp2;go_ret;unfold Ph;obtain⟨hl2,hkc⟩:=HLL.out;rw[hkc]at HTK;rw[HS.out,HTK.out];refine⟨TT,rfl,hS2,v,hM,?_⟩;rw[hl2]at hO;have hl:data.data.toList.length=data.size:=Array.length_toList;rw[<-hl,List.take_length,hl]at hO;exact hO
    go_wp2;go_ret;unfold Ph;rw[HS.out,HN.out];exact⟨TT,rfl,hS2,g,hM,HG.out⟩
theorem Ap.Qa2{w:World}{B n g j:Nat}{f:List UInt8->Option Value}{v:Value}(h:Ap w B n f)(hc:w.cell? ⟨g,j,none⟩=some v):B≠g:=by
 obtain⟨D,⟨es,clock,hb,_⟩,_⟩:=h;rintro rfl;simp[World.cell?,hb]at hc
theorem Rx{F:Nat->Prop}{w w':World}{g:Nat}{l:List (ByteArray×List UInt8)}(h:Dc w g l)(t:Touch F w w')(hg:¬F g):Dc w' g l:=fun i hi=>⟨t.at (h i hi).1 hg,t.at (h i hi).2 hg⟩
theorem xY(w:World)(S b n g cap:Nat)(a:Option Addr)(f:List UInt8->Option Value)(sh:Option Nat)(c:Bo)(np:Bool)(files:List (ByteArray×List UInt8))(h:SB w S 1 sh (some b) c np)(hb:Ap w b n f)(hF:0<files.length->a=some ⟨g,0,none⟩/\Dc w g files)(hl:files.length<=1000000000000)(hs:∀x∈files,x.1.size<=maxLen)(hsub:∀key,f key≠none->key∈files.map fun x=>x.1.data.toList): Calls Tryz.prog 128 #[.pointer (some ⟨S,0,none⟩),.slice a files.length cap] w fun r w'=>r=.returned (.tuple #[])/\SB w' S 1 sh (some b) c np/\Ap w' b n (fun _=>none)/\Touch (fun k=>k=b) w w':=by
 have hne:=hb.Gf h.hp;have hblt:=hb.lt;obtain⟨m,hm⟩:∃m,m=files.length:=⟨_,rfl⟩;rw[<-hm];have HM:Hid (m=files.length):=hm;have HF:Hid (0<files.length->a=some ⟨g,0,none⟩/\Dc w g files):=hF;have HS:Hid (∀x∈files,x.1.size<=maxLen):=hs;have HU:Hid (∀key,f key≠none->key∈(files.drop 0).map fun x=>x.1.data.toList):=hsub;have hm':m<=1000000000000:=by omega
 clear hF hs hsub hm hl;go_enter Tryz.func128,Tryz.ntmps128;go_wp2;go_loopw [8] (fun i wr=>∃(k:Nat) (e:List UInt8->Option Value),k<=m/\i=.int .i64 (k:Int)/\Ap wr b n e/\Hid (∀key,e key≠none->key∈(files.drop k).map fun x=>x.1.data.toList)/\Touch (fun k=>k=b) w wr) (fun i _=>m-(intOf i).toNat)
 case atStart=>exact⟨0,f,Nat.zero_le _,rfl,hb,HU,Touch.refl _ _⟩
 case round=>
  obtain⟨k,e,hk,rfl,hM,HE,T⟩:=hrel;have h1:=h.keep T (fun e=>hne e.symm);obtain⟨c0,c2,c3,c4,c5,c6,c7⟩:=h1.cs;by_cases hlt:k<m
  .have hkl:k<files.length:=by have:=HM.out;omega
   obtain⟨rfl,hFA⟩:=HF.out (by omega);obtain⟨z0,z1⟩:=hFA k hkl;have hgb:¬g=b:=fun e=>hb.Qa2 z0 e.symm;have y0:=T.at z0 hgb;have y1:=T.at z1 hgb;have glt:g<wr.heap.size:=World.block_lt_of_cell? wr _ y0;obtain⟨P,hP⟩:∃P,P=files[k].1:=⟨_,rfl⟩;obtain⟨D,hD⟩:∃D:ByteArray,D=⟨files[k].2.toArray⟩:=⟨_,rfl⟩;have hPs:P.size<=maxLen:=by rw[hP];exact HS.out _ (List.getElem_mem hkl)
   have HE2:Hid (∀key,Jf e P.data.toList none key≠none->key∈(files.drop (k+1)).map fun x=>x.1.data.toList):=fun key hk=>by
    unfold Jf at hk;split at hk;.exact absurd rfl hk
    rename_i hn;have:=HE.out key hk;rw[List.drop_eq_getElem_cons hkl,List.map_cons,List.mem_cons]at this;rcases this with e1|e1;.exact absurd (by rw[e1,hP]) hn
    exact e1
   rw[<-hP]at y0;rw[<-hD]at y1;clear hP hD z0 z1;have ta:Touch (fun k=>k=b) wr (wr.alloc (.cells #[.string P,.string D] 41)):=(Touch.refl _ _).alloc _;have hM1:Ap (wr.alloc (.cells #[.string P,.string D] 41)) b n e:=hM.keep ((Touch.refl (fun _=>False) wr).alloc _) (fun e=>e);obtain⟨w3,hdel,hM3,hg3⟩:=Ap.del (w:=(wr.alloc (.cells #[.string P,.string D] 41)).drew) hM1 Tryz.underlying86 P hPs 0;have T3:Touch (fun k=>k=b) w w3:=(T.trans ta).drew.trans (Touch.turned hg3);obtain⟨a0,a2,a3,_⟩:=(h1.keep ((Touch.refl (fun _=>False) wr).alloc (.cells #[.string P,.string D] 41)) (fun e=>e)).cs;have slt:=h1.lt;have i1:(k:Int)<(m:Int):=by omega
   go_wp2;go_region;all_goals
    go_wp2;go_roundw
    case rel=>exact⟨k+1,_,by omega,by go_num,hM3,HE2,T3⟩
    case measure=>simp[intOf];omega
  obtain rfl:k=m:=by omega
  have i1:¬(k:Int)<(k:Int):=by omega
  have HN:Hid (∀key,e key=none):=fun key=>by
   cases hx:e key with
   |none=>rfl
   |some v=>
    have:=HE.out key (by rw[hx];simp);rw[List.drop_of_length_le (by have:=HM.out;omega)]at this;cases this
  go_wp2;go_end0;exact⟨rfl,h1,hM.congr HN.out,T⟩
theorem yJ(w:World)(S b n g cap:Nat)(a:Option Addr)(f:List UInt8->Option Value)(sh:Option Nat)(m:Nat)(np:Bool)(files:List (ByteArray×List UInt8))(h:SB w S 1 sh (some b) (some (m,true)) np)(hb:Ap w b n f)(hF:0<files.length->a=some ⟨g,0,none⟩/\Dc w g files)(hl:files.length<=1000000000000)(hs:∀x∈files,x.1.size<=maxLen)(hsub:∀key,f key≠none->key∈files.map fun x=>x.1.data.toList): Calls Tryz.prog 75 #[.pointer (some ⟨S,0,none⟩),.slice a files.length cap] w fun r w'=>r=.returned (.int .i64 14)/\SB w' S 1 sh (some b) none np/\Ap w' b n (fun _=>none)/\Touch (fun k=>k=S\/k=b) w w':=by
 have hne:=hb.Gf h.hp;obtain⟨c0,c2,c3,c4,c5,c6,c7⟩:=h.cs;simp only[Jg]at c6;have HB:Hid (∀W,W=w->Calls Tryz.prog 128 #[.pointer (some ⟨S,0,none⟩),.slice a files.length cap] W fun r w'=>r=.returned (.tuple #[])/\SB w' S 1 sh (some b) (some (m,true)) np/\Ap w' b n (fun _=>none)/\Touch (fun k=>k=b) W w'):=fun W e=>by subst e;exact xY W S b n g cap a f sh _ np files h hb hF hl hs hsub
 clear hF hs hsub hl;go_enter Tryz.func75,Tryz.ntmps75;go_wp2_with (go_at_call 128;refine(HB.out _ rfl).mono ?_;rintro e w2 ⟨rfl,h2,hb2,t2⟩;have f4:=h2.fr 4;have f5:=h2.fr 5;have f6:=h2.fr 6;obtain⟨d0,d2,d3,d4,d5,d6,d7⟩:=h2.cs);go_ret;have t3:=((Ba w2 S 4 (.bool (none:Bo).isSome)).trans (Ba _ S 5 (.int .i64 0))).trans (Ba _ S 6 (.bool (Jg none)));exact⟨rfl,h2.cut none (by simp[Ol]) 0 rfl,hb2.keep t3 hne,(t2.wide (fun k e=>Or.inr e)).trans (t3.wide (fun k e=>Or.inl e))⟩
theorem yK(w:World)(S:Nat)(v:Value)(sh be:Option Nat)(m:Nat)(np:Bool)(h:SB w S 1 sh be (some (m,false)) np): Calls Tryz.prog 75 #[.pointer (some ⟨S,0,none⟩),v] w fun r w'=>r=.returned (.int .i64 14)/\SB w' S 1 sh be (some (m,false)) true/\Touch (fun k=>k=S) w w':=by
 obtain⟨c0,c2,c3,c4,c5,c6,c7⟩:=h.cs;simp only[Jg]at c6;have f7:=h.fr 7;go_enter Tryz.func75,Tryz.ntmps75;go_wp2;go_ret;exact⟨rfl,h.power true,Ba _ _ _ _⟩
def Sr:List (List UInt8)->List (List UInt8)->Bool
 | [],[]=>false
 | [],_::_=>true
 |_::_,[]=>false
 |x::xs,y::ys=>if x=y then Sr xs ys else decide (x<y)
theorem Qau(c:UInt8)(q:List UInt8):∀p:List UInt8,p<p++c::q
 | []=>List.nil_lt_cons ..
 |a::p=>by rw[List.cons_append,List.cons_lt_cons_iff];exact .inr ⟨rfl,Qau c q p⟩
theorem wF(c:UInt8)(q:List UInt8):∀p:List UInt8,¬p++c::q<p
 | []=>List.not_lt_nil _
 |a::p=>by
  rw[List.cons_append,List.cons_lt_cons_iff];rintro(h|⟨_,h⟩);.exact UInt8.lt_irrefl _ h
  exact wF c q p h
theorem Qd5(a b:UInt8)(x y:List UInt8)(hab:a≠b):∀p:List UInt8,(p++a::x<p++b::y)↔a<b
 | []=>by
  simp only[List.nil_append];rw[List.cons_lt_cons_iff];exact⟨fun h=>h.elim id (fun h=>absurd h.1 hab),.inl⟩
 |c::p=>by
  rw[List.cons_append,List.cons_append,List.cons_lt_cons_iff,Qd5 a b x y hab p];exact⟨fun h=>h.elim (fun h=>absurd h (UInt8.lt_irrefl _)) (·.2),fun h=>.inr ⟨rfl,h⟩⟩
theorem Gv:∀(u p:List UInt8),∃x xs,Az u p=(p++x)::xs
 | [],p=>⟨[],[],by simp[Az]⟩
 |c::u,p=>by
  unfold Az;split;.exact⟨[],Az u [],by simp⟩
  obtain⟨x,xs,h⟩:=Gv u (p++[c]);exact⟨c::x,xs,by rw[h];simp⟩
theorem uY(p:List UInt8)(c:UInt8)(x:List UInt8)(r xs:List (List UInt8)):Sr (p::r) ((p++c::x)::xs)=true:=by
 have hne:¬p=p++c::x:=fun e=>by
  have:=congrArg List.length e;simp at this
 simp only[Sr,if_neg hne];exact decide_eq_true (Qau c x p)
theorem wM(p:List UInt8)(c:UInt8)(x:List UInt8)(r xs:List (List UInt8)):Sr ((p++c::x)::xs) (p::r)=false:=by
 have hne:¬p++c::x=p:=fun e=>by
  have:=congrArg List.length e;simp at this
 simp only[Sr,if_neg hne];exact decide_eq_false (wF c x p)
theorem yQ{c:UInt8}(h:c≠0)(h47:c≠47):0<rk c:=by
 unfold rk;rw[if_neg h47];have:c.toNat≠0:=fun e=>h (UInt8.toNat_inj.1 (by simpa using e));omega
theorem pG:∀(u v p:List UInt8),Jh u->Jh v->Sr (Az u p) (Az v p)=decide (En u v<0)
 | [],[],p,_,_=>by simp[Az,Sr,En]
 | [],c::v,p,_,hv=>by
  have e:decide (En [] (c::v)<0)=true:=by simp[En]
  rw[e];by_cases h:c=47
  .obtain⟨x,xs,hx⟩:=Gv v [];rw[Az,Az,if_pos h,Sr,if_pos rfl,hx];rfl
  obtain⟨x,xs,hx⟩:=Gv v (p++[c]);rw[Az,Az,if_neg h,hx,List.append_assoc];exact uY p c x [] xs
 |c::u,[],p,hu,_=>by
  have e:decide (En (c::u) []<0)=false:=by simp[En]
  rw[e];by_cases h:c=47
  .obtain⟨x,xs,hx⟩:=Gv u [];rw[Az,Az,if_pos h,Sr,if_pos rfl,hx];rfl
  obtain⟨x,xs,hx⟩:=Gv u (p++[c]);rw[Az,Az,if_neg h,hx,List.append_assoc];exact wM p c x [] xs
 |a::u,b::v,p,hu,hv=>by
  have hu':Jh u:=fun c hc=>hu c (List.mem_cons_of_mem _ hc);have hv':Jh v:=fun c hc=>hv c (List.mem_cons_of_mem _ hc);have ha:=hu a (List.mem_cons_self ..);have hb:=hv b (List.mem_cons_self ..);by_cases e:a=b
  .subst e;simp only[En,if_pos];by_cases h:a=47
   .rw[Az,Az,if_pos h,if_pos h,Sr,if_pos rfl];exact pG u v [] hu' hv'
   rw[Az,Az,if_neg h,if_neg h];exact pG u v (p++[a]) hu' hv'
  simp only[En,if_neg e];rw[show decide (Lib.compareInt (rk a:Int) (rk b:Int)<0)=decide ((rk a:Int)<(rk b:Int)) from decide_eq_decide.2 (Hl _ _)];by_cases h1:a=47
  .have h2:¬b=47:=fun h=>e (h1.trans h.symm);obtain⟨y,ys,hy⟩:=Gv v (p++[b]);rw[Az,Az,if_pos h1,if_neg h2,hy,List.append_assoc];have:=yQ hb h2;have z:rk a=0:=by unfold rk;rw[if_pos h1]
   rw[decide_eq_true (show(rk a:Int)<(rk b:Int) by omega)];exact uY p b y _ ys
  obtain⟨x,xs,hx⟩:=Gv u (p++[a]);by_cases h2:b=47
  .rw[Az,Az,if_neg h1,if_pos h2,hx,List.append_assoc];have z:rk b=0:=by unfold rk;rw[if_pos h2]
   rw[decide_eq_false (show¬(rk a:Int)<(rk b:Int) by omega)];exact wM p a x _ xs
  obtain⟨y,ys,hy⟩:=Gv v (p++[b]);rw[Az,Az,if_neg h1,if_neg h2,hx,hy,List.append_assoc,List.append_assoc];have hne:¬p++([a]++x)=p++([b]++y):=fun h=>by
   have:=List.append_cancel_left h;simp at this;exact e this.1
  simp only[Sr,if_neg hne];refine decide_eq_decide.2 ?_;have:=Qd5 a b x y e p;simp only[List.cons_append,List.nil_append];rw[this];have z1:rk a=a.toNat:=by unfold rk;rw[if_neg h1]
  have z2:rk b=b.toNat:=by unfold rk;rw[if_neg h2]
  rw[z1,z2,UInt8.lt_iff_toNat_lt];omega
theorem lX:∀(u v e f:List UInt8),u≠v->Jh u->Jh v->(e=[]\/e=[47])->(f=[]\/f=[47])->u.getLast?≠some 47->v.getLast?≠some 47->(En (u++e) (v++f)<0↔En u v<0)
 | [],[],_,_,h,_,_,_,_,_,_=>absurd rfl h
 | [],c::v,e,f,_,_,hv,he,hf,_,hl=>by
  have hc:=hv c (List.mem_cons_self ..);have r:En [] (c::v)<0:=by simp[En]
  refine⟨fun _=>r,fun _=>?_⟩;rcases he with rfl|rfl;.simp[En]
  simp only[List.nil_append,List.cons_append,En];by_cases h47:c=47
  .rw[if_pos h47.symm];cases v with
   |nil=>rw[h47]at hl;simp at hl
   |cons d v=>simp[En]
  rw[if_neg (fun h=>h47 h.symm),Hl];have:=yQ hc h47;have z:rk 47=0:=rfl;omega
 |c::u,[],e,f,_,hu,_,he,hf,hl,_=>by
  have hc:=hu c (List.mem_cons_self ..);have r:¬En (c::u) []<0:=by simp[En]
  refine⟨fun h=>?_,fun h=>absurd h r⟩;rcases hf with rfl|rfl;.simp[En]at h
  simp only[List.nil_append,List.cons_append,En]at h;by_cases h47:c=47
  .rw[if_pos h47]at h;cases u with
   |nil=>rw[h47]at hl;simp at hl
   |cons d u=>simp[En]at h
  rw[if_neg h47,Hl]at h;have:=yQ hc h47;have z:rk 47=0:=rfl;omega
 |a::u,b::v,e,f,h,hu,hv,he,hf,hlu,hlv=>by
  simp only[List.cons_append,En];by_cases hab:a=b
  .rw[if_pos hab,if_pos hab];have hne:u≠v:=fun e=>h (by rw[hab,e]);refine lX u v e f hne (fun c hc=>hu c (List.mem_cons_of_mem _ hc)) (fun c hc=>hv c (List.mem_cons_of_mem _ hc)) he hf ?_ ?_
   .cases u with
    |nil=>simp
    |cons d u=>simpa using hlu
   cases v with
   |nil=>simp
   |cons d v=>simpa using hlv
  rw[if_neg hab,if_neg hab]
abbrev Gn:=ByteArray×List UInt8
def Vd(a b:ByteArray):Bool:=Sr (Az (Ak a) []) (Az (Ak b) [])
def Hy:List Gn->Gn->List Gn
 | [],f=>[f]
 |x::l,f=>if x.1=f.1 then x::l else if Vd f.1 x.1 then f::x::l else x::Hy l f
def Fb(nm:List UInt8):Nat->Nat->List Gn->List Gn
 |0,_,out=>out
 |f+1,i,out=>Fb nm f (i+1) (if nm[i]?=some 47 then Hy out (Ez (nm.take (i+1)))else out)
def Gx(s:ByteArray):List Ai->List Gn->Sum Nat (List Gn)
 | [],out=>.inr out
 |x::l,out=>if Aj x.Af.name then Gx s l (Fb x.Af.name.data.toList x.Af.name.size 0 out)else match Ff s x with
  |.inl k=>.inl k
  |.inr d=>Gx s l (Hy (Fb x.Af.name.data.toList x.Af.name.size 0 out) (x.Af.name,d))
@[reducible] def Srt(l:List Gn):Prop:=l.Pairwise fun a b=>En a.1.data.toList b.1.data.toList<0
structure eX (P:ByteArray->Prop):Prop where
 less:∀a b,P a->P b->a≠b->Vd a b=decide (En a.data.toList b.data.toList<0)
 nul:∀a,P a->Jh a.data.toList
theorem Oo{a b:ByteArray}(h:a.data.toList=b.data.toList):a=b:=by
 apply ByteArray.ext;exact Array.toList_inj.1 h
theorem eX.tri{P:ByteArray->Prop}(h:eX P){a b:ByteArray}(ha:P a)(hb:P b)(hne:a≠b)(hn:¬En a.data.toList b.data.toList<0):En b.data.toList a.data.toList<0:=by
 have h1:=Js a.data.toList b.data.toList;have h2:En a.data.toList b.data.toList≠0:=fun e=>hne (Oo (dC _ _ (h.nul a ha) (h.nul b hb) e));omega
theorem uH{P:ByteArray->Prop}(hP:eX P)(f:Gn)(hf:P f.1):∀l:List Gn,(∀x∈l,P x.1)->Srt l->(∃x∈l,x.1=f.1)->Hy l f=l
 | [],_,_,h=>by obtain⟨x,hx,_⟩:=h;cases hx
 |x::l,hl,hs,h=>by
  unfold Hy;by_cases e:x.1=f.1;.rw[if_pos e]
  rw[if_neg e];obtain⟨y,hy,hyf⟩:=h;have hyl:y∈l:=by
   rcases List.mem_cons.1 hy with rfl|hy;.exact absurd hyf e
   exact hy
  have hlt:=(List.pairwise_cons.1 hs).1 y hyl;rw[hyf]at hlt;have hls:Vd f.1 x.1=false:=by
   rw[hP.less _ _ hf (hl x (List.mem_cons_self ..)) (fun h=>e h.symm)];refine decide_eq_false (fun h=>?_);have:=Js x.1.data.toList f.1.data.toList;omega
  rw[hls];simp only[Bool.false_eq_true,if_false];rw[uH hP f hf l (fun x hx=>hl x (List.mem_cons_of_mem _ hx)) (List.pairwise_cons.1 hs).2 ⟨y,hyl,hyf⟩]
theorem jR{P:ByteArray->Prop}(hP:eX P)(f:Gn)(hf:P f.1):∀l:List Gn,(∀x∈l,P x.1)->Srt l->(∀x∈l,x.1≠f.1)->(Hy l f).Perm (f::l)/\Srt (Hy l f)
 | [],_,_,_=>⟨List.Perm.refl _,List.pairwise_singleton ..⟩
 |x::l,hl,hs,h=>by
  have hx:=hl x (List.mem_cons_self ..);have hne:=h x (List.mem_cons_self ..);have hs1:=(List.pairwise_cons.1 hs).1;have hs2:=(List.pairwise_cons.1 hs).2;unfold Hy;rw[if_neg hne,hP.less _ _ hf hx (fun e=>hne e.symm)];by_cases hlt:En f.1.data.toList x.1.data.toList<0
  .rw[decide_eq_true hlt];simp only[if_true];refine⟨List.Perm.refl _,List.pairwise_cons.2 ⟨fun y hy=>?_,hs⟩⟩;rcases List.mem_cons.1 hy with rfl|hy;.exact hlt
   exact Ut _ _ _ (hP.nul _ hf) (hP.nul _ hx) (hP.nul _ (hl y (List.mem_cons_of_mem _ hy))) hlt (hs1 y hy)
  rw[decide_eq_false hlt];simp only[Bool.false_eq_true,if_false];obtain⟨i1,i2⟩:=jR hP f hf l (fun x hx=>hl x (List.mem_cons_of_mem _ hx)) hs2 (fun x hx=>h x (List.mem_cons_of_mem _ hx));refine⟨(i1.cons x).trans (List.Perm.swap ..),List.pairwise_cons.2 ⟨fun y hy=>?_,i2⟩⟩;rcases List.mem_cons.1 (i1.mem_iff.1 hy)with rfl|hy;.exact hP.tri hf hx (fun e=>hne e.symm) hlt
  exact hs1 y hy
theorem Ue:∀(out d:List Gn),d.Perm out->Srt out->(d.Pairwise fun a b=>En a.1.data.toList b.1.data.toList<=0)->d=out
 | [],d,h,_,_=>h.eq_nil
 |x::o,[],h,_,_=>by have:=h.length_eq;simp at this
 |x::o,y::e,h,h1,h2=>by
  have hx:x∈y::e:=h.mem_iff.2 (List.mem_cons_self ..);have hy:y∈x::o:=h.mem_iff.1 (List.mem_cons_self ..);have hxy:x=y:=by
   rcases List.mem_cons.1 hx with h'|hx;.exact h'
   rcases List.mem_cons.1 hy with h'|hy;.exact h'.symm
   have a:=(List.pairwise_cons.1 h1).1 y hy;have b:=(List.pairwise_cons.1 h2).1 x hx;have c:=Js x.1.data.toList y.1.data.toList;omega
  subst hxy;rw[Ue o e ((List.perm_cons x).1 h) (List.pairwise_cons.1 h1).2 (List.pairwise_cons.1 h2).2]
theorem Vs:∀(t p:List UInt8),(∀x∈Az t p,x≠[])->∀k,(t[k]?=some 47\/k=t.length)->(k=0->p≠[])/\∀j,k=j+1->t[j]?≠some 47
 | [],p,h,k,hk=>by
  have hk0:k=0:=by rcases hk with hk|hk<;>simp at hk;exact hk
  subst hk0;exact⟨fun _=>h p (by simp[Az]),fun j hj=>by omega⟩
 |c::t,p,h,k,hk=>by
  by_cases hc:c=47
  .rw[Az,if_pos hc]at h;cases k with
   |zero=>exact⟨fun _=>h p (List.mem_cons_self ..),fun j hj=>by omega⟩
   |succ k=>
    have ih:=Vs t [] (fun x hx=>h x (List.mem_cons_of_mem _ hx)) k (by rcases hk with hk|hk<;>simp at hk<;>simp[hk]);refine⟨fun e=>by omega,fun j hj=>?_⟩;obtain rfl:k=j:=by omega
    cases k with
    |zero=>exact absurd rfl (ih.1 rfl)
    |succ k=>rw[List.getElem?_cons_succ];exact ih.2 k rfl
  rw[Az,if_neg hc]at h;cases k with
  |zero=>rcases hk with hk|hk<;>simp at hk;exact absurd hk hc
  |succ k=>
   have ih:=Vs t (p++[c]) h k (by rcases hk with hk|hk<;>simp at hk<;>simp[hk]);refine⟨fun e=>by omega,fun j hj=>?_⟩;obtain rfl:k=j:=by omega
   cases k with
   |zero=>simp;exact hc
   |succ k=>rw[List.getElem?_cons_succ];exact ih.2 k rfl
end Go.Proofs.YtmhlkdlcpicekaaGreatDoor
