/- Joined. -/
import Derived.Test.YtmhlkdlcpicekaaGreatDoorJ13
import Derived.Test.YtmhlkdlcpicekaaGreatDoorJ08
import Derived.Shelf.SlSortCmp.NoneTotal
set_option linter.unusedSimpArgs false
set_option linter.unusedVariables false
set_option maxRecDepth 100000
set_option maxHeartbeats 20000000
namespace Go.Proofs.YtmhlkdlcpicekaaGreatDoor
open Go.RowKit Go.Shelf
theorem qH(D:List Nat)(s:ByteArray)(q:Nat)(out:List UInt8)(most x k:Nat)(h:Di D s q out most x=.inl k):k=1\/k=2:=by
 unfold Di at h;split at h;.cases h;exact .inl rfl
 split at h;.cases h;exact .inl rfl
 split at h;.cases h;exact .inl rfl
 split at h;.cases h;exact .inl rfl
 split at h;.cases h;exact .inr rfl
 cases h
theorem Rl(L D:List Nat)(s:ByteArray)(most:Nat):∀f p out k,Bz L D s most f p out=.inl k->k=1\/k=2
 |0,_,_,k,h=>by simp[Bz]at h;exact .inl h.symm
 |f+1,p,out,k,h=>by
  cases hd:dec L s p with
  |none=>rw[Lp _ _ _ _ _ _ _ hd]at h;cases h;exact .inl rfl
  |some xq=>
   obtain⟨x,q⟩:=xq;rw[Lj _ _ _ _ _ _ _ _ _ hd]at h;split at h;.cases h
   split at h
   .split at h;.cases h;exact .inr rfl
    exact Rl L D s most f _ _ k h
   split at h;.rename_i he;cases h;exact qH _ _ _ _ _ _ _ he
   exact Rl L D s most f _ _ k h
theorem sU(s:ByteArray)(kind p:Nat)(out:List UInt8)(most k:Nat)(h:Ec s kind p out most=.inl k):k=1\/k=2:=by
 unfold Ec at h;split at h
 .unfold Gw at h;split at h;.cases h;exact .inl rfl
  split at h;.cases h
  split at h;.cases h;exact .inl rfl
  cases h;exact .inr rfl
 split at h;.exact Rl _ _ _ _ _ _ _ _ h
 split at h
 .split at h;.cases h;exact .inl rfl
  exact Rl _ _ _ _ _ _ _ _ h
 cases h;exact .inl rfl
theorem Zp(s:ByteArray)(most:Nat):∀f p out k,Bq s most f p out=.inl k->k=1\/k=2
 |0,_,_,k,h=>by simp[Bq]at h;exact .inl h.symm
 |f+1,p,out,k,h=>by
  unfold Bq at h;split at h;.cases h;exact .inl rfl
  split at h;.rename_i he;cases h;exact sU _ _ _ _ _ _ he
  split at h;.cases h
  exact Zp s most f _ _ k h
theorem Xv(s:ByteArray)(most:Int)(k:Nat)(h:Ed s most=.inl k):k=1\/k=2:=Zp _ _ _ _ _ _ h
def Gq(s:ByteArray)(size:Nat):Sum Nat (List UInt8):=match Ed s (size:Int)with
 |.inl k=>.inl (if k=2 then 11 else 1)
 |.inr (out,q)=>if out.length≠size then .inl 11 else if(q+7)/8≠s.size then .inl 1 else .inr out
def bytesV(r:Sum Nat (List UInt8)):Value:=match r with
 |.inl k=>.tuple #[.string ⟨#[]⟩,.int .i64 (k:Int)]
 |.inr l=>.tuple #[.string ⟨l.toArray⟩,.int .i64 0]
theorem kT(w:World)(s:ByteArray)(size:Nat)(hz:size<=1099511627776)(hs:s.size<=2147483648)(ho:Ord w)(hb:1<w.heap.size): Calls Tryz.prog 164 #[.string s,.int .i64 (size:Int)] w fun r w'=>r=.returned (bytesV (Gq s size))/\Touch (fun _=>False) w w':=by
 have HI:Hid (Calls Tryz.prog 19 #[.string s,.int .i64 (size:Int)] w fun e w'=>e=.returned (He (Ed s (size:Int)))/\Below w.heap.size w w'):=dB w s (size:Int) (by omega) hs ho hb;cases hi:Ed s (size:Int)with
 |inl k=>
  have hk:=Xv s _ k hi;have HW:Hid (Gq s size=.inl (if k=2 then 11 else 1)):=by unfold Hid Gq;rw[hi]
  rw[hi]at HI;have HI':Hid (Calls Tryz.prog 19 #[.string s,.int .i64 (size:Int)] w fun e w'=>e=.returned (.tuple #[.string ⟨#[]⟩,.int .i64 0,.int .i64 (k:Int)])/\Below w.heap.size w w'):=HI;clear HI hi;rcases hk with rfl|rfl
  .go_enter Tryz.func164,Tryz.ntmps164;go_wp2_with fail;refine HI'.out.mono ?_;rintro e w1 ⟨rfl,t1⟩;go_wp2;go_ret2;exact⟨by rw[HW.out];rfl,Touch.Lt t1 _⟩
  go_enter Tryz.func164,Tryz.ntmps164;go_wp2_with fail;refine HI'.out.mono ?_;rintro e w1 ⟨rfl,t1⟩;go_wp2;go_ret2;exact⟨by rw[HW.out];rfl,Touch.Lt t1 _⟩
 |inr oq=>
  obtain⟨out,q⟩:=oq;have HW:Hid (Gq s size=if out.length≠size then .inl 11 else if(q+7)/8≠s.size then .inl 1 else .inr out):=by unfold Hid Gq;rw[hi]
  rw[hi]at HI;obtain⟨t,ht⟩:∃t,t=(q+7)/8:=⟨_,rfl⟩;rw[<-ht]at HW;have HI':Hid (Calls Tryz.prog 19 #[.string s,.int .i64 (size:Int)] w fun e w'=>e=.returned (.tuple #[.string ⟨out.toArray⟩,.int .i64 (t:Int),.int .i64 0])/\Below w.heap.size w w'):=by rw[ht];exact HI
  have hl:(⟨out.toArray⟩:ByteArray).size=out.length:=by show out.toArray.size=_;simp
  obtain⟨o,ho'⟩:∃o:ByteArray,o=⟨out.toArray⟩:=⟨_,rfl⟩;rw[<-ho']at HI' hl;have HV:Hid (bytesV (.inr out)=.tuple #[.string o,.int .i64 0]):=by rw[ho'];rfl
  clear HI hi ht ho';by_cases h1:(o.size:Int)=(size:Int)
  .have h1':((o.size:Int) != (size:Int))=false:=by simpa using h1
   by_cases h2:(t:Int)=(s.size:Int)
   .have h2':((t:Int) != (s.size:Int))=false:=(by simpa using h2);have HE:Hid (bytesV (Gq s size)=.tuple #[.string o,.int .i64 0]):=by
     unfold Hid;rw[HW.out,if_neg (by omega),if_neg (by omega)];exact HV.out
    clear h1 h2 HW hl;go_enter Tryz.func164,Tryz.ntmps164;go_wp2_with fail;refine HI'.out.mono ?_;rintro e w1 ⟨rfl,t1⟩;go_wp2;go_ret2;exact⟨by rw[HE.out];rfl,Touch.Lt t1 _⟩
   have h2':((t:Int) != (s.size:Int))=true:=by simpa using h2
   have HE:Hid (Gq s size=.inl 1):=by unfold Hid;rw[HW.out,if_neg (by omega),if_pos (by omega)]
   clear h1 h2 HW hl;go_enter Tryz.func164,Tryz.ntmps164;go_wp2_with fail;refine HI'.out.mono ?_;rintro e w1 ⟨rfl,t1⟩;go_wp2;go_ret2;exact⟨by rw[HE.out];rfl,Touch.Lt t1 _⟩
  have h1':((o.size:Int) != (size:Int))=true:=by simpa using h1
  have HE:Hid (Gq s size=.inl 11):=by unfold Hid;rw[HW.out,if_pos (by omega)]
  clear h1 HW hl;go_enter Tryz.func164,Tryz.ntmps164;go_wp2_with fail;refine HI'.out.mono ?_;rintro e w1 ⟨rfl,t1⟩;go_wp2;go_ret2;exact⟨by rw[HE.out];rfl,Touch.Lt t1 _⟩
def Gt(b:ByteArray)(e:Eo):Sum Nat (List UInt8):=if e.method=0 then .inr b.data.toList else Gq b e.size
theorem Qgw(w:World)(b:ByteArray)(x:Ai)(hz:x.Af.size<=1099511627776)(hs:b.size<=2147483648)(ho:Ord w)(hb:1<w.heap.size): Calls Tryz.prog 111 #[.string b,.agg #[.string x.Af.name,.int .i64 (x.Af.method:Int),.int .u32 (x.Af.sum:Int),.int .i64 (x.Af.packed:Int),.int .i64 (x.Af.size:Int),.int .i64 (x.place:Int)]] w fun r w'=>r=.returned (bytesV (Gt b x.Af))/\Touch (fun _=>False) w w':=by
 have T0:=(Touch.refl (fun _=>False) w).alloc (Obj.cells #[.string x.Af.name,.int .i64 (x.Af.method:Int),.int .u32 (x.Af.sum:Int),.int .i64 (x.Af.packed:Int),.int .i64 (x.Af.size:Int),.int .i64 (x.place:Int)] 134);by_cases hm:(x.Af.method:Int)=0
 .have HG:Hid (bytesV (Gt b x.Af)=.tuple #[.string b,.int .i64 0]):=by unfold Hid Gt;rw[if_pos (by omega)];rfl
  have hm':((x.Af.method:Int)==0)=true:=by simpa using hm
  clear hm;go_enter Tryz.func111,Tryz.ntmps111;go_wp2_with fail;refine(qG _ b (by omega)).mono ?_;rintro e w1 ⟨rfl,t1⟩;go_wp2;go_ret2;exact⟨by rw[HG.out];rfl,T0.trans t1⟩
 have hm':((x.Af.method:Int)==0)=false:=by simpa using hm
 have HG:Hid (Gt b x.Af=Gq b x.Af.size):=by unfold Hid Gt;rw[if_neg (by omega)]
 have HO:=ho.keep T0 (fun h=>h);go_enter Tryz.func111,Tryz.ntmps111;go_wp2_with fail;refine(kT _ b x.Af.size hz hs HO (by simp<;>omega)).mono ?_;rintro e w1 ⟨rfl,t1⟩;cases hw:Gq b x.Af.size with
 |inl k=>
  unfold bytesV;go_wp2;go_ret2;exact⟨by rw[HG.out,hw];rfl,T0.trans t1⟩
 |inr l=>
  unfold bytesV;go_wp2;go_ret2;exact⟨by rw[HG.out,hw];rfl,T0.trans t1⟩
theorem fH(b:ByteArray)(e:Eo)(k:Nat)(h:Gt b e=.inl k):k=1\/k=11:=by
 unfold Gt at h;split at h;.cases h
 unfold Gq at h;split at h
 .cases h;split;.exact .inr rfl
  exact .inl rfl
 split at h;.cases h;exact .inr rfl
 split at h;.cases h;exact .inl rfl
 cases h
theorem Xh(w:World)(x:Ai):(w.alloc (Obj.cells #[.string x.Af.name,.int .i64 (x.Af.method:Int),.int .u32 (x.Af.sum:Int),.int .i64 (x.Af.packed:Int),.int .i64 (x.Af.size:Int),.int .i64 (x.place:Int)] 134)).cell? ⟨w.heap.size,0,none⟩=some (.string x.Af.name)/\(w.alloc (Obj.cells #[.string x.Af.name,.int .i64 (x.Af.method:Int),.int .u32 (x.Af.sum:Int),.int .i64 (x.Af.packed:Int),.int .i64 (x.Af.size:Int),.int .i64 (x.place:Int)] 134)).cell? ⟨w.heap.size,1,none⟩=some (.int .i64 (x.Af.method:Int))/\(w.alloc (Obj.cells #[.string x.Af.name,.int .i64 (x.Af.method:Int),.int .u32 (x.Af.sum:Int),.int .i64 (x.Af.packed:Int),.int .i64 (x.Af.size:Int),.int .i64 (x.place:Int)] 134)).cell? ⟨w.heap.size,2,none⟩=some (.int .u32 (x.Af.sum:Int))/\(w.alloc (Obj.cells #[.string x.Af.name,.int .i64 (x.Af.method:Int),.int .u32 (x.Af.sum:Int),.int .i64 (x.Af.packed:Int),.int .i64 (x.Af.size:Int),.int .i64 (x.place:Int)] 134)).cell? ⟨w.heap.size,3,none⟩=some (.int .i64 (x.Af.packed:Int))/\(w.alloc (Obj.cells #[.string x.Af.name,.int .i64 (x.Af.method:Int),.int .u32 (x.Af.sum:Int),.int .i64 (x.Af.packed:Int),.int .i64 (x.Af.size:Int),.int .i64 (x.place:Int)] 134)).cell? ⟨w.heap.size,4,none⟩=some (.int .i64 (x.Af.size:Int))/\(w.alloc (Obj.cells #[.string x.Af.name,.int .i64 (x.Af.method:Int),.int .u32 (x.Af.sum:Int),.int .i64 (x.Af.packed:Int),.int .i64 (x.Af.size:Int),.int .i64 (x.place:Int)] 134)).cell? ⟨w.heap.size,5,none⟩=some (.int .i64 (x.place:Int)):=by
 have hb:=heap_alloc_new w (Obj.cells #[.string x.Af.name,.int .i64 (x.Af.method:Int),.int .u32 (x.Af.sum:Int),.int .i64 (x.Af.packed:Int),.int .i64 (x.Af.size:Int),.int .i64 (x.place:Int)] 134);exact⟨by rw[Ac hb 0];rfl,by rw[Ac hb 1];rfl,by rw[Ac hb 2];rfl,by rw[Ac hb 3];rfl,by rw[Ac hb 4];rfl,by rw[Ac hb 5];rfl⟩
theorem Zr{w w':World}{b:Nat}{x:Ai}(ht:Touch (fun _=>False) w w')(h:w.cell? ⟨b,0,none⟩=some (.string x.Af.name)/\w.cell? ⟨b,1,none⟩=some (.int .i64 (x.Af.method:Int))/\w.cell? ⟨b,2,none⟩=some (.int .u32 (x.Af.sum:Int))/\w.cell? ⟨b,3,none⟩=some (.int .i64 (x.Af.packed:Int))/\w.cell? ⟨b,4,none⟩=some (.int .i64 (x.Af.size:Int))/\w.cell? ⟨b,5,none⟩=some (.int .i64 (x.place:Int))):w'.cell? ⟨b,0,none⟩=some (.string x.Af.name)/\w'.cell? ⟨b,1,none⟩=some (.int .i64 (x.Af.method:Int))/\w'.cell? ⟨b,2,none⟩=some (.int .u32 (x.Af.sum:Int))/\w'.cell? ⟨b,3,none⟩=some (.int .i64 (x.Af.packed:Int))/\w'.cell? ⟨b,4,none⟩=some (.int .i64 (x.Af.size:Int))/\w'.cell? ⟨b,5,none⟩=some (.int .i64 (x.place:Int)):=
 ⟨ht.at h.1 (fun e=>e),ht.at h.2.1 (fun e=>e),ht.at h.2.2.1 (fun e=>e),ht.at h.2.2.2.1 (fun e=>e),ht.at h.2.2.2.2.1 (fun e=>e),ht.at h.2.2.2.2.2 (fun e=>e)⟩
def Ff(s:ByteArray)(x:Ai):Sum Nat (List UInt8):=match Gt (s.extract x.place (x.place+x.Af.packed)) x.Af with
 |.inl k=>.inl k
 |.inr l=>if sumOf ⟨l.toArray⟩=x.Af.sum then .inr l else .inl 12
theorem Qfq(w:World)(s:ByteArray)(x:Ai)(hz:x.Af.size<=1099511627776)(hs:s.size<=2147483648)(hp:x.place+x.Af.packed<=s.size)(ho:Ord w)(hb:1<w.heap.size)(hg:∀l,Gt (s.extract x.place (x.place+x.Af.packed)) x.Af=.inr l->l.length<=1099511627776): Calls Tryz.prog 65 #[.string s,.agg #[.string x.Af.name,.int .i64 (x.Af.method:Int),.int .u32 (x.Af.sum:Int),.int .i64 (x.Af.packed:Int),.int .i64 (x.Af.size:Int),.int .i64 (x.place:Int)]] w fun r w'=>r=.returned (bytesV (Ff s x))/\Touch (fun _=>False) w w':=by
 have T0:=(Touch.refl (fun _=>False) w).alloc (Obj.cells #[.string x.Af.name,.int .i64 (x.Af.method:Int),.int .u32 (x.Af.sum:Int),.int .i64 (x.Af.packed:Int),.int .i64 (x.Af.size:Int),.int .i64 (x.place:Int)] 134);have HO:=ho.keep T0 (fun h=>h);have hz2:(s.extract x.place (x.place+x.Af.packed)).size<=2147483648:=by rw[ByteArray.size_extract];omega
 have y1:(x.place:Int)+(x.Af.packed:Int)<=(s.size:Int):=by omega
 have y2:(x.place:Int)<=(x.place:Int)+(x.Af.packed:Int):=by omega
 have y3:(0:Int)<=(x.place:Int):=by omega
 have y4:IntKind.i64.wrap ((x.place:Int)+(x.Af.packed:Int))=(x.place:Int)+(x.Af.packed:Int):=by simp[IntKind.wrap,IntKind.bits,IntKind.signed];omega
 have y5:(0:Int)<=(x.place:Int)+(x.Af.packed:Int):=by omega
 have HGC:Hid (∀W,Ord W->1<W.heap.size->Calls Tryz.prog 111 #[.string (s.extract x.place (x.place+x.Af.packed)),.agg #[.string x.Af.name,.int .i64 (x.Af.method:Int),.int .u32 (x.Af.sum:Int),.int .i64 (x.Af.packed:Int),.int .i64 (x.Af.size:Int),.int .i64 (x.place:Int)]] W fun r w'=>r=.returned (bytesV (Gt (s.extract x.place (x.place+x.Af.packed)) x.Af))/\Touch (fun _=>False) W w'):=fun W h1 h2=>Qgw W _ x hz hz2 h1 h2;have HOD:Hid (Ord (w.alloc (Obj.cells #[.string x.Af.name,.int .i64 (x.Af.method:Int),.int .u32 (x.Af.sum:Int),.int .i64 (x.Af.packed:Int),.int .i64 (x.Af.size:Int),.int .i64 (x.place:Int)] 134)).drew):=HO;have HD:Hid (Ff s x=match Gt (s.extract x.place (x.place+x.Af.packed)) x.Af with|.inl k=>.inl k|.inr l=>if sumOf ⟨l.toArray⟩=x.Af.sum then .inr l else .inl 12):=rfl;cases hgv:Gt (s.extract x.place (x.place+x.Af.packed)) x.Af with
 |inl k=>
  have hk:=fH _ _ _ hgv;rw[hgv]at HGC HD;unfold bytesV at HGC;simp only at HGC;have k0:((k:Int) != 0)=true:=by simp;omega
  have HE:Hid (bytesV (Ff s x)=.tuple #[.string ⟨#[]⟩,.int .i64 (k:Int)]):=by unfold Hid;rw[HD.out];rfl
  clear hgv hk hg HO HD;go_enter Tryz.func65,Tryz.ntmps65;go_wp2;go_region_held3 (fun X=>X.cell? ⟨w.heap.size,0,none⟩=some (.string x.Af.name)/\X.cell? ⟨w.heap.size,1,none⟩=some (.int .i64 (x.Af.method:Int))/\X.cell? ⟨w.heap.size,2,none⟩=some (.int .u32 (x.Af.sum:Int))/\X.cell? ⟨w.heap.size,3,none⟩=some (.int .i64 (x.Af.packed:Int))/\X.cell? ⟨w.heap.size,4,none⟩=some (.int .i64 (x.Af.size:Int))/\X.cell? ⟨w.heap.size,5,none⟩=some (.int .i64 (x.place:Int))) (first|exact Xh w x|exact Zr t2 (Xh w x)|assumption|go_keep) (first|(go_at_call 111;refine(HGC.out _ HOD.out (by simp<;>omega)).mono ?_;rintro e w2 ⟨rfl,t2⟩));all_goals
   go_wp2;go_ret2;refine⟨by rw[HE.out];rfl,?_⟩;exact T0.drew.trans t2
 |inr l=>
  have hlen:=hg l hgv;rw[hgv]at HGC HD;unfold bytesV at HGC;simp only at HGC;clear hgv hg HO;go_enter Tryz.func65,Tryz.ntmps65;go_wp2;go_region_held3 (fun X=>X.cell? ⟨w.heap.size,0,none⟩=some (.string x.Af.name)/\X.cell? ⟨w.heap.size,1,none⟩=some (.int .i64 (x.Af.method:Int))/\X.cell? ⟨w.heap.size,2,none⟩=some (.int .u32 (x.Af.sum:Int))/\X.cell? ⟨w.heap.size,3,none⟩=some (.int .i64 (x.Af.packed:Int))/\X.cell? ⟨w.heap.size,4,none⟩=some (.int .i64 (x.Af.size:Int))/\X.cell? ⟨w.heap.size,5,none⟩=some (.int .i64 (x.place:Int))) (first|exact Xh w x|exact Zr t2 (Xh w x)|assumption|go_keep) (first|(go_at_call 111;refine(HGC.out _ HOD.out (by simp<;>omega)).mono ?_;rintro e w2 ⟨rfl,t2⟩));have T2:Touch (fun _=>False) w w2:=T0.drew.trans t2;have S2:=Zr t2 (Xh w x);have c2:=S2.2.2.1;have hln:(⟨l.toArray⟩:ByteArray).size<=maxLen:=by unfold maxLen;show l.toArray.size<=_;simp;omega
  obtain⟨D,hD⟩:∃D:ByteArray,D=⟨l.toArray⟩:=⟨_,rfl⟩;have HSM:Hid (∀W,Calls Tryz.prog 24 #[.string D] W fun e w'=>e=.returned (.int .u32 (sumOf D:Nat))/\Touch (fun _=>False) W w'):=fun W=>(Qh6 W D (by rw[hD];exact hln)).mono fun _ _ h=>⟨h.1,Touch.Lt h.2 _⟩;have HV:Hid (bytesV (.inr l)=.tuple #[.string D,.int .i64 0]):=by rw[hD];rfl
  have HD':Hid (Ff s x=if sumOf D=x.Af.sum then .inr l else .inl 12):=by unfold Hid;rw[HD.out,hD]
  rw[<-hD];clear hD HD HGC HOD hln hlen S2 t2 T0;revert HSM HD';generalize sumOf D=sm;intro HSM HD';by_cases hq:(sm:Int)=(x.Af.sum:Int)
  .have hq':((sm:Int) != (x.Af.sum:Int))=false:=by simpa using hq
   have HE:Hid (bytesV (Ff s x)=.tuple #[.string D,.int .i64 0]):=by unfold Hid;rw[HD'.out,if_pos (by omega)];exact HV.out
   clear hq HD';go_wp2;go_region_held3 (fun X=>X.cell? ⟨w.heap.size,2,none⟩=some (.int .u32 (x.Af.sum:Int))) (first|exact c2|exact d3|assumption|go_keep) (first|(go_at_call 24;refine(HSM.out _).mono ?_;rintro e w3 ⟨rfl,t3⟩;have d3:=t3.at (w:=w2.drew) c2 (fun e=>e)));all_goals
    go_wp2;go_ret2;exact⟨by rw[HE.out];rfl,T2.drew.trans t3⟩
  have hq':((sm:Int) != (x.Af.sum:Int))=true:=by simpa using hq
  have HE:Hid (bytesV (Ff s x)=.tuple #[.string ⟨#[]⟩,.int .i64 12]):=by unfold Hid;rw[HD'.out,if_neg (by omega)];rfl
  clear hq HD';go_wp2;go_region_held3 (fun X=>X.cell? ⟨w.heap.size,2,none⟩=some (.int .u32 (x.Af.sum:Int))) (first|exact c2|exact d3|assumption|go_keep) (first|(go_at_call 24;refine(HSM.out _).mono ?_;rintro e w3 ⟨rfl,t3⟩;have d3:=t3.at (w:=w2.drew) c2 (fun e=>e)));all_goals
   go_wp2;go_ret2;exact⟨by rw[HE.out];rfl,T2.drew.trans t3⟩
theorem Tryz.Vp:(Tryz.prog.info? 41).map (fun i=>(i.zero,i.size,i.bytes))=some (some (.agg #[.string ⟨#[]⟩,.string ⟨#[]⟩]),2,32):=by kernel_rfl
structure Nh (w:World) (g:Nat) (L:List Ai):Prop where
 cells:∀i (h:i<L.length) j,j<6->w.cell? ⟨g,i*6+j,none⟩=(Zf L[i])[j]?
 lt:g<w.heap.size
theorem Nh.keep{S:Nat->Prop}{w w':World}{g:Nat}{L:List Ai}(h:Nh w g L)(ht:Touch S w w')(hs:¬S g):Nh w' g L:=by
 refine⟨fun i hi j hj=>?_,Nat.lt_of_lt_of_le h.lt ht.size⟩;have h1:=h.cells i hi j hj;have h2:(Zf L[i])[j]?=some ((Zf L[i])[j]'(by simpa [Zf]using hj)):=List.getElem?_eq_getElem _;rw[h2]at h1 ⊢;exact ht.at h1 hs
theorem Qe9(l:List Ai):∀i (h:i<l.length) j,j<6->(kV l)[i*6+j]?=(Zf l[i])[j]?:=by
 induction l with
 |nil=>intro i h;simp at h
 |cons a l ih=>
  intro i h j hj;have e:kV (a::l)=Zf a++kV l:=rfl;have hl:(Zf a).length=6:=rfl;cases i with
  |zero=>
   rw[e,Nat.zero_mul,Nat.zero_add,List.getElem?_append_left (by omega)];rfl
  |succ i=>
   rw[e,show(i+1)*6+j=6+(i*6+j) by omega,List.getElem?_append_right (by omega),hl,Nat.add_sub_cancel_left];exact ih i (by simpa using h) j hj
theorem Nh.owned{w:World}{base g cap:Nat}{L:List Ai}(h:w.ownsRow base 134 6 (.slice (some ⟨g,0,none⟩) L.length cap) L.length (kV L)):Nh w g L:=by
 obtain⟨h1,⟨h2,_⟩|⟨g',cap',cur,e,hb,hg,h3,h4,h5,h6⟩⟩:=h;.cases h2
 cases e;refine⟨fun i hi j hj=>?_,(Array.getElem?_eq_some_iff.1 hg).1⟩;have hlt:i*6+j<L.length*6:=by omega
 rw[<-Qe9 L i hi j hj,<-h6,List.getElem?_take_of_lt hlt];unfold World.cell?;rw[hg];simp
def Wn(f:ByteArray×List UInt8):List Value:=[.string f.1,.string ⟨f.2.toArray⟩]
def Ar(l:List (ByteArray×List UInt8)):List Value:=l.flatMap Wn
theorem Yi(l:List (ByteArray×List UInt8))(x:ByteArray×List UInt8):Ar (l++[x])=Ar l++Wn x:=by simp[Ar]
def Dp(s:ByteArray):List Ai->List (ByteArray×List UInt8)->Sum Nat (List (ByteArray×List UInt8))
 | [],acc=>.inr acc
 |x::l,acc=>if Aj x.Af.name then Dp s l acc else match Ff s x with
  |.inl k=>.inl k
  |.inr d=>Dp s l (acc++[(x.Af.name,d)])
theorem dN(s:ByteArray)(x:Ai)(k:Nat)(h:Ff s x=.inl k):k=1\/k=11\/k=12:=by
 unfold Ff at h;split at h
 .rename_i he;cases h;rcases fH _ _ _ he with h|h;.exact .inl h
  exact .inr (.inl h)
 split at h;.cases h
 cases h;exact .inr (.inr rfl)
structure Yk (s:ByteArray) (x:Ai):Prop where
 size:x.Af.size<=1099511627776
 inside:x.place+x.Af.packed<=s.size
 name:x.Af.name.size<=60
theorem vV(s:ByteArray)(x:Ai)(h:Yk s x)(hs:s.size<=2147483648):∀l,Gt (s.extract x.place (x.place+x.Af.packed)) x.Af=.inr l->l.length<=1099511627776:=by
 intro l hl;unfold Gt at hl;split at hl
 .cases hl;rw[<-Lib.size_eq,ByteArray.size_extract];omega
 unfold Gq at hl;split at hl;.cases hl
 split at hl;.cases hl
 split at hl;.cases hl
 rename_i h1 _;cases hl;have:=h.size;simp at h1;omega
def nT(base:Nat)(R:Sum Nat (List (ByteArray×List UInt8)))(r:Ending)(w':World):Prop:=match R with
 |.inl k=>r=.returned (.tuple #[.slice none 0 0,.int .i64 (k:Int)])
 |.inr fs=>∃v,r=.returned (.tuple #[v,.int .i64 0])/\w'.ownsRow base 41 2 v fs.length (Ar fs)
theorem Qb2(w:World)(s:ByteArray)(a:Option Addr)(g cap:Nat)(L:List Ai)(ha:0<L.length->a=some ⟨g,0,none⟩)(hl:0<L.length->Nh w g L)(hn:L.length<=1000000000)(hok:∀x∈L,Yk s x)(hs:s.size<=2147483648)(ho:Ord w)(hb:1<w.heap.size): Calls Tryz.prog 30 #[.string s,.slice a L.length cap] w fun r w'=>Touch (fun _=>False) w w'/\nT w.heap.size (Dp s L []) r w':=by
 obtain⟨i0,hi,hz0,hz1,hz2⟩:=info_parts Tryz.Vp;obtain⟨n,hN⟩:∃n,n=L.length:=⟨_,rfl⟩;rw[<-hN];have ha':Hid (0<L.length->a=some ⟨g,0,none⟩):=ha;have hl':Hid (0<L.length->Nh w g L):=hl;have hN':Hid (n=L.length):=hN;have hn':n<=1000000000:=by omega
 obtain⟨R,hR⟩:∃R,R=Dp s L []:=⟨_,rfl⟩;have HR:Hid (R=Dp s (L.drop 0) []):=hR;rw[<-hR];clear ha hl hN hn hR;go_enter Tryz.func30,Tryz.ntmps30;go_wp2;go_loopw [6,13] (fun v i wr=>∃(k:Nat) (acc:List (ByteArray×List UInt8)),k<=n/\acc.length<=k/\i=.int .i64 (k:Int)/\wr.ownsRow w.heap.size 41 2 v acc.length (Ar acc)/\Hid (R=Dp s (L.drop k) acc)/\Touch (fun _=>False) w wr) (fun v i wr=>n-(intOf i).toNat)
 case atStart=>exact⟨0,[],Nat.zero_le _,Nat.zero_le _,rfl,World.ownsRow_nil _ _ _ _,HR,Touch.refl _ _⟩
 case round=>
  obtain⟨k,acc,hk,hacc,rfl,hro,HK,ht⟩:=hrel;have hsz:=ht.size;by_cases hlt:k<n
  .have hlt':k<L.length:=by have:=hN'.out;omega
   obtain rfl:=ha'.out (by omega);have hE:=(hl'.out (by omega)).keep ht (fun e=>e);have hC:=hE.cells k hlt';have HX:Hid (R=if Aj L[k].Af.name then Dp s (L.drop (k+1)) acc else match Ff s L[k]with|.inl k=>.inl k|.inr d=>Dp s (L.drop (k+1)) (acc++[(L[k].Af.name,d)])):=by
    unfold Hid;rw[HK.out,List.drop_eq_getElem_cons hlt'];rfl
   have hfo:=hok L[k] (List.getElem_mem hlt');revert hC HX hfo;generalize L[k]=x;intro hC HX hfo;have c0:=hC 0 (by omega);have c1:=hC 1 (by omega);have c2:=hC 2 (by omega);have c3:=hC 3 (by omega);have c4:=hC 4 (by omega);have c5:=hC 5 (by omega);simp only[Zf,List.getElem?_cons_zero,List.getElem?_cons_succ,Nat.add_zero]at c0 c1 c2 c3 c4 c5;have hwr:=(Touch.refl (fun _=>False) wr).alloc (Obj.cells #[.string x.Af.name,.int .i64 (x.Af.method:Int),.int .u32 (x.Af.sum:Int),.int .i64 (x.Af.packed:Int),.int .i64 (x.Af.size:Int),.int .i64 (x.place:Int)] 134);have HO:Hid (Ord (wr.alloc (Obj.cells #[.string x.Af.name,.int .i64 (x.Af.method:Int),.int .u32 (x.Af.sum:Int),.int .i64 (x.Af.packed:Int),.int .i64 (x.Af.size:Int),.int .i64 (x.place:Int)] 134))):=(ho.keep ht (fun e=>e)).keep hwr (fun e=>e);have HNm:Hid (x.Af.name.size<=140737488355328):=by have:=hfo.name;unfold Hid;omega
   clear hC hlt' hE;go_wp2_with fail;refine(Us _ x.Af.name HNm.out).mono ?_;rintro e w' ⟨rfl,rfl⟩;cases hf:Aj x.Af.name with
   |true=>
    rw[hf]at HX;have HX':Hid (R=Dp s (L.drop (k+1)) acc):=HX;clear HX HK;go_wp2;exact⟨⟨k+1,acc,by omega,by omega,by go_num,hro.alloc _,HX',ht.alloc _⟩,by simp[intOf];omega⟩
   |false=>
    rw[hf]at HX;have HX':Hid (R=match Ff s x with|.inl k=>.inl k|.inr d=>Dp s (L.drop (k+1)) (acc++[(x.Af.name,d)])):=HX;clear HX HK;have hc:=Qfq _ s x hfo.size hs hfo.inside HO.out (by simp<;>(have hsz9:=ht.size;omega)) (vV s x hfo hs);cases hd:Ff s x with
    |inl q=>
     rw[hd]at HX' hc;simp only[bytesV]at hc;have HC:Hid (Calls Tryz.prog 65 #[.string s,.agg #[.string x.Af.name,.int .i64 (x.Af.method:Int),.int .u32 (x.Af.sum:Int),.int .i64 (x.Af.packed:Int),.int .i64 (x.Af.size:Int),.int .i64 (x.place:Int)]] (wr.alloc (Obj.cells #[.string x.Af.name,.int .i64 (x.Af.method:Int),.int .u32 (x.Af.sum:Int),.int .i64 (x.Af.packed:Int),.int .i64 (x.Af.size:Int),.int .i64 (x.place:Int)] 134)) fun r w'=>r=.returned (.tuple #[.string ⟨#[]⟩,.int .i64 (q:Int)])/\Touch (fun _=>False) (wr.alloc (Obj.cells #[.string x.Af.name,.int .i64 (x.Af.method:Int),.int .u32 (x.Af.sum:Int),.int .i64 (x.Af.packed:Int),.int .i64 (x.Af.size:Int),.int .i64 (x.place:Int)] 134)) w'):=hc;have hq:=dN s x q hd;have q0:((q:Int) != 0)=true:=(by simp;omega);have HX2:Hid (R=.inl q):=HX';clear hc HX' hd;go_wp2_with fail;refine HC.out.mono ?_;rintro e w1 ⟨rfl,t1⟩;have T1:=(ht.alloc _).trans t1;clear t1 c0 c1 c2 c3 c4 c5 hwr;go_wp2;go_ret2;refine⟨T1,?_⟩;rw[HX2.out];rfl
    |inr d=>
     rw[hd]at HX' hc;simp only[bytesV]at hc;have HX2:Hid (R=Dp s (L.drop (k+1)) (acc++[(x.Af.name,d)])):=HX';obtain⟨D,hD⟩:∃D:ByteArray,D=⟨d.toArray⟩:=⟨_,rfl⟩;rw[<-hD]at hc;have HC:Hid (Calls Tryz.prog 65 #[.string s,.agg #[.string x.Af.name,.int .i64 (x.Af.method:Int),.int .u32 (x.Af.sum:Int),.int .i64 (x.Af.packed:Int),.int .i64 (x.Af.size:Int),.int .i64 (x.place:Int)]] (wr.alloc (Obj.cells #[.string x.Af.name,.int .i64 (x.Af.method:Int),.int .u32 (x.Af.sum:Int),.int .i64 (x.Af.packed:Int),.int .i64 (x.Af.size:Int),.int .i64 (x.place:Int)] 134)) fun r w'=>r=.returned (.tuple #[.string D,.int .i64 0])/\Touch (fun _=>False) (wr.alloc (Obj.cells #[.string x.Af.name,.int .i64 (x.Af.method:Int),.int .u32 (x.Af.sum:Int),.int .i64 (x.Af.packed:Int),.int .i64 (x.Af.size:Int),.int .i64 (x.place:Int)] 134)) w'):=hc;have HFL:Hid ([Value.string x.Af.name,Value.string D]=Wn (x.Af.name,d)):=(by rw[hD];rfl);have b1:acc.length+1<=maxLen:=(by unfold maxLen;omega);have b2:(acc.length+1)*32<=140737488355328:=(by omega);clear hD hc HX' hd;go_wp2_with fail;refine HC.out.mono ?_;rintro e w1 ⟨rfl,t1⟩;have T1:=(ht.alloc _).trans t1;have ho1:=t1.owns (hro.alloc _) (fun k _ h=>h);have g0:=(Zr t1 (Xh wr x)).1;have hsz1:w.heap.size<=w1.heap.size:=T1.size;clear t1 c0 c1 c2 c3 c4 c5 hwr;go_wp2_with (at_builtin;refine wpList_append_own _ rfl _ _ 30 rfl w.heap.size 41 i0 (.agg #[.string ⟨#[]⟩,.string ⟨#[]⟩]) 2 32 Tryz.underlying30 hi hz0 hz1 hz2 rfl (by decide) _ _ _ rfl (ho1.alloc _) ⟨w1.heap.size,0,none⟩ 1 1 [.string x.Af.name,.string D] rfl rfl (cell_two_new _ _ _ _) (by simp[Value.oneCell']) b1 b2 (by simp;omega) ?_;intro v' w2 hown' hgrow hnil);refine⟨⟨k+1,acc++[(x.Af.name,d)],by omega,by simp;omega,by go_num,?_,HX2,?_⟩,by simp[intOf];omega⟩;.rw[Yi,<-HFL.out,List.length_append];exact hown'
     exact(T1.alloc _).Fa hgrow (fun j hj=>(hro.lt j hj).1)
  obtain rfl:k=n:=by omega
  have HE:Hid (R=.inr acc):=by unfold Hid;rw[HK.out,List.drop_of_length_le (by have:=hN'.out;omega)];rfl
  go_wp2;go_ret2;refine⟨ht,?_⟩;rw[HE.out];exact⟨_,rfl,hro⟩
open Go.Maps
def Np(w:World)(B n:Nat)(K:List (List UInt8)):Prop:=
 ∃D:DataW Unit,w.ownsMap Tryz.prog 9 (unitElem (H:=Unit)) B n D/\∀key,Maps.has D (.string key)=K.contains key
theorem Qer(w:World):(zeroValue 78).run Tryz.prog w=.ok (.agg #[]) w:=by kernel_rfl
theorem Np.look{w:World}{B n:Nat}{K:List (List UInt8)}(h:Np w B n K)(s:ByteArray)(hs:s.size<=maxLen): (Instr.lookup 149 (.map (some B)) (.string s) true).run Tryz.prog w=.ok (.tuple #[.agg #[],.bool (K.contains s.data.toList)]) w:=by
 obtain⟨D,ho,hU⟩:=h;obtain⟨v,ps,hrun,hv⟩:=ho.look_ok (string_keyed Tryz.underlying9) Tryz.underlying149 (Qer w) unitElem_mk (Go.WideMaps.keyOf_string_mk Tryz.underlying9 hs);obtain⟨rfl,_⟩:=unitElem_inv hv;rw[hU]at hrun;exact hrun
theorem Np.put{w:World}{B n:Nat}{K:List (List UInt8)}(h:Np w B n K)(s:ByteArray)(hs:s.size<=maxLen)(hn:n<maxLen): ∃w',(Instr.mapUpdate 149 (.map (some B)) (.string s) (.agg #[])).run Tryz.prog w=.ok () w'/\Np w' B (n+1) (K++[s.data.toList])/\w.grownBy w' (some B):=by
 obtain⟨D,ho,hU⟩:=h;have hkey:=Go.WideMaps.keyOf_string_mk Tryz.underlying9 hs;obtain⟨w',hrun,ho',hg⟩:=ho.update (string_keyed Tryz.underlying9) Tryz.underlying149 hn hkey unitElem_mk;refine⟨w',hrun,⟨_,ho',fun key=>?_⟩,hg⟩;by_cases e:key=s.data.toList;.rw[e,has_put_same ho.isMap ((string_keyed Tryz.underlying9).key hkey)];simp
 rw[has_put_other (by intro h;cases h;exact e rfl),hU key];simp[e]
theorem Np.keep{w w':World}{S:Nat->Prop}{B n:Nat}{K:List (List UInt8)}(h:Np w B n K)(ht:Touch S w w')(hs:¬S B):Np w' B n K:=by
 obtain⟨D,ho,hU⟩:=h;refine⟨D,?_,hU⟩;have hl:=ho.lt;obtain⟨es,clock,h1,h2⟩:=ho;exact⟨es,clock,(ht.block B hl hs).trans h1,h2⟩
theorem Np.mono{w:World}{B n m:Nat}{K:List (List UInt8)}(h:Np w B n K)(hm:n<=m):Np w B m K:=by
 obtain⟨D,ho,hU⟩:=h;exact⟨D,ho.mono hm,hU⟩
theorem Np.new(w:World):Np (w.alloc (.map #[] 0)) w.heap.size 0 []:=⟨_,World.ownsMap_made w _ _ _,fun _=>rfl⟩
theorem Np.lt{w:World}{B n:Nat}{K:List (List UInt8)}(h:Np w B n K):B<w.heap.size:=by obtain⟨D,ho,_⟩:=h;exact ho.lt
def Jy(nm:List UInt8):Nat->Nat->List (List UInt8)->List (List UInt8)
 |0,_,acc=>acc
 |f+1,i,acc=>Jy nm f (i+1) (if nm[i]?=some 47/\acc.contains (nm.take (i+1))=false then acc++[nm.take (i+1)]else acc)
def Ep:List Ai->List (List UInt8)->List (List UInt8)
 | [],acc=>acc
 |x::l,acc=>Ep l (Jy x.Af.name.data.toList x.Af.name.size 0 acc)
def Ez(p:List UInt8):ByteArray×List UInt8:=(⟨p.toArray⟩,[])
theorem uD(w:World)(a:Option Addr)(g cap:Nat)(L:List Ai)(ha:0<L.length->a=some ⟨g,0,none⟩)(hl:0<L.length->Nh w g L)(hn:L.length<=1000000000)(hok:∀x∈L,x.Af.name.size<=60): Calls Tryz.prog 31 #[.slice a L.length cap] w fun r w'=>∃v,r=.returned v/\w'.ownsRow (w.heap.size+1) 41 2 v (Ep L []).length (Ar ((Ep L []).map Ez))/\(Ep L []).length<=60*L.length/\Touch (fun _=>False) w w':=by
 obtain⟨i0,hi,hz0,hz1,hz2⟩:=info_parts Tryz.Vp;obtain⟨n,hN⟩:∃n,n=L.length:=⟨_,rfl⟩;rw[<-hN];have ha':Hid (0<L.length->a=some ⟨g,0,none⟩):=ha;have hl':Hid (0<L.length->Nh w g L):=hl;have hN':Hid (n=L.length):=hN;have hn':n<=1000000000:=by omega
 obtain⟨R,hR⟩:∃R,R=Ep L []:=⟨_,rfl⟩;have HR:Hid (R=Ep (L.drop 0) []):=hR;rw[<-hR];have hmm:=@run_makeMap Tryz.prog;have T0:Touch (fun _=>False) w (w.alloc (.map #[] 0)):=(Touch.refl _ w).alloc _;have M0:=Np.new w;clear ha hl hN hn hR;go_enter Tryz.func31,Tryz.ntmps31;go_wp2;go_loopw [3,14] (fun v i wr=>∃(k:Nat) (acc:List (List UInt8)),k<=n/\acc.length<=60*k/\i=.int .i64 (k:Int)/\Np wr w.heap.size (60*k) acc/\wr.ownsRow (w.heap.size+1) 41 2 v acc.length (Ar (acc.map Ez))/\Hid (R=Ep (L.drop k) acc)/\Touch (fun _=>False) w wr) (fun v i wr=>n-(intOf i).toNat)
 case atStart=>exact⟨0,[],Nat.zero_le _,Nat.zero_le _,rfl,M0,World.ownsRow_nil _ _ _ _,HR,T0⟩
 case round=>
  obtain⟨k,acc,hk,hacc,rfl,hset,hro,HK,ht⟩:=hrel;have hsB:=hset.lt;by_cases hlt:k<n
  .have hlt':k<L.length:=by have:=hN'.out;omega
   obtain rfl:=ha'.out (by omega);have hE:=(hl'.out (by omega)).keep ht (fun e=>e);have hC:=hE.cells k hlt';have HX:Hid (R=Ep (L.drop (k+1)) (Jy L[k].Af.name.data.toList L[k].Af.name.size 0 acc)):=by
    unfold Hid;rw[HK.out,List.drop_eq_getElem_cons hlt'];rfl
   have hns:=hok L[k] (List.getElem_mem hlt');revert hC HX hns;generalize L[k]=x;intro hC HX hns;have c0:=hC 0 (by omega);have c1:=hC 1 (by omega);have c2:=hC 2 (by omega);have c3:=hC 3 (by omega);have c4:=hC 4 (by omega);have c5:=hC 5 (by omega);simp only[Zf,List.getElem?_cons_zero,List.getElem?_cons_succ,Nat.add_zero]at c0 c1 c2 c3 c4 c5;have bx:=heap_alloc_new wr (Obj.cells #[.string x.Af.name,.int .i64 (x.Af.method:Int),.int .u32 (x.Af.sum:Int),.int .i64 (x.Af.packed:Int),.int .i64 (x.Af.size:Int),.int .i64 (x.place:Int)] 134);have hset1:=hset.keep ((Touch.refl (fun _=>False) wr).alloc (Obj.cells #[.string x.Af.name,.int .i64 (x.Af.method:Int),.int .u32 (x.Af.sum:Int),.int .i64 (x.Af.packed:Int),.int .i64 (x.Af.size:Int),.int .i64 (x.place:Int)] 134)) (fun e=>e);have hro1:=hro.alloc (Obj.cells #[.string x.Af.name,.int .i64 (x.Af.method:Int),.int .u32 (x.Af.sum:Int),.int .i64 (x.Af.packed:Int),.int .i64 (x.Af.size:Int),.int .i64 (x.place:Int)] 134);have ht1:=ht.alloc (Obj.cells #[.string x.Af.name,.int .i64 (x.Af.method:Int),.int .u32 (x.Af.sum:Int),.int .i64 (x.Af.packed:Int),.int .i64 (x.Af.size:Int),.int .i64 (x.place:Int)] 134);obtain⟨nl,hnl⟩:∃nl,nl=x.Af.name.data.toList:=⟨_,rfl⟩;have HT:Hid (∀i,(x.Af.name.extract 0 i).data.toList=nl.take i):=by intro i;rw[hnl];simp[ByteArray.data_extract]
   have HG:Hid (∀i (h:i<x.Af.name.size),nl[i]?=some x.Af.name[i]):=by intro i h;rw[hnl];simp[h];rfl
   rw[<-hnl]at HX;have hEB:w.heap.size<wr.heap.size:=hsB;clear hC hlt' hE hnl HK;go_wp2;go_loopw [3,21] (fun v i wi=>∃(j:Nat) (ac:List (List UInt8)),j<=x.Af.name.size/\ac.length<=60*k+j/\i=.int .i64 (j:Int)/\Np wi w.heap.size (60*k+j) ac/\wi.ownsRow (w.heap.size+1) 41 2 v ac.length (Ar (ac.map Ez))/\wi.heap[wr.heap.size]?=some (Obj.cells #[.string x.Af.name,.int .i64 (x.Af.method:Int),.int .u32 (x.Af.sum:Int),.int .i64 (x.Af.packed:Int),.int .i64 (x.Af.size:Int),.int .i64 (x.place:Int)] 134)/\Hid (Jy nl x.Af.name.size 0 acc=Jy nl (x.Af.name.size-j) j ac)/\Touch (fun _=>False) w wi) (fun v i wi=>x.Af.name.size-(intOf i).toNat)
   case atStart=>exact⟨0,acc,Nat.zero_le _,hacc,rfl,hset1,hro1,bx,rfl,ht1⟩
   case round=>
    obtain⟨j,ac,hj,hac,rfl,hset2,hro2,bx2,HJ,ht2⟩:=hrel;have nc:=Ac bx2 0;have nc':wr.cell? ⟨_,0,none⟩=some (.string x.Af.name):=nc.trans rfl;have hEl:=(Array.getElem?_eq_some_iff.1 bx2).1;clear nc hset1 hro1 bx ht1 hset hro ht c0 c1 c2 c3 c4 c5 hsB;have hsB:=hset2.lt;by_cases hjl:j<x.Af.name.size
    .have hg:=HG.out j hjl;have HS:Hid (Jy nl x.Af.name.size 0 acc=Jy nl (x.Af.name.size-(j+1)) (j+1) (if nl[j]?=some 47/\ac.contains (nl.take (j+1))=false then ac++[nl.take (j+1)]else ac)):=by
      unfold Hid;rw[HJ.out,show x.Af.name.size-j=(x.Af.name.size-(j+1))+1 by omega];rfl
     by_cases h47:(x.Af.name[j].toNat:Int)=47
     .have hb:nl[j]?=some 47:=(by rw[hg];congr 1;apply UInt8.toNat_inj.1;simpa using(by omega:x.Af.name[j].toNat=47));have h47':((x.Af.name[j].toNat:Int) != 47)=false:=(by simpa using h47);have jl:(j:Int)+1<=(x.Af.name.size:Int):=(by omega);have q1:=hset2.look (x.Af.name.extract 0 (j+1)) (by rw[ByteArray.size_extract];unfold maxLen;omega);rw[HT.out (j+1)]at q1;cases hcn:ac.contains (nl.take (j+1))with
      |true=>
       rw[hcn]at q1 HS;rw[if_neg (by simp)]at HS;clear hg HJ;go_wp2;exact⟨⟨j+1,ac,by omega,by omega,by go_num,(hset2.mono (by omega)).keep ((Touch.refl (fun _=>False) wr).alloc _) (fun e=>e),hro2.alloc _,(Below.heap_alloc _ _ _ hEl).trans bx2,HS,ht2.alloc _⟩,by simp[intOf];omega⟩
      |false=>
       rw[hcn]at q1 HS;rw[if_pos ⟨hb,rfl⟩]at HS;have hset3:=hset2.keep ((Touch.refl (fun _=>False) wr).alloc (Obj.cells #[] 78)) (fun e=>e);obtain⟨w2,q2,hset4,hg2⟩:=hset3.put (x.Af.name.extract 0 (j+1)) (by rw[ByteArray.size_extract];unfold maxLen;omega) (by unfold maxLen;omega);rw[HT.out (j+1)]at hset4;have t2:=Ro hg2;have hro3:=t2.owns (hro2.alloc (Obj.cells #[] 78)) (fun q hq e=>by have h1:=(hro2.lt q hq).1;have h2:q=w.heap.size:=e;omega);have bx3:=(t2.block _ (by simp;omega) (by intro e;have h2:=(show _=w.heap.size from e);omega)).trans ((Below.heap_alloc _ (Obj.cells #[] 78) _ hEl).trans bx2);have T2:Touch (fun _=>False) w w2:=(ht2.alloc _).Hf t2 (Nat.le_refl _);have hEl2:=(Array.getElem?_eq_some_iff.1 bx3).1;have hsz2:w.heap.size+1<=w2.heap.size:=(by have:=hset4.lt;omega);have b1:ac.length+1<=maxLen:=(by unfold maxLen;omega);have b2:(ac.length+1)*32<=140737488355328:=(by omega);obtain⟨P,hP⟩:∃P,P=x.Af.name.extract 0 (j+1):=⟨_,rfl⟩;have HFL:Hid ([Value.string P,Value.string ⟨#[]⟩]=Wn (Ez (nl.take (j+1)))):=by
        unfold Hid;rw[hP];unfold Wn Ez;rw[<-HT.out (j+1)]
       have HPL:Hid (P=x.Af.name.extract 0 (j+1)):=hP;clear hg HJ hset3 hg2 t2 hP;go_wp2_with (at_builtin;refine wpList_append_own _ rfl _ _ 30 rfl (w.heap.size+1) 41 i0 (.agg #[.string ⟨#[]⟩,.string ⟨#[]⟩]) 2 32 Tryz.underlying30 hi hz0 hz1 hz2 rfl (by decide) _ _ _ rfl (hro3.alloc _) ⟨w2.heap.size,0,none⟩ 1 1 [.string (x.Af.name.extract 0 (j+1)),.string ⟨#[]⟩] rfl rfl (cell_two_new _ _ _ _) (by simp[Value.oneCell']) b1 b2 (by simp;omega) ?_;intro v' w3 hown' hgrow hnil);have hrowB:∀q,u3.ownBlock=some q->w.heap.size+1<=q:=fun q hq=>(hro2.lt q hq).1;have TB:Touch (fun q=>u3.ownBlock=some q) (w2.alloc (Obj.cells #[.string (x.Af.name.extract 0 (j+1)),.string ⟨#[]⟩] 41)) w3:=(Touch.refl _ _).grown hgrow (fun q hq=>hq);refine⟨⟨j+1,ac++[nl.take (j+1)],by omega,by simp;omega,by go_num,?_,?_,?_,HS,?_⟩,by simp[intOf];omega⟩
       .refine(hset4.keep ((Touch.refl (fun _=>False) w2).alloc _) (fun e=>e)).keep TB (fun e=>?_);have:=hrowB _ e;omega
       .rw[List.map_append,List.length_append];show w3.ownsRow _ _ _ v' _ (Ar (ac.map Ez++[Ez (nl.take (j+1))]));rw[Yi,<-HFL.out,HPL.out];exact hown'
       .refine(TB.block _ (by simp;omega) (fun e=>?_)).trans ((Below.heap_alloc _ _ _ hEl2).trans bx3);have h1:=Typed.owned (hro3.alloc (Obj.cells #[.string (x.Af.name.extract 0 (j+1)),.string ⟨#[]⟩] 41)) e;have h2:=h1.ne ⟨_,_,(Below.heap_alloc _ _ _ hEl2).trans bx3⟩;exact absurd h2 (by decide)
       exact(T2.alloc _).Fa hgrow (fun q hq=>by have:=hrowB q hq;omega)
     have hb:¬nl[j]?=some 47:=(by rw[hg];intro e;apply h47;rw[Option.some.inj e];rfl);have h47':((x.Af.name[j].toNat:Int) != 47)=true:=(by simpa using h47);rw[if_neg (by intro h;exact hb h.1)]at HS;clear hg HJ;go_wp2;exact⟨⟨j+1,ac,by omega,by omega,by go_num,hset2.mono (by omega),hro2,bx2,HS,ht2⟩,by simp[intOf];omega⟩
    obtain rfl:j=x.Af.name.size:=by omega
    have HE:Hid (R=Ep (L.drop (k+1)) ac):=(by unfold Hid;rw[HX.out,HJ.out,Nat.sub_self];rfl);go_wp2;exact⟨⟨k+1,ac,by omega,by omega,by go_num,hset2.mono (by omega),hro2,HE,ht2⟩,by simp[intOf];omega⟩
  obtain rfl:k=n:=by omega
  have HE:Hid (R=acc):=by unfold Hid;rw[HK.out,List.drop_of_length_le (by have:=hN'.out;omega)];rfl
  go_wp2;go_ret;exact⟨_,rfl,by rw[HE.out];exact hro,by rw[HE.out];exact hacc,ht⟩
open Go.Lib Go.Sort
def rk(c:UInt8):Nat:=if c=47 then 0 else c.toNat
def En:List UInt8->List UInt8->Int
 |a::l,b::m=>if a=b then En l m else Lib.compareInt (rk a:Int) (rk b:Int)
 | [],[]=>0
 | [],_::_=>-1
 |_::_,[]=>1
theorem Qid(w:World)(x:Int):Calls Tryz.prog 175 #[.int .u8 x] w fun e w'=>e=.returned (.bool false)/\w'=w:=by
 go_enter Tryz.func175,Tryz.ntmps175;go_wp2;go_ret;exact⟨by simp,rfl⟩
theorem Qi2(w:World)(x y:Int):Calls Tryz.prog 114 #[.int .u8 x,.int .u8 y] w fun e w'=>e=.returned (.int .i64 (Lib.compareInt x y))/\w'=w:=by
 have HN:Hid (∀W x,Calls Tryz.prog 175 #[.int .u8 x] W fun e w'=>e=.returned (.bool false)/\W=w'):=fun W x=>(Qid W x).mono fun _ _ h=>⟨h.1,h.2.symm⟩;unfold Lib.compareInt;by_cases h1:x<y
 .rw[if_pos h1];go_enter Tryz.func114,Tryz.ntmps114;go_wp2_with fail;refine(HN.out _ _).mono ?_;rintro e w' ⟨rfl,rfl⟩;go_wp2_with fail;refine(HN.out _ _).mono ?_;rintro e w' ⟨rfl,rfl⟩;go_wp2;go_ret;exact⟨rfl,rfl⟩
 rw[if_neg h1];by_cases h2:y<x
 .rw[if_pos h2];go_enter Tryz.func114,Tryz.ntmps114;go_wp2_with fail;refine(HN.out _ _).mono ?_;rintro e w' ⟨rfl,rfl⟩;go_wp2_with fail;refine(HN.out _ _).mono ?_;rintro e w' ⟨rfl,rfl⟩;go_wp2;go_ret;exact⟨rfl,rfl⟩
 rw[if_neg h2];go_enter Tryz.func114,Tryz.ntmps114;go_wp2_with fail;refine(HN.out _ _).mono ?_;rintro e w' ⟨rfl,rfl⟩;go_wp2_with fail;refine(HN.out _ _).mono ?_;rintro e w' ⟨rfl,rfl⟩;go_wp2;go_ret;exact⟨rfl,rfl⟩
theorem Qh9(w:World)(c:UInt8):Calls Tryz.prog 115 #[.int .u8 (c.toNat:Int)] w fun e w'=>e=.returned (.int .u8 (rk c:Int))/\w'=w:=by
 by_cases h:(c.toNat:Int)=47
 .have hc:c=47:=by apply UInt8.toNat_inj.1;simpa using(by omega:c.toNat=47)
  have HR:Hid ((rk c:Int)=0):=by unfold Hid rk;rw[if_pos hc];rfl
  have h':((c.toNat:Int)==47)=true:=by simpa using h
  clear h hc;go_enter Tryz.func115,Tryz.ntmps115;go_wp2;go_ret;exact⟨by rw[HR.out];rfl,rfl⟩
 have hc:¬c=47:=by intro e;apply h;rw[e];rfl
 have HR:Hid ((rk c:Int)=(c.toNat:Int)):=by unfold Hid rk;rw[if_neg hc]
 have h':((c.toNat:Int)==47)=false:=by simpa using h
 clear h hc;go_enter Tryz.func115,Tryz.ntmps115;go_wp2;go_ret;exact⟨by rw[HR.out];rfl,rfl⟩
theorem Qgy(a b k:Nat)(h1:k<=a)(h2:k<=b):Lib.compareInt ((a-k:Nat):Int) ((b-k:Nat):Int)=Lib.compareInt (a:Int) (b:Int):=by
 unfold Lib.compareInt;repeat' split
 all_goals omega
theorem Qfk:∀(l m:List UInt8),l=[]\/m=[]->En l m=Lib.compareInt (l.length:Int) (m.length:Int)
 | [],[],_=>by simp[En,Lib.compareInt]
 | [],b::m,_=>by simp only[En,Lib.compareInt,List.length_nil,List.length_cons];rw[if_pos (by omega)]
 |a::l,[],_=>by simp only[En,Lib.compareInt,List.length_nil,List.length_cons];rw[if_neg (by omega),if_pos (by omega)]
 |a::l,b::m,h=>by rcases h with h|h<;>cases h
theorem Qbg(A B:ByteArray)(i:Nat)(h1:i<A.size)(h2:i<B.size):En (A.data.toList.drop i) (B.data.toList.drop i)=if A[i]=B[i]then En (A.data.toList.drop (i+1)) (B.data.toList.drop (i+1))else Lib.compareInt (rk A[i]:Int) (rk B[i]:Int):=by
 rw[List.drop_eq_getElem_cons (by rw[<-Lib.size_eq];exact h1),List.drop_eq_getElem_cons (l:=B.data.toList) (by rw[<-Lib.size_eq];exact h2)];rfl
theorem kU(w:World)(A B:ByteArray)(hA:A.size<=140737488355328)(hB:B.size<=140737488355328): Calls Tryz.prog 68 #[.string A,.string B] w fun e w'=>e=.returned (.int .i64 (En A.data.toList B.data.toList))/\∃q,w'=w.drewN q:=by
 obtain⟨R,hR⟩:∃R,R=En A.data.toList B.data.toList:=⟨_,rfl⟩;rw[<-hR];have HR:Hid (R=En (A.data.toList.drop 0) (B.data.toList.drop 0)):=hR;have HCI:Hid (∀W (x y:Int),Calls Tryz.prog 94 #[.int .i64 x,.int .i64 y] W fun e w'=>e=.returned (.int .i64 (Lib.compareInt x y))/\W=w'):=fun W x y=>wO x y W;have HRK:Hid (∀W (c:UInt8),Calls Tryz.prog 115 #[.int .u8 (c.toNat:Int)] W fun e w'=>e=.returned (.int .u8 (rk c:Int))/\W=w'):=fun W c=>(Qh9 W c).mono fun _ _ h=>⟨h.1,h.2.symm⟩;have HCB:Hid (∀W (x y:Int),Calls Tryz.prog 114 #[.int .u8 x,.int .u8 y] W fun e w'=>e=.returned (.int .i64 (Lib.compareInt x y))/\W=w'):=fun W x y=>(Qi2 W x y).mono fun _ _ h=>⟨h.1,h.2.symm⟩;obtain⟨m,hm⟩:∃m:Nat,(m:Int)=min (A.size:Int) (B.size:Int):=⟨min A.size B.size,by omega⟩;have hm1:m<=A.size:=by omega
 have hm2:m<=B.size:=by omega
 have hmm:min (A.size:Int) (B.size:Int)=(m:Int):=hm.symm;have HM:Hid (m=min A.size B.size):=by unfold Hid;omega
 clear hR hm;go_enter Tryz.func68,Tryz.ntmps68;go_wp2;go_loopw [11] (fun i wr=>∃k:Nat,k<=m/\i=.int .i64 (k:Int)/\Hid (R=En (A.data.toList.drop k) (B.data.toList.drop k))/\∃q,wr=w.drewN q) (fun i wr=>m-(intOf i).toNat)
 case atStart=>exact⟨0,Nat.zero_le _,rfl,HR,0,rfl⟩
 case round=>
  obtain⟨k,hk,rfl,HK,q,rfl⟩:=hrel;by_cases hlt:k<m
  .have a1:k<A.size:=by omega
   have a2:k<B.size:=by omega
   have y1:(k:Int)<(A.size:Int):=by omega
   have y2:(k:Int)<(B.size:Int):=by omega
   have y0:(0:Int)<=(k:Int):=by omega
   have HS:Hid (R=if A[k]=B[k]then En (A.data.toList.drop (k+1)) (B.data.toList.drop (k+1))else Lib.compareInt (rk A[k]:Int) (rk B[k]:Int)):=by
    unfold Hid;rw[HK.out,Qbg A B k a1 a2]
   by_cases he:(A[k].toNat:Int)=(B[k].toNat:Int)
   .have he':((A[k].toNat:Int) != (B[k].toNat:Int))=false:=(by simpa using he);have HS':Hid (R=En (A.data.toList.drop (k+1)) (B.data.toList.drop (k+1))):=by
     unfold Hid;rw[HS.out,if_pos (UInt8.toNat_inj.1 (by omega))]
    clear he HS HK;go_wp2;go_quiet (fail);go_wp2;exact⟨⟨k+1,by omega,by go_num,HS',_,rfl⟩,by simp[intOf];omega⟩
   have he':((A[k].toNat:Int) != (B[k].toNat:Int))=true:=by simpa using he
   have HS':Hid (R=Lib.compareInt (rk A[k]:Int) (rk B[k]:Int)):=by
    unfold Hid;rw[HS.out,if_neg (by intro e;apply he;rw[e])]
   clear he HS HK;go_wp2;go_quiet (fail);go_wp2;go_region_held3 (fun _=>True) (trivial) (first|(go_at_call 115;refine(HRK.out _ _).mono ?_;rintro e w2 ⟨rfl,rfl⟩)|(go_at_call 114;refine(HCB.out _ _ _).mono ?_;rintro e w2 ⟨rfl,rfl⟩));all_goals
    go_wp2;go_ret;exact⟨by rw[HS'.out];rfl,_,rfl⟩
  obtain rfl:k=m:=by omega
  have HE:Hid (R=Lib.compareInt (A.size:Int) (B.size:Int)):=by
   unfold Hid;rw[HK.out,Qfk _ _ (by
    rcases(by have:=HM.out;omega:k=A.size\/k=B.size)with h|h;.left;rw[h,Lib.size_eq];simp
    right;rw[h,Lib.size_eq];simp)]
   rw[List.length_drop,List.length_drop,<-Lib.size_eq,<-Lib.size_eq];exact Qgy _ _ _ hm1 hm2
  have y1:¬(k:Int)<(k:Int):=by omega
  go_wp2_with fail;refine(HCI.out _ _ _).mono ?_;rintro e w' ⟨rfl,rfl⟩;go_wp2;go_ret;exact⟨by rw[HE.out];rfl,_,rfl⟩
theorem fZ(x y:Int):Lib.compareInt y x=- Lib.compareInt x y:=by
 unfold Lib.compareInt;repeat' split
 all_goals omega
theorem Hl(x y:Int):Lib.compareInt x y<0↔x<y:=by
 unfold Lib.compareInt;repeat' split
 all_goals omega
theorem gJ(x y:Int):Lib.compareInt x y=0↔x=y:=by
 unfold Lib.compareInt;repeat' split
 all_goals omega
def Jh(l:List UInt8):Prop:=∀c∈l,c≠0
theorem Qim{a b:UInt8}(ha:a≠0)(hb:b≠0)(h:rk a=rk b):a=b:=by
 have za:a.toNat≠0:=fun e=>ha (UInt8.toNat_inj.1 (by simpa using e));have zb:b.toNat≠0:=fun e=>hb (UInt8.toNat_inj.1 (by simpa using e));unfold rk at h;by_cases h1:a=47<;>by_cases h2:b=47<;>simp[h1,h2]at h ⊢;.exact absurd h.symm zb
 .exact absurd h za
 exact UInt8.toNat_inj.1 h
theorem Js:∀(l m:List UInt8),En m l=- En l m
 | [],[]=>rfl
 | [],_::_=>rfl
 |_::_,[]=>rfl
 |a::l,b::m=>by
  simp only[En];by_cases h:a=b;.rw[if_pos h,if_pos h.symm,Js l m]
  rw[if_neg h,if_neg (fun e=>h e.symm),fZ]
theorem dC:∀(l m:List UInt8),Jh l->Jh m->En l m=0->l=m
 | [],[],_,_,_=>rfl
 | [],_::_,_,_,h=>by simp[En]at h
 |_::_,[],_,_,h=>by simp[En]at h
 |a::l,b::m,hl,hm,h=>by
  simp only[En]at h;by_cases e:a=b
  .rw[if_pos e]at h;rw[e,dC l m (fun c hc=>hl c (List.mem_cons_of_mem _ hc)) (fun c hc=>hm c (List.mem_cons_of_mem _ hc)) h]
  rw[if_neg e,gJ]at h;exact absurd (Qim (hl a (List.mem_cons_self ..)) (hm b (List.mem_cons_self ..)) (by omega)) e
theorem Ut:∀(l m k:List UInt8),Jh l->Jh m->Jh k->En l m<0->En m k<0->En l k<0
 | [],[],_,_,_,_,h,_=>by simp[En]at h
 | [],_::_,[],_,_,_,_,h=>by simp[En]at h
 | [],_::_,_::_,_,_,_,_,_=>by simp[En]
 |_::_,[],_,_,_,_,h,_=>by simp[En]at h
 |_::_,_::_,[],_,_,_,_,h=>by simp[En]at h
 |a::l,b::m,c::k,hl,hm,hk,h1,h2=>by
  have ha:=hl a (List.mem_cons_self ..);have hb:=hm b (List.mem_cons_self ..);have hc:=hk c (List.mem_cons_self ..);simp only[En]at h1 h2 ⊢;by_cases e1:a=b
  .rw[if_pos e1]at h1;by_cases e2:b=c
   .rw[if_pos e2]at h2;rw[if_pos (e1.trans e2)];exact Ut l m k (fun c hc=>hl c (List.mem_cons_of_mem _ hc)) (fun c hc=>hm c (List.mem_cons_of_mem _ hc)) (fun c hc=>hk c (List.mem_cons_of_mem _ hc)) h1 h2
   rw[if_neg e2]at h2;rw[if_neg (fun e=>e2 (e1.symm.trans e)),e1];exact h2
  rw[if_neg e1,Hl]at h1;by_cases e2:b=c;.rw[if_neg (fun e=>e1 (e.trans e2.symm)),<-e2,Hl];exact h1
  rw[if_neg e2,Hl]at h2;have hne:a≠c:=fun e=>by rw[e]at h1;omega
  rw[if_neg hne,Hl];omega
abbrev fJ:={ f:ByteArray×List UInt8 // Jh f.1.data.toList/\f.1.size<=140737488355328 }
instance:Inhabited fJ:=⟨⟨(⟨#[]⟩,[]),(fun c hc=>by simp at hc),by decide⟩⟩
def Ye(f:fJ):List Value:=Wn f.1
def lF(x y:fJ):Int:=En x.1.1.data.toList y.1.1.data.toList
theorem swoF:SWO (ltOf lF) where
 irrefl x:=by
  unfold ltOf lF;have:=Js x.1.1.data.toList x.1.1.data.toList;simp;omega
 trans x y z h1 h2:=by
  unfold ltOf lF at *;simp at *;exact Ut _ _ _ x.2.1 y.2.1 z.2.1 h1 h2
 ntrans x y z h1 h2:=by
  unfold ltOf lF at *;simp at *;apply Classical.byContradiction;intro h3;have s1:=Js x.1.1.data.toList y.1.1.data.toList;have s2:=Js y.1.1.data.toList z.1.1.data.toList;have h4:En x.1.1.data.toList z.1.1.data.toList<0:=by omega
  by_cases h5:En y.1.1.data.toList x.1.1.data.toList<0;.have:=Ut _ _ _ y.2.1 x.2.1 z.2.1 h5 h4;omega
  have h6:=dC _ _ y.2.1 x.2.1 (by omega);rw[h6]at h2;omega
theorem yL(x y:fJ)(W:World):Calls Tryz.prog 67 #[.agg #[.string x.1.1,.string ⟨x.1.2.toArray⟩],.agg #[.string y.1.1,.string ⟨y.1.2.toArray⟩]] W fun e w'=>e=.returned (.int .i64 (lF x y))/\∃q os',w'=grow (W.drewN q) os':=by
 have hcon:Hid (∀W',Calls Tryz.prog 68 #[.string x.1.1,.string y.1.1] W' fun e w'=>e=.returned (.int .i64 (lF x y))/\∃q,w'=W'.drewN q):=fun W'=>kU W' x.1.1 y.1.1 x.2.2 y.2.2;generalize lF x y=r at hcon ⊢;go_enter Tryz.func67,Tryz.ntmps67;go_wp2_with fail;refine(hcon.out _).mono ?_;rintro e w' ⟨rfl,q,rfl⟩;go_wp2;go_ret;exact⟨rfl,q,_,by rw[alloc_eq_grow,alloc_eq_grow,grow_grow];rfl⟩
theorem Qf2(blk off size:Nat)(w:World):CmpLays Tryz.prog 67 #[] Ye 2 lF blk off size w:=
 fun _ _ _ _ x y=>yL x y _
theorem fV{P:Program}(w:World)(t tx ty e e':TypeId)(i:TypeInfo)(ht:P.underlying t=some (.slice e))(hk:P.underlying tx=some (.slice e'))(hi:P.info? e=some i)(base:Option Addr)(n cap:Nat)(h:n<=cap): (Builtin.append_ #[t,tx] ty #[.slice base n cap,.slice none 0 0]).run P w=.ok (.slice base n cap) w:=by
 cases base with
 |none=>simp[Builtin.append_,run_underlying ht,run_underlying hk,sizeOf,typeInfo,hi,Builtin.lenOf,Builtin.firstCells,h]
 |some a=>simp[Builtin.append_,run_underlying ht,run_underlying hk,sizeOf,typeInfo,hi,Builtin.lenOf,Builtin.firstCells,h,storeCells]
theorem Gi{P:Program}{ops:Array Oper}{rest:List Oper}{o:Oper}{a:Act}{w:World}{Q:Exit->Act->World->Prop}(hgd:o.guard=none)(s x:Operand)(t:TypeId)(hop:o.op=.call { callee:=.builtin .append,args:=#[s,x],argTypes:=#[t,t] })(base base2:Nat)(e:TypeId)(i:TypeInfo)(z:Value)(size bytes:Nat)(ht:P.underlying t=some (.slice e))(hi:P.info? e=some i)(hz:i.zero=some z)(hsize:i.size=size)(hby:i.bytes=bytes)(hzs:z.cells.size=size)(hsz:0<size)(v:Value)(n:Nat)(xs:List Value)(hv:a.eval s=v)(hown:w.ownsRow base e size v n xs)(y:Value)(m:Nat)(news:List Value)(hy:a.eval x=y)(hsrc:w.ownsRow base2 e size y m news)(h1:∀u∈news,u.oneCell'=true)(b1:n+m<=maxLen)(b2:(n+m)*bytes<=140737488355328)(b3:base<=w.heap.size)(h:∀v' w',w'.ownsRow base e size v' (n+m) (xs++news)->w.grownBy w' v.ownBlock->wpList P ops Q rest (a.put o.dst v') w'):wpList P ops Q (o::rest) a w:=by
 obtain⟨hl,⟨rfl,rfl⟩|⟨g,cap,cur,rfl,hb,hg,h3,h4,h5,h6⟩⟩:=hsrc
 .have hnil:news=[]:=List.eq_nil_of_length_eq_zero (by omega);subst hnil;refine wpList_plain hgd fun _ hK=>?_;obtain⟨bs,c,rfl,hc⟩:∃bs c,v=.slice bs n c/\n<=c:=by
   obtain⟨_,⟨e1,e2⟩|⟨g',c',cur',e1,_,_,e2,_⟩⟩:=hown;.subst e2;exact⟨none,0,e1,Nat.le_refl _⟩
   exact⟨_,_,e1,e2⟩
  have hrun:=fV (P:=P) w t t o.type e e i ht ht hi bs n c hc;unfold Oper.wp;simp[execOp,hop,resolve,invoke,builtin,hv,hy,hrun,Result.andThen];exact hK _ _ (h _ _ (by simpa using hown) (World.grownBy.refl _ _))
 refine wpList_append_own w hgd s x t hop base e i z size bytes ht hi hz hsize hby hzs hsz v n xs hv hown ⟨g,0,none⟩ m cap news hy hl ?_ h1 b1 b2 b3 (fun v' w' h1 h2 _=>h v' w' h1 h2);intro j u hj;have hlt:j<m*size:=by rw[<-hl];exact(List.getElem?_eq_some_iff.1 hj).1
 rw[<-h6,List.getElem?_take_of_lt hlt]at hj;have e0:((⟨g,0,none⟩:Addr).add j)=⟨g,j,none⟩:=by
  cases j with
  |zero=>rfl
  |succ j=>simp[Addr.add]
 rw[e0,Ac hg j];simpa using hj
theorem Xb(l:List (ByteArray×List UInt8)):∀i (h:i<l.length),(Ar l)[i*2]?=some (.string l[i].1)/\(Ar l)[i*2+1]?=some (.string ⟨l[i].2.toArray⟩):=by
 induction l with
 |nil=>intro i h;simp at h
 |cons a l ih=>
  intro i h;have e:Ar (a::l)=.string a.1::.string ⟨a.2.toArray⟩::Ar l:=rfl;cases i with
  |zero=>rw[e];exact⟨rfl,rfl⟩
  |succ i=>
   have:=ih i (by simpa using h);rw[e,show(i+1)*2=i*2+1+1 by omega];simpa using this
theorem Qbl(l m:List (ByteArray×List UInt8)):Ar (l++m)=Ar l++Ar m:=by simp[Ar]
theorem Qbf(l:List (ByteArray×List UInt8)):∀u∈Ar l,u.oneCell'=true:=by
 intro u hu;simp only[Ar,List.mem_flatMap,Wn]at hu;obtain⟨f,_,h⟩:=hu;simp at h;rcases h with rfl|rfl<;>rfl
def Dc(w:World)(g:Nat)(l:List (ByteArray×List UInt8)):Prop:=∀i (h:i<l.length),w.cell? ⟨g,i*2,none⟩=some (.string l[i].1)/\w.cell? ⟨g,i*2+1,none⟩=some (.string ⟨l[i].2.toArray⟩)
def Yn(base:Nat)(w:World)(v:Value)(l:List (ByteArray×List UInt8)):Prop:=∃a cap,v=.slice a l.length cap/\w.ownsRow base 41 2 v l.length (Ar l)/\(0<l.length->∃g,base<=g/\g<w.heap.size/\a=some ⟨g,0,none⟩/\Dc w g l)
@[reducible] def Pn(f:ByteArray×List UInt8):Prop:=Jh f.1.data.toList/\f.1.size<=140737488355328
theorem sJ{w:World}{base g cap:Nat}{l:List fJ}(h:w.ownsRow base 41 2 (.slice (some ⟨g,0,none⟩) l.length cap) l.length (Ar (l.map (·.1)))):HoldsK Ye 2 w g 0 l.toArray/\g<w.heap.size/\base<=g:=by
 obtain⟨h1,⟨h2,_⟩|⟨g',cap',cur,e,hb,hg,h3,h4,h5,h6⟩⟩:=h;.cases h2
 cases e;refine⟨?_,(Array.getElem?_eq_some_iff.1 hg).1,hb⟩;intro j hj;rw[size_flatK]at hj;rw[get_flatK _ _ _ _ hj];have hj':j<l.length*2:=by simpa using hj
 have hi:j/2<l.length:=by omega
 obtain⟨a1,a2⟩:=Xb (l.map (·.1)) (j/2) (by simpa using hi);rw[Nat.zero_add];refine⟨?_,Cb hg j⟩;rw[Ac hg j];have e1:cur[j]?=(Ar (l.map (·.1)))[j]?:=by
  rw[<-h6,List.getElem?_take_of_lt hj'];simp
 have e2:l.toArray[j/2]! = l[j/2]:=by rw[getElem!_pos _ _ (by simpa using hi)];simp
 rw[e2,e1];simp only[List.getElem_map]at a1 a2;rcases(by omega:j%2=0\/j%2=1)with hm|hm
 .rw[hm];exact(congrArg (fun t=>(Ar (l.map (·.1)))[t]?) (show j=j/2*2 by omega)).trans a1
 rw[hm];exact(congrArg (fun t=>(Ar (l.map (·.1)))[t]?) (show j=j/2*2+1 by omega)).trans a2
theorem kM{w:World}{g:Nat}{d:Array fJ}(h:HoldsK Ye 2 w g 0 d):Dc w g (d.toList.map (·.1)):=by
 intro i hi;have hi':i<d.size:=by simpa using hi
 have h1:=(h.cell (i:=i) (c:=0) hi' (by omega)).1;have h2:=(h.cell (i:=i) (c:=1) hi' (by omega)).1;simp only[Nat.zero_add,Nat.add_zero]at h1 h2;rw[getElem!_pos d i hi']at h1 h2;simp only[List.getElem_map,Array.getElem_toList];exact⟨h1,h2⟩
theorem Xf(l:List (ByteArray×List UInt8)):(Ar l).length=l.length*2:=by
 induction l with
 |nil=>rfl
 |cons a l ih=>
  have e:Ar (a::l)=Wn a++Ar l:=rfl;rw[e,List.length_append,ih];simp[Wn];omega
theorem Qcz{w:World}{base g cap n m:Nat}{xs:List Value}{d:Array fJ}{os:Array Obj}(h:w.ownsRow base 41 2 (.slice (some ⟨g,0,none⟩) n cap) n xs)(hn:d.size=n)(hA:Dc (sortWorldK Ye 2 w g 0 m d os) g (d.toList.map (·.1))):(sortWorldK Ye 2 w g 0 m d os).ownsRow base 41 2 (.slice (some ⟨g,0,none⟩) n cap) n (Ar (d.toList.map (·.1))):=by
 obtain⟨h1,⟨h2,_⟩|⟨g',cap',cur,e,hb,hg,h3,h4,h5,h6⟩⟩:=h;.cases h2
 cases e;have hl:(Ar (d.toList.map (·.1))).length=n*2:=by rw[Xf];simp[hn]
 have hg2:(sortWorldK Ye 2 w g 0 m d os).heap[g]?=some (.cells (putCells id 0 (flatK Ye 2 d) cur) 41):=by
  unfold sortWorldK putRowK putRow mapBlock;rw[heap_grow_old _ _ (by simpa using(Array.getElem?_eq_some_iff.1 hg).1)];show(w.heap.modify g _)[g]?=_;rw[Array.getElem?_modify,if_pos rfl,hg];rfl
 have hz:(putCells id 0 (flatK Ye 2 d) cur).size=cur.size:=by unfold putCells;simp
 refine⟨hl,.inr ⟨g,cap,putCells id 0 (flatK Ye 2 d) cur,rfl,hb,hg2,h3,h4,by rw[hz];exact h5,?_⟩⟩;apply List.ext_getElem?;intro j;by_cases hj:j<n*2
 .rw[List.getElem?_take_of_lt hj];obtain⟨q,hq⟩:∃q,j=q*2\/j=q*2+1:=⟨j/2,by omega⟩;have hi:q<(d.toList.map (·.1)).length:=by rw[List.length_map,Array.length_toList];omega
  obtain⟨a1,a2⟩:=Xb (d.toList.map (·.1)) q hi;obtain⟨c1,c2⟩:=hA q hi;rw[Ac hg2]at c1 c2;have e1:∀k:Nat,(putCells id 0 (flatK Ye 2 d) cur).toList[k]?=(putCells id 0 (flatK Ye 2 d) cur)[k]?:=fun k=>by simp
  rw[e1];rcases hq with rfl|rfl;.rw[c1,a1]
  rw[c2,a2]
 rw[List.getElem?_eq_none (by rw[List.length_take];omega),List.getElem?_eq_none (by omega)]
theorem wQ(w:World)(base:Nat)(v:Value)(l:List (ByteArray×List UInt8))(ho:w.ownsRow base 41 2 v l.length (Ar l))(hn:∀f∈l,Pn f)(hlen:l.length<=1000000000000): Calls Tryz.prog 66 #[v,.func (.func 67) #[] #[]] w fun e w'=>e=.returned (.tuple #[])/\∃d:List (ByteArray×List UInt8),d.Perm l/\d.Pairwise (fun a b=>En a.1.data.toList b.1.data.toList<=0)/\Yn base w' v d/\Touch (fun b=>base<=b) w w':=by
 obtain⟨lN,rfl⟩:∃lN:List fJ,lN.map (·.1)=l:=⟨l.pmap (fun f h=>⟨f,h⟩) hn,by simp[List.map_pmap]⟩;simp only[List.length_map]at ho hlen;by_cases hv:lN=[]
 .subst hv;obtain⟨a,cap,rfl⟩:∃a cap,v=.slice a 0 cap:=by
   obtain⟨_,⟨e,_⟩|⟨g',cap',cur,e,_⟩⟩:=ho;.exact⟨_,_,e⟩
   exact⟨_,_,e⟩
  refine(AnyF.slices_SortFunc_none Tryz.sortFile a cap _ w).mono ?_;rintro e w' ⟨rfl,rfl⟩;exact⟨rfl,[],List.Perm.refl _,List.Pairwise.nil,⟨a,cap,rfl,ho,by simp⟩,Touch.refl _ _⟩
 have hpos:0<lN.length:=List.length_pos_iff.2 hv;obtain⟨g,cap,rfl⟩:∃g cap,v=.slice (some ⟨g,0,none⟩) lN.length cap:=by
  obtain⟨_,⟨_,e⟩|⟨g',cap',cur,e,_⟩⟩:=ho;.omega
  exact⟨_,_,e⟩
 obtain⟨hH,hlt,hbase⟩:=sJ ho;have hsz2:lN.toArray.size=lN.length:=by simp
 have hcon:=AnyQ.slices_SortFunc Tryz.sortFile 2 Tryz.isAgg41 Tryz.sizeOf41 Ye (fun _=>rfl) (fun x v hv=>by simp[Ye,Wn]at hv;rcases hv with rfl|rfl<;>rfl) lF swoF 67 #[] g 0 cap lN.toArray w (enters_of Tryz.func67 (by kernel_rfl) rfl) (Qf2 g 0 _ w) hH hlt (by simp;omega);rw[hsz2]at hcon;refine hcon.mono ?_;rintro e w' ⟨he,d',m,os,hp,hso,rfl⟩;have hs':d'.size=lN.length:=by rw[hp.1,hsz2]
 have hperm:d'.toList.Perm lN:=by
  have h3:=hp.2.2;have e1:d'.extract 0 lN.length=d':=by rw[<-hs'];simp
  rw[e1]at h3;simpa using h3
 have hold:=jH Ye 2 w g 0 m _ d' os hlt hH (by rw[hs',hsz2]);have ht:=iL Ye 2 w g 0 m d' os;refine⟨he,d'.toList.map (·.1),hperm.map _,?_,⟨some ⟨g,0,none⟩,cap,by simp[hs'],by have:=Qcz (m:=m) (os:=os) ho hs' (kM hold);simpa [hs']using this,fun _=>⟨g,hbase,Nat.lt_of_lt_of_le hlt ht.size,rfl,kM hold⟩⟩,ht.mono (fun k _ e=>by rw[e];exact hbase)⟩;rw[List.pairwise_map,List.pairwise_iff_getElem];intro i j hi hj hij;have hj':j<d'.size:=by simpa using hj
 have h1:=hso i j (Nat.zero_le _) hij (by omega);rw[getElem!_pos d' j hj',getElem!_pos d' i (by omega)]at h1;unfold ltOf lF at h1;simp only[Array.getElem_toList];have h2:=Js (d'[i]'(by omega)).1.1.data.toList d'[j].1.1.data.toList;simp at h1;omega
theorem Zo(w:World)(base:Nat)(v:Value)(l:List (ByteArray×List UInt8))(ho:w.ownsRow base 41 2 v l.length (Ar l))(hn:∀f∈l,Pn f)(hlen:l.length<=1000000000000): Calls Tryz.prog 32 #[v] w fun e w'=>e=.returned (.tuple #[])/\∃d:List (ByteArray×List UInt8),d.Perm l/\d.Pairwise (fun a b=>En a.1.data.toList b.1.data.toList<=0)/\Yn base w' v d/\Touch (fun b=>base<=b) w w':=by
 have HS:Hid _:=wQ w base v l ho hn hlen;clear ho hn;go_enter Tryz.func32,Tryz.ntmps32;go_wp2_with fail;refine(show Calls _ _ _ _ _ from HS.out).mono ?_;rintro e w1 ⟨rfl,h⟩;go_wp2;go_end0;exact⟨rfl,h⟩
def Hq(base:Nat)(R:Except Nat (List Ai))(r:Ending)(w':World):Prop:=match R with
 |.error k=>r=.returned (.tuple #[.slice none 0 0,.int .i64 (k:Int)])/\0<k
 |.ok L=>∃g cap,r=.returned (.tuple #[.slice (some ⟨g,0,none⟩) L.length cap,.int .i64 0])/\w'.ownsRow base 134 6 (.slice (some ⟨g,0,none⟩) L.length cap) L.length (kV L)
def Hz(base:Nat)(s:ByteArray)(R:Except Nat (List Ai))(r:Ending)(w':World):Prop:=match R with
 |.error k=>r=.returned (.tuple #[.slice none 0 0,.int .i64 (k:Int)])
 |.ok L=>match Dp s L []with
  |.inl k=>r=.returned (.tuple #[.slice none 0 0,.int .i64 (k:Int)])
  |.inr fs=>∃v d,r=.returned (.tuple #[v,.int .i64 0])/\d.Perm (fs++(Ep L []).map Ez)/\d.Pairwise (fun a b=>En a.1.data.toList b.1.data.toList<=0)/\Yn base w' v d
theorem iK(nm:List UInt8):∀(f i:Nat) (acc:List (List UInt8)) (p:List UInt8),p∈Jy nm f i acc->p∈acc\/∃j,p=nm.take j
 |0,_,_,_,h=>.inl h
 |f+1,i,acc,p,h=>by
  rcases iK nm f (i+1) _ p h with h|h
  .split at h
   .rw[List.mem_append]at h;rcases h with h|h;.exact .inl h
    simp at h;exact .inr ⟨_,h⟩
   exact .inl h
  exact .inr h
theorem dS:∀(L:List Ai) (acc:List (List UInt8)) (p:List UInt8),p∈Ep L acc->p∈acc\/∃x∈L,∃j,p=x.Af.name.data.toList.take j
 | [],_,_,h=>.inl h
 |x::L,acc,p,h=>by
  rcases dS L _ p h with h|⟨y,hy,h⟩
  .rcases iK _ _ _ _ _ h with h|h;.exact .inl h
   exact .inr ⟨x,List.mem_cons_self ..,h⟩
  exact .inr ⟨y,List.mem_cons_of_mem _ hy,h⟩
theorem Oq(s:ByteArray):∀(L:List Ai) (acc fs:List (ByteArray×List UInt8)),Dp s L acc=.inr fs->fs.length<=acc.length+L.length/\∀f∈fs,f∈acc\/∃x∈L,f.1=x.Af.name
 | [],acc,fs,h=>by cases h;exact⟨by simp,fun f hf=>.inl hf⟩
 |x::L,acc,fs,h=>by
  unfold Dp at h;split at h
  .obtain⟨h1,h2⟩:=Oq s L acc fs h;refine⟨by simp;omega,fun f hf=>?_⟩;rcases h2 f hf with h3|⟨y,hy,h3⟩;.exact .inl h3
   exact .inr ⟨y,List.mem_cons_of_mem _ hy,h3⟩
  split at h;.cases h
  obtain⟨h1,h2⟩:=Oq s L _ fs h;refine⟨by simp at *;omega,fun f hf=>?_⟩;rcases h2 f hf with h3|⟨y,hy,h3⟩
  .rw[List.mem_append]at h3;rcases h3 with h3|h3;.exact .inl h3
   simp at h3;exact .inr ⟨x,List.mem_cons_self ..,by rw[h3]⟩
  exact .inr ⟨y,List.mem_cons_of_mem _ hy,h3⟩
theorem Qy(s:ByteArray):∀(L:List Ai) (acc:List (ByteArray×List UInt8)) (k:Nat),Dp s L acc=.inl k->0<k
 | [],_,_,h=>by cases h
 |x::L,acc,k,h=>by
  unfold Dp at h;split at h;.exact Qy s L acc k h
  split at h
  .rename_i k' he;cases h;rcases dN s x _ he with h|h|h<;>omega
  exact Qy s L _ k h
theorem nN(s:ByteArray)(L:List Ai)(fs:List (ByteArray×List UInt8))(h:Dp s L []=.inr fs)(hn:∀x∈L,Jh x.Af.name.data.toList/\x.Af.name.size<=60):∀f∈fs++(Ep L []).map Ez,Pn f:=by
 intro f hf;rw[List.mem_append]at hf;rcases hf with hf|hf
 .rcases(Oq s L [] fs h).2 f hf with h1|⟨x,hx,h1⟩;.cases h1
  obtain⟨a,b⟩:=hn x hx;unfold Pn;rw[h1];exact⟨a,by omega⟩
 rw[List.mem_map]at hf;obtain⟨p,hp,rfl⟩:=hf;rcases dS L [] p hp with h1|⟨x,hx,j,rfl⟩;.cases h1
 obtain⟨a,b⟩:=hn x hx;refine⟨fun c hc=>a c ?_,?_⟩
 .simp only[Ez]at hc;exact List.mem_of_mem_take hc
 show(List.take j x.Af.name.data.toList).toArray.size<=_;have e:x.Af.name.data.toList.length=x.Af.name.size:=by simp
 simp only[List.size_toArray,List.length_take];omega
theorem Qch(w:World)(s:ByteArray)(qe qn qb:Int)(R:Except Nat (List Ai))(hL:∀W,Touch (fun _=>False) w W->Calls Tryz.prog 20 #[.string s,.agg #[.int .i64 qe,.int .i64 qn,.int .i64 qb]] W fun r w'=>Touch (fun _=>False) W w'/\Hq W.heap.size R r w')(hok:∀L,R=.ok L->L.length<=1000000000/\(∀x∈L,Yk s x)/\∀x∈L,Jh x.Af.name.data.toList/\x.Af.name.size<=60)(hs:s.size<=2147483648)(ho:Ord w)(hb:1<w.heap.size): Calls Tryz.prog 11 #[.string s,.agg #[.int .i64 qe,.int .i64 qn,.int .i64 qb]] w fun r w'=>Touch (fun _=>False) w w'/\Hz w.heap.size s R r w':=by
 obtain⟨i0,hi,hz0,hz1,hz2⟩:=info_parts Tryz.Vp;have T0:Touch (fun _=>False) w (w.alloc (Obj.cells #[.int .i64 qe,.int .i64 qn,.int .i64 qb] 35)):=(Touch.refl _ w).alloc _;have HL:Hid (Calls Tryz.prog 20 #[.string s,.agg #[.int .i64 qe,.int .i64 qn,.int .i64 qb]] (w.alloc (Obj.cells #[.int .i64 qe,.int .i64 qn,.int .i64 qb] 35)) fun r w'=>Touch (fun _=>False) (w.alloc (Obj.cells #[.int .i64 qe,.int .i64 qn,.int .i64 qb] 35)) w'/\Hq (w.alloc (Obj.cells #[.int .i64 qe,.int .i64 qn,.int .i64 qb] 35)).heap.size R r w'):=hL _ T0;have HOK:Hid (∀L,R=.ok L->L.length<=1000000000/\(∀x∈L,Yk s x)/\∀x∈L,Jh x.Af.name.data.toList/\x.Af.name.size<=60):=hok;clear hL hok;go_enter Tryz.func11,Tryz.ntmps11;go_wp2_with fail;refine HL.out.mono ?_;rintro e w1 ⟨t1',h1⟩;have t1:=T0.trans t1';clear t1' T0 HL;cases R with
 |error k=>
  obtain⟨rfl,hk⟩:=h1;have hk':¬(k:Int)=0:=by omega
  have FIN:Hid (∀w',Hz w.heap.size s (.error k) (.returned (.tuple #[.slice none 0 0,.int .i64 (k:Int)])) w'):=fun _=>rfl;clear HOK;go_wp2;go_ret2;exact⟨t1,FIN.out _⟩
 |ok L=>
  obtain⟨g,cap,rfl,hro⟩:=h1;obtain⟨o1,o2,o3⟩:=HOK.out L rfl;have hE:=Nh.owned hro;have hfc:=Qb2 w1 s (some ⟨g,0,none⟩) g cap L (fun _=>rfl) (fun _=>hE) o1 o2 hs (ho.keep t1 (fun e=>e)) (by have:=t1.size;omega);have hdc:=fun w2 (t2:Touch (fun _=>False) w1 w2)=>uD w2 (some ⟨g,0,none⟩) g cap L (fun _=>rfl) (fun _=>hE.keep t2 (fun e=>e)) o1 (fun x hx=>(o3 x hx).2);have hnm:=fun fs hh=>nN s L fs hh o3;clear hro hE o2 o3 HOK;obtain⟨n,hn⟩:∃n,n=L.length:=⟨_,rfl⟩;rw[<-hn]at hfc;simp only[<-hn]at hdc;rw[<-hn]at o1;have HF:Hid (Calls Tryz.prog 30 #[.string s,.slice (some ⟨g,0,none⟩) n cap] w1 fun r w'=>Touch (fun _=>False) w1 w'/\nT w1.heap.size (Dp s L []) r w'):=hfc;have HD:Hid (∀w2 (t2:Touch (fun _=>False) w1 w2),Calls Tryz.prog 31 #[.slice (some ⟨g,0,none⟩) n cap] w2 fun r w'=>∃v,r=.returned v/\w'.ownsRow (w2.heap.size+1) 41 2 v (Ep L []).length (Ar ((Ep L []).map Ez))/\(Ep L []).length<=60*n/\Touch (fun _=>False) w2 w'):=hdc;have HN:Hid (n=L.length):=hn;rw[<-hn];have HP:Hid (∀r w',(match Dp s L []with
   |.inl k=>r=.returned (.tuple #[.slice none 0 0,.int .i64 (k:Int)])
   |.inr fs=>∃v d,r=.returned (.tuple #[v,.int .i64 0])/\d.Perm (fs++(Ep L []).map Ez)/\d.Pairwise (fun a b=>En a.1.data.toList b.1.data.toList<=0)/\Yn w.heap.size w' v d)->Hz w.heap.size s (.ok L) r w'):=fun r w' h=>h
  clear hfc hdc hn;go_wp2_with fail;refine HF.out.mono ?_;rintro e w2 ⟨t2,h2⟩;have t12:=t1.trans t2;cases hfg:Dp s L []with
  |inl k=>
   rw[hfg]at h2;obtain rfl:=(show e=_ from h2);have hk:=Qy s L [] k hfg;have hk':¬(k:Int)=0:=by omega
   rw[hfg]at HP;have FIN:Hid (∀w',Hz w.heap.size s (.ok L) (.returned (.tuple #[.slice none 0 0,.int .i64 (k:Int)])) w'):=fun w'=>HP.out _ w' rfl;clear HP HD HF hfg hnm;go_wp2;go_ret2;exact⟨t12,FIN.out _⟩
  |inr fs=>
   rw[hfg]at h2 HP;obtain⟨v,rfl,ho2⟩:=(show∃v,e=.returned (.tuple #[v,.int .i64 0])/\w2.ownsRow w1.heap.size 41 2 v fs.length (Ar fs) from h2);obtain⟨fl,hfl⟩:∃fl,fl=Ep L []:=⟨_,rfl⟩;have HNM:Hid (∀f∈fs++fl.map Ez,Pn f):=by rw[hfl];exact hnm fs hfg
   have hfn:=(Oq s L [] fs hfg).1;have hfn':fs.length<=n:=by rw[HN.out];simpa using hfn
   have HD2:=HD.out w2 t2;have HD3:Hid (Calls Tryz.prog 31 #[.slice (some ⟨g,0,none⟩) n cap] w2 fun r w'=>∃v,r=.returned v/\w'.ownsRow (w2.heap.size+1) 41 2 v fl.length (Ar (fl.map Ez))/\fl.length<=60*n/\Touch (fun _=>False) w2 w'):=by
    rw[hfl];exact HD2
   have FIN:Hid (∀v d w',d.Perm (fs++fl.map Ez)->d.Pairwise (fun a b=>En a.1.data.toList b.1.data.toList<=0)->Yn w.heap.size w' v d->Hz w.heap.size s (.ok L) (.returned (.tuple #[v,.int .i64 0])) w'):=by
    intro v d w' p1 p2 p3;refine HP.out _ w' ⟨v,d,rfl,?_,p2,p3⟩;rw[<-hfl];exact p1
   clear HD2 HD HP HF hfg hnm hfl hfn h2;go_wp2_with fail;refine HD3.out.mono ?_;rintro e w3 ⟨v3,rfl,ho3,hfl3,t3⟩;have t13:=t12.trans t3;have ho2':=t3.owns ho2 (fun _ _ h=>h);have hsz1:=t1.size;have hsz2:=t2.size;have hsz3:=t3.size;have hl3:(fl.map Ez).length=fl.length:=List.length_map ..;have HO3:Hid (w3.ownsRow (w2.heap.size+1) 41 2 v3 fl.length (Ar (fl.map Ez))):=ho3;have HO2:Hid (w3.ownsRow w1.heap.size 41 2 v fs.length (Ar fs)):=ho2';have b1:fs.length+fl.length<=maxLen:=by unfold maxLen;omega
   have b2:(fs.length+fl.length)*32<=140737488355328:=by omega
   have b3:w1.heap.size<=w3.heap.size:=by omega
   clear ho2 ho3 ho2' HD3;go_wp2_with (at_builtin;refine Gi rfl _ _ 30 rfl w1.heap.size (w2.heap.size+1) 41 i0 (.agg #[.string ⟨#[]⟩,.string ⟨#[]⟩]) 2 32 Tryz.underlying30 hi hz0 hz1 hz2 rfl (by decide) _ _ _ rfl HO2.out _ _ _ rfl HO3.out (Qbf _) b1 b2 b3 ?_;intro v4 w4 ho4 hg4);have ho5:w4.ownsRow w1.heap.size 41 2 v4 (fs++fl.map Ez).length (Ar (fs++fl.map Ez)):=by
    rw[List.length_append,hl3,Qbl];exact ho4
   have T4:Touch (fun _=>False) w w4:=t13.Fa hg4 (fun k hk=>by have:=(HO2.out.lt k hk).1;omega);have HS:Hid _:=Zo w4 w1.heap.size v4 _ ho5 HNM.out (by rw[List.length_append,hl3];omega);clear ho4 ho5 hg4 HO2 HO3 HNM;go_wp2_with fail;refine(show Calls _ _ _ _ _ from HS.out).mono ?_;rintro e w5 ⟨rfl,d,p1,p2,⟨a5,cap5,rfl,o5,h5⟩,t5⟩;have FV:Hid (Yn w.heap.size w5 (.slice a5 d.length cap5) d):=by
    refine⟨a5,cap5,rfl,?_,fun h=>?_⟩;.exact⟨o5.1,o5.2.imp id (fun⟨g,cap,cur,q1,q2,q3⟩=>⟨g,cap,cur,q1,by omega,q3⟩)⟩
    obtain⟨g5,q1,q2,q3,q4⟩:=h5 h;exact⟨g5,by omega,q2,q3,q4⟩
   have T5:Touch (fun _=>False) w w5:=by
    refine⟨t5.os.trans T4.os,t5.tape.trans T4.tape,t5.output.trans T4.output,Nat.le_trans T4.size t5.size,fun k hk _=>?_⟩;exact(t5.block k (Nat.lt_of_lt_of_le hk T4.size) (by omega)).trans (T4.block k hk (fun e=>e))
   have FIN2:=FIN.out _ d w5 p1 p2 FV.out;have FIN3:Hid (Hz w.heap.size s (.ok L) (.returned (.tuple #[.slice a5 d.length cap5,.int .i64 0])) w5):=FIN2;clear HS FIN FIN2 FV h5 o5 p1 p2;go_wp2;go_ret2;exact⟨T5,FIN3.out⟩
theorem bH(s:ByteArray)(a:Nat):Aa s a 2<65536:=Bj s a 2
theorem jB(s:ByteArray)(a:Nat):Aa s a 4<4294967296:=Bj s a 4
theorem jU(s:ByteArray)(stop c v z c':Nat)(h:meant s stop c v=some (z,c'))(hv:v<4294967296):z<=1099511627776:=by
 unfold meant at h;split at h
 .split at h
  .rename_i hh;simp only[Option.some.injEq,Prod.mk.injEq]at h;rw[<-h.1];exact hh.2
  exact absurd h (by simp)
 simp only[Option.some.injEq,Prod.mk.injEq]at h;rw[<-h.1];omega
theorem Vz(s:ByteArray)(E p:Nat)(e:Eo)(q:Nat)(h:Ig s E p=some (e,q)):p+46<=q/\q<=E/\Na e:=by
 unfold Ig at h;simp only at h;split at h
 .rename_i hc;cases hw:Bg s (p+46+Aa s (p+28) 2+Aa s (p+30) 2) (Aa s (p+30) 2+1) (p+46+Aa s (p+28) 2) none with
  |none=>rw[hw]at h;cases h
  |some found=>
   rw[hw]at h;simp only[Option.bind_some]at h;cases hm:Mc s (found.getD (0,0)).1 (found.getD (0,0)).2 (Aa s (p+24) 4) (Aa s (p+20) 4) (Aa s (p+42) 4)with
   |none=>rw[hm]at h;cases h
   |some m=>
    rw[hm]at h;simp only[Option.bind_some,Option.some.injEq,Prod.mk.injEq]at h;obtain⟨rfl,rfl⟩:=h;obtain⟨z,k,a⟩:=m;unfold Mc at hm;cases h1:meant s (found.getD (0,0)).2 (found.getD (0,0)).1 (Aa s (p+24) 4)with
    |none=>rw[h1]at hm;cases hm
    |some z1=>
     rw[h1]at hm;simp only[Option.bind_some]at hm;cases h2:meant s (found.getD (0,0)).2 z1.2 (Aa s (p+20) 4)with
     |none=>rw[h2]at hm;cases hm
     |some k1=>
      rw[h2]at hm;simp only[Option.bind_some]at hm;cases h3:meant s (found.getD (0,0)).2 k1.2 (Aa s (p+42) 4)with
      |none=>rw[h3]at hm;cases hm
      |some a1=>
       rw[h3]at hm;simp only[Option.bind_some,Option.some.injEq,Prod.mk.injEq]at hm;obtain⟨rfl,rfl,rfl⟩:=hm;have m1:=jU _ _ _ _ z1.1 z1.2 h1 (jB _ _);have m2:=jU _ _ _ _ k1.1 k1.2 h2 (jB _ _);have m3:=jU _ _ _ _ a1.1 a1.2 h3 (jB _ _);refine⟨by omega,by omega,bH _ _,jB _ _,m2,m1,m3,bH _ _,bH _ _,jB _ _,?_⟩;have:=bH s (p+28);show(s.extract (p+46) (p+46+Aa s (p+28) 2)).size<65536;rw[ByteArray.size_extract];omega
 cases h
theorem Pq(s:ByteArray)(E:Nat):∀(f p:Nat) (acc l:List Eo),Ce s E f p acc=.ok l->l.length=acc.length+f/\l.length*46<=acc.length*46+(E-p)/\∀e∈l,e∈acc\/(Na e/\Aw e=0)
 |0,p,acc,l,h=>by
  unfold Ce at h;split at h;.cases h;exact⟨rfl,by omega,fun e he=>.inl he⟩
  cases h
 |f+1,p,acc,l,h=>by
  unfold Ce at h;split at h;.cases h
  rename_i e q he;obtain⟨h1,h2,h3⟩:=Vz s E p e q he;split at h
  .rename_i hf;obtain⟨i1,i2,i3⟩:=Pq s E f q _ l h;simp only[List.length_append,List.length_singleton]at i1 i2;refine⟨by omega,by omega,fun x hx=>?_⟩;rcases i3 x hx with hx|hx
   .rw[List.mem_append]at hx;rcases hx with hx|hx;.exact .inl hx
    simp at hx;rw[hx];exact .inr ⟨h3,hf⟩
   exact .inr hx
  cases h
theorem Ya(s:ByteArray)(E:Nat):∀(f p:Nat) (acc:List Eo) (k:Nat),Ce s E f p acc=.error k->0<k
 |0,p,acc,k,h=>by
  unfold Ce at h;split at h;.cases h
  cases h;omega
 |f+1,p,acc,k,h=>by
  unfold Ce at h;split at h;.cases h;omega
  split at h;.exact Ya s E f _ _ k h
  rename_i hf;cases h;omega
theorem Eb(e:Eo)(h:Aw e=0):Ci e.name=true:=by
 unfold Aw at h;split at h;.cases h
 split at h;.cases h
 split at h;.cases h
 rename_i hn;simpa using hn
theorem Qq(s:ByteArray)(h:Ci s=true):s.size<=60/\Jh s.data.toList:=by
 unfold Ci at h;simp only[Bool.and_eq_true,decide_eq_true_eq,List.all_eq_true]at h;obtain⟨⟨h1,h2⟩,_⟩:=h;refine⟨h1,fun c hc=>?_⟩;have:=h2 c (by rw[ByteArray.toList_eq];exact hc);intro e;rw[e]at this;exact absurd this (by decide)
theorem Ui(s:ByteArray)(P:Nat):∀(l:List Eo) (r:List Ai),spansOf s P l=some r->r.map (·.Af)=l/\∀x∈r,x.Af∈l/\Gj s P x.Af=some (x.place,x.stop)
 | [],r,h=>by cases h;exact⟨rfl,fun x hx=>by cases hx⟩
 |e::l,r,h=>by
  unfold spansOf at h;cases h1:Gj s P e with
  |none=>rw[h1]at h;cases h
  |some p=>
   rw[h1]at h;simp only[Option.bind_some]at h;cases h2:spansOf s P l with
   |none=>rw[h2]at h;cases h
   |some r1=>
    rw[h2]at h;cases h;obtain⟨i1,i2⟩:=Ui s P l r1 h2;refine⟨by simp[i1],fun x hx=>?_⟩;rw[List.mem_cons]at hx;rcases hx with rfl|hx;.exact⟨List.mem_cons_self ..,h1⟩
    exact⟨List.mem_cons_of_mem _ (i2 x hx).1,(i2 x hx).2⟩
theorem nO(s:ByteArray)(P:Nat)(e:Eo)(b t:Nat)(h:Gj s P e=some (b,t)):e.ahead+30<=b/\b+e.packed<=t/\t<=P:=by
 unfold Gj at h;simp only at h;obtain⟨m,hm⟩:∃m,m=(if Fh e=true then 16 else 0):=⟨_,rfl⟩;rw[<-hm]at h;by_cases hc:e.ahead+30<=P/\e.ahead+30+Aa s (e.ahead+26) 2+Aa s (e.ahead+28) 2+e.packed+m<=P/\Eg s e.ahead 3 4=true/\Aa s (e.ahead+6) 2=e.flags/\Aa s (e.ahead+8) 2=e.method/\s.extract (e.ahead+30) (e.ahead+30+Aa s (e.ahead+26) 2)=e.name /\ (s.extract (e.ahead+14) (e.ahead+26)=e.three\/(Fh e=true/\s.extract (e.ahead+14) (e.ahead+26)=⟨#[0,0,0,0,0,0,0,0,0,0,0,0]⟩)) /\ (Fh e=true->Eg s (e.ahead+30+Aa s (e.ahead+26) 2+Aa s (e.ahead+28) 2+e.packed) 7 8=true/\Aa s (e.ahead+30+Aa s (e.ahead+26) 2+Aa s (e.ahead+28) 2+e.packed+4) 4=e.sum/\Aa s (e.ahead+30+Aa s (e.ahead+26) 2+Aa s (e.ahead+28) 2+e.packed+8) 4=e.packed%4294967296/\Aa s (e.ahead+30+Aa s (e.ahead+26) 2+Aa s (e.ahead+28) 2+e.packed+12) 4=e.size%4294967296)
 .rw[if_pos hc]at h;simp only[Option.some.injEq,Prod.mk.injEq]at h;obtain⟨rfl,rfl⟩:=h;exact⟨by omega,by omega,hc.2.1⟩
 rw[if_neg hc]at h;exact absurd h (by simp)
theorem Og(s:ByteArray)(d:Dir)(h:Ey s=.ok d):d.stop<=s.size/\d.count<=9223372036854775807/\d.size<=9223372036854775807/\d.place<=9223372036854775807:=by
 unfold Ey at h;cases hp:Dv s 101 0 with
 |none=>rw[hp]at h;cases h
 |some p=>
  rw[hp]at h;have hle:=Ug s 101 0 p hp;simp only at h;split at h
  .split at h
   .split at h;.simp only[Except.ok.injEq]at h;subst h;exact⟨by show p-76<=s.size;omega,Tq _ _ _,Tq _ _ _,Tq _ _ _⟩
    exact absurd h (by simp)
   exact absurd h (by simp)
  split at h;.simp only[Except.ok.injEq]at h;subst h;exact⟨by show p<=s.size;omega,Tq _ _ _,Tq _ _ _,Tq _ _ _⟩
  exact absurd h (by simp)
theorem Xg(s:ByteArray)(k:Nat)(h:Ey s=.error k):0<k:=by
 unfold Ey at h;cases hp:Dv s 101 0 with
 |none=>rw[hp]at h;simp only[Except.error.injEq]at h;omega
 |some p=>
  rw[hp]at h;simp only at h;split at h
  .split at h
   .split at h;.exact absurd h (by simp)
    simp only[Except.error.injEq]at h;omega
   simp only[Except.error.injEq]at h;omega
  split at h;.exact absurd h (by simp)
  simp only[Except.error.injEq]at h;omega
theorem Td(s:ByteArray)(qe qn qb:Int)(L:List Ai)(h:listOf s qe qn qb=.ok L)(hs:s.size<=2147483648):L.length<=1000000000/\(∀x∈L,Yk s x)/\∀x∈L,Jh x.Af.name.data.toList/\x.Af.name.size<=60:=by
 unfold listOf at h;cases hd:Ey s with
 |error k=>rw[hd]at h;cases h
 |ok d=>
  rw[hd]at h;simp only at h;split at h;.cases h
  split at h;.cases h
  rename_i hl;cases he:Ce s d.stop d.count d.place []with
  |error k=>rw[he]at h;cases h
  |ok l=>
   rw[he]at h;simp only at h;split at h;.cases h
   split at h;.cases h
   cases hsp:spansOf s d.place l with
   |none=>rw[hsp]at h;cases h
   |some r=>
    rw[hsp]at h;simp only at h;split at h;.cases h
    split at h;.cases h
    cases h;obtain⟨a1,a2,a3,a4⟩:=Og s d hd;obtain⟨b1,b2,b3⟩:=Pq s _ _ _ _ _ he;obtain⟨c1,c2⟩:=Ui s _ _ _ hsp;have hlen:L.length=l.length:=(by rw[<-c1];simp);simp only[List.length_nil]at b2;have hl':d.place<=d.stop:=by
     apply Classical.byContradiction;intro hh;exact hl (fun e=>hh e.1)
    have hnm:∀x∈L,Na x.Af/\x.Af.name.size<=60/\Jh x.Af.name.data.toList:=by
     intro x hx;rcases b3 x.Af (c2 x hx).1 with h0|⟨h0,h1⟩;.cases h0
     exact⟨h0,Qq _ (Eb _ h1)⟩
    refine⟨by omega,fun x hx=>?_,fun x hx=>⟨(hnm x hx).2.2,(hnm x hx).2.1⟩⟩;obtain⟨s1,s2,s3⟩:=nO s _ _ _ _ (c2 x hx).2;exact⟨(hnm x hx).1.size,by omega,(hnm x hx).2.1⟩
theorem fD(s:ByteArray)(h:0<s.size):Aj s=(((s[s.size-1]'(by omega)).toNat:Int)==47):=by
 unfold Aj;rw[ByteArray.toList_eq,List.getLast?_eq_getElem?];have hl:s.data.toList.length=s.size:=by simp
 rw[hl,List.getElem?_eq_getElem (by omega),Array.getElem_toList];have e:s.data[s.size-1]'(by have:s.data.size=s.size:=rfl;omega)=s[s.size-1]'(by omega):=rfl;rw[e];generalize s[s.size-1]'(by omega)=c;rw[Bool.eq_iff_iff];simp only[decide_eq_true_eq,Option.some.injEq,beq_iff_eq];constructor;.intro h;rw[h];rfl
 intro h;apply UInt8.toNat_inj.1;simpa using(by omega:c.toNat=47)
theorem Py(w:World)(s:ByteArray)(h:0<s.size)(hs:s.size<=140737488355328): Calls Tryz.prog 159 #[.string s] w fun e w'=>e=.returned (.bool (Aj s))/\Touch (fun _=>False) w w':=by
 have HF:Hid (Aj s=(((s[s.size-1]'(by omega)).toNat:Int)==47)):=fD s h;have h1:(0:Int)<=(s.size:Int)-1:=by omega
 have h2:(s.size:Int)-1<(s.size:Int):=by omega
 have h3:((s.size:Int)-1).toNat=s.size-1:=by omega
 have h4:s.size-1<s.size:=by omega
 go_enter Tryz.func159,Tryz.ntmps159;go_wp2;go_ret;exact⟨by rw[HF.out];rfl,Touch.refl _ _⟩
def Gh(s:ByteArray):ByteArray:=if Aj s then s.extract 0 (s.size-1)else s
theorem Qd(s:ByteArray):(Gh s).toList=Ak s:=by
 unfold Gh Ak;split
 .have e:(s.extract 0 (s.size-1)).data.toList=s.data.toList.take (s.size-1):=by
   rw[ByteArray.data_extract,Array.toList_extract,List.extract_eq_take_drop];simp only[List.drop_zero,Nat.sub_zero]
  rw[ByteArray.toList_eq,ByteArray.toList_eq,e,List.dropLast_eq_take];have hl:s.data.toList.length=s.size:=by simp
  rw[hl]
 rfl
theorem Qk(s:ByteArray):(Gh s).size<=s.size:=by
 unfold Gh;split;.rw[ByteArray.size_extract];omega
 exact Nat.le_refl _
theorem oZ(w:World)(s:ByteArray)(h:0<s.size)(hs:s.size<=140737488355328): Calls Tryz.prog 227 #[.string s] w fun e w'=>e=.returned (.string (Gh s))/\Touch (fun _=>False) w w':=by
 have h1:(0:Int)<=(s.size:Int)-1:=by omega
 have h2:(s.size:Int)-1<=(s.size:Int):=by omega
 have h3:((s.size:Int)-1).toNat=s.size-1:=by omega
 go_enter Tryz.func227,Tryz.ntmps227;go_wp2_with fail;refine(Py _ s h hs).mono ?_;rintro e w1 ⟨rfl,t1⟩;cases hf:Aj s with
 |true=>
  have HE:Hid (Gh s=s.extract 0 (s.size-1)):=by unfold Hid Gh;rw[if_pos hf]
  go_wp2;go_ret;exact⟨by rw[HE.out];rfl,t1⟩
 |false=>
  have HE:Hid (Gh s=s):=by unfold Hid Gh;rw[if_neg (by rw[hf];simp)]
  go_wp2;go_ret;exact⟨by rw[HE.out];rfl,t1⟩
theorem Qfu(a b:ByteArray)(h:a.size<b.size):Fg a.toList b.toList=(((b.extract 0 a.size).toList==a.toList)&&(((b[a.size]'h).toNat:Int)==47)):=by
 have hb:b.toList[a.size]?=some (b[a.size]'h):=by
  rw[ByteArray.toList_eq,List.getElem?_eq_getElem (by simpa using h),Array.getElem_toList];rfl
 have ha:a.toList.length=a.size:=by rw[ByteArray.toList_eq];simp
 have hx:(b.extract 0 a.size).toList=b.toList.take a.size:=by rw[ByteArray.toList_eq,ByteArray.toList_eq,ByteArray.data_extract];simp
 have hl:b.toList.length=b.size:=by rw[ByteArray.toList_eq];simp
 rw[hx];generalize b[a.size]'h=c at hb ⊢;unfold Fg;rw[Bool.eq_iff_iff,List.isPrefixOf_iff_prefix];simp only[Bool.and_eq_true,beq_iff_eq];have hc:((c.toNat:Int)=47)↔c=47:=by
  constructor;.intro h;apply UInt8.toNat_inj.1;simpa using(by omega:c.toNat=47)
  intro h;rw[h];rfl
 rw[hc];constructor
 .rintro⟨t,ht⟩;rw[<-ht]at hb ⊢;rw[<-ha]at hb ⊢;simp at hb ⊢;exact hb.symm
 rintro⟨h1,h2⟩;refine⟨b.toList.drop (a.size+1),?_⟩;have h3:b.toList.take (a.size+1)=a.toList++[47]:=by
  rw[List.take_succ_eq_append_getElem (by omega),h1];congr 2;rw[List.getElem?_eq_getElem (by omega)]at hb;rw[Option.some.inj hb,h2]
 rw[<-h3,List.take_append_drop]
theorem uN(a b:List UInt8)(h:¬a.length<b.length):Fg a b=false:=by
 cases hh:Fg a b with
 |false=>rfl
 |true=>
  unfold Fg at hh;rw[List.isPrefixOf_iff_prefix]at hh;have:=hh.length_le;simp at this;omega
theorem xC(w:World)(a b:ByteArray)(ha:a.size<=140737488355328)(hb:b.size<=140737488355328): Calls Tryz.prog 228 #[.string a,.string b] w fun e w'=>e=.returned (.bool (Fg a.toList b.toList))/\Touch (fun _=>False) w w':=by
 by_cases h:a.size<b.size
 .have HE:Hid (Fg a.toList b.toList=(((b.extract 0 a.size).toList==a.toList)&&(((b[a.size]'h).toNat:Int)==47))):=Qfu a b h;have h1:(a.size:Int)<(b.size:Int):=by omega
  have h2:(a.size:Int)<=(b.size:Int):=by omega
  go_enter Tryz.func228,Tryz.ntmps228;cases hq:((b.extract 0 a.size).toList==a.toList)with
  |true=>
   go_wp2;go_ret;exact⟨by rw[HE.out,hq];rfl,Touch.refl _ _⟩
  |false=>
   go_wp2;go_ret;exact⟨by rw[HE.out,hq];rfl,Touch.refl _ _⟩
 have HE:Hid (Fg a.toList b.toList=false):=uN _ _ (by rw[ByteArray.toList_eq,ByteArray.toList_eq];simpa using h);have h1:¬(a.size:Int)<(b.size:Int):=by omega
 go_enter Tryz.func228,Tryz.ntmps228;go_wp2;go_ret;exact⟨by rw[HE.out];rfl,Touch.refl _ _⟩
def zQ(e:Eo)(four:Nat×Nat×Nat)(place from_ to_:Nat):List Value:=[.string e.name,.int .i64 (e.method:Int),.int .i64 (e.sum:Int),.int .i64 (e.packed:Int),.int .i64 (e.size:Int),.int .i64 (place:Int),.int .i64 (e.flags:Int),.int .i64 (e.ahead:Int),.int .i64 (four.1:Int),.int .i64 (four.2.1:Int),.int .i64 (four.2.2:Int),.int .i64 (from_:Int),.int .i64 (to_:Int)]
theorem Qek(w:World)(a b:ByteArray)(ha0:0<a.size)(hb0:0<b.size)(ha:a.size<=140737488355328)(hb:b.size<=140737488355328)(x1 x2 x3 x4 x5 x6 x7 x8 x9 x10 x11 x12 y1 y2 y3 y4 y5 y6 y7 y8 y9 y10 y11 y12:Int): Calls Tryz.prog 156 #[.agg #[.string a,.int .i64 x1,.int .i64 x2,.int .i64 x3,.int .i64 x4,.int .i64 x5,.int .i64 x6,.int .i64 x7,.int .i64 x8,.int .i64 x9,.int .i64 x10,.int .i64 x11,.int .i64 x12],.agg #[.string b,.int .i64 y1,.int .i64 y2,.int .i64 y3,.int .i64 y4,.int .i64 y5,.int .i64 y6,.int .i64 y7,.int .i64 y8,.int .i64 y9,.int .i64 y10,.int .i64 y11,.int .i64 y12]] w fun e w'=>e=.returned (.bool (Dj a b))/\Touch (fun _=>False) w w':=by
 have ha':(Gh a).size<=140737488355328:=Nat.le_trans (Qk a) ha;have hb':(Gh b).size<=140737488355328:=Nat.le_trans (Qk b) hb;have T0:=((Touch.refl (fun _=>False) w).alloc (Obj.cells #[.string a,.int .i64 x1,.int .i64 x2,.int .i64 x3,.int .i64 x4,.int .i64 x5,.int .i64 x6,.int .i64 x7,.int .i64 x8,.int .i64 x9,.int .i64 x10,.int .i64 x11,.int .i64 x12] 248)).alloc (Obj.cells #[.string b,.int .i64 y1,.int .i64 y2,.int .i64 y3,.int .i64 y4,.int .i64 y5,.int .i64 y6,.int .i64 y7,.int .i64 y8,.int .i64 y9,.int .i64 y10,.int .i64 y11,.int .i64 y12] 248);have HC:Hid (Dj a b=(((Gh a).toList==(Gh b).toList)||(Fg (Gh a).toList (Gh b).toList&&!Aj a)||(Fg (Gh b).toList (Gh a).toList&&!Aj b))):=by
  have e:decide (Ak a=Ak b)=(Ak a==Ak b):=by rw[Bool.eq_iff_iff];simp
  unfold Hid Dj;rw[Qd,Qd,e]
 obtain⟨W,hW⟩:∃W,W=((w.alloc (Obj.cells #[.string a,.int .i64 x1,.int .i64 x2,.int .i64 x3,.int .i64 x4,.int .i64 x5,.int .i64 x6,.int .i64 x7,.int .i64 x8,.int .i64 x9,.int .i64 x10,.int .i64 x11,.int .i64 x12] 248)).alloc (Obj.cells #[.string b,.int .i64 y1,.int .i64 y2,.int .i64 y3,.int .i64 y4,.int .i64 y5,.int .i64 y6,.int .i64 y7,.int .i64 y8,.int .i64 y9,.int .i64 y10,.int .i64 y11,.int .i64 y12] 248)):=⟨_,rfl⟩;have HKA:Hid (∀V,Touch (fun _=>False) W V->V.cell? ⟨w.heap.size,0,none⟩=some (.string a)/\V.cell? ⟨w.heap.size+1,0,none⟩=some (.string b)):=by
  intro V tV;have b1:=heap_alloc_new w (Obj.cells #[.string a,.int .i64 x1,.int .i64 x2,.int .i64 x3,.int .i64 x4,.int .i64 x5,.int .i64 x6,.int .i64 x7,.int .i64 x8,.int .i64 x9,.int .i64 x10,.int .i64 x11,.int .i64 x12] 248);have b2:=heap_alloc_new (w.alloc (Obj.cells #[.string a,.int .i64 x1,.int .i64 x2,.int .i64 x3,.int .i64 x4,.int .i64 x5,.int .i64 x6,.int .i64 x7,.int .i64 x8,.int .i64 x9,.int .i64 x10,.int .i64 x11,.int .i64 x12] 248)) (Obj.cells #[.string b,.int .i64 y1,.int .i64 y2,.int .i64 y3,.int .i64 y4,.int .i64 y5,.int .i64 y6,.int .i64 y7,.int .i64 y8,.int .i64 y9,.int .i64 y10,.int .i64 y11,.int .i64 y12] 248);rw[World.size_alloc]at b2;have b3:=(Below.heap_alloc _ (Obj.cells #[.string b,.int .i64 y1,.int .i64 y2,.int .i64 y3,.int .i64 y4,.int .i64 y5,.int .i64 y6,.int .i64 y7,.int .i64 y8,.int .i64 y9,.int .i64 y10,.int .i64 y11,.int .i64 y12] 248) _ (Array.getElem?_eq_some_iff.1 b1).1).trans b1;rw[<-hW]at b2 b3;have c1:=(tV.block _ (Array.getElem?_eq_some_iff.1 b3).1 (fun e=>e)).trans b3;have c2:=(tV.block _ (Array.getElem?_eq_some_iff.1 b2).1 (fun e=>e)).trans b2;exact⟨by rw[Ac c1 0];rfl,by rw[Ac c2 0];rfl⟩
 rw[<-hW]at T0;go_enter Tryz.func156,Tryz.ntmps156;go_wp2_with fail;rw[<-hW];clear hW;refine(oZ _ a ha0 ha).mono ?_;rintro e w1 ⟨rfl,t1⟩;obtain⟨k1,k2⟩:=HKA.out w1 t1;go_wp2_with fail;refine(oZ _ b hb0 hb).mono ?_;rintro e w2 ⟨rfl,t2'⟩;have t2:=t1.trans t2';clear t2' t1 k1 k2;go_wp2_with fail;refine(xC _ (Gh a) (Gh b) ha' hb').mono ?_;rintro e w3 ⟨rfl,t3'⟩;have t3:=t2.trans t3';clear t3' t2;go_wp2_with fail;refine(xC _ (Gh b) (Gh a) hb' ha').mono ?_;rintro e w4 ⟨rfl,t4'⟩;have t4:=t3.trans t4';clear t4' t3;obtain⟨k1,k2⟩:=HKA.out w4 t4;go_wp2_with fail;refine(Py _ a ha0 ha).mono ?_;rintro e w5 ⟨rfl,t5'⟩;have t5:=t4.trans t5';clear t5' t4 k1 k2;obtain⟨k1,k2⟩:=HKA.out w5 t5;go_wp2_with fail;refine(Py _ b hb0 hb).mono ?_;rintro e w6 ⟨rfl,t6'⟩;have t6:=T0.trans (t5.trans t6');clear t6' t5 k1 k2 HKA T0;generalize Fg (Gh a).toList (Gh b).toList=one at HC ⊢;generalize Fg (Gh b).toList (Gh a).toList=two at HC ⊢;generalize Aj a=f at HC ⊢;generalize Aj b=g at HC ⊢;cases hq:((Gh a).toList==(Gh b).toList);all_goals rw[hq]at HC
 all_goals cases one
 all_goals cases two
 all_goals cases f
 all_goals cases g
 all_goals
  go_wp2;go_ret;exact⟨by rw[HC.out];rfl,t6⟩
structure XB (w:World) (b:Nat) (l:List Value):Prop where
 cells:∀i,i<13->w.cell? ⟨b,i,none⟩=l[i]?
 len:l.length=13
 frozen:∀i,w.frozen? ⟨b,i,none⟩=false
 lt:b<w.heap.size
theorem XB.keep{S:Nat->Prop}{w w':World}{b:Nat}{l:List Value}(h:XB w b l)(ht:Touch S w w')(hs:¬S b):XB w' b l:=
 ⟨fun i hi=>(ht.cell (p:=⟨b,i,none⟩) h.lt hs).trans (h.cells i hi),h.len,fun i=>(ht.frozen (p:=⟨b,i,none⟩) h.lt hs).trans (h.frozen i),Nat.lt_of_lt_of_le h.lt ht.size⟩
theorem XB.set{w:World}{b:Nat}{l:List Value}(h:XB w b l)(k:Nat)(v:Value)(hk:k<13):XB (w.setCell ⟨b,k,none⟩ v) b (l.set k v):=by
 refine⟨fun i hi=>?_,by rw[List.length_set];exact h.len,fun i=>by rw[World.frozen?_setCell];exact h.frozen i,by simpa using h.lt⟩;have h1:=h.cells i hi;have h2:=h.cells k hk;have hl:=h.len;rw[Ad,List.getElem?_set];by_cases hik:i=k
 .subst hik;have hex:(w.cell? ⟨b,i,none⟩).isSome=true:=by
   rw[h2,List.getElem?_eq_getElem (by omega)];rfl
  have hex':=Option.isSome_iff_exists.1 hex;simp[hl,hi,hex']
 have hik':¬k=i:=fun e=>hik e.symm;simp[hik,hik',h1]
def oM:List Value:=[.string ⟨#[]⟩,.int .i64 0,.int .i64 0,.int .i64 0,.int .i64 0,.int .i64 0,.int .i64 0,.int .i64 0,.int .i64 0,.int .i64 0,.int .i64 0,.int .i64 0,.int .i64 0]
theorem XB.new(w:World):XB (w.alloc (Obj.cells #[.string ⟨#[]⟩,.int .i64 0,.int .i64 0,.int .i64 0,.int .i64 0,.int .i64 0,.int .i64 0,.int .i64 0,.int .i64 0,.int .i64 0,.int .i64 0,.int .i64 0,.int .i64 0] 248)) w.heap.size oM:=by
 have hb:=heap_alloc_new w (Obj.cells #[.string ⟨#[]⟩,.int .i64 0,.int .i64 0,.int .i64 0,.int .i64 0,.int .i64 0,.int .i64 0,.int .i64 0,.int .i64 0,.int .i64 0,.int .i64 0,.int .i64 0,.int .i64 0] 248);refine⟨fun i hi=>?_,rfl,fun i=>Cb hb i,by simp⟩;rw[Ac hb i];simp[oM]
theorem Xw{P:Program}{fn:Func}{R:Ending->World->Prop}{x:Exit}{act:Act}{S:Nat->Prop}{w0 w:World}{b:Nat}(h:XB w b oM)(T:Touch S w0 w)(hb:w0.heap.size<=b){v0 v1 v2 v3 v4 v5 v6 v7 v8 v9 v10 v11 v12:Value}(H:∀W',XB W' b [v0,v1,v2,v3,v4,v5,v6,v7,v8,v9,v10,v11,v12]->Touch S w0 W'->bodyPost P fn R x act W'):bodyPost P fn R x act (((((((((((((w.setCell ⟨b,0,none⟩ v0).setCell ⟨b,1,none⟩ v1).setCell ⟨b,2,none⟩ v2).setCell ⟨b,3,none⟩ v3).setCell ⟨b,4,none⟩ v4).setCell ⟨b,5,none⟩ v5).setCell ⟨b,6,none⟩ v6).setCell ⟨b,7,none⟩ v7).setCell ⟨b,8,none⟩ v8).setCell ⟨b,9,none⟩ v9).setCell ⟨b,10,none⟩ v10).setCell ⟨b,11,none⟩ v11).setCell ⟨b,12,none⟩ v12):=by
 refine H _ ?_ ?_
 .have:=(((((((((((((h.set 0 v0 (by omega)).set 1 v1 (by omega)).set 2 v2 (by omega)).set 3 v3 (by omega)).set 4 v4 (by omega)).set 5 v5 (by omega)).set 6 v6 (by omega)).set 7 v7 (by omega)).set 8 v8 (by omega)).set 9 v9 (by omega)).set 10 v10 (by omega)).set 11 v11 (by omega)).set 12 v12 (by omega));exact this
 exact(((((((((((((T.Ag hb _).Ag hb _).Ag hb _).Ag hb _).Ag hb _).Ag hb _).Ag hb _).Ag hb _).Ag hb _).Ag hb _).Ag hb _).Ag hb _).Ag hb _)
end Go.Proofs.YtmhlkdlcpicekaaGreatDoor
