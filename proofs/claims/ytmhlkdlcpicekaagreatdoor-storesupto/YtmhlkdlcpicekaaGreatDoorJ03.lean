/- Joined. -/
import Derived.Test.YtmhlkdlcpicekaaGreatDoorJ01
import Derived.Deep.RegionHeld3
import Derived.Deep.AppendSrc
set_option linter.unusedSimpArgs false
set_option linter.unusedVariables false
set_option maxRecDepth 100000
set_option maxHeartbeats 20000000
namespace Go.Proofs.YtmhlkdlcpicekaaGreatDoor
open Go.RowKit
def Rw(x:Nat):Nat:=if x%2=1 then x/2 ^^^ 3988292384 else x/2
def Ls:Nat->Nat->Nat
 |0,x=>x
 |k+1,x=>Rw (Ls k x)
def tab(i:Nat):Nat:=Ls 4 i
theorem Qg3(x:Nat)(h:x<4294967296):Rw x<4294967296:=by
 unfold Rw;split;.exact Nat.xor_lt_two_pow (n:=32) (by omega) (by omega)
 omega
theorem Yu(k x:Nat)(h:x<4294967296):Ls k x<4294967296:=by
 induction k with
 |zero=>exact h
 |succ k ih=>exact Qg3 _ ih
def Vm(f:Nat->Nat):Array Value:=
 #[.int .u32 (f 0:Nat),.int .u32 (f 1:Nat),.int .u32 (f 2:Nat),.int .u32 (f 3:Nat),.int .u32 (f 4:Nat),.int .u32 (f 5:Nat),.int .u32 (f 6:Nat),.int .u32 (f 7:Nat),
  .int .u32 (f 8:Nat),.int .u32 (f 9:Nat),.int .u32 (f 10:Nat),.int .u32 (f 11:Nat),.int .u32 (f 12:Nat),.int .u32 (f 13:Nat),.int .u32 (f 14:Nat),.int .u32 (f 15:Nat)]
theorem Qa4(f:Nat->Nat)(x:Nat)(h:x<16):(Vm f)[x]?=some (.int .u32 (f x:Nat)):=by
 rcases Qcu h with rfl|rfl|rfl|rfl|rfl|rfl|rfl|rfl|rfl|rfl|rfl|rfl|rfl|rfl|rfl|rfl<;>rfl
theorem Qff(f:Nat->Nat)(x y:Nat)(h:x<16):(Vm f).setIfInBounds x (.int .u32 (y:Nat))=Vm (upd f x y):=by
 rcases Qcu h with rfl|rfl|rfl|rfl|rfl|rfl|rfl|rfl|rfl|rfl|rfl|rfl|rfl|rfl|rfl|rfl<;>simp[Vm,upd]
theorem jI{f g:Nat->Nat}(h:∀j,j<16->f j=g j):Vm f=Vm g:=by
 simp only[Vm,h 0 (by omega),h 1 (by omega),h 2 (by omega),h 3 (by omega),h 4 (by omega),h 5 (by omega),h 6 (by omega),h 7 (by omega),h 8 (by omega),h 9 (by omega),h 10 (by omega),h 11 (by omega),h 12 (by omega),h 13 (by omega),h 14 (by omega),h 15 (by omega)]
theorem uZ(f:Nat->Nat):(Vm f).all (fun x=>x.oneCell')=true:=by simp[Vm,Value.oneCell']
theorem Qia(w:World): Calls Tryz.prog 57 #[] w fun e w'=>e=.returned (.agg (Vm tab))/\Below w.heap.size w w':=by
 go_enter Tryz.func57,Tryz.ntmps57;go_wp2;go_loopw [5] (fun i wr=>∃k:Nat,k<=16/\i=.int .i64 (k:Int)/\wr.heap[w.heap.size]?=some (.cells (Vm (fun _=>0)) 135 (0,0))/\wr.heap[w.heap.size+1]?=some (.cells (Vm (fun j=>if j<k then tab j else 0)) 135 (0,0))/\Below w.heap.size w wr) (fun i _=>16-(intOf i).toNat)
 case atStart=>exact⟨0,by omega,rfl,by rw[Below.heap_alloc _ _ _ (by simp)];exact heap_alloc_new w _,heap_alloc2_new w _ _,((Below.refl _ w).alloc (Nat.le_refl _) _).alloc (by simp) _⟩
 case round=>
  obtain⟨k,hk,rfl,r0,r1,hbl⟩:=hrel;by_cases hlt:k<16
  .have R0:Hid (wr.heap[w.heap.size]?=some (.cells (Vm (fun _=>0)) 135 (0,0))):=r0;have R1:Hid (wr.heap[w.heap.size+1]?=some (.cells (Vm (fun j=>if j<k then tab j else 0)) 135 (0,0))):=r1;clear r0 r1;go_wp2;go_loop [3,10] (fun t i=>∃n:Nat,n<=4/\i=.int .i64 (n:Int)/\t=.int .u32 (Ls n k:Nat)) (fun _ i=>4-(intOf i).toNat)
   case atStart=>exact⟨0,by omega,rfl,by simp[Ls]⟩
   case round=>
    obtain⟨n,hn,rfl,rfl⟩:=hrel;have bd:=Yu n k (by omega);obtain⟨x,hx⟩:∃x,x=Ls n k:=⟨_,rfl⟩;have HX:Hid (x=Ls n k):=hx;rw[<-hx]at bd ⊢;clear hx;by_cases hn4:n<4
    .have a1:bits BinOp.and IntKind.u32 (x:Int) 1=((x%2:Nat):Int):=by
      have:=u32_and_nat x 1 bd (by omega);rw[Nat.and_one_is_mod]at this;exact this
     have a2:bits BinOp.xor IntKind.u32 ((x:Int)/2) 3988292384=((x/2 ^^^ 3988292384:Nat):Int):=by
      have:=u32_xor_nat (x/2) 3988292384 (by omega) (by omega);have e:((x:Int)/2)=((x/2:Nat):Int):=(by omega);rw[e];exact this
     by_cases hb:x%2=1
     .go_wp2;go_round
      case rel=>exact⟨n+1,by omega,by go_num,by rw[show Ls (n+1) k=Rw (Ls n k) from rfl,<-HX.out];unfold Rw;rw[if_pos hb]⟩
      case measure=>simp[intOf];omega
     go_wp2;go_round
     case rel=>exact⟨n+1,by omega,by go_num,by rw[show Ls (n+1) k=Rw (Ls n k) from rfl,<-HX.out];unfold Rw;rw[if_neg hb];go_num⟩
     case measure=>simp[intOf];omega
    obtain rfl:n=4:=by omega
    have r0:=R0.out;have r1:=R1.out;have q1:wr.cell? ⟨w.heap.size+1,k,none⟩=some (.int .u32 0):=(by rw[Ac r1,Qa4 _ _ (by omega),if_neg (by omega)];rfl);have q2:=Ew r1 k;go_wp2;go_roundw
    case rel=>
     refine⟨k+1,by omega,by go_num,by rw[row_ne (by omega)];exact r0,?_,hbl.setCell (by simp) _⟩;rw[Dz r1,Qff _ _ _ hlt];congr 2;refine jI fun j hj=>?_;unfold upd;by_cases e:j=k;.rw[if_pos e,if_pos (by omega),e,HX.out];rfl
     rw[if_neg e];show(if j<k then tab j else 0)=_;by_cases e2:j<k;.rw[if_pos e2,if_pos (by omega)]
     rw[if_neg e2,if_neg (by omega)]
    case measure=>simp[intOf];omega
  obtain rfl:k=16:=by omega
  go_wp2_with (first|(refine wpList_load_row rfl 135 (.tmp 1) rfl (w.heap.size+1) rfl 135 _ (0,0) _ r1 Tryz.underlying135 rfl (by kernel_rfl) ?_)|(refine wpList_store_row rfl 135 (.tmp 0) (.tmp 25) rfl w.heap.size _ rfl rfl 135 _ r0 (by kernel_rfl) rfl (uZ _) ?_));refine bodyPost_ret (v:=.agg (Vm (fun j=>if j<16 then tab j else 0))) (results_cell_row Tryz.results57 _ _ w.heap.size 135 _ (0,0) _ rfl (setRow_heap _ _ _ _ _ _ r0) Tryz.underlying135 rfl (by kernel_rfl)) rfl ⟨?_,?_⟩;.rw[jI (g:=tab) (fun j hj=>by rw[if_pos hj])]
  exact hbl.trans ⟨rfl,rfl,rfl,by simp,fun k hk=>setRow_other _ _ _ _ (by omega)⟩
def jO(y:Nat):Nat:=y/16 ^^^ tab (y%16)
def lY(x:Nat)(c:UInt8):Nat:=jO (jO (x ^^^ c.toNat))
def Tu(l:List UInt8):Nat:=l.foldl lY 4294967295
def sumOf(s:ByteArray):Nat:=4294967295 ^^^ Tu s.data.toList
theorem iJ(y:Nat)(h:y<4294967296):jO y<4294967296:=Nat.xor_lt_two_pow (n:=32) (by omega) (Yu 4 _ (by omega))
theorem Qd6(x:Nat)(c:UInt8)(h:x<4294967296):lY x c<4294967296:=iJ _ (iJ _ (Nat.xor_lt_two_pow (n:=32) h (by have:=c.toNat_lt;omega)))
theorem Qem(l:List UInt8)(x:Nat)(h:x<4294967296):l.foldl lY x<4294967296:=by
 induction l generalizing x with
 |nil=>exact h
 |cons c l ih=>exact ih _ (Qd6 x c h)
theorem Vx(l:List UInt8):Tu l<4294967296:=Qem l _ (by omega)
theorem take_snoc(s:ByteArray)(k:Nat)(h:k<s.size):s.data.toList.take (k+1)=s.data.toList.take k++[s[k]]:=by
 rw[List.take_succ_eq_append_getElem (by simpa using h)];rfl
theorem jV(l:List UInt8)(c:UInt8):Tu (l++[c])=lY (Tu l) c:=by simp[Tu]
theorem Qdx(y:Nat)(h:y<4294967296):bits BinOp.and IntKind.u32 (y:Int) 15=((y%16:Nat):Int):=by
 have:=u32_and_nat y 15 h (by omega);rw[show(15:Nat)=2^4-1 from rfl,Nat.and_two_pow_sub_one_eq_mod]at this;exact this
theorem lJ(w:World)(a b:Array Value)(t:TypeId):(w.alloc (.cells a t)).setRow w.heap.size b=w.alloc (.cells b t):=by
 simp only[World.setRow,World.alloc];congr 1;apply Array.ext;.simp
 intro i h1 h2;simp only[Array.getElem_modify];by_cases e:w.heap.size=i;.subst e;simp
 rw[if_neg e];simp at h1;rw[Array.getElem_push_lt (by omega),Array.getElem_push_lt (by omega)]
theorem Qh6(w:World)(s:ByteArray)(hs:s.size<=maxLen): Calls Tryz.prog 24 #[.string s] w fun e w'=>e=.returned (.int .u32 (sumOf s:Nat))/\Below w.heap.size w w':=by
 unfold maxLen at hs;go_enter Tryz.func24,Tryz.ntmps24;go_wp2_with fail;refine(Qia w).mono ?_;rintro e w1 ⟨rfl,b1⟩;go_wp2_with (refine wpList_store_row rfl 135 (.tmp 3) (.tmp 6) rfl w1.heap.size _ rfl rfl 135 _ (heap_alloc_new w1 _) (by kernel_rfl) rfl (uZ _) ?_;rw[lJ]);have r1:=heap_alloc_new w1 (.cells (Vm tab) 135);have b2:Below w.heap.size w (w1.alloc (.cells (Vm tab) 135)):=b1.alloc b1.size _;obtain⟨W,hW⟩:∃W,W=w1.alloc (.cells (Vm tab) 135):=⟨_,rfl⟩;rw[<-hW]at r1 b2 ⊢;clear hW;have hcell:∀j,j<16->W.cell? ⟨w1.heap.size,j,none⟩=some (.int .u32 (tab j:Nat)):=fun j hj=>by rw[Ac r1,Qa4 _ _ hj]
 clear r1;go_loop [4,9] (fun t i=>∃k:Nat,k<=s.size/\i=.int .i64 (k:Int)/\t=.int .u32 (Tu (s.data.toList.take k):Nat)) (fun _ i=>s.size-(intOf i).toNat)
 case atStart=>exact⟨0,Nat.zero_le _,rfl,rfl⟩
 case round=>
  obtain⟨k,hk,rfl,rfl⟩:=hrel;have bd:=Vx (s.data.toList.take k);obtain⟨x,hx⟩:∃x,x=Tu (s.data.toList.take k):=⟨_,rfl⟩;have HX:Hid (x=Tu (s.data.toList.take k)):=hx;rw[<-hx]at bd ⊢;clear hx;by_cases hlt:k<s.size
  .have hc:=s[k].toNat_lt;obtain⟨y,hy⟩:∃y,y=x ^^^ s[k].toNat:=⟨_,rfl⟩;have by1:y<4294967296:=by rw[hy];exact Nat.xor_lt_two_pow (n:=32) bd (by omega)
   have a1:bits BinOp.xor IntKind.u32 (x:Int) (s[k].toNat:Int)=(y:Int):=by rw[hy];exact u32_xor_nat x s[k].toNat bd (by omega)
   have a2:=Qdx y by1;have t1:=hcell (y%16) (by omega);have tl:tab (y%16)<4294967296:=Yu 4 _ (by omega);obtain⟨z,hz⟩:∃z,z=jO y:=⟨_,rfl⟩;have bz:z<4294967296:=by rw[hz];exact iJ y by1
   have a3:bits BinOp.xor IntKind.u32 ((y:Int)/16) ((tab (y%16):Nat):Int)=(z:Int):=by
    have e:((y:Int)/16)=((y/16:Nat):Int):=(by omega);rw[e,hz];exact u32_xor_nat (y/16) (tab (y%16)) (by omega) tl
   have a4:=Qdx z bz;have t2:=hcell (z%16) (by omega);have tl2:tab (z%16)<4294967296:=Yu 4 _ (by omega);obtain⟨v,hv⟩:∃v,v=jO z:=⟨_,rfl⟩;have a5:bits BinOp.xor IntKind.u32 ((z:Int)/16) ((tab (z%16):Nat):Int)=(v:Int):=by
    have e:((z:Int)/16)=((z/16:Nat):Int):=(by omega);rw[e,hv];exact u32_xor_nat (z/16) (tab (z%16)) (by omega) tl2
   have m1:y%16<16:=by omega
   have m2:z%16<16:=by omega
   have HS:Hid (Tu (s.data.toList.take (k+1))=v):=by
    unfold Hid;rw[take_snoc s k hlt,jV,<-HX.out,hv,hz,hy];rfl
   clear hy hz hv hcell;go_wp2;go_round
   case rel=>exact⟨k+1,by omega,by go_num,by rw[HS.out]⟩
   case measure=>simp[intOf];omega
  obtain rfl:k=s.size:=by omega
  have a1:bits BinOp.xor IntKind.u32 IntKind.u32.max (x:Int)=((4294967295 ^^^ x:Nat):Int):=u32_xor_nat 4294967295 x (by omega) bd;have HS:Hid (sumOf s=4294967295 ^^^ x):=by
   unfold Hid sumOf;rw[HX.out,List.take_of_length_le (by simp)]
  go_wp2;go_ret;exact⟨by rw[HS.out];simp[a1],b2⟩
theorem Qat(w:World)(n P:Nat)(HP:Hid (P=2^n))(hn:n<=60):Calls Tryz.prog 217 #[.int .i64 (n:Int)] w fun e w'=>e=.returned (.int .i64 (P:Int))/\w'=w:=by
 go_enter Tryz.func217,Tryz.ntmps217;go_wp2;go_loop [3,4] (fun t i=>∃k x:Nat,k<=n/\i=.int .i64 (k:Int)/\t=.int .i64 (x:Int)/\x<=1152921504606846976/\Hid (x=2^k)) (fun _ i=>n-(intOf i).toNat)
 case atStart=>exact⟨0,1,by omega,rfl,rfl,by omega,rfl⟩
 case round=>
  obtain⟨k,x,hk,rfl,rfl,hx,HX⟩:=hrel;by_cases hlt:k<n
  .have hx2:2*x<=1152921504606846976:=by
    have:2^(k+1)<=2^60:=Nat.pow_le_pow_right (by omega) (by omega);rw[Nat.pow_succ,<-HX.out]at this;omega
   go_wp2;go_round
   case rel=>exact⟨k+1,2*x,by omega,by go_num,by go_num,hx2,by unfold Hid;rw[HX.out,Nat.pow_succ,Nat.mul_comm]⟩
   case measure=>simp[intOf];omega
  obtain rfl:k=n:=by omega
  obtain rfl:x=P:=by rw[HX.out,HP.out]
  go_wp2;go_ret;exact⟨rfl,rfl⟩
theorem Qas(a b:Nat)(ha:a<4294967296)(hb:b<4294967296):bits BinOp.xor IntKind.i64 (a:Int) (b:Int)=((a ^^^ b:Nat):Int):=by
 have hx:a ^^^ b<2^32:=Nat.xor_lt_two_pow (by omega) (by omega);have h1:(BitVec.ofInt 64 (a:Int)).toNat=a:=by
  rw[BitVec.ofInt_natCast,BitVec.toNat_ofNat];exact Nat.mod_eq_of_lt (by omega)
 have h2:(BitVec.ofInt 64 (b:Int)).toNat=b:=by
  rw[BitVec.ofInt_natCast,BitVec.toNat_ofNat];exact Nat.mod_eq_of_lt (by omega)
 show IntKind.i64.wrap ((BitVec.ofInt 64 (a:Int) ^^^ BitVec.ofInt 64 (b:Int)).toNat:Int)=_;rw[BitVec.toNat_xor,h1,h2];simp[IntKind.wrap,IntKind.bits,IntKind.signed];omega
theorem Qde(a b:Nat):(a ^^^ b)/2=a/2 ^^^ b/2:=by
 have:=Nat.shiftRight_xor_distrib (a:=a) (b:=b) (i:=1);simpa [Nat.shiftRight_eq_div_pow]using this
theorem Qdp(a b:Nat):(a ^^^ b)%2=a%2 ^^^ b%2:=by
 have:=Nat.xor_mod_two_pow (a:=a) (b:=b) (n:=1);simpa using this
theorem Qcg(a b:Nat):(a ^^^ b)/16=a/16 ^^^ b/16:=by
 have:=Nat.shiftRight_xor_distrib (a:=a) (b:=b) (i:=4);simpa [Nat.shiftRight_eq_div_pow]using this
theorem Qc4(a b:Nat):(a ^^^ b)%16=a%16 ^^^ b%16:=by
 have:=Nat.xor_mod_two_pow (a:=a) (b:=b) (n:=4);simpa using this
theorem Qd0(a b:Nat):Rw (a ^^^ b)=Rw a ^^^ Rw b:=by
 unfold Rw;rw[Qde,Qdp];rcases Nat.mod_two_eq_zero_or_one a with ha|ha<;>rcases Nat.mod_two_eq_zero_or_one b with hb|hb;.rw[ha,hb];simp
 .rw[ha,hb,if_pos (by decide),if_neg (by decide),if_pos rfl];ac_rfl
 .rw[ha,hb,if_pos (by decide),if_pos rfl,if_neg (by decide)];ac_rfl
 rw[ha,hb,if_neg (by decide),if_pos rfl,if_pos rfl];have:(a/2 ^^^ 3988292384) ^^^ (b/2 ^^^ 3988292384)=(3988292384 ^^^ 3988292384) ^^^ (a/2 ^^^ b/2):=by ac_rfl
 rw[this,Nat.xor_self,Nat.zero_xor]
theorem Qfs(k a b:Nat):Ls k (a ^^^ b)=Ls k a ^^^ Ls k b:=by
 induction k with
 |zero=>rfl
 |succ k ih=>simp only[Ls,ih,Qd0]
theorem Qg1(x:Nat):x=(16*(x/16)) ^^^ (x%16):=by
 have h1:=Qcg (16*(x/16)) (x%16);have h2:=Qc4 (16*(x/16)) (x%16);rw[show 16*(x/16)/16=x/16 by omega,show x%16/16=0 by omega,Nat.xor_zero]at h1;rw[show 16*(x/16)%16=0 by omega,show x%16%16=x%16 by omega,Nat.zero_xor]at h2;omega
theorem vZ(x:Nat):Ls 4 x=jO x:=by
 unfold jO tab
 conv=>lhs;rw[Qg1 x,Qfs]
 congr 1;generalize x/16=q;have e:∀m,Rw (2*m)=m:=fun m=>by unfold Rw;rw[if_neg (by omega)];omega
 show Rw (Rw (Rw (Rw (16*q))))=q;rw[show 16*q=2*(2*(2*(2*q))) by omega,e,e,e,e]
theorem Qen(j k x:Nat):Ls (j+k) x=Ls j (Ls k x):=by
 induction j with
 |zero=>simp[Ls]
 |succ j ih=>rw[show j+1+k=(j+k)+1 by omega];simp only[Ls,ih]
theorem Qb0(x:Nat)(c:UInt8):Ls 8 (x ^^^ c.toNat)=lY x c:=by
 unfold lY;rw[show(8:Nat)=4+4 from rfl,Qen,vZ,vZ]
theorem Qjd(x:Nat)(h:x<4294967296):4294967295 ^^^ x=4294967295-x:=by
 have h1:(BitVec.allOnes 32 ^^^ BitVec.ofNat 32 x).toNat=4294967295 ^^^ x:=by
  rw[BitVec.toNat_xor,BitVec.toNat_ofNat,Nat.mod_eq_of_lt (by omega)];rfl
 rw[<-h1,BitVec.allOnes_xor,BitVec.toNat_not,BitVec.toNat_ofNat,Nat.mod_eq_of_lt (by omega)]
theorem xU(w:World)(s:ByteArray)(hs:s.size<=maxLen): Calls Tryz.prog 95 #[.string s] w fun e w'=>e=.returned (.int .i64 (sumOf s:Nat))/\w'=w:=by
 unfold maxLen at hs;go_enter Tryz.func95,Tryz.ntmps95;go_wp2;go_loop [3,4] (fun t i=>∃k:Nat,k<=s.size/\i=.int .i64 (k:Int)/\t=.int .i64 (Tu (s.data.toList.take k):Nat)) (fun _ i=>s.size-(intOf i).toNat)
 case atStart=>exact⟨0,Nat.zero_le _,rfl,rfl⟩
 case round=>
  obtain⟨k,hk,rfl,rfl⟩:=hrel;have bd:=Vx (s.data.toList.take k);obtain⟨x,hx⟩:∃x,x=Tu (s.data.toList.take k):=⟨_,rfl⟩;have HX:Hid (x=Tu (s.data.toList.take k)):=hx;rw[<-hx]at bd ⊢;clear hx;by_cases hlt:k<s.size
  .have hc:=s[k].toNat_lt;obtain⟨y,hy⟩:∃y,y=x ^^^ s[k].toNat:=⟨_,rfl⟩;have by1:y<4294967296:=by rw[hy];exact Nat.xor_lt_two_pow (n:=32) bd (by omega)
   have a1:bits BinOp.xor IntKind.i64 (x:Int) (s[k].toNat:Int)=(y:Int):=by rw[hy];exact Qas x s[k].toNat bd (by omega)
   have HY:Hid (y=x ^^^ s[k].toNat):=hy;clear hy;go_wp2;go_loop [3,5] (fun t i=>∃n:Nat,n<=8/\i=.int .i64 (n:Int)/\t=.int .i64 (Ls n y:Nat)) (fun _ i=>8-(intOf i).toNat)
   case atStart=>exact⟨0,by omega,rfl,rfl⟩
   case round=>
    obtain⟨n,hn,rfl,rfl⟩:=hrel;have bn:=Yu n y by1;obtain⟨z,hz⟩:∃z,z=Ls n y:=⟨_,rfl⟩;have HZ:Hid (z=Ls n y):=hz;rw[<-hz]at bn ⊢;clear hz;by_cases hn8:n<8
    .have a2:bits BinOp.xor IntKind.i64 ((z:Int)/2) 3988292384=((z/2 ^^^ 3988292384:Nat):Int):=by
      have:=Qas (z/2) 3988292384 (by omega) (by omega);have e:((z:Int)/2)=((z/2:Nat):Int):=(by omega);rw[e];exact this
     by_cases hb:z%2=1
     .go_wp2;go_round
      case rel=>exact⟨n+1,by omega,by go_num,by rw[show Ls (n+1) y=Rw (Ls n y) from rfl,<-HZ.out];unfold Rw;rw[if_pos hb]⟩
      case measure=>simp[intOf];omega
     go_wp2;go_round
     case rel=>exact⟨n+1,by omega,by go_num,by rw[show Ls (n+1) y=Rw (Ls n y) from rfl,<-HZ.out];unfold Rw;rw[if_neg hb];go_num⟩
     case measure=>simp[intOf];omega
    obtain rfl:n=8:=by omega
    have HS:Hid (Tu (s.data.toList.take (k+1))=z):=by
     unfold Hid;rw[take_snoc s k hlt,jV,<-HX.out,<-Qb0,<-HY.out,<-HZ.out]
    go_wp2;go_round
    case rel=>exact⟨k+1,by omega,by go_num,by rw[HS.out]⟩
    case measure=>simp[intOf];omega
  obtain rfl:k=s.size:=by omega
  have HS:Hid (sumOf s=4294967295-x):=by
   unfold Hid sumOf;rw[HX.out,List.take_of_length_le (by simp),Qjd _ (Vx _)]
  go_wp2;go_ret;exact⟨Uh (by rw[HS.out];omega),rfl⟩
theorem Ru(w:World)(b:Nat)(k:Int)(h4:w.cell? ⟨b,4,none⟩=some (.int .i64 0))(f4:w.frozen? ⟨b,4,none⟩=false): Calls Tryz.prog 153 #[.pointer (some ⟨b,0,none⟩),.int .i64 k] w fun e w'=>e=.returned (.tuple #[])/\w'=w.setCell ⟨b,4,none⟩ (.int .i64 k):=by
 go_enter Tryz.func153,Tryz.ntmps153;go_wp2;go_end0;exact⟨rfl,rfl⟩
structure RB (w:World) (b:Nat) (s:ByteArray) (p:Nat):Prop where
 c0:w.cell? ⟨b,0,none⟩=some (.string s)
 c1:w.cell? ⟨b,1,none⟩=some (.int .i64 ((min p (8*s.size):Nat):Int))
 c4:w.cell? ⟨b,4,none⟩=some (.int .i64 ((if p<=8*s.size then 0 else 1:Nat):Int))
 fr:∀o,w.frozen? ⟨b,o,none⟩=false
structure BT (b:Nat) (w w':World):Prop where
 t:Touch (·=b) w w'
 keep:∀o,o≠1->o≠4->w'.cell? ⟨b,o,none⟩=w.cell? ⟨b,o,none⟩
 fr:∀o,w'.frozen? ⟨b,o,none⟩=w.frozen? ⟨b,o,none⟩
theorem BT.refl(b:Nat)(w:World):BT b w w:=⟨Touch.refl _ _,fun _ _ _=>rfl,fun _=>rfl⟩
theorem BT.trans{b:Nat}{x y z:World}(h:BT b x y)(k:BT b y z):BT b x z:=
 ⟨h.t.trans k.t,fun o h1 h4=>(k.keep o h1 h4).trans (h.keep o h1 h4),fun o=>(k.fr o).trans (h.fr o)⟩
theorem BT.drewN{b:Nat}{x y:World}(h:BT b x y)(n:Nat):BT b x (y.drewN n):=⟨h.t.drewN n,h.keep,h.fr⟩
theorem BT.set{b:Nat}{x y:World}(h:BT b x y)(i:Nat)(hi:i=1\/i=4)(v:Value):BT b x (y.setCell ⟨b,i,none⟩ v) :=⟨h.t.setCell rfl v,fun o h1 h4=>(Aq (by omega)).trans (h.keep o h1 h4),fun o=>by rw[World.frozen?_setCell];exact h.fr o⟩
theorem Qcj(w:World)(b:Nat)(s:ByteArray)(h4:w.cell? ⟨b,4,none⟩=some (.int .i64 1)): Calls Tryz.prog 147 #[.pointer (some ⟨b,0,none⟩)] w fun e w'=>e=.returned (.int .i64 0)/\∃n,w'=w.drewN n:=by
 go_enter Tryz.func147,Tryz.ntmps147;go_wp2;go_quiet (fail);go_wp2;go_ret;exact⟨rfl,_,rfl⟩
theorem Qds(w:World)(b:Nat)(s:ByteArray)(hs:s.size<=2147483648)(h0:w.cell? ⟨b,0,none⟩=some (.string s))(h1:w.cell? ⟨b,1,none⟩=some (.int .i64 ((8*s.size:Nat):Int)))(h4:w.cell? ⟨b,4,none⟩=some (.int .i64 0))(f4:w.frozen? ⟨b,4,none⟩=false): Calls Tryz.prog 147 #[.pointer (some ⟨b,0,none⟩)] w fun e w'=>e=.returned (.int .i64 0)/\∃n,w'=(w.drewN n).setCell ⟨b,4,none⟩ (.int .i64 1):=by
 go_enter Tryz.func147,Tryz.ntmps147;go_wp2;go_quiet (fail);go_wp2_with (go_at_call 153;refine(Ru (w.drewN nq) b 1 h4 f4).mono ?_;rintro e w' ⟨rfl,rfl⟩);go_ret;exact⟨rfl,_,rfl⟩
theorem Qgu(w:World)(b:Nat)(s:ByteArray)(p k j:Nat)(hp:p=8*k+j)(hj:j<8)(hk:k<s.size)(hs:s.size<=2147483648)(h0:w.cell? ⟨b,0,none⟩=some (.string s))(h1:w.cell? ⟨b,1,none⟩=some (.int .i64 (p:Int)))(h4:w.cell? ⟨b,4,none⟩=some (.int .i64 0))(f1:w.frozen? ⟨b,1,none⟩=false)(v:Nat)(HV:Hid (v=s[k].toNat/2^j%2)): Calls Tryz.prog 147 #[.pointer (some ⟨b,0,none⟩)] w fun e w'=>e=.returned (.int .i64 (v:Int))/\∃n,w'=(w.drewN n).setCell ⟨b,1,none⟩ (.int .i64 ((p+1:Nat):Int)):=by
 obtain⟨P,hP⟩:∃P,P=2^j:=⟨_,rfl⟩;have HP:Hid (P=2^j):=hP;have P1:1<=P:=by rw[hP];exact Nat.one_le_two_pow
 have e1:(p:Int)/8=(k:Int):=by omega
 have e2:(p:Int)%8=(j:Int):=by omega
 have hc:=s[k].toNat_lt;have e3:(s[k].toNat:Int)/(P:Int)%2=(v:Int):=by rw[HV.out,<-hP];push_cast;rfl
 have vb:v<=1:=by rw[HV.out];omega
 have lt:¬8*(s.size:Int)<=(p:Int):=by omega
 have pl:p<=17179869184:=by omega
 have HPP:Hid (p=8*k+j):=hp;have kk:(k:Int)<(s.size:Int):=by omega
 have P2:¬(P:Int)=0:=by omega
 have P3:((P:Int)==0)=false:=by simp;omega
 have P4:(1:Int)<=(P:Int):=by omega
 have k0:(0:Int)<=(k:Int):=by omega
 have wr1:∀n:Int,0<=n->n<4611686018427387904->IntKind.i64.wrap n=n:=by intro n h0 h1;simp[IntKind.wrap,IntKind.bits,IntKind.signed];omega
 have q1:IntKind.i64.wrap (k:Int)=(k:Int):=wr1 _ (by omega) (by omega);have q0:IntKind.i64.wrap (s[k].toNat:Int)=(s[k].toNat:Int):=wr1 _ (by omega) (by omega);have q2:IntKind.i64.wrap (j:Int)=(j:Int):=wr1 _ (by omega) (by omega);have d0:(0:Int)<=(s[k].toNat:Int)/(P:Int):=Int.ediv_nonneg (by omega) (by omega);have d1:(s[k].toNat:Int)/(P:Int)<=(s[k].toNat:Int):=Int.ediv_le_self _ (by omega);have q3:IntKind.i64.wrap ((s[k].toNat:Int)/(P:Int))=(s[k].toNat:Int)/(P:Int):=wr1 _ d0 (by omega);have q4:IntKind.i64.wrap (v:Int)=(v:Int):=wr1 _ (by omega) (by omega);have q5:(s[k].toNat:Int).tdiv (P:Int)=(s[k].toNat:Int)/(P:Int):=Int.tdiv_eq_ediv_of_nonneg (by omega);have q6:((s[k].toNat:Int)/(P:Int)).tmod 2=(v:Int):=by rw[Int.tmod_eq_emod_of_nonneg d0];exact e3
 have q7:(p:Int).tdiv 8=(k:Int):=by rw[Int.tdiv_eq_ediv_of_nonneg (by omega)];exact e1
 have q8:(p:Int).tmod 8=(j:Int):=by rw[Int.tmod_eq_emod_of_nonneg (by omega)];exact e2
 clear wr1;clear hP hp HV;go_enter Tryz.func147,Tryz.ntmps147;go_wp2;go_quiet (fail);go_wp2;go_quiet ((go_at_call 217;exact(Qat _ j P HP (by omega)).mono fun _ _ hh=>⟨hh.1,_,hh.2⟩));go_wp2;go_ret;exact⟨rfl,_,by push_cast;rfl⟩
theorem Qic(w:World)(b:Nat)(s:ByteArray)(p:Nat)(hs:s.size<=2147483648)(h:RB w b s p): Calls Tryz.prog 147 #[.pointer (some ⟨b,0,none⟩)] w fun e w'=>e=.returned (.int .i64 (Ea s p:Nat))/\RB w' b s (p+1)/\BT b w w':=by
 obtain⟨c0,c1,c4,fr⟩:=h;by_cases h1:8*s.size<p
 .rw[if_neg (by omega)]at c4;refine(Qcj w b s c4).mono ?_;rintro e w' ⟨rfl,n,rfl⟩;refine⟨by rw[bZ s p (by omega)];rfl,⟨c0,?_,?_,fr⟩,(BT.refl b w).drewN n⟩;.rw[show min (p+1) (8*s.size)=min p (8*s.size) by omega];exact c1
  rw[if_neg (by omega)];exact c4
 rw[if_pos (by omega)]at c4;by_cases h2:p=8*s.size
 .rw[show min p (8*s.size)=8*s.size by omega]at c1;refine(Qds w b s hs c0 c1 c4 (fr 4)).mono ?_;rintro e w' ⟨rfl,n,rfl⟩;refine⟨by rw[bZ s p (by omega)];rfl,⟨?_,?_,?_,?_⟩,((BT.refl b w).drewN n).set 4 (Or.inr rfl) _⟩;.simp[Ad,Cc,c0]
  .rw[show min (p+1) (8*s.size)=8*s.size by omega];simp[Ad,Cc,c1]
  .rw[if_neg (by omega)];simp[Ad,Cc,c4]
  intro o;rw[World.frozen?_setCell];exact fr o
 rw[show min p (8*s.size)=p by omega]at c1;have hk:p/8<s.size:=by omega
 refine(Qgu w b s p (p/8) (p%8) (by omega) (by omega) hk hs c0 c1 c4 (fr 1) (Ea s p) (by unfold Hid Ea;rw[dif_pos hk])).mono ?_;rintro e w' ⟨rfl,n,rfl⟩;refine⟨rfl,⟨?_,?_,?_,?_⟩,((BT.refl b w).drewN n).set 1 (Or.inl rfl) _⟩;.simp[Ad,Cc,c0]
 .rw[show min (p+1) (8*s.size)=p+1 by omega];simp[Ad,Cc,c1]
 .rw[if_pos (by omega)];simp[Ad,Cc,c4]
 intro o;rw[World.frozen?_setCell];exact fr o
theorem sF(w:World)(b:Nat)(s:ByteArray)(p v:Nat)(hv:Ea s p=v)(hs:s.size<=2147483648)(h:RB w b s p): Calls Tryz.prog 147 #[.pointer (some ⟨b,0,none⟩)] w fun e w'=>e=.returned (.int .i64 (v:Int))/\RB w' b s (p+1)/\BT b w w':=by
 subst hv;exact Qic w b s p hs h
theorem Qu(w:World)(n P:Nat)(HP:Hid (P=2^n))(hn:n<=60):Calls Tryz.prog 217 #[.int .i64 (n:Int)] w fun e w'=>e=.returned (.int .i64 (P:Int))/\w=w':=
 (Qat w n P HP hn).mono fun _ _ h=>⟨h.1,h.2.symm⟩
theorem Qbm(w:World)(b:Nat)(s:ByteArray)(p n:Nat)(hn:n<=16)(hs:s.size<=2147483648)(h:RB w b s p): Calls Tryz.prog 148 #[.pointer (some ⟨b,0,none⟩),.int .i64 (n:Int)] w fun e w'=>e=.returned (.int .i64 (numAt s p n:Nat))/\RB w' b s (p+n)/\BT b w w':=by
 go_enter Tryz.func148,Tryz.ntmps148;go_wp2;go_loopw [5,6] (fun t i wr=>∃k:Nat,k<=n/\i=.int .i64 (k:Int)/\t=.int .i64 (numAt s p k:Nat)/\RB wr b s (p+k)/\BT b w wr) (fun _ i _=>n-(intOf i).toNat)
 case atStart=>exact⟨0,by omega,rfl,rfl,h,BT.refl _ _⟩
 case round=>
  obtain⟨k,hk,rfl,rfl,hrb,hbt⟩:=hrel;by_cases hlt:k<n
  .obtain⟨P,hP⟩:∃P,P=2^k:=⟨_,rfl⟩;have HP:Hid (P=2^k):=hP;have P2:P<=65536:=by rw[hP];exact Nat.le_trans (Nat.pow_le_pow_right (by omega) (show k<=16 by omega)) (by decide)
   obtain⟨x,hx⟩:∃x,x=numAt s p k:=⟨_,rfl⟩;have bx:=Dl s p k;rw[<-hx,<-hP]at bx;obtain⟨v,hv⟩:∃v,v=Ea s (p+k):=⟨_,rfl⟩;have bv:=Sm s (p+k);rw[<-hv]at bv;obtain⟨z,hz⟩:∃z,z=v*P:=⟨_,rfl⟩;have bz:z<=65536:=by rw[hz];have:v*P<=1*P:=Nat.mul_le_mul_right _ (by omega);omega
   have e1:(v:Int)*(P:Int)=(z:Int):=by rw[hz];push_cast;rfl
   have HN:Hid (numAt s p (k+1)=x+z):=by unfold Hid;rw[hz,hx,hv,hP];rfl
   have HV:Hid (Ea s (p+k)=v):=hv.symm;rw[<-hx];clear hP hx hv hz;go_wp2_with (first|(go_at_call 147;refine(sF _ b s (p+k) v HV.out hs hrb).mono ?_;rintro e w1 ⟨rfl,r1,t1⟩)|(go_at_call 217;refine(Qu _ k P HP (by omega)).mono ?_;rintro e w2 ⟨rfl,rfl⟩));go_roundw
   case rel=>exact⟨k+1,by omega,by go_num,by rw[HN.out];go_num,r1,hbt.trans t1⟩
   case measure=>simp[intOf];omega
  obtain rfl:k=n:=by omega
  go_wp2;go_ret;exact⟨by simp,hrb,hbt⟩
def byteAt(s:ByteArray)(i:Nat):Nat:=if h:i<s.size then s[i].toNat else 0
def Hr(s:ByteArray)(a:Nat):Nat->Nat
 |0=>0
 |m+1=>byteAt s a+256*Hr s (a+1) m
theorem bT(s:ByteArray)(i:Nat):byteAt s i<256:=by
 unfold byteAt;split;.exact s[i].toNat_lt
 omega
theorem gV(s:ByteArray):∀(m a:Nat),Hr s a m<256^m
 |0,a=>by simp[Hr]
 |m+1,a=>by
  have:=gV s m (a+1);have:=bT s a;simp only[Hr,Nat.pow_succ];omega
theorem Qa5(s:ByteArray):∀(k a m:Nat),k<=m->Hr s (a+k) (m-k)*256^k<=Hr s a m
 |0,a,m,_=>by simp
 |k+1,a,m,h=>by
  obtain⟨m',rfl⟩:∃m',m=m'+1:=⟨m-1,by omega⟩;have ih:=Qa5 s k (a+1) m' (by omega);rw[show a+(k+1)=a+1+k by omega,show m'+1-(k+1)=m'-k by omega,Nat.pow_succ,<-Nat.mul_assoc];simp only[Hr];have:Hr s (a+1+k) (m'-k)*256^k*256<=Hr s (a+1) m'*256:=Nat.mul_le_mul_right _ ih;omega
def Aa(s:ByteArray)(a n:Nat):Nat:=min (Hr s a n) 9223372036854775807
theorem mO(w:World)(s:ByteArray)(A N:Int)(hs:s.size<=140737488355328)(h:A<0\/(s.size:Int)<A+N)(hA:-4611686018427387904<=A/\A<=4611686018427387904)(hN:0<=N/\N<=8): Calls Tryz.prog 224 #[.string s,.int .i64 A,.int .i64 N] w fun e w'=>e=.returned (.int .i64 (-1))/\w=w':=by
 by_cases h1:A<0
 .go_enter Tryz.func224,Tryz.ntmps224;go_wp2;go_ret;exact⟨rfl,rfl⟩
 have h2:(s.size:Int)<A+N:=by omega
 go_enter Tryz.func224,Tryz.ntmps224;go_wp2;go_ret;exact⟨rfl,rfl⟩
theorem Au(w:World)(s:ByteArray)(a n:Nat)(A N:Int)(hA:A=(a:Int))(hN:N=(n:Int))(hs:s.size<=140737488355328)(h:a+n<=s.size)(hn:n<=8)(h1:1<=n): Calls Tryz.prog 224 #[.string s,.int .i64 A,.int .i64 N] w fun e w'=>e=.returned (.int .i64 (Aa s a n:Nat))/\w=w':=by
 subst hA hN;have a1:¬(a:Int)<0:=by omega
 have a2:¬(s.size:Int)<(a:Int)+(n:Int):=by omega
 have a3:¬(s.size:Int)<(a:Int):=by omega
 obtain⟨V,hV⟩:∃V,V=Aa s a n:=⟨_,rfl⟩;have HV:Hid (V=Aa s a n):=hV;rw[<-hV];clear hV;go_enter Tryz.func224,Tryz.ntmps224;go_wp2;go_loop [7,8] (fun t i=>∃k x:Nat,k<=n/\i=.int .i64 ((k:Int)-1)/\t=.int .i64 (x:Int)/\x<=9223372036854775807/\Hid (x=Hr s (a+k) (n-k))) (fun _ i=>(intOf i+1).toNat)
 case atStart=>exact⟨n,0,Nat.le_refl _,rfl,rfl,by omega,by unfold Hid;rw[Nat.sub_self];rfl⟩
 case round=>
  obtain⟨k,x,hk,rfl,rfl,hx,HX⟩:=hrel;by_cases hk0:k=0
  .subst hk0;have HE:Hid (V=x):=by unfold Hid;rw[HV.out];unfold Aa;have:=HX.out;simp at this;rw[<-this];omega
   go_wp2;go_ret;exact⟨by rw[HE.out];rfl,rfl⟩
  obtain⟨i,rfl⟩:∃i,k=i+1:=⟨k-1,by omega⟩;have ei:((i+1:Nat):Int)-1=(i:Int):=by omega
  rw[ei];have hi:a+i<s.size:=by omega
  have c:=s[a+i].toNat_lt;have HC:Hid (byteAt s (a+i)=s[a+i].toNat):=by unfold Hid byteAt;rw[dif_pos hi]
  have HL:Hid (Hr s (a+i) (n-i)=byteAt s (a+i)+256*x):=by
   unfold Hid;rw[show n-i=(n-(i+1))+1 by omega];simp only[Hr];rw[HX.out];rfl
  have i0:(0:Int)<=(i:Int):=by omega
  have ai:(a:Int)+(i:Int)<(s.size:Int):=by omega
  have ain:((a:Int)+(i:Int)).toNat=a+i:=by omega
  clear ei;have ge:=Qa5 s (i+1) a n hk;rw[<-HX.out]at ge;have step:∀(h':256*x+s[a+i].toNat<=9223372036854775807),∃k' x':Nat,k'<=n/\(Value.int IntKind.i64 ((i:Int)-1))=.int .i64 ((k':Int)-1)/\Value.int IntKind.i64 (256*(x:Int)+(s[a+i].toNat:Int))=.int .i64 (x':Int)/\x'<=9223372036854775807/\Hid (x'=Hr s (a+k') (n-k')):=fun h'=>
   ⟨i,256*x+s[a+i].toNat,by omega,rfl,by push_cast;rfl,h',by unfold Hid;rw[HL.out,HC.out];omega⟩
  have HST:Hid (∀(h':256*x+s[a+i].toNat<=9223372036854775807),∃k' x':Nat,k'<=n/\(Value.int IntKind.i64 ((i:Int)-1))=.int .i64 ((k':Int)-1)/\Value.int IntKind.i64 (256*(x:Int)+(s[a+i].toNat:Int))=.int .i64 (x':Int)/\x'<=9223372036854775807/\Hid (x'=Hr s (a+k') (n-k'))):=step;clear step;by_cases big:36028797018963967<x
  .have HE:Hid (V=9223372036854775807):=by
    unfold Hid;rw[HV.out];unfold Aa;have p1:256^1<=256^(i+1):=Nat.pow_le_pow_right (by omega) (by omega);have p2:x*256^1<=x*256^(i+1):=Nat.mul_le_mul_left _ p1;rw[Nat.min_eq_right];omega
   clear ge;have bi:(36028797018963967:Int)<(x:Int):=by omega
   go_wp2;go_ret;exact⟨by rw[HE.out];rfl,rfl⟩
  have bi:¬(36028797018963967:Int)<(x:Int):=by omega
  clear ge;by_cases i00:i=0
  .have i0b:((i:Int)==0)=true:=by simp;omega
   have i0i:(i:Int)=0:=by omega
   have d0:(0:Int)<=9223372036854775807-(s[a+i].toNat:Int):=by omega
   have dv:((9223372036854775807:Int)-(s[a+i].toNat:Int)).tdiv 256=((9223372036854775807:Int)-(s[a+i].toNat:Int))/256:=Int.tdiv_eq_ediv_of_nonneg d0;have e:=HL.out;rw[HC.out]at e;have e0:Hr s (a+i) (n-i)=Hr s a n:=by rw[i00];rfl
   rw[e0]at e;by_cases top:(9223372036854775807-s[a+i].toNat)/256<x;.exfalso;omega
   have ti:¬((9223372036854775807:Int)-(s[a+i].toNat:Int))/256<(x:Int):=by omega
   have le:256*x+s[a+i].toNat<=9223372036854775807:=by omega
   have r:=HST.out le;have HR:Hid (∃k' x':Nat,k'<=n/\(Value.int IntKind.i64 ((i:Int)-1))=.int .i64 ((k':Int)-1)/\Value.int IntKind.i64 (256*(x:Int)+(s[a+i].toNat:Int))=.int .i64 (x':Int)/\x'<=9223372036854775807/\Hid (x'=Hr s (a+k') (n-k'))):=r;clear r HST HL HC e e0 i00 i0i;go_wp2;exact⟨HR.out,by simp[intOf]⟩
  have i0b:((i:Int)==0)=false:=by simp;omega
  have le:256*x+s[a+i].toNat<=9223372036854775807:=by omega
  have r:=HST.out le;have HR:Hid (∃k' x':Nat,k'<=n/\(Value.int IntKind.i64 ((i:Int)-1))=.int .i64 ((k':Int)-1)/\Value.int IntKind.i64 (256*(x:Int)+(s[a+i].toNat:Int))=.int .i64 (x':Int)/\x'<=9223372036854775807/\Hid (x'=Hr s (a+k') (n-k'))):=r;clear r HST HL HC;go_wp2;exact⟨HR.out,by simp[intOf]⟩
def lenOf(s:ByteArray)(kind q:Nat)(acc:List Nat):Nat×Nat×Nat:=
 if kind=16 then(acc.getD (acc.length-1) 0,3+numAt s q 2,q+2)
 else if kind=17 then(0,3+numAt s q 3,q+3)
 else if kind=18 then(0,11+numAt s q 7,q+7)
 else(kind,1,q)
def Cj(C:List Nat)(s:ByteArray)(want:Nat):Nat->Nat->List Nat->Option (List Nat×Nat)
 |0,p,acc=>if want<=acc.length then some (acc,p)else none
 |f+1,p,acc=>
  if want<=acc.length then some (acc,p)
  else match dec C s p with
   |none=>none
   |some (kind,q)=>
    if kind=16/\acc.length=0 then none
    else if 8*s.size<(lenOf s kind q acc).2.2 then none
    else if want<acc.length+(lenOf s kind q acc).2.1 then none
    else Cj C s want f (lenOf s kind q acc).2.2 (acc++List.replicate (lenOf s kind q acc).2.1 (lenOf s kind q acc).1)
theorem Rh(C:List Nat)(s:ByteArray)(want f p:Nat)(acc:List Nat)(h:want<=acc.length):Cj C s want f p acc=some (acc,p):=by
 cases f<;>simp only[Cj,if_pos h]
theorem Rn(C:List Nat)(s:ByteArray)(want f p:Nat)(acc:List Nat)(h:acc.length<want)(hd:dec C s p=none):Cj C s want (f+1) p acc=none:=by
 simp only[Cj,if_neg (Nat.not_le.2 h),hd]
theorem Iy(C:List Nat)(s:ByteArray)(want f p kind q:Nat)(acc:List Nat)(h:acc.length<want)(hd:dec C s p=some (kind,q)):Cj C s want (f+1) p acc =if kind=16/\acc.length=0 then none else if 8*s.size<(lenOf s kind q acc).2.2 then none else if want<acc.length+(lenOf s kind q acc).2.1 then none else Cj C s want f (lenOf s kind q acc).2.2 (acc++List.replicate (lenOf s kind q acc).2.1 (lenOf s kind q acc).1):=by
 simp only[Cj,if_neg (Nat.not_le.2 h),hd]
theorem wR(L:List Nat)(s:ByteArray)(p:Nat):∀f n x k q,Sz L s p f n x=some (k,q)->k<L.length/\q<=8*s.size/\p<q
 |0,n,x,k,q,h=>by simp[Sz]at h
 |f+1,n,x,k,q,h=>by
  simp only[Sz]at h;by_cases h1:8*s.size<p+n+1;.rw[if_pos h1]at h;cases h
  rw[if_neg h1]at h;by_cases h2:Bd L (n+1)<=2*x+Ea s (p+n)/\2*x+Ea s (p+n)<Bd L (n+1)+cnt L (n+1)
  .rw[if_pos h2]at h;cases h;refine⟨Qin _ _ _ ?_,by omega,by omega⟩;have:cnt L (n+1)=L.count (n+1):=by unfold cnt;rw[if_neg (by omega)]
   omega
  rw[if_neg h2]at h;exact wR L s p f _ _ k q h
theorem dec_lt{L:List Nat}{s:ByteArray}{p k q:Nat}(h:dec L s p=some (k,q)):k<L.length/\q<=8*s.size/\p<q:=wR L s p 15 0 0 k q h
theorem Xm(w:World)(b off nb cap rb:Nat)(L:List Nat)(s:ByteArray)(p:Nat)(hs:s.size<=maxLen)(h:Ic w b off nb cap L)(hr:Rd w rb s p)(hb:b≠rb)(hnb:nb≠rb)(hd:dec L s p=none): Calls Tryz.prog 201 #[.pointer (some ⟨b,off,none⟩),.pointer (some ⟨rb,0,none⟩)] w fun e w'=>e=.returned (.tuple #[.int .i64 0,.bool false])/\RT rb w w':=by
 refine(Qe2 w b off nb cap rb L s p hs h hr hb hnb).mono ?_;rintro e w' ⟨rfl,_,ht⟩;rw[hd];exact⟨rfl,ht⟩
theorem Et(w:World)(b off nb cap rb:Nat)(L:List Nat)(s:ByteArray)(p k q:Nat)(hs:s.size<=maxLen)(h:Ic w b off nb cap L)(hr:Rd w rb s p)(hb:b≠rb)(hnb:nb≠rb)(hd:dec L s p=some (k,q)): Calls Tryz.prog 201 #[.pointer (some ⟨b,off,none⟩),.pointer (some ⟨rb,0,none⟩)] w fun e w'=>e=.returned (.tuple #[.int .i64 (k:Int),.bool true])/\Rd w' rb s q/\RT rb w w':=by
 refine(Qe2 w b off nb cap rb L s p hs h hr hb hnb).mono ?_;rintro e w' ⟨rfl,hq,ht⟩;rw[hd];exact⟨rfl,hq k q hd,ht⟩
def wX(b:Nat)(s:ByteArray)(w:World)(r:Option (List Nat×Nat))(e:Ending)(w':World):Prop:=
 RN b w w'/\match r with
 |none=>e=.returned (.tuple #[.slice none 0 0,.bool false])
 |some (l,q)=>∃g cap,e=.returned (.tuple #[.slice (some ⟨g,0,none⟩) l.length cap,.bool true])/\w'.ownsRow w.heap.size 3 1 (.slice (some ⟨g,0,none⟩) l.length cap) l.length (ints l)/\Rd w' b s q
def lenV:Value->Nat|.slice _ n _=>n|_=>0
theorem Touch.next{S:Nat->Prop}{x y z:World}(h:Touch S x y)(k:Touch (fun j=>x.heap.size<=j) y z):Touch S x z:=
 ⟨k.os.trans h.os,k.tape.trans h.tape,k.output.trans h.output,Nat.le_trans h.size k.size,fun i hi hs=>(k.block i (Nat.lt_of_lt_of_le hi h.size) (Nat.not_le.2 hi)).trans (h.block i hi hs)⟩
theorem lL(w:World)(b cb off nb cap:Nat)(C:List Nat)(s:ByteArray)(p want:Nat)(hw:want<=400)(hC:C.length=19)(hs:s.size<=maxLen)(hr:Rd w b s p)(hc:Ic w cb off nb cap C)(h1:cb≠b)(h2:nb≠b)(h3:cb<w.heap.size)(h4:nb<w.heap.size): Calls Tryz.prog 206 #[.pointer (some ⟨b,0,none⟩),.pointer (some ⟨cb,off,none⟩),.int .i64 (want:Int)] w (wX b s w (Cj C s want want p [])):=by
 obtain⟨i0,hi,hz0,hz1,hz2⟩:=info_parts Tryz.Qw;have hm1:i0.bytes*want<=281474976710656:=by rw[hz2];omega
 have hm2:want<=maxLen:=by unfold maxLen;omega
 have hlt:=hr.lt;obtain⟨R,hR⟩:∃R,R=Cj C s want want p []:=⟨_,rfl⟩;have HR:Hid (R=Cj C s want want p []):=hR;rw[<-hR];clear hR;go_enter Tryz.func206,Tryz.ntmps206;go_wp2_with (at_make;refine wpList_make_own _ rfl _ _ 26 rfl w.heap.size 3 i0 (.int .i64 0) 1 Tryz.underlying26 hi hz0 hz1 .i64 .i64 _ want rfl rfl rfl hm1 hm2 (Nat.le_refl _) ?_;intro w1 hown1 hgrow1);have T1:Touch (fun _=>False) w w1:=(Touch.refl _ w).Fa hgrow1 (by intro k e;cases e);go_loopw [8] (fun v wr=>∃(l:List Nat) (g cp f q:Nat),v=.slice (some ⟨g,0,none⟩) l.length cp/\l.length<=want/\want<=l.length+f/\w.heap.size<=g/\wr.ownsRow w.heap.size 3 1 (.slice (some ⟨g,0,none⟩) l.length cp) l.length (ints l)/\Rd wr b s q/\RN b w wr/\Hid (R=Cj C s want f q l)) (fun v _=>want-lenV v)
 case atStart=>exact⟨[],w.heap.size,want,want,p,rfl,Nat.zero_le _,by simp,Nat.le_refl _,hown1,hr.new T1 (fun h=>h),RN.new T1 hlt,HR⟩
 case round=>
  clear hown1 hgrow1 T1 HR;obtain⟨l,g,cp,f,q,rfl,hle,hf,hg,hown,hrd,hrn,HR'⟩:=hrel;have hszr:=hrn.t.size;have hcr:=hc.keep hrn.t h1 h2;by_cases hlen:l.length<want
  .obtain⟨f,rfl⟩:∃f',f=f'+1:=⟨f-1,by omega⟩;cases hd:dec C s q with
   |none=>
    have HE:Hid (R=none):=(by unfold Hid;rw[HR'.out,Rn C s want f q l hlen hd]);have HD:Hid (dec C s q=none):=hd;clear hd;go_wp2_with (go_at_call 201;refine(Xm _ _ _ _ _ _ C s q hs hcr hrd h1 h2 HD.out).mono ?_;rintro e w2 ⟨rfl,hrt2⟩);go_ret2;exact⟨hrn.trans hrt2.rn,by rw[HE.out];rfl⟩
   |some kq=>
    obtain⟨kind,q1⟩:=kq;have HD:Hid (dec C s q=some (kind,q1)):=hd;have hkl:=dec_lt hd;clear hd;by_cases hk16:kind=16
    .by_cases hl0:l.length=0
     .have HE:Hid (R=none):=(by unfold Hid;rw[HR'.out,Iy C s want f q kind q1 l hlen HD.out,if_pos ⟨hk16,hl0⟩]);go_wp2_with (go_at_call 201;refine(Et _ _ _ _ _ _ C s q kind q1 hs hcr hrd h1 h2 HD.out).mono ?_;rintro e w2 ⟨rfl,hrd2,hrt2⟩;have z2:=hrd2.c4);go_ret2;exact⟨hrn.trans hrt2.rn,by rw[HE.out];rfl⟩
     have hnk:¬(kind=16/\l.length=0):=(by omega);obtain⟨m,hm⟩:∃m,l.length=m+1:=⟨l.length-1,by omega⟩;have hlast:∀x,RT b wr x->x.cell? ⟨g,m,none⟩=some (.int .i64 ((l.getD m 0:Nat):Int)):=by
      intro x hx;refine hx.t.at ?_ (by show¬g=b;omega);rw[hown.cellAt _ (by omega)];have:m<l.length:=(by omega);simp[ints,this]
     have HM:Hid (l.length=m+1):=hm;have w1':IntKind.i64.wrap (((m+1:Nat):Int)-1)=(m:Int):=(by simp[IntKind.wrap,IntKind.bits,IntKind.signed];omega);have w2':IntKind.i64.wrap ((m:Int)+1-1)=(m:Int):=(by simp[IntKind.wrap,IntKind.bits,IntKind.signed];omega);have w3':IntKind.i64.wrap (m:Int)=(m:Int):=(by simp[IntKind.wrap,IntKind.bits,IntKind.signed];omega);have w4':IntKind.i64.wrap (3+((numAt s q1 2:Nat):Int))=3+((numAt s q1 2:Nat):Int):=(by have:=Dl s q1 2;simp[IntKind.wrap,IntKind.bits,IntKind.signed];omega);have w5':(m:Int)<(m:Int)+1:=(by omega);have w6':(0:Int)<=(m:Int):=(by omega);have hlen1:m+1<want:=(by omega);have hown':wr.ownsRow w.heap.size 3 1 (.slice (some ⟨g,0,none⟩) (m+1) cp) l.length (ints l):=(by rw[<-hm];exact hown);rw[hm];clear hm;have HL:Hid (lenOf s kind q1 l=(l.getD m 0,3+numAt s q1 2,q1+2)):=(by unfold Hid lenOf;rw[if_pos hk16,HM.out];rfl);have hnb:=Dl s q1 2;have HS:=Iy C s want f q kind q1 l hlen HD.out;rw[HL.out]at HS;have HS':Hid (Cj C s want (f+1) q l=_):=HS;clear HS;by_cases hend:8*s.size<q1+2
     .have HE:Hid (R=none):=(by unfold Hid;rw[HR'.out,HS'.out,if_neg hnk,if_pos hend]);go_wp2_with (go_at_call 201;refine(Et _ _ _ _ _ _ C s q kind q1 hs hcr hrd h1 h2 HD.out).mono ?_;rintro e w2 ⟨rfl,hrd2,hrt2⟩;have z2:=hrd2.c4);have d2:Rd w2.drew b s q1:=hrd2.drew;have dl:w2.drew.cell? ⟨g,m,none⟩=some (.int .i64 ((l.getD m 0:Nat):Int)):=(by exact hlast w2 hrt2);go_region_held3 (fun x=>x.cell? ⟨g,m,none⟩=some (.int .i64 ((l.getD m 0:Nat):Int))) (first|exact dl|assumption|go_keep) (first|(go_at_call 82;refine(Eu b w2.drew s q1 2 _ rfl (by omega) hs d2).mono ?_;rintro e w3 ⟨rfl,hrd3,hrt3⟩;have z3:=hrd3.c4;have dl3:=hrt3.t.at dl (by show¬g=b;omega)));all_goals go_wp2
      all_goals go_ret2
      all_goals exact⟨((hrn.trans hrt2.rn).drew).trans hrt3.rn,by rw[HE.out];rfl⟩
     by_cases hmany:want<m+1+(3+numAt s q1 2)
     .have HE:Hid (R=none):=(by unfold Hid;rw[HR'.out,HS'.out,if_neg hnk,if_neg hend,if_pos (by rw[HM.out];exact hmany)]);go_wp2_with (go_at_call 201;refine(Et _ _ _ _ _ _ C s q kind q1 hs hcr hrd h1 h2 HD.out).mono ?_;rintro e w2 ⟨rfl,hrd2,hrt2⟩;have z2:=hrd2.c4);have d2:Rd w2.drew b s q1:=hrd2.drew;have dl:w2.drew.cell? ⟨g,m,none⟩=some (.int .i64 ((l.getD m 0:Nat):Int)):=(by exact hlast w2 hrt2);go_region_held3 (fun x=>x.cell? ⟨g,m,none⟩=some (.int .i64 ((l.getD m 0:Nat):Int))) (first|exact dl|assumption|go_keep) (first|(go_at_call 82;refine(Eu b w2.drew s q1 2 _ rfl (by omega) hs d2).mono ?_;rintro e w3 ⟨rfl,hrd3,hrt3⟩;have z3:=hrd3.c4;have dl3:=hrt3.t.at dl (by show¬g=b;omega)));all_goals go_wp2
      all_goals go_ret2
      all_goals exact⟨((hrn.trans hrt2.rn).drew).trans hrt3.rn,by rw[HE.out];rfl⟩
     have HE:Hid (R=Cj C s want f (q1+2) (l++List.replicate (3+numAt s q1 2) (l.getD m 0))):=(by unfold Hid;rw[HR'.out,HS'.out,if_neg hnk,if_neg hend,if_neg (by rw[HM.out];exact hmany)]);go_wp2_with (go_at_call 201;refine(Et _ _ _ _ _ _ C s q kind q1 hs hcr hrd h1 h2 HD.out).mono ?_;rintro e w2 ⟨rfl,hrd2,hrt2⟩;have z2:=hrd2.c4);have d2:Rd w2.drew b s q1:=hrd2.drew;have dl:w2.drew.cell? ⟨g,m,none⟩=some (.int .i64 ((l.getD m 0:Nat):Int)):=(by exact hlast w2 hrt2);go_region_held3 (fun x=>x.cell? ⟨g,m,none⟩=some (.int .i64 ((l.getD m 0:Nat):Int))) (first|exact dl|assumption|go_keep) (first|(go_at_call 82;refine(Eu b w2.drew s q1 2 _ rfl (by omega) hs d2).mono ?_;rintro e w3 ⟨rfl,hrd3,hrt3⟩;have z3:=hrd3.c4;have dl3:=hrt3.t.at dl (by show¬g=b;omega)));all_goals
      have ow:=hrt3.t.owns (show w2.drew.ownsRow w.heap.size 3 1 (.slice (some ⟨g,0,none⟩) (m+1) cp) l.length (ints l) from hrt2.t.owns hown' (by intro j hj;cases hj;show¬g=b;omega)) (by intro j hj;cases hj;show¬g=b;omega);have rn3:=((hrn.trans hrt2.rn).drew).trans hrt3.rn;have sz3:=rn3.t.size;go_wp2_with (go_at_call 199;refine(Fv w3 w.heap.size _ l (l.getD m 0) (3+numAt s q1 2) _ _ rfl (by omega) ow (by rw[HM.out];omega) (by omega) sz3).mono ?_;rintro e w4 ⟨l4,g4,k4,rfl,e4,hg4,ho4,ht4⟩);go_roundw
      case rel=>
       have rn4:RN b w w4:=⟨rn3.t.next ht4,fun o ho=>(ht4.cell (p:=⟨b,o,none⟩) (by show b<_;omega) (by show¬w.heap.size<=b;omega)).trans (rn3.keep o ho),fun o=>(ht4.frozen (p:=⟨b,o,none⟩) (by show b<_;omega) (by show¬w.heap.size<=b;omega)).trans (rn3.fr o)⟩;exact⟨l4,g4,k4,f,q1+2,rfl,by rw[e4.out,List.length_append,List.length_replicate,HM.out];omega,by rw[e4.out,List.length_append,List.length_replicate,HM.out];have:=HM.out;omega,hg4,ho4,hrd3.new ht4 (by show¬w.heap.size<=b;omega),rn4,by rw[e4.out];exact HE⟩
      case measure=>simp only[lenV,e4.out,List.length_append,List.length_replicate,HM.out];omega
    have hnk:¬(kind=16/\l.length=0):=(by omega);by_cases hk17:kind=17
    .have HL:Hid (lenOf s kind q1 l=(0,3+numAt s q1 3,q1+3)):=(by unfold Hid lenOf;simp[hk17]);have hnb:=Dl s q1 3;have HS:=Iy C s want f q kind q1 l hlen HD.out;rw[HL.out]at HS;have HS':Hid (Cj C s want (f+1) q l=_):=HS;clear HS;by_cases hend:8*s.size<q1+3
     .have HE:Hid (R=none):=(by unfold Hid;rw[HR'.out,HS'.out,if_neg hnk,if_pos hend]);go_wp2_with (first|(go_at_call 201;refine(Et _ _ _ _ _ _ C s q kind q1 hs hcr hrd h1 h2 HD.out).mono ?_;rintro e w2 ⟨rfl,hrd2,hrt2⟩;have z2:=hrd2.c4)|(go_at_call 82;refine(Eu b _ s q1 3 _ rfl (by omega) hs hrd2).mono ?_;rintro e w3 ⟨rfl,hrd3,hrt3⟩;have z3:=hrd3.c4));go_ret2;exact⟨(hrn.trans hrt2.rn).trans hrt3.rn,by rw[HE.out];rfl⟩
     by_cases hmany:want<l.length+(3+numAt s q1 3)
     .have HE:Hid (R=none):=(by unfold Hid;rw[HR'.out,HS'.out,if_neg hnk,if_neg hend,if_pos hmany]);go_wp2_with (first|(go_at_call 201;refine(Et _ _ _ _ _ _ C s q kind q1 hs hcr hrd h1 h2 HD.out).mono ?_;rintro e w2 ⟨rfl,hrd2,hrt2⟩;have z2:=hrd2.c4)|(go_at_call 82;refine(Eu b _ s q1 3 _ rfl (by omega) hs hrd2).mono ?_;rintro e w3 ⟨rfl,hrd3,hrt3⟩;have z3:=hrd3.c4));go_ret2;exact⟨(hrn.trans hrt2.rn).trans hrt3.rn,by rw[HE.out];rfl⟩
     have HE:Hid (R=Cj C s want f (q1+3) (l++List.replicate (3+numAt s q1 3) (0))):=(by unfold Hid;rw[HR'.out,HS'.out,if_neg hnk,if_neg hend,if_neg hmany]);go_wp2_with (first|(go_at_call 201;refine(Et _ _ _ _ _ _ C s q kind q1 hs hcr hrd h1 h2 HD.out).mono ?_;rintro e w2 ⟨rfl,hrd2,hrt2⟩;have z2:=hrd2.c4)|(go_at_call 82;refine(Eu b _ s q1 3 _ rfl (by omega) hs hrd2).mono ?_;rintro e w3 ⟨rfl,hrd3,hrt3⟩;have z3:=hrd3.c4)|(go_at_call 199;have ow:=hrt3.t.owns (hrt2.t.owns hown (by intro j hj;cases hj;show¬g=b;omega)) (by intro j hj;cases hj;show¬g=b;omega);have rn3:=(hrn.trans hrt2.rn).trans hrt3.rn;have sz3:=rn3.t.size;refine(Fv w3 w.heap.size _ l (0) (3+numAt s q1 3) _ _ (by omega) (by omega) ow (by omega) (by omega) sz3).mono ?_;rintro e w4 ⟨l4,g4,k4,rfl,e4,hg4,ho4,ht4⟩));go_roundw
     case rel=>
      have rn4:RN b w w4:=⟨rn3.t.next ht4,fun o ho=>(ht4.cell (p:=⟨b,o,none⟩) (by show b<_;omega) (by show¬w.heap.size<=b;omega)).trans (rn3.keep o ho),fun o=>(ht4.frozen (p:=⟨b,o,none⟩) (by show b<_;omega) (by show¬w.heap.size<=b;omega)).trans (rn3.fr o)⟩;exact⟨l4,g4,k4,f,q1+3,rfl,by rw[e4.out,List.length_append,List.length_replicate];omega,by rw[e4.out,List.length_append,List.length_replicate];omega,hg4,ho4,hrd3.new ht4 (by show¬w.heap.size<=b;omega),rn4,by rw[e4.out];exact HE⟩
     case measure=>simp only[lenV,e4.out,List.length_append,List.length_replicate];omega
    by_cases hk18:kind=18
    .have HL:Hid (lenOf s kind q1 l=(0,11+numAt s q1 7,q1+7)):=(by unfold Hid lenOf;simp[hk18]);have hnb:=Dl s q1 7;have HS:=Iy C s want f q kind q1 l hlen HD.out;rw[HL.out]at HS;have HS':Hid (Cj C s want (f+1) q l=_):=HS;clear HS;by_cases hend:8*s.size<q1+7
     .have HE:Hid (R=none):=(by unfold Hid;rw[HR'.out,HS'.out,if_neg hnk,if_pos hend]);go_wp2_with (first|(go_at_call 201;refine(Et _ _ _ _ _ _ C s q kind q1 hs hcr hrd h1 h2 HD.out).mono ?_;rintro e w2 ⟨rfl,hrd2,hrt2⟩;have z2:=hrd2.c4)|(go_at_call 82;refine(Eu b _ s q1 7 _ rfl (by omega) hs hrd2).mono ?_;rintro e w3 ⟨rfl,hrd3,hrt3⟩;have z3:=hrd3.c4));go_ret2;exact⟨(hrn.trans hrt2.rn).trans hrt3.rn,by rw[HE.out];rfl⟩
     by_cases hmany:want<l.length+(11+numAt s q1 7)
     .have HE:Hid (R=none):=(by unfold Hid;rw[HR'.out,HS'.out,if_neg hnk,if_neg hend,if_pos hmany]);go_wp2_with (first|(go_at_call 201;refine(Et _ _ _ _ _ _ C s q kind q1 hs hcr hrd h1 h2 HD.out).mono ?_;rintro e w2 ⟨rfl,hrd2,hrt2⟩;have z2:=hrd2.c4)|(go_at_call 82;refine(Eu b _ s q1 7 _ rfl (by omega) hs hrd2).mono ?_;rintro e w3 ⟨rfl,hrd3,hrt3⟩;have z3:=hrd3.c4));go_ret2;exact⟨(hrn.trans hrt2.rn).trans hrt3.rn,by rw[HE.out];rfl⟩
     have HE:Hid (R=Cj C s want f (q1+7) (l++List.replicate (11+numAt s q1 7) (0))):=(by unfold Hid;rw[HR'.out,HS'.out,if_neg hnk,if_neg hend,if_neg hmany]);go_wp2_with (first|(go_at_call 201;refine(Et _ _ _ _ _ _ C s q kind q1 hs hcr hrd h1 h2 HD.out).mono ?_;rintro e w2 ⟨rfl,hrd2,hrt2⟩;have z2:=hrd2.c4)|(go_at_call 82;refine(Eu b _ s q1 7 _ rfl (by omega) hs hrd2).mono ?_;rintro e w3 ⟨rfl,hrd3,hrt3⟩;have z3:=hrd3.c4)|(go_at_call 199;have ow:=hrt3.t.owns (hrt2.t.owns hown (by intro j hj;cases hj;show¬g=b;omega)) (by intro j hj;cases hj;show¬g=b;omega);have rn3:=(hrn.trans hrt2.rn).trans hrt3.rn;have sz3:=rn3.t.size;refine(Fv w3 w.heap.size _ l (0) (11+numAt s q1 7) _ _ (by omega) (by omega) ow (by omega) (by omega) sz3).mono ?_;rintro e w4 ⟨l4,g4,k4,rfl,e4,hg4,ho4,ht4⟩));go_roundw
     case rel=>
      have rn4:RN b w w4:=⟨rn3.t.next ht4,fun o ho=>(ht4.cell (p:=⟨b,o,none⟩) (by show b<_;omega) (by show¬w.heap.size<=b;omega)).trans (rn3.keep o ho),fun o=>(ht4.frozen (p:=⟨b,o,none⟩) (by show b<_;omega) (by show¬w.heap.size<=b;omega)).trans (rn3.fr o)⟩;exact⟨l4,g4,k4,f,q1+7,rfl,by rw[e4.out,List.length_append,List.length_replicate];omega,by rw[e4.out,List.length_append,List.length_replicate];omega,hg4,ho4,hrd3.new ht4 (by show¬w.heap.size<=b;omega),rn4,by rw[e4.out];exact HE⟩
     case measure=>simp only[lenV,e4.out,List.length_append,List.length_replicate];omega
    have HL:Hid (lenOf s kind q1 l=(kind,1,q1)):=(by unfold Hid lenOf;simp[hk16,hk17,hk18]);have HS:=Iy C s want f q kind q1 l hlen HD.out;rw[HL.out]at HS;have HS':Hid (Cj C s want (f+1) q l=_):=HS;clear HS;by_cases hend:8*s.size<q1;.omega
    by_cases hmany:want<l.length+(1);.omega
    have HE:Hid (R=Cj C s want f (q1) (l++List.replicate (1) (kind))):=(by unfold Hid;rw[HR'.out,HS'.out,if_neg hnk,if_neg hend,if_neg hmany]);go_wp2_with (first|(go_at_call 201;refine(Et _ _ _ _ _ _ C s q kind q1 hs hcr hrd h1 h2 HD.out).mono ?_;rintro e w2 ⟨rfl,hrd2,hrt2⟩;have z2:=hrd2.c4)|(go_at_call 199;have ow:=hrt2.t.owns hown (by intro j hj;cases hj;show¬g=b;omega);have rn3:=hrn.trans hrt2.rn;have sz3:=rn3.t.size;refine(Fv w2 w.heap.size _ l (kind) (1) _ _ (by omega) (by omega) ow (by omega) (by omega) sz3).mono ?_;rintro e w4 ⟨l4,g4,k4,rfl,e4,hg4,ho4,ht4⟩));go_roundw
    case rel=>
     have rn4:RN b w w4:=⟨rn3.t.next ht4,fun o ho=>(ht4.cell (p:=⟨b,o,none⟩) (by show b<_;omega) (by show¬w.heap.size<=b;omega)).trans (rn3.keep o ho),fun o=>(ht4.frozen (p:=⟨b,o,none⟩) (by show b<_;omega) (by show¬w.heap.size<=b;omega)).trans (rn3.fr o)⟩;exact⟨l4,g4,k4,f,q1,rfl,by rw[e4.out,List.length_append,List.length_replicate];omega,by rw[e4.out,List.length_append,List.length_replicate];omega,hg4,ho4,hrd2.new ht4 (by show¬w.heap.size<=b;omega),rn4,by rw[e4.out];exact HE⟩
    case measure=>simp only[lenV,e4.out,List.length_append,List.length_replicate];omega
  go_wp2;go_ret2;exact⟨hrn,by rw[HR'.out,Rh C s want f q l (by omega)];exact⟨g,cp,rfl,hown,hrd⟩⟩
def Dy(l:List UInt8):List Value:=l.map fun c=>Value.int .u8 (c.toNat:Int)
theorem nU(l:List UInt8):(Dy l).length=l.length:=List.length_map ..
theorem Xc(a b:List UInt8):Dy (a++b)=Dy a++Dy b:=List.map_append ..
def IT(b:Nat)(w w':World):Prop:=Touch (fun k=>k=b\/(b<k/\Typed w k 5)) w w'
theorem IT.refl(b:Nat)(w:World):IT b w w:=Touch.refl _ _
theorem IT.trans{b:Nat}{x y z:World}(h:IT b x y)(k:IT b y z):IT b x z:=by
 refine⟨k.os.trans h.os,k.tape.trans h.tape,k.output.trans h.output,Nat.le_trans h.size k.size,fun i hi hs=>?_⟩;refine(k.block i (Nat.lt_of_lt_of_le hi h.size) ?_).trans (h.block i hi hs);rintro(rfl|⟨hb,cs,fr,hc⟩);.exact hs (Or.inl rfl)
 rw[h.block i hi hs]at hc;exact hs (Or.inr ⟨hb,cs,fr,hc⟩)
theorem IT.Qo{b:Nat}{x y:World}(h:RN b x y):IT b x y:=h.t.mono (fun _ _ e=>Or.inl e)
theorem IT.Qc1{b:Nat}{x y:World}(h:RT b x y):IT b x y:=IT.Qo h.rn
theorem IT.drewN{b:Nat}{x y:World}(h:IT b x y)(n:Nat):IT b x (y.drewN n):=Touch.drewN h n
theorem IT.not{b k:Nat}{w:World}{t:TypeId}(h:Typed w k t)(hb:b<k)(ht:t≠5):¬(k=b\/(b<k/\Typed w k 5)):=by
 rintro(rfl|⟨_,h'⟩);.omega
 exact ht (h.ne h')
theorem Nl.Oy{w w':World}{fb n1 c1 n2 c2:Nat}{L D:List Nat}(h:Nl w fb n1 c1 n2 c2 L D){S:Nat->Prop}(ht:Touch S w w')(h0:¬S fb)(h1:¬S n1)(h2:¬S n2):Nl w' fb n1 c1 n2 c2 L D:=
 ⟨h.lt.keep ht h0 h1,h.ds.keep ht h0 h2,h.tb.keep ht h0,h.t1.keep ht h1,h.t2.keep ht h2⟩
theorem Nl.Qam{w w':World}{b fb n1 c1 n2 c2:Nat}{L D:List Nat}(h:Nl w fb n1 c1 n2 c2 L D)(ht:IT b w w')(h0:b<fb)(h1:b<n1)(h2:b<n2):Nl w' fb n1 c1 n2 c2 L D :=h.Oy ht (IT.not h.tb h0 (by decide)) (IT.not h.t1 h1 (by decide)) (IT.not h.t2 h2 (by decide))
def Fix(w:World)(b:Nat)(v:Value):Prop:=v=.pointer none\/∃fb n1 c1 n2 c2,v=.pointer (some ⟨fb,0,none⟩)/\Nl w fb n1 c1 n2 c2 Cm Gu/\b<fb/\b<n1/\b<n2
theorem Fix.keep{w w':World}{b:Nat}{v:Value}(h:Fix w b v)(ht:IT b w w'):Fix w' b v:=by
 rcases h with h|⟨fb,n1,c1,n2,c2,e,hc,h0,h1,h2⟩;.exact Or.inl h
 exact Or.inr ⟨fb,n1,c1,n2,c2,e,hc.Qam ht h0 h1 h2,h0,h1,h2⟩
structure Inf (w:World) (b:Nat) (s:ByteArray) (p:Nat) (out:List UInt8) (most:Nat):Prop where
 rd:Rd w b s p
 gv:∃ao cap,w.cell? ⟨b,5,none⟩=some (.slice ao out.length cap)/\w.ownsRow (b+1) 5 1 (.slice ao out.length cap) out.length (Dy out)
 ms:w.cell? ⟨b,6,none⟩=some (.int .i64 (most:Int))
 fx:∃v,w.cell? ⟨b,7,none⟩=some v/\Fix w b v
 fit:out.length<=most
 few:out.length<=258*p
 top:most<=9223372036854775807
theorem Inf.lt{w:World}{b:Nat}{s:ByteArray}{p:Nat}{out:List UInt8}{most:Nat}(h:Inf w b s p out most):b<w.heap.size:=h.rd.lt
theorem Inf.read{w w':World}{b:Nat}{s:ByteArray}{p q:Nat}{out:List UInt8}{most:Nat}(h:Inf w b s p out most)(hr:Rd w' b s q)(hn:RN b w w')(hq:p<=q):Inf w' b s q out most:=by
 obtain⟨ao,cap,h5,ho⟩:=h.gv;obtain⟨v,h7,hf⟩:=h.fx;refine⟨hr,⟨ao,cap,(hn.keep 5 (by omega)).trans h5,hn.t.owns ho ?_⟩,(hn.keep 6 (by omega)).trans h.ms,⟨v,(hn.keep 7 (by omega)).trans h7,hf.keep (IT.Qo hn)⟩,h.fit,by have:=h.few;omega,h.top⟩;intro k hk e;have:=(ho.lt k hk).1;omega
theorem rW(b:Nat)(w:World)(ao:Option Addr)(n cap most:Nat)(hn:n<=most)(hm:most<=9223372036854775807)(h5:w.cell? ⟨b,5,none⟩=some (.slice ao n cap))(h6:w.cell? ⟨b,6,none⟩=some (.int .i64 (most:Int))): Calls Tryz.prog 197 #[.pointer (some ⟨b,0,none⟩)] w fun e w'=>e=.returned (.int .i64 ((most-n:Nat):Int))/\∃k,w'=w.drewN k:=by
 go_enter Tryz.func197,Tryz.ntmps197;go_wp2;go_quiet (fail);go_wp2;go_ret;exact⟨Uh (by omega),_,rfl⟩
theorem Tryz.infoByte:(Tryz.prog.info? 5).map (fun i=>(i.zero,i.size,i.bytes))=some (some (.int .u8 0),1,1):=by kernel_rfl
theorem Inf.given{w x w1:World}{b:Nat}{s:ByteArray}{p q:Nat}{out new:List UInt8}{most:Nat}{ao:Option Addr}{cap:Nat}{v':Value}(h:Inf w b s p out most)(h5:w.cell? ⟨b,5,none⟩=some (.slice ao out.length cap))(ho:w.ownsRow (b+1) 5 1 (.slice ao out.length cap) out.length (Dy out))(hx:Touch (fun _=>False) w x)(hg:x.grownBy w1 (Value.slice ao out.length cap).ownBlock)(ho':w1.ownsRow (b+1) 5 1 v' (out.length+new.length) (Dy out++Dy new))(hfit:out.length+new.length<=most)(hfew:out.length+new.length<=258*p): Inf (w1.setCell ⟨b,5,none⟩ v') b s p (out++new) most/\IT b w (w1.setCell ⟨b,5,none⟩ v'):=by
 have hlt:=h.lt;have t1:Touch (fun k=>k=b\/(b<k/\Typed w k 5)) w w1:=(hx.mono (fun _ _ e=>e.elim)).grown hg (fun k hk=>Or.inr ⟨by have:=(ho.lt k hk).1;omega,Typed.owned ho hk⟩);have hne:∀k,(Value.slice ao out.length cap).ownBlock=some k->k≠b:=fun k hk=>by have:=(ho.lt k hk).1;omega
 have hbb:w1.heap[b]?=w.heap[b]?:=(hg.block b (Nat.lt_of_lt_of_le hlt hx.size) (fun e=>hne b e.symm rfl)).trans (hx.block b hlt (fun e=>e));have hc:∀o,w1.cell? ⟨b,o,none⟩=w.cell? ⟨b,o,none⟩:=fun o=>World.cell?_of_block hbb;have hfz:∀o,w1.frozen? ⟨b,o,none⟩=w.frozen? ⟨b,o,none⟩:=fun o=>World.frozen?_of_block hbb;have it:IT b w (w1.setCell ⟨b,5,none⟩ v'):=Touch.setCell t1 (p:=⟨b,5,none⟩) (Or.inl rfl) v';refine⟨⟨?_,?_,?_,?_,?_,?_,h.top⟩,it⟩
 .have r:=h.rd;refine⟨?_,?_,?_,?_,?_,?_⟩;.rw[Aq (by omega),hc];exact r.c0
  .rw[Aq (by omega),hc];exact r.c1
  .rw[Aq (by omega),hc];exact r.c2
  .rw[Aq (by omega),hc];exact r.c3
  .rw[Aq (by omega),hc];exact r.c4
  intro o;rw[World.frozen?_setCell,hfz];exact r.fr o
 .have hsl:∃ao' cap',v'=.slice ao' (out++new).length cap':=by
   rw[List.length_append];rcases ho'.2 with⟨e,h0⟩|⟨g,cap',cur,e,_⟩;.exact⟨none,0,by rw[e,h0]⟩
   exact⟨_,_,e⟩
  obtain⟨ao',cap',rfl⟩:=hsl;refine⟨ao',cap',?_,?_⟩;.simp[Ad,hc,h5]
  rw[List.length_append]at *;rw[Xc];exact ownsRow_setCell_below ho' (by show b<b+1;omega) _
 .rw[Aq (by omega),hc];exact h.ms
 .obtain⟨v,h7,hf⟩:=h.fx;exact⟨v,by rw[Aq (by omega),hc];exact h7,hf.keep it⟩
 .rw[List.length_append];exact hfit
 rw[List.length_append];exact hfew
theorem Inf.fC{w x w1:World}{b:Nat}{s:ByteArray}{p:Nat}{out:List UInt8}{most:Nat}{ao:Option Addr}{cap:Nat}(h:Inf w b s p out most)(h5:w.cell? ⟨b,5,none⟩=some (.slice ao out.length cap))(ho:w.ownsRow (b+1) 5 1 (.slice ao out.length cap) out.length (Dy out))(hx:Touch (fun _=>False) w x)(hg:x.grownBy w1 (Value.slice ao out.length cap).ownBlock):w1.cell? ⟨b,5,none⟩=some (.slice ao out.length cap)/\w1.frozen? ⟨b,5,none⟩=false:=by
 have hlt:=h.lt;have hne:∀k,(Value.slice ao out.length cap).ownBlock=some k->k≠b:=fun k hk=>by have:=(ho.lt k hk).1;omega
 have hbb:w1.heap[b]?=w.heap[b]?:=(hg.block b (Nat.lt_of_lt_of_le hlt hx.size) (fun e=>hne b e.symm rfl)).trans (hx.block b hlt (fun e=>e));exact⟨(World.cell?_of_block hbb).trans h5,(World.frozen?_of_block hbb).trans (h.rd.fr 5)⟩
theorem Inf.drewN{w:World}{b:Nat}{s:ByteArray}{p:Nat}{out:List UInt8}{most:Nat}(h:Inf w b s p out most)(n:Nat):Inf (w.drewN n) b s p out most:=by
 refine h.read (h.rd.drewN n) ⟨(Touch.refl _ w).drewN n,fun _ _=>rfl,fun _=>rfl⟩ (Nat.le_refl _)
theorem uI(b:Nat)(w:World)(s:ByteArray)(p:Nat)(out:List UInt8)(most:Nat)(c:Int)(h:Inf w b s p out most)(hfull:out.length=most): Calls Tryz.prog 202 #[.pointer (some ⟨b,0,none⟩),.int .u8 c] w fun e w'=>e=.returned (.int .i64 2)/\IT b w w':=by
 obtain⟨ao,cap,h5,ho⟩:=h.gv;have h6:=h.ms;have ht:=h.top;go_enter Tryz.func202,Tryz.ntmps202;go_wp2_with (go_at_call 197;refine(rW b w ao out.length cap most h.fit ht h5 h6).mono ?_;rintro e w1 ⟨rfl,k,rfl⟩);go_ret;exact⟨rfl,(IT.refl b w).drewN k⟩
theorem Qcd(b:Nat)(w:World)(s:ByteArray)(p:Nat)(out:List UInt8)(most:Nat)(c:UInt8)(h:Inf w b s p out most)(hroom:out.length<most)(hfew:out.length+1<=258*p)(hp:p<=17179869184): Calls Tryz.prog 202 #[.pointer (some ⟨b,0,none⟩),.int .u8 (c.toNat:Int)] w fun e w'=>e=.returned (.int .i64 0)/\Inf w' b s p (out++[c]) most/\IT b w w':=by
 obtain⟨ao,cap,h5,ho⟩:=h.gv;have h6:=h.ms;have ht:=h.top;have hlt:=h.lt;have f5:=h.rd.fr 5;obtain⟨i0,hi,hz0,hz1,hz2⟩:=info_parts Tryz.infoByte;have c3:out.length+1<=maxLen:=by unfold maxLen;omega
 have c4:(out.length+1)*1<=140737488355328:=by omega
 have hne:¬most-out.length=0:=by omega
 have hod:∀k,(w.drewN k).ownsRow (b+1) 5 1 (.slice ao out.length cap) out.length (Dy out):=fun _=>ho;have hbd:∀k o,b+1<=((w.drewN k).alloc o).heap.size:=by intro k o;rw[World.size_alloc,jL];omega
 go_enter Tryz.func202,Tryz.ntmps202;go_wp2_with (first|(go_at_call 197;refine(rW b w ao out.length cap most h.fit ht h5 h6).mono ?_;rintro e w1 ⟨rfl,k,rfl⟩)|(at_builtin;refine wpList_append_own _ rfl _ _ 114 rfl (b+1) 5 i0 (.int .u8 0) 1 1 Tryz.underlying114 hi hz0 hz1 hz2 rfl (by decide) _ _ _ rfl ((hod k).alloc _) ⟨_,0,none⟩ 1 1 [.int .u8 (c.toNat:Int)] rfl rfl (cell_one_new _ _ _) (by simp[Value.oneCell']) c3 c4 (hbd k _) ?_;intro v' w1 hown' hgrow _;obtain⟨q5,q6⟩:=h.fC h5 ho (((Touch.refl _ w).drewN k).alloc _) hgrow;obtain⟨g',cap',hv',_⟩:=Fp hown' (by omega);rw[hv']at hown' ⊢));go_ret;have hin:=h.given (p:=p) (q:=p) (new:=[c]) h5 ho (((Touch.refl _ w).drewN k).alloc _) hgrow hown' hroom hfew;exact⟨rfl,hin.1,hin.2⟩
theorem Ky{P:Program}(w:World)(base:Nat)(t tx ty e:TypeId)(i:TypeInfo)(z:Value)(bytes:Nat)(ht:P.underlying t=some (.slice e))(hi:P.info? e=some i)(hz:i.zero=some z)(hsize:i.size=1)(hby:i.bytes=bytes)(hzs:z.cells.size=1)(v:Value)(n:Nat)(xs:List Value)(hown:w.ownsRow base e 1 v n xs)(x:Value)(m:Nat)(news:List Value)(hs:Src P 1 tx x m news w)(h63:n+m<=maxLen)(hbytes:(n+m)*bytes<=140737488355328)(hbase:base<=w.heap.size): ∃v' w',(Builtin.append_ #[t,tx] ty #[v,x]).run P w=.ok v' w'/\w'.ownsRow base e 1 v' (n+m) (xs++news)/\w.grownBy w' v.ownBlock:=by
 subst hby;have hsmall:n+m<=9223372036854775807:=by simp only[maxLen]at h63;omega
 have hl:=hs.newsLen;have hlen:(xs++news).length=(n+m)*1:=by rw[List.length_append,hown.1,hl,Nat.add_mul]
 have hs':Src P i.size tx x m news w:=by rw[hsize];exact hs
 have grown:∀(old:Nat),old<n+m->∀(row:Option Nat),(w.drew.alloc (.cells ((xs++news).toArray++Builtin.zeroCells z.cells (grownCap w (n+m) old e-(n+m))) e)).ownsRow base e 1 (.slice (some ⟨w.heap.size,0,none⟩) (n+m) (grownCap w (n+m) old e)) (n+m) (xs++news) /\w.grownBy (w.drew.alloc (.cells ((xs++news).toArray++Builtin.zeroCells z.cells (grownCap w (n+m) old e-(n+m))) e)) row:=by
  intro old ho row;have hge:=grownCap_ge w (n+m) old e;have hcm:grownCap w (n+m) old e<=maxLen:=grownCap_le_maxLen w (n+m) old e h63;refine⟨⟨hlen,.inr ⟨w.heap.size,_,_,rfl,hbase,heap_alloc_new w.drew _,hge,hcm,?_,?_⟩⟩,⟨rfl,rfl,rfl,by simp,fun k hk _=>Below.heap_alloc w.drew _ k hk⟩⟩
  .simp only[Array.size_append,List.size_toArray,size_zeroCells,hzs,hlen];omega
  rw[Array.toList_append,<-hlen];exact List.take_left
 rcases hown.2 with⟨rfl,rfl⟩|⟨g,cap,cur,rfl,hbg,hg,hnc,hcm,hcs,htake⟩
 .have hx:xs=[]:=List.eq_nil_of_length_eq_zero (by simpa using hown.1);subst hx;by_cases hm:m=0
  .subst hm;have hn:news=[]:=List.eq_nil_of_length_eq_zero (by simpa using hl);subst hn;refine⟨.slice none 0 0,w,?_,World.ownsRow_nil w base e 1,⟨rfl,rfl,rfl,Nat.le_refl _,fun _ _ _=>rfl⟩⟩;rcases hs.kind with⟨e',hk⟩|hk<;>simp[Builtin.append_,run_underlying ht,run_underlying hk,sizeOf,typeInfo,hi,hs.len,hs'.cells]
  have hr:=run_append_grow_src (P:=P) w t tx ty e i z ht hi hz none 0 0 [] (by simp[Builtin.firstCells]) x m news hs' (by omega) (by omega) (growslice_fits (by omega) (by simpa using hbytes));have hgr:=grown 0 (by omega) (Value.ownBlock (.slice none 0 0));simp only[Nat.zero_add,List.nil_append]at hgr hr ⊢;exact⟨_,_,hr,hgr.1,hgr.2⟩
 by_cases hroom:n+m<=cap
 .have hfit:n*i.size+news.length<=cur.size:=by rw[hl,hcs,hsize];omega
  have hst:=run_storeCells_at P g (n*i.size) e news 0 cur w hg (by simpa using hfit) hs.one;simp only[Nat.add_zero]at hst;have hr:(Builtin.append_ #[t,tx] ty #[.slice (some ⟨g,0,none⟩) n cap,x]).run P w=.ok (.slice (some ⟨g,0,none⟩) (n+m) cap) (w.setRow g (cur.toList.take (n*i.size)++news++cur.toList.drop (n*i.size+news.length)).toArray):=by
   rcases hs.kind with⟨e',hk⟩|hk<;>simp[Builtin.append_,run_underlying ht,run_underlying hk,sizeOf,typeInfo,hi,hs.len,hroom,hs'.cells,Addr.add_lit,hst]
  rw[hsize]at hr hfit;refine⟨_,_,hr,⟨hlen,.inr ⟨g,cap,_,rfl,hbg,setRow_heap w g cur _ e _ hg,hroom,hcm,?_,?_⟩⟩,⟨rfl,rfl,rfl,by simp,fun k _ hk=>setRow_other w g k _ (fun e=>hk (by simp[Value.ownBlock,e]))⟩⟩
  .simp only[List.size_toArray,List.length_append,List.length_take,List.length_drop,Array.length_toList];omega
  rw[htake,<-hlen];exact List.take_left
 have holds:∀j u,xs[j]?=some u->w.cell? ((⟨g,0,none⟩:Addr).add j)=some u:=hown.cells (g:=g) rfl;have hold:(Builtin.firstCells i.size n (.slice (some ⟨g,0,none⟩) n cap)).run P w.drew=.ok xs.toArray w.drew:=run_firstCells_some w.drew i.size n ⟨g,0,none⟩ n cap xs (by rw[hsize];exact hown.1) holds;have hr:=run_append_grow_src (P:=P) w t tx ty e i z ht hi hz (some ⟨g,0,none⟩) n cap xs hold x m news hs' (by omega) (by omega) (growslice_fits (by omega) hbytes);have hgr:=grown cap (by omega) (Value.ownBlock (.slice (some ⟨g,0,none⟩) n cap));exact⟨_,_,hr,hgr.1,hgr.2⟩
theorem Ku{P:Program}{ops:Array Oper}{o:Oper}{a:Act}{w:World}{K:Act->World->Prop}{Q:Exit->Act->World->Prop}{E:Prop}(hg:o.guard=none)(s x:Operand)(t tx:TypeId)(hop:o.op=Op.call { callee:=Callee.builtin Builtin.append,args:=#[s,x],argTypes:=#[t,tx] })(base:Nat)(e:TypeId)(i:TypeInfo)(z:Value)(bytes:Nat)(h1:P.underlying t=some (.slice e))(h2:P.info? e=some i)(h3:i.zero=some z)(h4:i.size=1)(h5:i.bytes=bytes)(h6:z.cells.size=1)(v:Value)(n:Nat)(xs:List Value)(hv:a.eval s=v)(hown:w.ownsRow base e 1 v n xs)(y:Value)(m:Nat)(news:List Value)(hy:a.eval x=y)(hs:Src P 1 tx y m news w)(b1:n+m<=maxLen)(b2:(n+m)*bytes<=140737488355328)(b3:base<=w.heap.size)(hK:∀v' w',w'.ownsRow base e 1 v' (n+m) (xs++news)->w.grownBy w' v.ownBlock->K (a.put o.dst v') w'): if Region.wanted o (yielded ops a.tmps)=true then Oper.wp P o a w K Q else E:=by
 have hw:Region.wanted o (yielded ops a.tmps)=true:=by simp[Region.wanted,hg]
 rw[if_pos hw];obtain⟨v',w',hrun,r1,r2⟩:=Ky (P:=P) w base t tx o.type e i z bytes h1 h2 h3 h4 h5 h6 v n xs hown y m news hs b1 b2 b3;unfold Oper.wp;simp[execOp,hop,resolve,invoke,builtin,hv,hy,hrun,Result.andThen];exact hK v' w' r1 r2
end Go.Proofs.YtmhlkdlcpicekaaGreatDoor
