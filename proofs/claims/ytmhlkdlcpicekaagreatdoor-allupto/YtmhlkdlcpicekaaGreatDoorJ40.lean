/- Joined. -/
import Derived.Test.YtmhlkdlcpicekaaGreatDoorJ36
set_option linter.unusedSimpArgs false
set_option linter.unusedVariables false
set_option maxRecDepth 100000
set_option maxHeartbeats 20000000
namespace Go.Proofs.YtmhlkdlcpicekaaGreatDoor
open Go.RowKit
theorem Qhz:Ed ⟨#[75,4,0]⟩ 1=.inr ([97],18):=by decide +kernel
theorem Qcc(w:World)(s:ByteArray)(most:Int)(out:List UInt8)(q:Nat)(B:ByteArray)(T:Int)(hR:Ed s most=.inr (out,q))(hB:B=⟨out.toArray⟩)(hT:T=(((q+7)/8:Nat):Int))(hm:most<=9223372036854775807)(hs:s.size<=2147483648)(ho:Ord w)(hb:1<w.heap.size): Calls Tryz.prog 19 #[.string s,.int .i64 most] w fun e w'=>e=.returned (.tuple #[.string B,.int .i64 T,.int .i64 0])/\Below w.heap.size w w':=by
 subst hB hT;refine(dB w s most hm hs ho hb).mono ?_;rintro e w' ⟨rfl,hb⟩;rw[hR];exact⟨rfl,hb⟩
theorem Qed{x y z:World}(h:Below x.heap.size x y)(k:Below y.heap.size y z):Below x.heap.size x z:=h.trans (k.mono h.size)
theorem Qh7(w:World)(k:Int)(h0:0<=k)(h1:k<=100):Calls Tryz.prog 97 #[.int .i64 k] w fun e w'=>e=.returned (.int .i64 k)/\w=w':=by
 go_enter Tryz.func97,Tryz.ntmps97;go_wp2;go_ret;exact⟨rfl,rfl⟩
theorem Qiw(w:World)(s:ByteArray)(x:Nat)(hx:sumOf s=x)(hs:s.size<=maxLen): Calls Tryz.prog 95 #[.string s] w fun e w'=>e=.returned (.int .i64 (x:Int))/\w=w':=by
 subst hx;exact(xU w s hs).mono fun _ _ h=>⟨h.1,h.2.symm⟩
theorem Qi6(w:World)(s:ByteArray)(x:Nat)(hx:sumOf s=x)(hs:s.size<=maxLen): Calls Tryz.prog 24 #[.string s] w fun e w'=>e=.returned (.int .u32 (x:Int))/\Below w.heap.size w w':=by
 subst hx;exact Qh6 w s hs
theorem mX(w:World)(s:ByteArray)(most:Int)(v:Value)(hv:He (Ed s most)=v)(hm:most<=9223372036854775807)(hs:s.size<=2147483648)(ho:Ord w)(hb:1<w.heap.size): Calls Tryz.prog 19 #[.string s,.int .i64 most] w fun e w'=>e=.returned v/\Below w.heap.size w w':=by
 subst hv;exact dB w s most hm hs ho hb
theorem kW(w:World)(s:ByteArray)(most:Int)(v:Value)(hv:He (Ed s most)=v)(hs:s.size<=2147483648): Calls Tryz.prog 96 #[.string s,.int .i64 most] w fun e w'=>e=.returned v/\Below w.heap.size w w':=by
 subst hv;exact(jP w s most hs).mono fun _ _ h=>⟨h.1,h.2.toBelow (Nat.le_refl _) (fun _ _ e=>e)⟩
theorem Qfg(s:ByteArray):sumOf s<4294967296:=by
 unfold sumOf;exact Nat.xor_lt_two_pow (n:=32) (by omega) (Vx _)
theorem Qg5(w:World)(K N:Int)(S:ByteArray)(v1 v4 v5 v6 v7 v8:Value)(hN:N<=9223372036854775807)(hs:S.size<=2147483648)(ho:Ord w)(h0:1<w.heap.size): Calls Tryz.prog 53 #[.agg #[.int .i64 K,v1,.int .i64 N,.string S,v4,v5,v6,v7,v8]] w fun e w'=>e=.returned (.bool true)/\Below w.heap.size w w':=by
 have hsm:S.size<=maxLen:=by unfold maxLen;omega
 by_cases hk:K=1
 .subst hk;obtain⟨x,hx⟩:∃x,sumOf S=x:=⟨_,rfl⟩;have bx:=Qfg S;rw[hx]at bx;have HX:Hid (sumOf S=x):=hx;clear hx;go_enter Tryz.func53,Tryz.ntmps53;go_wp2_with fail;refine(Qi6 _ S x HX.out hsm).mono ?_;rintro e w1 ⟨rfl,b1⟩;have c3:w1.cell? ⟨w.heap.size,3,none⟩=some (.string S):=by
   rw[b1.cell (p:=⟨w.heap.size,3,none⟩) (by show w.heap.size<_;simp),Ac (heap_alloc_new w _) 3];rfl
  have B1:Below w.heap.size w w1:=((Below.refl _ w).alloc (Nat.le_refl _) _).trans (b1.mono (by simp));go_wp2_with fail;refine(Qiw w1 S x HX.out hsm).mono ?_;rintro e w2 ⟨rfl,rfl⟩;go_wp2;go_ret;exact⟨rfl,B1⟩
 have hk':(K==1)=false:=by simp;exact hk
 obtain⟨R,hR⟩:∃R,Ed S N=R:=⟨_,rfl⟩;have o1:Ord (w.alloc (.cells #[.int .i64 K,v1,.int .i64 N,.string S,v4,v5,v6,v7,v8] 65)):=ho.keep ((Touch.refl (fun _=>False) w).alloc _) (fun e=>e);have z1:1<(w.alloc (.cells #[.int .i64 K,v1,.int .i64 N,.string S,v4,v5,v6,v7,v8] 65)).heap.size:=by rw[World.size_alloc];omega
 cases R with
 |inl k=>
  have hk2:=Pm _ _ _ _ _ _ (show Bq S (max N 0).toNat (8*S.size+1) 0 []=.inl k from hR);have HV:Hid (He (Ed S N)=.tuple #[.string ⟨#[]⟩,.int .i64 0,.int .i64 (k:Int)]):=by unfold Hid;rw[hR];rfl
  clear hR;go_enter Tryz.func53,Tryz.ntmps53;go_wp2_with fail;refine(mX _ S N _ HV.out hN hs o1 z1).mono ?_;rintro e w1 ⟨rfl,b1⟩;have c3:w1.cell? ⟨w.heap.size,3,none⟩=some (.string S):=by
   rw[b1.cell (p:=⟨w.heap.size,3,none⟩) (by show w.heap.size<_;simp),Ac (heap_alloc_new w _) 3];rfl
  have c2:w1.cell? ⟨w.heap.size,2,none⟩=some (.int .i64 N):=by
   rw[b1.cell (p:=⟨w.heap.size,2,none⟩) (by show w.heap.size<_;simp),Ac (heap_alloc_new w _) 2];rfl
  have B1:Below w.heap.size w w1:=((Below.refl _ w).alloc (Nat.le_refl _) _).trans (b1.mono (by simp));clear b1 o1 z1;go_wp2_with fail;refine(kW w1 S N _ HV.out hs).mono ?_;rintro e w2 ⟨rfl,b2⟩;have B2:=Qed B1 b2;clear c2 c3;go_wp2_with (go_at_call 97;refine(Qh7 w2 (k:Int) (by omega) (by omega)).mono ?_;rintro e w3 ⟨rfl,rfl⟩);go_ret;exact⟨rfl,B2⟩
 |inr oq=>
  obtain⟨out,q⟩:=oq;have hq:=Qz _ _ _ _ _ _ _ (show Bq S (max N 0).toNat (8*S.size+1) 0 []=.inr (out,q) from hR);obtain⟨t,ht⟩:∃t,t=(q+7)/8:=⟨_,rfl⟩;obtain⟨B,hB⟩:∃B:ByteArray,B=⟨out.toArray⟩:=⟨_,rfl⟩;have HV:Hid (He (Ed S N)=.tuple #[.string B,.int .i64 (t:Int),.int .i64 0]):=by unfold Hid;rw[hR,ht,hB];rfl
  clear hR ht hB hq;go_enter Tryz.func53,Tryz.ntmps53;go_wp2_with fail;refine(mX _ S N _ HV.out hN hs o1 z1).mono ?_;rintro e w1 ⟨rfl,b1⟩;have c3:w1.cell? ⟨w.heap.size,3,none⟩=some (.string S):=by
   rw[b1.cell (p:=⟨w.heap.size,3,none⟩) (by show w.heap.size<_;simp),Ac (heap_alloc_new w _) 3];rfl
  have c2:w1.cell? ⟨w.heap.size,2,none⟩=some (.int .i64 N):=by
   rw[b1.cell (p:=⟨w.heap.size,2,none⟩) (by show w.heap.size<_;simp),Ac (heap_alloc_new w _) 2];rfl
  have B1:Below w.heap.size w w1:=((Below.refl _ w).alloc (Nat.le_refl _) _).trans (b1.mono (by simp));clear b1 o1 z1;go_wp2_with fail;refine(kW w1 S N _ HV.out hs).mono ?_;rintro e w2 ⟨rfl,b2⟩;have B2:=Qed B1 b2;clear c2 c3;go_wp2_with (go_at_call 97;refine(Qh7 w2 0 (by omega) (by omega)).mono ?_;rintro e w3 ⟨rfl,rfl⟩);go_ret;exact⟨rfl,B2⟩
theorem yD(w:World)(b:Value)(K N:Int)(S:ByteArray)(v1 v4 v5 v6 v7 v8:Value)(hK:K=1\/K=2)(hN:N<=9223372036854775807)(hs:S.size<=2147483648)(ho:Ord w)(h0:1<w.heap.size): Calls Tryz.prog 22 #[b,.agg #[.int .i64 K,v1,.int .i64 N,.string S,v4,v5,v6,v7,v8]] w fun e w'=>e=.returned (.bool true)/\Below w.heap.size w w':=by
 have o1:Ord (w.alloc (.cells #[.int .i64 K,v1,.int .i64 N,.string S,v4,v5,v6,v7,v8] 65)):=ho.keep ((Touch.refl (fun _=>False) w).alloc _) (fun e=>e);have z1:1<(w.alloc (.cells #[.int .i64 K,v1,.int .i64 N,.string S,v4,v5,v6,v7,v8] 65)).heap.size:=by rw[World.size_alloc];omega
 have B1:Below w.heap.size w (w.alloc (.cells #[.int .i64 K,v1,.int .i64 N,.string S,v4,v5,v6,v7,v8] 65)):=(Below.refl _ w).alloc (Nat.le_refl _) _;rcases hK with rfl|rfl;all_goals
  go_enter Tryz.func22,Tryz.ntmps22;go_wp2_with (go_at_call 53;refine(Qg5 _ _ N S v1 v4 v5 v6 v7 v8 hN hs o1 z1).mono ?_;rintro e w2 ⟨rfl,b2⟩);go_ret;exact⟨rfl,Qed B1 b2⟩
end Go.Proofs.YtmhlkdlcpicekaaGreatDoor
