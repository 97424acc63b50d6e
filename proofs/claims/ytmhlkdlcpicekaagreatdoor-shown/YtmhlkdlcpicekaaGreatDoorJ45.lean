/- Texts of this seat, joined. -/
import Derived.Test.YtmhlkdlcpicekaaGreatDoorJ35
import Derived.Test.YtmhlkdlcpicekaaGreatDoorJ42
import Derived.Test.YtmhlkdlcpicekaaGreatDoorJ44
import Derived.Deep.RegionHeld3
set_option linter.unusedSimpArgs false
set_option linter.unusedVariables false
set_option maxRecDepth 100000
set_option maxHeartbeats 20000000
namespace Go.Proofs.YtmhlkdlcpicekaaGreatDoor
open Go.RowKit Go.Shelf Go.Maps
theorem shown_ok (w : World) (ao : Option Addr) (len cap : Nat) (co : Option Addr) (cl ccap : Nat) (A : ByteArray) (n NM BY : Nat) (o : List Fil) (hn10 : n ≤ 10) (hNM : NM ≤ 1000000) (hBY : BY ≤ 1000000) (hA : A.size ≤ 1000000) (hU : unpOf A (n : Int) (NM : Int) (BY : Int) = .inr o) (hok : FilesOk o) (holen : o.length ≤ 100000) (hod : ∀ x ∈ o, x.2.length ≤ 100000) (hord : Ord w) (h0 : 1 < w.heap.size) (hcl : cl ≤ 9223372036854775807)
  (hcut : ∀ i, i < cl → ∃ cb cf X, co = some ⟨cb, cf, none⟩ ∧ w.cell? ⟨cb, cf + i, none⟩ = some (.int .i64 X) ∧ (-9223372036854775808 ≤ X ∧ X ≤ 9223372036854775807))
  (HB : Hid (∀ W, Touch (fun _ => False) w W → Calls Tryz.prog 9 #[.slice ao len cap, .bool false] W fun r w' => Touch (fun _ => False) W w' ∧ ∃ va vn vc, r = .returned (.agg #[.string A, .slice va vn vc, .int .i64 (NM : Int), .int .i64 (BY : Int), .int .i64 (n : Int)]))) :
  Calls Tryz.prog 4 #[.slice ao len cap, .slice co cl ccap] w fun r w' => r = .returned (.bool true) ∧ Below w.heap.size w w' := by
 have HO : Hid (∀ W, Touch (fun _ => False) w W → Ord W ∧ 1 < W.heap.size) := fun W t => ⟨hord.keep t (fun e => e), Nat.lt_of_lt_of_le h0 t.size⟩
 have HCUT : Hid (∀ i, i < cl → ∃ cb cf X, co = some ⟨cb, cf, none⟩ ∧ w.cell? ⟨cb, cf + i, none⟩ = some (.int .i64 X) ∧ (-9223372036854775808 ≤ X ∧ X ≤ 9223372036854775807)) := hcut
 have HUP : Hid (∀ W, Ord W → 1 < W.heap.size → Calls Tryz.prog 11 #[.string A, .agg #[.int .i64 (n : Int), .int .i64 (NM : Int), .int .i64 (BY : Int)]] W fun r w' => Touch (fun _ => False) W w' ∧ ∃ v, r = .returned (.tuple #[v, .int .i64 0]) ∧ filesV W.heap.size w' v o) := fun W h1 h2 => by
  refine (unpack_t W A _ _ _ (by omega) (by omega) (by omega) h1 h2).mono ?_
  rintro r w' ⟨t, hp⟩
  rw [hU] at hp
  exact ⟨t, hp⟩
 obtain ⟨M, hM⟩ : ∃ M, M = o.length := ⟨_, rfl⟩
 obtain ⟨st, hst⟩ : ∃ st, st = stp o o.length := ⟨_, rfl⟩
 have HM : Hid (M = o.length) := hM
 have HST : Hid (st = stp o o.length) := hst
 have HSP : Hid (∀ k, k ≤ M → stp o k ≤ 10000200001) := fun k hk => by
  have h1 := stp_le o 100000 hod k
  have h2 : k * (100000 + 2) ≤ 100000 * (100000 + 2) := Nat.mul_le_mul_right _ (by omega)
  omega
 have hstb : st ≤ 10000200001 := by rw [hst]; exact HSP.out _ (by omega)
 have HOK : Hid (FilesOk o) := hok
 have HUU : Hid (unpOf A (n : Int) (NM : Int) (BY : Int) = .inr o) := hU
 have HOD : Hid (∀ x ∈ o, x.2.length ≤ 100000) := hod
 have HML : Hid (o.length ≤ 100000) := holen
 have hM1 : M ≤ 100000 := by omega
 have HORD : Hid (Ord w ∧ 1 < w.heap.size) := ⟨hord, h0⟩
 clear hcut hU hok hod hord h0 hM hst holen
 go_enter Tryz.func4, Tryz.ntmps4
 go_wp2_with fail
 refine (awake_c _ (HO.out _ (Touch.refl _ _)).1 (HO.out _ (Touch.refl _ _)).2).mono ?_
 rintro e w1 ⟨rfl, b1⟩
 have T1 := Touch.ofBelow b1 (fun _ => False)
 clear b1
 go_wp2_with fail
 refine (newStore_b _).mono ?_
 rintro e w2 ⟨rfl, hSB, t2⟩
 obtain ⟨S, hS⟩ : ∃ S, S = w1.heap.size := ⟨_, rfl⟩
 have T2 := T1.trans t2
 have st2 := Sto.new hSB
 have hSw : w.heap.size ≤ S := by rw [hS]; exact T1.size
 rw [← hS] at st2 ⊢
 clear hS hSB t2 T1
 go_wp2_with fail
 refine (HB.out _ T2).mono ?_
 rintro e w3 ⟨t3, va, vn, vc, rfl⟩
 have T3 := T2.trans t3
 have st3 := st2.same t3
 have hS3 : S < w3.heap.size := st3.low S st3.own
 have T4 := T3.alloc (Obj.cells #[.string A, .slice va vn vc, .int .i64 (NM : Int), .int .i64 (BY : Int), .int .i64 (n : Int)] 32)
 have HB0 := cells_new w3 [.string A, .slice va vn vc, .int .i64 (NM : Int), .int .i64 (BY : Int), .int .i64 (n : Int)] 32 0 _ rfl
 have st4 := st3.same ((Touch.refl _ w3).alloc (Obj.cells #[.string A, .slice va vn vc, .int .i64 (NM : Int), .int .i64 (BY : Int), .int .i64 (n : Int)] 32))
 clear st2 st3 t3 T2 T3 HB
 go_wp2_with fail
 refine (allowed_c _ (.string A) (.slice va vn vc) (NM : Int) (BY : Int) (n : Int)).mono ?_
 rintro e w5 ⟨rfl, t5⟩
 have T5 := T4.trans t5
 have st5 := st4.same t5
 have B50 := t5.at HB0 (fun e => e)
 have hS5 : w3.heap.size < w5.heap.size := World.block_lt_of_cell? w5 _ B50
 have T6 := T5.alloc (Obj.cells #[.int .i64 (n : Int), .int .i64 (NM : Int), .int .i64 (BY : Int)] 35)
 have a6 : Touch (fun _ => False) w5 (w5.alloc (Obj.cells #[.int .i64 (n : Int), .int .i64 (NM : Int), .int .i64 (BY : Int)] 35)) := (Touch.refl _ _).alloc _
 have st6 := st5.same a6
 have B60 := a6.at B50 (fun e => e)
 obtain ⟨Q60, Q61, Q62⟩ := quota_new w5 (.int .i64 (n : Int)) (.int .i64 (NM : Int)) (.int .i64 (BY : Int)) 35
 clear HB0 st4 st5 T4 T5 t5 B50 a6
 go_wp2_with fail
 refine (HUP.out _ (HO.out _ T6).1 (HO.out _ T6).2).mono ?_
 rintro e w7 ⟨t7, v7, rfl, ua, uc, hv7, hown7, hat7⟩
 subst hv7
 have T7 := T6.trans t7
 have st7 := st6.same t7
 have B70 := t7.at B60 (fun e => e)
 have Q70 := t7.at Q60 (fun e => e)
 have Q71 := t7.at Q61 (fun e => e)
 have Q72 := t7.at Q62 (fun e => e)
 have X7 : SX w7 S (fun q => q = S) w7 [] none false := ⟨st7, fun q e => .inl e, Touch.refl _ _⟩
 obtain ⟨ug, hug⟩ : ∃ ug, 0 < o.length → ua = some ⟨ug, 0, none⟩ ∧ FilesAt w7 ug o ∧ ug < w7.heap.size ∧ ug ≠ S := by
  by_cases hd : 0 < o.length
  ·obtain ⟨g, k1, k2, k3, k4⟩ := hat7 hd
   refine ⟨g, fun _ => ⟨k3, k4, k2, fun e => ?_⟩⟩
   have := st6.low S st6.own
   omega
  ·exact ⟨0, fun h => absurd h hd⟩
 have HUG : Hid (0 < o.length → ua = some ⟨ug, 0, none⟩ ∧ FilesAt w7 ug o ∧ ug < w7.heap.size ∧ ug ≠ S) := hug
 have HT7 : Hid (Touch (fun _ => False) w w7) := T7
 have lt3 : S < w3.heap.size := hS3
 have lt5 : w3.heap.size < w7.heap.size := World.block_lt_of_cell? w7 _ B70
 have lt7 : w5.heap.size < w7.heap.size := World.block_lt_of_cell? w7 _ Q70
 rw [← HM.out] at hown7 ⊢
 clear hat7 hug hown7 st6 st7 T6 T7 t7 B60 Q60 Q61 Q62 HUP
 go_wp2
 go_loop [11, 12] (fun s i => ∃ k : Nat, k ≤ M ∧ i = .int .i64 (k : Int) ∧ ∃ q : Nat, s = .int .i64 (q : Int) ∧ Hid (q = stp o k)) (fun s i => M - (intOf i).toNat)
 case atStart => exact ⟨0, Nat.zero_le _, rfl, 1, rfl, rfl⟩
 case round =>
  obtain ⟨k, hk, rfl, q, rfl, HQ⟩ := hrel
  by_cases hlt : k < M
  ·have hk' : k < o.length := by have := HM.out; omega
   obtain ⟨rfl, hfa, hul, hus⟩ := HUG.out (by omega)
   obtain ⟨x1, x2⟩ := hfa k hk'
   have hsz := HOD.out _ (List.getElem_mem hk')
   have hq := HSP.out k hk
   rw [← HQ.out] at hq
   have HSS : Hid (stp o (k + 1) = q + 1 + (o[k].2.length + 15) / 16) := by unfold Hid; rw [stp_succ o k hk', HQ.out]
   obtain ⟨D, hD⟩ : ∃ D : ByteArray, D = ⟨o[k].2.toArray⟩ := ⟨_, rfl⟩
   have hDs : D.size = o[k].2.length := by rw [hD]; exact kstr_size _
   rw [← hD] at x2
   rw [← hDs] at HSS hsz
   clear hfa hD hDs x1 HQ
   have i1 : (k : Int) < (M : Int) := by omega
   have z1 : ((D.size : Int) + 15).tdiv 16 = (((D.size + 15) / 16 : Nat) : Int) := by
    rw [Int.tdiv_eq_ediv_of_nonneg (by omega)]; omega
   go_wp2
   refine ⟨⟨k + 1, by omega, by go_num, q + 1 + (D.size + 15) / 16, ?_, ?_⟩, by simp [intOf]; omega⟩
   ·go_num
   ·exact HSS.out.symm
  ·obtain rfl : M = k := by omega
   obtain rfl : q = st := by rw [HQ.out, HST.out, HM.out]
   clear HSP HOD hk hlt HQ HO
   go_wp2
   go_loopw [13, 14, 15] (fun s f i wr => ∃ (k N : Nat) (off : Bool) (G : Nat → Prop) (l : List Fold) (c : CutS), k ≤ cl ∧ k ≤ 9 ∧ i = .int .i64 (k : Int) ∧ s = .int .i64 (N : Int) ∧ f = .bool off ∧ N ≤ k ∧ Hid (N = l.length) ∧ Hid (ShI o k l) ∧ Hid (SX w7 S G wr l c off)) (fun s f i wr => cl - (intOf i).toNat)
   case atStart => exact ⟨0, 0, false, _, [], none, Nat.zero_le _, Nat.zero_le _, rfl, rfl, rfl, Nat.le_refl _, rfl, (fun x hx => by cases hx), X7⟩
   case round =>
    clear X7
    obtain ⟨k, N, off, G, l, c, hk, hk9, rfl, rfl, rfl, hN, HN, HSH, HX⟩ := hrel
    have HCL : Hid (∀ W, Touch (fun q => q = S) w7 W → W.cell? ⟨w3.heap.size, 0, none⟩ = some (.string A) ∧ W.cell? ⟨w5.heap.size, 0, none⟩ = some (.int .i64 (n : Int)) ∧ W.cell? ⟨w5.heap.size, 1, none⟩ = some (.int .i64 (NM : Int)) ∧ W.cell? ⟨w5.heap.size, 2, none⟩ = some (.int .i64 (BY : Int))) := fun W t => ⟨t.at B70 (fun e => by have e' : w3.heap.size = S := e; omega), t.at Q70 (fun e => by have e' : w5.heap.size = S := e; omega), t.at Q71 (fun e => by have e' : w5.heap.size = S := e; omega), t.at Q72 (fun e => by have e' : w5.heap.size = S := e; omega)⟩
    have HOR : Hid (Ord w7 ∧ 1 < w7.heap.size ∧ 1 ≠ S) := ⟨HORD.out.1.keep HT7.out (fun e => e), Nat.lt_of_lt_of_le HORD.out.2 HT7.out.size, by have := HORD.out.2; omega⟩
    by_cases hin : k < cl ∧ k < 9
    ·obtain ⟨hk1, hk2⟩ := hin
     obtain ⟨cb, cf, X, rfl, hc0, hX0, hX1⟩ := HCUT.out k hk1
     have hcb : cb < w.heap.size := World.block_lt_of_cell? w _ hc0
     have HCC : Hid (∀ W, Touch (fun q => q = S) w7 W → W.cell? ⟨cb, cf + k, none⟩ = some (.int .i64 X)) := fun W t => t.at (HT7.out.at hc0 (fun e => e)) (fun e => by have : cb = S := e; omega)
     have ccr := HCC.out _ HX.out.tch
     obtain ⟨n', hn'⟩ : ∃ n', n' = pickOf (X.tdiv 3) (q + 2) := ⟨_, rfl⟩
     have hnb : n' < q + 2 := by rw [hn']; exact pickOf_lt _ _ (by omega)
     have hX3 := tdiv3 X ⟨hX0, hX1⟩
     have HPK : Hid (∀ W, Calls Tryz.prog 12 #[.int .i64 (X.tdiv 3), .int .i64 ((q : Int) + 2)] W fun e w' => e = .returned (.int .i64 (n' : Int)) ∧ W = w') := fun W => kpick_c W (X.tdiv 3) (q + 2) n' _ (by push_cast; rfl) hn'.symm (by omega) (by omega) (by omega) (by omega)
     obtain ⟨fl, hfl⟩ : ∃ fl : Bool, fl = (X.tmod 3 == 0) := ⟨_, rfl⟩
     have hfl' : (X.tmod 3 == 0) = fl := hfl.symm
     have i1 : (k : Int) < (cl : Int) := by omega
     have i2 : (k : Int) < 9 := by omega
     clear hn' hfl hc0
     go_wp2_with fail
     refine (HPK.out _).mono ?_
     rintro e w8 ⟨rfl, rfl⟩
     go_wp2_with fail
     refine (sx_cut w7 wr S G l c off HX.out n' fl (by omega)).mono ?_
     rintro e w9 ⟨rfl, X9⟩
     obtain ⟨b0, c0, c1, c2⟩ := HCL.out _ X9.tch
     have s1 : (k : Int) + 1 ≤ 9 := by omega
     have s2 : IntKind.i64.wrap ((k : Int) + 1) = (k : Int) + 1 := by simp [IntKind.wrap, IntKind.bits, IntKind.signed]; omega
     have s3 : (k : Int) ≤ (k : Int) + 1 := by omega
     have s4 : (0 : Int) ≤ (k : Int) := by omega
     have s5 : k + 1 ≤ 9 := by omega
     have s6 : k ≤ k + 1 := by omega
     have s7 : (0 : Int) ≤ (k : Int) + 1 := by omega
     have s8 : ((k : Int) + 1).toNat = k + 1 := by omega
     obtain ⟨c', hext⟩ := ext_let HSH.out hk2 n' fl off q (by rw [stp_all o HOK.out, ← HST.out])
     obtain ⟨dn, hdn⟩ : ∃ dn, dn = dnB off q n' := ⟨_, rfl⟩
     rw [← hdn] at hext
     obtain ⟨ff, hff⟩ : ∃ ff : Nat, ff = if dn then 0 else 14 := ⟨_, rfl⟩
     obtain ⟨L', hL'⟩ : ∃ L' : List Fold, L' = if dn then insF l (letB k, o) else l := ⟨_, rfl⟩
     obtain ⟨OF, hOF⟩ : ∃ OF : Bool, OF = (off || (!dn && !fl)) := ⟨_, rfl⟩
     have HS' : Hid (ShI o (k + 1) L') := by unfold Hid; rw [hL']; exact HSH.out.next hk2 dn
     have HAT : Hid (atF L' (letB k) = if dn then some o else none) := by unfold Hid; rw [hL']; exact HSH.out.atk hk2 dn
     have HLN : Hid (L'.length = N + if dn then 1 else 0) := by unfold Hid; rw [hL', ins_len, HN.out]
     rw [← hff, ← hL', ← hOF] at hext
     have HEX : Hid (∀ W, SX w7 S G W l (some (n', fl)) off → Calls Tryz.prog 14 #[.pointer (some ⟨S, 0, none⟩), .string ((⟨#[97, 98, 99, 100, 101, 102, 103, 104, 105]⟩ : ByteArray).extract k (k + 1)), .string A, .agg #[.int .i64 (n : Int), .int .i64 (NM : Int), .int .i64 (BY : Int)]] W fun r w' => ∃ G', r = .returned (.int .i64 (ff : Int)) ∧ SX w7 S G' w' L' c' OF) := fun W h => sx_extract w7 W S G l (some (n', fl)) off h (letB k) A _ _ _ (by omega) (by omega) (by omega) (by rw [letB_size k hk2]; omega) (by have := HN.out; omega) HOR.out.1 HOR.out.2.1 HOR.out.2.2 o HUU.out _ _ _ _ hext
     have HDN : Hid (dn = dnB off q n' ∧ ff = (if dn then 0 else 14) ∧ OF = (off || (!dn && !fl))) := ⟨hdn, hff, hOF⟩
     clear hL' hdn hff hOF
     have HX9 : Hid (SX w7 S G w9 l (some (n', fl)) off) := X9
     clear X9 hext HX HPK ccr
     go_wp2_with fail
     go_region_held3 (fun X => X.cell? ⟨w3.heap.size, 0, none⟩ = some (.string A) ∧ X.cell? ⟨w5.heap.size, 0, none⟩ = some (.int .i64 (n : Int)) ∧ X.cell? ⟨w5.heap.size, 1, none⟩ = some (.int .i64 (NM : Int)) ∧ X.cell? ⟨w5.heap.size, 2, none⟩ = some (.int .i64 (BY : Int))) (first | exact ⟨b0, c0, c1, c2⟩ | exact HCL.out _ X10.tch | assumption | go_keep) (first | (go_at_call 14; refine (HEX.out _ (by first | exact HX9.out | exact HX9.out.drew | exact HX9.out.drewN _)).mono ?_; rintro e w10 ⟨G', rfl, X10⟩))
     have HX10 : Hid (SX w7 S G' w10 L' c' OF) := X10
     obtain ⟨wo, hwo⟩ : ∃ wo, wo = wr := ⟨_, rfl⟩
     clear hwo b0 c0 c1 c2 HEX HX9 s2 s3 s4 s5 s6 s7 s8 s1
     obtain ⟨NL, hNL⟩ : ∃ NL, NL = L'.length := ⟨_, rfl⟩
     have HNL : Hid (NL = L'.length) := hNL
     have hNL1 : NL ≤ k + 1 := by rw [hNL, HLN.out]; split <;> omega
     clear hNL
     have HML2 : Hid (∀ x ∈ L', x.2.length ≤ 1000000000000) := fun x hx => by
      rw [(HS'.out x hx).1]
      have := HML.out
      omega
     have HFL : Hid (∀ W FN, SX w7 S G' W L' c' OF → FN.size ≤ 140737488355328 → atF L' FN = some o → Calls Tryz.prog 16 #[.pointer (some ⟨S, 0, none⟩), .string FN] W fun r w' => ∃ a g cp, r = .returned (.tuple #[.slice a M cp, .int .i64 0]) ∧ (0 < o.length → a = some ⟨g, 0, none⟩ ∧ FilesAt w' g o ∧ g < w'.heap.size) ∧ SX w7 S G' w' L' c' OF ∧ Touch G' W w') := fun W FN h hfs hat => by
      refine (sx_files w7 W S G' L' c' OF h FN hfs HML2.out).mono ?_
      rintro r w' ⟨hr, h', t'⟩
      rw [hat] at hr
      obtain ⟨v, rfl, hv⟩ := hr
      obtain ⟨a, cp, rfl⟩ := owned_sl hv
      have hf := filesAt_owned hv
      by_cases hd : 0 < o.length
      ·obtain ⟨g, e1, e2, e3, _⟩ := hf.2 hd
       exact ⟨a, g, cp, by rw [HM.out], fun _ => ⟨e1, e2, e3⟩, h', t'⟩
      ·exact ⟨a, 0, cp, by rw [HM.out], fun e => absurd e hd, h', t'⟩
     have HSM : Hid (∀ W a g cp, Touch (fun q => q = S) w7 W → (0 < o.length → a = some ⟨g, 0, none⟩ ∧ FilesAt W g o ∧ g < W.heap.size) → Calls Tryz.prog 17 #[.slice a M cp, .slice ua M uc] W fun r w' => r = .returned (.bool true) ∧ Touch (fun _ => False) W w') := fun W a g cp t h => by
      rw [HM.out]
      exact same_c W a g cp ua ug uc o h (fun hd => ⟨(HUG.out hd).1, filesAt_touch (HUG.out hd).2.1 t (HUG.out hd).2.2.2, Nat.lt_of_lt_of_le (HUG.out hd).2.2.1 t.size⟩) (by have := HML.out; omega)
     have HNA : Hid (∀ j (h : j < L'.length), atF L' L'[j].1 = some o ∧ L'[j].1.size ≤ 140737488355328) := fun j h => by
      refine ⟨HS'.out.at (List.getElem_mem h), ?_⟩
      obtain ⟨_, jj, _, h2, h3⟩ := HS'.out _ (List.getElem_mem h)
      rw [h3, letB_size jj h2]; omega
     have HC5 : (off = false ∧ q ≤ n') ∨ (off = true ∧ q ≤ n') ∨ (off = true ∧ ¬ q ≤ n') ∨ (off = false ∧ ¬ q ≤ n' ∧ fl = true) ∨ (off = false ∧ ¬ q ≤ n' ∧ fl = false) := by
      cases off <;> cases fl <;> simp <;> omega
     obtain ⟨e1, e2, e3⟩ := HDN.out
     clear HDN X10
     have HFK : Hid (∀ W, SX w7 S G' W L' c' OF → Calls Tryz.prog 16 #[.pointer (some ⟨S, 0, none⟩), .string ((⟨#[97, 98, 99, 100, 101, 102, 103, 104, 105]⟩ : ByteArray).extract k (k + 1))] W fun r w' => ∃ v, r = .returned (.tuple #[v, .int .i64 ((if dn then 0 else 16 : Nat) : Int)]) ∧ SX w7 S G' w' L' c' OF) := fun W h => by
      refine (sx_files w7 W S G' L' c' OF h (letB k) (by rw [letB_size k hk2]; omega) HML2.out).mono ?_
      rintro r w' ⟨hr, h', t'⟩
      rw [HAT.out] at hr
      cases dn with
      | true => obtain ⟨v, rfl, _⟩ := hr; exact ⟨v, rfl, h'⟩
      | false => obtain rfl := hr; exact ⟨_, rfl, h'⟩
     rcases HC5 with ⟨rfl, hle⟩ | ⟨rfl, hle⟩ | ⟨rfl, hle⟩ | ⟨rfl, hle, rfl⟩ | ⟨rfl, hle, rfl⟩
     all_goals
      simp [dnB, hle] at e1
      subst e1
      simp at e2 e3
      subst e2 e3
      have HEQ := HLN.out
      rw [← HNL.out] at HEQ
      simp only [if_true, Bool.false_eq_true, if_false] at HEQ HFK
      first | have hleI : (q : Int) ≤ (n' : Int) := by omega | have hleI : ¬ (q : Int) ≤ (n' : Int) := by omega
      have HEQ2 : Hid (NL = _) := HEQ
      clear HEQ HLN HAT
      go_wp2_with fail
      refine (sx_folders w7 w10 S G' L' c' _ HX10.out (by rw [← HNL.out]; omega)).mono ?_
      rintro e w11 ⟨v, rfl, hvo, X11⟩
      rw [← HNL.out] at hvo
      obtain ⟨vb, vd, rfl⟩ := owned_sl hvo
      have HVO : Hid (w11.ownsRow w10.heap.size 9 1 (.slice vb NL vd) NL (nameV L')) := hvo
      have HX11 : Hid (SX w7 S G' w11 L' c' _) := X11
      first | have zN : ((NL : Int) != (N : Int) + 1) = false := by (have := HEQ2.out; simp; omega) | have zN : ((NL : Int) != (N : Int)) = false := by (have := HEQ2.out; simp; omega)
      clear hvo X11
      go_wp2
      go_loopw [22] (fun jv wi => ∃ j : Nat, j ≤ NL ∧ jv = .int .i64 (j : Int) ∧ Hid (SX w7 S G' wi L' c' _) ∧ Hid (wi.ownsRow w10.heap.size 9 1 (.slice vb NL vd) NL (nameV L'))) (fun jv wi => NL - (intOf jv).toNat)
      case atStart => exact ⟨0, Nat.zero_le _, rfl, HX11, HVO⟩
      case round =>
       obtain ⟨j, hj, rfl, HXJ, HRJ⟩ := hrel
       by_cases hjl : j < NL
       ·have hj' : j < L'.length := by have := HNL.out; omega
        obtain ⟨gn, rfl, hcn⟩ := own1_cells HRJ.out (by omega)
        have hnm := hcn j hjl
        obtain ⟨hat, hfs⟩ := HNA.out j hj'
        have enm : (nameV L')[j]? = some (.string L'[j].1) := by unfold nameV; rw [List.getElem?_map, List.getElem?_eq_getElem hj']; rfl
        rw [enm] at hnm
        have hgn : w10.heap.size ≤ gn ∧ gn < wr.heap.size := HRJ.out.lt gn rfl
        have HLJ : Hid (∀ W, SX w7 S G' W L' c' _ → Calls Tryz.prog 16 #[.pointer (some ⟨S, 0, none⟩), .string L'[j].1] W fun r w' => ∃ a g cp, r = .returned (.tuple #[.slice a M cp, .int .i64 0]) ∧ (0 < o.length → a = some ⟨g, 0, none⟩ ∧ FilesAt w' g o ∧ g < w'.heap.size) ∧ SX w7 S G' w' L' c' _ ∧ Touch G' W w') := fun W h => HFL.out W _ h hfs hat
        clear hcn enm hat hfs
        revert hnm HLJ
        generalize L'[j].1 = FN
        intro hnm HLJ
        have j1 : (j : Int) < (NL : Int) := by omega
        go_wp2_with fail
        refine (HLJ.out _ HXJ.out).mono ?_
        rintro e w12 ⟨xa, xg, xc, rfl, hxf, X12, t12⟩
        have HR12 : Hid (w12.ownsRow w10.heap.size 9 1 (.slice (some ⟨gn, 0, none⟩) NL vd) NL (nameV L')) := t12.owns HRJ.out (fun p hp e => by
         cases hp
         have e9 : gn < w10.heap.size := HX10.out.sto.low gn e
         omega)
        have HF12 : Hid (0 < o.length → xa = some ⟨xg, 0, none⟩ ∧ FilesAt w12 xg o ∧ xg < w12.heap.size) := hxf
        have HX12 : Hid (SX w7 S G' w12 L' c' _) := X12
        clear hxf X12 t12 hnm HLJ
        go_wp2_with fail
        refine (HSM.out w12 xa xg xc HX12.out.tch HF12.out).mono ?_
        rintro e w13 ⟨rfl, t13⟩
        have HX13 : Hid (SX w7 S G' w13 L' c' _) := HX12.out.same t13
        have HR13 : Hid (w13.ownsRow w10.heap.size 9 1 (.slice (some ⟨gn, 0, none⟩) NL vd) NL (nameV L')) := t13.owns HR12.out (fun _ _ e => e)
        clear t13
        go_wp2
        exact ⟨⟨j + 1, by omega, by go_num, HX13, HR13⟩, by simp [intOf]; omega⟩
       ·obtain rfl : j = NL := by omega
        have s1 : (k : Int) + 1 ≤ 9 := by omega
        have s2 : IntKind.i64.wrap ((k : Int) + 1) = (k : Int) + 1 := by simp [IntKind.wrap, IntKind.bits, IntKind.signed]; omega
        have s3 : (k : Int) ≤ (k : Int) + 1 := by omega
        have s5 : k + 1 ≤ 9 := by omega
        have s8 : ((k : Int) + 1).toNat = k + 1 := by omega
        go_wp2_with fail
        refine (HFK.out _ HXJ.out).mono ?_
        rintro e w14 ⟨v14, rfl, X14⟩
        have c14 := HCC.out _ X14.tch
        have HX14 : Hid (SX w7 S G' w14 L' c' _) := X14
        clear X14 HXJ HRJ HFK
        by_cases hb : X.tmod 2 = 0
        ·have hb1 : (X.tmod 2 == 0) = true := by simpa using hb
         go_wp2_with fail
         refine (sx_boot w7 w14 S G' L' c' _ HX14.out).mono ?_
         rintro e w15 ⟨rfl, X15⟩
         have HX15 : Hid (SX w7 S G' w15 L' none false) := X15
         clear X15
         go_wp2
         exact ⟨⟨k + 1, j, false, G', L', none, by omega, by omega, by go_num, by (have := HEQ2.out; go_num), rfl, by omega, HNL, HS', HX15⟩, by simp [intOf]; omega⟩
        ·have hb1 : (X.tmod 2 == 0) = false := by simpa using hb
         go_wp2
         exact ⟨⟨k + 1, j, _, G', L', c', by omega, by omega, by go_num, by (have := HEQ2.out; go_num), rfl, by omega, HNL, HS', HX14⟩, by simp [intOf]; omega⟩
    ·have HZ1 : Hid (extOf l none false ⟨#[122]⟩ (.inr o) = (0, insF l (⟨#[122]⟩, o), none, false)) := ext_z1 HSH.out
     have HZ2 : Hid (extOf (insF l (⟨#[122]⟩, o)) none false ⟨#[122]⟩ (.inr o) = (8, insF l (⟨#[122]⟩, o), none, false)) := ext_z2
     have HZA : Hid (atF (insF l (⟨#[122]⟩, o)) ⟨#[122]⟩ = some o) := at_z HSH.out
     have HZL : Hid (∀ x ∈ insF l (⟨#[122]⟩, o), x.2.length ≤ 1000000000000) := fun x hx => by
      have h9 := HML.out
      rcases (insF_mem l _ x).1 hx with rfl | hx
      ·show o.length ≤ _; omega
      ·rw [(HSH.out x hx).1]; omega
     have HZN : Hid ((insF l (⟨#[122]⟩, o)).length ≤ 100) := by unfold Hid; rw [insF_len, ← HN.out]; omega
     have hin' : (k < cl ∧ ¬ k < 9) ∨ ¬ k < cl := by omega
     have HBL : Hid (∀ W, Touch (fun q => q = S) w7 W → Below w.heap.size w W) := fun W t => ((HT7.out.wide (G := fun q => q = S) (fun k e => e.elim)).trans t).toBelow (Nat.le_refl _) (fun k hk e => by omega)
     clear hin
     rcases hin' with ⟨hk1, hk2⟩ | hk1
     all_goals
      first | have i1 : (k : Int) < (cl : Int) := by omega | have i1 : ¬ (k : Int) < (cl : Int) := by omega
      first | have i2 : ¬ (k : Int) < 9 := by omega | skip
      clear HCUT
      go_wp2_with fail
      refine (sx_boot w7 wr S G l c off HX.out).mono ?_
      rintro e x1 ⟨rfl, X1⟩
      obtain ⟨b0, c0, c1, c2⟩ := HCL.out _ X1.tch
      have HX1 : Hid (SX w7 S G x1 l none false) := X1
      clear X1 HX
      go_wp2_with fail
      refine (sx_extract w7 x1 S G l none false HX1.out ⟨#[122]⟩ A _ _ _ (by omega) (by omega) (by omega) (by decide) (by have := HN.out; omega) HOR.out.1 HOR.out.2.1 HOR.out.2.2 o HUU.out _ _ _ _ HZ1.out).mono ?_
      rintro e x2 ⟨G2, rfl, X2⟩
      clear b0 c0 c1 c2
      obtain ⟨b0, c0, c1, c2⟩ := HCL.out _ X2.tch
      have HX2 : Hid (SX w7 S G2 x2 (insF l (⟨#[122]⟩, o)) none false) := X2
      clear X2 HX1
      go_wp2_with fail
      refine (sx_extract w7 x2 S G2 (insF l (⟨#[122]⟩, o)) none false HX2.out ⟨#[122]⟩ A _ _ _ (by omega) (by omega) (by omega) (by decide) (by have := HZN.out; omega) HOR.out.1 HOR.out.2.1 HOR.out.2.2 o HUU.out _ _ _ _ HZ2.out).mono ?_
      rintro e x3 ⟨G3, rfl, X3⟩
      have HX3 : Hid (SX w7 S G3 x3 (insF l (⟨#[122]⟩, o)) none false) := X3
      clear X3 HX2 b0 c0 c1 c2
      go_wp2_with fail
      refine (sx_files w7 x3 S G3 _ none false HX3.out ⟨#[122]⟩ (by decide) HZL.out).mono ?_
      rintro e x4 ⟨hr4, X4, _⟩
      rw [HZA.out] at hr4
      obtain ⟨v4, rfl, hv4⟩ := hr4
      obtain ⟨a4, cp4, rfl⟩ := owned_sl hv4
      have HF4 : Hid (∃ g, 0 < o.length → a4 = some ⟨g, 0, none⟩ ∧ FilesAt x4 g o ∧ g < x4.heap.size) := by
       have hf := filesAt_owned hv4
       by_cases hd : 0 < o.length
       ·obtain ⟨g, e1, e2, e3, _⟩ := hf.2 hd
        exact ⟨g, fun _ => ⟨e1, e2, e3⟩⟩
       ·exact ⟨0, fun e => absurd e hd⟩
      obtain ⟨g4, hf4⟩ := HF4.out
      have HG4 : Hid (0 < o.length → a4 = some ⟨g4, 0, none⟩ ∧ FilesAt x4 g4 o ∧ g4 < x4.heap.size) := hf4
      have HX4 : Hid (SX w7 S G3 x4 (insF l (⟨#[122]⟩, o)) none false) := X4
      rw [← HM.out]
      clear X4 HX3 hv4 HF4 hf4
      go_wp2_with fail
      have HS4 : Calls Tryz.prog 17 #[.slice a4 M cp4, .slice ua M uc] x4 fun r w' => r = .returned (.bool true) ∧ Touch (fun _ => False) x4 w' := by
       rw [HM.out]
       exact same_c x4 a4 g4 cp4 ua ug uc o HG4.out (fun hd => ⟨(HUG.out hd).1, filesAt_touch (HUG.out hd).2.1 HX4.out.tch (HUG.out hd).2.2.2, Nat.lt_of_lt_of_le (HUG.out hd).2.2.1 HX4.out.tch.size⟩) (by have := HML.out; omega)
      refine HS4.mono ?_
      rintro e x5 ⟨rfl, t5⟩
      have HB5 : Hid (Below w.heap.size w x5) := HBL.out _ (HX4.out.tch.trans (t5.wide (fun k e => e.elim)))
      clear HS4 t5 HX4
      go_wp2
      go_ret
      exact ⟨rfl, HB5.out⟩
end Go.Proofs.YtmhlkdlcpicekaaGreatDoor
