/- Texts of this seat, joined. -/
import Derived.Test.YtnmkmmgaoplfiaaGreatDoorJ43
import Derived.Test.YtnmkmmgaoplfiaaGreatDoorJ44
import Derived.Test.YtnmkmmgaoplfiaaGreatDoorJ42
import Derived.BigQuiet
import Derived.Deep.RegionHeld3
import Derived.Deep.RegionWith
import Derived.Deep.DeepCutAuto
import Derived.Maps.OwnSet
set_option linter.unusedSimpArgs false
set_option linter.unusedVariables false
set_option maxRecDepth 100000
set_option maxHeartbeats 20000000
namespace Go.Proofs.YtnmkmmgaoplfiaaGreatDoor
open Go.RowKit Go.Shelf
def nfTo (fl : List Fil) (k : Nat) : Nat := ((fl.take k).filter fun f => !folderB f.1).length
theorem nfTo_succ (fl : List Fil) (k : Nat) (h : k < fl.length) : nfTo fl (k + 1) = nfTo fl k + if folderB fl[k].1 then 0 else 1 := by
 unfold nfTo
 rw [List.take_succ_eq_append_getElem h, List.filter_append, List.length_append]
 cases hf : folderB fl[k].1 <;> simp [hf]
theorem nfTo_le (fl : List Fil) (k : Nat) : nfTo fl k ≤ k := by
 unfold nfTo
 have h1 := List.length_filter_le (fun f : Fil => !folderB f.1) (fl.take k)
 rw [List.length_take] at h1
 omega
structure WholeOk (fl : List Fil) (L : List Spanned) (o : List Fil) (F : Nat) : Prop where
 ent : ∀ i (h : i < fl.length) (h' : i < L.length), L[i].ent.name = fl[i].1 ∧ L[i].ent.size = fl[i].2.length ∧ 0 < fl[i].1.size ∧ fl[i].1.size ≤ 60 ∧ fl[i].2.length ≤ 3600
 told : ∀ i (h : i < fl.length), findOf o fl[i].1 = some fl[i].2
 cnt : o.length = F + nfTo fl fl.length
 up : UpOk o
theorem allowed_c (w : World) (a v : Value) (x y z : Int) :
  Calls Tryz.prog 7 #[.agg #[a, v, .int .i64 x, .int .i64 y, .int .i64 z]] w fun r w' => r = .returned (.agg #[.int .i64 z, .int .i64 x, .int .i64 y]) ∧ Touch (fun _ => False) w w' := by
 have c2 := cells_new w [a, v, .int .i64 x, .int .i64 y, .int .i64 z] 26 2 _ rfl
 have c3 := cells_new w [a, v, .int .i64 x, .int .i64 y, .int .i64 z] 26 3 _ rfl
 have c4 := cells_new w [a, v, .int .i64 x, .int .i64 y, .int .i64 z] 26 4 _ rfl
 go_enter Tryz.func7, Tryz.ntmps7
 go_wp2
 refine bodyPost_ret (v := .agg #[.int .i64 z, .int .i64 x, .int .i64 y]) (by simp [results, Tryz.results7, go_sem]) rfl ⟨rfl, ?_⟩
 exact ((Touch.refl _ _).alloc _).alloc _
theorem whole_ok (w : World) (ao : Option Addr) (len cap : Nat) (later : Bool) (A : ByteArray) (fl : List Fil) (n NM BY F : Nat) (L : List Spanned) (o : List Fil) (hn : n = fl.length) (hLn : n = L.length) (hn10 : n ≤ 10) (hNM : NM ≤ 1000000) (hBY : BY ≤ 1000000) (hF : F ≤ 1000000) (holen : o.length ≤ 1000000000000) (hok : WholeOk fl L o F) (hord : Ord w) (h0 : 0 < w.heap.size)
  (HB : Hid (∀ W, Touch (fun _ => False) w W → Ord W → 0 < W.heap.size → Calls Tryz.prog 6 #[.slice ao len cap, .bool later] W fun r w' => Touch (fun _ => False) W w' ∧ ∃ v, r = .returned (.agg #[.string A, v, .int .i64 (NM : Int), .int .i64 (BY : Int), .int .i64 (n : Int)]) ∧ w'.ownsRow W.heap.size 39 2 v fl.length (fileV fl)))
  (HFD : Hid (∀ W a g cap, (0 < fl.length → a = some ⟨g, 0, none⟩ ∧ FilesAt W g fl) → Calls Tryz.prog 10 #[.slice a n cap] W fun r w' => r = .returned (.int .i64 (F : Int)) ∧ Touch (fun _ => False) W w'))
  (HL : Hid (∀ W, Ord W → 0 < W.heap.size → Calls Tryz.prog 8 #[.string A, .agg #[.int .i64 (n : Int), .int .i64 (NM : Int), .int .i64 (BY : Int)]] W fun r w' => Touch (fun _ => False) W w' ∧ ∃ g cap, r = .returned (.tuple #[.slice (some ⟨g, 0, none⟩) n cap, .int .i64 0]) ∧ EntsAt w' g L))
  (HU : Hid (∀ W, Ord W → 0 < W.heap.size → Calls Tryz.prog 9 #[.string A, .agg #[.int .i64 (n : Int), .int .i64 (NM : Int), .int .i64 (BY : Int)]] W fun r w' => Touch (fun _ => False) W w' ∧ ∃ a cap g, r = .returned (.tuple #[.slice a o.length cap, .int .i64 0]) ∧ (0 < o.length → a = some ⟨g, 0, none⟩ ∧ FilesAt w' g o ∧ g < w'.heap.size ∧ o.length ≤ cap)))
  (HQ1 : Hid (∀ W, Ord W → 0 < W.heap.size → Calls Tryz.prog 9 #[.string A, .agg #[.int .i64 ((n : Int) - 1), .int .i64 (NM : Int), .int .i64 (BY : Int)]] W fun r w' => Touch (fun _ => False) W w' ∧ r = .returned (.tuple #[.slice none 0 0, .int .i64 13])))
  (HQ2 : Hid (∀ W, Ord W → 0 < W.heap.size → Calls Tryz.prog 9 #[.string A, .agg #[.int .i64 (n : Int), .int .i64 ((NM : Int) - 1), .int .i64 (BY : Int)]] W fun r w' => Touch (fun _ => False) W w' ∧ r = .returned (.tuple #[.slice none 0 0, .int .i64 13])))
  (HQ3 : Hid (∀ W, Ord W → 0 < W.heap.size → Calls Tryz.prog 9 #[.string A, .agg #[.int .i64 (n : Int), .int .i64 (NM : Int), .int .i64 ((BY : Int) - 1)]] W fun r w' => Touch (fun _ => False) W w' ∧ r = .returned (.tuple #[.slice none 0 0, .int .i64 13]))) :
  Calls Tryz.prog 3 #[.slice ao len cap, .bool later] w fun r w' => r = .returned (.bool true) ∧ Below w.heap.size w w' := by
 have HO : Hid (∀ W, Touch (fun _ => False) w W → Ord W ∧ 0 < W.heap.size) := fun W t => ⟨hord.keep t (fun e => e), Nat.lt_of_lt_of_le h0 t.size⟩
 obtain ⟨m, hM⟩ : ∃ m, m = o.length := ⟨_, rfl⟩
 have HOK : Hid (WholeOk fl L o F) := hok
 have HN : Hid (n = fl.length ∧ n = L.length) := ⟨hn, hLn⟩
 have HM : Hid (m = o.length) := hM
 have HCN : Hid (m = F + nfTo fl n) := by unfold Hid; rw [hM, hok.cnt, hn]
 have hm' : m ≤ 1000000000000 := by omega
 rw [← hM] at HU
 rw [← hn] at HB
 clear hord h0 hok hn hLn hM holen
 go_enter Tryz.func3, Tryz.ntmps3
 go_wp2_with fail
 refine (awake_c _ (HO.out _ (Touch.refl _ _)).1 (HO.out _ (Touch.refl _ _)).2).mono ?_
 rintro e w1 ⟨rfl, b1⟩
 have T1 := Touch.ofBelow b1 (fun _ => False)
 clear b1
 go_wp2_with fail
 refine (HB.out _ T1 (HO.out _ T1).1 (HO.out _ T1).2).mono ?_
 rintro e w2 ⟨t2, v, rfl, hro⟩
 obtain ⟨va, vc, hv⟩ := owned_form hro
 subst hv
 have HFA : Hid (∃ vg, 0 < fl.length → va = some ⟨vg, 0, none⟩ ∧ FilesAt w2 vg fl ∧ vg < w2.heap.size) := by
  have hf := filesAt_owned (l := fl) (by rw [← HN.out.1]; exact hro)
  by_cases h0 : 0 < fl.length
  ·obtain ⟨g, e1, e2, e3, _, _⟩ := hf.2 h0
   exact ⟨g, fun _ => ⟨e1, e2, e3⟩⟩
  ·exact ⟨0, fun h => absurd h h0⟩
 obtain ⟨vg, hfa⟩ := HFA.out
 have HV : Hid (0 < fl.length → va = some ⟨vg, 0, none⟩ ∧ FilesAt w2 vg fl ∧ vg < w2.heap.size) := hfa
 have T2 := T1.trans t2
 have T3 := T2.alloc (Obj.cells #[.string A, .slice va n vc, .int .i64 (NM : Int), .int .i64 (BY : Int), .int .i64 (n : Int)] 26)
 have HB0 := cells_new w2 [.string A, .slice va n vc, .int .i64 (NM : Int), .int .i64 (BY : Int), .int .i64 (n : Int)] 26 0 _ rfl
 have HB1 := cells_new w2 [.string A, .slice va n vc, .int .i64 (NM : Int), .int .i64 (BY : Int), .int .i64 (n : Int)] 26 1 _ rfl
 have s2 : Touch (fun _ => False) w2 (w2.alloc (Obj.cells #[.string A, .slice va n vc, .int .i64 (NM : Int), .int .i64 (BY : Int), .int .i64 (n : Int)] 26)) := (Touch.refl _ _).alloc _
 clear T1 t2 hro HFA hfa HB
 go_wp2_with fail
 refine (allowed_c _ (.string A) (.slice va n vc) (NM : Int) (BY : Int) (n : Int)).mono ?_
 rintro e w4 ⟨rfl, t4⟩
 have T4 := T3.trans t4
 have s4 := s2.trans t4
 have B40 := t4.at HB0 (fun e => e)
 have B41 := t4.at HB1 (fun e => e)
 have T5 := T4.alloc (Obj.cells #[.int .i64 (n : Int), .int .i64 (NM : Int), .int .i64 (BY : Int)] 29)
 have a4 : Touch (fun _ => False) w4 (w4.alloc (Obj.cells #[.int .i64 (n : Int), .int .i64 (NM : Int), .int .i64 (BY : Int)] 29)) := (Touch.refl _ _).alloc _
 have s5 := s4.trans a4
 have B50 := a4.at B40 (fun e => e)
 have B51 := a4.at B41 (fun e => e)
 obtain ⟨Q50, Q51, Q52⟩ := quota_new w4 (.int .i64 (n : Int)) (.int .i64 (NM : Int)) (.int .i64 (BY : Int)) 29
 clear HB0 HB1 s2 t4 T3 T2 s4 T4 a4
 go_wp2_with fail
 refine (HL.out _ (HO.out _ T5).1 (HO.out _ T5).2).mono ?_
 rintro e w6 ⟨t6, g, lc, rfl, hE⟩
 have T6 := T5.trans t6
 have s6 := s5.trans t6
 have B60 := t6.at B50 (fun e => e)
 have B61 := t6.at B51 (fun e => e)
 have Q60 := t6.at Q50 (fun e => e)
 have Q61 := t6.at Q51 (fun e => e)
 have Q62 := t6.at Q52 (fun e => e)
 clear B40 B41 B50 B51 Q50 Q51 Q52 t6 T5 s5
 go_wp2_with fail
 refine (HU.out _ (HO.out _ T6).1 (HO.out _ T6).2).mono ?_
 rintro e w7 ⟨t7, ua, uc, ug, rfl, hF7⟩
 have T7 := T6.trans t7
 have s7 := s6.trans t7
 have B0 := t7.at B60 (fun e => e)
 have B1 := t7.at B61 (fun e => e)
 have Q0 := t7.at Q60 (fun e => e)
 have Q1 := t7.at Q61 (fun e => e)
 have Q2 := t7.at Q62 (fun e => e)
 have HE : Hid (EntsAt w7 g L) := hE.keep t7 (fun e => e)
 have HUF : Hid (0 < o.length → ua = some ⟨ug, 0, none⟩ ∧ FilesAt w7 ug o ∧ ug < w7.heap.size ∧ o.length ≤ uc) := by unfold Hid; rw [← HM.out]; exact hF7
 have HVF : Hid (0 < fl.length → va = some ⟨vg, 0, none⟩ ∧ FilesAt w7 vg fl ∧ vg < w7.heap.size) := fun h => ⟨(HV.out h).1, filesAt_kept (HV.out h).2.1 s7, Nat.lt_of_lt_of_le (HV.out h).2.2 s7.size⟩
 have lt2 : w2.heap.size < w7.heap.size := World.block_lt_of_cell? w7 _ B0
 have lt4 : w4.heap.size < w7.heap.size := World.block_lt_of_cell? w7 _ Q0
 have z1 : ((n : Int) != (n : Int)) = false := by simp
 clear B60 B61 Q60 Q61 Q62 t7 T6 s6 hE hF7 s7 HV HL HU
 go_wp2_with fail
 refine (HFD.out w7 va vg vc (fun h => ⟨(HVF.out h).1, (HVF.out h).2.1⟩)).mono ?_
 rintro e w8 ⟨rfl, t8⟩
 have HT8 : Hid (Touch (fun _ => False) w7 w8) := t8
 have HT7 : Hid (Touch (fun _ => False) w w7) := T7
 clear T7
 go_wp2
 go_loopw [12, 13] (fun mn i wr => ∃ k c : Nat, k ≤ n ∧ i = .int .i64 (k : Int) ∧ mn = .int .i64 (c : Int) ∧ Hid (c = F + nfTo fl k) ∧ Touch (fun _ => False) w7 wr) (fun _ i _ => n - (intOf i).toNat)
 case atStart => exact ⟨0, F, Nat.zero_le _, rfl, rfl, by unfold Hid; simp [nfTo], t8⟩
 case round =>
  obtain ⟨k, c, hk, rfl, rfl, HC, T⟩ := hrel
  obtain ⟨wo, hwo⟩ : ∃ wo, wo = wr := ⟨_, rfl⟩
  subst hwo
  clear t8
  have r0 := T.at B0 (fun e => e)
  have r1 := T.at B1 (fun e => e)
  by_cases hlt : k < n
  ·have hlt' : k < fl.length := by have := HN.out; omega
   have hltL : k < L.length := by have := HN.out; omega
   obtain ⟨rfl, hFV, hvg⟩ := HVF.out (by omega)
   obtain ⟨f0, f1⟩ := filesAt_kept hFV T k hlt'
   have hC := (HE.out.keep T (fun e => e)).cells k hltL
   have glt : g < wo.heap.size := (HE.out.keep T (fun e => e)).lt
   have hvg' : vg < wo.heap.size := Nat.lt_of_lt_of_le hvg T.size
   have e0 := hC 0 (by omega)
   have e4 := hC 4 (by omega)
   simp only [entL, List.getElem?_cons_zero, List.getElem?_cons_succ, Nat.add_zero] at e0 e4
   obtain ⟨h1, h2, h3, h4, h5⟩ := HOK.out.ent k hlt' hltL
   have hto := HOK.out.told k hlt'
   have hns := nfTo_succ fl k hlt'
   have hle := nfTo_le fl k
   rw [h1] at e0
   rw [h2] at e4
   have hfl := folder_last fl[k].1 h3
   clear h1 h2 hC
   revert f0 f1 e0 e4 h3 h4 h5 hto hns hfl
   generalize fl[k] = x
   obtain ⟨xn, xd⟩ := x
   simp only
   obtain ⟨D, hD⟩ : ∃ D : ByteArray, D = ⟨xd.toArray⟩ := ⟨_, rfl⟩
   have hDs : xd.length = D.size := by rw [hD]; show _ = xd.toArray.size; simp
   rw [← hD, hDs]
   intro f0 f1 e0 e4 h3 h4 h5 hto hns hfl
   have HFC : Hid (∀ W, Touch (fun _ => False) w7 W → Calls Tryz.prog 11 #[.slice ua m uc, .string xn] W fun r w' => r = .returned (.tuple #[.string D, .bool true]) ∧ W = w') := fun W t => by
    refine (find_c W ua ug uc m o xn (fun h => ⟨(HUF.out h).1, filesAt_kept (HUF.out h).2.1 t⟩) HM.out (by have := HM.out; omega)).mono ?_
    rintro r w' ⟨rfl, rfl⟩
    rw [hto, hD]
    exact ⟨rfl, rfl⟩
   have HFL : Hid (folderB xn = (((xn[xn.size - 1]'(by omega)).toNat : Int) == 47)) := hfl
   have HNS : Hid (nfTo fl (k + 1) = nfTo fl k + if folderB xn then 0 else 1) := hns
   have hcl : c ≤ 1000010 := by have := HC.out; omega
   have HCC : Hid (c = F + nfTo fl k) := HC
   have TX := T.alloc (Obj.cells #[.string xn, .string D] 39)
   have x0 := cells_new wo [.string xn, .string D] 39 0 _ rfl
   have x1 := cells_new wo [.string xn, .string D] 39 1 _ rfl
   have i1 : (k : Int) < (n : Int) := by omega
   have s1 : (xn.toList == xn.toList) = true := by simp
   have s2 : (D.toList == D.toList) = true := by simp
   have s3 : ((D.size : Int) != (D.size : Int)) = false := by simp
   have y1 : (0 : Int) ≤ (xn.size : Int) - 1 := by omega
   have y2 : (xn.size : Int) - 1 < (xn.size : Int) := by omega
   have y3 : ((xn.size : Int) - 1).toNat = xn.size - 1 := by omega
   have y4 : xn.size - 1 < xn.size := by omega
   clear hto hD hDs hfl hns HC hFV hle
   go_wp2_with fail
   refine (HFC.out _ TX).mono ?_
   rintro e wf ⟨rfl, rfl⟩
   have e0' := ((Touch.refl (fun _ => False) wo).alloc (Obj.cells #[.string xn, .string D] 39)).at e0 (fun e => e)
   have e4' := ((Touch.refl (fun _ => False) wo).alloc (Obj.cells #[.string xn, .string D] 39)).at e4 (fun e => e)
   by_cases hf : folderB xn = true
   ·have g1 : ((xn[xn.size - 1]'y4).toNat : Int) = 47 := by
     have := HFL.out
     rw [hf] at this
     exact eq_of_beq this.symm
    have g2 : (((xn[xn.size - 1]'y4).toNat : Int) != 47) = false := by rw [g1]; rfl
    have HRC : Hid (c = F + nfTo fl (k + 1)) := by unfold Hid; rw [HNS.out, if_pos hf]; exact HCC.out
    clear HFL HNS HCC hf
    go_wp2
    go_quiet (fail)
    go_wp2
    exact ⟨⟨k + 1, c, by omega, by go_num, rfl, HRC, TX.drewN _⟩, by simp [intOf]; omega⟩
   ·have hf' : folderB xn = false := by simpa using hf
    have g1 : ¬ ((xn[xn.size - 1]'y4).toNat : Int) = 47 := by
     have := HFL.out
     rw [hf'] at this
     intro h
     rw [h] at this
     cases this
    have g2 : (((xn[xn.size - 1]'y4).toNat : Int) != 47) = true := by simpa using g1
    have HRC : Hid (c + 1 = F + nfTo fl (k + 1)) := by
     unfold Hid; rw [HNS.out, if_neg hf]
     have := HCC.out
     omega
    clear HFL HNS HCC hf hf'
    go_wp2
    go_quiet (fail)
    go_wp2
    exact ⟨⟨k + 1, c + 1, by omega, by go_num, by go_num, HRC, TX.drewN _⟩, by simp [intOf]; omega⟩
  ·obtain rfl : n = k := by omega
   obtain rfl : m = c := by rw [HCN.out, HC.out]
   have i1 : ¬ (n : Int) < (n : Int) := by omega
   have z2 : ((m : Int) != (m : Int)) = false := by simp
   clear HC HCN HFD HE
   go_wp2
   go_loopw [17] (fun i wr2 => ∃ j : Nat, 1 ≤ j ∧ j ≤ m + 1 ∧ i = .int .i64 (j : Int) ∧ Touch (fun _ => False) w7 wr2) (fun i _ => m + 1 - (intOf i).toNat)
   case atStart => exact ⟨1, Nat.le_refl _, by omega, rfl, T⟩
   case round =>
    obtain ⟨j, hj1, hjm, rfl, TJ⟩ := hrel
    obtain ⟨wj, hwj⟩ : ∃ wj, wj = wr := ⟨_, rfl⟩
    subst hwj
    clear r0 r1 T
    by_cases hlt2 : j < m
    ·have hj' : j < o.length := by have := HM.out; omega
     have hjp : j - 1 < o.length := by omega
     obtain ⟨rfl, hF, hug, huc⟩ := HUF.out (by omega)
     have b0 := (filesAt_kept hF TJ (j - 1) hjp).1
     have b1 := (filesAt_kept hF TJ j hj').1
     obtain ⟨u1, u2⟩ := HOK.out.up.small j hj'
     obtain ⟨v1, v2⟩ := HOK.out.up.small (j - 1) hjp
     have hs := HOK.out.up.srt (j - 1) (by omega)
     simp only [show j - 1 + 1 = j by omega] at hs
     have HAH : Hid (∀ W, Calls Tryz.prog 12 #[.string o[j - 1].1, .string o[j].1] W fun r w' => r = .returned (.bool true) ∧ ∃ z, w' = W.drewN z) := fun W => by
      refine (kahead_c W o[j - 1].1 o[j].1 v1 u1 (by omega) (by omega)).mono ?_
      rintro r w' ⟨rfl, z, rfl⟩
      rw [decide_eq_true hs]
      exact ⟨rfl, z, rfl⟩
     have hug' : ug < wj.heap.size := Nat.lt_of_lt_of_le hug TJ.size
     clear hs u1 u2 v1 v2 hF
     revert b0 b1 HAH
     generalize o[j - 1].1 = pv
     generalize o[j].1 = p
     intro b0 b1 HAH
     obtain ⟨jj, rfl⟩ : ∃ jj, j = jj + 1 := ⟨j - 1, by omega⟩
     rw [Nat.add_sub_cancel] at b0
     have k7 : (jj : Int) < (m : Int) := by omega
     have k8 : (jj : Int) + 1 < (m : Int) := by omega
     have k9 : IntKind.i64.wrap (jj : Int) = (jj : Int) := by simp [IntKind.wrap, IntKind.bits, IntKind.signed]; omega
     have k10 : (0 : Int) ≤ (jj : Int) := by omega
     have k11 : jj < m := by omega
     have k12 : jj + 1 < m := by omega
     have k14 : (0 : Int) ≤ (jj : Int) + 1 := by omega
     have k15 : ((jj : Int) + 1).toNat = jj + 1 := by omega
     have k13 : IntKind.i64.wrap ((jj : Int) + 1) = (jj : Int) + 1 := by simp [IntKind.wrap, IntKind.bits, IntKind.signed]; omega
     go_wp2
     go_quiet (first | (go_at_call 12; refine quiet_draw (HAH.out _)))
     go_wp2
     exact ⟨⟨jj + 1 + 1, by omega, by omega, by go_num, TJ.drewN _⟩, by simp [intOf]; omega⟩
    ·have i2 : ¬ (j : Int) < (m : Int) := by omega
     have r0 := TJ.at B0 (fun e => e)
     have r1 := TJ.at B1 (fun e => e)
     have p0 := TJ.at Q0 (fun e => e)
     have p1 := TJ.at Q1 (fun e => e)
     have p2 := TJ.at Q2 (fun e => e)
     have TW := HT7.out.trans TJ
     by_cases hn0 : n = 0
     ·subst hn0
      go_wp2
      go_ret
      exact ⟨rfl, TW.toBelow (Nat.le_refl _) (fun _ _ e => e)⟩
     ·have d1 : ((n : Int) == 0) = false := by simpa using hn0
      have d2 : ¬ (n : Int) = 0 := by omega
      have k1 : IntKind.i64.wrap ((n : Int) - 1) = (n : Int) - 1 := by simp [IntKind.wrap, IntKind.bits, IntKind.signed]; omega
      have k2 : IntKind.i64.wrap ((NM : Int) - 1) = (NM : Int) - 1 := by simp [IntKind.wrap, IntKind.bits, IntKind.signed]; omega
      have k3 : IntKind.i64.wrap ((BY : Int) - 1) = (BY : Int) - 1 := by simp [IntKind.wrap, IntKind.bits, IntKind.signed]; omega
      go_wp2_with fail
      refine (HQ1.out _ (HO.out _ TW).1 (HO.out _ TW).2).mono ?_
      rintro e wa ⟨ta, rfl⟩
      have TA := TW.trans ta
      have r0a := ta.at r0 (fun e => e)
      have p0a := ta.at p0 (fun e => e)
      have p1a := ta.at p1 (fun e => e)
      have p2a := ta.at p2 (fun e => e)
      clear r0 r1 p0 p1 p2 ta TW TJ
      go_wp2_with fail
      refine (HQ2.out _ (HO.out _ TA).1 (HO.out _ TA).2).mono ?_
      rintro e wb ⟨tb, rfl⟩
      have TB := TA.trans tb
      have r0b := tb.at r0a (fun e => e)
      have p0b := tb.at p0a (fun e => e)
      have p1b := tb.at p1a (fun e => e)
      have p2b := tb.at p2a (fun e => e)
      clear r0a p0a p1a p2a tb TA
      go_wp2_with fail
      refine (HQ3.out _ (HO.out _ TB).1 (HO.out _ TB).2).mono ?_
      rintro e wc ⟨tc, rfl⟩
      have TC := TB.trans tc
      clear r0b p0b p1b p2b tc TB
      go_wp2
      go_ret
      exact ⟨rfl, TC.toBelow (Nat.le_refl _) (fun _ _ e => e)⟩
end Go.Proofs.YtnmkmmgaoplfiaaGreatDoor
namespace Go.Proofs.YtnmkmmgaoplfiaaGreatDoor
open Go.RowKit Go.Shelf
structure ItemAt (w : World) (sb at_ : Nat) (r : Raw) : Prop where
 c0 : w.cell? ⟨sb, at_, none⟩ = some (.int .i64 r.nm)
 c1 : w.cell? ⟨sb, at_ + 1, none⟩ = some (.int .i64 r.kd)
 c2 : w.cell? ⟨sb, at_ + 2, none⟩ = some (.string r.txt)
 c3 : ∃ pa pl pc, ∃ P : Nat → Int × Int × Int × ByteArray, w.cell? ⟨sb, at_ + 3, none⟩ = some (.slice pa pl pc) ∧ pl ≤ 9223372036854775807 ∧ (∀ i, i < pl → ∃ sb so, pa = some ⟨sb, so, none⟩ ∧ PieceAt w sb (so + i * 4) (P i).1 (P i).2.1 (P i).2.2.1 (P i).2.2.2) ∧ r.pd = bytesOf (packedOf (piecesOf P (min pl 12))).1 ∧ r.pt = (packedOf (piecesOf P (min pl 12))).2
 lt : sb < w.heap.size
 hn : -9223372036854775808 ≤ r.nm ∧ r.nm ≤ 9223372036854775807
 hk : -9223372036854775808 ≤ r.kd ∧ r.kd ≤ 9223372036854775807
 ht : r.txt.size ≤ 9223372036854775807
theorem ItemAt.raw {w : World} {sb a : Nat} {r : Raw} (h : ItemAt w sb a r) : RawOk r := by
 obtain ⟨pa, pl, pc, P, _, _, _, e1, e2⟩ := h.c3
 have hb := packed_bd P (min pl 12) (by omega)
 have ho := pieces_ok P (min pl 12)
 have hp := (packs (piecesOf P (min pl 12)) ho.1 (by rw [ho.2]; omega)).whole
 rw [← e1, ← e2] at hp
 rw [← e1, ← e2] at hb
 refine ⟨⟨by omega, by omega⟩, by omega, ?_⟩
 rw [hp, kstr_size]
structure BB (w : World) (B : Nat) (A : ByteArray) (v : Value) (n b e : Nat) : Prop where
 hp : w.heap[B]? = some (.cells #[.string A, v, .int .i64 (n : Int), .int .i64 (b : Int), .int .i64 (e : Int)] 26 (0, 0))
theorem BB.cs {w : World} {B : Nat} {A : ByteArray} {v : Value} {n b e : Nat} (h : BB w B A v n b e) : w.cell? ⟨B, 0, none⟩ = some (.string A) ∧ w.cell? ⟨B, 1, none⟩ = some v ∧ w.cell? ⟨B, 2, none⟩ = some (.int .i64 (n : Int)) ∧ w.cell? ⟨B, 3, none⟩ = some (.int .i64 (b : Int)) ∧ w.cell? ⟨B, 4, none⟩ = some (.int .i64 (e : Int)) := by
 refine ⟨?_, ?_, ?_, ?_, ?_⟩ <;> rw [row_cell h.hp] <;> rfl
theorem BB.fr {w : World} {B : Nat} {A : ByteArray} {v : Value} {n b e : Nat} (h : BB w B A v n b e) (j : Nat) : w.frozen? ⟨B, j, none⟩ = false := row_fr h.hp j
theorem BB.lt {w : World} {B : Nat} {A : ByteArray} {v : Value} {n b e : Nat} (h : BB w B A v n b e) : B < w.heap.size := (Array.getElem?_eq_some_iff.1 h.hp).1
theorem BB.keep {S : Nat → Prop} {w w' : World} {B : Nat} {A : ByteArray} {v : Value} {n b e : Nat} (h : BB w B A v n b e) (t : Touch S w w') (hs : ¬ S B) : BB w' B A v n b e := ⟨(t.block B h.lt hs).trans h.hp⟩
theorem BB.set0 {w : World} {B : Nat} {A : ByteArray} {v : Value} {n b e : Nat} (h : BB w B A v n b e) (A' : ByteArray) : BB (w.setCell ⟨B, 0, none⟩ (.string A')) B A' v n b e := ⟨(row_set h.hp 0 _).trans rfl⟩
theorem BB.set1 {w : World} {B : Nat} {A : ByteArray} {v : Value} {n b e : Nat} (h : BB w B A v n b e) (v' : Value) : BB (w.setCell ⟨B, 1, none⟩ v') B A v' n b e := ⟨(row_set h.hp 1 _).trans rfl⟩
theorem BB.set2 {w : World} {B : Nat} {A : ByteArray} {v : Value} {n b e : Nat} (h : BB w B A v n b e) (n' : Nat) (X : Int) (hX : X = (n' : Int)) : BB (w.setCell ⟨B, 2, none⟩ (.int .i64 X)) B A v n' b e := by subst hX; exact ⟨(row_set h.hp 2 _).trans rfl⟩
theorem BB.set3 {w : World} {B : Nat} {A : ByteArray} {v : Value} {n b e : Nat} (h : BB w B A v n b e) (n' : Nat) (X : Int) (hX : X = (n' : Int)) : BB (w.setCell ⟨B, 3, none⟩ (.int .i64 X)) B A v n n' e := by subst hX; exact ⟨(row_set h.hp 3 _).trans rfl⟩
theorem BB.set4 {w : World} {B : Nat} {A : ByteArray} {v : Value} {n b e : Nat} (h : BB w B A v n b e) (n' : Nat) (X : Int) (hX : X = (n' : Int)) : BB (w.setCell ⟨B, 4, none⟩ (.int .i64 X)) B A v n b n' := by subst hX; exact ⟨(row_set h.hp 4 _).trans rfl⟩
theorem touch_box (w : World) (B j : Nat) (u : Value) : Touch (fun k => k = B) w (w.setCell ⟨B, j, none⟩ u) := (Touch.refl (fun k => k = B) w).setCell (p := ⟨B, j, none⟩) (show B = B from rfl) u
theorem owns_le {w : World} {b c : Nat} {e : TypeId} {s n : Nat} {v : Value} {xs : List Value} (h : w.ownsRow b e s v n xs) (hc : c ≤ b) : w.ownsRow c e s v n xs := by
 obtain ⟨h1, h2 | ⟨g, cap, cur, e, hb, hrest⟩⟩ := h
 ·exact ⟨h1, .inl h2⟩
 ·exact ⟨h1, .inr ⟨g, cap, cur, e, Nat.le_trans hc hb, hrest⟩⟩
theorem owns_set {w : World} {B j : Nat} {e : TypeId} {s n : Nat} {v : Value} {xs : List Value} (h : w.ownsRow (B + 1) e s v n xs) (u : Value) : (w.setCell ⟨B, j, none⟩ u).ownsRow (B + 1) e s v n xs := (touch_box w B j u).owns h (fun k hk e => by have := (h.lt k hk).1; omega)
def filsOf (ms : List Made) : List Fil := ms.map filOf
theorem known_find (ms : List Made) (n : List UInt8) : (findOf (filsOf ms) ⟨n.toArray⟩).isSome = knownB ms n := by
 unfold filsOf knownB
 induction ms with
 | nil => rfl
 | cons m ms ih =>
  rw [List.map_cons, findOf, List.any_cons]
  by_cases h : m.name = n
  ·rw [if_pos (show (filOf m).1 = ⟨n.toArray⟩ by rw [← h]; rfl), decide_eq_true h]; simp
  ·rw [if_neg (fun e => h (by have := congrArg (fun b : ByteArray => b.data.toList) e; simpa [filOf] using this)), ih, decide_eq_false h, Bool.false_or]
theorem sums_le : ∀ ms : List Made, (∀ m ∈ ms, MadeOk m) → (ms.map fun m => m.name.length).sum ≤ 10 * ms.length ∧ (ms.map fun m => m.text.length).sum ≤ 3600 * ms.length
 | [], _ => by simp
 | m :: l, h => by
  have ih := sums_le l (fun x hx => h x (by simp [hx]))
  have h1 := h m (by simp)
  have h2 := names_small h1.nm
  have h3 := h1.txt
  simp only [List.map_cons, List.sum_cons, List.length_cons]
  omega
end Go.Proofs.YtnmkmmgaoplfiaaGreatDoor
