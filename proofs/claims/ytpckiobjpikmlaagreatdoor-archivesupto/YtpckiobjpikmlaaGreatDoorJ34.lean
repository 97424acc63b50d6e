/- Texts of this seat, joined. -/
import Derived.Test.YtpckiobjpikmlaaGreatDoorJ33
import Derived.Test.YtpckiobjpikmlaaGreatDoorJ29
import Derived.Test.YtpckiobjpikmlaaGreatDoorJ21
import Derived.BigQuiet
import Derived.Sort.Walk0
import Derived.Deep.RegionHeld3
set_option linter.unusedSimpArgs false
set_option linter.unusedVariables false
set_option maxRecDepth 100000
set_option maxHeartbeats 20000000
namespace Go.Proofs.YtpckiobjpikmlaaGreatDoor
open Go.RowKit Go.Shelf Go.Lib
structure StrsAt (w : World) (g : Nat) (X : List (List UInt8)) : Prop where
 cells : ∀ i (h : i < X.length), w.cell? ⟨g, i, none⟩ = some (strV X[i])
 lt : g < w.heap.size
theorem StrsAt.keep {S : Nat → Prop} {w w' : World} {g : Nat} {X : List (List UInt8)} (h : StrsAt w g X) (ht : Touch S w w') (hs : ¬ S g) : StrsAt w' g X :=
 ⟨fun i hi => (ht.cell (p := ⟨g, i, none⟩) h.lt hs).trans (h.cells i hi), Nat.lt_of_lt_of_le h.lt ht.size⟩
theorem StrsAt.owned {w : World} {base : Nat} {v : Value} {X : List (List UInt8)} (h : w.ownsRow base 9 1 v X.length (strs X)) (hX : 0 < X.length) : ∃ g cap, v = .slice (some ⟨g, 0, none⟩) X.length cap ∧ StrsAt w g X := by
 obtain ⟨h1, ⟨h2, h3⟩ | ⟨g', cap', cur, rfl, hb, hg, h3, h4, h5, h6⟩⟩ := h
 ·omega
 ·refine ⟨g', cap', rfl, fun i hi => ?_, (Array.getElem?_eq_some_iff.1 hg).1⟩
  have e : (strs X)[i]? = some (strV X[i]) := by unfold strs; rw [List.getElem?_map, List.getElem?_eq_getElem hi]; rfl
  rw [row_cell hg i, ← e, ← h6, List.getElem?_take_of_lt (by omega)]; simp
theorem partsGo_pos (u p : List UInt8) : 0 < (partsGo u p).length := by
 obtain ⟨x, xs, h⟩ := partsGo_head u p
 rw [h]; simp
theorem partsGo_len : ∀ (u p : List UInt8), (partsGo u p).length ≤ u.length + 1
 | [], p => by simp [partsGo]
 | c :: u, p => by
  unfold partsGo
  split
  ·have := partsGo_len u []; simp; omega
  ·have := partsGo_len u (p ++ [c]); simp; omega
theorem bareL_len (s : ByteArray) : (bareL s).length ≤ s.size := by
 rw [← bareS_list, ByteArray.toList_eq]
 have := bareS_size s
 simpa using this
theorem rless_c (w : World) (a b : ByteArray) (ha0 : 0 < a.size) (hb0 : 0 < b.size) (ha : a.size ≤ 1048576) (hb : b.size ≤ 1048576) :
  Calls Tryz.prog 154 #[.string a, .string b] w fun r w' => r = .returned (.bool (lessF a b)) ∧ Touch (fun _ => False) w w' := by
 obtain ⟨R, hR⟩ : ∃ R, R = lessF a b := ⟨_, rfl⟩
 rw [← hR]
 have x0 := partsGo_pos (bareL a) []
 have y0 := partsGo_pos (bareL b) []
 have x1 := partsGo_len (bareL a) []
 have y1 := partsGo_len (bareL b) []
 have x2 := bareL_len a
 have y2 := bareL_len b
 have HA : Hid (∀ W, Calls Tryz.prog 180 #[.string a] W fun r w' => ∃ v, r = .returned v ∧ w'.ownsRow W.heap.size 9 1 v (partsGo (bareL a) []).length (strs (partsGo (bareL a) [])) ∧ Touch (fun _ => False) W w') := fun W => rparts_c W a ha0 ha
 have HB : Hid (∀ W, Calls Tryz.prog 180 #[.string b] W fun r w' => ∃ v, r = .returned v ∧ w'.ownsRow W.heap.size 9 1 v (partsGo (bareL b) []).length (strs (partsGo (bareL b) [])) ∧ Touch (fun _ => False) W w') := fun W => rparts_c W b hb0 hb
 unfold lessF at hR
 revert hR x0 y0 x1 y1 HA HB
 generalize partsGo (bareL a) [] = X
 generalize partsGo (bareL b) [] = Y
 intro hR x0 y0 x1 y1 HA HB
 have HR : Hid (R = lexP (X.drop 0) (Y.drop 0)) := hR
 obtain ⟨nx, hnx⟩ : ∃ n, n = X.length := ⟨_, rfl⟩
 obtain ⟨ny, hny⟩ : ∃ n, n = Y.length := ⟨_, rfl⟩
 have HNX : Hid (nx = X.length) := hnx
 have HNY : Hid (ny = Y.length) := hny
 have lx : nx ≤ 1048577 := by omega
 have ly : ny ≤ 1048577 := by omega
 clear x1 y1 x2 y2 ha hb ha0 hb0 hR
 go_enter Tryz.func154, Tryz.ntmps154
 go_wp2_with fail
 refine (HA.out _).mono ?_
 rintro e w1 ⟨v1, rfl, hro1, t1⟩
 go_wp2_with fail
 refine (HB.out _).mono ?_
 rintro e w2 ⟨v2, rfl, hro2, t2⟩
 have hro1' := t2.owns hro1 (fun _ _ h => h)
 obtain ⟨g, cap, rfl, hX⟩ := StrsAt.owned hro1' x0
 obtain ⟨g', cap', rfl, hY⟩ := StrsAt.owned hro2 y0
 have T2 := t1.trans t2
 rw [← hnx, ← hny]
 clear HA HB hro1 hro2 hro1' t1 t2 x0 y0 hnx hny
 go_wp2
 go_loopw [7] (fun i wr => ∃ k : Nat, k ≤ nx ∧ k ≤ ny ∧ i = .int .i64 (k : Int) ∧ Hid (R = lexP (X.drop k) (Y.drop k)) ∧ StrsAt wr g X ∧ StrsAt wr g' Y ∧ Touch (fun _ => False) w wr) (fun i wr => nx - (intOf i).toNat)
 case atStart => exact ⟨0, Nat.zero_le _, Nat.zero_le _, rfl, HR, hX, hY, T2⟩
 case round =>
  clear hX hY T2 HR
  obtain ⟨k, kx, ky, rfl, HK, hX, hY, T⟩ := hrel
  by_cases h1 : k < nx
  ·have h1' : k < X.length := by have := HNX.out; omega
   have e1 : (k : Int) < (nx : Int) := by omega
   by_cases h2 : k < ny
   ·have h2' : k < Y.length := by have := HNY.out; omega
    have e2 : (k : Int) < (ny : Int) := by omega
    have c1 := hX.cells k h1'
    have c2 := hY.cells k h2'
    have HX : Hid (R = if X[k] = Y[k] then lexP (X.drop (k + 1)) (Y.drop (k + 1)) else decide (X[k] < Y[k])) := by
     unfold Hid; rw [HK.out, List.drop_eq_getElem_cons h1', List.drop_eq_getElem_cons h2', lexP]
    unfold strV at c1 c2
    clear HK
    revert c1 c2 HX
    generalize X[k] = x
    generalize Y[k] = y
    intro c1 c2 HX
    by_cases hxy : x = y
    ·have hx := HX.out
     rw [if_pos hxy] at hx
     have HN : Hid (R = lexP (X.drop (k + 1)) (Y.drop (k + 1))) := hx
     have q1 : (x == y) = true := by simpa using hxy
     clear HX hx
     go_wp2
     go_quiet (fail)
     go_wp2
     exact ⟨⟨k + 1, by omega, by omega, by go_num, HN, hX.keep ((Touch.refl (fun _ => False) _).drewN _) (fun e => e), hY.keep ((Touch.refl (fun _ => False) _).drewN _) (fun e => e), T.drewN _⟩, by simp [intOf]; omega⟩
    ·have hx := HX.out
     rw [if_neg hxy] at hx
     have HN : Hid (R = decide (x < y)) := hx
     have q1 : (x == y) = false := by simpa using hxy
     clear HX hx
     go_wp2
     go_quiet (fail)
     go_wp2
     go_quiet (fail)
     go_wp2
     go_ret
     exact ⟨by rw [HN.out, ← bytesLess_eq]; rfl, (T.drewN _).drewN _⟩
   ·obtain rfl : k = ny := by omega
    have hx := HK.out
    rw [List.drop_eq_getElem_cons h1', List.drop_of_length_le (show Y.length ≤ k by have := HNY.out; omega), lexP] at hx
    have HE : Hid (R = false) := hx
    have e2 : ¬ (k : Int) < (k : Int) := by omega
    have e3 : ¬ (nx : Int) < (k : Int) := by omega
    clear HK hx
    go_wp2
    go_ret
    exact ⟨by rw [HE.out]; rfl, T⟩
  ·obtain rfl : k = nx := by omega
   have HE : Hid (R = decide (k < ny)) := by
    unfold Hid
    rw [HK.out, List.drop_of_length_le (show X.length ≤ k by have := HNX.out; omega)]
    by_cases h2 : k < ny
    ·rw [List.drop_eq_getElem_cons (show k < Y.length by have := HNY.out; omega), lexP, decide_eq_true h2]
    ·rw [List.drop_of_length_le (show Y.length ≤ k by have := HNY.out; omega), lexP, decide_eq_false h2]
   have e2 : ¬ (k : Int) < (k : Int) := by omega
   clear HK
   go_wp2
   go_ret
   exact ⟨by rw [HE.out]; rfl, T⟩
end Go.Proofs.YtpckiobjpikmlaaGreatDoor
namespace Go.Proofs.YtpckiobjpikmlaaGreatDoor
open Go.RowKit Go.Shelf Go.Lib
theorem Tryz.infoRefFile : (Tryz.prog.info? 194).map (fun i => (i.zero, i.size, i.bytes)) = some (some (.agg #[.string ⟨#[]⟩, .string ⟨#[]⟩]), 2, 32) := by kernel_rfl
@[reducible] def RFils (w : World) (base : Nat) (v : Value) (L : List Fil) : Prop := w.ownsRow base 194 2 v L.length (fileV L)
theorem fileV_append (l k : List Fil) : fileV (l ++ k) = fileV l ++ fileV k := by simp [fileV]
theorem fileV_cell (l : List Fil) : ∀ u ∈ fileV l, u.oneCell' = true := by
 intro u hu
 unfold fileV at hu
 rw [List.mem_flatMap] at hu
 obtain ⟨f, _, h⟩ := hu
 simp [fileL] at h
 rcases h with rfl | rfl <;> rfl
theorem RFils.files {w : World} {base g cap : Nat} {L : List Fil} (h : RFils w base (.slice (some ⟨g, 0, none⟩) L.length cap) L) : FilesAt w g L ∧ g < w.heap.size ∧ L.length ≤ cap ∧ ∀ j u, (fileV L)[j]? = some u → w.cell? ⟨g, j, none⟩ = some u := by
 obtain ⟨h1, ⟨h2, _⟩ | ⟨g', cap', cur, e, hb, hg, h3, h4, h5, h6⟩⟩ := h
 ·cases h2
 ·cases e
  have key : ∀ j u, (fileV L)[j]? = some u → w.cell? ⟨g, j, none⟩ = some u := by
   intro j u hj
   have hlt : j < L.length * 2 := by rw [← h1]; exact (List.getElem?_eq_some_iff.1 hj).1
   rw [← h6, List.getElem?_take_of_lt hlt] at hj
   rw [row_cell hg j]; simpa using hj
  refine ⟨fun i hi => ?_, (Array.getElem?_eq_some_iff.1 hg).1, h3, key⟩
  obtain ⟨a1, a2⟩ := fileV_get L i hi
  exact ⟨key _ _ a1, key _ _ a2⟩
theorem fileV_drop (L : List Fil) (k j : Nat) : (fileV (L.drop k))[j]? = (fileV L)[k * 2 + j]? ∨ L.length < k := by
 by_cases hk : k ≤ L.length
 ·left
  have e : fileV L = fileV (L.take k) ++ fileV (L.drop k) := by rw [← fileV_append, List.take_append_drop]
  have hl : (fileV (L.take k)).length = k * 2 := by rw [fileV_len, List.length_take]; omega
  rw [e, List.getElem?_append_right (by omega), hl]
  congr 1; omega
 ·right; omega
theorem fileV_take (L : List Fil) (k j : Nat) (u : Value) (h : (fileV (L.take k))[j]? = some u) : (fileV L)[j]? = some u := by
 have e : fileV L = fileV (L.take k) ++ fileV (L.drop k) := by rw [← fileV_append, List.take_append_drop]
 rw [e, List.getElem?_append_left (List.getElem?_eq_some_iff.1 h).1]; exact h
theorem putF_step (L : List Fil) (f : Fil) (k : Nat) (h : k < L.length) : putF (L.drop k) f = if L[k].1 = f.1 then L.drop k else if lessF f.1 L[k].1 then f :: L.drop k else L[k] :: putF (L.drop (k + 1)) f := by
 rw [List.drop_eq_getElem_cons h, putF]
theorem RFils.mono {w : World} {base base' : Nat} {v : Value} {L : List Fil} (h : RFils w base v L) (hb : base' ≤ base) : RFils w base' v L :=
 ⟨h.1, h.2.imp id (fun ⟨g, cap, cur, q1, q2, q3⟩ => ⟨g, cap, cur, q1, Nat.le_trans hb q2, q3⟩)⟩
theorem rput_some (w : World) (base g cap : Nat) (L : List Fil) (nm D : ByteArray) (hL : RFils w base (.slice (some ⟨g, 0, none⟩) L.length cap) L) (hb : base ≤ w.heap.size) (hn : ∀ x ∈ L, 0 < x.1.size ∧ x.1.size ≤ 1048576) (hf : 0 < nm.size ∧ nm.size ≤ 1048576) (hlen : L.length ≤ 100000000) :
  Calls Tryz.prog 98 #[.slice (some ⟨g, 0, none⟩) L.length cap, .agg #[.string nm, .string D]] w fun r w' => ∃ v', r = .returned v' ∧ RFils w' base v' (putF L (nm, D.data.toList)) ∧ Touch (fun _ => False) w w' := by
 obtain ⟨i0, hi, hz0, hz1, hz2⟩ := info_parts Tryz.infoRefFile
 obtain ⟨n, hN⟩ : ∃ n, n = L.length := ⟨_, rfl⟩
 rw [← hN]
 have HN : Hid (n = L.length) := hN
 have hn' : n ≤ 100000000 := by omega
 obtain ⟨P, hP⟩ : ∃ P, P = putF L (nm, D.data.toList) := ⟨_, rfl⟩
 rw [← hP]
 have HP : Hid (P = L.take 0 ++ putF (L.drop 0) (nm, D.data.toList)) := hP
 have HNM : Hid (∀ x ∈ L, 0 < x.1.size ∧ x.1.size ≤ 1048576) := hn
 have B0 := CB.new w [.string nm, .string D] 194
 have T0 := (Touch.refl (fun _ => False) w).alloc (Obj.cells #[.string nm, .string D] 194)
 have L0 := hL.alloc (Obj.cells #[.string nm, .string D] 194)
 rw [← hN] at L0
 clear hP hlen hn hL hN
 go_enter Tryz.func98, Tryz.ntmps98
 go_wp2
 go_loopw [5] (fun i wr => ∃ k : Nat, k ≤ n ∧ i = .int .i64 (k : Int) ∧ Hid (P = L.take k ++ putF (L.drop k) (nm, D.data.toList)) ∧ wr.ownsRow base 194 2 (.slice (some ⟨g, 0, none⟩) n cap) n (fileV L) ∧ CB wr w.heap.size [.string nm, .string D] ∧ Touch (fun _ => False) w wr) (fun i wr => n - (intOf i).toNat)
 case atStart =>
  refine ⟨0, Nat.zero_le _, rfl, HP, ?_, B0, T0⟩
  exact L0
 case round =>
  clear B0 T0 L0 HP
  obtain ⟨k, hk, rfl, HK, hL, hB, T⟩ := hrel
  have hL' : RFils wr base (.slice (some ⟨g, 0, none⟩) L.length cap) L := by have h := hL; rw [HN.out] at h; exact h
  obtain ⟨hF, hg, hcap, hcell⟩ := hL'.files
  have b0 : wr.cell? ⟨w.heap.size, 0, none⟩ = some (.string nm) := hB.cells 0 (by simp)
  have b1 : wr.cell? ⟨w.heap.size, 1, none⟩ = some (.string D) := hB.cells 1 (by simp)
  have szw := T.size
  have HTK : Hid (∀ j u, (fileV (L.take k))[j]? = some u → wr.cell? ((⟨g, 0, none⟩ : Addr).add j) = some u) := fun j u h => by
   have := hcell j u (fileV_take L k j u h)
   rw [Addr.add_lit, Nat.zero_add]; exact this
  have HDR : Hid (∀ j u, (fileV (L.drop k))[j]? = some u → wr.cell? ⟨g, k * 2 + j, none⟩ = some u) := fun j u h => by
   have hkn : k ≤ L.length := by have := HN.out; omega
   rcases fileV_drop L k j with e | e
   ·rw [e] at h; exact hcell _ u h
   ·omega
  have HTL : Hid ((fileV (L.take k)).length = k * 2) := by unfold Hid; rw [fileV_len, List.length_take]; have := HN.out; omega
  have HDL : Hid ((fileV (L.drop k)).length = (n - k) * 2) := by unfold Hid; rw [fileV_len, List.length_drop]; have := HN.out; omega
  clear hcell
  by_cases hlt : k < n
  ·have hlt' : k < L.length := by have := HN.out; omega
   have cx := (hF k hlt').1
   have hnm := HNM.out L[k] (List.getElem_mem hlt')
   have HX : Hid (P = L.take k ++ if L[k].1 = nm then L.drop k else if lessF nm L[k].1 then (nm, D.data.toList) :: L.drop k else L[k] :: putF (L.drop (k + 1)) (nm, D.data.toList)) := by
    unfold Hid; rw [HK.out, putF_step L _ k hlt']
   have HTS : Hid (L.take (k + 1) = L.take k ++ [L[k]]) := List.take_succ_eq_append_getElem hlt'
   have HTD : Hid (L.take k ++ L.drop k = L) := List.take_append_drop k L
   clear HK hF
   have i1 : (k : Int) < (n : Int) := by omega
   revert cx hnm HX HTS
   generalize L[k] = y
   intro cx hnm HX HTS
   obtain ⟨yn, yd⟩ := y
   simp only at cx hnm HX
   by_cases heq : yn = nm
   ·have hx := HX.out
    rw [if_pos heq, HTD.out] at hx
    have HE : Hid (P = L) := hx
    have q1 : (yn.toList == nm.toList) = true := by rw [heq]; simp
    clear HX hx HTS HTK HDR HTL HDL
    go_wp2
    go_quiet (fail)
    go_wp2
    go_ret
    exact ⟨.slice (some ⟨g, 0, none⟩) n cap, rfl, by rw [HE.out]; show World.ownsRow _ _ _ _ _ _ _; rw [← HN.out]; exact hL, T.drewN _⟩
   ·have q1 : (yn.toList == nm.toList) = false := by rw [beq_eq_false_iff_ne, Ne, bytes_eq]; exact heq
    have hx := HX.out
    rw [if_neg heq] at hx
    have HX2 : Hid (P = L.take k ++ if lessF nm yn then (nm, D.data.toList) :: L.drop k else (yn, yd) :: putF (L.drop (k + 1)) (nm, D.data.toList)) := hx
    have HLS : Hid (∀ W, Calls Tryz.prog 154 #[.string nm, .string yn] W fun r w' => r = .returned (.bool (lessF nm yn)) ∧ Touch (fun _ => False) W w') := fun W => rless_c W nm yn hf.1 hnm.1 hf.2 hnm.2
    clear HX hx
    go_wp2
    go_quiet (fail)
    go_wp2
    go_region_held3 (fun X => X.cell? ⟨g, k * 2, none⟩ = some (.string yn) ∧ X.cell? ⟨w.heap.size, 0, none⟩ = some (.string nm)) (first | exact ⟨cx, b0⟩ | exact ⟨t5.at cx (fun e => e), t5.at b0 (fun e => e)⟩ | assumption | go_keep) (first | (go_at_call 154; refine (HLS.out _).mono ?_; rintro e w5 ⟨rfl, t5⟩))
    all_goals
     have t5' : Touch (fun _ => False) wr w5 := (((Touch.refl (fun _ => False) wr).drewN _).drew).trans t5
     have hL5 := t5'.owns hL (fun _ _ h => h)
     have hB5 := hB.keep t5' (fun e => e)
     have T5 := T.trans t5'
     have f0 := t5'.at b0 (fun e => e)
     have f1 := t5'.at b1 (fun e => e)
     have s5 := t5'.size
     have HTK5 : Hid (∀ j u, (fileV (L.take k))[j]? = some u → w5.cell? ((⟨g, 0, none⟩ : Addr).add j) = some u) := fun j u h => t5'.at (HTK.out j u h) (fun e => e)
     have HDR5 : Hid (∀ j u, (fileV (L.drop k))[j]? = some u → w5.cell? ⟨g, k * 2 + j, none⟩ = some u) := fun j u h => t5'.at (HDR.out j u h) (fun e => e)
     clear HLS cx b0 b1 hB hL hL' t5 t5' HTK HDR T
     cases hb2 : lessF nm yn with
     | true =>
      have hx := HX2.out
      rw [hb2, if_pos rfl] at hx
      have HFIN : Hid (P = L.take k ++ (nm, D.data.toList) :: L.drop k) := hx
      have b0 := f0
      have b1 := f1
      have HTK := HTK5
      have HDR := HDR5
      have T := T5
      clear HX2 hx HTS f0 f1 HTK5 HDR5
      have c1 : 0 + k ≤ maxLen := by unfold maxLen; omega
      have c2 : (0 + k) * 32 ≤ 140737488355328 := by omega
      have k0 : (0 : Int) ≤ (k : Int) := by omega
      have kc : k ≤ cap := by have := HN.out; omega
      have kc2 : (k : Int) ≤ (cap : Int) := by omega
      have k1 : (k : Int) ≤ (n : Int) := by omega
      have c3 : k + 1 ≤ maxLen := by unfold maxLen; omega
      have c4 : (k + 1) * 32 ≤ 140737488355328 := by omega
      have c5 : k + 1 + (n - k) ≤ maxLen := by unfold maxLen; omega
      have c6 : (k + 1 + (n - k)) * 32 ≤ 140737488355328 := by omega
      go_wp2_with (first | (at_builtin; refine wpList_append_own _ rfl _ _ 54 rfl w5.heap.size 194 i0 (.agg #[.string ⟨#[]⟩, .string ⟨#[]⟩]) 2 32 Tryz.underlying54 hi hz0 hz1 hz2 rfl (by decide) (.slice none 0 0) 0 [] rfl (World.ownsRow_nil _ _ _ _) ⟨g, 0, none⟩ k _ (fileV (L.take k)) rfl HTL.out HTK.out (fileV_cell _) c1 c2 (Nat.le_refl _) ?_; intro v1 w1 ho1 hg1 _; have t1 : Touch (fun _ => False) w5 w1 := (Touch.refl (fun _ => False) w5).grown hg1 (fun q hq => by cases hq); have e0 := t1.at b0 (fun e => e); have e1 := t1.at b1 (fun e => e); have s1 := t1.size; rw [Nat.zero_add, List.nil_append] at ho1) | (at_builtin; refine wpList_append_own _ rfl _ _ 54 rfl w5.heap.size 194 i0 (.agg #[.string ⟨#[]⟩, .string ⟨#[]⟩]) 2 32 Tryz.underlying54 hi hz0 hz1 hz2 rfl (by decide) v1 k (fileV (L.take k)) rfl (ho1.alloc _) ⟨w1.heap.size, 0, none⟩ 1 1 [.string nm, .string D] rfl rfl (cell_two_new _ _ _ _) (by simp [Value.oneCell']) c3 c4 (by simp; omega) ?_; intro v2 w2 ho2 hg2 _; have B1 : ∀ q, v1.ownBlock = some q → w5.heap.size ≤ q := fun q hq => (ho1.lt q hq).1; have t2 : Touch (fun q => w5.heap.size ≤ q) w5 w2 := ((t1.mono (fun _ _ h => h.elim)).alloc _).grown hg2 (fun q hq => B1 q hq); have HDR2 : Hid (∀ j u, (fileV (L.drop k))[j]? = some u → w2.cell? ((⟨g, k * 2, none⟩ : Addr).add j) = some u) := (fun j u h => by rw [Addr.add_lit]; exact t2.at (HDR.out j u h) (show ¬ w5.heap.size ≤ g by omega)); have s2 := t2.size) | (at_builtin; refine wpList_append_own _ rfl _ _ 54 rfl w5.heap.size 194 i0 (.agg #[.string ⟨#[]⟩, .string ⟨#[]⟩]) 2 32 Tryz.underlying54 hi hz0 hz1 hz2 rfl (by decide) v2 (k + 1) (fileV (L.take k) ++ [.string nm, .string D]) rfl ho2 ⟨g, k * 2, none⟩ (n - k) _ (fileV (L.drop k)) rfl HDL.out HDR2.out (fileV_cell _) c5 c6 (by omega) ?_; intro v3 w3 ho3 hg3 _))
      have B2 : ∀ q, v2.ownBlock = some q → w5.heap.size ≤ q := fun q hq => (ho2.lt q hq).1
      have t3 : Touch (fun q => w5.heap.size ≤ q) w5 w3 := t2.grown hg3 (fun q hq => B2 q hq)
      go_ret
      refine ⟨v3, rfl, ?_, ?_⟩
      ·have e : fileV P = fileV (L.take k) ++ [.string nm, .string D] ++ fileV (L.drop k) := by
        rw [HFIN.out, fileV_append, List.append_assoc]; rfl
       have el : P.length = k + 1 + (n - k) := by
        rw [HFIN.out, List.length_append, List.length_take, List.length_cons, List.length_drop]
        have := HN.out; omega
       have ho4 : w3.ownsRow w5.heap.size 194 2 v3 P.length (fileV P) := by rw [e, el]; exact ho3
       exact RFils.mono ho4 (by omega)
      ·exact T.trans (t3.mono (fun q hq h => absurd h (by omega)))
     | false =>
      have hx := HX2.out
      rw [hb2] at hx
      have HN2 : Hid (P = L.take (k + 1) ++ putF (L.drop (k + 1)) (nm, D.data.toList)) := by
       unfold Hid; rw [HTS.out, hx]; simp
      clear HX2 hx HTS HTK5 HDR5 HTL HDL
      go_wp2
      exact ⟨⟨k + 1, by omega, by go_num, HN2, hL5, hB5, T5⟩, by simp [intOf]; omega⟩
  ·obtain rfl : k = n := by omega
   have hx := HK.out
   rw [List.drop_of_length_le (by have := HN.out; omega), putF] at hx
   have HFIN : Hid (P = L.take k ++ (nm, D.data.toList) :: L.drop k) := by unfold Hid; rw [hx, List.drop_of_length_le (by have := HN.out; omega)]
   clear HK hx hF
   have hdl := HDL.out
   rw [Nat.sub_self] at hdl
   clear HDL
   have HDL : Hid ((fileV (L.drop k)).length = 0 * 2) := hdl
   clear hdl
   have HNV : Hid (∀ (ad : Addr) (W : World) j u, (fileV (L.drop k))[j]? = some u → W.cell? (ad.add j) = some u) := fun ad W j u h => by rw [List.eq_nil_of_length_eq_zero (by have := HDL.out; omega : (fileV (L.drop k)).length = 0)] at h; cases h
   by_cases hck : cap = k
   ·have c1 : 0 + k ≤ maxLen := by unfold maxLen; omega
    have c2 : (0 + k) * 32 ≤ 140737488355328 := by omega
    have k0 : (0 : Int) ≤ (k : Int) := by omega
    have kc : k ≤ cap := by have := HN.out; omega
    have kc2 : (k : Int) ≤ (cap : Int) := by omega
    have k1 : (k : Int) ≤ (k : Int) := by omega
    have c3 : k + 1 ≤ maxLen := by unfold maxLen; omega
    have c4 : (k + 1) * 32 ≤ 140737488355328 := by omega
    have c5 : k + 1 + 0 ≤ maxLen := by unfold maxLen; omega
    have c6 : (k + 1 + 0) * 32 ≤ 140737488355328 := by omega
    go_wp2_with (first | (at_builtin; refine wpList_append_own _ rfl _ _ 54 rfl wr.heap.size 194 i0 (.agg #[.string ⟨#[]⟩, .string ⟨#[]⟩]) 2 32 Tryz.underlying54 hi hz0 hz1 hz2 rfl (by decide) (.slice none 0 0) 0 [] rfl (World.ownsRow_nil _ _ _ _) ⟨g, 0, none⟩ k _ (fileV (L.take k)) rfl HTL.out HTK.out (fileV_cell _) c1 c2 (Nat.le_refl _) ?_; intro v1 w1 ho1 hg1 _; have t1 : Touch (fun _ => False) wr w1 := (Touch.refl (fun _ => False) wr).grown hg1 (fun q hq => by cases hq); have e0 := t1.at b0 (fun e => e); have e1 := t1.at b1 (fun e => e); have s1 := t1.size; rw [Nat.zero_add, List.nil_append] at ho1) | (at_builtin; refine wpList_append_own _ rfl _ _ 54 rfl wr.heap.size 194 i0 (.agg #[.string ⟨#[]⟩, .string ⟨#[]⟩]) 2 32 Tryz.underlying54 hi hz0 hz1 hz2 rfl (by decide) v1 k (fileV (L.take k)) rfl (ho1.alloc _) ⟨w1.heap.size, 0, none⟩ 1 1 [.string nm, .string D] rfl rfl (cell_two_new _ _ _ _) (by simp [Value.oneCell']) c3 c4 (by simp; omega) ?_; intro v2 w2 ho2 hg2 _; have B1 : ∀ q, v1.ownBlock = some q → wr.heap.size ≤ q := fun q hq => (ho1.lt q hq).1; have t2 : Touch (fun q => wr.heap.size ≤ q) wr w2 := ((t1.mono (fun _ _ h => h.elim)).alloc _).grown hg2 (fun q hq => B1 q hq); have HDR2 : Hid (∀ j u, (fileV (L.drop k))[j]? = some u → w2.cell? ((⟨g, k * 2, none⟩ : Addr).add j) = some u) := (fun j u h => by rw [Addr.add_lit]; exact t2.at (HDR.out j u h) (show ¬ wr.heap.size ≤ g by omega)); have s2 := t2.size) | (at_builtin; refine wpList_append_own _ rfl _ _ 54 rfl wr.heap.size 194 i0 (.agg #[.string ⟨#[]⟩, .string ⟨#[]⟩]) 2 32 Tryz.underlying54 hi hz0 hz1 hz2 rfl (by decide) v2 (k + 1) (fileV (L.take k) ++ [.string nm, .string D]) rfl ho2 ⟨g, 0, none⟩ 0 _ (fileV (L.drop k)) rfl HDL.out (HNV.out _ _) (fileV_cell _) c5 c6 (by omega) ?_; intro v3 w3 ho3 hg3 _))
    have B2 : ∀ q, v2.ownBlock = some q → wr.heap.size ≤ q := fun q hq => (ho2.lt q hq).1
    have t3 : Touch (fun q => wr.heap.size ≤ q) wr w3 := t2.grown hg3 (fun q hq => B2 q hq)
    go_ret
    refine ⟨v3, rfl, ?_, ?_⟩
    ·have e : fileV P = fileV (L.take k) ++ [.string nm, .string D] ++ fileV (L.drop k) := by
      rw [HFIN.out, fileV_append, List.append_assoc]; rfl
     have el : P.length = k + 1 + 0 := by
      rw [HFIN.out, List.length_append, List.length_take, List.length_cons, List.length_drop]
      have := HN.out; omega
     have ho4 : w3.ownsRow wr.heap.size 194 2 v3 P.length (fileV P) := by rw [e, el]; exact ho3
     exact RFils.mono ho4 (by omega)
    ·exact T.trans (t3.mono (fun q hq h => absurd h (by omega)))
   ·have c1 : 0 + k ≤ maxLen := by unfold maxLen; omega
    have c2 : (0 + k) * 32 ≤ 140737488355328 := by omega
    have k0 : (0 : Int) ≤ (k : Int) := by omega
    have kc : k ≤ cap := by have := HN.out; omega
    have kc2 : (k : Int) ≤ (cap : Int) := by omega
    have k1 : (k : Int) ≤ (k : Int) := by omega
    have c3 : k + 1 ≤ maxLen := by unfold maxLen; omega
    have c4 : (k + 1) * 32 ≤ 140737488355328 := by omega
    have c5 : k + 1 + 0 ≤ maxLen := by unfold maxLen; omega
    have c6 : (k + 1 + 0) * 32 ≤ 140737488355328 := by omega
    go_wp2_with (first | (at_builtin; refine wpList_append_own _ rfl _ _ 54 rfl wr.heap.size 194 i0 (.agg #[.string ⟨#[]⟩, .string ⟨#[]⟩]) 2 32 Tryz.underlying54 hi hz0 hz1 hz2 rfl (by decide) (.slice none 0 0) 0 [] rfl (World.ownsRow_nil _ _ _ _) ⟨g, 0, none⟩ k _ (fileV (L.take k)) rfl HTL.out HTK.out (fileV_cell _) c1 c2 (Nat.le_refl _) ?_; intro v1 w1 ho1 hg1 _; have t1 : Touch (fun _ => False) wr w1 := (Touch.refl (fun _ => False) wr).grown hg1 (fun q hq => by cases hq); have e0 := t1.at b0 (fun e => e); have e1 := t1.at b1 (fun e => e); have s1 := t1.size; rw [Nat.zero_add, List.nil_append] at ho1) | (at_builtin; refine wpList_append_own _ rfl _ _ 54 rfl wr.heap.size 194 i0 (.agg #[.string ⟨#[]⟩, .string ⟨#[]⟩]) 2 32 Tryz.underlying54 hi hz0 hz1 hz2 rfl (by decide) v1 k (fileV (L.take k)) rfl (ho1.alloc _) ⟨w1.heap.size, 0, none⟩ 1 1 [.string nm, .string D] rfl rfl (cell_two_new _ _ _ _) (by simp [Value.oneCell']) c3 c4 (by simp; omega) ?_; intro v2 w2 ho2 hg2 _; have B1 : ∀ q, v1.ownBlock = some q → wr.heap.size ≤ q := fun q hq => (ho1.lt q hq).1; have t2 : Touch (fun q => wr.heap.size ≤ q) wr w2 := ((t1.mono (fun _ _ h => h.elim)).alloc _).grown hg2 (fun q hq => B1 q hq); have HDR2 : Hid (∀ j u, (fileV (L.drop k))[j]? = some u → w2.cell? ((⟨g, k * 2, none⟩ : Addr).add j) = some u) := (fun j u h => by rw [Addr.add_lit]; exact t2.at (HDR.out j u h) (show ¬ wr.heap.size ≤ g by omega)); have s2 := t2.size) | (at_builtin; refine wpList_append_own _ rfl _ _ 54 rfl wr.heap.size 194 i0 (.agg #[.string ⟨#[]⟩, .string ⟨#[]⟩]) 2 32 Tryz.underlying54 hi hz0 hz1 hz2 rfl (by decide) v2 (k + 1) (fileV (L.take k) ++ [.string nm, .string D]) rfl ho2 ⟨g, k * 2, none⟩ 0 _ (fileV (L.drop k)) rfl HDL.out HDR2.out (fileV_cell _) c5 c6 (by omega) ?_; intro v3 w3 ho3 hg3 _))
    have B2 : ∀ q, v2.ownBlock = some q → wr.heap.size ≤ q := fun q hq => (ho2.lt q hq).1
    have t3 : Touch (fun q => wr.heap.size ≤ q) wr w3 := t2.grown hg3 (fun q hq => B2 q hq)
    go_ret
    refine ⟨v3, rfl, ?_, ?_⟩
    ·have e : fileV P = fileV (L.take k) ++ [.string nm, .string D] ++ fileV (L.drop k) := by
      rw [HFIN.out, fileV_append, List.append_assoc]; rfl
     have el : P.length = k + 1 + 0 := by
      rw [HFIN.out, List.length_append, List.length_take, List.length_cons, List.length_drop]
      have := HN.out; omega
     have ho4 : w3.ownsRow wr.heap.size 194 2 v3 P.length (fileV P) := by rw [e, el]; exact ho3
     exact RFils.mono ho4 (by omega)
    ·exact T.trans (t3.mono (fun q hq h => absurd h (by omega)))
theorem rput_none (w : World) (nm D : ByteArray) :
  Calls Tryz.prog 98 #[.slice none 0 0, .agg #[.string nm, .string D]] w fun r w' => ∃ v', r = .returned v' ∧ RFils w' w.heap.size v' [(nm, D.data.toList)] ∧ Touch (fun _ => False) w w' := by
 obtain ⟨i0, hi, hz0, hz1, hz2⟩ := info_parts Tryz.infoRefFile
 have B0 := CB.new w [.string nm, .string D] 194
 have T0 := (Touch.refl (fun _ => False) w).alloc (Obj.cells #[.string nm, .string D] 194)
 have s0 : (w.alloc (Obj.cells #[.string nm, .string D] 194)).heap.size = w.heap.size + 1 := by simp
 go_enter Tryz.func98, Tryz.ntmps98
 go_wp2
 go_loopw [5] (fun i wr => i = .int .i64 0 ∧ wr = w.alloc (Obj.cells #[.string nm, .string D] 194)) (fun i wr => 0)
 case atStart => exact ⟨rfl, rfl⟩
 case round =>
  obtain ⟨rfl, rfl⟩ := hrel
  have b0 : (w.alloc (Obj.cells #[.string nm, .string D] 194)).cell? ⟨w.heap.size, 0, none⟩ = some (.string nm) := B0.cells 0 (by simp)
  have b1 : (w.alloc (Obj.cells #[.string nm, .string D] 194)).cell? ⟨w.heap.size, 1, none⟩ = some (.string D) := B0.cells 1 (by simp)
  obtain ⟨W, hW⟩ : ∃ W, W = w.alloc (Obj.cells #[.string nm, .string D] 194) := ⟨_, rfl⟩
  rw [← hW] at b0 b1 T0 s0 ⊢
  clear hW B0
  have c3 : 0 + 1 ≤ maxLen := by unfold maxLen; omega
  have c1 : 0 + 0 ≤ maxLen := by unfold maxLen; omega
  have c5 : 1 + 0 ≤ maxLen := by unfold maxLen; omega
  go_wp2_with (first | (at_builtin; refine wpList_append_two rfl _ _ 54 rfl W.heap.size W.heap.size 194 i0 (.agg #[.string ⟨#[]⟩, .string ⟨#[]⟩]) 2 32 Tryz.underlying54 hi hz0 hz1 hz2 rfl (by decide) (.slice none 0 0) 0 [] rfl (World.ownsRow_nil _ _ _ _) (.slice none 0 0) 0 [] rfl (World.ownsRow_nil _ _ _ _) (by intro u hu; cases hu) c1 (by omega) (Nat.le_refl _) ?_; intro v1 w1 ho1 hg1; have t1 : Touch (fun _ => False) W w1 := (Touch.refl (fun _ => False) W).grown hg1 (fun q hq => by cases hq); have e0 := t1.at b0 (fun e => e); have e1 := t1.at b1 (fun e => e); have s1 := t1.size; rw [Nat.zero_add, List.nil_append] at ho1) | (at_builtin; refine wpList_append_own _ rfl _ _ 54 rfl W.heap.size 194 i0 (.agg #[.string ⟨#[]⟩, .string ⟨#[]⟩]) 2 32 Tryz.underlying54 hi hz0 hz1 hz2 rfl (by decide) v1 0 [] rfl (ho1.alloc _) ⟨w1.heap.size, 0, none⟩ 1 1 [.string nm, .string D] rfl rfl (cell_two_new _ _ _ _) (by simp [Value.oneCell']) c3 (by omega) (by simp; omega) ?_; intro v2 w2 ho2 hg2 _; have B1 : ∀ q, v1.ownBlock = some q → W.heap.size ≤ q := fun q hq => (ho1.lt q hq).1; have t2 : Touch (fun q => W.heap.size ≤ q) W w2 := ((t1.mono (fun _ _ h => h.elim)).alloc _).grown hg2 (fun q hq => B1 q hq); have s2 := t2.size; rw [Nat.zero_add, List.nil_append] at ho2) | (at_builtin; refine wpList_append_two rfl _ _ 54 rfl W.heap.size W.heap.size 194 i0 (.agg #[.string ⟨#[]⟩, .string ⟨#[]⟩]) 2 32 Tryz.underlying54 hi hz0 hz1 hz2 rfl (by decide) v2 1 [.string nm, .string D] rfl ho2 (.slice none 0 0) 0 [] rfl (World.ownsRow_nil _ _ _ _) (by intro u hu; cases hu) c5 (by omega) (by omega) ?_; intro v3 w3 ho3 hg3))
  have B2 : ∀ q, v2.ownBlock = some q → W.heap.size ≤ q := fun q hq => (ho2.lt q hq).1
  have t3 : Touch (fun q => W.heap.size ≤ q) W w3 := t2.grown hg3 (fun q hq => B2 q hq)
  go_ret
  refine ⟨v3, rfl, ?_, T0.trans (t3.mono (fun q hq h => absurd h (by omega)))⟩
  rw [Nat.add_zero, List.append_nil] at ho3
  have ho4 : RFils w3 W.heap.size v3 [(nm, D.data.toList)] := ho3
  exact ho4.mono (by omega)
theorem rput_c (w : World) (base : Nat) (v : Value) (L : List Fil) (nm D : ByteArray) (hL : RFils w base v L) (hb : base ≤ w.heap.size) (hn : ∀ x ∈ L, 0 < x.1.size ∧ x.1.size ≤ 1048576) (hf : 0 < nm.size ∧ nm.size ≤ 1048576) (hlen : L.length ≤ 100000000) :
  Calls Tryz.prog 98 #[v, .agg #[.string nm, .string D]] w fun r w' => ∃ v', r = .returned v' ∧ RFils w' base v' (putF L (nm, D.data.toList)) ∧ Touch (fun _ => False) w w' := by
 obtain ⟨q1, ⟨q2, q3⟩ | ⟨g', cap', cur, rfl, hrest⟩⟩ := id hL
 ·subst q2
  obtain rfl : L = [] := List.eq_nil_of_length_eq_zero q3
  refine (rput_none w nm D).mono ?_
  rintro r w' ⟨v', h1, h2, h3⟩
  exact ⟨v', h1, h2.mono hb, h3⟩
 ·exact rput_some w base g' cap' L nm D hL hb hn hf hlen
end Go.Proofs.YtpckiobjpikmlaaGreatDoor
namespace Go.Proofs.YtpckiobjpikmlaaGreatDoor
open Go.RowKit
theorem bare_tail (p : ByteArray) : p.data.toList = bareL p ++ (if folderB p then [47] else []) := by
 unfold bareL
 by_cases h : folderB p = true
 ·rw [if_pos h, if_pos h, ByteArray.toList_eq]
  unfold folderB at h
  rw [ByteArray.toList_eq] at h
  have h' := of_decide_eq_true h
  cases hl : p.data.toList with
  | nil => rw [hl] at h'; cases h'
  | cons a l =>
   rw [hl] at h'
   have hne : a :: l ≠ [] := by simp
   rw [List.getLast?_eq_some_getLast hne] at h'
   have := List.dropLast_concat_getLast hne
   rw [Option.some.inj h'] at this
   exact this.symm
 ·rw [if_neg h, if_neg h, ByteArray.toList_eq, List.append_nil]
theorem bare_len (p : ByteArray) : p.data.toList.length ≤ (bareL p).length + 1 := by
 have := congrArg List.length (bare_tail p)
 rw [List.length_append] at this
 split at this <;> simp at this ⊢ <;> omega
structure NameFacts (nm : ByteArray) : Prop where
 nul : NoNul nm.data.toList
 apart : ∀ k, ((bareL nm)[k]? = some 47 ∨ k = (bareL nm).length) → 0 < k ∧ (bareL nm)[k - 1]? ≠ some 47
theorem name_facts (nm : ByteArray) (h : nameOk nm = true) : NameFacts nm := by
 unfold nameOk at h
 rw [Bool.and_eq_true, Bool.and_eq_true] at h
 obtain ⟨⟨h1, h2⟩, h3⟩ := h
 refine ⟨fun c hc e => ?_, fun k hk => ?_⟩
 ·rw [ByteArray.toList_eq] at h2
  have := List.all_eq_true.1 h2 c hc
  rw [e] at this
  revert this; decide
 ·have := parts_apart (bareL nm) [] (fun x hx e => by
   have := List.all_eq_true.1 h3 x hx
   rw [e] at this; revert this; decide) k hk
  have hk0 : k ≠ 0 := fun e => this.1 e rfl
  refine ⟨by omega, ?_⟩
  exact this.2 (k - 1) (by omega)
def AllP (L : List Spanned) (p : ByteArray) : Prop := ∃ x ∈ L, (folderB x.ent.name = false ∧ p = x.ent.name) ∨ ∃ k, x.ent.name.data.toList[k]? = some 47 ∧ p = (folOf (x.ent.name.data.toList.take (k + 1))).1
theorem fol_list (l : List UInt8) : (folOf l).1.data.toList = l := rfl
theorem fol_folder (l : List UInt8) (k : Nat) (h : l[k]? = some 47) : folderB (folOf (l.take (k + 1))).1 = true ∧ bareL (folOf (l.take (k + 1))).1 = l.take k := by
 have hk : k < l.length := (List.getElem?_eq_some_iff.1 h).1
 have e : folderB (folOf (l.take (k + 1))).1 = true := by
  unfold folderB
  rw [ByteArray.toList_eq, fol_list, List.getLast?_eq_getElem?, List.length_take, show min (k + 1) l.length - 1 = k by omega, List.getElem?_take_of_lt (by omega)]
  exact decide_eq_true h
 refine ⟨e, ?_⟩
 unfold bareL
 rw [if_pos e, ByteArray.toList_eq, fol_list, List.dropLast_eq_take, List.length_take, List.take_take]
 congr 1; omega
theorem bare_at (nm : ByteArray) (k : Nat) (h : nm.data.toList[k]? = some 47) : ((bareL nm)[k]? = some 47 ∨ k = (bareL nm).length) ∧ nm.data.toList.take k = (bareL nm).take k := by
 have ht := bare_tail nm
 have hl := bare_len nm
 have hk : k < nm.data.toList.length := (List.getElem?_eq_some_iff.1 h).1
 by_cases hlt : k < (bareL nm).length
 ·refine ⟨.inl ?_, ?_⟩
  ·rw [ht, List.getElem?_append_left hlt] at h; exact h
  ·conv => lhs; rw [ht]
   rw [List.take_append_of_le_length (by omega)]
 ·refine ⟨.inr (by omega), ?_⟩
  conv => lhs; rw [ht]
  rw [List.take_append_of_le_length (by omega)]
theorem allp_last {L : List Spanned} (hn : ∀ x ∈ L, nameOk x.ent.name = true) {p : ByteArray} (h : AllP L p) : NoNul p.data.toList ∧ (bareL p).getLast? ≠ some 47 := by
 obtain ⟨x, hx, ⟨hf, rfl⟩ | ⟨k, hk, rfl⟩⟩ := h
 ·refine ⟨(name_facts _ (hn x hx)).nul, ?_⟩
  unfold bareL
  rw [if_neg (by rw [hf]; simp)]
  unfold folderB at hf
  exact of_decide_eq_false hf
 ·have nf := name_facts _ (hn x hx)
  refine ⟨fun c hc => nf.nul c (List.mem_of_mem_take hc), ?_⟩
  rw [(fol_folder _ k hk).2]
  obtain ⟨b1, b2⟩ := bare_at _ k hk
  obtain ⟨a1, a2⟩ := nf.apart k b1
  have hkl : k < x.ent.name.data.toList.length := (List.getElem?_eq_some_iff.1 hk).1
  rw [List.getLast?_eq_getElem?, List.length_take, show min k x.ent.name.data.toList.length - 1 = k - 1 by omega, b2, List.getElem?_take_of_lt (by omega)]
  exact a2
theorem clash_sym (a b : ByteArray) : clashB a b = clashB b a := by
 unfold clashB
 rw [decide_eq_decide.2 (⟨Eq.symm, Eq.symm⟩ : bareL a = bareL b ↔ bareL b = bareL a)]
 generalize (decide (bareL b = bareL a)) = x
 generalize (leadsB (bareL a) (bareL b) && !folderB a) = y
 generalize (leadsB (bareL b) (bareL a) && !folderB b) = z
 cases x <;> cases y <;> cases z <;> rfl
theorem no_clash {L : List Spanned} (hc : anyPair (fun a b => clashB a.name b.name) (L.map (·.ent)) = false) {x y : Spanned} (hx : x ∈ L) (hy : y ∈ L) (hne : x ≠ y) : clashB x.ent.name y.ent.name = false := by
 rw [anyPair_false, List.pairwise_map, List.pairwise_iff_getElem] at hc
 obtain ⟨i, hi, rfl⟩ := List.getElem_of_mem hx
 obtain ⟨j, hj, rfl⟩ := List.getElem_of_mem hy
 rcases Nat.lt_trichotomy i j with h | h | h
 ·exact hc i j hi hj h
 ·subst h; exact absurd rfl hne
 ·rw [clash_sym]; exact hc j i hj hi h
theorem file_in_way {a b : ByteArray} (ha : folderB a = false) (k : Nat) (hk : b.data.toList[k]? = some 47) (h : a.data.toList = b.data.toList.take k) : clashB a b = true := by
 have e1 : bareL a = a.data.toList := by unfold bareL; rw [if_neg (by rw [ha]; simp), ByteArray.toList_eq]
 obtain ⟨b1, b2⟩ := bare_at b k hk
 unfold clashB
 rcases b1 with b1 | b1
 ·have : leadsB (bareL a) (bareL b) = true := by
   unfold leadsB
   rw [List.isPrefixOf_iff_prefix, e1, h, b2]
   have hkl := (List.getElem?_eq_some_iff.1 b1).1
   have : (bareL b).take k ++ [47] = (bareL b).take (k + 1) := by
    rw [List.take_add_one, b1]; rfl
   rw [this]
   exact List.take_prefix ..
  rw [this, ha]; simp
 ·have : bareL a = bareL b := by rw [e1, h, b2, b1, List.take_length]
  rw [decide_eq_true this]; rfl
theorem bare_inj {L : List Spanned} (hc : anyPair (fun a b => clashB a.name b.name) (L.map (·.ent)) = false) {p q : ByteArray} (hp : AllP L p) (hq : AllP L q) (h : bareL p = bareL q) : p = q := by
 have file_fold : ∀ {x y : Spanned} {k : Nat}, x ∈ L → y ∈ L → folderB x.ent.name = false → y.ent.name.data.toList[k]? = some 47 → bareL x.ent.name = y.ent.name.data.toList.take k → False := by
  intro x y k hx hy hf hk he
  have e1 : bareL x.ent.name = x.ent.name.data.toList := by unfold bareL; rw [if_neg (by rw [hf]; simp), ByteArray.toList_eq]
  rw [e1] at he
  by_cases hxy : x = y
  ·subst hxy
   have := congrArg List.length he
   have hkl := (List.getElem?_eq_some_iff.1 hk).1
   rw [List.length_take] at this; omega
  ·have := no_clash hc hx hy hxy
   rw [file_in_way hf k hk he] at this; cases this
 obtain ⟨x, hx, ⟨hf, rfl⟩ | ⟨k, hk, rfl⟩⟩ := hp
 ·obtain ⟨y, hy, ⟨hg, rfl⟩ | ⟨j, hj, rfl⟩⟩ := hq
  ·refine byte_ext ?_
   rw [bare_tail x.ent.name, bare_tail y.ent.name, h, hf, hg]
  ·rw [(fol_folder _ j hj).2] at h
   exact (file_fold hx hy hf hj h).elim
 ·rw [(fol_folder _ k hk).2] at h
  obtain ⟨y, hy, ⟨hg, rfl⟩ | ⟨j, hj, rfl⟩⟩ := hq
  ·exact (file_fold hy hx hg hk h.symm).elim
  ·refine byte_ext ?_
   rw [bare_tail (folOf (x.ent.name.data.toList.take (k + 1))).1, bare_tail (folOf (y.ent.name.data.toList.take (j + 1))).1, (fol_folder _ j hj).1, (fol_folder _ k hk).1, (fol_folder _ k hk).2, h, (fol_folder _ j hj).2]
theorem allp_ord {L : List Spanned} (hn : ∀ x ∈ L, nameOk x.ent.name = true) (hc : anyPair (fun a b => clashB a.name b.name) (L.map (·.ent)) = false) : OrdOn (AllP L) := by
 refine ⟨fun a b ha hb hne => ?_, fun a ha => (allp_last hn ha).1⟩
 obtain ⟨a1, a2⟩ := allp_last hn ha
 obtain ⟨b1, b2⟩ := allp_last hn hb
 have ta := bare_tail a
 have tb := bare_tail b
 have na : NoNul (bareL a) := fun c hc => a1 c (by rw [ta]; exact List.mem_append_left _ hc)
 have nb : NoNul (bareL b) := fun c hc => b1 c (by rw [tb]; exact List.mem_append_left _ hc)
 unfold lessF
 rw [lexP_eq _ _ _ na nb]
 refine decide_eq_decide.2 ?_
 rw [ta, tb]
 refine (cmpP_tail _ _ _ _ (fun e => hne (bare_inj hc ha hb e)) na nb ?_ ?_ a2 b2).symm
 ·split
  ·exact .inr rfl
  ·exact .inl rfl
 ·split
  ·exact .inr rfl
  ·exact .inl rfl
structure OutIs (L : List Spanned) (acc : List Fil) (K : List (List UInt8)) (out : List Fil) : Prop where
 perm : out.Perm (acc ++ K.map folOf)
 srt : Srt out
 accs : ∀ f ∈ acc, AllP L f.1 ∧ folderB f.1 = false
 fols : ∀ k ∈ K, AllP L (folOf k).1 ∧ folderB (folOf k).1 = true
theorem OutIs.all {L : List Spanned} {acc : List Fil} {K : List (List UInt8)} {out : List Fil} (h : OutIs L acc K out) : ∀ x ∈ out, AllP L x.1 := by
 intro x hx
 rcases List.mem_append.1 (h.perm.mem_iff.1 hx) with h1 | h1
 ·exact (h.accs x h1).1
 ·obtain ⟨k, hk, rfl⟩ := List.mem_map.1 h1
  exact (h.fols k hk).1
theorem folOf_inj {a b : List UInt8} (h : (folOf a).1 = (folOf b).1) : a = b := by
 have := congrArg (fun x : ByteArray => x.data.toList) h
 exact this
theorem OutIs.folds {L : List Spanned} (hP : OrdOn (AllP L)) {x : Spanned} (hx : x ∈ L) : ∀ (f i : Nat) {acc : List Fil} {K : List (List UInt8)} {out : List Fil}, OutIs L acc K out → OutIs L acc (foldIn x.ent.name.data.toList f i K) (putFolds x.ent.name.data.toList f i out)
 | 0, _, _, _, _, h => h
 | f + 1, i, acc, K, out, h => by
  unfold foldIn putFolds
  refine OutIs.folds hP hx f (i + 1) ?_
  by_cases h47 : x.ent.name.data.toList[i]? = some 47
  ·have hA : AllP L (folOf (x.ent.name.data.toList.take (i + 1))).1 := ⟨x, hx, .inr ⟨i, h47, rfl⟩⟩
   have hF := (fol_folder _ i h47).1
   rw [if_pos h47]
   by_cases hk : K.contains (x.ent.name.data.toList.take (i + 1)) = true
   ·rw [if_neg (by rw [hk]; simp)]
    have hm : folOf (x.ent.name.data.toList.take (i + 1)) ∈ out := h.perm.mem_iff.2 (List.mem_append_right _ (List.mem_map.2 ⟨_, by simpa using hk, rfl⟩))
    rw [putF_mem hP _ hA out h.all h.srt ⟨_, hm, rfl⟩]
    exact h
   ·rw [if_pos ⟨h47, by simpa using hk⟩]
    have hnew : ∀ y ∈ out, y.1 ≠ (folOf (x.ent.name.data.toList.take (i + 1))).1 := by
     intro y hy e
     rcases List.mem_append.1 (h.perm.mem_iff.1 hy) with h1 | h1
     ·have := (h.accs y h1).2
      rw [e, hF] at this; cases this
     ·obtain ⟨k, hk', rfl⟩ := List.mem_map.1 h1
      rw [folOf_inj e] at hk'
      exact hk (by simpa using hk')
    obtain ⟨q1, q2⟩ := putF_new hP _ hA out h.all h.srt hnew
    refine ⟨q1.trans ?_, q2, h.accs, fun k hk' => ?_⟩
    ·rw [List.map_append, ← List.append_assoc]
     exact (List.Perm.cons _ h.perm).trans (List.perm_append_comm (l₁ := [_]) (l₂ := acc ++ K.map folOf))
    ·rcases List.mem_append.1 hk' with h1 | h1
     ·exact h.fols k h1
     ·rw [List.mem_singleton.1 h1]; exact ⟨hA, hF⟩
  ·rw [if_neg h47, if_neg (fun e => h47 e.1)]
   exact h
theorem OutIs.file {L : List Spanned} (hP : OrdOn (AllP L)) {x : Spanned} (hx : x ∈ L) (hf : folderB x.ent.name = false) {acc : List Fil} {K : List (List UInt8)} {out : List Fil} (h : OutIs L acc K out) (hne : ∀ f ∈ acc, f.1 ≠ x.ent.name) (d : List UInt8) : OutIs L (acc ++ [(x.ent.name, d)]) K (putF out (x.ent.name, d)) := by
 have hA : AllP L (x.ent.name, d).1 := ⟨x, hx, .inl ⟨hf, rfl⟩⟩
 have hnew : ∀ y ∈ out, y.1 ≠ (x.ent.name, d).1 := by
  intro y hy e
  rcases List.mem_append.1 (h.perm.mem_iff.1 hy) with h1 | h1
  ·exact hne y h1 e
  ·obtain ⟨k, hk', rfl⟩ := List.mem_map.1 h1
   have := (h.fols k hk').2
   rw [e] at this
   rw [show folderB (x.ent.name, d).1 = false from hf] at this; cases this
 obtain ⟨q1, q2⟩ := putF_new hP _ hA out h.all h.srt hnew
 refine ⟨q1.trans ?_, q2, fun f hf' => ?_, h.fols⟩
 ·refine (List.Perm.cons _ h.perm).trans ?_
  rw [List.append_assoc]
  exact List.perm_middle.symm
 ·rcases List.mem_append.1 hf' with h1 | h1
  ·exact h.accs f h1
  ·rw [List.mem_singleton.1 h1]; exact ⟨hA, hf⟩
theorem refGo_eq (s : ByteArray) {L : List Spanned} (hP : OrdOn (AllP L)) (hc : anyPair (fun a b => clashB a.name b.name) (L.map (·.ent)) = false) : ∀ (l L0 : List Spanned) (acc : List Fil) (K : List (List UInt8)) (out : List Fil), L = L0 ++ l → OutIs L acc K out → (∀ f ∈ acc, ∃ y ∈ L0, f.1 = y.ent.name) →
  match filesGo s l acc with
  | .inl k => refGo s l out = .inl k
  | .inr fs => ∃ o, refGo s l out = .inr o ∧ OutIs L fs (foldAll l K) o
 | [], L0, acc, K, out, _, h, _ => ⟨out, rfl, h⟩
 | x :: l, L0, acc, K, out, hL, h, ha => by
  have hx : x ∈ L := by rw [hL]; simp
  have h1 := OutIs.folds hP hx x.ent.name.size 0 h
  have hL' : L = (L0 ++ [x]) ++ l := by rw [hL]; simp
  unfold filesGo refGo
  by_cases hf : folderB x.ent.name = true
  ·rw [if_pos hf, if_pos hf]
   exact refGo_eq s hP hc l (L0 ++ [x]) acc _ _ hL' h1 (fun f hf => by
    obtain ⟨y, hy, e⟩ := ha f hf
    exact ⟨y, List.mem_append_left _ hy, e⟩)
  ·have hf' : folderB x.ent.name = false := by simpa using hf
   rw [if_neg hf, if_neg hf]
   cases hd : dataOfE s x with
   | inl k => rfl
   | inr d =>
    simp only
    have hne : ∀ f ∈ acc, f.1 ≠ x.ent.name := by
     intro f hfa e
     obtain ⟨y, hy, e2⟩ := ha f hfa
     rw [anyPair_false, List.pairwise_map, hL, List.pairwise_append] at hc
     have := hc.2.2 y hy x (List.mem_cons_self ..)
     rw [← e2, e] at this
     unfold clashB at this
     simp at this
    refine refGo_eq s hP hc l (L0 ++ [x]) (acc ++ [(x.ent.name, d)]) _ _ hL' (OutIs.file hP hx hf' h1 hne d) (fun f hf => ?_)
    rcases List.mem_append.1 hf with h2 | h2
    ·obtain ⟨y, hy, e⟩ := ha f h2
     exact ⟨y, List.mem_append_left _ hy, e⟩
    ·rw [List.mem_singleton.1 h2]; exact ⟨x, by simp, rfl⟩
theorem refGo_all (s : ByteArray) (L : List Spanned) (hn : ∀ x ∈ L, nameOk x.ent.name = true) (hc : anyPair (fun a b => clashB a.name b.name) (L.map (·.ent)) = false) :
  match filesGo s L [] with
  | .inl k => refGo s L [] = .inl k
  | .inr fs => ∃ o, refGo s L [] = .inr o ∧ ∀ d : List Fil, d.Perm (fs ++ (foldAll L []).map folOf) → d.Pairwise (fun a b => cmpP a.1.data.toList b.1.data.toList ≤ 0) → d = o := by
 have h0 : OutIs L [] [] [] := ⟨List.Perm.refl _, List.Pairwise.nil, fun f hf => (by cases hf), fun f hf => (by cases hf)⟩
 have := refGo_eq s (allp_ord hn hc) hc L [] [] [] [] rfl h0 (fun f hf => by cases hf)
 revert this
 cases filesGo s L [] with
 | inl k => exact fun h => h
 | inr fs =>
  rintro ⟨o, ho, h⟩
  exact ⟨o, ho, fun d hd hs => sorted_one o d (hd.trans h.perm.symm) h.srt hs⟩
end Go.Proofs.YtpckiobjpikmlaaGreatDoor
namespace Go.Proofs.YtpckiobjpikmlaaGreatDoor
open Go.RowKit
theorem listOf_each (s : ByteArray) (qe qn qb : Int) (L : List Spanned) (h : listOf s qe qn qb = .ok L) : (∀ x ∈ L, EntOk x.ent ∧ faultOf x.ent = 0) ∧ anyPair (fun a b => clashB a.name b.name) (L.map (·.ent)) = false := by
 unfold listOf at h
 cases hd : dirOf s with
 | error k => rw [hd] at h; cases h
 | ok d =>
  rw [hd] at h
  simp only at h
  split at h
  ·cases h
  ·split at h
   ·cases h
   ·cases he : entsGo s d.stop d.count d.place [] with
    | error k => rw [he] at h; cases h
    | ok l =>
     rw [he] at h
     simp only at h
     split at h
     ·cases h
     ·split at h
      ·cases h
      ·rename_i hcl
       cases hsp : spansOf s d.place l with
       | none => rw [hsp] at h; cases h
       | some r =>
        rw [hsp] at h
        simp only at h
        split at h
        ·cases h
        ·split at h
         ·cases h
         ·cases h
          obtain ⟨c1, c2⟩ := spansOf_ok s _ _ _ hsp
          have b3 := (entsGo_ok s _ _ _ _ _ he).2.2
          refine ⟨fun x hx => ?_, by rw [c1]; simpa using hcl⟩
          rcases b3 x.ent (c2 x hx).1 with h0 | h0
          ·cases h0
          ·exact h0
theorem faultOf_method (e : Ent) (h : faultOf e = 0) : e.method = 0 ∨ e.method = 8 := by
 unfold faultOf at h
 split at h
 ·cases h
 ·split at h
  ·cases h
  ·rename_i hn
   simp only [Bool.or_eq_true, Bool.and_eq_true, decide_eq_true_eq, not_or, not_and] at hn
   by_cases h0 : e.method = 0
   ·exact .inl h0
   ·right
    have := hn.1.2 h0
    omega
theorem putF_len (f : Fil) : ∀ l : List Fil, (putF l f).length ≤ l.length + 1
 | [] => by simp [putF]
 | x :: l => by
  unfold putF
  split
  ·simp
  ·split
   ·simp
   ·have := putF_len f l; simp; omega
theorem putF_all (P : Fil → Prop) (f : Fil) (hf : P f) : ∀ l : List Fil, (∀ x ∈ l, P x) → ∀ x ∈ putF l f, P x
 | [], _, x, hx => by simp [putF] at hx; rw [hx]; exact hf
 | y :: l, h, x, hx => by
  unfold putF at hx
  split at hx
  ·exact h x hx
  ·split at hx
   ·rcases List.mem_cons.1 hx with rfl | hx
    ·exact hf
    ·exact h x hx
   ·rcases List.mem_cons.1 hx with rfl | hx
    ·exact h _ (List.mem_cons_self ..)
    ·exact putF_all P f hf l (fun z hz => h z (List.mem_cons_of_mem _ hz)) x hx
theorem putFolds_step (nm : List UInt8) (n m : Nat) (h : m < n) (o : List Fil) : putFolds nm (n - m) m o = putFolds nm (n - (m + 1)) (m + 1) (if nm[m]? = some 47 then putF o (folOf (nm.take (m + 1))) else o) := by
 rw [show n - m = (n - (m + 1)) + 1 by omega]; rfl
theorem folOf_take (s : ByteArray) (m : Nat) : folOf (s.data.toList.take m) = (s.extract 0 m, []) := by
 unfold folOf
 congr 1
 apply ByteArray.ext
 rw [ByteArray.data_extract]
 apply Array.toList_inj.1
 rw [Array.toList_extract, List.extract_eq_take_drop]; simp
def runpPost (base : Nat) (s : ByteArray) (R : Except Nat (List Spanned)) (r : Ending) (w' : World) : Prop := match R with
 | .error k => r = .returned (.tuple #[.slice none 0 0, .int .i64 (k : Int)])
 | .ok L => match refGo s L [] with
  | .inl k => r = .returned (.tuple #[.slice none 0 0, .int .i64 (k : Int)])
  | .inr o => ∃ v, r = .returned (.tuple #[v, .int .i64 0]) ∧ RFils w' base v o
end Go.Proofs.YtpckiobjpikmlaaGreatDoor
namespace Go.Proofs.YtpckiobjpikmlaaGreatDoor
open Go.RowKit Go.Shelf Go.Lib
theorem sameE_c (w : World) (a : Option Addr) (g cap : Nat) (a' : Option Addr) (g' cap' : Nat) (L : List Spanned) (ha : 0 < L.length → a = some ⟨g, 0, none⟩) (h1 : 0 < L.length → EntsAt w g L) (h2 : Refs w a' g' (L.map spnE)) (hok : ∀ x ∈ L, EntOk x.ent) (hn : L.length ≤ 22796) :
  Calls Tryz.prog 48 #[.slice a L.length cap, .slice a' L.length cap'] w fun r w' => r = .returned (.bool true) ∧ Touch (fun _ => False) w w' := by
 obtain ⟨n, hN⟩ : ∃ n, n = L.length := ⟨_, rfl⟩
 rw [← hN]
 have HN : Hid (n = L.length) := hN
 have HA : Hid (0 < L.length → a = some ⟨g, 0, none⟩) := ha
 have HE : Hid (0 < L.length → EntsAt w g L) := h1
 have HD : Hid (Refs w a' g' (L.map spnE)) := h2
 have HOK : Hid (∀ x ∈ L, EntOk x.ent) := hok
 have hn' : n ≤ 22796 := by omega
 clear ha h1 h2 hok hn hN
 go_enter Tryz.func48, Tryz.ntmps48
 go_wp2
 go_loopw [5] (fun i wr => ∃ k : Nat, k ≤ n ∧ i = .int .i64 (k : Int) ∧ Touch (fun _ => False) w wr) (fun i wr => n - (intOf i).toNat)
 case atStart => exact ⟨0, Nat.zero_le _, rfl, Touch.refl _ _⟩
 case round =>
  obtain ⟨k, hk, rfl, T⟩ := hrel
  by_cases hlt : k < n
  ·have hlt' : k < L.length := by have := HN.out; omega
   obtain rfl := HA.out (by omega)
   obtain rfl := HD.out.ptr (by rw [List.length_map]; omega)
   have ccl := ((HE.out (by omega)).keep T (fun e => e)).cells k hlt'
   have dcl := ((HD.out.at_ (by rw [List.length_map]; omega)).keep T (fun e => e)).cells k (by rw [List.length_map]; omega)
   rw [List.getElem_map] at dcl
   have c0 : wr.cell? ⟨g, k * 6, none⟩ = some (.string L[k].ent.name) := ccl 0 (by omega)
   have c1 : wr.cell? ⟨g, k * 6 + 1, none⟩ = some (.int .i64 (L[k].ent.method : Int)) := ccl 1 (by omega)
   have c2 : wr.cell? ⟨g, k * 6 + 2, none⟩ = some (.int .u32 (L[k].ent.sum : Int)) := ccl 2 (by omega)
   have c3 : wr.cell? ⟨g, k * 6 + 3, none⟩ = some (.int .i64 (L[k].ent.packed : Int)) := ccl 3 (by omega)
   have c4 : wr.cell? ⟨g, k * 6 + 4, none⟩ = some (.int .i64 (L[k].ent.size : Int)) := ccl 4 (by omega)
   have c5 : wr.cell? ⟨g, k * 6 + 5, none⟩ = some (.int .i64 (L[k].place : Int)) := ccl 5 (by omega)
   have d0 : wr.cell? ⟨g', k * 13, none⟩ = some (.string L[k].ent.name) := dcl 0 (by omega)
   have d1 : wr.cell? ⟨g', k * 13 + 1, none⟩ = some (.int .i64 (L[k].ent.method : Int)) := dcl 1 (by omega)
   have d2 : wr.cell? ⟨g', k * 13 + 2, none⟩ = some (.int .i64 (L[k].ent.sum : Int)) := dcl 2 (by omega)
   have d3 : wr.cell? ⟨g', k * 13 + 3, none⟩ = some (.int .i64 (L[k].ent.packed : Int)) := dcl 3 (by omega)
   have d4 : wr.cell? ⟨g', k * 13 + 4, none⟩ = some (.int .i64 (L[k].ent.size : Int)) := dcl 4 (by omega)
   have d5 : wr.cell? ⟨g', k * 13 + 5, none⟩ = some (.int .i64 (L[k].place : Int)) := dcl 5 (by omega)
   have d6 : wr.cell? ⟨g', k * 13 + 6, none⟩ = some (.int .i64 (L[k].ent.flags : Int)) := dcl 6 (by omega)
   have d7 : wr.cell? ⟨g', k * 13 + 7, none⟩ = some (.int .i64 (L[k].ent.ahead : Int)) := dcl 7 (by omega)
   have d8 : wr.cell? ⟨g', k * 13 + 8, none⟩ = some (.int .i64 ((fourOf L[k].ent).1 : Int)) := dcl 8 (by omega)
   have d9 : wr.cell? ⟨g', k * 13 + 9, none⟩ = some (.int .i64 ((fourOf L[k].ent).2.1 : Int)) := dcl 9 (by omega)
   have d10 : wr.cell? ⟨g', k * 13 + 10, none⟩ = some (.int .i64 ((fourOf L[k].ent).2.2 : Int)) := dcl 10 (by omega)
   have d11 : wr.cell? ⟨g', k * 13 + 11, none⟩ = some (.int .i64 (L[k].ent.ahead : Int)) := dcl 11 (by omega)
   have d12 : wr.cell? ⟨g', k * 13 + 12, none⟩ = some (.int .i64 (L[k].stop : Int)) := dcl 12 (by omega)
   have os := (HOK.out L[k] (List.getElem_mem hlt')).sum
   clear ccl dcl
   revert c0 c1 c2 c3 c4 c5 d0 d1 d2 d3 d4 d5 d6 d7 d8 d9 d10 d11 d12 os
   generalize L[k] = x
   obtain ⟨xf1, hx1⟩ : ∃ f, f = (fourOf x.ent).1 := ⟨_, rfl⟩
   obtain ⟨xf2, hx2⟩ : ∃ f, f = (fourOf x.ent).2.1 := ⟨_, rfl⟩
   obtain ⟨xf3, hx3⟩ : ∃ f, f = (fourOf x.ent).2.2 := ⟨_, rfl⟩
   rw [← hx1, ← hx2, ← hx3]
   clear hx1 hx2 hx3
   intro c0 c1 c2 c3 c4 c5 d0 d1 d2 d3 d4 d5 d6 d7 d8 d9 d10 d11 d12 os
   have i1 : (k : Int) < (n : Int) := by omega
   have glt : g < wr.heap.size := by
    have h := ((HE.out (by have := HN.out; omega)).keep T (fun e => e)).lt; exact h
   have glt' : g' < wr.heap.size := by
    have h := ((HD.out.at_ (by rw [List.length_map]; have := HN.out; omega)).keep T (fun e => e)).lt; exact h
   go_wp2
   exact ⟨⟨k + 1, by omega, by go_num, (T.alloc _).alloc _⟩, by simp [intOf]; omega⟩
  ·obtain rfl : k = n := by omega
   go_wp2
   go_ret
   exact ⟨rfl, T⟩
theorem sameF_c (w : World) (a : Option Addr) (g cap : Nat) (a' : Option Addr) (g' cap' : Nat) (L : List Fil) (h1 : 0 < L.length → a = some ⟨g, 0, none⟩ ∧ FilesAt w g L ∧ g < w.heap.size) (h2 : 0 < L.length → a' = some ⟨g', 0, none⟩ ∧ FilesAt w g' L ∧ g' < w.heap.size) (hn : L.length ≤ 100000000) :
  Calls Tryz.prog 52 #[.slice a L.length cap, .slice a' L.length cap'] w fun r w' => r = .returned (.bool true) ∧ Touch (fun _ => False) w w' := by
 obtain ⟨n, hN⟩ : ∃ n, n = L.length := ⟨_, rfl⟩
 rw [← hN]
 have HN : Hid (n = L.length) := hN
 have H1 : Hid (0 < L.length → a = some ⟨g, 0, none⟩ ∧ FilesAt w g L ∧ g < w.heap.size) := h1
 have H2 : Hid (0 < L.length → a' = some ⟨g', 0, none⟩ ∧ FilesAt w g' L ∧ g' < w.heap.size) := h2
 have hn' : n ≤ 100000000 := by omega
 clear h1 h2 hn hN
 go_enter Tryz.func52, Tryz.ntmps52
 go_wp2
 go_loopw [5] (fun i wr => ∃ k : Nat, k ≤ n ∧ i = .int .i64 (k : Int) ∧ Touch (fun _ => False) w wr) (fun i wr => n - (intOf i).toNat)
 case atStart => exact ⟨0, Nat.zero_le _, rfl, Touch.refl _ _⟩
 case round =>
  obtain ⟨k, hk, rfl, T⟩ := hrel
  by_cases hlt : k < n
  ·have hlt' : k < L.length := by have := HN.out; omega
   obtain ⟨rfl, q1, q2⟩ := H1.out (by omega)
   obtain ⟨rfl, q3, q4⟩ := H2.out (by omega)
   obtain ⟨x1, x2⟩ := q1 k hlt'
   obtain ⟨y1, y2⟩ := q3 k hlt'
   have c0 := T.at x1 (fun e => e)
   have c1 := T.at x2 (fun e => e)
   have d0 := T.at y1 (fun e => e)
   have d1 := T.at y2 (fun e => e)
   clear x1 x2 y1 y2 q1 q3
   revert c0 c1 d0 d1
   generalize L[k] = x
   obtain ⟨xn, xd⟩ := x
   simp only
   obtain ⟨D, hD⟩ : ∃ D : ByteArray, D = ⟨xd.toArray⟩ := ⟨_, rfl⟩
   rw [← hD]
   clear hD
   intro c0 c1 d0 d1
   have i1 : (k : Int) < (n : Int) := by omega
   have b1 : (xn.toList == xn.toList) = true := by simp
   have b2 : (D.toList == D.toList) = true := by simp
   go_wp2
   go_quiet (fail)
   go_wp2
   exact ⟨⟨k + 1, by omega, by go_num, T.drewN _⟩, by simp [intOf]; omega⟩
  ·obtain rfl : k = n := by omega
   go_wp2
   go_ret
   exact ⟨rfl, T⟩
end Go.Proofs.YtpckiobjpikmlaaGreatDoor
