/- Texts of this seat, joined. -/
import Derived.Test.YtnmkmmgaoplfiaaGreatDoorJ44
import Derived.Test.YtnmkmmgaoplfiaaGreatDoorJ47
import Derived.Test.YtnmkmmgaoplfiaaGreatDoorJ48
import Derived.BigQuiet
set_option linter.unusedSimpArgs false
set_option linter.unusedVariables false
set_option maxRecDepth 100000
set_option maxHeartbeats 20000000
namespace Go.Proofs.YtnmkmmgaoplfiaaGreatDoor
open Go.RowKit Go.Shelf
theorem guard_err (w : World) (S : ByteArray) (qe qn qb : Int) (k k2 n : Nat) (hk : (k = 0 ∧ 0 < k2) ∨ (0 < k ∧ k2 = k ∧ n = 0)) (hord : Ord w) (h0 : 0 < w.heap.size)
  (HL : Hid (∀ W, Ord W → 0 < W.heap.size → Calls Tryz.prog 8 #[.string S, .agg #[.int .i64 qe, .int .i64 qn, .int .i64 qb]] W fun r w' => Touch (fun _ => False) W w' ∧ ∃ a cap, r = .returned (.tuple #[.slice a n cap, .int .i64 (k : Int)])))
  (HU : Hid (∀ W, Ord W → 0 < W.heap.size → Calls Tryz.prog 9 #[.string S, .agg #[.int .i64 qe, .int .i64 qn, .int .i64 qb]] W fun r w' => Touch (fun _ => False) W w' ∧ r = .returned (.tuple #[.slice none 0 0, .int .i64 (k2 : Int)]))) :
  Calls Tryz.prog 4 #[.string S, .agg #[.int .i64 qe, .int .i64 qn, .int .i64 qb]] w fun r w' => r = .returned (.bool true) ∧ Below w.heap.size w w' := by
 obtain ⟨n0, n1, n2⟩ := quota_new w (.int .i64 qe) (.int .i64 qn) (.int .i64 qb) 29
 have T0 := (Touch.refl (fun _ => False) w).alloc (Obj.cells #[.int .i64 qe, .int .i64 qn, .int .i64 qb] 29)
 have HO : Hid (∀ W, Touch (fun _ => False) w W → Ord W ∧ 0 < W.heap.size) := fun W t => ⟨hord.keep t (fun e => e), Nat.lt_of_lt_of_le h0 t.size⟩
 clear hord h0
 go_enter Tryz.func4, Tryz.ntmps4
 go_wp2_with fail
 refine (awake_c _ (HO.out _ T0).1 (HO.out _ T0).2).mono ?_
 rintro e w1 ⟨rfl, b1⟩
 have t1 := Touch.ofBelow b1 (fun _ => False)
 have T1 := T0.trans t1
 have m0 := t1.at n0 (fun e => e)
 have m1 := t1.at n1 (fun e => e)
 have m2 := t1.at n2 (fun e => e)
 clear n0 n1 n2 b1 t1 T0
 go_wp2_with fail
 refine (HL.out _ (HO.out _ T1).1 (HO.out _ T1).2).mono ?_
 rintro e w2 ⟨t2, la, lc, rfl⟩
 have T2 := T1.trans t2
 have l0 := t2.at m0 (fun e => e)
 have l1 := t2.at m1 (fun e => e)
 have l2 := t2.at m2 (fun e => e)
 clear m0 m1 m2 t2 T1
 go_wp2_with fail
 refine (HU.out _ (HO.out _ T2).1 (HO.out _ T2).2).mono ?_
 rintro e w3 ⟨t3, rfl⟩
 have T3 := T2.trans t3
 clear l0 l1 l2 t3 T2 HL HU HO
 rcases hk with ⟨rfl, hk2⟩ | ⟨hk0, rfl, rfl⟩
 ·have z1 : ((k2 : Int) != 0) = true := by simp; omega
  have z2 : ¬ (k2 : Int) = 0 := by omega
  go_wp2
  go_ret
  exact ⟨rfl, T3.toBelow (Nat.le_refl _) (fun _ _ e => e)⟩
 ·have z1 : ((k2 : Int) != 0) = true := by simp; omega
  have z2 : ¬ (k2 : Int) = 0 := by omega
  have z3 : ((k2 : Int) != (k2 : Int)) = false := by simp
  go_wp2
  go_ret
  exact ⟨rfl, T3.toBelow (Nat.le_refl _) (fun _ _ e => e)⟩
def nmTo (L : List Spanned) (k : Nat) : Nat := namesSum ((L.take k).map (·.ent))
def szTo (L : List Spanned) (k : Nat) : Nat := sizesSum ((L.take k).map (·.ent))
theorem to_succ (L : List Spanned) (k : Nat) (h : k < L.length) : nmTo L (k + 1) = nmTo L k + L[k].ent.name.size ∧ szTo L (k + 1) = szTo L k + L[k].ent.size := by
 unfold nmTo szTo namesSum sizesSum
 rw [List.take_succ_eq_append_getElem h]
 simp only [List.map_append, List.sum_append, List.map_cons, List.map_nil, List.sum_cons, List.sum_nil, Nat.add_zero, and_self]
theorem nmTo_le (L : List Spanned) (hn : ∀ i (h : i < L.length), L[i].ent.name.size ≤ 60) : ∀ k, k ≤ L.length → nmTo L k ≤ 60 * k
 | 0, _ => by simp [nmTo, namesSum]
 | k + 1, h => by
  have h1 := nmTo_le L hn k (by omega)
  have h2 := (to_succ L k (by omega)).1
  have h3 := hn k (by omega)
  omega
theorem szTo_le (L : List Spanned) : ∀ (d k : Nat), k + d = L.length → szTo L k ≤ szTo L L.length
 | 0, k, h => by rw [← h]; exact Nat.le_refl _
 | d + 1, k, h => by
  have h1 := szTo_le L d (k + 1) (by omega)
  have h2 := (to_succ L k (by omega)).2
  omega
theorem to_all (L : List Spanned) : nmTo L L.length = namesSum (L.map (·.ent)) ∧ szTo L L.length = sizesSum (L.map (·.ent)) := by
 unfold nmTo szTo
 rw [List.take_length]
 exact ⟨rfl, rfl⟩
theorem filesAt_take {w : World} {g : Nat} {o : List Fil} (h : FilesAt w g o) (i : Nat) : FilesAt w g (o.take i) := by
 intro j hj
 rw [List.length_take] at hj
 have := h j (by omega)
 rw [List.getElem_take]
 exact this
theorem guard_ok (w : World) (S : ByteArray) (qe qn qb : Int) (L : List Spanned) (o : List Fil) (hl : LeftOk S L o qe qn qb) (hu : UpOk o) (hlen : L.length ≤ 1000000000) (holen : o.length ≤ 1000000000000) (hqb : qb ≤ 9223372036854775807) (hS : S.size ≤ 2147483648) (hord : Ord w) (h0 : 0 < w.heap.size)
  (HL : Hid (∀ W, Ord W → 0 < W.heap.size → Calls Tryz.prog 8 #[.string S, .agg #[.int .i64 qe, .int .i64 qn, .int .i64 qb]] W fun r w' => Touch (fun _ => False) W w' ∧ ∃ g cap, r = .returned (.tuple #[.slice (some ⟨g, 0, none⟩) L.length cap, .int .i64 0]) ∧ EntsAt w' g L))
  (HU : Hid (∀ W, Ord W → 0 < W.heap.size → Calls Tryz.prog 9 #[.string S, .agg #[.int .i64 qe, .int .i64 qn, .int .i64 qb]] W fun r w' => Touch (fun _ => False) W w' ∧ ∃ a cap g, r = .returned (.tuple #[.slice a o.length cap, .int .i64 0]) ∧ (0 < o.length → a = some ⟨g, 0, none⟩ ∧ FilesAt w' g o ∧ g < w'.heap.size ∧ o.length ≤ cap))) :
  Calls Tryz.prog 4 #[.string S, .agg #[.int .i64 qe, .int .i64 qn, .int .i64 qb]] w fun r w' => r = .returned (.bool true) ∧ Below w.heap.size w w' := by
 obtain ⟨n0, n1, n2⟩ := quota_new w (.int .i64 qe) (.int .i64 qn) (.int .i64 qb) 29
 have T0 := (Touch.refl (fun _ => False) w).alloc (Obj.cells #[.int .i64 qe, .int .i64 qn, .int .i64 qb] 29)
 have HO : Hid (∀ W, Touch (fun _ => False) w W → Ord W ∧ 0 < W.heap.size) := fun W t => ⟨hord.keep t (fun e => e), Nat.lt_of_lt_of_le h0 t.size⟩
 obtain ⟨n, hN⟩ : ∃ n, n = L.length := ⟨_, rfl⟩
 obtain ⟨m, hM⟩ : ∃ m, m = o.length := ⟨_, rfl⟩
 have HLO : Hid (LeftOk S L o qe qn qb) := hl
 have HUO : Hid (UpOk o) := hu
 have HN : Hid (n = L.length) := hN
 have HM : Hid (m = o.length) := hM
 have hn' : n ≤ 1000000000 := by omega
 have hm' : m ≤ 1000000000000 := by omega
 have HTO : Hid (∀ k, k < n → nmTo L (k + 1) ≤ 60000000000 ∧ szTo L (k + 1) ≤ 9223372036854775807) := fun k hk => by
  have h1 := nmTo_le L (fun i h => (hl.ent i h).2.2.2.2) (k + 1) (by omega)
  have h2 := szTo_le L (L.length - (k + 1)) (k + 1) (by omega)
  have h3 := (to_all L).2
  have h4 := hl.qb
  exact ⟨by omega, by omega⟩
 have HQ : Hid ((n : Int) ≤ qe ∧ (nmTo L n : Int) ≤ qn ∧ (szTo L n : Int) ≤ qb) := by
  have h3 := to_all L
  have h4 := hl.qb
  have h5 := hl.qn
  have h6 := hl.qe
  rw [hN, h3.1, h3.2]
  exact ⟨h6, h5, h4⟩
 rw [← hN] at HL
 rw [← hM] at HU
 clear hord h0 hl hu hlen holen hqb hN hM
 go_enter Tryz.func4, Tryz.ntmps4
 go_wp2_with fail
 refine (awake_c _ (HO.out _ T0).1 (HO.out _ T0).2).mono ?_
 rintro e w1 ⟨rfl, b1⟩
 have t1 := Touch.ofBelow b1 (fun _ => False)
 have T1 := T0.trans t1
 have m0 := t1.at n0 (fun e => e)
 have m1 := t1.at n1 (fun e => e)
 have m2 := t1.at n2 (fun e => e)
 clear n0 n1 n2 b1 t1 T0
 go_wp2_with fail
 refine (HL.out _ (HO.out _ T1).1 (HO.out _ T1).2).mono ?_
 rintro e w2 ⟨t2, g, lc, rfl, hE2⟩
 have T2 := T1.trans t2
 have l0 := t2.at m0 (fun e => e)
 have l1 := t2.at m1 (fun e => e)
 have l2 := t2.at m2 (fun e => e)
 clear m0 m1 m2 t2 T1
 go_wp2_with fail
 refine (HU.out _ (HO.out _ T2).1 (HO.out _ T2).2).mono ?_
 rintro e w3 ⟨t3, ua, uc, ug, rfl, hF3⟩
 have T3 := T2.trans t3
 have q0 := t3.at l0 (fun e => e)
 have q1 := t3.at l1 (fun e => e)
 have q2 := t3.at l2 (fun e => e)
 have HE : Hid (EntsAt w3 g L) := hE2.keep t3 (fun e => e)
 have HF : Hid (0 < o.length → ua = some ⟨ug, 0, none⟩ ∧ FilesAt w3 ug o ∧ ug < w3.heap.size ∧ o.length ≤ uc) := by unfold Hid; rw [← HM.out]; exact hF3
 have sz3 := T3.size
 have HT3 : Hid (Touch (fun _ => False) w w3) := T3
 clear l0 l1 l2 t3 T2 T3 HL HU hE2 hF3
 go_wp2
 go_loopw [10, 11, 12] (fun nm sz i wr => ∃ k a b : Nat, k ≤ n ∧ i = .int .i64 (k : Int) ∧ nm = .int .i64 (a : Int) ∧ sz = .int .i64 (b : Int) ∧ Hid (a = nmTo L k) ∧ Hid (b = szTo L k) ∧ Touch (fun _ => False) w3 wr) (fun _ _ i _ => n - (intOf i).toNat)
 case atStart => exact ⟨0, 0, 0, Nat.zero_le _, rfl, rfl, rfl, by unfold Hid; simp [nmTo, namesSum], by unfold Hid; simp [szTo, sizesSum], Touch.refl _ _⟩
 case round =>
  obtain ⟨k, a, b, hk, rfl, rfl, rfl, HA, HB, T⟩ := hrel
  obtain ⟨wo, hwo⟩ : ∃ wo, wo = wr := ⟨_, rfl⟩
  subst hwo
  by_cases hlt : k < n
  ·have hlt' : k < L.length := by have := HN.out; omega
   have glt := HE.out.lt
   have hC := (HE.out.keep T (fun e => e)).cells k hlt'
   have hle := HLO.out.ent k hlt'
   have hap : ∀ j, j < k → ∀ hj : j < L.length, ¬ (L[k].place < L[j].place + L[j].ent.packed ∧ L[j].place < L[k].place + L[k].ent.packed) := fun j hj hj' => HLO.out.apart j k hj' hlt' hj
   obtain ⟨d, hd1, hd2, hd3⟩ := HLO.out.told k hlt'
   have hto := to_succ L k hlt'
   have hbd := HTO.out k hlt
   rw [hto.1, hto.2, ← HA.out, ← HB.out] at hbd
   rw [← HA.out, ← HB.out] at hto
   obtain ⟨D, hD⟩ : ∃ D : ByteArray, D = ⟨d.toArray⟩ := ⟨_, rfl⟩
   have hDs : D.size = d.length := by rw [hD]; show d.toArray.size = _; simp
   have HFD : Hid (∀ W, Touch (fun _ => False) w3 W → Calls Tryz.prog 11 #[.slice ua (m : Int).toNat uc, .string L[k].ent.name] W fun r w' => r = .returned (.tuple #[.string D, .bool true]) ∧ W = w') := fun W t => by
    refine (find_c W ua ug uc (m : Int).toNat o L[k].ent.name (fun h => ⟨(HF.out h).1, filesAt_kept (HF.out h).2.1 t⟩) (by have := HM.out; omega) (by have := HM.out; omega)).mono ?_
    rintro r w' ⟨rfl, rfl⟩
    rw [hd1, hD]
    exact ⟨rfl, rfl⟩
   have HSM : Hid (∀ W, Calls Tryz.prog 13 #[.string D] W fun e w' => e = .returned (.int .u32 ((sumOf D : Nat) : Int)) ∧ Touch (fun _ => False) W w') := fun W => (sum_c W D (by have := hle.1.size; unfold maxLen; omega)).mono fun _ _ h => ⟨h.1, Touch.ofBelow h.2 _⟩
   have hfl := folder_last L[k].ent.name hle.2.2.2.1
   rw [← hD] at hd3
   rw [← hDs] at hd2
   rw [Int.toNat_natCast] at HFD
   clear hd1 hD hDs
   generalize sumOf D = SD at hd3 HSM
   generalize L[k] = x at hC hle hap hd2 hd3 hto hbd HFD hfl
   obtain ⟨⟨xn, xm, xsm, xpk, xsz, xah, xmk, xfl, xdk, xot, xth⟩, xpl, xst⟩ := x
   dsimp only at hC hle hap hd2 hd3 hto hbd HFD hfl
   subst hd2
   have c0 := hC 0 (by omega)
   have c1 := hC 1 (by omega)
   have c2 := hC 2 (by omega)
   have c3 := hC 3 (by omega)
   have c4 := hC 4 (by omega)
   have c5 := hC 5 (by omega)
   simp only [entL, List.getElem?_cons_zero, List.getElem?_cons_succ, Nat.add_zero] at c0 c1 c2 c3 c4 c5
   obtain ⟨⟨e1, e2, e3, e4, e5, e6, e7, e8, e9⟩, p30, pin, npos, n60⟩ := hle
   simp only at e1 e2 e3 e4 e5 e6 e7 e8 e9
   have glt' : g < wo.heap.size := Nat.lt_of_lt_of_le glt T.size
   have TX := T.alloc (Obj.cells #[.string xn, .int .i64 (xm : Int), .int .u32 (xsm : Int), .int .i64 (xpk : Int), .int .i64 (D.size : Int), .int .i64 (xpl : Int)] 44)
   have HX6 : Hid (∀ (j : Nat) (v : Value), [Value.string xn, .int .i64 (xm : Int), .int .u32 (xsm : Int), .int .i64 (xpk : Int), .int .i64 (D.size : Int), .int .i64 (xpl : Int)][j]? = some v → (wo.alloc (Obj.cells #[.string xn, .int .i64 (xm : Int), .int .u32 (xsm : Int), .int .i64 (xpk : Int), .int .i64 (D.size : Int), .int .i64 (xpl : Int)] 44)).cell? ⟨wo.heap.size, j, none⟩ = some v) := fun j v h => by
    rw [row_cell (heap_alloc_new wo _)]; simpa using h
   have d1 : decide ((xpl : Int) < 30) = false := decide_eq_false (by omega)
   have d1n : decide (xpl < 30) = false := decide_eq_false (by omega)
   have d2 : decide ((xpk : Int) < 0) = false := decide_eq_false (by omega)
   have d3 : decide ((S.size : Int) < (xpl : Int) + (xpk : Int)) = false := decide_eq_false (by omega)
   have d3n : decide (S.size < xpl + xpk) = false := decide_eq_false (by omega)
   have i1 : (k : Int) < (n : Int) := by omega
   have HAP : Hid (∀ j, j < k → ∀ hj : j < L.length, ¬ (xpl < L[j].place + L[j].ent.packed ∧ L[j].place < xpl + xpk)) := hap
   have HTO1 : Hid (nmTo L (k + 1) = a + xn.size ∧ szTo L (k + 1) = b + D.size) := hto
   have HFL : Hid (folderB xn = (((xn[xn.size - 1]'(by omega)).toNat : Int) == 47)) := hfl
   have HD3 : Hid (folderB xn = false → SD = xsm) := hd3
   obtain ⟨hb1, hb2⟩ := hbd
   clear hC hap hto hfl hd3
   go_wp2
   go_loopw [14] (fun j wi => ∃ q : Nat, q ≤ k ∧ j = .int .i64 (q : Int) ∧ Touch (fun _ => False) (wo.alloc (Obj.cells #[.string xn, .int .i64 (xm : Int), .int .u32 (xsm : Int), .int .i64 (xpk : Int), .int .i64 (D.size : Int), .int .i64 (xpl : Int)] 44)) wi) (fun j _ => k - (intOf j).toNat)
   case atStart => exact ⟨0, Nat.zero_le _, rfl, Touch.refl _ _⟩
   case round =>
    obtain ⟨q, hq, rfl, TI⟩ := hrel
    have x0 := TI.at (HX6.out 0 _ rfl) (fun e => e)
    have x2 := TI.at (HX6.out 2 _ rfl) (fun e => e)
    have x3 := TI.at (HX6.out 3 _ rfl) (fun e => e)
    have x4 := TI.at (HX6.out 4 _ rfl) (fun e => e)
    have x5 := TI.at (HX6.out 5 _ rfl) (fun e => e)
    have TW := TX.trans TI
    have xlt : wo.heap.size < wr.heap.size := World.block_lt_of_cell? wr _ x0
    have glt2 : g < wr.heap.size := Nat.lt_of_lt_of_le glt TW.size
    clear c0 c1 c2 c3 c4 c5
    by_cases hqk : q < k
    ·have hq' : q < L.length := by omega
     have hC := (HE.out.keep TW (fun e => e)).cells q hq'
     have hle := HLO.out.ent q hq'
     have hna := HAP.out q hqk hq'
     generalize L[q] = y at hC hle hna
     obtain ⟨⟨yn, ym, ysm, ypk, ysz, yah, ymk, yfl, ydk, yot, yth⟩, ypl, yst⟩ := y
     dsimp only at hC hle hna
     have y0 := hC 0 (by omega)
     have y1 := hC 1 (by omega)
     have y2 := hC 2 (by omega)
     have y3 := hC 3 (by omega)
     have y4 := hC 4 (by omega)
     have y5 := hC 5 (by omega)
     simp only [entL, List.getElem?_cons_zero, List.getElem?_cons_succ, Nat.add_zero] at y0 y1 y2 y3 y4 y5
     obtain ⟨⟨f1, f2, f3, f4, f5, f6, f7, f8, f9⟩, yp30, ypin, ynpos, yn60⟩ := hle
     simp only at f1 f2 f3 f4 f5 f6 f7 f8 f9
     have j1 : (q : Int) < (k : Int) := by omega
     have j2 : (q : Int) < (n : Int) := by omega
     by_cases t1 : xpl < ypl + ypk
     ·have t2 : ¬ ypl < xpl + xpk := fun h => hna ⟨t1, h⟩
      have b1 : decide ((xpl : Int) < (ypl : Int) + (ypk : Int)) = true := decide_eq_true (by omega)
      have b1n : decide (xpl < ypl + ypk) = true := decide_eq_true t1
      have b2 : decide ((ypl : Int) < (xpl : Int) + (xpk : Int)) = false := decide_eq_false (by omega)
      have b2n : decide (ypl < xpl + xpk) = false := decide_eq_false t2
      clear hna hC
      go_wp2
      exact ⟨⟨q + 1, by omega, by go_num, TI.alloc _⟩, by simp [intOf]; omega⟩
     ·have b1 : decide ((xpl : Int) < (ypl : Int) + (ypk : Int)) = false := decide_eq_false (by omega)
      have b1n : decide (xpl < ypl + ypk) = false := decide_eq_false t1
      clear hna hC
      go_wp2
      exact ⟨⟨q + 1, by omega, by go_num, TI.alloc _⟩, by simp [intOf]; omega⟩
    ·obtain rfl : k = q := by omega
     have j1 : ¬ (k : Int) < (k : Int) := by omega
     have s1 : xn.toList.isEmpty = false := by
      rw [ByteArray.toList_eq]
      have hl : xn.data.toList.length = xn.size := Array.length_toList
      cases hx : xn.data.toList with
      | nil => rw [hx] at hl; simp at hl; omega
      | cons c t => rfl
     have s2 : (xn.toList == []) = false := by
      rw [beq_eq_false_iff_ne]; intro h; rw [h] at s1; cases s1
     have z1 : (0 : Int) ≤ (xn.size : Int) - 1 := by omega
     have z2 : (xn.size : Int) - 1 < (xn.size : Int) := by omega
     have z3 : ((xn.size : Int) - 1).toNat = xn.size - 1 := by omega
     have z4 : xn.size - 1 < xn.size := by omega
     have z5 : ((D.size : Int) != (D.size : Int)) = false := by simp
     have HREL : Hid (k + 1 ≤ n ∧ a + xn.size = nmTo L (k + 1) ∧ b + D.size = szTo L (k + 1)) := ⟨by omega, HTO1.out.1.symm, HTO1.out.2.symm⟩
     clear HTO1 HAP
     go_wp2_with fail
     refine (HFD.out _ TW).mono ?_
     rintro e wf ⟨rfl, rfl⟩
     go_wp2_with fail
     refine (HSM.out _).mono ?_
     rintro e ws ⟨rfl, ts⟩
     have v0 := ts.at x0 (fun e => e)
     have v2 := ts.at x2 (fun e => e)
     have v4 := ts.at x4 (fun e => e)
     have TS := TW.trans ts
     clear x0 x2 x3 x4 x5
     by_cases hf : folderB xn = true
     ·have g1 : ((xn[xn.size - 1]'z4).toNat : Int) = 47 := by
       have := HFL.out
       rw [hf] at this
       exact eq_of_beq this.symm
      have g2 : (((xn[xn.size - 1]'z4).toNat : Int) != 47) = false := by rw [g1]; rfl
      clear HFL HD3 hf
      go_wp2
      exact ⟨⟨k + 1, a + xn.size, b + D.size, HREL.out.1, by go_num, by go_num, by go_num, HREL.out.2.1, HREL.out.2.2, TS⟩, by simp [intOf]; omega⟩
     ·have hf' : folderB xn = false := by simpa using hf
      have g1 : ¬ ((xn[xn.size - 1]'z4).toNat : Int) = 47 := by
       have := HFL.out
       rw [hf'] at this
       intro h
       rw [h] at this
       cases this
      have g2 : (((xn[xn.size - 1]'z4).toNat : Int) != 47) = true := by simpa using g1
      obtain rfl : SD = xsm := HD3.out hf'
      have g3 : ((SD : Int) != (SD : Int)) = false := by simp
      clear HFL HD3 hf hf'
      go_wp2
      exact ⟨⟨k + 1, a + xn.size, b + D.size, HREL.out.1, by go_num, by go_num, by go_num, HREL.out.2.1, HREL.out.2.2, TS⟩, by simp [intOf]; omega⟩
  ·obtain rfl : n = k := by omega
   have i1 : ¬ (n : Int) < (n : Int) := by omega
   obtain ⟨k1, k2, k3⟩ := HQ.out
   rw [← HA.out] at k2
   rw [← HB.out] at k3
   have r0 := T.at q0 (fun e => e)
   have r1 := T.at q1 (fun e => e)
   have r2 := T.at q2 (fun e => e)
   have d1 : decide (qe < (n : Int)) = false := decide_eq_false (by omega)
   have d2 : decide (qn < (a : Int)) = false := decide_eq_false (by omega)
   have d3 : decide (qb < (b : Int)) = false := decide_eq_false (by omega)
   clear HQ HA HB HE HLO HTO HN q0 q1 q2
   go_wp2
   go_loopw [5, 19] (fun up i wr2 => ∃ j : Nat, j ≤ m ∧ up = .bool true ∧ i = .int .i64 (j : Int) ∧ Touch (fun _ => False) w3 wr2) (fun _ i _ => m - (intOf i).toNat)
   case atStart => exact ⟨0, Nat.zero_le _, rfl, rfl, T⟩
   case round =>
    obtain ⟨j, hj, rfl, rfl, TJ⟩ := hrel
    obtain ⟨wj, hwj⟩ : ∃ wj, wj = wr := ⟨_, rfl⟩
    subst hwj
    clear r0 r1 r2 T
    by_cases hjm : j < m
    ·have hj' : j < o.length := by have := HM.out; omega
     obtain ⟨rfl, hF, hug, huc⟩ := HF.out (by omega)
     have huc' : j ≤ uc := by omega
     have huc2 : (j : Int) ≤ (uc : Int) := by omega
     obtain ⟨u1, u2⟩ := HUO.out.small j hj'
     have hFJ := filesAt_kept hF TJ
     have f0 := (hFJ j hj').1
     have hug' : ug < wj.heap.size := Nat.lt_of_lt_of_le hug TJ.size
     have HP : Hid (∀ W, Calls Tryz.prog 14 #[.string o[j].1] W fun r w' => r = .returned (.bool true) ∧ W = w') := fun W => (proper_c W o[j].1 (HUO.out.parts j hj') (by omega)).mono fun _ _ h => ⟨h.1, h.2.symm⟩
     have HUP : Hid (∀ c (hc : c + 1 < o[j].1.size) (hcl : c < o[j].1.size), o[j].1[c]'hcl = 47 → ∃ v, ∀ W, Touch (fun _ => False) w3 W → Calls Tryz.prog 11 #[.slice (some ⟨ug, 0, none⟩) j uc, .string (o[j].1.extract 0 (c + 1))] W fun r w' => r = .returned (.tuple #[.string v, .bool true]) ∧ w' = W) := fun c hc hcl h47 => by
      obtain ⟨d, hd⟩ := HUO.out.up j hj' c hc h47
      refine ⟨⟨d.toArray⟩, fun W t => (find_c W _ ug uc j (o.take j) _ (fun h => ⟨rfl, filesAt_take (filesAt_kept hF t) j⟩) (by rw [List.length_take]; omega) (by rw [List.length_take]; have := HM.out; omega)).mono ?_⟩
      rintro r w' ⟨rfl, rfl⟩
      rw [hd]
      exact ⟨rfl, rfl⟩
     have HAH : Hid (∀ (h : 0 < j), ∃ pv : ByteArray, (∀ W, Touch (fun _ => False) w3 W → W.cell? ⟨ug, (j - 1) * 2, none⟩ = some (.string pv)) ∧ ∀ W, Calls Tryz.prog 12 #[.string pv, .string o[j].1] W fun r w' => r = .returned (.bool true) ∧ ∃ z, w' = W.drewN z) := fun h => by
      have hp : j - 1 < o.length := by omega
      refine ⟨o[j - 1].1, fun W t => (filesAt_kept hF t (j - 1) hp).1, fun W => ?_⟩
      obtain ⟨v1, v2⟩ := HUO.out.small (j - 1) hp
      have hs := HUO.out.srt (j - 1) (by omega)
      simp only [show j - 1 + 1 = j by omega] at hs
      refine (kahead_c W o[j - 1].1 o[j].1 v1 u1 (by omega) (by omega)).mono ?_
      rintro r w' ⟨rfl, z, rfl⟩
      rw [decide_eq_true hs]
      exact ⟨rfl, z, rfl⟩
     have HFJ : Hid (∀ W, Touch (fun _ => False) w3 W → W.cell? ⟨ug, j * 2, none⟩ = some (.string o[j].1)) := fun W t => (filesAt_kept hF t j hj').1
     clear hF hFJ u1
     revert f0 u2 HP HUP HAH HFJ
     generalize o[j].1 = p
     intro u2 f0 HP HUP HAH HFJ
     have i2 : (j : Int) < (m : Int) := by omega
     go_wp2_with fail
     refine (HP.out _).mono ?_
     rintro e wf ⟨rfl, rfl⟩
     go_wp2
     go_loopw [22] (fun c wc => ∃ z : Nat, z ≤ p.size ∧ c = .int .i64 (z : Int) ∧ Touch (fun _ => False) w3 wc) (fun c _ => p.size - (intOf c).toNat)
     case atStart => exact ⟨0, Nat.zero_le _, rfl, TJ⟩
     case round =>
      obtain ⟨z, hz, rfl, TZ⟩ := hrel
      obtain ⟨wc, hwc⟩ : ∃ wc, wc = wr := ⟨_, rfl⟩
      subst hwc
      clear f0
      by_cases hzp : z + 1 < p.size
      ·have j1 : (z : Int) + 1 < (p.size : Int) := by omega
       have j2 : (z : Int) < (p.size : Int) := by omega
       have j3 : z < p.size := by omega
       by_cases h47 : p[z] = 47
       ·have g1 : (p[z].toNat : Int) = 47 := by rw [h47]; rfl
        have g2 : ((p[z].toNat : Int) == 47) = true := by rw [g1]; rfl
        obtain ⟨v, hv⟩ := HUP.out z hzp (by omega) h47
        have HV : Hid (∀ W, Touch (fun _ => False) w3 W → Calls Tryz.prog 11 #[.slice (some ⟨ug, 0, none⟩) j uc, .string (p.extract 0 (z + 1))] W fun r w' => r = .returned (.tuple #[.string v, .bool true]) ∧ w' = W) := hv
        clear hv
        go_wp2
        go_quiet (first | (go_at_call 11; refine Calls.quiet_of_same (HV.out _ (TZ.drewN _))))
        go_wp2
        exact ⟨⟨z + 1, by omega, by go_num, TZ.drewN _⟩, by simp [intOf]; omega⟩
       ·have g1 : ¬ (p[z].toNat : Int) = 47 := fun e => h47 (UInt8.toNat_inj.1 (by simpa using (by omega : p[z].toNat = 47)))
        have g2 : ((p[z].toNat : Int) == 47) = false := by simpa using g1
        go_wp2
        exact ⟨⟨z + 1, by omega, by go_num, TZ⟩, by simp [intOf]; omega⟩
      ·have j1 : ¬ (z : Int) + 1 < (p.size : Int) := by omega
       by_cases h0j : 0 < j
       ·obtain ⟨pv, hpv, hah⟩ := HAH.out h0j
        have b0 := hpv wc TZ
        have b1 := HFJ.out wc TZ
        have HAH2 : Hid (∀ W, Calls Tryz.prog 12 #[.string pv, .string p] W fun r w' => r = .returned (.bool true) ∧ ∃ z, w' = W.drewN z) := hah
        obtain ⟨jj, rfl⟩ : ∃ jj, j = jj + 1 := ⟨j - 1, by omega⟩
        rw [Nat.add_sub_cancel] at b0
        clear hpv hah HAH HFJ HUP HP
        have k4 : (0 : Int) < (jj : Int) + 1 := by omega
        have k7 : (jj : Int) < (m : Int) := by omega
        have k8 : (jj : Int) + 1 < (m : Int) := by omega
        have k9 : IntKind.i64.wrap (jj : Int) = (jj : Int) := by simp [IntKind.wrap, IntKind.bits, IntKind.signed]; omega
        have k10 : (0 : Int) ≤ (jj : Int) := by omega
        have k11 : jj < m := by omega
        have k12 : jj + 1 < m := by omega
        have k14 : (0 : Int) ≤ (jj : Int) + 1 := by omega
        have k15 : ((jj : Int) + 1).toNat = jj + 1 := by omega
        have k13 : IntKind.i64.wrap ((jj : Int) + 1) = (jj : Int) + 1 := by simp [IntKind.wrap, IntKind.bits, IntKind.signed]; omega
        go_wp2
        go_quiet (first | (go_at_call 12; refine quiet_draw (HAH2.out _)))
        go_wp2
        exact ⟨⟨jj + 1 + 1, by omega, rfl, by go_num, TZ.drewN _⟩, by simp [intOf]; omega⟩
       ·obtain rfl : j = 0 := by omega
        go_wp2
        exact ⟨⟨1, by omega, rfl, by go_num, TZ⟩, by simp [intOf]; omega⟩
    ·obtain rfl : m = j := by omega
     have i2 : ¬ (m : Int) < (m : Int) := by omega
     go_wp2
     go_ret
     exact ⟨rfl, (HT3.out.trans TJ).toBelow (Nat.le_refl _) (fun _ _ e => e)⟩
theorem foldIn_len (nm : List UInt8) : ∀ (f i : Nat) (acc : List (List UInt8)), (foldIn nm f i acc).length ≤ acc.length + f
 | 0, _, acc => by simp [foldIn]
 | f + 1, i, acc => by
  have h := foldIn_len nm f (i + 1) (if nm[i]? = some 47 ∧ acc.contains (nm.take (i + 1)) = false then acc ++ [nm.take (i + 1)] else acc)
  unfold foldIn
  split at h
  ·rename_i hc
   rw [if_pos hc]
   simp only [List.length_append, List.length_singleton] at h
   omega
  ·rename_i hc
   rw [if_neg hc]; omega
theorem foldAll_len : ∀ (L : List Spanned) (acc : List (List UInt8)), (∀ x ∈ L, x.ent.name.size ≤ 60) → (foldAll L acc).length ≤ acc.length + 60 * L.length
 | [], acc, _ => by simp [foldAll]
 | x :: L, acc, h => by
  have h1 := foldIn_len x.ent.name.data.toList x.ent.name.size 0 acc
  have h2 := foldAll_len L (foldIn x.ent.name.data.toList x.ent.name.size 0 acc) (fun y hy => h y (List.mem_cons_of_mem _ hy))
  have h3 := h x (List.mem_cons_self ..)
  unfold foldAll
  rw [List.length_cons]
  omega
theorem guarded_c (w : World) (S : ByteArray) (qe qn qb : Int) (hqe : -9223372036854775808 ≤ qe ∧ qe ≤ 9223372036854775807) (hqn : -9223372036854775808 ≤ qn ∧ qn ≤ 9223372036854775807) (hqb : -9223372036854775808 ≤ qb ∧ qb ≤ 9223372036854775807) (hS : S.size ≤ 1048576) (hord : Ord w) (h0 : 0 < w.heap.size) :
  Calls Tryz.prog 4 #[.string S, .agg #[.int .i64 qe, .int .i64 qn, .int .i64 qb]] w fun r w' => r = .returned (.bool true) ∧ Below w.heap.size w w' := by
 cases hR : listOf S qe qn qb with
 | error k =>
  refine guard_err w S qe qn qb k k 0 (.inr ⟨listOf_err S qe qn qb k hR, rfl, rfl⟩) hord h0 (fun W h1 h2 => ?_) (fun W h1 h2 => ?_)
  ·refine (list_c W S qe qn qb hqn hqb (by omega)).mono ?_
   rintro r w' ⟨t, hp⟩
   rw [hR] at hp
   exact ⟨t, _, _, hp.1⟩
  ·refine (unpack_c W S qe qn qb hqn hqb (by omega) h1 h2).mono ?_
   rintro r w' ⟨t, hp⟩
   rw [hR] at hp
   exact ⟨t, hp⟩
 | ok L =>
  have hok := listOf_ok S qe qn qb L hR (by omega)
  obtain ⟨heach, hcl⟩ := listOf_each S qe qn qb L hR
  cases hfg : filesGo S L [] with
  | inl k =>
   have hkp := filesGo_err S L [] k hfg
   refine guard_err w S qe qn qb 0 k L.length (.inl ⟨rfl, hkp⟩) hord h0 (fun W h1 h2 => ?_) (fun W h1 h2 => ?_)
   ·refine (list_c W S qe qn qb hqn hqb (by omega)).mono ?_
    rintro r w' ⟨t, hp⟩
    rw [hR] at hp
    obtain ⟨g, cap, e, ho⟩ := hp
    exact ⟨t, _, _, e⟩
   ·refine (unpack_c W S qe qn qb hqn hqb (by omega) h1 h2).mono ?_
    rintro r w' ⟨t, hp⟩
    rw [hR] at hp
    unfold unpackPost at hp
    simp only at hp
    rw [hfg] at hp
    exact ⟨t, hp⟩
  | inr fs =>
   have hex : ∃ o, ToldOk S L o ∧ o.length ≤ 1000000000000 ∧ ∀ d : List Fil, d.Perm (fs ++ (foldAll L []).map folOf) → d.Pairwise (fun a b => cmpP a.1.data.toList b.1.data.toList ≤ 0) → d = o := by
    have hn : ∀ x ∈ L, nameOk x.ent.name = true := fun x hx => faultOf_name _ (heach x hx).2
    have hall := refGo_all S L hn hcl
    rw [hfg] at hall
    obtain ⟨o, ho, hO⟩ := (show ∃ o, refGo S L [] = .inr o ∧ _ from hall)
    have hin : OutIs L fs (foldAll L []) o := by
     have h0 : OutIs L [] [] [] := ⟨List.Perm.refl _, List.Pairwise.nil, fun f hf => (by cases hf), fun f hf => (by cases hf)⟩
     have h1 := refGo_eq S (allp_ord hn hcl) hcl L [] [] [] [] rfl h0 (fun f hf => by cases hf)
     rw [hfg] at h1
     obtain ⟨o', ho', hO'⟩ := (show ∃ o, refGo S L [] = .inr o ∧ OutIs L fs (foldAll L []) o from h1)
     rw [ho] at ho'
     cases ho'
     exact hO'
    have hT := told_ok S qe qn qb L hR (by omega) fs hfg o hin.perm (hin.srt.imp fun h => by omega)
    refine ⟨o, hT, ?_, fun d h1 h2 => sorted_one o d (h1.trans hin.perm.symm) hin.srt h2⟩
    have e1 := hin.perm.length_eq
    have e2 := (filesGo_mem S L [] fs hfg).1
    have e3 := foldAll_len L [] (fun x hx => (hok.2.2 x hx).2)
    rw [List.length_append, List.length_map] at e1
    simp only [List.length_nil] at e2 e3
    have := hok.1
    omega
   obtain ⟨o, hT, holen, huniq⟩ := hex
   refine guard_ok w S qe qn qb L o (left_ok S qe qn qb L hR (by omega) hT) (up_ok hT (fun x hx => faultOf_name _ (heach x hx).2) hok.2.2) hok.1 holen hqb.2 (by omega) hord h0 (fun W h1 h2 => ?_) (fun W h1 h2 => ?_)
   ·refine (list_c W S qe qn qb hqn hqb (by omega)).mono ?_
    rintro r w' ⟨t, hp⟩
    rw [hR] at hp
    obtain ⟨g, cap, e, ho⟩ := hp
    exact ⟨t, g, cap, e, EntsAt.owned ho⟩
   ·refine (unpack_c W S qe qn qb hqn hqb (by omega) h1 h2).mono ?_
    rintro r w' ⟨t, hp⟩
    rw [hR] at hp
    unfold unpackPost at hp
    simp only at hp
    rw [hfg] at hp
    obtain ⟨v, d, e, hperm, hsort, a, cap, hv, hown, hat⟩ := hp
    obtain rfl := huniq d hperm hsort
    rw [hv] at e
    by_cases hd : 0 < d.length
    ·obtain ⟨g, _, q2, q3, q4⟩ := hat hd
     refine ⟨t, a, cap, g, e, fun _ => ⟨q3, q4, q2, ?_⟩⟩
     rw [hv] at hown
     obtain ⟨_, ⟨h2, h3⟩ | ⟨g', cap', cur, e', hb, hg, h3, h4, h5, h6⟩⟩ := hown
     ·omega
     ·cases e'; exact h3
    ·exact ⟨t, a, cap, 0, e, fun h => absurd h hd⟩
end Go.Proofs.YtnmkmmgaoplfiaaGreatDoor
