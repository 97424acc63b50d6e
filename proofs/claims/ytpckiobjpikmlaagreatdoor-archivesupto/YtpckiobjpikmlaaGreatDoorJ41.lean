/- Texts of this seat, joined. -/
import Derived.Test.YtpckiobjpikmlaaGreatDoorJ01
set_option linter.unusedSimpArgs false
set_option linter.unusedVariables false
set_option maxHeartbeats 20000000
namespace Go.Proofs.YtpckiobjpikmlaaGreatDoor
def codesAt (L : List Nat) : Nat → List (Nat × Nat × Nat)
 | 0 => []
 | n + 1 => codesAt L n ++ (List.range (cnt L n)).map (fun r => (nth L n r, n, firstOf L n + r))
def codesTo (L : List Nat) (n i : Nat) : List (Nat × Nat × Nat) := codesAt L n ++ (List.range ((L.take i).count n)).map (fun r => (nth L n r, n, firstOf L n + r))
theorem codesAt_len (L : List Nat) (n : Nat) : (codesAt L n).length = placeOf L n := by
 induction n with
 | zero => rfl
 | succ n ih => simp [codesAt, placeOf, ih]
theorem codesTo_len (L : List Nat) (n i : Nat) : (codesTo L n i).length = placeOf L n + (L.take i).count n := by simp [codesTo, codesAt_len]
theorem codesTo_zero (L : List Nat) (n : Nat) : codesTo L n 0 = codesAt L n := by simp [codesTo]
theorem codesTo_end (L : List Nat) (n : Nat) (h : 1 ≤ n) : codesTo L n L.length = codesAt L (n + 1) := by
 simp only [codesTo, codesAt, List.take_length]; unfold cnt; rw [if_neg (by omega)]
theorem codesTo_ne (L : List Nat) (n i : Nat) (h : i < L.length) (hn : L[i] ≠ n) : codesTo L n (i + 1) = codesTo L n i := by
 have : (L.take (i + 1)).count n = (L.take i).count n := by
  rw [List.take_succ_eq_append_getElem h, List.count_append, List.count_singleton]; simp [hn]
 simp only [codesTo, this]
theorem count_eq (L : List Nat) (n i : Nat) (h : i < L.length) (hn : L[i] = n) : (L.take (i + 1)).count n = (L.take i).count n + 1 := by
 rw [List.take_succ_eq_append_getElem h, List.count_append, hn]; simp
theorem count_ne (L : List Nat) (n i : Nat) (h : i < L.length) (hn : L[i] ≠ n) : (L.take (i + 1)).count n = (L.take i).count n := by
 rw [List.take_succ_eq_append_getElem h, List.count_append, List.count_singleton]; simp [hn]
theorem codesTo_eq (L : List Nat) (n i : Nat) (h : i < L.length) (hn : L[i] = n) : codesTo L n (i + 1) = codesTo L n i ++ [(i, n, firstOf L n + (L.take i).count n)] := by
 simp only [codesTo, count_eq L n i h hn, List.range_succ, List.map_append, List.map_cons, List.map_nil, List.append_assoc]
 rw [nth_at L n i h hn]
theorem codesAt_mem (L : List Nat) (n a m y : Nat) : (a, m, y) ∈ codesAt L n ↔ m < n ∧ ∃ r, r < cnt L m ∧ a = nth L m r ∧ y = firstOf L m + r := by
 induction n with
 | zero => simp [codesAt]
 | succ n ih =>
  simp only [codesAt, List.mem_append, ih, List.mem_map, List.mem_range, Prod.mk.injEq]
  constructor
  ·rintro (⟨h1, h2⟩ | ⟨r, h1, rfl, rfl, rfl⟩)
   ·exact ⟨by omega, h2⟩
   ·exact ⟨by omega, r, h1, rfl, rfl⟩
  ·rintro ⟨h1, r, h2, rfl, rfl⟩
   by_cases e : m = n
   ·subst e; exact Or.inr ⟨r, h2, rfl, rfl, rfl⟩
   ·exact Or.inl ⟨by omega, r, h2, rfl, rfl⟩
theorem freeOf_first (L : List Nat) (n : Nat) : freeOf L n = ((2 ^ n : Nat) : Int) - ((firstOf L n + cnt L n : Nat) : Int) := by
 induction n with
 | zero => simp [freeOf, firstOf, cnt]
 | succ n ih =>
  simp only [freeOf, firstOf, ih, Nat.pow_succ]
  generalize 2 ^ n = x
  omega
theorem free_neg (L : List Nat) (n : Nat) (h : freeOf L n < 0) : ∀ k, freeOf L (n + k) < 0
 | 0 => h
 | k + 1 => by
  have := free_neg L n h k
  rw [show n + (k + 1) = (n + k) + 1 by omega]
  simp only [freeOf]; omega
theorem cnt_two (L : List Nat) (m n : Nat) (h : m < n) (hn : n < 16) : cnt L m + cnt L n ≤ placeOf L 16 := by
 have h1 := placeOf_mono L (show m + 1 ≤ n by omega)
 have h2 := placeOf_mono L (show n + 1 ≤ 16 by omega)
 simp only [placeOf] at h1 h2 ⊢; omega
theorem cnt_one (L : List Nat) (m : Nat) (h : m < 16) : cnt L m ≤ placeOf L 16 := by
 have h2 := placeOf_mono L (show m + 1 ≤ 16 by omega)
 simp only [placeOf] at h2 ⊢; omega
theorem first_none (L : List Nat) (n : Nat) (h : placeOf L n = 0) : firstOf L n = 0 := by
 induction n with
 | zero => rfl
 | succ n ih =>
  simp only [placeOf] at h
  simp only [firstOf, ih (by omega)]; omega
def okOf (L : List Nat) (few : Bool) : Bool := freeOf L 15 == 0 || (few && (placeOf L 16 == 0 || (placeOf L 16 == 1 && cnt L 1 == 1)))
def CInv (L : List Nat) (n i x u : Nat) : Prop :=
 (codesTo L n i).length = 0 ∧ x = 0 ∧ u = 0 ∨ 1 ≤ (codesTo L n i).length ∧ 1 ≤ u ∧ u ≤ n ∧ u ≤ 15 ∧ 1 ≤ cnt L u ∧ x < 2 ^ u ∧ (x + 1) * 2 ^ (n - u) = firstOf L n + (L.take i).count n
theorem CInv.start (L : List Nat) : CInv L 1 0 0 0 := by
 left; rw [codesTo_len]; simp [placeOf, cnt]
theorem CInv.ne {L : List Nat} {n i x u : Nat} (hc : CInv L n i x u) (h : i < L.length) (hn : L[i] ≠ n) : CInv L n (i + 1) x u := by
 unfold CInv at *; rw [codesTo_ne L n i h hn, count_ne L n i h hn]; exact hc
theorem CInv.empty {L : List Nat} {n i x u : Nat} (hc : CInv L n i x u) (h0 : (codesTo L n i).length = 0) : x = 0 ∧ u = 0 ∧ firstOf L n + (L.take i).count n = 0 := by
 rcases hc with ⟨_, h1, h2⟩ | ⟨h1, _⟩
 ·rw [codesTo_len] at h0
  exact ⟨h1, h2, by rw [first_none L n (by omega)]; omega⟩
 ·omega
theorem CInv.more {L : List Nat} {n i x u : Nat} (hc : CInv L n i x u) (h0 : (codesTo L n i).length ≠ 0) : 1 ≤ u ∧ u ≤ n ∧ u ≤ 15 ∧ x < 2 ^ u ∧ (x + 1) * 2 ^ (n - u) = firstOf L n + (L.take i).count n := by
 rcases hc with ⟨h1, _⟩ | ⟨_, h1, h2, h3, _, h5, h6⟩
 ·omega
 ·exact ⟨h1, h2, h3, h5, h6⟩
theorem cnt_pos {L : List Nat} {n i : Nat} (h : i < L.length) (hn : L[i] = n) (h1 : 1 ≤ n) : (L.take i).count n + 1 ≤ cnt L n := by
 have h2 := count_eq L n i h hn
 have h3 : (L.take (i + 1)).count n ≤ L.count n := (List.take_sublist _ _).count_le n
 unfold cnt; rw [if_neg (by omega)]; omega
theorem CInv.eq {L : List Nat} {n i : Nat} (h : i < L.length) (hn : L[i] = n) (h1 : 1 ≤ n) (h15 : n ≤ 15) (hlt : firstOf L n + (L.take i).count n < 2 ^ n) : CInv L n (i + 1) (firstOf L n + (L.take i).count n) n := by
 right
 have := cnt_pos h hn h1
 refine ⟨by rw [codesTo_eq L n i h hn]; simp, h1, Nat.le_refl _, h15, by omega, hlt, by rw [count_eq L n i h hn]; simp; omega⟩
theorem CInv.step {L : List Nat} {n x u : Nat} (h1 : 1 ≤ n) (hc : CInv L n L.length x u) : CInv L (n + 1) 0 x u := by
 have hl : (codesTo L (n + 1) 0).length = (codesTo L n L.length).length := by rw [codesTo_zero, codesTo_end L n h1]
 rcases hc with ⟨a, b, c⟩ | ⟨a, b, c, c15, d, e, f⟩
 ·left; exact ⟨by omega, b, c⟩
 ·right
  refine ⟨by omega, b, by omega, c15, d, e, ?_⟩
  have : (L.take L.length).count n = cnt L n := by rw [List.take_length]; unfold cnt; rw [if_neg (by omega)]
  rw [this] at f
  rw [show n + 1 - u = (n - u) + 1 by omega, Nat.pow_succ, ← Nat.mul_assoc, f]
  simp only [firstOf, List.take_zero, List.count_nil]; omega
theorem ok_over {L : List Nat} {n i : Nat} (h : i < L.length) (hn : L[i] = n) (h1 : 1 ≤ n) (h15 : n ≤ 15) (hge : 2 ^ n ≤ firstOf L n + (L.take i).count n) (few : Bool) : okOf L few = false := by
 have hp := cnt_pos h hn h1
 have hf : freeOf L n < 0 := by rw [freeOf_first]; omega
 have h2 := free_neg L n hf (15 - n)
 rw [show n + (15 - n) = 15 by omega] at h2
 have h3 := cnt_one L n (by omega)
 have h4 : ¬ (placeOf L 16 = 1 ∧ cnt L 1 = 1) := by
  rintro ⟨h5, h6⟩
  by_cases e : n = 1
  ·subst e
   have : firstOf L 1 = 0 := by simp [firstOf, cnt]
   rw [this] at hge; omega
  ·have := cnt_two L 1 n (by omega) (by omega); omega
 unfold okOf
 have e1 : (freeOf L 15 == 0) = false := by simp; omega
 have e2 : (placeOf L 16 == 0) = false := by simp; omega
 have e3 : (placeOf L 16 == 1 && cnt L 1 == 1) = false := by
  rw [Bool.and_eq_false_iff]; simp only [beq_eq_false_iff_ne]
  by_cases h5 : placeOf L 16 = 1
  ·exact Or.inr (fun h6 => h4 ⟨h5, h6⟩)
  ·exact Or.inl h5
 rw [e1, e2, e3]; simp
theorem ok_none {L : List Nat} (h : placeOf L 16 = 0) (few : Bool) : okOf L few = few := by
 have h0 := first_none L 16 h
 have e1 : (freeOf L 15 == 0) = false := by
  simp only [beq_eq_false_iff_ne]; rw [freeOf_first]
  have : firstOf L 15 + cnt L 15 = 0 := by simp only [firstOf] at h0 ⊢; omega
  rw [this]; decide
 unfold okOf; rw [e1, h]; simp
theorem ok_some {L : List Nat} {x u : Nat} (hc : CInv L 16 0 x u) (h : (codesTo L 16 0).length ≠ 0) (few : Bool) : okOf L few = (x + 1 == 2 ^ u || (few && (placeOf L 16 == 1 && u == 1))) := by
 rcases hc with ⟨h1, _⟩ | ⟨_, h1, h2, h3, h4, h5, h6⟩
 ·omega
 rw [codesTo_len] at h
 simp only [List.take_zero, List.count_nil] at h h6
 have e0 : (placeOf L 16 == 0) = false := by simp; omega
 have e1 : (freeOf L 15 == 0) = (x + 1 == 2 ^ u) := by
  rw [Bool.eq_iff_iff, beq_iff_eq, beq_iff_eq, freeOf_first]
  have hp : (2 : Nat) ^ u * 2 ^ (16 - u) = 2 ^ 16 := by rw [← Nat.pow_add]; congr 1; omega
  have hq : 0 < (2 : Nat) ^ (16 - u) := Nat.two_pow_pos _
  have hr : firstOf L 16 = 2 * (firstOf L 15 + cnt L 15) := rfl
  constructor
  ·intro e
   have : (x + 1) * 2 ^ (16 - u) = 2 ^ u * 2 ^ (16 - u) := by rw [h6, hp, hr]; omega
   exact Nat.eq_of_mul_eq_mul_right hq this
  ·intro e
   rw [e, hp, hr] at h6; omega
 have e2 : (placeOf L 16 == 1 && cnt L 1 == 1) = (placeOf L 16 == 1 && u == 1) := by
  rw [Bool.eq_iff_iff]; simp only [Bool.and_eq_true, beq_iff_eq]
  constructor
  ·rintro ⟨a, b⟩
   refine ⟨a, ?_⟩
   by_cases e : u = 1
   ·exact e
   ·have := cnt_two L 1 u (by omega) (by omega); omega
  ·rintro ⟨a, b⟩
   subst b
   have := cnt_one L 1 (by omega)
   exact ⟨a, by omega⟩
 unfold okOf; rw [e0, e1, e2]; simp
theorem fine_ok (L D : List Nat) : (freeOf L 15 == 0 && (placeOf D 16 == 0 || (placeOf D 16 == 1 && cnt D 1 == 1) || freeOf D 15 == 0)) = (okOf L false && okOf D true) := by
 unfold okOf; simp [Bool.or_comm, Bool.or_assoc, Bool.or_left_comm]
end Go.Proofs.YtpckiobjpikmlaaGreatDoor
