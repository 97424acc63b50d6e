/- Texts of this seat, joined. -/
import Derived.Test.YtnmkmmgaoplfiaaGreatDoorJ01
set_option linter.unusedSimpArgs false
set_option linter.unusedVariables false
set_option maxHeartbeats 20000000
namespace Go.Proofs.YtnmkmmgaoplfiaaGreatDoor
def codesAt (L : List Nat) : Nat → List (Nat × Nat × Nat)
 | 0 => []
 | n + 1 => codesAt L n ++ (List.range (cnt L n)).map (fun r => (nth L n r, n, firstOf L n + r))
def codesTo (L : List Nat) (n i : Nat) : List (Nat × Nat × Nat) := codesAt L n ++ (List.range ((L.take i).count n)).map (fun r => (nth L n r, n, firstOf L n + r))
theorem codesAt_len (L : List Nat) (n : Nat) : (codesAt L n).length = placeOf L n := by
 induction n with
 | zero => rfl
 | succ n ih => simp [codesAt, placeOf, ih]
theorem codesTo_len (L : List Nat) (n i : Nat) : (codesTo L n i).length = placeOf L n + (L.take i).count n := by simp [codesTo, codesAt_len]
theorem codesTo_zero (L : List Nat) (n : Nat) : codesTo L n 0 = codesAt L n := by simp [codesTo]
theorem codesTo_end (L : List Nat) (n : Nat) (h : 1 ≤ n) : codesTo L n L.length = codesAt L (n + 1) := by
 simp only [codesTo, codesAt, List.take_length]; unfold cnt; rw [if_neg (by omega)]
theorem codesTo_ne (L : List Nat) (n i : Nat) (h : i < L.length) (hn : L[i] ≠ n) : codesTo L n (i + 1) = codesTo L n i := by
 have : (L.take (i + 1)).count n = (L.take i).count n := by
  rw [List.take_succ_eq_append_getElem h, List.count_append, List.count_singleton]; simp [hn]
 simp only [codesTo, this]
theorem count_eq (L : List Nat) (n i : Nat) (h : i < L.length) (hn : L[i] = n) : (L.take (i + 1)).count n = (L.take i).count n + 1 := by
 rw [List.take_succ_eq_append_getElem h, List.count_append, hn]; simp
theorem count_ne (L : List Nat) (n i : Nat) (h : i < L.length) (hn : L[i] ≠ n) : (L.take (i + 1)).count n = (L.take i).count n := by
 rw [List.take_succ_eq_append_getElem h, List.count_append, List.count_singleton]; simp [hn]
theorem codesTo_eq (L : List Nat) (n i : Nat) (h : i < L.length) (hn : L[i] = n) : codesTo L n (i + 1) = codesTo L n i ++ [(i, n, firstOf L n + (L.take i).count n)] := by
 simp only [codesTo, count_eq L n i h hn, List.range_succ, List.map_append, List.map_cons, List.map_nil, List.append_assoc]
 rw [nth_at L n i h hn]
theorem first_none (L : List Nat) (n : Nat) (h : placeOf L n = 0) : firstOf L n = 0 := by
 induction n with
 | zero => rfl
 | succ n ih =>
  simp only [placeOf] at h
  simp only [firstOf, ih (by omega)]; omega
def CInv (L : List Nat) (n i x u : Nat) : Prop :=
 (codesTo L n i).length = 0 ∧ x = 0 ∧ u = 0 ∨ 1 ≤ (codesTo L n i).length ∧ 1 ≤ u ∧ u ≤ n ∧ u ≤ 15 ∧ 1 ≤ cnt L u ∧ x < 2 ^ u ∧ (x + 1) * 2 ^ (n - u) = firstOf L n + (L.take i).count n
theorem CInv.start (L : List Nat) : CInv L 1 0 0 0 := by
 left; rw [codesTo_len]; simp [placeOf, cnt]
theorem CInv.ne {L : List Nat} {n i x u : Nat} (hc : CInv L n i x u) (h : i < L.length) (hn : L[i] ≠ n) : CInv L n (i + 1) x u := by
 unfold CInv at *; rw [codesTo_ne L n i h hn, count_ne L n i h hn]; exact hc
theorem CInv.empty {L : List Nat} {n i x u : Nat} (hc : CInv L n i x u) (h0 : (codesTo L n i).length = 0) : x = 0 ∧ u = 0 ∧ firstOf L n + (L.take i).count n = 0 := by
 rcases hc with ⟨_, h1, h2⟩ | ⟨h1, _⟩
 ·rw [codesTo_len] at h0
  exact ⟨h1, h2, by rw [first_none L n (by omega)]; omega⟩
 ·omega
theorem CInv.more {L : List Nat} {n i x u : Nat} (hc : CInv L n i x u) (h0 : (codesTo L n i).length ≠ 0) : 1 ≤ u ∧ u ≤ n ∧ u ≤ 15 ∧ x < 2 ^ u ∧ (x + 1) * 2 ^ (n - u) = firstOf L n + (L.take i).count n := by
 rcases hc with ⟨h1, _⟩ | ⟨_, h1, h2, h3, _, h5, h6⟩
 ·omega
 ·exact ⟨h1, h2, h3, h5, h6⟩
theorem cnt_pos {L : List Nat} {n i : Nat} (h : i < L.length) (hn : L[i] = n) (h1 : 1 ≤ n) : (L.take i).count n + 1 ≤ cnt L n := by
 have h2 := count_eq L n i h hn
 have h3 : (L.take (i + 1)).count n ≤ L.count n := (List.take_sublist _ _).count_le n
 unfold cnt; rw [if_neg (by omega)]; omega
theorem CInv.eq {L : List Nat} {n i : Nat} (h : i < L.length) (hn : L[i] = n) (h1 : 1 ≤ n) (h15 : n ≤ 15) (hlt : firstOf L n + (L.take i).count n < 2 ^ n) : CInv L n (i + 1) (firstOf L n + (L.take i).count n) n := by
 right
 have := cnt_pos h hn h1
 refine ⟨by rw [codesTo_eq L n i h hn]; simp, h1, Nat.le_refl _, h15, by omega, hlt, by rw [count_eq L n i h hn]; simp; omega⟩
theorem CInv.step {L : List Nat} {n x u : Nat} (h1 : 1 ≤ n) (hc : CInv L n L.length x u) : CInv L (n + 1) 0 x u := by
 have hl : (codesTo L (n + 1) 0).length = (codesTo L n L.length).length := by rw [codesTo_zero, codesTo_end L n h1]
 rcases hc with ⟨a, b, c⟩ | ⟨a, b, c, c15, d, e, f⟩
 ·left; exact ⟨by omega, b, c⟩
 ·right
  refine ⟨by omega, b, by omega, c15, d, e, ?_⟩
  have : (L.take L.length).count n = cnt L n := by rw [List.take_length]; unfold cnt; rw [if_neg (by omega)]
  rw [this] at f
  rw [show n + 1 - u = (n - u) + 1 by omega, Nat.pow_succ, ← Nat.mul_assoc, f]
  simp only [firstOf, List.take_zero, List.count_nil]; omega
end Go.Proofs.YtnmkmmgaoplfiaaGreatDoor
