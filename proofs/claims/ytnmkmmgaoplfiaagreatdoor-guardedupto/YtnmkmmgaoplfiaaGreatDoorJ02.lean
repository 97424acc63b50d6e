/- Texts of this seat, joined. -/
import Derived.WalkKit
set_option linter.unusedSimpArgs false
set_option linter.unusedVariables false
set_option maxHeartbeats 20000000
namespace Go.Proofs.YtnmkmmgaoplfiaaGreatDoor
def bitOf (s : ByteArray) (i : Nat) : Nat := if h : i / 8 < s.size then (s[i / 8].toNat / 2 ^ (i % 8)) % 2 else 0
def numAt (s : ByteArray) (p : Nat) : Nat → Nat
 | 0 => 0
 | n + 1 => numAt s p n + bitOf s (p + n) * 2 ^ n
theorem bitOf_lt (s : ByteArray) (i : Nat) : bitOf s i < 2 := by unfold bitOf; split <;> omega
theorem numAt_lt (s : ByteArray) (p n : Nat) : numAt s p n < 2 ^ n := by
 induction n with
 | zero => simp [numAt]
 | succ n ih =>
  have := bitOf_lt s (p + n)
  simp only [numAt]
  have : bitOf s (p + n) * 2 ^ n ≤ 1 * 2 ^ n := Nat.mul_le_mul_right _ (by omega)
  rw [Nat.pow_succ]; omega
theorem bitOf_end (s : ByteArray) (i : Nat) (h : 8 * s.size ≤ i) : bitOf s i = 0 := by unfold bitOf; rw [dif_neg (by omega)]
theorem bitOf_in (s : ByteArray) (k j : Nat) (hk : k < s.size) (hj : j < 8) : bitOf s (8 * k + j) = (s[k].toNat / 2 ^ j) % 2 := by
 unfold bitOf
 have h1 : (8 * k + j) / 8 = k := by omega
 have h2 : (8 * k + j) % 8 = j := by omega
 simp only [h1, h2]
 rw [dif_pos hk]
def cnt (L : List Nat) (n : Nat) : Nat := if n = 0 then 0 else L.count n
def firstOf (L : List Nat) : Nat → Nat
 | 0 => 0
 | n + 1 => 2 * (firstOf L n + cnt L n)
def placeOf (L : List Nat) : Nat → Nat
 | 0 => 0
 | n + 1 => placeOf L n + cnt L n
def freeOf (L : List Nat) : Nat → Int
 | 0 => 1
 | n + 1 => 2 * freeOf L n - (cnt L (n + 1) : Nat)
def nth : List Nat → Nat → Nat → Nat
 | [], _, _ => 0
 | x :: xs, n, r => if x = n then (if r = 0 then 0 else 1 + nth xs n (r - 1)) else 1 + nth xs n r
def decGo (L : List Nat) (s : ByteArray) (p : Nat) : Nat → Nat → Nat → Option (Nat × Nat)
 | 0, _, _ => none
 | f + 1, n, x =>
  let y := 2 * x + bitOf s (p + n)
  if 8 * s.size < p + n + 1 then none
  else if firstOf L (n + 1) ≤ y ∧ y < firstOf L (n + 1) + cnt L (n + 1) then some (nth L (n + 1) (y - firstOf L (n + 1)), p + n + 1)
  else decGo L s p f (n + 1) y
def dec (L : List Nat) (s : ByteArray) (p : Nat) : Option (Nat × Nat) := decGo L s p 15 0 0
theorem cnt_le (L : List Nat) (n : Nat) : cnt L n ≤ L.length := by unfold cnt; split; omega; exact List.count_le_length
theorem nth_at : ∀ (L : List Nat) (n i : Nat) (h : i < L.length), L[i] = n → nth L n ((L.take i).count n) = i
 | x :: xs, n, 0, _, e => by simp at e; subst e; simp [nth]
 | x :: xs, n, i + 1, h, e => by
  simp only [List.length_cons] at h
  simp at e
  have ih := nth_at xs n i (by omega) e
  by_cases hx : x = n
  ·subst hx; simp [nth, ih]; omega
  ·simp [nth, hx, List.count_cons, ih]; omega
theorem nth_ex : ∀ (L : List Nat) (n r : Nat), r < L.count n → ∃ i, ∃ h : i < L.length, L[i] = n ∧ (L.take i).count n = r
 | [], n, r, h => by simp at h
 | x :: xs, n, r, h => by
  by_cases hx : x = n
  ·subst hx
   by_cases hr : r = 0
   ·subst hr; exact ⟨0, by simp, by simp, by simp⟩
   ·rw [List.count_cons_self] at h
    obtain ⟨i, hi, h1, h2⟩ := nth_ex xs x (r - 1) (by omega)
    exact ⟨i + 1, by simpa using hi, by simpa using h1, by simp [h2]; omega⟩
  ·rw [List.count_cons_of_ne hx] at h
   obtain ⟨i, hi, h1, h2⟩ := nth_ex xs n r h
   exact ⟨i + 1, by simpa using hi, by simpa using h1, by simp [List.count_cons, h2, hx]⟩
theorem nth_lt (L : List Nat) (n r : Nat) (h : r < L.count n) : nth L n r < L.length := by
 obtain ⟨i, hi, h1, h2⟩ := nth_ex L n r h
 rw [← h2, nth_at L n i hi h1]; exact hi
theorem placeOf_le (L : List Nat) (n : Nat) : placeOf L n ≤ n * L.length := by
 induction n with
 | zero => simp [placeOf]
 | succ n ih => simp only [placeOf, Nat.succ_mul]; have := cnt_le L n; omega
theorem placeOf_mono (L : List Nat) {m n : Nat} (h : m ≤ n) : placeOf L m ≤ placeOf L n := by
 induction h with
 | refl => exact Nat.le_refl _
 | step _ ih => simp only [placeOf]; omega
theorem placeOf_end (L : List Nat) {n r : Nat} (hn : n < 16) (hr : r < cnt L n) : placeOf L n + r < placeOf L 16 := by
 have := placeOf_mono L (show n + 1 ≤ 16 by omega)
 simp only [placeOf] at this ⊢; omega
theorem free_bd (L : List Nat) (hL : L.length ≤ 400) (n : Nat) : -(((2 ^ n : Nat) : Int) - 1) * 400 ≤ freeOf L n ∧ freeOf L n ≤ ((2 ^ n : Nat) : Int) := by
 induction n with
 | zero => simp [freeOf]
 | succ n ih =>
  have h := cnt_le L (n + 1)
  simp only [freeOf, Nat.pow_succ]
  generalize 2 ^ n = x at *
  generalize freeOf L n = y at *
  generalize cnt L (n + 1) = z at *
  omega
theorem free_bd15 (L : List Nat) (hL : L.length ≤ 400) (n : Nat) (hn : n ≤ 15) : -13107200 ≤ freeOf L n ∧ freeOf L n ≤ 32768 := by
 have h := free_bd L hL n
 have h2 : 2 ^ n ≤ 2 ^ 15 := Nat.pow_le_pow_right (by omega) hn
 generalize 2 ^ n = x at *
 generalize freeOf L n = y at *
 omega
theorem placeOf_cons (x : Nat) (xs : List Nat) (m : Nat) : placeOf (x :: xs) m = placeOf xs m + if 0 < x ∧ x < m then 1 else 0 := by
 induction m with
 | zero => simp [placeOf]
 | succ m ih =>
  simp only [placeOf, ih, cnt, List.count_cons]
  by_cases hm : m = 0
  ·subst hm; simp; intro; omega
  ·simp only [hm, if_false, beq_iff_eq]
   by_cases hx : x = m
   ·subst hx
    rw [if_pos rfl, if_neg (by omega), if_pos (by omega)]; omega
   ·rw [if_neg hx]
    by_cases h1 : 0 < x ∧ x < m
    ·rw [if_pos h1, if_pos (by omega)]; omega
    ·rw [if_neg h1, if_neg (by omega)]; omega
theorem placeOf_total : ∀ (L : List Nat), (∀ x ∈ L, x ≤ 15) → placeOf L 16 + L.count 0 = L.length
 | [], _ => by simp [placeOf, cnt]
 | x :: xs, h => by
  have ih := placeOf_total xs (fun y hy => h y (List.mem_cons_of_mem _ hy))
  have hx := h x List.mem_cons_self
  rw [placeOf_cons, List.count_cons, List.length_cons]
  by_cases h0 : x = 0
  ·subst h0; simp; omega
  ·rw [if_pos (by omega), if_neg (by simpa using h0)]; omega
def order : List Nat := [16, 17, 18, 0, 8, 7, 9, 6, 10, 5, 11, 4, 12, 3, 13, 2, 14, 1, 15]
def lens3 (s : ByteArray) (p : Nat) : Nat → List Nat
 | 0 => List.replicate 19 0
 | n + 1 => (lens3 s p n).set (order.getD n 0) (numAt s (p + 3 * n) 3)
theorem lens3_len (s : ByteArray) (p n : Nat) : (lens3 s p n).length = 19 := by
 induction n with
 | zero => rfl
 | succ n ih => simp [lens3, ih]
theorem lens3_le (s : ByteArray) (p n : Nat) : ∀ x ∈ lens3 s p n, x ≤ 15 := by
 induction n with
 | zero => intro x hx; simp only [lens3, List.mem_replicate] at hx; omega
 | succ n ih =>
  intro x hx
  rcases List.mem_or_eq_of_mem_set hx with h | h
  ·exact ih x h
  ·have := numAt_lt s (p + 3 * n) 3; omega
theorem order_lt (n : Nat) (h : n < 19) : order.getD n 0 < 19 := by
 have : ∀ n : Fin 19, order.getD n.val 0 < 19 := by decide
 exact this ⟨n, h⟩
end Go.Proofs.YtnmkmmgaoplfiaaGreatDoor
