/- What is read of bits that were written: numbers, codes, letters. -/
import Derived.Test.YtobfkhapeejkfaaGreatDoorKCode
import Derived.Test.YtobfkhapeejkfaaGreatDoorKText
import Derived.Test.YtobfkhapeejkfaaGreatDoorWBlock
namespace Go.Proofs.YtobfkhapeejkfaaGreatDoor
set_option linter.unusedSimpArgs false
set_option linter.unusedVariables false

/-- From the place p on these bits stand in s, as far as s goes. -/
def At (s : ByteArray) (p : Nat) (xs : List Nat) : Prop := ∀ i, i < xs.length → p + i < 8 * s.size → bitOf s (p + i) = xs.getD i 0
theorem At.left {s : ByteArray} {p : Nat} {xs ys : List Nat} (h : At s p (xs ++ ys)) : At s p xs := fun i hi hs => by
  have := h i (by rw [List.length_append]; omega) hs
  rw [this, List.getD_eq_getElem?_getD, List.getElem?_append_left hi, ← List.getD_eq_getElem?_getD]
theorem At.right {s : ByteArray} {p : Nat} {xs ys : List Nat} (h : At s p (xs ++ ys)) : At s (p + xs.length) ys := fun i hi hs => by
  have := h (xs.length + i) (by rw [List.length_append]; omega) (by omega)
  rw [show p + xs.length + i = p + (xs.length + i) by omega, this, List.getD_eq_getElem?_getD, List.getElem?_append_right (by omega), Nat.add_sub_cancel_left, ← List.getD_eq_getElem?_getD]

theorem getD_range (f : Nat → Nat) (n i : Nat) (h : i < n) : ((List.range n).map f).getD i 0 = f i := by
  rw [List.getD_eq_getElem?_getD, List.getElem?_map, List.getElem?_range h]; rfl
theorem sum_bits (x : Nat) : ∀ n, x % 2 ^ (n + 1) = x % 2 ^ n + x / 2 ^ n % 2 * 2 ^ n := mod_step x
theorem num_at (s : ByteArray) (p x n : Nat) (h : At s p (numBits x n)) (hs : p + n ≤ 8 * s.size) : ∀ k, k ≤ n → numAt s p k = x % 2 ^ k
  | 0, _ => by simp [numAt, Nat.mod_one]
  | k + 1, hk => by
    have ih := num_at s p x n h hs k (by omega)
    have hb := h k (by rw [numBits_len]; omega) (by omega)
    rw [show numAt s p (k + 1) = numAt s p k + bitOf s (p + k) * 2 ^ k from rfl, ih, hb]
    unfold numBits
    rw [getD_range _ _ _ (by omega), sum_bits]
theorem num_of (s : ByteArray) (p x n : Nat) (h : At s p (numBits x n)) (hs : p + n ≤ 8 * s.size) (hx : x < 2 ^ n) : numAt s p n = x := by
  rw [num_at s p x n h hs n (Nat.le_refl _), Nat.mod_eq_of_lt hx]

/-- The code c of m bits is that of a number, and no shorter one is a part of it. -/
structure CodeOf (L : List Nat) (c m x : Nat) : Prop where
  lt : c < 2 ^ m
  m1 : 1 ≤ m
  m15 : m ≤ 15
  none : ∀ n, 1 ≤ n → n < m → ¬ (firstOf L n ≤ c / 2 ^ (m - n) ∧ c / 2 ^ (m - n) < firstOf L n + cnt L n)
  this : firstOf L m ≤ c ∧ c < firstOf L m + cnt L m
  num : nth L m (c - firstOf L m) = x
theorem dec_go (L : List Nat) (s : ByteArray) (p c m x : Nat) (h : At s p (codeBits c m)) (hc : CodeOf L c m x) : ∀ d n f, n + (d + 1) = m → d < f →
    decGo L s p f n (c / 2 ^ (m - n)) = if p + m ≤ 8 * s.size then some (x, p + m) else (if p + n < 8 * s.size ∨ True then none else none)
  | d, n, 0, _, hf => by omega
  | d, n, f + 1, hn, hf => by
    simp only [or_true, if_true]
    unfold decGo
    by_cases he : 8 * s.size < p + n + 1
    · rw [if_pos he, if_neg (by omega)]
    · rw [if_neg he]
      have hb := h n (by rw [codeBits_len]; omega) (by omega)
      have e : 2 * (c / 2 ^ (m - n)) + bitOf s (p + n) = c / 2 ^ (m - (n + 1)) := by
        rw [hb]
        unfold codeBits
        rw [getD_range _ _ _ (by omega), show m - n = (m - (n + 1)) + 1 by omega, show m - 1 - n = m - (n + 1) by omega, Nat.pow_succ, ← Nat.div_div_eq_div_mul]
        omega
      rw [e]
      by_cases hd : d = 0
      · subst hd
        have hm : n + 1 = m := by omega
        subst hm
        simp only [Nat.sub_self, Nat.pow_zero, Nat.div_one]
        rw [if_pos hc.this, hc.num, if_pos (by omega)]
        rfl
      · rw [if_neg (hc.none (n + 1) (by omega) (by omega))]
        obtain ⟨d', rfl⟩ : ∃ d', d = d' + 1 := ⟨d - 1, by omega⟩
        have := dec_go L s p c m x h hc d' (n + 1) f (by omega) (by omega)
        simp only [or_true, if_true] at this
        exact this
theorem dec_of (L : List Nat) (s : ByteArray) (p c m x : Nat) (h : At s p (codeBits c m)) (hc : CodeOf L c m x) : dec L s p = if p + m ≤ 8 * s.size then some (x, p + m) else none := by
  have m1 := hc.m1
  have m15 := hc.m15
  have := dec_go L s p c m x h hc (m - 1) 0 15 (by omega) (by omega)
  simp only [or_true, if_true, Nat.sub_zero, Nat.div_eq_of_lt hc.lt] at this
  exact this

/-- The two FIXED codes, in numbers. -/
theorem fix_cnt : ∀ n : Fin 10, cnt fixLetters n.val = (if n.val = 7 then 24 else if n.val = 8 then 152 else if n.val = 9 then 112 else 0) := by decide +kernel
theorem fix_first : ∀ n : Fin 10, firstOf fixLetters n.val = (if n.val = 8 then 48 else if n.val = 9 then 400 else 0) := by decide +kernel
theorem fix_nth7 : ∀ r : Fin 24, nth fixLetters 7 r.val = 256 + r.val := by decide +kernel
theorem fix_nth8 : ∀ r : Fin 152, nth fixLetters 8 r.val = if r.val < 144 then r.val else 136 + r.val := by decide +kernel
theorem fix_nth9 : ∀ r : Fin 112, nth fixLetters 9 r.val = 144 + r.val := by decide +kernel
theorem dist_cnt : ∀ n : Fin 6, cnt fixDist n.val = (if n.val = 5 then 32 else 0) := by decide +kernel
theorem dist_first : ∀ n : Fin 6, firstOf fixDist n.val = 0 := by decide +kernel
theorem dist_nth : ∀ r : Fin 32, nth fixDist 5 r.val = r.val := by decide +kernel
theorem dist_code (y : Nat) (h : y < 32) : CodeOf fixDist y 5 y := by
  refine ⟨by omega, by omega, by omega, fun n h1 h2 => ?_, ?_, ?_⟩
  · have := dist_cnt ⟨n, by omega⟩
    have f := dist_first ⟨n, by omega⟩
    simp only at this f
    rw [this, f, if_neg (by omega)]; omega
  · have := dist_cnt ⟨5, by omega⟩
    have f := dist_first ⟨5, by omega⟩
    simp only at this f
    rw [this, f]; simp only [if_true]; omega
  · have f := dist_first ⟨5, by omega⟩
    simp only at f
    rw [f, Nat.sub_zero]; exact dist_nth ⟨y, h⟩
/-- A letter's code: its number and length. -/
def letC (x : Nat) : Nat := if x < 144 then 48 + x else if x < 256 then 400 + x - 144 else if x < 280 then x - 256 else 192 + x - 280
def letM (x : Nat) : Nat := if x < 144 then 8 else if x < 256 then 9 else if x < 280 then 7 else 8
theorem letterBits_eq (x : Nat) : letterBits x = codeBits (letC x) (letM x) := by
  unfold letterBits letC letM
  by_cases c1 : x < 144
  · simp only [if_pos c1]
  · by_cases c2 : x < 256
    · simp only [if_neg c1, if_pos c2]
    · by_cases c3 : x < 280
      · simp only [if_neg c1, if_neg c2, if_pos c3]
      · simp only [if_neg c1, if_neg c2, if_neg c3]
theorem let_code (x : Nat) (h : x < 288) : CodeOf fixLetters (letC x) (letM x) x := by
  have f7 := fix_first ⟨7, by omega⟩
  have f8 := fix_first ⟨8, by omega⟩
  have f9 := fix_first ⟨9, by omega⟩
  have k7 := fix_cnt ⟨7, by omega⟩
  have k8 := fix_cnt ⟨8, by omega⟩
  have k9 := fix_cnt ⟨9, by omega⟩
  simp at f7 f8 f9 k7 k8 k9
  have low : ∀ n, n < 7 → cnt fixLetters n = 0 := fun n hn => by
    have := fix_cnt ⟨n, by omega⟩
    simp only at this
    rw [this, if_neg (by omega), if_neg (by omega), if_neg (by omega)]
  have none7 : ∀ c m, (∀ n, 1 ≤ n → n < m → n < 7 → ¬ (firstOf fixLetters n ≤ c / 2 ^ (m - n) ∧ c / 2 ^ (m - n) < firstOf fixLetters n + cnt fixLetters n)) := fun c m n _ _ hn => by
    rw [low n hn]; omega
  unfold letC letM
  by_cases c1 : x < 144
  · rw [if_pos c1, if_pos c1]
    refine ⟨by omega, by omega, by omega, fun n h1 h2 => ?_, by rw [f8, k8]; omega, ?_⟩
    · by_cases hn : n < 7
      · exact none7 _ _ n h1 h2 hn
      · obtain rfl : n = 7 := by omega
        rw [f7, k7]; omega
    · rw [f8, show 48 + x - 48 = x by omega, fix_nth8 ⟨x, by omega⟩]; simp only; rw [if_pos c1]
  · rw [if_neg c1, if_neg c1]
    by_cases c2 : x < 256
    · rw [if_pos c2, if_pos c2]
      refine ⟨by omega, by omega, by omega, fun n h1 h2 => ?_, by rw [f9, k9]; omega, ?_⟩
      · by_cases hn : n < 7
        · exact none7 _ _ n h1 h2 hn
        · rcases (by omega : n = 7 ∨ n = 8) with rfl | rfl
          · rw [f7, k7]; omega
          · rw [f8, k8]; omega
      · rw [f9, show 400 + x - 144 - 400 = x - 144 by omega, fix_nth9 ⟨x - 144, by omega⟩]; simp only; omega
    · rw [if_neg c2, if_neg c2]
      by_cases c3 : x < 280
      · rw [if_pos c3, if_pos c3]
        refine ⟨by omega, by omega, by omega, fun n h1 h2 => none7 _ _ n h1 h2 h2, by rw [f7, k7]; omega, ?_⟩
        rw [f7, Nat.sub_zero, fix_nth7 ⟨x - 256, by omega⟩]; simp only; omega
      · rw [if_neg c3, if_neg c3]
        refine ⟨by omega, by omega, by omega, fun n h1 h2 => ?_, by rw [f8, k8]; omega, ?_⟩
        · by_cases hn : n < 7
          · exact none7 _ _ n h1 h2 hn
          · obtain rfl : n = 7 := by omega
            rw [f7, k7]; omega
        · rw [f8, show 192 + x - 280 - 48 = x - 136 by omega, fix_nth8 ⟨x - 136, by omega⟩]; simp only; rw [if_neg (by omega)]; omega
theorem dec_letter (s : ByteArray) (p x : Nat) (hx : x < 288) (h : At s p (letterBits x)) : dec fixLetters s p = if p + letM x ≤ 8 * s.size then some (x, p + letM x) else none := by
  rw [letterBits_eq] at h
  exact dec_of fixLetters s p (letC x) (letM x) x h (let_code x hx)
theorem letter_len (x : Nat) : (letterBits x).length = letM x := by rw [letterBits_eq, codeBits_len]
theorem dec_dist (s : ByteArray) (p y : Nat) (hy : y < 32) (h : At s p (codeBits y 5)) : dec fixDist s p = if p + 5 ≤ 8 * s.size then some (y, p + 5) else none :=
  dec_of fixDist s p y 5 y h (dist_code y hy)
end Go.Proofs.YtobfkhapeejkfaaGreatDoor
