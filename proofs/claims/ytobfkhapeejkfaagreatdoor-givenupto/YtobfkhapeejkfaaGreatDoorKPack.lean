/- Pieces as blocks, and what is unpacked of them, in plain functions. -/
import Derived.Test.YtobfkhapeejkfaaGreatDoorKDec
import Derived.Test.YtobfkhapeejkfaaGreatDoorWLow
namespace Go.Proofs.YtobfkhapeejkfaaGreatDoor
set_option linter.unusedSimpArgs false
set_option linter.unusedVariables false

/-- The letters of a text, one by one, in a FIXED block. -/
def textBits (t : List UInt8) : List Nat := t.flatMap fun c => letterBits c.toNat
theorem textBits_cons (c : UInt8) (t : List UInt8) : textBits (c :: t) = letterBits c.toNat ++ textBits t := rfl
theorem letM_pos (x : Nat) : 7 ≤ letM x := by unfold letM; split; omega; split; omega; split <;> omega

theorem coded_over (s : ByteArray) (most p f : Nat) (out : List UInt8) (h : 8 * s.size < p) : codedGo fixLetters fixDist s most f p out = .inl 1 := by
  cases f with
  | zero => rfl
  | succ g =>
    rw [codedGo_none]
    unfold dec decGo
    rw [if_pos (by omega)]
theorem textBits_ge (t : List UInt8) : t.length ≤ (textBits t).length := by
  induction t with
  | nil => exact Nat.zero_le _
  | cons c t ih => rw [textBits_cons, List.length_append, letter_len, List.length_cons]; have := letM_pos c.toNat; omega
theorem coded_text (s : ByteArray) (most : Nat) : ∀ (t : List UInt8) (p f : Nat) (out : List UInt8), At s p (textBits t) → 8 * s.size + 1 ≤ p + f → out.length ≤ most →
    (p + (textBits t).length ≤ 8 * s.size → out.length + t.length ≤ most → codedGo fixLetters fixDist s most f p out = codedGo fixLetters fixDist s most (f - t.length) (p + (textBits t).length) (out ++ t)) ∧
    (8 * s.size < p + (textBits t).length → out.length + t.length ≤ most → codedGo fixLetters fixDist s most f p out = .inl 1) ∧
    (p + (textBits t).length ≤ 8 * s.size → most < out.length + t.length → codedGo fixLetters fixDist s most f p out = .inl 2)
  | [], p, f, out, h, hf, ho => by
    refine ⟨fun _ _ => by simp [textBits], fun h1 _ => ?_, fun _ h2 => by simp at h2; omega⟩
    simp only [textBits, List.flatMap_nil, List.length_nil, Nat.add_zero] at h1
    exact coded_over s most p f out h1
  | c :: t, p, f, out, h, hf, ho => by
    rw [textBits_cons] at h
    have hd := dec_letter s p c.toNat (by have := c.toNat_lt; omega) h.left
    have hr := h.right
    rw [letter_len] at hr
    have hl : (textBits (c :: t)).length = letM c.toNat + (textBits t).length := by rw [textBits_cons, List.length_append, letter_len]
    have lt := c.toNat_lt
    have e8 : UInt8.ofNat c.toNat = c := by simp
    have lp := letM_pos c.toNat
    simp only [List.length_cons]
    rw [hl]
    by_cases hp0 : 8 * s.size < p
    · exact ⟨fun h1 _ => by omega, fun _ _ => coded_over s most p f out hp0, fun h1 _ => by omega⟩
    obtain ⟨g, rfl⟩ : ∃ g, f = g + 1 := ⟨f - 1, by omega⟩
    by_cases hfit : p + letM c.toNat ≤ 8 * s.size
    · rw [if_pos hfit] at hd
      have step : ∀ h' : out.length < most, codedGo fixLetters fixDist s most (g + 1) p out = codedGo fixLetters fixDist s most g (p + letM c.toNat) (out ++ [c]) := fun h' => by
        rw [codedGo_some _ _ _ _ _ _ _ _ _ hd, if_neg (by omega), if_pos (by omega), if_neg (by omega), e8]
      have ih := coded_text s most t (p + letM c.toNat) g (out ++ [c]) hr (by omega)
      refine ⟨fun h1 h2 => ?_, fun h1 h2 => ?_, fun h1 h2 => ?_⟩
      · rw [step (by omega), (ih (by rw [List.length_append]; simp; omega)).1 (by omega) (by rw [List.length_append]; simp; omega)]
        rw [show g + 1 - (t.length + 1) = g - t.length by omega, show p + (letM c.toNat + (textBits t).length) = p + letM c.toNat + (textBits t).length by omega, List.append_assoc]; rfl
      · rw [step (by omega)]
        exact (ih (by rw [List.length_append]; simp; omega)).2.1 (by omega) (by rw [List.length_append]; simp; omega)
      · by_cases hr0 : out.length < most
        · rw [step hr0]
          exact (ih (by rw [List.length_append]; simp; omega)).2.2 (by omega) (by rw [List.length_append]; simp; omega)
        · rw [codedGo_some _ _ _ _ _ _ _ _ _ hd, if_neg (by omega), if_pos (by omega), if_pos (by omega)]
    · rw [if_neg hfit] at hd
      refine ⟨fun h1 _ => by omega, fun _ _ => codedGo_none _ _ _ _ _ _ _ hd, fun h1 _ => by omega⟩
/-- The end of a block. -/
theorem coded_end (s : ByteArray) (most p f : Nat) (out : List UInt8) (h : At s p (letterBits 256)) (hf : 8 * s.size + 1 ≤ p + f) :
    (p + 7 ≤ 8 * s.size → codedGo fixLetters fixDist s most f p out = .inr (out, p + 7)) ∧ (8 * s.size < p + 7 → codedGo fixLetters fixDist s most f p out = .inl 1) := by
  have hd := dec_letter s p 256 (by omega) h
  by_cases hp0 : 8 * s.size < p
  · exact ⟨fun h1 => by omega, fun _ => coded_over s most p f out hp0⟩
  obtain ⟨g, rfl⟩ : ∃ g, f = g + 1 := ⟨f - 1, by omega⟩
  have e : letM 256 = 7 := rfl
  rw [e] at hd
  refine ⟨fun h1 => ?_, fun h1 => ?_⟩
  · rw [if_pos h1] at hd
    rw [codedGo_some _ _ _ _ _ _ _ _ _ hd, if_pos rfl]
  · rw [if_neg (by omega)] at hd
    exact codedGo_none _ _ _ _ _ _ _ hd

/-- A copy: its length's letter and its distance's bits. -/
def copyBits (n far : Nat) : List Nat := (if n = 258 then letterBits 285 else letterBits (254 + n)) ++ (if far < 5 then codeBits (far - 1) 5 else codeBits 4 5 ++ [far - 5])
theorem coded_copy (s : ByteArray) (most p f n far : Nat) (out : List UInt8) (hn : (3 ≤ n ∧ n ≤ 10) ∨ n = 258) (hfar : 1 ≤ far ∧ far ≤ 6) (hout : far ≤ out.length) (h : At s p (copyBits n far)) (hf : 8 * s.size + 1 ≤ p + f) (ho : out.length ≤ most) :
    (p + (copyBits n far).length ≤ 8 * s.size → out.length + n ≤ most → codedGo fixLetters fixDist s most f p out = codedGo fixLetters fixDist s most (f - 1) (p + (copyBits n far).length) (copyOf out (out.length - far) far n)) ∧
    (8 * s.size < p + (copyBits n far).length → out.length + n ≤ most → codedGo fixLetters fixDist s most f p out = .inl 1) ∧
    (p + (copyBits n far).length ≤ 8 * s.size → most < out.length + n → codedGo fixLetters fixDist s most f p out = .inl 2) := by
  by_cases hp0 : 8 * s.size < p
  · exact ⟨fun h1 _ => by omega, fun _ _ => coded_over s most p f out hp0, fun h1 _ => by omega⟩
  obtain ⟨g, rfl⟩ : ∃ g, f = g + 1 := ⟨f - 1, by omega⟩
  obtain ⟨x, hx⟩ : ∃ x, x = if n = 258 then 285 else 254 + n := ⟨_, rfl⟩
  have hxb : 257 ≤ x ∧ x ≤ 285 := by rw [hx]; split <;> omega
  have eL : (if n = 258 then letterBits 285 else letterBits (254 + n)) = letterBits x := by rw [hx]; split <;> rfl
  have lenx : ∀ q, lengthOf s q x = (n, q) := fun q => by
    unfold lengthOf
    by_cases h258 : n = 258
    · have : x = 285 := by rw [hx, if_pos h258]
      rw [if_pos this, h258]
    · have : x = 254 + n := by rw [hx, if_neg h258]
      rw [if_neg (by omega)]
      unfold rangedOf
      rw [if_pos (by omega)]
      simp only; rw [show 3 + (x - 257) = n by omega]
  obtain ⟨y, hy⟩ : ∃ y, y = if far < 5 then far - 1 else 4 := ⟨_, rfl⟩
  obtain ⟨ex, hex⟩ : ∃ ex, ex = (if far < 5 then ([] : List Nat) else [far - 5]) := ⟨_, rfl⟩
  have eD : (if far < 5 then codeBits (far - 1) 5 else codeBits 4 5 ++ [far - 5]) = codeBits y 5 ++ ex := by
    rw [hy, hex]; split <;> simp
  have y4 : y ≤ 4 := by rw [hy]; split <;> omega
  unfold copyBits at h ⊢
  rw [eL, eD] at h ⊢
  have hd := dec_letter s p x (by omega) h.left
  have h2 := h.right
  rw [letter_len] at h2
  have hd2 := dec_dist s (p + letM x) y (by omega) h2.left
  have h3 := h2.right
  rw [codeBits_len] at h3
  have ll : (letterBits x ++ (codeBits y 5 ++ ex)).length = letM x + (5 + ex.length) := by rw [List.length_append, List.length_append, letter_len, codeBits_len]
  rw [ll]
  have rng : ∀ q2, At s q2 ex → q2 + ex.length ≤ 8 * s.size → rangedOf s q2 y 2 = (far - 1, q2 + ex.length) := fun q2 ha hq => by
    unfold rangedOf
    by_cases h5 : far < 5
    · have e1 : y = far - 1 := by rw [hy, if_pos h5]
      have e2 : ex = [] := by rw [hex, if_pos h5]
      rw [if_pos (by omega), e2, e1]; rfl
    · have e1 : y = 4 := by rw [hy, if_neg h5]
      have e2 : ex = [far - 5] := by rw [hex, if_neg h5]
      rw [e2] at ha hq ⊢
      have hb := ha 0 (by simp) (by simp at hq; omega)
      simp at hb
      rw [if_neg (by omega), e1]
      simp only [numAt, List.length_singleton, Nat.reduceDiv, Nat.reduceMod, Nat.add_zero, Nat.reduceSub]
      rw [hb]
      congr 1
      simp; omega
  have rng2 : ∀ q2, (rangedOf s q2 y 2).2 = q2 + ex.length := fun q2 => by
    unfold rangedOf
    by_cases h5 : far < 5
    · have e1 : y = far - 1 := by rw [hy, if_pos h5]
      have e2 : ex = [] := by rw [hex, if_pos h5]
      rw [if_pos (by omega), e2]; rfl
    · have e1 : y = 4 := by rw [hy, if_neg h5]
      have e2 : ex = [far - 5] := by rw [hex, if_neg h5]
      rw [if_neg (by omega), e1, e2]; rfl
  by_cases f1 : p + letM x ≤ 8 * s.size
  · rw [if_pos f1] at hd
    have st := codedGo_some fixLetters fixDist s most g p x (p + letM x) out hd
    rw [if_neg (by omega), if_neg (by omega)] at st
    have cs : copyStep fixDist s (p + letM x) out most x = match dec fixDist s (p + letM x) with
        | none => .inl 1
        | some (y, q2) => if 29 < y then .inl 1 else if 8 * s.size < (rangedOf s q2 y 2).2 ∨ out.length < 1 + (rangedOf s q2 y 2).1 then .inl 1 else if most < out.length + n then .inl 2 else .inr (copyOf out (out.length - (1 + (rangedOf s q2 y 2).1)) (1 + (rangedOf s q2 y 2).1) n, (rangedOf s q2 y 2).2) := by
      unfold copyStep; rw [if_neg (by omega), lenx]; rfl
    by_cases f2 : p + letM x + 5 ≤ 8 * s.size
    · rw [if_pos f2] at hd2
      rw [hd2] at cs
      change copyStep fixDist s (p + letM x) out most x = (if 29 < y then _ else _) at cs
      rw [if_neg (by omega)] at cs
      by_cases f3 : p + letM x + 5 + ex.length ≤ 8 * s.size
      · have r := rng (p + letM x + 5) h3 f3
        rw [r] at cs
        simp only at cs
        rw [if_neg (by omega), show 1 + (far - 1) = far by omega] at cs
        refine ⟨fun _ h4 => ?_, fun h4 _ => by omega, fun _ h4 => ?_⟩
        · rw [if_neg (by omega)] at cs
          rw [st, cs]
          simp only [Nat.add_sub_cancel]
          rw [show p + letM x + 5 + ex.length = p + (letM x + (5 + ex.length)) by omega]
        · rw [if_pos h4] at cs
          rw [st, cs]
      · rw [if_pos (Or.inl (by rw [rng2]; omega))] at cs
        exact ⟨fun h4 _ => by omega, fun _ _ => by rw [st, cs], fun h4 _ => by omega⟩
    · rw [if_neg f2] at hd2
      rw [hd2] at cs
      exact ⟨fun h4 _ => by omega, fun _ _ => by rw [st, cs], fun h4 _ => by omega⟩
  · rw [if_neg f1] at hd
    exact ⟨fun h4 _ => by omega, fun _ _ => codedGo_none _ _ _ _ _ _ _ hd, fun h4 _ => by omega⟩

theorem strBits_app (a b : List UInt8) : strBits (a ++ b) = strBits a ++ strBits b := by simp [strBits]
theorem low_bits (n : Nat) (h : n < 65536) : strBits (lowL n 2) = numBits n 16 := by
  have e : lowL n 2 = [UInt8.ofNat (n % 256), UInt8.ofNat (n / 256 % 256)] := by simp [lowL, List.range_succ]
  rw [e]
  show numBits (UInt8.ofNat (n % 256)).toNat 8 ++ (numBits (UInt8.ofNat (n / 256 % 256)).toNat 8 ++ []) = _
  rw [u8_of _ (by omega), u8_of _ (by omega)]
  simp only [numBits, List.range_succ, List.range_zero, List.map_append, List.map_cons, List.map_nil, List.nil_append, List.append_nil, List.cons_append]
  simp only [List.cons.injEq, and_true]
  refine ⟨?_, ?_, ?_, ?_, ?_, ?_, ?_, ?_, ?_, ?_, ?_, ?_, ?_, ?_, ?_, ?_⟩ <;> omega
theorem str_at (s : ByteArray) : ∀ (t : List UInt8) (k : Nat), At s (8 * k) (strBits t) → k + t.length ≤ s.size → (s.data.toList.drop k).take t.length = t
  | [], k, _, _ => rfl
  | c :: t, k, h, hk => by
    simp only [List.length_cons] at hk ⊢
    have e : strBits (c :: t) = numBits c.toNat 8 ++ strBits t := rfl
    rw [e] at h
    have hl : s.data.toList.length = s.size := Array.length_toList
    have h1 := num_of s (8 * k) c.toNat 8 h.left (by omega) (by have := c.toNat_lt; simpa using this)
    rw [num8 s k (by omega)] at h1
    have hc : s[k] = c := UInt8.toNat_inj.1 h1
    have hr := h.right
    rw [numBits_len, show 8 * k + 8 = 8 * (k + 1) by omega] at hr
    have ih := str_at s t (k + 1) hr (by omega)
    rw [List.drop_eq_getElem_cons (by omega), List.take_succ_cons, ih]
    congr 1
/-- A PLAIN block's bits, behind its first three. -/
def plainBits (p : Nat) (t : List UInt8) : List Nat := padBits p ++ strBits (lowL t.length 2 ++ lowL (65535 - t.length) 2 ++ t)
theorem plainBits_len (p : Nat) (t : List UInt8) : p + (plainBits p t).length = 8 * ((p + 7) / 8 + 4 + t.length) := by
  unfold plainBits padBits
  rw [List.length_append, List.length_replicate, strBits_len, List.length_append, List.length_append, lowL_len, lowL_len]; omega
theorem plain_at (s : ByteArray) (most p : Nat) (out t : List UInt8) (ht : t.length ≤ 40) (h : At s p (plainBits p t)) (ho : out.length ≤ most) :
    (p + (plainBits p t).length ≤ 8 * s.size → out.length + t.length ≤ most → plainOf s p out most = .inr (out ++ t, p + (plainBits p t).length)) ∧
    (8 * s.size < p + (plainBits p t).length → out.length + t.length ≤ most → plainOf s p out most = .inl 1) ∧
    (p + (plainBits p t).length ≤ 8 * s.size → most < out.length + t.length → plainOf s p out most = .inl 2) := by
  rw [plainBits_len]
  obtain ⟨k, hk⟩ : ∃ k, k = (p + 7) / 8 := ⟨_, rfl⟩
  unfold plainBits at h
  have h1 := h.right
  have pl : p + (padBits p).length = 8 * k := by unfold padBits; rw [List.length_replicate]; omega
  rw [pl, strBits_app, strBits_app] at h1
  have a1 := h1.left.left
  have a2 := h1.left.right
  have a3 := h1.right
  rw [low_bits _ (by omega)] at a1 a2
  rw [low_bits _ (by omega), numBits_len] at a2
  rw [List.length_append, strBits_len, strBits_len, lowL_len, lowL_len, show 8 * k + (8 * 2 + 8 * 2) = 8 * (k + 4) by omega] at a3
  unfold plainOf
  rw [← hk]
  by_cases c1 : 8 * s.size < 8 * k + 32
  · rw [if_pos (Or.inl c1)]
    exact ⟨fun h4 _ => by omega, fun _ _ => rfl, fun h4 _ => by omega⟩
  · have n1 := num_of s (8 * k) t.length 16 a1 (by omega) (by omega)
    have n2 := num_of s (8 * k + 16) (65535 - t.length) 16 a2 (by omega) (by omega)
    rw [n1, n2, if_neg (by omega)]
    by_cases c2 : k + 4 + t.length ≤ s.size
    · have dt := str_at s t (k + 4) a3 c2
      rw [dt]
      refine ⟨fun _ h4 => by rw [if_pos (by omega)], fun h4 _ => by omega, fun _ h4 => ?_⟩
      rw [if_neg (by omega), if_neg (by omega)]
    · refine ⟨fun h4 _ => by omega, fun _ h4 => ?_, fun h4 _ => by omega⟩
      rw [if_neg (by omega), if_pos (by omega)]
end Go.Proofs.YtobfkhapeejkfaaGreatDoor
