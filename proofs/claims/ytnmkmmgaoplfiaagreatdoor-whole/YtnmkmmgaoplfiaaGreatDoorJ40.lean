/- Texts of this seat, joined. -/
import Derived.Test.YtnmkmmgaoplfiaaGreatDoorJ39
import Derived.Test.YtnmkmmgaoplfiaaGreatDoorJ34
set_option linter.unusedSimpArgs false
set_option linter.unusedVariables false
set_option maxRecDepth 100000
set_option maxHeartbeats 20000000
namespace Go.Proofs.YtnmkmmgaoplfiaaGreatDoor
def textBits (t : List UInt8) : List Nat := t.flatMap fun c => letterBits c.toNat
theorem textBits_cons (c : UInt8) (t : List UInt8) : textBits (c :: t) = letterBits c.toNat ++ textBits t := rfl
theorem letM_pos (x : Nat) : 7 ≤ letM x := by unfold letM; split; omega; split; omega; split <;> omega
theorem coded_over (s : ByteArray) (most p f : Nat) (out : List UInt8) (h : 8 * s.size < p) : codedGo fixLetters fixDist s most f p out = .inl 1 := by
 cases f with
 | zero => rfl
 | succ g =>
  rw [codedGo_none]
  unfold dec decGo
  rw [if_pos (by omega)]
theorem textBits_ge (t : List UInt8) : t.length ≤ (textBits t).length := by
 induction t with
 | nil => exact Nat.zero_le _
 | cons c t ih => rw [textBits_cons, List.length_append, letter_len, List.length_cons]; have := letM_pos c.toNat; omega
theorem coded_text (s : ByteArray) (most : Nat) : ∀ (t : List UInt8) (p f : Nat) (out : List UInt8), At s p (textBits t) → 8 * s.size + 1 ≤ p + f → out.length ≤ most →
  (p + (textBits t).length ≤ 8 * s.size → out.length + t.length ≤ most → codedGo fixLetters fixDist s most f p out = codedGo fixLetters fixDist s most (f - t.length) (p + (textBits t).length) (out ++ t)) ∧
  (8 * s.size < p + (textBits t).length → out.length + t.length ≤ most → codedGo fixLetters fixDist s most f p out = .inl 1) ∧
  (p + (textBits t).length ≤ 8 * s.size → most < out.length + t.length → codedGo fixLetters fixDist s most f p out = .inl 2)
 | [], p, f, out, h, hf, ho => by
  refine ⟨fun _ _ => by simp [textBits], fun h1 _ => ?_, fun _ h2 => by simp at h2; omega⟩
  simp only [textBits, List.flatMap_nil, List.length_nil, Nat.add_zero] at h1
  exact coded_over s most p f out h1
 | c :: t, p, f, out, h, hf, ho => by
  rw [textBits_cons] at h
  have hd := dec_letter s p c.toNat (by have := c.toNat_lt; omega) h.left
  have hr := h.right
  rw [letter_len] at hr
  have hl : (textBits (c :: t)).length = letM c.toNat + (textBits t).length := by rw [textBits_cons, List.length_append, letter_len]
  have lt := c.toNat_lt
  have e8 : UInt8.ofNat c.toNat = c := by simp
  have lp := letM_pos c.toNat
  simp only [List.length_cons]
  rw [hl]
  by_cases hp0 : 8 * s.size < p
  ·exact ⟨fun h1 _ => by omega, fun _ _ => coded_over s most p f out hp0, fun h1 _ => by omega⟩
  obtain ⟨g, rfl⟩ : ∃ g, f = g + 1 := ⟨f - 1, by omega⟩
  by_cases hfit : p + letM c.toNat ≤ 8 * s.size
  ·rw [if_pos hfit] at hd
   have step : ∀ h' : out.length < most, codedGo fixLetters fixDist s most (g + 1) p out = codedGo fixLetters fixDist s most g (p + letM c.toNat) (out ++ [c]) := fun h' => by
    rw [codedGo_some _ _ _ _ _ _ _ _ _ hd, if_neg (by omega), if_pos (by omega), if_neg (by omega), e8]
   have ih := coded_text s most t (p + letM c.toNat) g (out ++ [c]) hr (by omega)
   refine ⟨fun h1 h2 => ?_, fun h1 h2 => ?_, fun h1 h2 => ?_⟩
   ·rw [step (by omega), (ih (by rw [List.length_append]; simp; omega)).1 (by omega) (by rw [List.length_append]; simp; omega)]
    rw [show g + 1 - (t.length + 1) = g - t.length by omega, show p + (letM c.toNat + (textBits t).length) = p + letM c.toNat + (textBits t).length by omega, List.append_assoc]; rfl
   ·rw [step (by omega)]
    exact (ih (by rw [List.length_append]; simp; omega)).2.1 (by omega) (by rw [List.length_append]; simp; omega)
   ·by_cases hr0 : out.length < most
    ·rw [step hr0]
     exact (ih (by rw [List.length_append]; simp; omega)).2.2 (by omega) (by rw [List.length_append]; simp; omega)
    ·rw [codedGo_some _ _ _ _ _ _ _ _ _ hd, if_neg (by omega), if_pos (by omega), if_pos (by omega)]
  ·rw [if_neg hfit] at hd
   refine ⟨fun h1 _ => by omega, fun _ _ => codedGo_none _ _ _ _ _ _ _ hd, fun h1 _ => by omega⟩
theorem coded_end (s : ByteArray) (most p f : Nat) (out : List UInt8) (h : At s p (letterBits 256)) (hf : 8 * s.size + 1 ≤ p + f) :
  (p + 7 ≤ 8 * s.size → codedGo fixLetters fixDist s most f p out = .inr (out, p + 7)) ∧ (8 * s.size < p + 7 → codedGo fixLetters fixDist s most f p out = .inl 1) := by
 have hd := dec_letter s p 256 (by omega) h
 by_cases hp0 : 8 * s.size < p
 ·exact ⟨fun h1 => by omega, fun _ => coded_over s most p f out hp0⟩
 obtain ⟨g, rfl⟩ : ∃ g, f = g + 1 := ⟨f - 1, by omega⟩
 have e : letM 256 = 7 := rfl
 rw [e] at hd
 refine ⟨fun h1 => ?_, fun h1 => ?_⟩
 ·rw [if_pos h1] at hd
  rw [codedGo_some _ _ _ _ _ _ _ _ _ hd, if_pos rfl]
 ·rw [if_neg (by omega)] at hd
  exact codedGo_none _ _ _ _ _ _ _ hd
def copyBits (n far : Nat) : List Nat := (if n = 258 then letterBits 285 else letterBits (254 + n)) ++ (if far < 5 then codeBits (far - 1) 5 else codeBits 4 5 ++ [far - 5])
theorem coded_copy (s : ByteArray) (most p f n far : Nat) (out : List UInt8) (hn : (3 ≤ n ∧ n ≤ 10) ∨ n = 258) (hfar : 1 ≤ far ∧ far ≤ 6) (hout : far ≤ out.length) (h : At s p (copyBits n far)) (hf : 8 * s.size + 1 ≤ p + f) (ho : out.length ≤ most) :
  (p + (copyBits n far).length ≤ 8 * s.size → out.length + n ≤ most → codedGo fixLetters fixDist s most f p out = codedGo fixLetters fixDist s most (f - 1) (p + (copyBits n far).length) (copyOf out (out.length - far) far n)) ∧
  (8 * s.size < p + (copyBits n far).length → out.length + n ≤ most → codedGo fixLetters fixDist s most f p out = .inl 1) ∧
  (p + (copyBits n far).length ≤ 8 * s.size → most < out.length + n → codedGo fixLetters fixDist s most f p out = .inl 2) := by
 by_cases hp0 : 8 * s.size < p
 ·exact ⟨fun h1 _ => by omega, fun _ _ => coded_over s most p f out hp0, fun h1 _ => by omega⟩
 obtain ⟨g, rfl⟩ : ∃ g, f = g + 1 := ⟨f - 1, by omega⟩
 obtain ⟨x, hx⟩ : ∃ x, x = if n = 258 then 285 else 254 + n := ⟨_, rfl⟩
 have hxb : 257 ≤ x ∧ x ≤ 285 := by rw [hx]; split <;> omega
 have eL : (if n = 258 then letterBits 285 else letterBits (254 + n)) = letterBits x := by rw [hx]; split <;> rfl
 have lenx : ∀ q, lengthOf s q x = (n, q) := fun q => by
  unfold lengthOf
  by_cases h258 : n = 258
  ·have : x = 285 := by rw [hx, if_pos h258]
   rw [if_pos this, h258]
  ·have : x = 254 + n := by rw [hx, if_neg h258]
   rw [if_neg (by omega)]
   unfold rangedOf
   rw [if_pos (by omega)]
   simp only; rw [show 3 + (x - 257) = n by omega]
 obtain ⟨y, hy⟩ : ∃ y, y = if far < 5 then far - 1 else 4 := ⟨_, rfl⟩
 obtain ⟨ex, hex⟩ : ∃ ex, ex = (if far < 5 then ([] : List Nat) else [far - 5]) := ⟨_, rfl⟩
 have eD : (if far < 5 then codeBits (far - 1) 5 else codeBits 4 5 ++ [far - 5]) = codeBits y 5 ++ ex := by
  rw [hy, hex]; split <;> simp
 have y4 : y ≤ 4 := by rw [hy]; split <;> omega
 unfold copyBits at h ⊢
 rw [eL, eD] at h ⊢
 have hd := dec_letter s p x (by omega) h.left
 have h2 := h.right
 rw [letter_len] at h2
 have hd2 := dec_dist s (p + letM x) y (by omega) h2.left
 have h3 := h2.right
 rw [codeBits_len] at h3
 have ll : (letterBits x ++ (codeBits y 5 ++ ex)).length = letM x + (5 + ex.length) := by rw [List.length_append, List.length_append, letter_len, codeBits_len]
 rw [ll]
 have rng : ∀ q2, At s q2 ex → q2 + ex.length ≤ 8 * s.size → rangedOf s q2 y 2 = (far - 1, q2 + ex.length) := fun q2 ha hq => by
  unfold rangedOf
  by_cases h5 : far < 5
  ·have e1 : y = far - 1 := by rw [hy, if_pos h5]
   have e2 : ex = [] := by rw [hex, if_pos h5]
   rw [if_pos (by omega), e2, e1]; rfl
  ·have e1 : y = 4 := by rw [hy, if_neg h5]
   have e2 : ex = [far - 5] := by rw [hex, if_neg h5]
   rw [e2] at ha hq ⊢
   have hb := ha 0 (by simp) (by simp at hq; omega)
   simp at hb
   rw [if_neg (by omega), e1]
   simp only [numAt, List.length_singleton, Nat.reduceDiv, Nat.reduceMod, Nat.add_zero, Nat.reduceSub]
   rw [hb]
   congr 1
   simp; omega
 have rng2 : ∀ q2, (rangedOf s q2 y 2).2 = q2 + ex.length := fun q2 => by
  unfold rangedOf
  by_cases h5 : far < 5
  ·have e1 : y = far - 1 := by rw [hy, if_pos h5]
   have e2 : ex = [] := by rw [hex, if_pos h5]
   rw [if_pos (by omega), e2]; rfl
  ·have e1 : y = 4 := by rw [hy, if_neg h5]
   have e2 : ex = [far - 5] := by rw [hex, if_neg h5]
   rw [if_neg (by omega), e1, e2]; rfl
 by_cases f1 : p + letM x ≤ 8 * s.size
 ·rw [if_pos f1] at hd
  have st := codedGo_some fixLetters fixDist s most g p x (p + letM x) out hd
  rw [if_neg (by omega), if_neg (by omega)] at st
  have cs : copyStep fixDist s (p + letM x) out most x = match dec fixDist s (p + letM x) with
    | none => .inl 1
    | some (y, q2) => if 29 < y then .inl 1 else if 8 * s.size < (rangedOf s q2 y 2).2 ∨ out.length < 1 + (rangedOf s q2 y 2).1 then .inl 1 else if most < out.length + n then .inl 2 else .inr (copyOf out (out.length - (1 + (rangedOf s q2 y 2).1)) (1 + (rangedOf s q2 y 2).1) n, (rangedOf s q2 y 2).2) := by
   unfold copyStep; rw [if_neg (by omega), lenx]; rfl
  by_cases f2 : p + letM x + 5 ≤ 8 * s.size
  ·rw [if_pos f2] at hd2
   rw [hd2] at cs
   change copyStep fixDist s (p + letM x) out most x = (if 29 < y then _ else _) at cs
   rw [if_neg (by omega)] at cs
   by_cases f3 : p + letM x + 5 + ex.length ≤ 8 * s.size
   ·have r := rng (p + letM x + 5) h3 f3
    rw [r] at cs
    simp only at cs
    rw [if_neg (by omega), show 1 + (far - 1) = far by omega] at cs
    refine ⟨fun _ h4 => ?_, fun h4 _ => by omega, fun _ h4 => ?_⟩
    ·rw [if_neg (by omega)] at cs
     rw [st, cs]
     simp only [Nat.add_sub_cancel]
     rw [show p + letM x + 5 + ex.length = p + (letM x + (5 + ex.length)) by omega]
    ·rw [if_pos h4] at cs
     rw [st, cs]
   ·rw [if_pos (Or.inl (by rw [rng2]; omega))] at cs
    exact ⟨fun h4 _ => by omega, fun _ _ => by rw [st, cs], fun h4 _ => by omega⟩
  ·rw [if_neg f2] at hd2
   rw [hd2] at cs
   exact ⟨fun h4 _ => by omega, fun _ _ => by rw [st, cs], fun h4 _ => by omega⟩
 ·rw [if_neg f1] at hd
  exact ⟨fun h4 _ => by omega, fun _ _ => codedGo_none _ _ _ _ _ _ _ hd, fun h4 _ => by omega⟩
theorem strBits_app (a b : List UInt8) : strBits (a ++ b) = strBits a ++ strBits b := by simp [strBits]
theorem low_bits (n : Nat) (h : n < 65536) : strBits (lowL n 2) = numBits n 16 := by
 have e : lowL n 2 = [UInt8.ofNat (n % 256), UInt8.ofNat (n / 256 % 256)] := by simp [lowL, List.range_succ]
 rw [e]
 show numBits (UInt8.ofNat (n % 256)).toNat 8 ++ (numBits (UInt8.ofNat (n / 256 % 256)).toNat 8 ++ []) = _
 rw [u8_of _ (by omega), u8_of _ (by omega)]
 simp only [numBits, List.range_succ, List.range_zero, List.map_append, List.map_cons, List.map_nil, List.nil_append, List.append_nil, List.cons_append]
 simp only [List.cons.injEq, and_true]
 refine ⟨?_, ?_, ?_, ?_, ?_, ?_, ?_, ?_, ?_, ?_, ?_, ?_, ?_, ?_, ?_, ?_⟩ <;> omega
theorem str_at (s : ByteArray) : ∀ (t : List UInt8) (k : Nat), At s (8 * k) (strBits t) → k + t.length ≤ s.size → (s.data.toList.drop k).take t.length = t
 | [], k, _, _ => rfl
 | c :: t, k, h, hk => by
  simp only [List.length_cons] at hk ⊢
  have e : strBits (c :: t) = numBits c.toNat 8 ++ strBits t := rfl
  rw [e] at h
  have hl : s.data.toList.length = s.size := Array.length_toList
  have h1 := num_of s (8 * k) c.toNat 8 h.left (by omega) (by have := c.toNat_lt; simpa using this)
  rw [num8 s k (by omega)] at h1
  have hc : s[k] = c := UInt8.toNat_inj.1 h1
  have hr := h.right
  rw [numBits_len, show 8 * k + 8 = 8 * (k + 1) by omega] at hr
  have ih := str_at s t (k + 1) hr (by omega)
  rw [List.drop_eq_getElem_cons (by omega), List.take_succ_cons, ih]
  congr 1
def plainBits (p : Nat) (t : List UInt8) : List Nat := padBits p ++ strBits (lowL t.length 2 ++ lowL (65535 - t.length) 2 ++ t)
theorem plainBits_len (p : Nat) (t : List UInt8) : p + (plainBits p t).length = 8 * ((p + 7) / 8 + 4 + t.length) := by
 unfold plainBits padBits
 rw [List.length_append, List.length_replicate, strBits_len, List.length_append, List.length_append, lowL_len, lowL_len]; omega
theorem plain_at (s : ByteArray) (most p : Nat) (out t : List UInt8) (ht : t.length ≤ 40) (h : At s p (plainBits p t)) (ho : out.length ≤ most) :
  (p + (plainBits p t).length ≤ 8 * s.size → out.length + t.length ≤ most → plainOf s p out most = .inr (out ++ t, p + (plainBits p t).length)) ∧
  (8 * s.size < p + (plainBits p t).length → out.length + t.length ≤ most → plainOf s p out most = .inl 1) ∧
  (p + (plainBits p t).length ≤ 8 * s.size → most < out.length + t.length → plainOf s p out most = .inl 2) := by
 rw [plainBits_len]
 obtain ⟨k, hk⟩ : ∃ k, k = (p + 7) / 8 := ⟨_, rfl⟩
 unfold plainBits at h
 have h1 := h.right
 have pl : p + (padBits p).length = 8 * k := by unfold padBits; rw [List.length_replicate]; omega
 rw [pl, strBits_app, strBits_app] at h1
 have a1 := h1.left.left
 have a2 := h1.left.right
 have a3 := h1.right
 rw [low_bits _ (by omega)] at a1 a2
 rw [low_bits _ (by omega), numBits_len] at a2
 rw [List.length_append, strBits_len, strBits_len, lowL_len, lowL_len, show 8 * k + (8 * 2 + 8 * 2) = 8 * (k + 4) by omega] at a3
 unfold plainOf
 rw [← hk]
 by_cases c1 : 8 * s.size < 8 * k + 32
 ·rw [if_pos (Or.inl c1)]
  exact ⟨fun h4 _ => by omega, fun _ _ => rfl, fun h4 _ => by omega⟩
 ·have n1 := num_of s (8 * k) t.length 16 a1 (by omega) (by omega)
  have n2 := num_of s (8 * k + 16) (65535 - t.length) 16 a2 (by omega) (by omega)
  rw [n1, n2, if_neg (by omega)]
  by_cases c2 : k + 4 + t.length ≤ s.size
  ·have dt := str_at s t (k + 4) a3 c2
   rw [dt]
   refine ⟨fun _ h4 => by rw [if_pos (by omega)], fun h4 _ => by omega, fun _ h4 => ?_⟩
   rw [if_neg (by omega), if_neg (by omega)]
  ·refine ⟨fun h4 _ => by omega, fun _ h4 => ?_, fun h4 _ => by omega⟩
   rw [if_neg (by omega), if_pos (by omega)]
end Go.Proofs.YtnmkmmgaoplfiaaGreatDoor
namespace Go.Proofs.YtnmkmmgaoplfiaaGreatDoor
def Comes3 (s : ByteArray) (most len out : Nat) (X ok : Sum Nat (List UInt8 × Nat)) : Prop :=
 (len ≤ 8 * s.size → out ≤ most → X = ok) ∧ (8 * s.size < len → out ≤ most → X = .inl 1) ∧ (len ≤ 8 * s.size → most < out → X = .inl 2)
theorem Comes3.trans {s : ByteArray} {most l1 o1 l2 o2 : Nat} {X Y Z : Sum Nat (List UInt8 × Nat)} (h : Comes3 s most l1 o1 X Y) (k : o1 ≤ most → Comes3 s most l2 o2 Y Z) (hl : l1 ≤ l2) (ho : o1 ≤ o2) : Comes3 s most l2 o2 X Z := by
 refine ⟨fun a b => ?_, fun a b => ?_, fun a b => ?_⟩
 ·rw [h.1 (by omega) (by omega)]; exact (k (by omega)).1 a b
 ·by_cases c : l1 ≤ 8 * s.size
  ·rw [h.1 c (by omega)]; exact (k (by omega)).2.1 a b
  ·exact h.2.1 (by omega) (by omega)
 ·by_cases c : o1 ≤ most
  ·rw [h.1 (by omega) c]; exact (k c).2.2 a b
  ·exact h.2.2 (by omega) (by omega)
def copyN (N : Int) : Nat := if pickOf N 9 = 8 then 258 else 3 + pickOf N 9
def copyFar (F : Int) (len : Nat) : Nat := if len < 1 + pickOf F 6 then len else 1 + pickOf F 6
theorem copyN_is (N : Int) : (3 ≤ copyN N ∧ copyN N ≤ 10) ∨ copyN N = 258 := by
 have := pickOf_lt N 9 (by omega)
 unfold copyN; split <;> omega
theorem copyFar_is (F : Int) (len : Nat) (h : 0 < len) : (1 ≤ copyFar F len ∧ copyFar F len ≤ 6) ∧ copyFar F len ≤ len := by
 have := pickOf_lt F 6 (by omega)
 unfold copyFar; split <;> omega
def fixBits (t : List UInt8) (c : List Nat) : List Nat := textBits t ++ (c ++ letterBits 256)
theorem fix_text (s : ByteArray) (most p : Nat) (out t : List UInt8) (h : At s p (fixBits t [])) (ho : out.length ≤ most) :
  Comes3 s most (p + (fixBits t []).length) (out.length + t.length) (codedGo fixLetters fixDist s most (8 * s.size + 1) p out) (.inr (out ++ t, p + (fixBits t []).length)) := by
 have ge := textBits_ge t
 have le : (fixBits t []).length = (textBits t).length + 7 := by unfold fixBits; rw [List.length_append, List.nil_append, letter_len]; rfl
 unfold fixBits at h
 have a := coded_text s most t p (8 * s.size + 1) out h.left (by omega) ho
 have h2 := h.right
 rw [List.nil_append] at h2
 have b := coded_end s most (p + (textBits t).length) (8 * s.size + 1 - t.length) (out ++ t) h2 (by omega)
 rw [le]
 refine Comes3.trans (l1 := p + (textBits t).length) (o1 := out.length + t.length) a (fun hm => ⟨fun c _ => ?_, fun c _ => b.2 (by omega), fun c d => by omega⟩) (by omega) (Nat.le_refl _)
 rw [b.1 (by omega)]; rfl
theorem fix_copy (s : ByteArray) (most p : Nat) (out t : List UInt8) (n far : Nat) (hn : (3 ≤ n ∧ n ≤ 10) ∨ n = 258) (hfar : 1 ≤ far ∧ far ≤ 6) (hout : far ≤ (out ++ t).length) (h : At s p (fixBits t (copyBits n far))) (ho : out.length ≤ most) :
  Comes3 s most (p + (fixBits t (copyBits n far)).length) (out.length + t.length + n) (codedGo fixLetters fixDist s most (8 * s.size + 1) p out) (.inr (copyOf (out ++ t) ((out ++ t).length - far) far n, p + (fixBits t (copyBits n far)).length)) := by
 have ge := textBits_ge t
 have le : (fixBits t (copyBits n far)).length = (textBits t).length + ((copyBits n far).length + 7) := by unfold fixBits; rw [List.length_append, List.length_append, letter_len]; rfl
 have g1 : 1 ≤ (copyBits n far).length := by
  unfold copyBits; rw [List.length_append]
  have h5 : 5 ≤ (if far < 5 then codeBits (far - 1) 5 else codeBits 4 5 ++ [far - 5]).length := by split <;> simp [codeBits_len]
  omega
 unfold fixBits at h
 have a := coded_text s most t p (8 * s.size + 1) out h.left (by omega) ho
 have h2 := h.right
 rw [le]
 refine Comes3.trans (l1 := p + (textBits t).length) (o1 := out.length + t.length) a (fun hm => ?_) (by omega) (by omega)
 have lo : (out ++ t).length = out.length + t.length := List.length_append
 have b := coded_copy s most (p + (textBits t).length) (8 * s.size + 1 - t.length) n far (out ++ t) hn hfar hout h2.left (by omega) (by omega)
 rw [lo] at b
 refine Comes3.trans (l1 := p + (textBits t).length + (copyBits n far).length) (o1 := out.length + t.length + n) b (fun hm2 => ?_) (by omega) (Nat.le_refl _)
 have c := coded_end s most (p + (textBits t).length + (copyBits n far).length) (8 * s.size + 1 - t.length - 1) (copyOf (out ++ t) ((out ++ t).length - far) far n) h2.right (by omega)
 rw [lo] at c
 refine ⟨fun d _ => ?_, fun d _ => c.2 (by omega), fun d e => by omega⟩
 rw [c.1 (by omega), lo, show p + (textBits t).length + (copyBits n far).length + 7 = p + ((textBits t).length + ((copyBits n far).length + 7)) by omega]
theorem block_comes (s : ByteArray) (most p f kd last len : Nat) (out out' : List UInt8) (hk : kd < 4) (hl : last ≤ 1) (h : At s p ([last] ++ numBits kd 2)) (h3 : p + 3 ≤ len) (hf : 8 * s.size + 1 ≤ p + f) (hg : out.length ≤ out'.length)
  (hb : Comes3 s most len out'.length (blockOf s kd (p + 3) out most) (.inr (out', len))) :
  Comes3 s most len out'.length (blocksGo s most f p out) (if last = 1 then .inr (out', len) else blocksGo s most (f - 1) len out') := by
 cases f with
 | zero => exact ⟨fun a _ => by omega, fun _ _ => rfl, fun a _ => by omega⟩
 | succ g =>
  by_cases c1 : 8 * s.size < p + 3
  ·have e : blocksGo s most (g + 1) p out = .inl 1 := by unfold blocksGo; rw [if_pos c1]
   rw [e]
   exact ⟨fun a _ => by omega, fun _ _ => rfl, fun a _ => by omega⟩
  ·have b0 := h.left 0 (by simp) (by omega)
   simp at b0
   have b1 := num_of s (p + 1) kd 2 (by simpa using h.right) (by omega) hk
   have e : blocksGo s most (g + 1) p out = match blockOf s kd (p + 3) out most with | .inl e => .inl e | .inr (o, q) => if last = 1 then .inr (o, q) else blocksGo s most g q o := by
    conv => lhs; unfold blocksGo
    rw [if_neg c1, b1, b0]
    rfl
   rw [e, Nat.add_sub_cancel]
   refine ⟨fun a b => ?_, fun a b => ?_, fun a b => ?_⟩
   ·rw [hb.1 a b]
   ·rw [hb.2.1 a b]
   ·rw [hb.2.2 a b]
def pieceOut (st : List Nat × List UInt8) (x : Int × Int × Int × List UInt8) : List Nat × List UInt8 :=
 if x.1.tmod 3 = 0 then (st.1 ++ ([0] ++ numBits 0 2) ++ plainBits (st.1.length + 3) x.2.2.2, st.2 ++ x.2.2.2)
 else if x.1.tmod 3 = 1 ∧ 0 < (st.2 ++ x.2.2.2).length then
  (st.1 ++ ([0] ++ numBits 1 2) ++ fixBits x.2.2.2 (copyBits (copyN x.2.1) (copyFar x.2.2.1 (st.2 ++ x.2.2.2).length)), copyOf (st.2 ++ x.2.2.2) ((st.2 ++ x.2.2.2).length - copyFar x.2.2.1 (st.2 ++ x.2.2.2).length) (copyFar x.2.2.1 (st.2 ++ x.2.2.2).length) (copyN x.2.1))
 else (st.1 ++ ([0] ++ numBits 1 2) ++ fixBits x.2.2.2 [], st.2 ++ x.2.2.2)
theorem piece_pre (st : List Nat × List UInt8) (x : Int × Int × Int × List UInt8) : ∃ ys, (pieceOut st x).1 = st.1 ++ ys ∧ 3 ≤ ys.length := by
 unfold pieceOut
 split
 ·exact ⟨_, by rw [List.append_assoc], by simp [numBits_len]⟩
 ·split
  ·exact ⟨_, by rw [List.append_assoc], by simp [numBits_len]⟩
  ·exact ⟨_, by rw [List.append_assoc], by simp [numBits_len]⟩
theorem piece_comes (s : ByteArray) (most f : Nat) (st : List Nat × List UInt8) (x : Int × Int × Int × List UInt8) (ht : x.2.2.2.length ≤ 40) (h : At s 0 (pieceOut st x).1) (ho : st.2.length ≤ most) (hf : 8 * s.size + 1 ≤ st.1.length + f) :
  Comes3 s most (pieceOut st x).1.length (pieceOut st x).2.length (blocksGo s most f st.1.length st.2) (blocksGo s most (f - 1) (pieceOut st x).1.length (pieceOut st x).2) := by
 obtain ⟨bs, text⟩ := st
 obtain ⟨K, N, F, t⟩ := x
 unfold pieceOut at h ⊢
 simp only at h ⊢ ho hf ht
 have l3 : ∀ k, ([0] ++ numBits k 2).length = 3 := fun k => by rw [List.length_append, numBits_len]; rfl
 by_cases c0 : K.tmod 3 = 0
 ·simp only [if_pos c0] at h ⊢
  have h1 := h.left.right
  have h2 := h.right
  rw [List.length_append, l3] at h2
  rw [Nat.zero_add] at h1 h2
  have pa := plain_at s most (bs.length + 3) text t ht h2 ho
  have le : (bs ++ ([0] ++ numBits 0 2) ++ plainBits (bs.length + 3) t).length = bs.length + 3 + (plainBits (bs.length + 3) t).length := by rw [List.length_append, List.length_append, l3]
  rw [le, List.length_append]
  have := block_comes s most bs.length f 0 0 (bs.length + 3 + (plainBits (bs.length + 3) t).length) text (text ++ t) (by omega) (by omega) h1 (by omega) hf (by rw [List.length_append]; omega) (by rw [List.length_append]; unfold blockOf; rw [if_pos rfl]; exact pa)
  rw [if_neg (by omega), List.length_append] at this
  exact this
 ·simp only [if_neg c0] at h ⊢
  have bk : ∀ p out, blockOf s 1 p out most = codedGo fixLetters fixDist s most (8 * s.size + 1) p out := fun p out => by unfold blockOf; rw [if_neg (by omega), if_pos rfl]
  by_cases c1 : K.tmod 3 = 1 ∧ 0 < (text ++ t).length
  ·simp only [if_pos c1] at h ⊢
   have h1 := h.left.right
   have h2 := h.right
   rw [List.length_append, l3] at h2
   rw [Nat.zero_add] at h1 h2
   have cf := copyFar_is F (text ++ t).length c1.2
   have pa := fix_copy s most (bs.length + 3) text t (copyN N) (copyFar F (text ++ t).length) (copyN_is N) cf.1 cf.2 h2 ho
   have le : (bs ++ ([0] ++ numBits 1 2) ++ fixBits t (copyBits (copyN N) (copyFar F (text ++ t).length))).length = bs.length + 3 + (fixBits t (copyBits (copyN N) (copyFar F (text ++ t).length))).length := by rw [List.length_append, List.length_append, l3]
   have lc := copyOf_len (text ++ t) ((text ++ t).length - copyFar F (text ++ t).length) (copyFar F (text ++ t).length) (copyN N)
   have lo : (text ++ t).length = text.length + t.length := List.length_append
   rw [le]
   have := block_comes s most bs.length f 1 0 (bs.length + 3 + (fixBits t (copyBits (copyN N) (copyFar F (text ++ t).length))).length) text (copyOf (text ++ t) ((text ++ t).length - copyFar F (text ++ t).length) (copyFar F (text ++ t).length) (copyN N)) (by omega) (by omega) h1 (by omega) hf (by rw [lc]; omega) (by rw [bk, lc, lo]; rw [lo] at pa; exact pa)
   rw [if_neg (by omega)] at this
   exact this
  ·simp only [if_neg c1] at h ⊢
   have h1 := h.left.right
   have h2 := h.right
   rw [List.length_append, l3] at h2
   rw [Nat.zero_add] at h1 h2
   have pa := fix_text s most (bs.length + 3) text t h2 ho
   have le : (bs ++ ([0] ++ numBits 1 2) ++ fixBits t []).length = bs.length + 3 + (fixBits t []).length := by rw [List.length_append, List.length_append, l3]
   rw [le, List.length_append]
   have := block_comes s most bs.length f 1 0 (bs.length + 3 + (fixBits t []).length) text (text ++ t) (by omega) (by omega) h1 (by omega) hf (by rw [List.length_append]; omega) (by rw [bk, List.length_append]; exact pa)
   rw [if_neg (by omega), List.length_append] at this
   exact this
theorem piece_text (st : List Nat × List UInt8) (x : Int × Int × Int × List UInt8) : st.2.length ≤ (pieceOut st x).2.length := by
 unfold pieceOut
 split
 ·simp
 ·split
  ·rw [copyOf_len]; simp; omega
  ·simp
theorem fold_pre : ∀ (xs : List (Int × Int × Int × List UInt8)) (st : List Nat × List UInt8), ∃ ys, (xs.foldl pieceOut st).1 = st.1 ++ ys
 | [], st => ⟨[], by simp⟩
 | x :: xs, st => by
  obtain ⟨ys, h1, _⟩ := piece_pre st x
  obtain ⟨zs, h2⟩ := fold_pre xs (pieceOut st x)
  exact ⟨ys ++ zs, by rw [List.foldl_cons, h2, h1, List.append_assoc]⟩
theorem fold_text : ∀ (xs : List (Int × Int × Int × List UInt8)) (st : List Nat × List UInt8), st.2.length ≤ (xs.foldl pieceOut st).2.length
 | [], st => Nat.le_refl _
 | x :: xs, st => Nat.le_trans (piece_text st x) (fold_text xs (pieceOut st x))
theorem blocks_over (s : ByteArray) (most p f : Nat) (out : List UInt8) (h : 8 * s.size < p) : blocksGo s most f p out = .inl 1 := by
 cases f with
 | zero => rfl
 | succ g => unfold blocksGo; rw [if_pos (by omega)]
theorem fold_comes (s : ByteArray) (most : Nat) : ∀ (xs : List (Int × Int × Int × List UInt8)) (st : List Nat × List UInt8) (f : Nat), (∀ x ∈ xs, x.2.2.2.length ≤ 40) → At s 0 (xs.foldl pieceOut st).1 → st.2.length ≤ most → 8 * s.size + 1 ≤ st.1.length + f →
  Comes3 s most (xs.foldl pieceOut st).1.length (xs.foldl pieceOut st).2.length (blocksGo s most f st.1.length st.2) (blocksGo s most (f - xs.length) (xs.foldl pieceOut st).1.length (xs.foldl pieceOut st).2)
 | [], st, f, _, _, ho, _ => ⟨fun _ _ => rfl, fun a _ => blocks_over s most _ _ _ a, fun _ b => absurd ho (by simpa using b)⟩
 | x :: xs, st, f, ht, h, ho, hf => by
  obtain ⟨zs, h2⟩ := fold_pre xs (pieceOut st x)
  obtain ⟨ys, h1, h3⟩ := piece_pre st x
  rw [List.foldl_cons] at h ⊢
  have hp := h
  rw [h2] at hp
  have a := piece_comes s most f st x (ht x (List.mem_cons_self ..)) hp.left ho hf
  have l1 : (pieceOut st x).1.length = st.1.length + ys.length := by rw [h1, List.length_append]
  have l2 : (xs.foldl pieceOut (pieceOut st x)).1.length = (pieceOut st x).1.length + zs.length := by rw [h2, List.length_append]
  refine a.trans (fun hm => ?_) (by omega) (fold_text xs (pieceOut st x))
  have ih := fold_comes s most xs (pieceOut st x) (f - 1) (fun y hy => ht y (List.mem_cons_of_mem _ hy)) h hm (by omega)
  rw [List.length_cons, show f - (xs.length + 1) = f - 1 - xs.length by omega]
  exact ih
def packedOf (xs : List (Int × Int × Int × List UInt8)) : List Nat × List UInt8 := ((xs.foldl pieceOut ([], [])).1 ++ ([1] ++ numBits 1 2) ++ fixBits [] [], (xs.foldl pieceOut ([], [])).2)
theorem packed_comes (s : ByteArray) (most : Nat) (xs : List (Int × Int × Int × List UInt8)) (ht : ∀ x ∈ xs, x.2.2.2.length ≤ 40) (hx : xs.length ≤ 12) (h : At s 0 (packedOf xs).1) :
  Comes3 s most (packedOf xs).1.length (packedOf xs).2.length (blocksGo s most (8 * s.size + 1) 0 []) (.inr ((packedOf xs).2, (packedOf xs).1.length)) := by
 obtain ⟨st, hst⟩ : ∃ st, st = xs.foldl pieceOut ([], []) := ⟨_, rfl⟩
 have l3 : ([1] ++ numBits 1 2).length = 3 := rfl
 unfold packedOf at h ⊢
 rw [← hst] at h ⊢
 simp only at h ⊢
 have a := fold_comes s most xs ([], []) (8 * s.size + 1) ht (by rw [← hst]; exact h.left.left) (Nat.zero_le _) (by simp)
 rw [← hst] at a
 have le : (st.1 ++ ([1] ++ numBits 1 2) ++ fixBits [] []).length = st.1.length + 3 + (fixBits [] []).length := by rw [List.length_append, List.length_append, l3]
 rw [le]
 refine a.trans (fun hm => ?_) (by omega) (Nat.le_refl _)
 have h1 := h.left.right
 have h2 := h.right
 rw [List.length_append, l3] at h2
 rw [Nat.zero_add] at h1 h2
 have pa := fix_text s most (st.1.length + 3) st.2 [] h2 hm
 have bk : ∀ p out, blockOf s 1 p out most = codedGo fixLetters fixDist s most (8 * s.size + 1) p out := fun p out => by unfold blockOf; rw [if_neg (by omega), if_pos rfl]
 have ge : 3 * xs.length ≤ st.1.length := by
  rw [hst]
  have : ∀ (xs : List (Int × Int × Int × List UInt8)) (st : List Nat × List UInt8), st.1.length + 3 * xs.length ≤ (xs.foldl pieceOut st).1.length := by
   intro xs
   induction xs with
   | nil => intro st; simp
   | cons x xs ih =>
    intro st
    obtain ⟨ys, h1, h3⟩ := piece_pre st x
    have := ih (pieceOut st x)
    rw [List.foldl_cons, List.length_cons]
    rw [h1, List.length_append] at this
    omega
  have := this xs ([], [])
  simpa using this
 have := block_comes s most st.1.length (8 * s.size + 1 - xs.length) 1 1 (st.1.length + 3 + (fixBits [] []).length) st.2 st.2 (by omega) (by omega) h1 (by omega) (by omega) (Nat.le_refl _) (by rw [bk]; simpa using pa)
 rw [if_pos rfl] at this
 exact this
end Go.Proofs.YtnmkmmgaoplfiaaGreatDoor
namespace Go.Proofs.YtnmkmmgaoplfiaaGreatDoor
open Go.RowKit
structure PieceAt (w : World) (sb at_ : Nat) (K N F : Int) (S : ByteArray) : Prop where
 c0 : w.cell? ⟨sb, at_, none⟩ = some (.int .i64 K)
 c1 : w.cell? ⟨sb, at_ + 1, none⟩ = some (.int .i64 N)
 c2 : w.cell? ⟨sb, at_ + 2, none⟩ = some (.int .i64 F)
 c3 : w.cell? ⟨sb, at_ + 3, none⟩ = some (.string S)
 lt : sb < w.heap.size
 hK : -9223372036854775808 ≤ K ∧ K ≤ 9223372036854775807
 hN : -9223372036854775808 ≤ N ∧ N ≤ 9223372036854775807
 hF : -9223372036854775808 ≤ F ∧ F ≤ 9223372036854775807
 hS : S.size ≤ 9223372036854775807
theorem PieceAt.below {w w' : World} {sb a : Nat} {K N F : Int} {S : ByteArray} (h : PieceAt w sb a K N F S) (hb : Below w.heap.size w w') : PieceAt w' sb a K N F S := by
 have e : ∀ o, w'.cell? ⟨sb, o, none⟩ = w.cell? ⟨sb, o, none⟩ := fun o => hb.cell (p := ⟨sb, o, none⟩) h.lt
 exact ⟨(e _).trans h.c0, (e _).trans h.c1, (e _).trans h.c2, (e _).trans h.c3, Nat.lt_of_lt_of_le h.lt hb.size, h.hK, h.hN, h.hF, h.hS⟩
theorem BW.keepN {w w' : World} {b n : Nat} {B : List UInt8} (h : BW w b B n) (ht : Touch (fun _ => False) w w') : BW w' b B n := by
 have hb := h.lt
 obtain ⟨ao, cap, h0, ho⟩ := h.gv
 have c : ∀ o, w'.cell? ⟨b, o, none⟩ = w.cell? ⟨b, o, none⟩ := fun o => ht.cell hb (fun e => e)
 have f : ∀ o, w'.frozen? ⟨b, o, none⟩ = w.frozen? ⟨b, o, none⟩ := fun o => ht.frozen hb (fun e => e)
 exact ⟨⟨ao, cap, (c 0).trans h0, ht.owns ho (fun _ _ e => e)⟩, (c 1).trans h.cn, fun o => (f o).trans (h.fr o)⟩
theorem BWs.keepN {w w' : World} {b : Nat} {bs : List Nat} (h : BWs w b bs) (ht : Touch (fun _ => False) w w') : BWs w' b bs := ⟨h.bw.keepN ht, h.le⟩
theorem IT.ofNone' {b : Nat} {x y : World} (h : Touch (fun _ => False) x y) : IT b x y := h.mono (fun _ _ e => e.elim)
def piecesOf (P : Nat → Int × Int × Int × ByteArray) (k : Nat) : List (Int × Int × Int × List UInt8) := (List.range k).map fun i => ((P i).1, (P i).2.1, (P i).2.2.1, (P i).2.2.2.data.toList.take 40)
theorem piecesOf_succ (P : Nat → Int × Int × Int × ByteArray) (k : Nat) : piecesOf P (k + 1) = piecesOf P k ++ [((P k).1, (P k).2.1, (P k).2.2.1, (P k).2.2.2.data.toList.take 40)] := by simp [piecesOf, List.range_succ]
def foldOf (P : Nat → Int × Int × Int × ByteArray) (k : Nat) : List Nat × List UInt8 := (piecesOf P k).foldl pieceOut ([], [])
theorem foldOf_succ (P : Nat → Int × Int × Int × ByteArray) (k : Nat) : foldOf P (k + 1) = pieceOut (foldOf P k) ((P k).1, (P k).2.1, (P k).2.2.1, (P k).2.2.2.data.toList.take 40) := by
 unfold foldOf; rw [piecesOf_succ, List.foldl_append]; rfl
theorem klow_c (w : World) (x n : Nat) (X N : Int) (hX : X = (x : Int)) (hN : N = (n : Int)) (hx : x ≤ 4294967296) (hn : n ≤ 100) :
  Calls Tryz.prog 16 #[.int .i64 X, .int .i64 N] w fun e w' => e = .returned (.string ⟨(lowL x n).toArray⟩) ∧ Touch (fun _ => False) w w' := by
 subst hX hN; exact (low_c w x n hx hn).mono fun _ _ h => ⟨h.1, Touch.ofBelow h.2 _⟩
theorem textBits_bd (t : List UInt8) : (textBits t).length ≤ 9 * t.length := by
 induction t with
 | nil => exact Nat.le_refl _
 | cons c t ih =>
  rw [textBits_cons, List.length_append, letter_len, List.length_cons]
  have : letM c.toNat ≤ 9 := by unfold letM; split; omega; split; omega; split <;> omega
  omega
theorem copyBits_bd (n far : Nat) : (copyBits n far).length ≤ 20 := by
 unfold copyBits
 have a : (if n = 258 then letterBits 285 else letterBits (254 + n)).length ≤ 9 := by
  split <;> rw [letter_len] <;> (unfold letM; split; omega; split; omega; split <;> omega)
 have b : (if far < 5 then codeBits (far - 1) 5 else codeBits 4 5 ++ [far - 5]).length ≤ 6 := by split <;> simp [codeBits_len]
 rw [List.length_append]; omega
theorem piece_bd (st : List Nat × List UInt8) (x : Int × Int × Int × List UInt8) (ht : x.2.2.2.length ≤ 40) : (pieceOut st x).1.length ≤ st.1.length + 1000 ∧ (pieceOut st x).2.length ≤ st.2.length + 300 := by
 have tb := textBits_bd x.2.2.2
 have pl := plainBits_len (st.1.length + 3) x.2.2.2
 have cn := copyN_is x.2.1
 have l7 : (letterBits 256).length = 7 := letter_len 256
 unfold pieceOut
 split
 ·simp only [List.length_append, numBits_len, List.length_singleton]; omega
 ·split
  ·have cb := copyBits_bd (copyN x.2.1) (copyFar x.2.2.1 (st.2 ++ x.2.2.2).length)
   simp only [fixBits, copyOf_len, List.length_append, numBits_len, List.length_singleton, l7] at cb ⊢; omega
  ·simp only [fixBits, List.length_append, numBits_len, List.length_singleton, List.length_nil, l7]; omega
theorem foldOf_bd (P : Nat → Int × Int × Int × ByteArray) : ∀ k, (foldOf P k).1.length ≤ 1000 * k ∧ (foldOf P k).2.length ≤ 300 * k
 | 0 => ⟨Nat.le_refl _, Nat.le_refl _⟩
 | k + 1 => by
  have ih := foldOf_bd P k
  have := piece_bd (foldOf P k) ((P k).1, (P k).2.1, (P k).2.2.1, (P k).2.2.2.data.toList.take 40) (List.length_take_le _ _)
  rw [foldOf_succ]; omega
theorem kpacked_c (w : World) (ao : Option Addr) (len cap : Nat) (P : Nat → Int × Int × Int × ByteArray) (hlen : len ≤ 9223372036854775807)
  (hop : ∀ i, i < len → ∃ sb so, ao = some ⟨sb, so, none⟩ ∧ PieceAt w sb (so + i * 4) (P i).1 (P i).2.1 (P i).2.2.1 (P i).2.2.2) :
  Calls Tryz.prog 22 #[.slice ao len cap] w fun e w' => e = .returned (.tuple #[.string ⟨(bytesOf (packedOf (piecesOf P (min len 12))).1).toArray⟩, .string ⟨(packedOf (piecesOf P (min len 12))).2.toArray⟩]) ∧ Below w.heap.size w w' := by
 have HOP : Hid (∀ i, i < len → ∃ sb so, ao = some ⟨sb, so, none⟩ ∧ PieceAt w sb (so + i * 4) (P i).1 (P i).2.1 (P i).2.2.1 (P i).2.2.2) := hop
 clear hop
 obtain ⟨m, hm⟩ : ∃ m, m = min len 12 := ⟨_, rfl⟩
 rw [← hm]
 have m1 : m ≤ len := by omega
 have m2 : m ≤ 12 := by omega
 have m3 : m < 12 → m = len := by omega
 have HM3 : Hid (m < 12 → m = len) := m3
 clear m3 hm
 go_enter Tryz.func22, Tryz.ntmps22
 go_wp2
 obtain ⟨w1, hw1⟩ : ∃ w1, w1 = w.alloc (.cells #[.slice none 0 0, .int .i64 0] 106) := ⟨_, rfl⟩
 rw [← hw1]
 have t1 : Touch (fun _ => False) w w1 := by rw [hw1]; exact (Touch.refl _ w).alloc _
 have bw1 : BWs w1 w.heap.size [] := by
  have hc : ∀ j, w1.cell? ⟨w.heap.size, j, none⟩ = #[Value.slice none 0 0, .int .i64 0][j]? := fun j => by rw [hw1]; exact row_cell (heap_alloc_new w _) j
  refine ⟨⟨⟨none, 0, by rw [hc]; rfl, World.ownsRow_nil _ _ _ _⟩, by rw [hc]; rfl, fun o => by rw [hw1]; exact row_fr (heap_alloc_new w _) o⟩, fun x hx => by cases hx⟩
 have s1 : w.heap.size < w1.heap.size := bw1.lt
 clear hw1
 have fin : ∀ w', IT w.heap.size w1 w' → Below w.heap.size w w' := fun w' it =>
  (t1.toBelow (Nat.le_refl _) (fun _ _ e => e)).trans (it.toBelow (by omega) (fun k hk e => by rcases e with e | ⟨e, _⟩ <;> omega))
 have FIN : Hid (∀ w', IT w.heap.size w1 w' → Below w.heap.size w w') := fin
 clear fin
 go_loopw [5, 6] (fun tx i wr => ∃ k : Nat, k ≤ m ∧ i = .int .i64 (k : Int) ∧ tx = .string ⟨(foldOf P k).2.toArray⟩ ∧ BWs wr w.heap.size (foldOf P k).1 ∧ IT w.heap.size w1 wr) (fun _ i _ => m - (intOf i).toNat)
 case atStart => exact ⟨0, by omega, rfl, rfl, bw1, IT.refl _ _⟩
 case round =>
  clear bw1
  obtain ⟨k, hk, rfl, rfl, hb, hit⟩ := hrel
  by_cases hlt : k < m
  ·obtain ⟨sb, so, rfl, op⟩ := HOP.out k (by omega)
   obtain ⟨p0, p1, p2, p3, plt, pK, pN, pF, pS⟩ := op.below (FIN.out wr hit)
   have HX : Hid (foldOf P (k + 1) = pieceOut (foldOf P k) ((P k).1, (P k).2.1, (P k).2.2.1, (P k).2.2.2.data.toList.take 40)) := foldOf_succ P k
   have bd := foldOf_bd P k
   obtain ⟨bs, hbs⟩ : ∃ bs, bs = (foldOf P k).1 := ⟨_, rfl⟩
   obtain ⟨text, htext⟩ : ∃ text, text = (foldOf P k).2 := ⟨_, rfl⟩
   have est : foldOf P k = (bs, text) := by rw [hbs, htext]
   have hx := HX.out
   rw [est] at hx
   rw [← hbs] at hb bd
   rw [← htext] at bd ⊢
   obtain ⟨K, hK⟩ : ∃ K, K = (P k).1 := ⟨_, rfl⟩
   obtain ⟨N, hN⟩ : ∃ N, N = (P k).2.1 := ⟨_, rfl⟩
   obtain ⟨F, hF⟩ : ∃ F, F = (P k).2.2.1 := ⟨_, rfl⟩
   obtain ⟨S, hS⟩ : ∃ S, S = (P k).2.2.2 := ⟨_, rfl⟩
   obtain ⟨t, htt⟩ : ∃ t, t = S.data.toList.take 40 := ⟨_, rfl⟩
   rw [← hS, ← hK, ← hN, ← hF, ← htt] at hx
   rw [← hK] at p0 pK
   rw [← hN] at p1 pN
   rw [← hF] at p2 pF
   rw [← hS] at p3 pS
   have t40 : t.length ≤ 40 := by rw [htt]; exact List.length_take_le _ _
   have HP : Hid (foldOf P (k + 1) = pieceOut (bs, text) (K, N, F, t)) := hx
   have HT : Hid (t = S.data.toList.take 40) := htt
   clear hx HX hbs htext est hK hN hF hS htt op
   obtain ⟨TX, hTX⟩ : ∃ TX : ByteArray, TX = ⟨text.toArray⟩ := ⟨_, rfl⟩
   rw [← hTX]
   have HTX : Hid (TX = ⟨text.toArray⟩) := hTX
   have xsz : Hid (TX.size = text.length) := by unfold Hid; rw [hTX]; exact kstr_size text
   clear hTX
   have k12 : (k : Int) < 12 := by omega
   have bl : bs.length ≤ 12000 := by omega
   have tl : text.length ≤ 3600 := by omega
   have xsz2 : TX.size ≤ 3600 := by rw [xsz.out]; omega
   have hwl := hb.lt
   clear bd
   go_wp2_with fail
   obtain ⟨W2, hW2⟩ : ∃ W2, W2 = wr.alloc (.cells #[.int .i64 K, .int .i64 N, .int .i64 F, .string S] 108) := ⟨_, rfl⟩
   rw [← hW2]
   have tW : Touch (fun _ => False) wr W2 := by rw [hW2]; exact (Touch.refl _ wr).alloc _
   have ty : Typed W2 wr.heap.size 108 := by rw [hW2]; exact ⟨_, _, heap_alloc_new wr _⟩
   have KP : Hid (∀ w', IT w.heap.size W2 w' → w'.cell? ⟨wr.heap.size, 0, none⟩ = some (.int .i64 K) ∧ w'.cell? ⟨wr.heap.size, 1, none⟩ = some (.int .i64 N) ∧ w'.cell? ⟨wr.heap.size, 2, none⟩ = some (.int .i64 F)) := fun w' it => by
    have hc : ∀ j, W2.cell? ⟨wr.heap.size, j, none⟩ = #[Value.int .i64 K, .int .i64 N, .int .i64 F, .string S][j]? := fun j => by rw [hW2]; exact row_cell (heap_alloc_new wr _) j
    have nt := IT.not ty hwl (by decide)
    exact ⟨Touch.at it (by rw [hc]; rfl) nt, Touch.at it (by rw [hc]; rfl) nt, Touch.at it (by rw [hc]; rfl) nt⟩
   have hb2 := hb.keepN tW
   have it2 : IT w.heap.size w1 W2 := hit.trans (IT.ofNone' tW)
   clear hW2 tW hb hit p0 p1 p2 p3
   obtain ⟨T, hT⟩ : ∃ T : ByteArray, T = ⟨t.toArray⟩ := ⟨_, rfl⟩
   have HTT : Hid (T = ⟨t.toArray⟩) := hT
   have tsz : Hid (T.size = t.length) := by unfold Hid; rw [hT]; exact kstr_size t
   have tsz2 : T.size ≤ 40 := by rw [tsz.out]; exact t40
   clear hT
   refine (kmost_c W2 S T pS (by rw [HTT.out, HT.out])).mono ?_
   rintro e w3 ⟨rfl, rfl⟩
   go_wp2_with fail
   refine (kbit_c W2 w.heap.size bs 0 _ rfl (by omega) hb2 (by omega)).mono ?_
   rintro e w4 ⟨rfl, b4, t4⟩
   obtain ⟨z0, z1, z2⟩ := KP.out w4 t4
   obtain ⟨r, hr⟩ : ∃ r, r = K.tmod 3 := ⟨_, rfl⟩
   have rb : -3 < r ∧ r < 3 := by rw [hr]; exact ⟨by have := Int.lt_tmod_of_pos K (show (0 : Int) < 3 by omega); omega, Int.tmod_lt_of_pos K (by omega)⟩
   have hr' : K.tmod 3 = r := hr.symm
   have HR : Hid (r = K.tmod 3) := hr
   clear hr
   by_cases c0 : r = 0
   ·have HO : Hid (foldOf P (k + 1) = (bs ++ ([0] ++ numBits 0 2) ++ plainBits (bs.length + 3) t, text ++ t)) := by
     unfold Hid; rw [HP.out]; unfold pieceOut; simp only; rw [if_pos (by rw [← HR.out]; exact c0)]
    go_wp2_with fail
    refine (knumber_c w4 w.heap.size (bs ++ [0]) 0 2 _ _ rfl rfl (by omega) (by omega) b4 (by rw [List.length_append]; simp; omega)).mono ?_
    rintro e w5 ⟨rfl, b5, t5⟩
    go_wp2_with fail
    refine (klow_c w5 t.length 2 _ _ (by have := tsz.out; omega) rfl (by omega) (by omega)).mono ?_
    rintro e w6 ⟨rfl, t6⟩
    go_wp2_with fail
    refine (klow_c w6 (65535 - t.length) 2 _ _ (by have := tsz.out; omega) rfl (by omega) (by omega)).mono ?_
    rintro e w7 ⟨rfl, t7⟩
    have b7 := (b5.keepN t6).keepN t7
    have l2 : ∀ x, (ByteArray.mk (lowL x 2).toArray).size = 2 := fun x => by rw [kstr_size, lowL_len]
    have l2a := l2 t.length
    have l2b := l2 (65535 - t.length)
    obtain ⟨A, hA⟩ : ∃ A : ByteArray, A = ⟨(lowL t.length 2).toArray⟩ := ⟨_, rfl⟩
    obtain ⟨C, hC⟩ : ∃ C : ByteArray, C = ⟨(lowL (65535 - t.length) 2).toArray⟩ := ⟨_, rfl⟩
    rw [← hA] at l2a ⊢
    rw [← hC] at l2b ⊢
    have HAC : Hid (A ++ C ++ T = ⟨(lowL t.length 2 ++ lowL (65535 - t.length) 2 ++ t).toArray⟩) := by unfold Hid; rw [hA, hC, HTT.out, kstr_app, kstr_app]
    clear hA hC l2
    go_wp2_with fail
    refine (kbytes_c w7 w.heap.size (bs ++ [0] ++ numBits 0 2) (lowL t.length 2 ++ lowL (65535 - t.length) 2 ++ t) _ HAC.out b7 (by rw [List.length_append, List.length_append, numBits_len]; simp; omega) (by rw [List.length_append, List.length_append, lowL_len, lowL_len]; omega)).mono ?_
    rintro e w8 ⟨rfl, b8, t8⟩
    go_wp2
    go_roundw
    case rel =>
     refine ⟨k + 1, by omega, by go_num, ?_, ?_, ?_⟩
     ·rw [HO.out, HTX.out, HTT.out, kstr_app]
     ·rw [HO.out]
      have e3 : (bs ++ [0] ++ numBits 0 2).length = bs.length + 3 := by rw [List.length_append, List.length_append, numBits_len]; simp
      rw [e3] at b8
      have e4 : bs ++ ([0] ++ numBits 0 2) ++ plainBits (bs.length + 3) t = bs ++ [0] ++ numBits 0 2 ++ padBits (bs.length + 3) ++ strBits (lowL t.length 2 ++ lowL (65535 - t.length) 2 ++ t) := by unfold plainBits; simp only [List.append_assoc]
      rw [e4]; exact b8
     ·exact (it2.trans (t4.trans t5)).trans (((IT.ofNone' t6).trans (IT.ofNone' t7)).trans t8)
    case measure => simp [intOf]; omega
   ·have c0' : (r == 0) = false := by simp; exact c0
    go_wp2_with fail
    refine (knumber_c w4 w.heap.size (bs ++ [0]) 1 2 _ _ rfl rfl (by omega) (by omega) b4 (by rw [List.length_append]; simp; omega)).mono ?_
    rintro e w5 ⟨rfl, b5, t5⟩
    have it5 := t4.trans t5
    obtain ⟨b0, hb0⟩ : ∃ b0, b0 = bs ++ [0] ++ numBits 1 2 := ⟨_, rfl⟩
    rw [← hb0] at b5
    have HB0 : Hid (b0 = bs ++ [0] ++ numBits 1 2) := hb0
    have b0l : b0.length ≤ 12003 := by rw [hb0, List.length_append, List.length_append, numBits_len]; simp; omega
    clear hb0 b4 t4 t5 z0 z1 z2
    go_wp2
    go_loopw [9] (fun i wq => ∃ j : Nat, j ≤ t.length ∧ i = .int .i64 (j : Int) ∧ BWs wq w.heap.size (b0 ++ textBits (t.take j)) ∧ IT w.heap.size W2 wq) (fun i _ => t.length - (intOf i).toNat)
    case atStart => exact ⟨0, by omega, rfl, by simpa [textBits] using b5, it5⟩
    case round =>
     clear b5 it5
     obtain ⟨j, hj, rfl, hb3, it3⟩ := hrel
     have tbd := textBits_bd (t.take j)
     have tlj : (t.take j).length ≤ 40 := by rw [List.length_take]; omega
     have lb : (b0 ++ textBits (t.take j)).length ≤ 13000 := by rw [List.length_append]; omega
     by_cases hjl : j < t.length
     ·have hjT : j < T.size := by have := tsz.out; omega
      have hjI : (j : Int) < (T.size : Int) := by omega
      have HC : Hid (T[j].toNat = t[j].toNat) := by
       unfold Hid
       have e : ∀ (A : ByteArray) (hA : j < A.size), A = ⟨t.toArray⟩ → A[j].toNat = t[j].toNat := by
        intro A hA hE; subst hE; simp [ByteArray.getElem_eq_getElem_data]
       exact e T hjT HTT.out
      have c256 := T[j].toNat_lt
      go_wp2_with (go_at_call 41; refine (kletter_c wr w.heap.size (b0 ++ textBits (t.take j)) T[j].toNat _ rfl (by omega) hb3 (by omega)).mono ?_; rintro e w6 ⟨rfl, b6, t6⟩)
      go_roundw
      case rel =>
       refine ⟨j + 1, by omega, by go_num, ?_, it3.trans t6⟩
       have e : textBits (t.take (j + 1)) = textBits (t.take j) ++ letterBits t[j].toNat := by
        rw [List.take_succ_eq_append_getElem hjl]; unfold textBits; rw [List.flatMap_append]; simp only [List.flatMap_cons, List.flatMap_nil, List.append_nil]
       rw [e, ← HC.out, ← List.append_assoc]; exact b6
      case measure => simp [intOf]; omega
     ·obtain rfl : j = t.length := by omega
      rw [List.take_length] at hb3 lb
      clear tbd tlj
      obtain ⟨z0, z1, z2⟩ := KP.out wr it3
      have hnj : ¬ (t.length : Int) < (T.size : Int) := by have := tsz.out; omega
      have hnj' : ¬ t.length < T.size := by have := tsz.out; omega
      have HA : Hid (TX ++ T = ⟨(text ++ t).toArray⟩) := by unfold Hid; rw [HTX.out, HTT.out, kstr_app]
      have HS2 : Hid (TX.size + T.size = (text ++ t).length) := by unfold Hid; rw [xsz.out, tsz.out, List.length_append]
      have s2 : TX.size + T.size ≤ 3640 := by omega
      by_cases c1 : r = 1 ∧ 0 < (text ++ t).length
      ·obtain ⟨cr, cl⟩ := c1
       have HO : Hid (foldOf P (k + 1) = (bs ++ ([0] ++ numBits 1 2) ++ fixBits t (copyBits (copyN N) (copyFar F (text ++ t).length)), copyOf (text ++ t) ((text ++ t).length - copyFar F (text ++ t).length) (copyFar F (text ++ t).length) (copyN N))) := by
        unfold Hid; rw [HP.out]; unfold pieceOut; simp only; rw [if_neg (by rw [← HR.out]; exact c0), if_pos (by rw [← HR.out]; exact ⟨cr, cl⟩)]
       obtain ⟨L, hL⟩ : ∃ L, L = (text ++ t).length := ⟨_, rfl⟩
       obtain ⟨n, hn⟩ : ∃ n, n = copyN N := ⟨_, rfl⟩
       obtain ⟨far, hfar⟩ : ∃ far, far = copyFar F L := ⟨_, rfl⟩
       have hO := HO.out
       rw [← hL, ← hn, ← hfar] at hO
       have HO2 : Hid (foldOf P (k + 1) = (bs ++ ([0] ++ numBits 1 2) ++ fixBits t (copyBits n far), copyOf (text ++ t) (L - far) far n)) := hO
       have HE5 : Hid (bs ++ ([0] ++ numBits 1 2) ++ fixBits t (copyBits n far) = b0 ++ textBits t ++ (if n = 258 then letterBits 285 else letterBits (254 + n)) ++ (if far < 5 then codeBits (far - 1) 5 else codeBits 4 5 ++ [far - 5]) ++ letterBits 256) := by
        unfold Hid; rw [HB0.out]; unfold fixBits copyBits; simp only [List.append_assoc]
       have nis := copyN_is N
       have fis := copyFar_is F L (by omega)
       rw [← hn] at nis
       rw [← hfar] at fis
       obtain ⟨pk, hpk⟩ : ∃ pk, pickOf N 9 = pk := ⟨_, rfl⟩
       have pk9 := pickOf_lt N 9 (by omega)
       rw [hpk] at pk9
       have HPK : Hid (pickOf N 9 = pk) := hpk
       have HN : Hid (n = if pk = 8 then 258 else 3 + pk) := by unfold Hid; rw [hn]; unfold copyN; rw [hpk]
       obtain ⟨pf, hpf⟩ : ∃ pf, pickOf F 6 = pf := ⟨_, rfl⟩
       have pf6 := pickOf_lt F 6 (by omega)
       rw [hpf] at pf6
       have HPF : Hid (pickOf F 6 = pf) := hpf
       have HF : Hid (far = if L < 1 + pf then L else 1 + pf) := by unfold Hid; rw [hfar]; unfold copyFar; rw [hpf]
       have HL : Hid (L = (text ++ t).length) := hL
       have LI : (TX.size : Int) + (T.size : Int) = (L : Int) := by have := HS2.out; omega
       have L1 : 1 ≤ L := by omega
       have L2 : L ≤ 3640 := by have := HS2.out; omega
       have Lp : (0 : Int) < (L : Int) := by omega
       clear HO hO hL hn hfar hpk hpf cl
       subst cr
       go_wp2_with fail
       refine (kpick_c wr N 9 pk _ rfl HPK.out (by omega) (by omega) pN.1 pN.2).mono ?_
       rintro e w6 ⟨rfl, rfl⟩
       by_cases e8 : pk = 8
       case' pos =>
        subst e8
        have n258 : n = 258 := by have := HN.out; rw [if_pos rfl] at this; exact this
        have HLL : Hid ((if n = 258 then letterBits 285 else letterBits (254 + n)) = letterBits 285) := by unfold Hid; rw [if_pos n258]
        have hn2 : (258 : Int) = (n : Int) := by omega
        go_wp2_with fail
        refine (kletter_c wr w.heap.size (b0 ++ textBits t) 285 _ rfl (by omega) hb3 (by omega)).mono ?_
        rintro e w6 ⟨rfl, b6, t6⟩
        rw [← HLL.out] at b6
        rw [hn2]
        clear n258 hn2 HLL
       case' neg =>
        have hne : n = 3 + pk := by have := HN.out; rw [if_neg e8] at this; exact this
        have HLL : Hid ((if n = 258 then letterBits 285 else letterBits (254 + n)) = letterBits (254 + n)) := by unfold Hid; rw [if_neg (by omega)]
        have hn2 : 3 + (pk : Int) = (n : Int) := by omega
        have hn3 : ((n : Int) == 11) = false := by simp; omega
        have hn4 : ¬ (n : Int) = 11 := by omega
        clear hne
        go_wp2_with fail
        refine (kletter_c wr w.heap.size (b0 ++ textBits t) (254 + n) _ (by omega) (by omega) hb3 (by omega)).mono ?_
        rintro e w6 ⟨rfl, b6, t6⟩
        rw [← HLL.out] at b6
        clear hn2 HLL hn3 hn4
       all_goals
        have it6 := it3.trans t6
        obtain ⟨y0, y1, y2⟩ := KP.out w6 it6
        have lb6 : (b0 ++ textBits t ++ (if n = 258 then letterBits 285 else letterBits (254 + n))).length ≤ 13009 := by
         have : (if n = 258 then letterBits 285 else letterBits (254 + n)).length ≤ 9 := by
          split <;> rw [letter_len] <;> (unfold letM; split; omega; split; omega; split <;> omega)
         rw [List.length_append]; omega
        obtain ⟨b1, hb1⟩ : ∃ b1, b1 = b0 ++ textBits t ++ (if n = 258 then letterBits 285 else letterBits (254 + n)) := ⟨_, rfl⟩
        rw [← hb1] at b6 lb6
        have HE6 : Hid (bs ++ ([0] ++ numBits 1 2) ++ fixBits t (copyBits n far) = b1 ++ (if far < 5 then codeBits (far - 1) 5 else codeBits 4 5 ++ [far - 5]) ++ letterBits 256) := by unfold Hid; rw [HE5.out, hb1]
        clear hb1 z0 z1 z2 t6
        go_wp2_with fail
        refine (kpick_c w6 F 6 pf _ rfl HPF.out (by omega) (by omega) pF.1 pF.2).mono ?_
        rintro e w7 ⟨rfl, rfl⟩
        have LA : L - far + far = L := by omega
        have HCY : Hid (L = (text ++ t).length) := HL
        have tail : ∀ w8, IT w.heap.size w6 w8 → BWs w8 w.heap.size (b1 ++ (if far < 5 then codeBits (far - 1) 5 else codeBits 4 5 ++ [far - 5])) → IT w.heap.size w1 w8 := fun w8 i8 _ => it2.trans (it6.trans i8)
        have HTL : Hid (∀ w8, IT w.heap.size w6 w8 → IT w.heap.size w1 w8) := fun w8 i8 => it2.trans (it6.trans i8)
        clear tail
        by_cases cf : L < 1 + pf
        case' pos =>
         have ff : far = L := by have := HF.out; rw [if_pos cf] at this; exact this
         have cfi : (L : Int) < 1 + (pf : Int) := by omega
         have lf : (L : Int) = (far : Int) := by omega
         clear ff
        case' neg =>
         have ff : far = 1 + pf := by have := HF.out; rw [if_neg cf] at this; exact this
         have cfi : ¬ (L : Int) < 1 + (pf : Int) := by omega
         have lf : 1 + (pf : Int) = (far : Int) := by omega
         clear ff
        all_goals
         by_cases f5 : far < 5
         ·have HEE : Hid ((if far < 5 then codeBits (far - 1) 5 else codeBits 4 5 ++ [far - 5]) = codeBits (far - 1) 5) := by unfold Hid; rw [if_pos f5]
          go_wp2_with fail
          refine (kcode_c w6 w.heap.size b1 (far - 1) 5 _ _ (by omega) rfl (by omega) (by omega) (by omega) b6 (by omega)).mono ?_
          rintro e w8 ⟨rfl, b8, t8⟩
          rw [← HEE.out] at b8
          have lb8 : (b1 ++ (if far < 5 then codeBits (far - 1) 5 else codeBits 4 5 ++ [far - 5])).length ≤ 13020 := by
           have : (if far < 5 then codeBits (far - 1) 5 else codeBits 4 5 ++ [far - 5]).length ≤ 6 := by split <;> simp [codeBits_len]
           rw [List.length_append]; omega
          go_wp2_with fail
          refine (kcopied_c w8 (text ++ t) (TX ++ T) far n _ _ rfl rfl HA.out (by omega) (by rw [← HL.out]; omega) (by omega) (by rw [← HL.out]; omega)).mono ?_
          rintro e w9 ⟨rfl, rfl⟩
          go_wp2_with fail
          refine (kletter_c w8 w.heap.size (b1 ++ (if far < 5 then codeBits (far - 1) 5 else codeBits 4 5 ++ [far - 5])) 256 _ rfl (by omega) b8 (by omega)).mono ?_
          rintro e w9 ⟨rfl, b9, t9⟩
          go_wp2
          go_roundw
          case rel => exact ⟨k + 1, by omega, by go_num, by rw [HO2.out, HL.out, List.length_append], by rw [HO2.out, HE6.out]; exact b9, HTL.out w9 (t8.trans t9)⟩
          case measure => simp [intOf]; omega
         ·have HEE : Hid ((if far < 5 then codeBits (far - 1) 5 else codeBits 4 5 ++ [far - 5]) = codeBits 4 5 ++ [far - 5]) := by unfold Hid; rw [if_neg f5]
          go_wp2_with fail
          refine (kcode_c w6 w.heap.size b1 4 5 _ _ rfl rfl (by omega) (by omega) (by omega) b6 (by omega)).mono ?_
          rintro e w7 ⟨rfl, b7, t7⟩
          go_wp2_with fail
          refine (kbit_c w7 w.heap.size (b1 ++ codeBits 4 5) (far - 5) _ (by omega) (by omega) b7 (by rw [List.length_append, codeBits_len]; omega)).mono ?_
          rintro e w8 ⟨rfl, b8, t8'⟩
          have t8 := t7.trans t8'
          rw [List.append_assoc] at b8
          rw [← HEE.out] at b8
          have lb8 : (b1 ++ (if far < 5 then codeBits (far - 1) 5 else codeBits 4 5 ++ [far - 5])).length ≤ 13020 := by
           have : (if far < 5 then codeBits (far - 1) 5 else codeBits 4 5 ++ [far - 5]).length ≤ 6 := by split <;> simp [codeBits_len]
           rw [List.length_append]; omega
          go_wp2_with fail
          refine (kcopied_c w8 (text ++ t) (TX ++ T) far n _ _ rfl rfl HA.out (by omega) (by rw [← HL.out]; omega) (by omega) (by rw [← HL.out]; omega)).mono ?_
          rintro e w9 ⟨rfl, rfl⟩
          go_wp2_with fail
          refine (kletter_c w8 w.heap.size (b1 ++ (if far < 5 then codeBits (far - 1) 5 else codeBits 4 5 ++ [far - 5])) 256 _ rfl (by omega) b8 (by omega)).mono ?_
          rintro e w9 ⟨rfl, b9, t9⟩
          go_wp2
          go_roundw
          case rel => exact ⟨k + 1, by omega, by go_num, by rw [HO2.out, HL.out, List.length_append], by rw [HO2.out, HE6.out]; exact b9, HTL.out w9 (t8.trans t9)⟩
          case measure => simp [intOf]; omega
      ·have HO : Hid (foldOf P (k + 1) = (bs ++ ([0] ++ numBits 1 2) ++ fixBits t [], text ++ t)) := by
        unfold Hid; rw [HP.out]; unfold pieceOut; simp only; rw [if_neg (by rw [← HR.out]; exact c0), if_neg (by rw [← HR.out]; exact c1)]
       have e5 : bs ++ ([0] ++ numBits 1 2) ++ fixBits t [] = b0 ++ textBits t ++ letterBits 256 := by rw [HB0.out]; unfold fixBits; simp only [List.append_assoc, List.nil_append]
       have HE5 : Hid (bs ++ ([0] ++ numBits 1 2) ++ fixBits t [] = b0 ++ textBits t ++ letterBits 256) := e5
       clear e5
       by_cases cr : r = 1
       ·subst cr
        have z : TX.size + T.size = 0 := by have := HS2.out; have : ¬ 0 < (text ++ t).length := fun h => c1 ⟨rfl, h⟩; omega
        have zi : (TX.size : Int) + (T.size : Int) = 0 := by omega
        have zi2 : ¬ (0 : Int) < (TX.size : Int) + (T.size : Int) := by omega
        clear c1
        go_wp2_with (go_at_call 41; refine (kletter_c wr w.heap.size (b0 ++ textBits t) 256 _ rfl (by omega) hb3 (by omega)).mono ?_; rintro e w6 ⟨rfl, b6, t6⟩)
        go_roundw
        case rel => exact ⟨k + 1, by omega, by go_num, by rw [HO.out, HA.out], by rw [HO.out, HE5.out]; exact b6, it2.trans (it3.trans t6)⟩
        case measure => simp [intOf]; omega
       ·have cr' : (r == 1) = false := by simp; exact cr
        clear c1
        go_wp2_with (go_at_call 41; refine (kletter_c wr w.heap.size (b0 ++ textBits t) 256 _ rfl (by omega) hb3 (by omega)).mono ?_; rintro e w6 ⟨rfl, b6, t6⟩)
        go_roundw
        case rel => exact ⟨k + 1, by omega, by go_num, by rw [HO.out, HA.out], by rw [HO.out, HE5.out]; exact b6, it2.trans (it3.trans t6)⟩
        case measure => simp [intOf]; omega
  ·obtain rfl : k = m := by omega
   have nlt : ¬ ((k : Int) < (len : Int) ∧ (k : Int) < 12) := by
    rintro ⟨h1, h2⟩
    have := HM3.out (by omega)
    omega
   have bd := foldOf_bd P k
   have HPK : Hid (packedOf (piecesOf P k) = ((foldOf P k).1 ++ [1] ++ numBits 1 2 ++ letterBits 256, (foldOf P k).2)) := by
    unfold Hid packedOf foldOf fixBits; simp [textBits, List.append_assoc]
   obtain ⟨bs, hbs⟩ : ∃ bs, bs = (foldOf P k).1 := ⟨_, rfl⟩
   obtain ⟨text, htext⟩ : ∃ text, text = (foldOf P k).2 := ⟨_, rfl⟩
   rw [← hbs] at hb bd HPK
   rw [← htext] at bd HPK ⊢
   clear hbs htext
   have bl : bs.length ≤ 12000 := by omega
   clear bd
   by_cases h1 : k < len
   case' pos =>
    have h2 : ¬ (k : Int) < 12 := by omega
    have h1' : (k : Int) < (len : Int) := by omega
    go_wp2_with fail
   case' neg =>
    have h1' : ¬ (k : Int) < (len : Int) := by omega
    go_wp2_with fail
   all_goals
    refine (kbit_c wr w.heap.size bs 1 _ rfl (by omega) hb (by omega)).mono ?_
    rintro e w2 ⟨rfl, b2, t2⟩
    go_wp2_with fail
    refine (knumber_c w2 w.heap.size (bs ++ [1]) 1 2 _ _ rfl rfl (by omega) (by omega) b2 (by rw [List.length_append]; simp; omega)).mono ?_
    rintro e w3 ⟨rfl, b3, t3⟩
    go_wp2_with fail
    refine (kletter_c w3 w.heap.size (bs ++ [1] ++ numBits 1 2) 256 _ rfl (by omega) b3 (by rw [List.length_append, List.length_append, numBits_len]; simp; omega)).mono ?_
    rintro e w4 ⟨rfl, b4, t4⟩
    obtain ⟨BB, hBB⟩ : ∃ BB, BB = bytesOf (bs ++ [1] ++ numBits 1 2 ++ letterBits 256) := ⟨_, rfl⟩
    have bw4 := b4.bw
    rw [← hBB] at bw4
    have HBB : Hid (BB = bytesOf (bs ++ [1] ++ numBits 1 2 ++ letterBits 256)) := hBB
    clear hBB b4 b3 b2
    obtain ⟨ao4, cap4, g0, gO⟩ := bw4.gv
    have cv := out_str gO rfl
    have B4 := FIN.out w4 (hit.trans (t2.trans (t3.trans t4)))
    go_wp2
    go_ret2
    exact ⟨by rw [HPK.out, ← HBB.out]; rfl, B4⟩
end Go.Proofs.YtnmkmmgaoplfiaaGreatDoor
