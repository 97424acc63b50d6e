/- Texts of this seat, joined. -/
import Derived.Test.YtnmkmmgaoplfiaaGreatDoorJ01
set_option linter.unusedSimpArgs false
set_option linter.unusedVariables false
set_option maxHeartbeats 20000000
namespace Go.Proofs.YtnmkmmgaoplfiaaGreatDoor
def putBit (B : List UInt8) (n x : Nat) : List UInt8 :=
 if n % 8 = 0 then B ++ [UInt8.ofNat x] else B.set (B.length - 1) (UInt8.ofNat ((B.getD (B.length - 1) 0).toNat + x * 2 ^ (n % 8)))
def wstep (st : List UInt8 × Nat) (x : Nat) : List UInt8 × Nat := (putBit st.1 st.2 x, st.2 + 1)
def bytesOf (bs : List Nat) : List UInt8 := (bs.foldl wstep ([], 0)).1
theorem wr_n (bs : List Nat) : ∀ st : List UInt8 × Nat, (bs.foldl wstep st).2 = st.2 + bs.length := by
 induction bs with
 | nil => intro st; rfl
 | cons x bs ih => intro st; simp only [List.foldl_cons, ih, wstep, List.length_cons]; omega
theorem bytesOf_snoc (bs : List Nat) (x : Nat) : bytesOf (bs ++ [x]) = putBit (bytesOf bs) bs.length x := by
 unfold bytesOf
 rw [List.foldl_append]
 show (wstep (bs.foldl wstep ([], 0)) x).1 = _
 have := wr_n bs ([], 0)
 simp only [Nat.zero_add] at this
 simp only [wstep, this]
def bitL (B : List UInt8) (i : Nat) : Nat := (B.getD (i / 8) 0).toNat / 2 ^ (i % 8) % 2
theorem bitOf_L (B : List UInt8) (i : Nat) : bitOf ⟨B.toArray⟩ i = bitL B i := by
 have e : (ByteArray.mk B.toArray).size = B.length := by show B.toArray.size = _; simp
 unfold bitOf bitL
 by_cases h : i / 8 < B.length
 ·rw [dif_pos (by rw [e]; exact h)]
  have : (ByteArray.mk B.toArray)[i / 8]'(by rw [e]; exact h) = B[i / 8] := by simp [ByteArray.getElem_eq_getElem_data]
  rw [this, List.getD_eq_getElem?_getD, List.getElem?_eq_getElem h]; rfl
 ·rw [dif_neg (by rw [e]; exact h), List.getD_eq_getElem?_getD, List.getElem?_eq_none (by omega)]
  show 0 = (0 : UInt8).toNat / 2 ^ (i % 8) % 2
  simp
theorem snoc_ind {α : Type} {P : List α → Prop} (h0 : P []) (h1 : ∀ l x, P l → P (l ++ [x])) : ∀ l, P l := by
 intro l
 have : ∀ m : List α, P m.reverse := by
  intro m
  induction m with
  | nil => exact h0
  | cons x m ih => rw [List.reverse_cons]; exact h1 _ _ ih
 have := this l.reverse
 rwa [List.reverse_reverse] at this
theorem bits_add (y P j x : Nat) (hy : y < 2 ^ P) (hx : x ≤ 1) : (y + x * 2 ^ P) / 2 ^ j % 2 = if j < P then y / 2 ^ j % 2 else if j = P then x else 0 := by
 have hp : 0 < 2 ^ P := Nat.two_pow_pos P
 by_cases h1 : j < P
 ·rw [if_pos h1]
  obtain ⟨d, hd⟩ : ∃ d, P = j + (d + 1) := ⟨P - j - 1, by omega⟩
  have e : x * 2 ^ P = 2 ^ j * (2 * (x * 2 ^ d)) := by rw [hd, Nat.pow_add, Nat.pow_succ]; ac_rfl
  rw [e, Nat.add_mul_div_left _ _ (Nat.two_pow_pos j)]; omega
 ·rw [if_neg h1]
  by_cases h2 : j = P
  ·subst h2
   rw [if_pos rfl, Nat.add_mul_div_right _ _ hp, Nat.div_eq_of_lt hy]; omega
  ·rw [if_neg h2]
   have : y + x * 2 ^ P < 2 ^ j := by
    have h3 : 2 ^ (P + 1) ≤ 2 ^ j := Nat.pow_le_pow_right (by omega) (by omega)
    have h4 : x * 2 ^ P ≤ 1 * 2 ^ P := Nat.mul_le_mul_right _ hx
    rw [Nat.pow_succ] at h3; omega
   rw [Nat.div_eq_of_lt this]
structure BitsIn (bs : List Nat) : Prop where
 len : (bytesOf bs).length = (bs.length + 7) / 8
 last : bs.length % 8 ≠ 0 → ((bytesOf bs).getD ((bytesOf bs).length - 1) 0).toNat < 2 ^ (bs.length % 8)
 bit : ∀ i, bitL (bytesOf bs) i = bs.getD i 0
theorem u8_of (x : Nat) (h : x < 256) : (UInt8.ofNat x).toNat = x := by simp [UInt8.toNat_ofNat']; omega
theorem bitsIn : ∀ bs : List Nat, (∀ x ∈ bs, x ≤ 1) → BitsIn bs := by
 apply snoc_ind
 ·intro _
  refine ⟨rfl, fun h => absurd rfl h, fun i => ?_⟩
  simp [bytesOf, bitL]
 ·intro bs x ih hall
  have hx : x ≤ 1 := hall x (by simp)
  obtain ⟨l1, l2, l3⟩ := ih (fun y hy => hall y (by simp [hy]))
  have hsn := bytesOf_snoc bs x
  by_cases h8 : bs.length % 8 = 0
  ·have e : bytesOf (bs ++ [x]) = bytesOf bs ++ [UInt8.ofNat x] := by rw [hsn]; unfold putBit; rw [if_pos h8]
   have hl : (bytesOf bs).length = bs.length / 8 := by omega
   refine ⟨?_, ?_, ?_⟩
   ·rw [e, List.length_append, List.length_append]; simp only [List.length_singleton]; omega
   ·intro _
    rw [e, List.length_append, List.length_append]
    simp only [List.length_singleton, Nat.add_sub_cancel]
    rw [List.getD_eq_getElem?_getD, List.getElem?_append_right (Nat.le_refl _)]
    simp only [Nat.sub_self, List.getElem?_cons_zero, Option.getD_some, u8_of x (by omega)]
    rw [show (bs.length + 1) % 8 = 1 by omega]; omega
   ·intro i
    by_cases hi : i < bs.length
    ·rw [List.getD_eq_getElem?_getD (l := bs ++ [x]), List.getElem?_append_left hi, ← List.getD_eq_getElem?_getD, ← l3 i]
     unfold bitL
     rw [e, List.getD_eq_getElem?_getD, List.getElem?_append_left (by omega), ← List.getD_eq_getElem?_getD]
    ·by_cases hi2 : i / 8 = bs.length / 8
     ·unfold bitL
      rw [e, List.getD_eq_getElem?_getD, List.getElem?_append_right (by omega), show i / 8 - (bytesOf bs).length = 0 by omega]
      simp only [List.getElem?_cons_zero, Option.getD_some, u8_of x (by omega)]
      have := bits_add 0 0 (i % 8) x (by decide) hx
      simp only [Nat.pow_zero, Nat.mul_one, Nat.zero_add, Nat.not_lt_zero, if_false] at this
      rw [this]
      by_cases hz : i % 8 = 0
      ·rw [if_pos hz, List.getD_eq_getElem?_getD, show i = bs.length by omega, List.getElem?_append_right (Nat.le_refl _)]; simp
      ·rw [if_neg hz, List.getD_eq_getElem?_getD, List.getElem?_eq_none (by simp; omega)]; rfl
     ·unfold bitL
      rw [e, List.getD_eq_getElem?_getD, List.getElem?_eq_none (by simp; omega), List.getD_eq_getElem?_getD, List.getElem?_eq_none (by simp; omega)]
      show (0 : UInt8).toNat / 2 ^ (i % 8) % 2 = 0
      simp
  ·have l2' := l2 h8
   have hl : (bytesOf bs).length = bs.length / 8 + 1 := by omega
   obtain ⟨y, hy⟩ : ∃ y, y = ((bytesOf bs).getD ((bytesOf bs).length - 1) 0).toNat := ⟨_, rfl⟩
   rw [← hy] at l2'
   have hb : y + x * 2 ^ (bs.length % 8) < 2 ^ (bs.length % 8 + 1) := by
    have : x * 2 ^ (bs.length % 8) ≤ 1 * 2 ^ (bs.length % 8) := Nat.mul_le_mul_right _ hx
    rw [Nat.pow_succ]; omega
   have hb2 : 2 ^ (bs.length % 8 + 1) ≤ 2 ^ 8 := Nat.pow_le_pow_right (by omega) (by omega)
   have e : bytesOf (bs ++ [x]) = (bytesOf bs).set ((bytesOf bs).length - 1) (UInt8.ofNat (y + x * 2 ^ (bs.length % 8))) := by
    rw [hsn]; unfold putBit; rw [if_neg h8, ← hy]
   refine ⟨?_, ?_, ?_⟩
   ·rw [e, List.length_set, List.length_append]; simp only [List.length_singleton]; omega
   ·intro hne
    rw [List.length_append] at hne ⊢
    simp only [List.length_singleton] at hne ⊢
    rw [e, List.length_set, List.getD_eq_getElem?_getD, List.getElem?_set_self (by omega)]
    simp only [Option.getD_some]
    rw [u8_of _ (by omega), show (bs.length + 1) % 8 = bs.length % 8 + 1 by omega]
    exact hb
   ·intro i
    unfold bitL
    by_cases hi : i / 8 = (bytesOf bs).length - 1
    ·rw [e, List.getD_eq_getElem?_getD, hi, List.getElem?_set_self (by omega)]
     simp only [Option.getD_some]
     rw [u8_of _ (by omega), bits_add y (bs.length % 8) (i % 8) x l2' hx]
     by_cases h1 : i % 8 < bs.length % 8
     ·rw [if_pos h1, List.getD_eq_getElem?_getD, List.getElem?_append_left (by omega), ← List.getD_eq_getElem?_getD, ← l3 i]
      unfold bitL; rw [hi, ← hy]
     ·rw [if_neg h1]
      by_cases h2 : i % 8 = bs.length % 8
      ·rw [if_pos h2, List.getD_eq_getElem?_getD, show i = bs.length by omega, List.getElem?_append_right (Nat.le_refl _)]; simp
      ·rw [if_neg h2, List.getD_eq_getElem?_getD, List.getElem?_eq_none (by simp; omega)]; rfl
    ·rw [e, List.getD_eq_getElem?_getD, List.getElem?_set_ne (by omega), ← List.getD_eq_getElem?_getD]
     show bitL (bytesOf bs) i = _
     rw [l3 i]
     by_cases h3 : i < bs.length
     ·rw [List.getD_eq_getElem?_getD, List.getD_eq_getElem?_getD, List.getElem?_append_left h3]
     ·rw [List.getD_eq_getElem?_getD, List.getD_eq_getElem?_getD, List.getElem?_eq_none (by omega), List.getElem?_eq_none (by simp; omega)]
theorem bitOf_bytes (bs : List Nat) (h : ∀ x ∈ bs, x ≤ 1) (i : Nat) : bitOf ⟨(bytesOf bs).toArray⟩ i = bs.getD i 0 := by rw [bitOf_L]; exact (bitsIn bs h).bit i
def numBits (x n : Nat) : List Nat := (List.range n).map fun i => x / 2 ^ i % 2
def codeBits (x n : Nat) : List Nat := (List.range n).map fun i => x / 2 ^ (n - 1 - i) % 2
theorem numBits_le (x n : Nat) : ∀ y ∈ numBits x n, y ≤ 1 := by
 intro y hy; simp only [numBits, List.mem_map] at hy; obtain ⟨i, _, rfl⟩ := hy; omega
theorem codeBits_le (x n : Nat) : ∀ y ∈ codeBits x n, y ≤ 1 := by
 intro y hy; simp only [codeBits, List.mem_map] at hy; obtain ⟨i, _, rfl⟩ := hy; omega
def letterBits (x : Nat) : List Nat :=
 if x < 144 then codeBits (48 + x) 8 else if x < 256 then codeBits (400 + x - 144) 9 else if x < 280 then codeBits (x - 256) 7 else codeBits (192 + x - 280) 8
end Go.Proofs.YtnmkmmgaoplfiaaGreatDoor
