/- Texts of this seat, joined. -/
import Derived.Test.YtnmkmmgaoplfiaaGreatDoorJ34
import Derived.Test.YtnmkmmgaoplfiaaGreatDoorJ41
import Derived.Test.YtnmkmmgaoplfiaaGreatDoorJ40
set_option linter.unusedSimpArgs false
set_option linter.unusedVariables false
set_option maxRecDepth 100000
set_option maxHeartbeats 20000000
namespace Go.Proofs.YtnmkmmgaoplfiaaGreatDoor
open Go.RowKit
theorem list_e (w : World) (s : ByteArray) (hs : s = emptyA) :
  Calls Tryz.prog 8 #[.string s, .agg #[.int .i64 0, .int .i64 0, .int .i64 0]] w fun e w' => ∃ a, e = .returned (.tuple #[.slice a 0 0, .int .i64 0]) ∧ Below w.heap.size w w' := by
 subst hs
 exact (list_none w).mono fun _ _ ⟨a, h, t⟩ => ⟨a, h, t.toBelow (Nat.le_refl _) (fun _ _ e => e)⟩
theorem newStore_c (w : World) : Calls Tryz.prog 17 #[] w fun e w' => ∃ b, e = .returned (.pointer (some ⟨b, 0, none⟩)) ∧ Below w.heap.size w w' := by
 go_enter Tryz.func17, Tryz.ntmps17
 go_wp2
 go_ret
 exact ⟨_, rfl, (Below.refl _ _).alloc (Nat.le_refl _) _⟩
theorem awake_c (w : World) (ho : Ord w) (h0 : 0 < w.heap.size) :
  Calls Tryz.prog 5 #[] w fun e w' => e = .returned (.bool true) ∧ Below w.heap.size w w' := by
 go_enter Tryz.func5, Tryz.ntmps5
 go_wp2_with fail
 refine (sum_e w _ 3421780262 (by rw [ex_sum]; rfl) (by unfold maxLen; decide)).mono ?_
 rintro e w1 ⟨rfl, b1⟩
 have o1 := ho.below b1 h0
 have s1 := b1.size
 go_wp2_with fail
 refine (inflate_e w1 _ 0 [] 10 ⟨#[]⟩ 2 ex_inf1 rfl rfl (by omega) (by decide) o1 (by omega)).mono ?_
 rintro e w2 ⟨rfl, b2⟩
 have o2 := o1.below b2 (by omega)
 have s2 := b2.size
 go_wp2_with fail
 refine (inflate_e w2 _ 2 [97, 98] 56 ⟨#[97, 98]⟩ 7 ex_inf2 rfl rfl (by omega) (by decide) o2 (by omega)).mono ?_
 rintro e w3 ⟨rfl, b3⟩
 have o3 := o2.below b3 (by omega)
 have s3 := b3.size
 go_wp2_with fail
 refine (inflate_e w3 _ 5 [97] 18 ⟨#[97]⟩ 3 ex_inf3 rfl rfl (by omega) (by decide) o3 (by omega)).mono ?_
 rintro e w4 ⟨rfl, b4⟩
 have B4 := bNext (bNext (bNext b1 b2) b3) b4
 clear o1 o2 o3 b1 b2 b3 b4 s1 s2 s3
 go_wp2_with fail
 refine (low_c w4 0 18 (by omega) (by omega)).mono ?_
 rintro e w5 ⟨rfl, b5⟩
 have B5 := bNext B4 b5
 clear B4 b5
 go_wp2_with fail
 refine (list_e w5 _ (by decide +kernel)).mono ?_
 rintro e w6 ⟨la, rfl, b6⟩
 have B6 := bNext B5 b6
 clear B5 b6
 go_wp2_with fail
 refine (newStore_c w6).mono ?_
 rintro e w7 ⟨nb, rfl, b7⟩
 have B7 := bNext B6 b7
 clear B6 b7
 go_wp2
 go_ret
 exact ⟨rfl, B7⟩
end Go.Proofs.YtnmkmmgaoplfiaaGreatDoor
namespace Go.Proofs.YtnmkmmgaoplfiaaGreatDoor
open Go.RowKit
theorem packed_le (xs : List (Int × Int × Int × List UInt8)) : ∀ x ∈ (packedOf xs).1, x ≤ 1 := by
 have fb : ∀ t c, (∀ x ∈ c, x ≤ 1) → ∀ x ∈ fixBits t c, x ≤ 1 := by
  intro t c hc x hx
  unfold fixBits textBits at hx
  simp only [List.mem_append, List.mem_flatMap, letterBits_eq] at hx
  rcases hx with ⟨y, _, hy⟩ | hx | hx
  ·exact codeBits_le _ _ x hy
  ·exact hc x hx
  ·exact codeBits_le _ _ x hx
 have cb : ∀ n far, 1 ≤ far ∧ far ≤ 6 → ∀ x ∈ copyBits n far, x ≤ 1 := by
  intro n far hf x hx
  unfold copyBits at hx
  rcases List.mem_append.1 hx with hx | hx
  ·split at hx <;> (rw [letterBits_eq] at hx; exact codeBits_le _ _ x hx)
  ·split at hx
   ·exact codeBits_le _ _ x hx
   ·rcases List.mem_append.1 hx with hx | hx
    ·exact codeBits_le _ _ x hx
    ·simp at hx; omega
 have hd : ∀ k x, x ∈ [0] ++ numBits k 2 → x ≤ 1 := by
  intro k x hx
  rcases List.mem_append.1 hx with hx | hx
  ·simp at hx; omega
  ·exact numBits_le _ _ x hx
 have one : ∀ (st : List Nat × List UInt8) y, (∀ x ∈ st.1, x ≤ 1) → ∀ x ∈ (pieceOut st y).1, x ≤ 1 := by
  intro st y h x hx
  unfold pieceOut at hx
  split at hx
  ·rcases List.mem_append.1 hx with hx | hx
   ·exact (List.mem_append.1 hx).elim (h x) (hd 0 x)
   ·unfold plainBits padBits at hx
    rcases List.mem_append.1 hx with hx | hx
    ·simp only [List.mem_replicate] at hx; omega
    ·exact strBits_le _ x hx
  ·split at hx
   ·rename_i c1
    rcases List.mem_append.1 hx with hx | hx
    ·exact (List.mem_append.1 hx).elim (h x) (hd 1 x)
    ·exact fb _ _ (cb _ _ (copyFar_is _ _ c1.2).1) x hx
   ·rcases List.mem_append.1 hx with hx | hx
    ·exact (List.mem_append.1 hx).elim (h x) (hd 1 x)
    ·exact fb _ _ (fun x hx => by cases hx) x hx
 have all : ∀ (xs : List (Int × Int × Int × List UInt8)) (st : List Nat × List UInt8), (∀ x ∈ st.1, x ≤ 1) → ∀ x ∈ (xs.foldl pieceOut st).1, x ≤ 1 := by
  intro xs
  induction xs with
  | nil => intro st h; exact h
  | cons y xs ih => intro st h; exact ih _ (one st y h)
 intro x hx
 unfold packedOf at hx
 rcases List.mem_append.1 hx with hx | hx
 ·rcases List.mem_append.1 hx with hx | hx
  ·exact all xs _ (fun x hx => by cases hx) x hx
  ·rcases List.mem_append.1 hx with hx | hx
   ·simp at hx; omega
   ·exact numBits_le _ _ x hx
 ·exact fb _ _ (fun x hx => by cases hx) x hx
theorem bit_app (a b : ByteArray) (i : Nat) (h : i < 8 * a.size) : bitOf (a ++ b) i = bitOf a i := by
 have h1 : i / 8 < a.size := by omega
 have hs : (a ++ b).size = a.size + b.size := ByteArray.size_append
 unfold bitOf
 rw [dif_pos h1, dif_pos (by omega)]
 congr 3
 exact ByteArray.getElem_append_left h1
theorem bit_cut (a : ByteArray) (j i : Nat) (hj : j ≤ a.size) (h : i < 8 * j) : bitOf (a.extract 0 j) i = bitOf a i := by
 have h1 : i / 8 < j := by omega
 have hs : (a.extract 0 j).size = j := by rw [ByteArray.size_extract]; omega
 unfold bitOf
 rw [dif_pos (by omega), dif_pos (by omega)]
 congr 3
 simp [ByteArray.getElem_extract]
structure Packs (p : ByteArray) (text : List UInt8) : Prop where
 whole : inflateVal (inflateOf p (text.length : Int)) = .tuple #[.string ⟨text.toArray⟩, .int .i64 (p.size : Int), .int .i64 0]
 more : ∀ b : ByteArray, inflateVal (inflateOf (p ++ b) ((text.length : Int) + 1)) = .tuple #[.string ⟨text.toArray⟩, .int .i64 (p.size : Int), .int .i64 0]
 less : text ≠ [] → inflateVal (inflateOf p ((text.length : Int) - 1)) = .tuple #[.string ⟨#[]⟩, .int .i64 0, .int .i64 2]
 none : text = [] → inflateVal (inflateOf p ((text.length : Int) - 1)) = .tuple #[.string ⟨#[]⟩, .int .i64 (p.size : Int), .int .i64 0]
 cut : ∀ j, j < p.size → inflateVal (inflateOf (p.extract 0 j) (text.length : Int)) = .tuple #[.string ⟨#[]⟩, .int .i64 0, .int .i64 1]
theorem packs (xs : List (Int × Int × Int × List UInt8)) (ht : ∀ x ∈ xs, x.2.2.2.length ≤ 40) (hx : xs.length ≤ 12) : Packs ⟨(bytesOf (packedOf xs).1).toArray⟩ (packedOf xs).2 := by
 have le := packed_le xs
 have bi := bitsIn _ le
 obtain ⟨bits, hbits⟩ : ∃ bits, bits = (packedOf xs).1 := ⟨_, rfl⟩
 obtain ⟨text, htext⟩ : ∃ text, text = (packedOf xs).2 := ⟨_, rfl⟩
 have pc : ∀ s most, At s 0 bits → Comes3 s most bits.length text.length (blocksGo s most (8 * s.size + 1) 0 []) (.inr (text, bits.length)) := by
  intro s most h
  rw [hbits, htext]; rw [hbits] at h
  exact packed_comes s most xs ht hx h
 rw [← hbits] at le bi ⊢
 rw [← htext]
 obtain ⟨p, hp⟩ : ∃ p : ByteArray, p = ⟨(bytesOf bits).toArray⟩ := ⟨_, rfl⟩
 have hbit : ∀ i, bitOf p i = bits.getD i 0 := fun i => by rw [hp]; exact bitOf_bytes bits le i
 have psz : p.size = (bits.length + 7) / 8 := by rw [hp, kstr_size]; exact bi.len
 rw [← hp]
 have at0 : At p 0 bits := fun i _ _ => by rw [Nat.zero_add]; exact hbit i
 have val : ∀ q, (q + 7) / 8 = p.size → inflateVal (.inr (text, q)) = .tuple #[.string ⟨text.toArray⟩, .int .i64 (p.size : Int), .int .i64 0] := fun q hq => by unfold inflateVal; rw [← hq]
 refine ⟨?_, fun b => ?_, fun hne => ?_, fun he => ?_, fun j hj => ?_⟩
 ·unfold inflateOf
  rw [show (max (text.length : Int) 0).toNat = text.length by omega, (pc p text.length at0).1 (by omega) (Nat.le_refl _)]
  exact val _ psz.symm
 ·have hs : (p ++ b).size = p.size + b.size := ByteArray.size_append
  have at1 : At (p ++ b) 0 bits := fun i hi _ => by rw [Nat.zero_add, bit_app p b i (by omega)]; exact hbit i
  unfold inflateOf
  rw [show (max ((text.length : Int) + 1) 0).toNat = text.length + 1 by omega, (pc (p ++ b) (text.length + 1) at1).1 (by omega) (by omega)]
  exact val _ psz.symm
 ·have l1 : 1 ≤ text.length := by cases text with | nil => exact absurd rfl hne | cons c l => simp
  unfold inflateOf
  rw [show (max ((text.length : Int) - 1) 0).toNat = text.length - 1 by omega, (pc p (text.length - 1) at0).2.2 (by omega) (by omega)]
  rfl
 ·have l1 : text.length = 0 := by rw [he]; rfl
  unfold inflateOf
  rw [show (max ((text.length : Int) - 1) 0).toNat = text.length by omega, (pc p text.length at0).1 (by omega) (Nat.le_refl _)]
  rw [val _ psz.symm, he]
 ·have hs : (p.extract 0 j).size = j := by rw [ByteArray.size_extract]; omega
  have at2 : At (p.extract 0 j) 0 bits := fun i hi h8 => by rw [Nat.zero_add] at h8 ⊢; rw [bit_cut p j i (by omega) (by omega)]; exact hbit i
  unfold inflateOf
  rw [show (max (text.length : Int) 0).toNat = text.length by omega, (pc (p.extract 0 j) text.length at2).2.1 (by omega) (Nat.le_refl _)]
  rfl
theorem packed_bd (P : Nat → Int × Int × Int × ByteArray) (k : Nat) (hk : k ≤ 12) : 1 ≤ (bytesOf (packedOf (piecesOf P k)).1).length ∧ (bytesOf (packedOf (piecesOf P k)).1).length ≤ 2000 ∧ (packedOf (piecesOf P k)).2.length ≤ 3600 := by
 have l := (bitsIn _ (packed_le (piecesOf P k))).len
 have bd := foldOf_bd P k
 unfold foldOf at bd
 have e : (packedOf (piecesOf P k)).1.length = ((piecesOf P k).foldl pieceOut ([], [])).1.length + 10 := by
  have l7 : (letterBits 256).length = 7 := letter_len 256
  unfold packedOf fixBits
  simp [textBits, numBits_len, l7]
 have e2 : (packedOf (piecesOf P k)).2.length = ((piecesOf P k).foldl pieceOut ([], [])).2.length := rfl
 omega
theorem pieces_ok (P : Nat → Int × Int × Int × ByteArray) (k : Nat) : (∀ x ∈ piecesOf P k, x.2.2.2.length ≤ 40) ∧ (piecesOf P k).length = k := by
 refine ⟨fun x hx => ?_, by simp [piecesOf]⟩
 simp only [piecesOf, List.mem_map] at hx
 obtain ⟨i, _, rfl⟩ := hx
 exact List.length_take_le _ _
theorem kpacked_r (w : World) (ao : Option Addr) (len cap : Nat) (P : Nat → Int × Int × Int × ByteArray) (p T : ByteArray) (hp : p = ⟨(bytesOf (packedOf (piecesOf P (min len 12))).1).toArray⟩) (hT : T = ⟨(packedOf (piecesOf P (min len 12))).2.toArray⟩) (hlen : len ≤ 9223372036854775807)
  (hop : ∀ i, i < len → ∃ sb so, ao = some ⟨sb, so, none⟩ ∧ PieceAt w sb (so + i * 4) (P i).1 (P i).2.1 (P i).2.2.1 (P i).2.2.2) :
  Calls Tryz.prog 22 #[.slice ao len cap] w fun e w' => e = .returned (.tuple #[.string p, .string T]) ∧ Below w.heap.size w w' := by
 subst hp hT; exact kpacked_c w ao len cap P hlen hop
end Go.Proofs.YtnmkmmgaoplfiaaGreatDoor
