/- Texts of this seat, joined. -/
import Derived.Test.YtnmkmmgaoplfiaaGreatDoorRows
import Derived.Test.YtnmkmmgaoplfiaaGreatDoorJ01
import Derived.BigRegion
import Derived.Deep.QuietTactic
import Derived.BigQuiet
import Derived.Deep.Light
set_option linter.unusedSimpArgs false
set_option linter.unusedVariables false
set_option maxRecDepth 100000
set_option maxHeartbeats 20000000
namespace Go.Proofs.YtnmkmmgaoplfiaaGreatDoor
open Go.RowKit
theorem u8_bit (r : Int) (h0 : 0 ≤ r) (h1 : r ≤ 255) : wrap64 (bits BinOp.and IntKind.u8 r 1) = r % 2 := by
 have h := bits_mask .u8 8 (by decide) wraps_u8 1 (by decide) r h0 (by simp; omega)
 simp at h
 rw [h]; unfold wrap64; omega
theorem bit_more (b : Nat) (w : World) (rest left : Int) (hl : 1 ≤ left) (hl8 : left ≤ 8) (hr0 : 0 ≤ rest) (hr1 : rest ≤ 255)
  (h2 : w.cell? ⟨b, 2, none⟩ = some (.int .u8 rest)) (h3 : w.cell? ⟨b, 3, none⟩ = some (.int .i64 left))
  (f2 : w.frozen? ⟨b, 2, none⟩ = false) (f3 : w.frozen? ⟨b, 3, none⟩ = false) :
  Calls Tryz.prog 61 #[.pointer (some ⟨b, 0, none⟩)] w fun e w' => e = .returned (.int .i64 (rest % 2)) ∧ w' = (w.setCell ⟨b, 2, none⟩ (.int .u8 (rest / 2))).setCell ⟨b, 3, none⟩ (.int .i64 (left - 1)) := by
 have hb := u8_bit rest hr0 hr1
 go_enter Tryz.func61, Tryz.ntmps61
 go_wp2
 go_ret
 exact ⟨by simp [hb], rfl⟩
theorem bit_end (b : Nat) (w : World) (s : ByteArray)
  (h0 : w.cell? ⟨b, 0, none⟩ = some (.string s)) (h1 : w.cell? ⟨b, 1, none⟩ = some (.int .i64 s.size)) (h3 : w.cell? ⟨b, 3, none⟩ = some (.int .i64 0))
  (f4 : w.frozen? ⟨b, 4, none⟩ = false) (old : Value) (h4 : w.cell? ⟨b, 4, none⟩ = some old) :
  Calls Tryz.prog 61 #[.pointer (some ⟨b, 0, none⟩)] w fun e w' => e = .returned (.int .i64 0) ∧ ∃ n, w' = (w.drewN n).setCell ⟨b, 4, none⟩ (.bool true) := by
 go_enter Tryz.func61, Tryz.ntmps61
 go_wp2
 go_quiet (fail)
 go_wp2
 go_ret
 exact ⟨rfl, _, rfl⟩
theorem bit_load (b : Nat) (w : World) (s : ByteArray) (k : Nat) (hk : k < s.size) (hs : s.size ≤ maxLen)
  (h0 : w.cell? ⟨b, 0, none⟩ = some (.string s)) (h1 : w.cell? ⟨b, 1, none⟩ = some (.int .i64 k)) (h3 : w.cell? ⟨b, 3, none⟩ = some (.int .i64 0))
  (f1 : w.frozen? ⟨b, 1, none⟩ = false) (f2 : w.frozen? ⟨b, 2, none⟩ = false) (f3 : w.frozen? ⟨b, 3, none⟩ = false) (old : Int) (h2 : w.cell? ⟨b, 2, none⟩ = some (.int .u8 old)) :
  Calls Tryz.prog 61 #[.pointer (some ⟨b, 0, none⟩)] w fun e w' => e = .returned (.int .i64 (s[k].toNat % 2)) ∧
   ∃ n, w' = (((((w.drewN n).setCell ⟨b, 2, none⟩ (.int .u8 s[k].toNat)).setCell ⟨b, 3, none⟩ (.int .i64 8)).setCell ⟨b, 1, none⟩ (.int .i64 (k + 1))).setCell ⟨b, 2, none⟩ (.int .u8 (s[k].toNat / 2))).setCell ⟨b, 3, none⟩ (.int .i64 7) := by
 unfold maxLen at hs
 have hbit := u8_bit s[k].toNat (by omega) (by have := s[k].toNat_lt; omega)
 go_enter Tryz.func61, Tryz.ntmps61
 go_wp2
 go_quiet (fail)
 go_wp2
 go_region
 go_wp2
 go_ret
 exact ⟨by simp [hbit], _, rfl⟩
structure Rd (w : World) (b : Nat) (s : ByteArray) (p : Nat) : Prop where
 c0 : w.cell? ⟨b, 0, none⟩ = some (.string s)
 c1 : w.cell? ⟨b, 1, none⟩ = some (.int .i64 (min s.size ((p + 7) / 8) : Nat))
 c2 : ∃ r : Nat, r < 256 ∧ w.cell? ⟨b, 2, none⟩ = some (.int .u8 r) ∧ (∀ h : p / 8 < s.size, p % 8 ≠ 0 → r = s[p / 8].toNat / 2 ^ (p % 8))
 c3 : w.cell? ⟨b, 3, none⟩ = some (.int .i64 (if p ≤ 8 * s.size then (8 - p % 8) % 8 else 0 : Nat))
 c4 : w.cell? ⟨b, 4, none⟩ = some (.bool (decide (8 * s.size < p)))
 fr : ∀ o, w.frozen? ⟨b, o, none⟩ = false
structure RT (b : Nat) (w w' : World) : Prop where
 t : Touch (· = b) w w'
 size : w'.heap.size = w.heap.size
 keep : ∀ o, 5 ≤ o → w'.cell? ⟨b, o, none⟩ = w.cell? ⟨b, o, none⟩
 fr : ∀ o, w'.frozen? ⟨b, o, none⟩ = w.frozen? ⟨b, o, none⟩
theorem RT.refl (b : Nat) (w : World) : RT b w w := ⟨Touch.refl _ _, rfl, fun _ _ => rfl, fun _ => rfl⟩
theorem RT.trans {b : Nat} {x y z : World} (h : RT b x y) (k : RT b y z) : RT b x z :=
 ⟨h.t.trans k.t, k.size.trans h.size, fun o ho => (k.keep o ho).trans (h.keep o ho), fun o => (k.fr o).trans (h.fr o)⟩
theorem RT.drewN {b : Nat} {x y : World} (h : RT b x y) (n : Nat) : RT b x (y.drewN n) := ⟨h.t.drewN n, h.size, h.keep, h.fr⟩
theorem RT.set {b : Nat} {x y : World} (h : RT b x y) (i : Nat) (hi : i < 5) (v : Value) : RT b x (y.setCell ⟨b, i, none⟩ v) :=
 ⟨h.t.setCell rfl v, (size_setCell _ _ _).trans h.size, fun o ho => (cell_set_ne (by omega)).trans (h.keep o ho), fun o => by rw [World.frozen?_setCell]; exact h.fr o⟩
theorem bit_c (b : Nat) (w : World) (s : ByteArray) (p : Nat) (hs : s.size ≤ maxLen) (h : Rd w b s p) :
  Calls Tryz.prog 61 #[.pointer (some ⟨b, 0, none⟩)] w fun e w' => e = .returned (.int .i64 (bitOf s p)) ∧ Rd w' b s (p + 1) ∧ RT b w w' := by
 obtain ⟨c0, c1, ⟨r, hr, c2, c2'⟩, c3, c4, fr⟩ := h
 by_cases hp : 8 * s.size ≤ p
 ·have e1 : min s.size ((p + 7) / 8) = s.size := by omega
  have e3 : (if p ≤ 8 * s.size then (8 - p % 8) % 8 else 0) = 0 := by split <;> omega
  rw [e1] at c1; rw [e3] at c3
  refine (bit_end b w s c0 c1 c3 (fr 4) _ c4).mono ?_
  rintro e w' ⟨rfl, n, rfl⟩
  refine ⟨?_, ⟨?_, ?_, ⟨r, hr, ?_, ?_⟩, ?_, ?_, ?_⟩, ?_⟩
  ·rw [bitOf_end s p hp]; rfl
  ·simp [cell_set_if, cell_drewN, c0]
  ·rw [show min s.size ((p + 1 + 7) / 8) = s.size by omega]; simp [cell_set_if, cell_drewN, c1]
  ·simp [cell_set_if, cell_drewN, c2]
  ·intro h; omega
  ·rw [if_neg (by omega)]; simp [cell_set_if, cell_drewN, c3]
  ·rw [decide_eq_true (by omega)]; simp [cell_set_if, cell_drewN, c4]
  ·intro o; rw [World.frozen?_setCell]; exact fr o
  ·exact ((RT.refl b w).drewN n).set 4 (by omega) _
 ·by_cases hm : p % 8 = 0
  ·obtain ⟨k, rfl⟩ : ∃ k, p = 8 * k := ⟨p / 8, by omega⟩
   have hk : k < s.size := by omega
   have e1 : min s.size ((8 * k + 7) / 8) = k := by omega
   have e3 : (if 8 * k ≤ 8 * s.size then (8 - 8 * k % 8) % 8 else 0) = 0 := by split <;> omega
   rw [e1] at c1; rw [e3] at c3
   refine (bit_load b w s k hk hs c0 c1 c3 (fr 1) (fr 2) (fr 3) _ c2).mono ?_
   rintro e w' ⟨rfl, n, rfl⟩
   have hlt := s[k].toNat_lt
   refine ⟨?_, ⟨?_, ?_, ⟨s[k].toNat / 2, by omega, ?_, ?_⟩, ?_, ?_, ?_⟩, ?_⟩
   ·refine ret_int ?_
    have := bitOf_in s k 0 hk (by omega)
    simp at this; rw [this]; rfl
   ·simp [cell_set_if, cell_drewN, c0]
   ·rw [show min s.size ((8 * k + 1 + 7) / 8) = k + 1 by omega]; simp [cell_set_if, cell_drewN, c1]
   ·simp [cell_set_if, cell_drewN, c2]
   ·intro h _
    have h8 : (8 * k + 1) / 8 = k := by omega
    have h9 : (8 * k + 1) % 8 = 1 := by omega
    simp only [h8, h9]
   ·rw [if_pos (by omega), show (8 - (8 * k + 1) % 8) % 8 = 7 by omega]; simp [cell_set_if, cell_drewN, c3]
   ·rw [show decide (8 * s.size < 8 * k + 1) = decide (8 * s.size < 8 * k) by rw [decide_eq_false (by omega), decide_eq_false (by omega)]]; simp [cell_set_if, cell_drewN, c4]
   ·intro o; simp only [World.frozen?_setCell, frozen_drewN]; exact fr o
   ·exact ((((((RT.refl b w).drewN n).set 2 (by omega) _).set 3 (by omega) _).set 1 (by omega) _).set 2 (by omega) _).set 3 (by omega) _
  ·obtain ⟨k, j, hj, hj0, rfl⟩ : ∃ k j, j < 8 ∧ 0 < j ∧ p = 8 * k + j := ⟨p / 8, p % 8, by omega, by omega, by omega⟩
   have hk : k < s.size := by omega
   have e1 : min s.size ((8 * k + j + 7) / 8) = k + 1 := by omega
   have e3 : (if 8 * k + j ≤ 8 * s.size then (8 - (8 * k + j) % 8) % 8 else 0) = 8 - j := by rw [if_pos (by omega)]; omega
   have h8 : (8 * k + j) / 8 = k := by omega
   have h9 : (8 * k + j) % 8 = j := by omega
   have hr' : r = s[k].toNat / 2 ^ j := by
    have := c2' (by omega) (by omega)
    simpa only [h8, h9] using this
   rw [e1] at c1; rw [e3] at c3
   refine (bit_more b w r (8 - j : Nat) (by omega) (by omega) (by omega) (by omega) c2 c3 (fr 2) (fr 3)).mono ?_
   rintro e w' ⟨rfl, rfl⟩
   refine ⟨?_, ⟨?_, ?_, ⟨r / 2, by omega, ?_, ?_⟩, ?_, ?_, ?_⟩, ?_⟩
   ·refine ret_int ?_
    rw [bitOf_in s k j hk hj, ← hr']; omega
   ·simp [cell_set_if, c0]
   ·rw [show min s.size ((8 * k + j + 1 + 7) / 8) = k + 1 by omega]; simp [cell_set_if, c1]
   ·simp [cell_set_if, c2]
   ·intro h hn
    have h8' : (8 * k + j + 1) / 8 = k := by omega
    have h9' : (8 * k + j + 1) % 8 = j + 1 := by omega
    simp only [h8', h9']
    rw [hr', Nat.pow_succ, Nat.div_div_eq_div_mul]
   ·rw [if_pos (by omega), show (8 - (8 * k + j + 1) % 8) % 8 = 8 - j - 1 by omega]; simp [cell_set_if, c3]; omega
   ·rw [show decide (8 * s.size < 8 * k + j + 1) = decide (8 * s.size < 8 * k + j) by rw [decide_eq_false (by omega), decide_eq_false (by omega)]]; simp [cell_set_if, c4]
   ·intro o; simp only [World.frozen?_setCell]; exact fr o
   ·exact ((RT.refl b w).set 2 (by omega) _).set 3 (by omega) _
theorem or_add (a b n : Nat) (h : a < 2 ^ n) : a ||| (b * 2 ^ n) = a + b * 2 ^ n := by
 rw [Nat.add_comm, Nat.or_comm, Nat.mul_comm]
 exact (Nat.two_pow_add_eq_or_of_lt h b).symm
theorem num_step (s : ByteArray) (p k : Nat) (hk : k < 16) : bits BinOp.or IntKind.i64 (numAt s p k : Int) (wrap64 ((bitOf s (p + k) : Int) * 2 ^ k)) = (numAt s p (k + 1) : Nat) := by
 have h1 := numAt_lt s p k
 have h2 := bitOf_lt s (p + k)
 have h3 : 2 ^ k ≤ 2 ^ 15 := Nat.pow_le_pow_right (by omega) (by omega)
 have h4 : bitOf s (p + k) * 2 ^ k ≤ 1 * 2 ^ k := Nat.mul_le_mul_right _ (by omega)
 have e : ((bitOf s (p + k) : Int) * 2 ^ k) = ((bitOf s (p + k) * 2 ^ k : Nat) : Int) := by push_cast; rfl
 rw [e, IntWalk.wrap64_in _ (by constructor <;> omega)]
 have hw : ∀ n : Int, 0 ≤ n → n < 2 ^ 62 → IntKind.i64.wrap n = n := by intro n h0 h1; simp [IntKind.wrap, IntKind.bits, IntKind.signed]; omega
 have hh := bits_nat .i64 62 (by decide) hw (numAt s p k) (bitOf s (p + k) * 2 ^ k) (by omega) (by omega)
 rw [hh.2, or_add _ _ _ h1]
 rfl
theorem number_c (b : Nat) (w : World) (s : ByteArray) (p : Nat) (n : Nat) (hn : n ≤ 16) (hs : s.size ≤ maxLen) (h : Rd w b s p) :
  Calls Tryz.prog 62 #[.pointer (some ⟨b, 0, none⟩), .int .i64 n] w fun e w' => e = .returned (.int .i64 (numAt s p n)) ∧ Rd w' b s (p + n) ∧ RT b w w' := by
 go_enter Tryz.func62, Tryz.ntmps62
 go_wp2
 go_loopw [5, 8] (fun t i wr => ∃ k : Nat, k ≤ n ∧ i = .int .i64 k ∧ t = .int .i64 (numAt s p k) ∧ Rd wr b s (p + k) ∧ RT b w wr) (fun _ i _ => n - (intOf i).toNat)
 case atStart => exact ⟨0, by omega, rfl, rfl, h, RT.refl _ _⟩
 case round =>
  obtain ⟨k, hk, rfl, rfl, hrd, hrt⟩ := hrel
  by_cases hlt : k < n
  ·go_wp2_with (go_at_call 61; refine (bit_c _ _ _ _ hs hrd).mono ?_; rintro e w' ⟨rfl, hrd', hrt'⟩)
   go_roundw
   case rel => exact ⟨k + 1, by omega, by go_num, by rw [num_step s p k (by omega)], hrd', hrt.trans hrt'⟩
   case measure => simp [intOf]; omega
  ·obtain rfl : k = n := by omega
   go_wp2
   go_ret
   exact ⟨by simp, hrd, hrt⟩
theorem passOver_c (b : Nat) (w : World) (s : ByteArray) (p : Nat) (h : Rd w b s p) :
  Calls Tryz.prog 112 #[.pointer (some ⟨b, 0, none⟩)] w fun e w' => e = .returned (.tuple #[]) ∧ w' = w.setCell ⟨b, 3, none⟩ (.int .i64 0) := by
 have f3 := h.fr 3
 have c3 := h.c3
 go_enter Tryz.func112, Tryz.ntmps112
 go_wp2
 go_end0
 exact ⟨rfl, rfl⟩
theorem bytesLeft_c (b : Nat) (w : World) (s : ByteArray) (k : Nat) (hs : s.size ≤ maxLen) (hk : k ≤ s.size) (h0 : w.cell? ⟨b, 0, none⟩ = some (.string s)) (h1 : w.cell? ⟨b, 1, none⟩ = some (.int .i64 k)) :
  Calls Tryz.prog 113 #[.pointer (some ⟨b, 0, none⟩)] w fun e w' => e = .returned (.int .i64 (s.size - k : Nat)) ∧ ∃ n, w' = w.drewN n := by
 unfold maxLen at hs
 go_enter Tryz.func113, Tryz.ntmps113
 go_wp2
 go_quiet (fail)
 go_wp2
 go_ret
 exact ⟨ret_int (by omega), _, rfl⟩
theorem wholeBytes_c (b : Nat) (w : World) (s : ByteArray) (k n : Nat) (hs : s.size ≤ maxLen) (hk : k + n ≤ s.size) (h0 : w.cell? ⟨b, 0, none⟩ = some (.string s)) (h1 : w.cell? ⟨b, 1, none⟩ = some (.int .i64 k)) (f1 : w.frozen? ⟨b, 1, none⟩ = false) :
  Calls Tryz.prog 115 #[.pointer (some ⟨b, 0, none⟩), .int .i64 n] w fun e w' => e = .returned (.string (s.extract k (k + n))) ∧ ∃ m, w' = (w.setCell ⟨b, 1, none⟩ (.int .i64 (k + n : Nat))).drewN m := by
 unfold maxLen at hs
 go_enter Tryz.func115, Tryz.ntmps115
 go_wp2
 go_quiet (fail)
 go_wp2
 go_ret
 exact ⟨rfl, _, rfl⟩
end Go.Proofs.YtnmkmmgaoplfiaaGreatDoor
namespace Go.Proofs.YtnmkmmgaoplfiaaGreatDoor
open Go.RowKit
structure IsCode (w : World) (b off nb cap : Nat) (L : List Nat) : Prop where
 cnts : ∀ i, i < 16 → w.cell? ⟨b, off + i, none⟩ = some (.int .i64 (cnt L i : Nat))
 nums : w.cell? ⟨b, off + 16, none⟩ = some (.slice (some ⟨nb, 0, none⟩) (placeOf L 16) cap)
 num : ∀ n r, 1 ≤ n → n < 16 → r < cnt L n → w.cell? ⟨nb, placeOf L n + r, none⟩ = some (.int .i64 (nth L n r : Nat))
 few : L.length ≤ 400
theorem IsCode.keep {w w' : World} {b off nb cap : Nat} {L : List Nat} (h : IsCode w b off nb cap L) {S : Nat → Prop} (ht : Touch S w w') (h1 : ¬ S b) (h2 : ¬ S nb) : IsCode w' b off nb cap L :=
 ⟨fun i hi => ht.at (h.cnts i hi) h1, ht.at h.nums h1, fun n r a b c => ht.at (h.num n r a b c) h2, h.few⟩
theorem IsCode.cnt1 {w : World} {b off nb cap : Nat} {L : List Nat} (h : IsCode w b off nb cap L) (k : Nat) (hk : k < 15) : w.cell? ⟨b, off + 1 + k, none⟩ = some (.int .i64 (cnt L (k + 1) : Nat)) := by
 have := h.cnts (k + 1) (by omega)
 rwa [show off + (k + 1) = off + 1 + k by omega] at this
theorem isFull_c (w : World) (b off nb cap : Nat) (L : List Nat) (h : IsCode w b off nb cap L) :
  Calls Tryz.prog 122 #[.pointer (some ⟨b, off, none⟩)] w fun e w' => e = .returned (.bool (freeOf L 15 == 0)) ∧ w' = w := by
 go_enter Tryz.func122, Tryz.ntmps122
 go_wp2
 go_loop [3, 11] (fun t i => ∃ k : Nat, k ≤ 15 ∧ i = .int .i64 k ∧ t = .int .i64 (freeOf L k)) (fun _ i => 15 - (intOf i).toNat)
 case atStart => exact ⟨0, by omega, rfl, rfl⟩
 case round =>
  obtain ⟨k, hk, rfl, rfl⟩ := hrel
  have hb := free_bd15 L h.few k hk
  have hc := cnt_le L (k + 1)
  have hf := h.few
  by_cases hlt : k < 15
  ·have hcell := h.cnt1 k hlt
   go_wp2
   go_round
   case rel => exact ⟨k + 1, by omega, by go_num, by simp only [freeOf]⟩
   case measure => simp [intOf]; omega
  ·obtain rfl : k = 15 := by omega
   go_wp2
   go_ret
   exact ⟨rfl, rfl⟩
theorem serves_c (w : World) (b off nb cap : Nat) (L : List Nat) (h : IsCode w b off nb cap L) :
  Calls Tryz.prog 124 #[.pointer (some ⟨b, off, none⟩)] w fun e w' => e = .returned (.bool (placeOf L 16 == 0 || (placeOf L 16 == 1 && cnt L 1 == 1) || freeOf L 15 == 0)) ∧ w' = w := by
 have hn := h.nums
 have h1 := h.cnts 1 (by omega)
 by_cases e0 : placeOf L 16 = 0
 ·rw [e0] at hn ⊢
  go_enter Tryz.func124, Tryz.ntmps124
  go_wp2
  go_ret
  exact ⟨rfl, rfl⟩
 ·by_cases e1 : placeOf L 16 = 1
  ·rw [e1] at hn ⊢
   by_cases e2 : cnt L 1 = 1
   ·rw [e2] at h1 ⊢
    go_enter Tryz.func124, Tryz.ntmps124
    go_wp2
    go_ret
    exact ⟨rfl, rfl⟩
   ·have e2' : ((cnt L 1 : Int) == 1) = false := by simp; omega
    go_enter Tryz.func124, Tryz.ntmps124
    go_wp2_with (go_at_call 122; refine (isFull_c _ _ _ _ _ _ h).mono ?_; rintro e w' ⟨rfl, rfl⟩)
    go_ret
    exact ⟨by simp [e2], rfl⟩
  ·have e0' : ((placeOf L 16 : Int) == 0) = false := by simp; omega
   have e1' : ((placeOf L 16 : Int) == 1) = false := by simp; omega
   go_enter Tryz.func124, Tryz.ntmps124
   go_wp2_with (go_at_call 122; refine (isFull_c _ _ _ _ _ _ h).mono ?_; rintro e w' ⟨rfl, rfl⟩)
   go_ret
   exact ⟨by simp [e0, e1], rfl⟩
def nextVal : Option (Nat × Nat) → Value
 | none => .tuple #[.int .i64 0, .bool false]
 | some (n, _) => .tuple #[.int .i64 n, .bool true]
theorem or_bit (x y : Nat) (hx : x < 2 ^ 40) (hy : y < 2) : bits BinOp.or IntKind.i64 ((x : Int) * 2) (y : Int) = ((2 * x + y : Nat) : Int) := by
 have hw : ∀ n : Int, 0 ≤ n → n < 2 ^ 62 → IntKind.i64.wrap n = n := by intro n h0 h1; simp [IntKind.wrap, IntKind.bits, IntKind.signed]; omega
 have hh := (bits_nat .i64 62 (by decide) hw (2 * x) y (by omega) (by omega)).2
 have e : ((x : Int) * 2) = ((2 * x : Nat) : Int) := by push_cast; omega
 rw [e, hh]
 have := Nat.two_pow_add_eq_or_of_lt (show y < 2 ^ 1 by omega) x
 simp only [Nat.pow_one] at this
 rw [this]
theorem placeOf_bd (L : List Nat) (hL : L.length ≤ 400) (n : Nat) (hn : n ≤ 16) : placeOf L n ≤ 6400 :=
 Nat.le_trans (placeOf_le L n) (Nat.mul_le_mul hn hL)
theorem pow_step {y b k : Nat} (hy : y < 2 ^ k) (hb : b < 2) : 2 * y + b < 2 ^ (k + 1) := by rw [Nat.pow_succ]; omega
theorem next_c (w : World) (b off nb cap rb : Nat) (L : List Nat) (s : ByteArray) (p : Nat) (hs : s.size ≤ maxLen) (h : IsCode w b off nb cap L) (hr : Rd w rb s p) (hb : b ≠ rb) (hnb : nb ≠ rb) :
  Calls Tryz.prog 118 #[.pointer (some ⟨b, off, none⟩), .pointer (some ⟨rb, 0, none⟩)] w fun e w' =>
   e = .returned (nextVal (dec L s p)) ∧ (∀ n q, dec L s p = some (n, q) → Rd w' rb s q) ∧ RT rb w w' := by
 go_enter Tryz.func118, Tryz.ntmps118
 go_wp2
 go_loopw [6, 7, 8, 16] (fun x f pl i wr => ∃ k y : Nat, k ≤ 15 ∧ i = .int .i64 k ∧ x = .int .i64 y ∧ f = .int .i64 (firstOf L (k + 1) : Nat) ∧ pl = .int .i64 (placeOf L (k + 1) : Nat) ∧ y < 2 ^ k ∧ firstOf L (k + 1) ≤ 2 * y ∧ Rd wr rb s (p + k) ∧ RT rb w wr ∧ dec L s p = decGo L s p (15 - k) k y) (fun _ _ _ i _ => 15 - (intOf i).toNat)
 case atStart => exact ⟨0, 0, by omega, rfl, rfl, rfl, rfl, by omega, by simp [firstOf, cnt], hr, RT.refl _ _, rfl⟩
 case round =>
  obtain ⟨k, y, hk, rfl, rfl, rfl, rfl, hy, hfy, hrd, hrt, hdec⟩ := hrel
  by_cases hlt : k < 15
  ·have hc := h.keep hrt.t hb hnb
   have hy40 : y < 2 ^ 40 := Nat.lt_of_lt_of_le hy (Nat.pow_le_pow_right (by omega) (by omega))
   have hbl := bitOf_lt s (p + k)
   have hor := or_bit y (bitOf s (p + k)) hy40 hbl
   have hcl := cnt_le L (k + 1)
   have hf := h.few
   have hcell := hc.cnt1 k hlt
   have hpl := placeOf_bd L hf (k + 1) (by omega)
   have HD : Hid (decGo L s p (15 - k) k y = if 8 * s.size < p + k + 1 then none else if firstOf L (k + 1) ≤ 2 * y + bitOf s (p + k) ∧ 2 * y + bitOf s (p + k) < firstOf L (k + 1) + cnt L (k + 1) then some (nth L (k + 1) (2 * y + bitOf s (p + k) - firstOf L (k + 1)), p + k + 1) else decGo L s p (15 - (k + 1)) (k + 1) (2 * y + bitOf s (p + k))) := by
    obtain ⟨f, hf⟩ : ∃ f, 15 - k = f + 1 := ⟨14 - k, by omega⟩
    rw [show 15 - (k + 1) = f by omega, hf]; rfl
   have HK : Hid (dec L s p = decGo L s p (15 - k) k y) := hdec
   clear hdec
   by_cases hend : 8 * s.size < p + k + 1
   ·have HE : Hid (dec L s p = none) := by unfold Hid; rw [HK.out, HD.out, if_pos hend]
    go_wp2_with (go_at_call 61; refine (bit_c _ _ _ _ hs hrd).mono ?_; rintro e w' ⟨rfl, hrd', hrt'⟩; have h4 := hrd'.c4)
    go_ret2
    exact ⟨by rw [HE.out]; rfl, (by intro n q hh; rw [HE.out] at hh; cases hh), hrt.trans hrt'⟩
   ·by_cases hit : 2 * y + bitOf s (p + k) < firstOf L (k + 1) + cnt L (k + 1)
    ·have HE : Hid (dec L s p = some (nth L (k + 1) (2 * y + bitOf s (p + k) - firstOf L (k + 1)), p + k + 1)) := by unfold Hid; rw [HK.out, HD.out, if_neg hend, if_pos ⟨by omega, hit⟩]
     have hnum0 := hc.num (k + 1) (2 * y + bitOf s (p + k) - firstOf L (k + 1)) (by omega) (by omega) (by omega)
     have hend16 := placeOf_end L (show k + 1 < 16 by omega) (show 2 * y + bitOf s (p + k) - firstOf L (k + 1) < cnt L (k + 1) by omega)
     have hp16 := placeOf_bd L hf 16 (by omega)
     rw [show placeOf L (k + 1) + (2 * y + bitOf s (p + k) - firstOf L (k + 1)) = placeOf L (k + 1) + (2 * y + bitOf s (p + k)) - firstOf L (k + 1) by omega] at hnum0 hend16
     have h160 := hc.nums
     go_wp2_with (go_at_call 61; refine (bit_c _ _ _ _ hs hrd).mono ?_; rintro e w' ⟨rfl, hrd', hrt'⟩; have h4 := hrd'.c4; have h16 := hrt'.t.at h160 hb; have hnum := hrt'.t.at hnum0 hnb)
     go_ret2
     exact ⟨by rw [HE.out]; rfl, (by intro n q hh; rw [HE.out] at hh; cases hh; exact hrd'), hrt.trans hrt'⟩
    ·go_wp2_with (go_at_call 61; refine (bit_c _ _ _ _ hs hrd).mono ?_; rintro e w' ⟨rfl, hrd', hrt'⟩; have h4 := hrd'.c4)
     go_roundw
     case rel => exact ⟨k + 1, 2 * y + bitOf s (p + k), by omega, by go_num, by go_num, by rw [show firstOf L (k + 1 + 1) = 2 * (firstOf L (k + 1) + cnt L (k + 1)) from rfl]; go_num, by rw [show placeOf L (k + 1 + 1) = placeOf L (k + 1) + cnt L (k + 1) from rfl]; go_num, pow_step hy hbl, by rw [show firstOf L (k + 1 + 1) = 2 * (firstOf L (k + 1) + cnt L (k + 1)) from rfl]; omega, hrd', hrt.trans hrt', by rw [HK.out, HD.out, if_neg hend, if_neg (by omega)]⟩
     case measure => simp [intOf]; omega
  ·obtain rfl : k = 15 := by omega
   go_wp2
   go_ret2
   exact ⟨by rw [hdec]; rfl, (by intro n q hh; rw [hdec] at hh; cases hh), hrt⟩
end Go.Proofs.YtnmkmmgaoplfiaaGreatDoor
namespace Go.Proofs.YtnmkmmgaoplfiaaGreatDoor
open Go.RowKit
def cArr (f : Nat → Nat) (v : Value) : Array Value :=
 #[.int .i64 (f 0 : Nat), .int .i64 (f 1 : Nat), .int .i64 (f 2 : Nat), .int .i64 (f 3 : Nat), .int .i64 (f 4 : Nat), .int .i64 (f 5 : Nat), .int .i64 (f 6 : Nat), .int .i64 (f 7 : Nat),
  .int .i64 (f 8 : Nat), .int .i64 (f 9 : Nat), .int .i64 (f 10 : Nat), .int .i64 (f 11 : Nat), .int .i64 (f 12 : Nat), .int .i64 (f 13 : Nat), .int .i64 (f 14 : Nat), .int .i64 (f 15 : Nat), v]
def pArr (f : Nat → Nat) : Array Value :=
 #[.int .i64 (f 0 : Nat), .int .i64 (f 1 : Nat), .int .i64 (f 2 : Nat), .int .i64 (f 3 : Nat), .int .i64 (f 4 : Nat), .int .i64 (f 5 : Nat), .int .i64 (f 6 : Nat), .int .i64 (f 7 : Nat),
  .int .i64 (f 8 : Nat), .int .i64 (f 9 : Nat), .int .i64 (f 10 : Nat), .int .i64 (f 11 : Nat), .int .i64 (f 12 : Nat), .int .i64 (f 13 : Nat), .int .i64 (f 14 : Nat), .int .i64 (f 15 : Nat)]
def upd (f : Nat → Nat) (x y : Nat) (j : Nat) : Nat := if j = x then y else f j
def codeCells (L : List Nat) (v : Value) : Array Value := cArr (cnt L) v
theorem lt16 {x : Nat} (h : x < 16) : x = 0 ∨ x = 1 ∨ x = 2 ∨ x = 3 ∨ x = 4 ∨ x = 5 ∨ x = 6 ∨ x = 7 ∨ x = 8 ∨ x = 9 ∨ x = 10 ∨ x = 11 ∨ x = 12 ∨ x = 13 ∨ x = 14 ∨ x = 15 := by omega
theorem cArr_at (f : Nat → Nat) (v : Value) (x : Nat) (h : x < 16) : (cArr f v)[x]? = some (.int .i64 (f x : Nat)) := by
 rcases lt16 h with rfl | rfl | rfl | rfl | rfl | rfl | rfl | rfl | rfl | rfl | rfl | rfl | rfl | rfl | rfl | rfl <;> rfl
theorem cArr_set (f : Nat → Nat) (v : Value) (x y : Nat) (h : x < 16) : (cArr f v).setIfInBounds x (.int .i64 (y : Nat)) = cArr (upd f x y) v := by
 rcases lt16 h with rfl | rfl | rfl | rfl | rfl | rfl | rfl | rfl | rfl | rfl | rfl | rfl | rfl | rfl | rfl | rfl <;> simp [cArr, upd]
theorem cArr_set16 (f : Nat → Nat) (v u : Value) : (cArr f v).setIfInBounds 16 u = cArr f u := by simp [cArr]
theorem pArr_at (f : Nat → Nat) (x : Nat) (h : x < 16) : (pArr f)[x]? = some (.int .i64 (f x : Nat)) := by
 rcases lt16 h with rfl | rfl | rfl | rfl | rfl | rfl | rfl | rfl | rfl | rfl | rfl | rfl | rfl | rfl | rfl | rfl <;> rfl
theorem pArr_set (f : Nat → Nat) (x y : Nat) (h : x < 16) : (pArr f).setIfInBounds x (.int .i64 (y : Nat)) = pArr (upd f x y) := by
 rcases lt16 h with rfl | rfl | rfl | rfl | rfl | rfl | rfl | rfl | rfl | rfl | rfl | rfl | rfl | rfl | rfl | rfl <;> simp [pArr, upd]
theorem cArr_congr {f g : Nat → Nat} (v : Value) (h : ∀ j, j < 16 → f j = g j) : cArr f v = cArr g v := by
 simp only [cArr, h 0 (by omega), h 1 (by omega), h 2 (by omega), h 3 (by omega), h 4 (by omega), h 5 (by omega), h 6 (by omega), h 7 (by omega), h 8 (by omega), h 9 (by omega), h 10 (by omega), h 11 (by omega), h 12 (by omega), h 13 (by omega), h 14 (by omega), h 15 (by omega)]
theorem pArr_congr {f g : Nat → Nat} (h : ∀ j, j < 16 → f j = g j) : pArr f = pArr g := by
 simp only [pArr, h 0 (by omega), h 1 (by omega), h 2 (by omega), h 3 (by omega), h 4 (by omega), h 5 (by omega), h 6 (by omega), h 7 (by omega), h 8 (by omega), h 9 (by omega), h 10 (by omega), h 11 (by omega), h 12 (by omega), h 13 (by omega), h 14 (by omega), h 15 (by omega)]
theorem row_cell {w : World} {g : Nat} {cs : Array Value} {t : TypeId} (h : w.heap[g]? = some (.cells cs t (0, 0))) (j : Nat) : w.cell? ⟨g, j, none⟩ = cs[j]? := cell_of_row w g j cs t _ h
theorem row_fr {w : World} {g : Nat} {cs : Array Value} {t : TypeId} (h : w.heap[g]? = some (.cells cs t (0, 0))) (j : Nat) : w.frozen? ⟨g, j, none⟩ = false := frozen_of_row w g j cs t h
theorem row_set {w : World} {g : Nat} {cs : Array Value} {t : TypeId} (h : w.heap[g]? = some (.cells cs t (0, 0))) (j : Nat) (v : Value) : (w.setCell ⟨g, j, none⟩ v).heap[g]? = some (.cells (cs.setIfInBounds j v) t (0, 0)) := heap_setCell_same w g j cs t v h
theorem row_ne {w : World} {g k j : Nat} {v : Value} (h : k ≠ g) : (w.setCell ⟨g, j, none⟩ v).heap[k]? = w.heap[k]? := heap_setCell_other w ⟨g, j, none⟩ k v h
theorem take_count {L : List Nat} {k : Nat} (h : k < L.length) (j : Nat) : (L.take (k + 1)).count j = upd (fun i => (L.take k).count i) L[k] ((L.take k).count L[k] + 1) j := by
 rw [List.take_succ_eq_append_getElem h, List.count_append]
 unfold upd
 by_cases e : j = L[k]
 ·rw [if_pos e, e]; simp
 ·rw [if_neg e]; simp [List.count_cons]; omega
theorem rank_lt {L : List Nat} {q : Nat} (h : q < L.length) : (L.take q).count L[q] < L.count L[q] := by
 have e : L = L.take q ++ (L[q] :: L.drop (q + 1)) := by rw [← List.drop_eq_getElem_cons h, List.take_append_drop]
 have : L.count L[q] = (L.take q ++ (L[q] :: L.drop (q + 1))).count L[q] := by rw [← e]
 rw [this, List.count_append, List.count_cons_self]; omega
theorem rank_ne {L : List Nat} {i q : Nat} (hi : i < L.length) (hq : q < L.length) (hlt : i < q) (h1 : 1 ≤ L[i]) (h2 : 1 ≤ L[q]) (e : placeOf L L[q] + (L.take q).count L[q] = placeOf L L[i] + (L.take i).count L[i]) : False := by
 have ri := rank_lt hi
 have rq := rank_lt hq
 by_cases he : L[i] = L[q]
 ·have hlt2 : (L.take i).count L[i] < (L.take q).count L[i] := by
   have h3 : i < (L.take q).length := by rw [List.length_take]; omega
   have h4 := rank_lt h3
   rw [List.getElem_take, List.take_take, Nat.min_eq_left (by omega)] at h4
   exact h4
  rw [he] at hlt2 e; omega
 ·have ci : cnt L L[i] = L.count L[i] := by unfold cnt; rw [if_neg (by omega)]
  have cq : cnt L L[q] = L.count L[q] := by unfold cnt; rw [if_neg (by omega)]
  rcases Nat.lt_or_gt_of_ne he with h | h
  ·have := placeOf_mono L (show L[i] + 1 ≤ L[q] by omega)
   simp only [placeOf] at this; omega
  ·have := placeOf_mono L (show L[q] + 1 ≤ L[i] by omega)
   simp only [placeOf] at this; omega
theorem cArr_one (f : Nat → Nat) (a : Option Addr) (n c : Nat) : (cArr f (.slice a n c)).all (fun x => x.oneCell') = true := by simp [cArr, Value.oneCell']
theorem Tryz.infoInt : (Tryz.prog.info? 3).map (fun i => (i.zero, i.size, i.bytes)) = some (some (.int .i64 0), 1, 8) := by kernel_rfl
theorem newCode_c (w : World) (lb lo n cap : Nat) (L : List Nat) (hlen : L.length = n) (hn : n ≤ 400) (hL : ∀ x ∈ L, x ≤ 15) (hcells : ∀ j (h : j < L.length), w.cell? ⟨lb, lo + j, none⟩ = some (.int .i64 (L[j] : Nat))) :
  Calls Tryz.prog 117 #[.slice (some ⟨lb, lo, none⟩) n cap] w fun e w' => ∃ nb cap', e = .returned (.agg (codeCells L (.slice (some ⟨nb, 0, none⟩) (placeOf L 16) cap'))) ∧ w.heap.size ≤ nb ∧ nb < w'.heap.size ∧
   (∀ n r, 1 ≤ n → n < 16 → r < cnt L n → w'.cell? ⟨nb, placeOf L n + r, none⟩ = some (.int .i64 (nth L n r : Nat))) ∧ Typed w' nb 3 ∧ Touch (fun _ => False) w w' := by
 go_enter Tryz.func117, Tryz.ntmps117
 go_wp2
 go_loopw [14] (fun i wr => ∃ k : Nat, k ≤ n ∧ i = .int .i64 k ∧ wr.heap[w.heap.size]? = some (.cells (cArr (fun _ => 0) (.slice none 0 0)) 191 (0, 0)) ∧ wr.heap[w.heap.size + 1]? = some (.cells (cArr (fun j => (L.take k).count j) (.slice none 0 0)) 191 (0, 0)) ∧ wr.heap.size = w.heap.size + 2 ∧ Touch (fun _ => False) w wr) (fun i _ => n - (intOf i).toNat)
 case atStart => exact ⟨0, by omega, rfl, by rw [Below.heap_alloc _ _ _ (by simp)]; exact heap_alloc_new w _, by simp only [List.take_zero, List.count_nil]; exact heap_alloc2_new w _ _, by simp, ((Touch.refl _ _).alloc _).alloc _⟩
 case round =>
  obtain ⟨k, hk, rfl, r0, r1, hsz, ht⟩ := hrel
  by_cases hlt : k < n
  ·have hk' : k < L.length := by omega
   have hin : L[k] ≤ 15 := hL _ (List.getElem_mem hk')
   have hcell : wr.cell? ⟨lb, lo + k, none⟩ = some (.int .i64 (L[k] : Nat)) := ht.at (hcells k hk') (fun h => h)
   have hle : (L.take k).count L[k] ≤ k := Nat.le_trans List.count_le_length (List.length_take_le _ _)
   obtain ⟨x, hx⟩ : ∃ x, x = L[k] := ⟨_, rfl⟩
   have HX : Hid (x = L[k]) := hx
   rw [← hx] at hcell hin hle
   clear hx
   have hc1 : wr.cell? ⟨w.heap.size + 1, x, none⟩ = some (.int .i64 ((L.take k).count x : Nat)) := by rw [row_cell r1, cArr_at _ _ _ (by omega)]
   have hf1 := row_fr r1 x
   go_wp2
   go_roundw
   case rel => 
    refine ⟨k + 1, by omega, by go_num, by rw [row_ne (by omega)]; exact r0, ?_, by rw [size_setCell]; exact hsz, ht.setNew (by simp) _⟩
    rw [row_set r1]
    have e : (((L.take k).count x : Nat) : Int) + 1 = (((L.take k).count x + 1 : Nat) : Int) := by omega
    rw [e, cArr_set _ _ _ _ (by omega)]
    congr 2
    refine cArr_congr _ fun j _ => ?_
    rw [take_count hk', HX.out]
   case measure => simp [intOf]; omega
  ·obtain rfl : k = n := by omega
   have htk : L.take k = L := List.take_of_length_le (by omega)
   rw [htk] at r1
   have hc0 : wr.cell? ⟨w.heap.size + 1, 0, none⟩ = some (.int .i64 (L.count 0 : Nat)) := by rw [row_cell r1, cArr_at _ _ _ (by omega)]
   have hf0 := row_fr r1 0
   have hle0 : L.count 0 ≤ k := by have := List.count_le_length (a := 0) (l := L); omega
   go_wp2
   go_loopw [8] (fun i wr => ∃ l : Nat, 1 ≤ l ∧ l ≤ 15 ∧ i = .int .i64 l ∧ wr.heap[w.heap.size]? = some (.cells (cArr (fun _ => 0) (.slice none 0 0)) 191 (0, 0)) ∧ wr.heap[w.heap.size + 1]? = some (.cells (cArr (cnt L) (.slice none 0 0)) 191 (0, 0)) ∧ wr.heap[w.heap.size + 2]? = some (.cells (pArr (fun j => if j ≤ l then placeOf L j else 0)) 189 (0, 0)) ∧ wr.heap.size = w.heap.size + 3 ∧ Touch (fun _ => False) w wr) (fun i _ => 15 - (intOf i).toNat)
   case atStart =>
    refine ⟨1, by omega, by omega, rfl, ?_, ?_, ?_, ?_, ?_⟩
    ·rw [Below.heap_alloc _ _ _ (by rw [size_setCell]; omega), row_ne (by omega)]; exact r0
    ·rw [Below.heap_alloc _ _ _ (by rw [size_setCell]; omega), row_set r1]
     have := cArr_set (fun j => L.count j) (.slice none 0 0) 0 0 (by omega)
     rw [show (Value.int IntKind.i64 0) = (Value.int IntKind.i64 ((0 : Nat) : Int)) from rfl, this]
     congr 2
    ·rw [show w.heap.size + 2 = (wr.setCell ⟨w.heap.size + 1, 0, none⟩ (Value.int IntKind.i64 0)).heap.size by rw [size_setCell]; omega, heap_alloc_new]
     congr 2
    ·simp [size_setCell]; omega
    ·exact (ht.setNew (by simp) _).alloc _
   case round =>
    clear r0 r1 ht hc0 hf0 hsz
    obtain ⟨l, hl1, hl2, rfl, r0, r1, r2, hsz, ht⟩ := hrel
    by_cases hlt : l < 15
    ·have q1 : wr.cell? ⟨w.heap.size + 1, l, none⟩ = some (.int .i64 (cnt L l : Nat)) := by rw [row_cell r1, cArr_at _ _ _ (by omega)]
     have q2 : wr.cell? ⟨w.heap.size + 2, l, none⟩ = some (.int .i64 (placeOf L l : Nat)) := by rw [row_cell r2, pArr_at _ _ (by omega)]; simp
     have q3 : wr.cell? ⟨w.heap.size + 2, l + 1, none⟩ = some (.int .i64 0) := by rw [row_cell r2, pArr_at _ _ (by omega), if_neg (by omega)]; rfl
     have q4 := row_fr r2 (l + 1)
     have b1 := placeOf_bd L (by omega) l (by omega)
     have b2 := cnt_le L l
     go_wp2
     go_region
     all_goals go_wp2
     all_goals go_roundw
     case rel =>
      refine ⟨l + 1, by omega, by omega, by go_num, ?_, ?_, ?_, ?_, ?_⟩
      ·show (wr.setCell _ _).heap[_]? = _
       rw [row_ne (by omega)]; exact r0
      ·show (wr.setCell _ _).heap[_]? = _
       rw [row_ne (by omega)]; exact r1
      ·show (wr.setCell _ _).heap[_]? = _
       have e : ((placeOf L l : Nat) : Int) + ((cnt L l : Nat) : Int) = ((placeOf L l + cnt L l : Nat) : Int) := by omega
       rw [row_set r2, e, pArr_set _ _ _ (by omega)]
       congr 2
       refine pArr_congr fun j _ => ?_
       unfold upd
       by_cases hj : j = l + 1
       ·rw [if_pos hj, if_pos (by omega), hj]; rfl
       ·rw [if_neg hj]
        show (if j ≤ l then placeOf L j else 0) = _
        by_cases h2 : j ≤ l
        ·rw [if_pos h2, if_pos (by omega)]
        ·rw [if_neg h2, if_neg (by omega)]
      ·show (wr.setCell _ _).heap.size = _
       rw [size_setCell]; exact hsz
      ·exact (ht.setNew (by simp) _).drew
     case measure => simp [intOf]; omega
    ·obtain rfl : l = 15 := by omega
     have htot := placeOf_total L hL
     obtain ⟨i0, hi, hz0, hz1, hz2⟩ := info_parts Tryz.infoInt
     have hc16 : wr.cell? ⟨w.heap.size + 1, 16, none⟩ = some (.slice none 0 0) := by rw [row_cell r1]; rfl
     have hf16 := row_fr r1 16
     have hbs : w.heap.size + 3 ≤ wr.heap.size := by omega
     have hp16 := placeOf_bd L (by omega) 16 (by omega)
     have hm1 : i0.bytes * placeOf L 16 ≤ 281474976710656 := by rw [hz2]; omega
     have hm2 : placeOf L 16 ≤ maxLen := by unfold maxLen; omega
     have hm3 : (k : Int) - (L.count 0 : Nat) = (placeOf L 16 : Nat) := by omega
     have HM : Hid ((k : Int) - (L.count 0 : Nat) = (placeOf L 16 : Nat)) := hm3
     clear hm3
     go_wp2_with (at_make; refine wpList_make_full _ rfl _ _ 187 rfl (w.heap.size + 3) 3 i0 (.int .i64 0) 1 Tryz.underlying187 hi hz0 hz1 .i64 .i64 _ _ (placeOf L 16) rfl rfl HM.out HM.out hm1 hm2 hbs ?_; intro w1 hown1 hgrow1; have hc16' := hgrow1.cell hc16 (by simp); have hf16' : w1.frozen? ⟨w.heap.size + 1, 16, none⟩ = false := (World.frozen?_of_block (hgrow1.block (w.heap.size + 1) (by omega) (by simp))).trans hf16)
     go_loopw [54] (fun i wr => ∃ (q : Nat) (xs : List Value), q ≤ k ∧ i = .int .i64 q ∧ wr.heap[w.heap.size]? = some (.cells (cArr (fun _ => 0) (.slice none 0 0)) 191 (0, 0)) ∧ wr.heap[w.heap.size + 1]? = some (.cells (cArr (cnt L) (.slice (some ⟨w.heap.size + 3, 0, none⟩) (placeOf L 16) (placeOf L 16))) 191 (0, 0)) ∧ wr.heap[w.heap.size + 2]? = some (.cells (pArr (fun j => if j = 0 then 0 else placeOf L j + (L.take q).count j)) 189 (0, 0)) ∧ wr.ownsRow (w.heap.size + 3) 3 1 (.slice (some ⟨w.heap.size + 3, 0, none⟩) (placeOf L 16) (placeOf L 16)) (placeOf L 16) xs ∧ (∀ i (h : i < L.length), i < q → 1 ≤ L[i] → xs[placeOf L L[i] + (L.take i).count L[i]]? = some (.int .i64 (i : Nat))) ∧ Touch (fun _ => False) w wr) (fun i _ => k - (intOf i).toNat)
     case atStart =>
      rw [hsz] at hown1
      have g0 := hgrow1.block w.heap.size (by omega) (by simp)
      have g1 := hgrow1.block (w.heap.size + 1) (by omega) (by simp)
      have g2 := hgrow1.block (w.heap.size + 2) (by omega) (by simp)
      refine ⟨0, _, by omega, rfl, ?_, ?_, ?_, ownsRow_setCell_below (a := ⟨w.heap.size + 1, 16, none⟩) hown1 (by show w.heap.size + 1 < w.heap.size + 3; omega) _, ?_, ?_⟩
      ·rw [row_ne (by omega), g0]; exact r0
      ·rw [row_set (g1.trans r1), cArr_set16]
      ·rw [row_ne (by omega), g2, r2]
       congr 1
      ·intro i h h0; omega
      ·exact (ht.grownNew hgrow1 (by intro k e; cases e)).setNew (by simp) _
     case round =>
      clear r0 r1 r2 ht hsz hc16 hf16 hbs hc16' hf16' hown1 hgrow1
      obtain ⟨q, xs, hq, rfl, r0, r1, r2, hown, hxs, ht⟩ := hrel
      by_cases hlt : q < k
      ·have hq' : q < L.length := by omega
       have hin : L[q] ≤ 15 := hL _ (List.getElem_mem hq')
       have hcell : wr.cell? ⟨lb, lo + q, none⟩ = some (.int .i64 (L[q] : Nat)) := ht.at (hcells q hq') (fun h => h)
       have hpos := rank_lt hq'
       obtain ⟨x, hx⟩ : ∃ x, x = L[q] := ⟨_, rfl⟩
       have HX : Hid (x = L[q]) := hx
       rw [← hx] at hcell hin hpos
       clear hx
       by_cases h0 : x = 0
       ·subst h0
        go_wp2
        go_roundw
        case rel =>
         refine ⟨q + 1, xs, by omega, by go_num, r0, r1, ?_, hown, ?_, ht⟩
         ·rw [r2]
          congr 2
          refine pArr_congr fun j hj => ?_
          by_cases hj0 : j = 0
          ·rw [if_pos hj0, if_pos hj0]
          ·rw [if_neg hj0, if_neg hj0, take_count hq', ← HX.out]; unfold upd; rw [if_neg hj0]
         ·intro i h hi h1
          by_cases e : i = q
          ·subst e; rw [← HX.out] at h1; omega
          ·exact hxs i h (by omega) h1
        case measure => simp [intOf]; omega
       ·have hx0 : (0 : Int) < (x : Int) := by omega
        have e1 : wr.cell? ⟨w.heap.size + 1, 16, none⟩ = some (.slice (some ⟨w.heap.size + 3, 0, none⟩) (placeOf L 16) (placeOf L 16)) := by rw [row_cell r1]; rfl
        have e2 : wr.cell? ⟨w.heap.size + 2, x, none⟩ = some (.int .i64 (placeOf L x + (L.take q).count x : Nat)) := by rw [row_cell r2, pArr_at _ _ (by omega), if_neg h0]
        have hlt16 : placeOf L x + (L.take q).count x < placeOf L 16 := placeOf_end L (by omega) (by unfold cnt; rw [if_neg h0]; exact hpos)
        obtain ⟨old, e3⟩ : ∃ v, wr.cell? ⟨w.heap.size + 3, placeOf L x + (L.take q).count x, none⟩ = some v := by
         rw [hown.cellAt _ (by omega)]
         have := hown.1
         exact ⟨_, List.getElem?_eq_getElem (by omega)⟩
        have e4 := hown.frozenAt (placeOf L x + (L.take q).count x)
        have e5 := row_fr r2 x
        go_wp2
        go_region
        all_goals go_wp2
        all_goals go_roundw
        case rel =>
         have hst := (hown.stored (placeOf L x + (L.take q).count x) (.int .i64 (q : Nat))).1
         refine ⟨q + 1, _, by omega, by go_num, ?_, ?_, ?_, ownsRow_setCell_below (a := ⟨w.heap.size + 2, x, none⟩) (h := hst) (by show w.heap.size + 2 < w.heap.size + 3; omega) _, ?_, ?_⟩
         ·show ((wr.setCell _ _).setCell _ _).heap[_]? = _
          rw [row_ne (by omega), row_ne (by omega)]; exact r0
         ·show ((wr.setCell _ _).setCell _ _).heap[_]? = _
          rw [row_ne (by omega), row_ne (by omega)]; exact r1
         ·show ((wr.setCell _ _).setCell _ _).heap[_]? = _
          have r2' := r2
          rw [← row_ne (w := wr) (g := w.heap.size + 3) (j := placeOf L x + (L.take q).count x) (v := .int .i64 (q : Nat)) (by omega)] at r2'
          have e : ((placeOf L x : Nat) : Int) + (((L.take q).count x : Nat) : Int) + 1 = ((placeOf L x + (L.take q).count x + 1 : Nat) : Int) := by omega
          rw [row_set r2', e, pArr_set _ _ _ (by omega)]
          congr 2
          refine pArr_congr fun j hj => ?_
          rw [take_count hq', ← HX.out]
          unfold upd
          by_cases hj0 : j = x
          ·rw [if_pos hj0, if_pos hj0, if_neg (by omega), hj0]; omega
          ·rw [if_neg hj0, if_neg hj0]
         ·intro i h hi h1
          by_cases e : i = q
          ·subst e
           rw [← HX.out, List.getElem?_set_self (by have := hown.1; omega)]
          ·rw [List.getElem?_set_ne, hxs i h (by omega) h1]
           intro e'
           exact rank_ne h hq' (by omega) h1 (by rw [← HX.out]; omega) (by rw [← HX.out]; omega)
         ·exact ((ht.setNew (by simp) _).setNew (by simp) _).drew
        case measure => simp [intOf]; omega
      ·obtain rfl : q = k := by omega
       go_wp2_with (first | (refine wpList_load_row rfl 191 (.tmp 3) rfl (w.heap.size + 1) rfl 191 _ (0, 0) _ r1 Tryz.underlying191 rfl (by kernel_rfl) ?_) | (refine wpList_store_row rfl 191 (.tmp 2) (.tmp 74) rfl w.heap.size _ rfl rfl 191 _ r0 (by kernel_rfl) rfl (cArr_one _ _ _ _) ?_))
       have hlt3 := hown.lt (w.heap.size + 3) rfl
       have hcl : ∀ j, (wr.setRow w.heap.size (cArr (cnt L) (.slice (some ⟨w.heap.size + 3, 0, none⟩) (placeOf L 16) (placeOf L 16)))).cell? ⟨w.heap.size + 3, j, none⟩ = wr.cell? ⟨w.heap.size + 3, j, none⟩ := fun j => World.cell?_of_block (setRow_other _ _ _ _ (by simp))
       refine bodyPost_ret (v := .agg (codeCells L (.slice (some ⟨w.heap.size + 3, 0, none⟩) (placeOf L 16) (placeOf L 16)))) (results_cell_row Tryz.results117 _ _ w.heap.size 191 _ (0, 0) _ rfl (setRow_heap _ _ _ _ _ _ r0) Tryz.underlying191 rfl (by kernel_rfl)) rfl ⟨w.heap.size + 3, placeOf L 16, rfl, by omega, ?_, ?_, ?_, ?_⟩
       ·simp; exact hlt3.2
       ·intro n r h1 h16 hr
        have hr' : r < L.count n := by unfold cnt at hr; rwa [if_neg (by omega)] at hr
        obtain ⟨i, hi, e1, e2⟩ := nth_ex L n r hr'
        have hx := hxs i hi (by omega) (by omega)
        rw [e1, e2] at hx
        rw [hcl, hown.cellAt _ (by have := placeOf_end L h16 hr; omega), hx, ← e2, nth_at L n i hi e1]
       ·obtain ⟨cs, fr, hh⟩ := Typed.owned hown (k := w.heap.size + 3) rfl
        exact ⟨cs, fr, (setRow_other _ _ _ _ (by omega)).trans hh⟩
       ·exact ht.setRow (by omega) _
end Go.Proofs.YtnmkmmgaoplfiaaGreatDoor
namespace Go.Proofs.YtnmkmmgaoplfiaaGreatDoor
open Go.RowKit
def ints (l : List Nat) : List Value := l.map fun (x : Nat) => Value.int .i64 (x : Int)
theorem ints_app (a b : List Nat) : ints (a ++ b) = ints a ++ ints b := List.map_append ..
theorem rep_snoc (l : List Nat) (x k : Nat) : (l ++ List.replicate k x) ++ [x] = l ++ List.replicate (k + 1) x := by
 rw [List.append_assoc, List.replicate_succ']
theorem appendTimes_c (w : World) (base : Nat) (v : Value) (l : List Nat) (x t : Nat) (hown : w.ownsRow base 3 1 v l.length (ints l)) (hl : l.length + t ≤ 1000) (hb : base ≤ w.heap.size) :
  Calls Tryz.prog 116 #[v, .int .i64 (x : Int), .int .i64 (t : Int)] w fun e w' => ∃ v', e = .returned v' ∧ w'.ownsRow base 3 1 v' (l ++ List.replicate t x).length (ints (l ++ List.replicate t x)) ∧ Touch (fun k => base ≤ k) w w' := by
 obtain ⟨i0, hi, hz0, hz1, hz2⟩ := info_parts Tryz.infoInt
 go_enter Tryz.func116, Tryz.ntmps116
 go_wp2
 go_loopw [0, 8] (fun v i wr => ∃ k : Nat, k ≤ t ∧ i = .int .i64 (k : Int) ∧ wr.ownsRow base 3 1 v (l ++ List.replicate k x).length (ints (l ++ List.replicate k x)) ∧ Touch (fun k => base ≤ k) w wr) (fun _ i _ => t - (intOf i).toNat)
 case atStart => exact ⟨0, by omega, rfl, by simpa using hown, Touch.refl _ _⟩
 case round =>
  obtain ⟨k, hk, rfl, ho, ht⟩ := hrel
  have hlen : (l ++ List.replicate k x).length = l.length + k := by simp
  have hsz := ht.size
  by_cases hlt : k < t
  ·have c3 : (l ++ List.replicate k x).length + 1 ≤ maxLen := by unfold maxLen; omega
   have c4 : ((l ++ List.replicate k x).length + 1) * 8 ≤ 140737488355328 := by omega
   go_wp2_with (at_builtin; refine wpList_append_own _ rfl _ _ 187 rfl base 3 i0 (.int .i64 0) 1 8 Tryz.underlying187 hi hz0 hz1 hz2 rfl (by decide) _ _ _ rfl (ho.alloc _) ⟨_, 0, none⟩ 1 1 [.int .i64 (x : Int)] rfl rfl (cell_one_new _ _ _) (by simp [Value.oneCell']) c3 c4 (by simp; omega) ?_; intro v' w1 hown' hgrow _)
   go_roundw
   case rel =>
    refine ⟨k + 1, by omega, by go_num, ?_, ?_⟩
    ·rw [← rep_snoc, ints_app, List.length_append]; exact hown'
    ·refine (ht.alloc _).grown hgrow ?_
     intro j hj
     exact (ho.lt j hj).1
   case measure => simp [intOf]; omega
  ·obtain rfl : k = t := by omega
   go_wp2
   go_ret
   exact ⟨_, rfl, ho, ht⟩
theorem owned_some {w : World} {base : Nat} {e : TypeId} {size n : Nat} {v : Value} {xs : List Value} (h : w.ownsRow base e size v n xs) (hn : 0 < n) : ∃ g cap, v = .slice (some ⟨g, 0, none⟩) n cap ∧ base ≤ g := by
 rcases h.2 with ⟨_, h0⟩ | ⟨g, cap, cur, rfl, hb, _⟩
 ·omega
 ·exact ⟨g, cap, rfl, hb⟩
theorem appendTimes_s (w : World) (base : Nat) (v : Value) (l : List Nat) (x t : Nat) (X T : Int) (hX : X = (x : Int)) (hT : T = (t : Int)) (hown : w.ownsRow base 3 1 v l.length (ints l)) (hl : l.length + t ≤ 1000) (ht : 0 < t) (hb : base ≤ w.heap.size) :
  Calls Tryz.prog 116 #[v, .int .i64 X, .int .i64 T] w fun e w' => ∃ (l' : List Nat) (g cap : Nat), e = .returned (.slice (some ⟨g, 0, none⟩) l'.length cap) ∧ Hid (l' = l ++ List.replicate t x) ∧ base ≤ g ∧ w'.ownsRow base 3 1 (.slice (some ⟨g, 0, none⟩) l'.length cap) l'.length (ints l') ∧ Touch (fun k => base ≤ k) w w' := by
 subst hX hT
 refine (appendTimes_c w base v l x t hown hl hb).mono ?_
 rintro e w' ⟨v', rfl, ho, ht'⟩
 obtain ⟨g, cap, rfl, hg⟩ := owned_some ho (by simp; omega)
 exact ⟨_, g, cap, rfl, rfl, hg, ho, ht'⟩
def fixLetters : List Nat := ((([] ++ List.replicate 144 8) ++ List.replicate 112 9) ++ List.replicate 24 7) ++ List.replicate 8 8
def fixDist : List Nat := [] ++ List.replicate 32 5
theorem fix_le : ∀ x ∈ fixLetters, x ≤ 15 := by
 intro x hx
 simp only [fixLetters, List.mem_append, List.mem_replicate, List.not_mem_nil, false_or] at hx
 omega
theorem dist_le : ∀ x ∈ fixDist, x ≤ 15 := by
 intro x hx
 simp only [fixDist, List.mem_append, List.mem_replicate, List.not_mem_nil, false_or] at hx
 omega
structure Codes (w : World) (fb n1 c1 n2 c2 : Nat) (L D : List Nat) : Prop where
 lt : IsCode w fb 0 n1 c1 L
 ds : IsCode w fb 17 n2 c2 D
 tb : Typed w fb 194
 t1 : Typed w n1 3
 t2 : Typed w n2 3
def two (L D : List Nat) (v u : Value) : Array Value := codeCells L v ++ codeCells D u
theorem cArr_16 (f : Nat → Nat) (v : Value) : (cArr f v)[16]? = some v := rfl
theorem codes_new {w : World} {n1 c1 n2 c2 : Nat} {L D : List Nat} (hL : L.length ≤ 400) (hD : D.length ≤ 400)
  (h1 : ∀ n r, 1 ≤ n → n < 16 → r < cnt L n → w.cell? ⟨n1, placeOf L n + r, none⟩ = some (.int .i64 (nth L n r : Nat))) (t1 : Typed w n1 3)
  (h2 : ∀ n r, 1 ≤ n → n < 16 → r < cnt D n → w.cell? ⟨n2, placeOf D n + r, none⟩ = some (.int .i64 (nth D n r : Nat))) (t2 : Typed w n2 3) :
  Codes (w.alloc (.cells (two L D (.slice (some ⟨n1, 0, none⟩) (placeOf L 16) c1) (.slice (some ⟨n2, 0, none⟩) (placeOf D 16) c2)) 194)) w.heap.size n1 c1 n2 c2 L D := by
 have hc : ∀ j, (w.alloc (.cells (two L D (.slice (some ⟨n1, 0, none⟩) (placeOf L 16) c1) (.slice (some ⟨n2, 0, none⟩) (placeOf D 16) c2)) 194)).cell? ⟨w.heap.size, j, none⟩ = (two L D (.slice (some ⟨n1, 0, none⟩) (placeOf L 16) c1) (.slice (some ⟨n2, 0, none⟩) (placeOf D 16) c2))[j]? := fun j => row_cell (heap_alloc_new w _) j
 have s1 : ∀ v, (codeCells L v).size = 17 := fun _ => rfl
 refine ⟨⟨?_, ?_, ?_, hL⟩, ⟨?_, ?_, ?_, hD⟩, ⟨_, _, heap_alloc_new w _⟩, t1.alloc _, t2.alloc _⟩
 ·intro i hi
  rw [hc, Nat.zero_add, two, Array.getElem?_append_left (by rw [s1]; omega)]
  exact cArr_at _ _ _ hi
 ·rw [hc, two, Array.getElem?_append_left (by rw [s1]; omega)]
  exact cArr_16 _ _
 ·intro n r a b c
  rw [World.cell?_alloc_past _ _ _ t1.lt]; exact h1 n r a b c
 ·intro i hi
  rw [hc, two, Array.getElem?_append_right (by rw [s1]; omega), s1, show 17 + i - 17 = i by omega]
  exact cArr_at _ _ _ hi
 ·rw [hc, two, Array.getElem?_append_right (by rw [s1]; omega), s1]
  exact cArr_16 _ _
 ·intro n r a b c
  rw [World.cell?_alloc_past _ _ _ t2.lt]; exact h2 n r a b c
theorem owned_ints {w : World} {base g cap : Nat} {l : List Nat} (h : w.ownsRow base 3 1 (.slice (some ⟨g, 0, none⟩) l.length cap) l.length (ints l)) : ∀ j (hj : j < l.length), w.cell? ⟨g, 0 + j, none⟩ = some (.int .i64 (l[j] : Nat)) := by
 intro j hj
 rw [Nat.zero_add, h.cellAt j (by omega)]
 simp [ints, hj]
theorem wpList_build_run {P : Program} {ops : Array Oper} {rest : List Oper} {o : Oper} {a : Act} {w : World} {Q : Exit → Act → World → Prop} (hg : o.guard = none) (t : TypeId) (parts : Array (Nat × Operand)) (ho : o.op = .build t parts) {vals : Array (Nat × Value)} {cells : Array Value}
  (hrun : (Instr.build t vals).run P w = .ok (.agg cells) w) (hv : (parts.map fun (i, x) => (i, a.eval x)) = vals) (h : wpList P ops Q rest (a.put o.dst (.agg cells)) w) : wpList P ops Q (o :: rest) a w :=
 wpList_plain hg fun _ hK => by
  subst hv
  unfold Oper.wp execOp
  simp only [ho, Sem.run_bind, hrun, Result.andThen_ok]
  exact hK _ _ h
theorem wpList_box_run {P : Program} {ops : Array Oper} {rest : List Oper} {o : Oper} {a : Act} {w w' : World} {Q : Exit → Act → World → Prop} (hg : o.guard = none) (t : TypeId) (x : Operand) (ho : o.op = .box t x) (v : Value) (hv : a.eval x = v) (p : Value)
  (hrun : (Instr.box t v).run P w = .ok p w') (h : wpList P ops Q rest (a.put o.dst p) w') : wpList P ops Q (o :: rest) a w :=
 wpList_plain hg fun _ hK => by
  subst hv
  unfold Oper.wp execOp
  simp only [ho, Sem.run_bind, hrun, Result.andThen_ok]
  exact hK _ _ h
theorem at_build {P : Program} {ops : Array Oper} {rest : List Oper} {d : Option Tmp} {t ty : TypeId} {parts : Array (Nat × Operand)} {ps : String} {af : Array Edge} {g : Option (Nat × Bool)} {a : Act} {w : World} {Q : Exit → Act → World → Prop} (h : wpList P ops Q (⟨d, .build t parts, ty, ps, af, g⟩ :: rest) a w) : wpList P ops Q (⟨d, .build t parts, ty, ps, af, g⟩ :: rest) a w := h
theorem at_box {P : Program} {ops : Array Oper} {rest : List Oper} {d : Option Tmp} {t ty : TypeId} {x : Operand} {ps : String} {af : Array Edge} {g : Option (Nat × Bool)} {a : Act} {w : World} {Q : Exit → Act → World → Prop} (h : wpList P ops Q (⟨d, .box t x, ty, ps, af, g⟩ :: rest) a w) : wpList P ops Q (⟨d, .box t x, ty, ps, af, g⟩ :: rest) a w := h
theorem build_two (L D : List Nat) (v u : Value) (w : World) : (Instr.build 194 #[(0, .agg (codeCells L v)), (1, .agg (codeCells D u))]).run Tryz.prog w = .ok (.agg (two L D v u)) w := by kernel_rfl
theorem box_two (L D : List Nat) (a b : Option Addr) (m n c d : Nat) (w : World) : (Instr.box 194 (.agg (two L D (.slice a m c) (.slice b n d)))).run Tryz.prog w = .ok (.pointer (some ⟨w.heap.size, 0, none⟩)) (w.alloc (.cells (two L D (.slice a m c) (.slice b n d)) 194)) := by kernel_rfl
theorem fixedCodes_c (w : World) :
  Calls Tryz.prog 84 #[] w fun e w' => ∃ fb n1 c1 n2 c2, e = .returned (.pointer (some ⟨fb, 0, none⟩)) ∧ Codes w' fb n1 c1 n2 c2 fixLetters fixDist ∧ w.heap.size ≤ fb ∧ w.heap.size ≤ n1 ∧ w.heap.size ≤ n2 ∧ Touch (fun _ => False) w w' := by
 go_enter Tryz.func84, Tryz.ntmps84
 go_wp2_with fail
 go_at_call 116
 refine (appendTimes_s w w.heap.size _ [] 8 144 _ _ rfl rfl (World.ownsRow_nil _ _ _ _) (by decide) (by decide) (Nat.le_refl _)).mono ?_
 rintro e w1 ⟨l1, g1, k1, rfl, e1, hg1, ho1, ht1⟩
 have n1 : l1.length ≤ 144 := by rw [e1.out, List.length_append, List.length_replicate]; simp
 go_wp2_with fail
 refine (appendTimes_s w1 w.heap.size _ l1 9 112 _ _ rfl rfl ho1 (by omega) (by decide) ht1.size).mono ?_
 rintro e w2 ⟨l2, g2, k2, rfl, e2, hg2, ho2, ht2⟩
 have n2 : l2.length ≤ 256 := by rw [e2.out, List.length_append, List.length_replicate]; omega
 go_wp2_with fail
 refine (appendTimes_s w2 w.heap.size _ l2 7 24 _ _ rfl rfl ho2 (by omega) (by decide) (Nat.le_trans ht1.size ht2.size)).mono ?_
 rintro e w3 ⟨l3, g3, k3, rfl, e3, hg3, ho3, ht3⟩
 have n3 : l3.length ≤ 280 := by rw [e3.out, List.length_append, List.length_replicate]; omega
 go_wp2_with fail
 refine (appendTimes_s w3 w.heap.size _ l3 8 8 _ _ rfl rfl ho3 (by omega) (by decide) (Nat.le_trans (Nat.le_trans ht1.size ht2.size) ht3.size)).mono ?_
 rintro e w4 ⟨l4, g4, k4, rfl, e4, hg4, ho4, ht4⟩
 have n4 : l4.length ≤ 288 := by rw [e4.out, List.length_append, List.length_replicate]; omega
 have sz4 : w.heap.size ≤ w4.heap.size := Nat.le_trans (Nat.le_trans (Nat.le_trans ht1.size ht2.size) ht3.size) ht4.size
 have T4 : Touch (fun _ => False) w w4 := (((ht1.trans ht2).trans ht3).trans ht4).fresh
 have E4 : Hid (l4 = fixLetters) := by unfold Hid; rw [e4.out, e3.out, e2.out, e1.out]; rfl
 go_wp2_with fail
 refine (appendTimes_s w4 w4.heap.size _ [] 5 32 _ _ rfl rfl (World.ownsRow_nil _ _ _ _) (by decide) (by decide) (Nat.le_refl _)).mono ?_
 rintro e w5 ⟨l5, g5, k5, rfl, e5, hg5, ho5, ht5⟩
 have n5 : l5.length ≤ 32 := by rw [e5.out, List.length_append, List.length_replicate]; simp
 have E5 : Hid (l5 = fixDist) := by unfold Hid; rw [e5.out]; rfl
 have lt4 := (ho4.lt g4 rfl).2
 have ho4' := ht5.owns ho4 (by intro k hk; cases hk; show ¬ w4.heap.size ≤ g4; omega)
 have T5 : Touch (fun _ => False) w w5 := T4.trans ht5.fresh
 have m4 : ∀ x ∈ l4, x ≤ 15 := by rw [E4.out]; exact fix_le
 have m5 : ∀ x ∈ l5, x ≤ 15 := by rw [E5.out]; exact dist_le
 clear e1 e2 e3 e4 e5 ho1 ho2 ho3 ht1 ht2 ht3 ht4
 go_wp2_with fail
 refine (newCode_c w5 g4 0 _ k4 l4 rfl (by omega) m4 (owned_ints ho4')).mono ?_
 rintro e w6 ⟨b1, c1, rfl, hb1, hs1, hn1, t1, ht6⟩
 have ho5' := ht6.owns ho5 (by intro k _; exact fun h => h)
 go_wp2_with fail
 refine (newCode_c w6 g5 0 _ k5 l5 rfl (by omega) m5 (owned_ints ho5')).mono ?_
 rintro e w7 ⟨b2, c2, rfl, hb2, hs2, hn2, t2, ht7⟩
 go_wp2_with (first | ((with_reducible refine at_build ?_); refine wpList_build_run rfl 194 _ rfl (build_two l4 l5 (.slice (some ⟨b1, 0, none⟩) (placeOf l4 16) c1) (.slice (some ⟨b2, 0, none⟩) (placeOf l5 16) c2) _) (by simp [Act.eval]) ?_) | ((with_reducible refine at_box ?_); refine wpList_box_run rfl 194 _ rfl _ rfl _ (box_two l4 l5 (some ⟨b1, 0, none⟩) (some ⟨b2, 0, none⟩) (placeOf l4 16) (placeOf l5 16) c1 c2 _) ?_))
 go_ret
 have lt7 := ht7.size
 have lt6 := ht6.size
 have lt5 := ht5.size
 have hc := codes_new (c1 := c1) (c2 := c2) (by omega) (by omega) (fun n r a b c => ht7.at (hn1 n r a b c) (fun h => h)) (t1.keep ht7 (fun h => h)) hn2 t2
 rw [E4.out, E5.out] at hc ⊢
 exact ⟨_, _, _, _, _, rfl, hc, by omega, by omega, by omega, ((T5.trans ht6).trans ht7).alloc _⟩
end Go.Proofs.YtnmkmmgaoplfiaaGreatDoor
