/- The reader of bits: what 'bit', 'number' and their kin do to its cells. -/
import Derived.Test.YtobfkhapeejkfaaGreatDoorRows
import Derived.Test.YtobfkhapeejkfaaGreatDoorBase
import Derived.Test.YtobfkhapeejkfaaGreatDoorPure
import Derived.BigRegion
import Derived.Deep.QuietTactic
import Derived.BigQuiet
import Derived.Deep.Light
namespace Go.Proofs.YtobfkhapeejkfaaGreatDoor
open Go.RowKit
set_option linter.unusedSimpArgs false
set_option linter.unusedVariables false

theorem u8_bit (r : Int) (h0 : 0 ≤ r) (h1 : r ≤ 255) : wrap64 (bits BinOp.and IntKind.u8 r 1) = r % 2 := by
  have h := bits_mask .u8 8 (by decide) wraps_u8 1 (by decide) r h0 (by simp; omega)
  simp at h
  rw [h]; unfold wrap64; omega

set_option maxHeartbeats 400000 in
theorem bit_more (b : Nat) (w : World) (rest left : Int) (hl : 1 ≤ left) (hl8 : left ≤ 8) (hr0 : 0 ≤ rest) (hr1 : rest ≤ 255)
    (h2 : w.cell? ⟨b, 2, none⟩ = some (.int .u8 rest)) (h3 : w.cell? ⟨b, 3, none⟩ = some (.int .i64 left))
    (f2 : w.frozen? ⟨b, 2, none⟩ = false) (f3 : w.frozen? ⟨b, 3, none⟩ = false) :
    Calls Tryz.prog 76 #[.pointer (some ⟨b, 0, none⟩)] w fun e w' => e = .returned (.int .i64 (rest % 2)) ∧ w' = (w.setCell ⟨b, 2, none⟩ (.int .u8 (rest / 2))).setCell ⟨b, 3, none⟩ (.int .i64 (left - 1)) := by
  have hb := u8_bit rest hr0 hr1
  go_enter Tryz.func76, Tryz.ntmps76
  go_wp2
  go_ret
  exact ⟨by simp [hb], rfl⟩

set_option maxHeartbeats 400000 in
theorem bit_end (b : Nat) (w : World) (s : ByteArray)
    (h0 : w.cell? ⟨b, 0, none⟩ = some (.string s)) (h1 : w.cell? ⟨b, 1, none⟩ = some (.int .i64 s.size)) (h3 : w.cell? ⟨b, 3, none⟩ = some (.int .i64 0))
    (f4 : w.frozen? ⟨b, 4, none⟩ = false) (old : Value) (h4 : w.cell? ⟨b, 4, none⟩ = some old) :
    Calls Tryz.prog 76 #[.pointer (some ⟨b, 0, none⟩)] w fun e w' => e = .returned (.int .i64 0) ∧ ∃ n, w' = (w.drewN n).setCell ⟨b, 4, none⟩ (.bool true) := by
  go_enter Tryz.func76, Tryz.ntmps76
  go_wp2
  go_quiet (fail)
  go_wp2
  go_ret
  exact ⟨rfl, _, rfl⟩

set_option maxHeartbeats 400000 in
theorem bit_load (b : Nat) (w : World) (s : ByteArray) (k : Nat) (hk : k < s.size) (hs : s.size ≤ maxLen)
    (h0 : w.cell? ⟨b, 0, none⟩ = some (.string s)) (h1 : w.cell? ⟨b, 1, none⟩ = some (.int .i64 k)) (h3 : w.cell? ⟨b, 3, none⟩ = some (.int .i64 0))
    (f1 : w.frozen? ⟨b, 1, none⟩ = false) (f2 : w.frozen? ⟨b, 2, none⟩ = false) (f3 : w.frozen? ⟨b, 3, none⟩ = false) (old : Int) (h2 : w.cell? ⟨b, 2, none⟩ = some (.int .u8 old)) :
    Calls Tryz.prog 76 #[.pointer (some ⟨b, 0, none⟩)] w fun e w' => e = .returned (.int .i64 (s[k].toNat % 2)) ∧
      ∃ n, w' = (((((w.drewN n).setCell ⟨b, 2, none⟩ (.int .u8 s[k].toNat)).setCell ⟨b, 3, none⟩ (.int .i64 8)).setCell ⟨b, 1, none⟩ (.int .i64 (k + 1))).setCell ⟨b, 2, none⟩ (.int .u8 (s[k].toNat / 2))).setCell ⟨b, 3, none⟩ (.int .i64 7) := by
  unfold maxLen at hs
  have hbit := u8_bit s[k].toNat (by omega) (by have := s[k].toNat_lt; omega)
  go_enter Tryz.func76, Tryz.ntmps76
  go_wp2
  go_quiet (fail)
  go_wp2
  go_region
  go_wp2
  go_ret
  exact ⟨by simp [hbit], _, rfl⟩

/-- The reader's five cells in the block b: p bits were taken (beyond the end each one more still counts; then it has ended). -/
structure Rd (w : World) (b : Nat) (s : ByteArray) (p : Nat) : Prop where
  c0 : w.cell? ⟨b, 0, none⟩ = some (.string s)
  c1 : w.cell? ⟨b, 1, none⟩ = some (.int .i64 (min s.size ((p + 7) / 8) : Nat))
  c2 : ∃ r : Nat, r < 256 ∧ w.cell? ⟨b, 2, none⟩ = some (.int .u8 r) ∧ (∀ h : p / 8 < s.size, p % 8 ≠ 0 → r = s[p / 8].toNat / 2 ^ (p % 8))
  c3 : w.cell? ⟨b, 3, none⟩ = some (.int .i64 (if p ≤ 8 * s.size then (8 - p % 8) % 8 else 0 : Nat))
  c4 : w.cell? ⟨b, 4, none⟩ = some (.bool (decide (8 * s.size < p)))
  fr : ∀ o, w.frozen? ⟨b, o, none⟩ = false

/-- The cells 1 to 4 of the block b alone may have turned. -/
structure RT (b : Nat) (w w' : World) : Prop where
  t : Touch (· = b) w w'
  size : w'.heap.size = w.heap.size
  keep : ∀ o, 5 ≤ o → w'.cell? ⟨b, o, none⟩ = w.cell? ⟨b, o, none⟩
  fr : ∀ o, w'.frozen? ⟨b, o, none⟩ = w.frozen? ⟨b, o, none⟩
theorem RT.refl (b : Nat) (w : World) : RT b w w := ⟨Touch.refl _ _, rfl, fun _ _ => rfl, fun _ => rfl⟩
theorem RT.trans {b : Nat} {x y z : World} (h : RT b x y) (k : RT b y z) : RT b x z :=
  ⟨h.t.trans k.t, k.size.trans h.size, fun o ho => (k.keep o ho).trans (h.keep o ho), fun o => (k.fr o).trans (h.fr o)⟩
theorem RT.drewN {b : Nat} {x y : World} (h : RT b x y) (n : Nat) : RT b x (y.drewN n) := ⟨h.t.drewN n, h.size, h.keep, h.fr⟩
theorem RT.set {b : Nat} {x y : World} (h : RT b x y) (i : Nat) (hi : i < 5) (v : Value) : RT b x (y.setCell ⟨b, i, none⟩ v) :=
  ⟨h.t.setCell rfl v, (size_setCell _ _ _).trans h.size, fun o ho => (cell_set_ne (by omega)).trans (h.keep o ho), fun o => by rw [World.frozen?_setCell]; exact h.fr o⟩

theorem ret_nat {k : IntKind} {a b : Nat} (h : a = b) : Ending.returned (.int k a) = .returned (.int k b) := by rw [h]

theorem bit_c (b : Nat) (w : World) (s : ByteArray) (p : Nat) (hs : s.size ≤ maxLen) (h : Rd w b s p) :
    Calls Tryz.prog 76 #[.pointer (some ⟨b, 0, none⟩)] w fun e w' => e = .returned (.int .i64 (bitOf s p)) ∧ Rd w' b s (p + 1) ∧ RT b w w' := by
  obtain ⟨c0, c1, ⟨r, hr, c2, c2'⟩, c3, c4, fr⟩ := h
  by_cases hp : 8 * s.size ≤ p
  · have e1 : min s.size ((p + 7) / 8) = s.size := by omega
    have e3 : (if p ≤ 8 * s.size then (8 - p % 8) % 8 else 0) = 0 := by split <;> omega
    rw [e1] at c1; rw [e3] at c3
    refine (bit_end b w s c0 c1 c3 (fr 4) _ c4).mono ?_
    rintro e w' ⟨rfl, n, rfl⟩
    refine ⟨?_, ⟨?_, ?_, ⟨r, hr, ?_, ?_⟩, ?_, ?_, ?_⟩, ?_⟩
    · rw [bitOf_end s p hp]; rfl
    · simp [cell_set_if, cell_drewN, c0]
    · rw [show min s.size ((p + 1 + 7) / 8) = s.size by omega]; simp [cell_set_if, cell_drewN, c1]
    · simp [cell_set_if, cell_drewN, c2]
    · intro h; omega
    · rw [if_neg (by omega)]; simp [cell_set_if, cell_drewN, c3]
    · rw [decide_eq_true (by omega)]; simp [cell_set_if, cell_drewN, c4]
    · intro o; rw [World.frozen?_setCell]; exact fr o
    · exact ((RT.refl b w).drewN n).set 4 (by omega) _
  · by_cases hm : p % 8 = 0
    · obtain ⟨k, rfl⟩ : ∃ k, p = 8 * k := ⟨p / 8, by omega⟩
      have hk : k < s.size := by omega
      have e1 : min s.size ((8 * k + 7) / 8) = k := by omega
      have e3 : (if 8 * k ≤ 8 * s.size then (8 - 8 * k % 8) % 8 else 0) = 0 := by split <;> omega
      rw [e1] at c1; rw [e3] at c3
      refine (bit_load b w s k hk hs c0 c1 c3 (fr 1) (fr 2) (fr 3) _ c2).mono ?_
      rintro e w' ⟨rfl, n, rfl⟩
      have hlt := s[k].toNat_lt
      refine ⟨?_, ⟨?_, ?_, ⟨s[k].toNat / 2, by omega, ?_, ?_⟩, ?_, ?_, ?_⟩, ?_⟩
      · refine ret_int ?_
        have := bitOf_in s k 0 hk (by omega)
        simp at this; rw [this]; rfl
      · simp [cell_set_if, cell_drewN, c0]
      · rw [show min s.size ((8 * k + 1 + 7) / 8) = k + 1 by omega]; simp [cell_set_if, cell_drewN, c1]
      · simp [cell_set_if, cell_drewN, c2]
      · intro h _
        have h8 : (8 * k + 1) / 8 = k := by omega
        have h9 : (8 * k + 1) % 8 = 1 := by omega
        simp only [h8, h9]
      · rw [if_pos (by omega), show (8 - (8 * k + 1) % 8) % 8 = 7 by omega]; simp [cell_set_if, cell_drewN, c3]
      · rw [show decide (8 * s.size < 8 * k + 1) = decide (8 * s.size < 8 * k) by rw [decide_eq_false (by omega), decide_eq_false (by omega)]]; simp [cell_set_if, cell_drewN, c4]
      · intro o; simp only [World.frozen?_setCell, frozen_drewN]; exact fr o
      · exact ((((((RT.refl b w).drewN n).set 2 (by omega) _).set 3 (by omega) _).set 1 (by omega) _).set 2 (by omega) _).set 3 (by omega) _
    · obtain ⟨k, j, hj, hj0, rfl⟩ : ∃ k j, j < 8 ∧ 0 < j ∧ p = 8 * k + j := ⟨p / 8, p % 8, by omega, by omega, by omega⟩
      have hk : k < s.size := by omega
      have e1 : min s.size ((8 * k + j + 7) / 8) = k + 1 := by omega
      have e3 : (if 8 * k + j ≤ 8 * s.size then (8 - (8 * k + j) % 8) % 8 else 0) = 8 - j := by rw [if_pos (by omega)]; omega
      have h8 : (8 * k + j) / 8 = k := by omega
      have h9 : (8 * k + j) % 8 = j := by omega
      have hr' : r = s[k].toNat / 2 ^ j := by
        have := c2' (by omega) (by omega)
        simpa only [h8, h9] using this
      rw [e1] at c1; rw [e3] at c3
      refine (bit_more b w r (8 - j : Nat) (by omega) (by omega) (by omega) (by omega) c2 c3 (fr 2) (fr 3)).mono ?_
      rintro e w' ⟨rfl, rfl⟩
      refine ⟨?_, ⟨?_, ?_, ⟨r / 2, by omega, ?_, ?_⟩, ?_, ?_, ?_⟩, ?_⟩
      · refine ret_int ?_
        rw [bitOf_in s k j hk hj, ← hr']; omega
      · simp [cell_set_if, c0]
      · rw [show min s.size ((8 * k + j + 1 + 7) / 8) = k + 1 by omega]; simp [cell_set_if, c1]
      · simp [cell_set_if, c2]
      · intro h hn
        have h8' : (8 * k + j + 1) / 8 = k := by omega
        have h9' : (8 * k + j + 1) % 8 = j + 1 := by omega
        simp only [h8', h9']
        rw [hr', Nat.pow_succ, Nat.div_div_eq_div_mul]
      · rw [if_pos (by omega), show (8 - (8 * k + j + 1) % 8) % 8 = 8 - j - 1 by omega]; simp [cell_set_if, c3]; omega
      · rw [show decide (8 * s.size < 8 * k + j + 1) = decide (8 * s.size < 8 * k + j) by rw [decide_eq_false (by omega), decide_eq_false (by omega)]]; simp [cell_set_if, c4]
      · intro o; simp only [World.frozen?_setCell]; exact fr o
      · exact ((RT.refl b w).set 2 (by omega) _).set 3 (by omega) _

theorem or_add (a b n : Nat) (h : a < 2 ^ n) : a ||| (b * 2 ^ n) = a + b * 2 ^ n := by
  rw [Nat.add_comm, Nat.or_comm, Nat.mul_comm]
  exact (Nat.two_pow_add_eq_or_of_lt h b).symm

/-- One bit more of a number, as the program puts it there. -/
theorem num_step (s : ByteArray) (p k : Nat) (hk : k < 16) : bits BinOp.or IntKind.i64 (numAt s p k : Int) (wrap64 ((bitOf s (p + k) : Int) * 2 ^ k)) = (numAt s p (k + 1) : Nat) := by
  have h1 := numAt_lt s p k
  have h2 := bitOf_lt s (p + k)
  have h3 : 2 ^ k ≤ 2 ^ 15 := Nat.pow_le_pow_right (by omega) (by omega)
  have h4 : bitOf s (p + k) * 2 ^ k ≤ 1 * 2 ^ k := Nat.mul_le_mul_right _ (by omega)
  have e : ((bitOf s (p + k) : Int) * 2 ^ k) = ((bitOf s (p + k) * 2 ^ k : Nat) : Int) := by push_cast; rfl
  rw [e, IntWalk.wrap64_in _ (by constructor <;> omega)]
  have hw : ∀ n : Int, 0 ≤ n → n < 2 ^ 62 → IntKind.i64.wrap n = n := by intro n h0 h1; simp [IntKind.wrap, IntKind.bits, IntKind.signed]; omega
  have hh := bits_nat .i64 62 (by decide) hw (numAt s p k) (bitOf s (p + k) * 2 ^ k) (by omega) (by omega)
  rw [hh.2, or_add _ _ _ h1]
  rfl

set_option maxHeartbeats 400000 in
theorem number_c (b : Nat) (w : World) (s : ByteArray) (p : Nat) (n : Nat) (hn : n ≤ 16) (hs : s.size ≤ maxLen) (h : Rd w b s p) :
    Calls Tryz.prog 77 #[.pointer (some ⟨b, 0, none⟩), .int .i64 n] w fun e w' => e = .returned (.int .i64 (numAt s p n)) ∧ Rd w' b s (p + n) ∧ RT b w w' := by
  go_enter Tryz.func77, Tryz.ntmps77
  go_wp2
  go_loopw [5, 8] (fun t i wr => ∃ k : Nat, k ≤ n ∧ i = .int .i64 k ∧ t = .int .i64 (numAt s p k) ∧ Rd wr b s (p + k) ∧ RT b w wr) (fun _ i _ => n - (intOf i).toNat)
  case atStart => exact ⟨0, by omega, rfl, rfl, h, RT.refl _ _⟩
  case round =>
    obtain ⟨k, hk, rfl, rfl, hrd, hrt⟩ := hrel
    by_cases hlt : k < n
    · go_wp2_with (go_at_call 76; refine (bit_c _ _ _ _ hs hrd).mono ?_; rintro e w' ⟨rfl, hrd', hrt'⟩)
      go_roundw
      case rel => exact ⟨k + 1, by omega, by go_num, by rw [num_step s p k (by omega)], hrd', hrt.trans hrt'⟩
      case measure => simp [intOf]; omega
    · obtain rfl : k = n := by omega
      go_wp2
      go_ret
      exact ⟨by simp, hrd, hrt⟩

set_option maxHeartbeats 400000 in
theorem passOver_c (b : Nat) (w : World) (s : ByteArray) (p : Nat) (h : Rd w b s p) :
    Calls Tryz.prog 175 #[.pointer (some ⟨b, 0, none⟩)] w fun e w' => e = .returned (.tuple #[]) ∧ w' = w.setCell ⟨b, 3, none⟩ (.int .i64 0) := by
  have f3 := h.fr 3
  have c3 := h.c3
  go_enter Tryz.func175, Tryz.ntmps175
  go_wp2
  go_end0
  exact ⟨rfl, rfl⟩

set_option maxHeartbeats 400000 in
theorem bytesLeft_c (b : Nat) (w : World) (s : ByteArray) (k : Nat) (hs : s.size ≤ maxLen) (hk : k ≤ s.size) (h0 : w.cell? ⟨b, 0, none⟩ = some (.string s)) (h1 : w.cell? ⟨b, 1, none⟩ = some (.int .i64 k)) :
    Calls Tryz.prog 176 #[.pointer (some ⟨b, 0, none⟩)] w fun e w' => e = .returned (.int .i64 (s.size - k : Nat)) ∧ ∃ n, w' = w.drewN n := by
  unfold maxLen at hs
  go_enter Tryz.func176, Tryz.ntmps176
  go_wp2
  go_quiet (fail)
  go_wp2
  go_ret
  exact ⟨ret_int (by omega), _, rfl⟩

set_option maxHeartbeats 400000 in
theorem wholeBytes_c (b : Nat) (w : World) (s : ByteArray) (k n : Nat) (hs : s.size ≤ maxLen) (hk : k + n ≤ s.size) (h0 : w.cell? ⟨b, 0, none⟩ = some (.string s)) (h1 : w.cell? ⟨b, 1, none⟩ = some (.int .i64 k)) (f1 : w.frozen? ⟨b, 1, none⟩ = false) :
    Calls Tryz.prog 178 #[.pointer (some ⟨b, 0, none⟩), .int .i64 n] w fun e w' => e = .returned (.string (s.extract k (k + n))) ∧ ∃ m, w' = (w.setCell ⟨b, 1, none⟩ (.int .i64 (k + n : Nat))).drewN m := by
  unfold maxLen at hs
  go_enter Tryz.func178, Tryz.ntmps178
  go_wp2
  go_quiet (fail)
  go_wp2
  go_ret
  exact ⟨rfl, _, rfl⟩

end Go.Proofs.YtobfkhapeejkfaaGreatDoor
