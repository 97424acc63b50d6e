/- Codes by lengths: what 'next', 'isFull' and 'servesDistances' tell. -/
import Derived.Test.YtobfkhapeejkfaaGreatDoorWBit
namespace Go.Proofs.YtobfkhapeejkfaaGreatDoor
open Go.RowKit
set_option linter.unusedSimpArgs false
set_option linter.unusedVariables false

/-- A code by the lengths L, in the 17 cells from 'off' on of the block b; its numbers lie in the block nb. -/
structure IsCode (w : World) (b off nb cap : Nat) (L : List Nat) : Prop where
  cnts : ∀ i, i < 16 → w.cell? ⟨b, off + i, none⟩ = some (.int .i64 (cnt L i : Nat))
  nums : w.cell? ⟨b, off + 16, none⟩ = some (.slice (some ⟨nb, 0, none⟩) (placeOf L 16) cap)
  num : ∀ n r, 1 ≤ n → n < 16 → r < cnt L n → w.cell? ⟨nb, placeOf L n + r, none⟩ = some (.int .i64 (nth L n r : Nat))
  few : L.length ≤ 400

theorem IsCode.keep {w w' : World} {b off nb cap : Nat} {L : List Nat} (h : IsCode w b off nb cap L) {S : Nat → Prop} (ht : Touch S w w') (h1 : ¬ S b) (h2 : ¬ S nb) : IsCode w' b off nb cap L :=
  ⟨fun i hi => ht.at (h.cnts i hi) h1, ht.at h.nums h1, fun n r a b c => ht.at (h.num n r a b c) h2, h.few⟩

theorem IsCode.cnt1 {w : World} {b off nb cap : Nat} {L : List Nat} (h : IsCode w b off nb cap L) (k : Nat) (hk : k < 15) : w.cell? ⟨b, off + 1 + k, none⟩ = some (.int .i64 (cnt L (k + 1) : Nat)) := by
  have := h.cnts (k + 1) (by omega)
  rwa [show off + (k + 1) = off + 1 + k by omega] at this

set_option maxHeartbeats 400000 in
theorem isFull_c (w : World) (b off nb cap : Nat) (L : List Nat) (h : IsCode w b off nb cap L) :
    Calls Tryz.prog 185 #[.pointer (some ⟨b, off, none⟩)] w fun e w' => e = .returned (.bool (freeOf L 15 == 0)) ∧ w' = w := by
  go_enter Tryz.func185, Tryz.ntmps185
  go_wp2
  go_loop [3, 11] (fun t i => ∃ k : Nat, k ≤ 15 ∧ i = .int .i64 k ∧ t = .int .i64 (freeOf L k)) (fun _ i => 15 - (intOf i).toNat)
  case atStart => exact ⟨0, by omega, rfl, rfl⟩
  case round =>
    obtain ⟨k, hk, rfl, rfl⟩ := hrel
    have hb := free_bd15 L h.few k hk
    have hc := cnt_le L (k + 1)
    have hf := h.few
    by_cases hlt : k < 15
    · have hcell := h.cnt1 k hlt
      go_wp2
      go_round
      case rel => exact ⟨k + 1, by omega, by go_num, by simp only [freeOf]⟩
      case measure => simp [intOf]; omega
    · obtain rfl : k = 15 := by omega
      go_wp2
      go_ret
      exact ⟨rfl, rfl⟩

set_option maxHeartbeats 400000 in
theorem serves_c (w : World) (b off nb cap : Nat) (L : List Nat) (h : IsCode w b off nb cap L) :
    Calls Tryz.prog 187 #[.pointer (some ⟨b, off, none⟩)] w fun e w' => e = .returned (.bool (placeOf L 16 == 0 || (placeOf L 16 == 1 && cnt L 1 == 1) || freeOf L 15 == 0)) ∧ w' = w := by
  have hn := h.nums
  have h1 := h.cnts 1 (by omega)
  by_cases e0 : placeOf L 16 = 0
  · rw [e0] at hn ⊢
    go_enter Tryz.func187, Tryz.ntmps187
    go_wp2
    go_ret
    exact ⟨rfl, rfl⟩
  · by_cases e1 : placeOf L 16 = 1
    · rw [e1] at hn ⊢
      by_cases e2 : cnt L 1 = 1
      · rw [e2] at h1 ⊢
        go_enter Tryz.func187, Tryz.ntmps187
        go_wp2
        go_ret
        exact ⟨rfl, rfl⟩
      · have e2' : ((cnt L 1 : Int) == 1) = false := by simp; omega
        go_enter Tryz.func187, Tryz.ntmps187
        go_wp2_with (go_at_call 185; refine (isFull_c _ _ _ _ _ _ h).mono ?_; rintro e w' ⟨rfl, rfl⟩)
        go_ret
        exact ⟨by simp [e2], rfl⟩
    · have e0' : ((placeOf L 16 : Int) == 0) = false := by simp; omega
      have e1' : ((placeOf L 16 : Int) == 1) = false := by simp; omega
      go_enter Tryz.func187, Tryz.ntmps187
      go_wp2_with (go_at_call 185; refine (isFull_c _ _ _ _ _ _ h).mono ?_; rintro e w' ⟨rfl, rfl⟩)
      go_ret
      exact ⟨by simp [e0, e1], rfl⟩

/-- What 'next' answers. -/
def nextVal : Option (Nat × Nat) → Value
  | none => .tuple #[.int .i64 0, .bool false]
  | some (n, _) => .tuple #[.int .i64 n, .bool true]

theorem or_bit (x y : Nat) (hx : x < 2 ^ 40) (hy : y < 2) : bits BinOp.or IntKind.i64 ((x : Int) * 2) (y : Int) = ((2 * x + y : Nat) : Int) := by
  have hw : ∀ n : Int, 0 ≤ n → n < 2 ^ 62 → IntKind.i64.wrap n = n := by intro n h0 h1; simp [IntKind.wrap, IntKind.bits, IntKind.signed]; omega
  have hh := (bits_nat .i64 62 (by decide) hw (2 * x) y (by omega) (by omega)).2
  have e : ((x : Int) * 2) = ((2 * x : Nat) : Int) := by push_cast; omega
  rw [e, hh]
  have := Nat.two_pow_add_eq_or_of_lt (show y < 2 ^ 1 by omega) x
  simp only [Nat.pow_one] at this
  rw [this]

theorem placeOf_bd (L : List Nat) (hL : L.length ≤ 400) (n : Nat) (hn : n ≤ 16) : placeOf L n ≤ 6400 :=
  Nat.le_trans (placeOf_le L n) (Nat.mul_le_mul hn hL)

theorem pow_step {y b k : Nat} (hy : y < 2 ^ k) (hb : b < 2) : 2 * y + b < 2 ^ (k + 1) := by rw [Nat.pow_succ]; omega

set_option maxHeartbeats 400000 in
theorem next_c (w : World) (b off nb cap rb : Nat) (L : List Nat) (s : ByteArray) (p : Nat) (hs : s.size ≤ maxLen) (h : IsCode w b off nb cap L) (hr : Rd w rb s p) (hb : b ≠ rb) (hnb : nb ≠ rb) :
    Calls Tryz.prog 181 #[.pointer (some ⟨b, off, none⟩), .pointer (some ⟨rb, 0, none⟩)] w fun e w' =>
      e = .returned (nextVal (dec L s p)) ∧ (∀ n q, dec L s p = some (n, q) → Rd w' rb s q) ∧ RT rb w w' := by
  go_enter Tryz.func181, Tryz.ntmps181
  go_wp2
  go_loopw [6, 7, 8, 16] (fun x f pl i wr => ∃ k y : Nat, k ≤ 15 ∧ i = .int .i64 k ∧ x = .int .i64 y ∧ f = .int .i64 (firstOf L (k + 1) : Nat) ∧ pl = .int .i64 (placeOf L (k + 1) : Nat) ∧ y < 2 ^ k ∧ firstOf L (k + 1) ≤ 2 * y ∧ Rd wr rb s (p + k) ∧ RT rb w wr ∧ dec L s p = decGo L s p (15 - k) k y) (fun _ _ _ i _ => 15 - (intOf i).toNat)
  case atStart => exact ⟨0, 0, by omega, rfl, rfl, rfl, rfl, by omega, by simp [firstOf, cnt], hr, RT.refl _ _, rfl⟩
  case round =>
    obtain ⟨k, y, hk, rfl, rfl, rfl, rfl, hy, hfy, hrd, hrt, hdec⟩ := hrel
    by_cases hlt : k < 15
    · have hc := h.keep hrt.t hb hnb
      have hy40 : y < 2 ^ 40 := Nat.lt_of_lt_of_le hy (Nat.pow_le_pow_right (by omega) (by omega))
      have hbl := bitOf_lt s (p + k)
      have hor := or_bit y (bitOf s (p + k)) hy40 hbl
      have hcl := cnt_le L (k + 1)
      have hf := h.few
      have hcell := hc.cnt1 k hlt
      have hpl := placeOf_bd L hf (k + 1) (by omega)
      have HD : Hid (decGo L s p (15 - k) k y = if 8 * s.size < p + k + 1 then none else if firstOf L (k + 1) ≤ 2 * y + bitOf s (p + k) ∧ 2 * y + bitOf s (p + k) < firstOf L (k + 1) + cnt L (k + 1) then some (nth L (k + 1) (2 * y + bitOf s (p + k) - firstOf L (k + 1)), p + k + 1) else decGo L s p (15 - (k + 1)) (k + 1) (2 * y + bitOf s (p + k))) := by
        obtain ⟨f, hf⟩ : ∃ f, 15 - k = f + 1 := ⟨14 - k, by omega⟩
        rw [show 15 - (k + 1) = f by omega, hf]; rfl
      have HK : Hid (dec L s p = decGo L s p (15 - k) k y) := hdec
      clear hdec
      by_cases hend : 8 * s.size < p + k + 1
      · have HE : Hid (dec L s p = none) := by unfold Hid; rw [HK.out, HD.out, if_pos hend]
        go_wp2_with (go_at_call 76; refine (bit_c _ _ _ _ hs hrd).mono ?_; rintro e w' ⟨rfl, hrd', hrt'⟩; have h4 := hrd'.c4)
        go_ret2
        exact ⟨by rw [HE.out]; rfl, (by intro n q hh; rw [HE.out] at hh; cases hh), hrt.trans hrt'⟩
      · by_cases hit : 2 * y + bitOf s (p + k) < firstOf L (k + 1) + cnt L (k + 1)
        · have HE : Hid (dec L s p = some (nth L (k + 1) (2 * y + bitOf s (p + k) - firstOf L (k + 1)), p + k + 1)) := by unfold Hid; rw [HK.out, HD.out, if_neg hend, if_pos ⟨by omega, hit⟩]
          have hnum0 := hc.num (k + 1) (2 * y + bitOf s (p + k) - firstOf L (k + 1)) (by omega) (by omega) (by omega)
          have hend16 := placeOf_end L (show k + 1 < 16 by omega) (show 2 * y + bitOf s (p + k) - firstOf L (k + 1) < cnt L (k + 1) by omega)
          have hp16 := placeOf_bd L hf 16 (by omega)
          rw [show placeOf L (k + 1) + (2 * y + bitOf s (p + k) - firstOf L (k + 1)) = placeOf L (k + 1) + (2 * y + bitOf s (p + k)) - firstOf L (k + 1) by omega] at hnum0 hend16
          have h160 := hc.nums
          go_wp2_with (go_at_call 76; refine (bit_c _ _ _ _ hs hrd).mono ?_; rintro e w' ⟨rfl, hrd', hrt'⟩; have h4 := hrd'.c4; have h16 := hrt'.t.at h160 hb; have hnum := hrt'.t.at hnum0 hnb)
          go_ret2
          exact ⟨by rw [HE.out]; rfl, (by intro n q hh; rw [HE.out] at hh; cases hh; exact hrd'), hrt.trans hrt'⟩
        · go_wp2_with (go_at_call 76; refine (bit_c _ _ _ _ hs hrd).mono ?_; rintro e w' ⟨rfl, hrd', hrt'⟩; have h4 := hrd'.c4)
          go_roundw
          case rel => exact ⟨k + 1, 2 * y + bitOf s (p + k), by omega, by go_num, by go_num, by rw [show firstOf L (k + 1 + 1) = 2 * (firstOf L (k + 1) + cnt L (k + 1)) from rfl]; go_num, by rw [show placeOf L (k + 1 + 1) = placeOf L (k + 1) + cnt L (k + 1) from rfl]; go_num, pow_step hy hbl, by rw [show firstOf L (k + 1 + 1) = 2 * (firstOf L (k + 1) + cnt L (k + 1)) from rfl]; omega, hrd', hrt.trans hrt', by rw [HK.out, HD.out, if_neg hend, if_neg (by omega)]⟩
          case measure => simp [intOf]; omega
    · obtain rfl : k = 15 := by omega
      go_wp2
      go_ret2
      exact ⟨by rw [hdec]; rfl, (by intro n q hh; rw [hdec] at hh; cases hh), hrt⟩

end Go.Proofs.YtobfkhapeejkfaaGreatDoor
