/- The document's answer: its sum, and its reader of bits. -/
import Derived.Test.YtobfkhapeejkfaaGreatDoorWSum
import Derived.BigRegion
import Derived.Deep.QuietTactic
import Derived.BigQuiet
namespace Go.Proofs.YtobfkhapeejkfaaGreatDoor
open Go.RowKit
set_option linter.unusedSimpArgs false
set_option linter.unusedVariables false

set_option maxHeartbeats 400000 in
theorem power_p (w : World) (n P : Nat) (HP : Hid (P = 2 ^ n)) (hn : n ≤ 60) : Calls Tryz.prog 229 #[.int .i64 (n : Int)] w fun e w' => e = .returned (.int .i64 (P : Int)) ∧ w' = w := by
  go_enter Tryz.func229, Tryz.ntmps229
  go_wp2
  go_loop [3, 4] (fun t i => ∃ k x : Nat, k ≤ n ∧ i = .int .i64 (k : Int) ∧ t = .int .i64 (x : Int) ∧ x ≤ 1152921504606846976 ∧ Hid (x = 2 ^ k)) (fun _ i => n - (intOf i).toNat)
  case atStart => exact ⟨0, 1, by omega, rfl, rfl, by omega, rfl⟩
  case round =>
    obtain ⟨k, x, hk, rfl, rfl, hx, HX⟩ := hrel
    by_cases hlt : k < n
    · have hx2 : 2 * x ≤ 1152921504606846976 := by
        have : 2 ^ (k + 1) ≤ 2 ^ 60 := Nat.pow_le_pow_right (by omega) (by omega)
        rw [Nat.pow_succ, ← HX.out] at this; omega
      go_wp2
      go_round
      case rel => exact ⟨k + 1, 2 * x, by omega, by go_num, by go_num, hx2, by unfold Hid; rw [HX.out, Nat.pow_succ, Nat.mul_comm]⟩
      case measure => simp [intOf]; omega
    · obtain rfl : k = n := by omega
      obtain rfl : x = P := by rw [HX.out, HP.out]
      go_wp2
      go_ret
      exact ⟨rfl, rfl⟩
theorem power_i (w : World) (n P : Nat) (N : Int) (hN : N = (n : Int)) (HP : Hid (P = 2 ^ n)) (hn : n ≤ 60) : Calls Tryz.prog 229 #[.int .i64 N] w fun e w' => e = .returned (.int .i64 (P : Int)) ∧ w' = w := by
  subst hN; exact power_p w n P HP hn

theorem i64_xor (a b : Nat) (ha : a < 4294967296) (hb : b < 4294967296) : bits BinOp.xor IntKind.i64 (a : Int) (b : Int) = ((a ^^^ b : Nat) : Int) := by
  have hx : a ^^^ b < 2 ^ 32 := Nat.xor_lt_two_pow (by omega) (by omega)
  have h1 : (BitVec.ofInt 64 (a : Int)).toNat = a := by
    rw [BitVec.ofInt_natCast, BitVec.toNat_ofNat]; exact Nat.mod_eq_of_lt (by omega)
  have h2 : (BitVec.ofInt 64 (b : Int)).toNat = b := by
    rw [BitVec.ofInt_natCast, BitVec.toNat_ofNat]; exact Nat.mod_eq_of_lt (by omega)
  show IntKind.i64.wrap ((BitVec.ofInt 64 (a : Int) ^^^ BitVec.ofInt 64 (b : Int)).toNat : Int) = _
  rw [BitVec.toNat_xor, h1, h2]
  simp [IntKind.wrap, IntKind.bits, IntKind.signed]
  omega

theorem div2_xor (a b : Nat) : (a ^^^ b) / 2 = a / 2 ^^^ b / 2 := by
  have := Nat.shiftRight_xor_distrib (a := a) (b := b) (i := 1)
  simpa [Nat.shiftRight_eq_div_pow] using this
theorem mod2_xor (a b : Nat) : (a ^^^ b) % 2 = a % 2 ^^^ b % 2 := by
  have := Nat.xor_mod_two_pow (a := a) (b := b) (n := 1)
  simpa using this
theorem div16_xor (a b : Nat) : (a ^^^ b) / 16 = a / 16 ^^^ b / 16 := by
  have := Nat.shiftRight_xor_distrib (a := a) (b := b) (i := 4)
  simpa [Nat.shiftRight_eq_div_pow] using this
theorem mod16_xor (a b : Nat) : (a ^^^ b) % 16 = a % 16 ^^^ b % 16 := by
  have := Nat.xor_mod_two_pow (a := a) (b := b) (n := 4)
  simpa using this
theorem crc1_xor (a b : Nat) : crc1 (a ^^^ b) = crc1 a ^^^ crc1 b := by
  unfold crc1
  rw [div2_xor, mod2_xor]
  rcases Nat.mod_two_eq_zero_or_one a with ha | ha <;> rcases Nat.mod_two_eq_zero_or_one b with hb | hb
  · rw [ha, hb]; simp
  · rw [ha, hb, if_pos (by decide), if_neg (by decide), if_pos rfl]; ac_rfl
  · rw [ha, hb, if_pos (by decide), if_pos rfl, if_neg (by decide)]; ac_rfl
  · rw [ha, hb, if_neg (by decide), if_pos rfl, if_pos rfl]
    have : (a / 2 ^^^ 3988292384) ^^^ (b / 2 ^^^ 3988292384) = (3988292384 ^^^ 3988292384) ^^^ (a / 2 ^^^ b / 2) := by ac_rfl
    rw [this, Nat.xor_self, Nat.zero_xor]
theorem crcN_xor (k a b : Nat) : crcN k (a ^^^ b) = crcN k a ^^^ crcN k b := by
  induction k with
  | zero => rfl
  | succ k ih => simp only [crcN, ih, crc1_xor]
theorem split16 (x : Nat) : x = (16 * (x / 16)) ^^^ (x % 16) := by
  have h1 := div16_xor (16 * (x / 16)) (x % 16)
  have h2 := mod16_xor (16 * (x / 16)) (x % 16)
  rw [show 16 * (x / 16) / 16 = x / 16 by omega, show x % 16 / 16 = 0 by omega, Nat.xor_zero] at h1
  rw [show 16 * (x / 16) % 16 = 0 by omega, show x % 16 % 16 = x % 16 by omega, Nat.zero_xor] at h2
  omega
/-- Four bits go out, one by one, or at one time. -/
theorem crc_four (x : Nat) : crcN 4 x = half1 x := by
  unfold half1 tab
  conv => lhs; rw [split16 x, crcN_xor]
  congr 1
  generalize x / 16 = q
  have e : ∀ m, crc1 (2 * m) = m := fun m => by unfold crc1; rw [if_neg (by omega)]; omega
  show crc1 (crc1 (crc1 (crc1 (16 * q)))) = q
  rw [show 16 * q = 2 * (2 * (2 * (2 * q))) by omega, e, e, e, e]
theorem crcN_add (j k x : Nat) : crcN (j + k) x = crcN j (crcN k x) := by
  induction j with
  | zero => simp [crcN]
  | succ j ih => rw [show j + 1 + k = (j + k) + 1 by omega]; simp only [crcN, ih]
theorem crc_eight (x : Nat) (c : UInt8) : crcN 8 (x ^^^ c.toNat) = stepB x c := by
  unfold stepB
  rw [show (8 : Nat) = 4 + 4 from rfl, crcN_add, crc_four, crc_four]
theorem not32 (x : Nat) (h : x < 4294967296) : 4294967295 ^^^ x = 4294967295 - x := by
  have h1 : (BitVec.allOnes 32 ^^^ BitVec.ofNat 32 x).toNat = 4294967295 ^^^ x := by
    rw [BitVec.toNat_xor, BitVec.toNat_ofNat, Nat.mod_eq_of_lt (by omega)]; rfl
  rw [← h1, BitVec.allOnes_xor, BitVec.toNat_not, BitVec.toNat_ofNat, Nat.mod_eq_of_lt (by omega)]

set_option maxRecDepth 100000 in
set_option maxHeartbeats 1000000 in
theorem rsum_c (w : World) (s : ByteArray) (hs : s.size ≤ maxLen) :
    Calls Tryz.prog 107 #[.string s] w fun e w' => e = .returned (.int .i64 (sumOf s : Nat)) ∧ w' = w := by
  unfold maxLen at hs
  go_enter Tryz.func107, Tryz.ntmps107
  go_wp2
  go_loop [3, 4] (fun t i => ∃ k : Nat, k ≤ s.size ∧ i = .int .i64 (k : Int) ∧ t = .int .i64 (sumGo (s.data.toList.take k) : Nat)) (fun _ i => s.size - (intOf i).toNat)
  case atStart => exact ⟨0, Nat.zero_le _, rfl, rfl⟩
  case round =>
    obtain ⟨k, hk, rfl, rfl⟩ := hrel
    have bd := sumGo_lt (s.data.toList.take k)
    obtain ⟨x, hx⟩ : ∃ x, x = sumGo (s.data.toList.take k) := ⟨_, rfl⟩
    have HX : Hid (x = sumGo (s.data.toList.take k)) := hx
    rw [← hx] at bd ⊢
    clear hx
    by_cases hlt : k < s.size
    · have hc := s[k].toNat_lt
      obtain ⟨y, hy⟩ : ∃ y, y = x ^^^ s[k].toNat := ⟨_, rfl⟩
      have by1 : y < 4294967296 := by rw [hy]; exact Nat.xor_lt_two_pow (n := 32) bd (by omega)
      have a1 : bits BinOp.xor IntKind.i64 (x : Int) (s[k].toNat : Int) = (y : Int) := by rw [hy]; exact i64_xor x s[k].toNat bd (by omega)
      have HY : Hid (y = x ^^^ s[k].toNat) := hy
      clear hy
      go_wp2
      go_loop [3, 5] (fun t i => ∃ n : Nat, n ≤ 8 ∧ i = .int .i64 (n : Int) ∧ t = .int .i64 (crcN n y : Nat)) (fun _ i => 8 - (intOf i).toNat)
      case atStart => exact ⟨0, by omega, rfl, rfl⟩
      case round =>
        obtain ⟨n, hn, rfl, rfl⟩ := hrel
        have bn := crcN_lt n y by1
        obtain ⟨z, hz⟩ : ∃ z, z = crcN n y := ⟨_, rfl⟩
        have HZ : Hid (z = crcN n y) := hz
        rw [← hz] at bn ⊢
        clear hz
        by_cases hn8 : n < 8
        · have a2 : bits BinOp.xor IntKind.i64 ((z : Int) / 2) 3988292384 = ((z / 2 ^^^ 3988292384 : Nat) : Int) := by
            have := i64_xor (z / 2) 3988292384 (by omega) (by omega)
            have e : ((z : Int) / 2) = ((z / 2 : Nat) : Int) := by omega
            rw [e]; exact this
          by_cases hb : z % 2 = 1
          · go_wp2
            go_round
            case rel => exact ⟨n + 1, by omega, by go_num, by rw [show crcN (n + 1) y = crc1 (crcN n y) from rfl, ← HZ.out]; unfold crc1; rw [if_pos hb]⟩
            case measure => simp [intOf]; omega
          · go_wp2
            go_round
            case rel => exact ⟨n + 1, by omega, by go_num, by rw [show crcN (n + 1) y = crc1 (crcN n y) from rfl, ← HZ.out]; unfold crc1; rw [if_neg hb]; go_num⟩
            case measure => simp [intOf]; omega
        · obtain rfl : n = 8 := by omega
          have HS : Hid (sumGo (s.data.toList.take (k + 1)) = z) := by
            unfold Hid; rw [take_snoc s k hlt, sumGo_snoc, ← HX.out, ← crc_eight, ← HY.out, ← HZ.out]
          go_wp2
          go_round
          case rel => exact ⟨k + 1, by omega, by go_num, by rw [HS.out]⟩
          case measure => simp [intOf]; omega
    · obtain rfl : k = s.size := by omega
      have HS : Hid (sumOf s = 4294967295 - x) := by
        unfold Hid sumOf; rw [HX.out, List.take_of_length_le (by simp), not32 _ (sumGo_lt _)]
      go_wp2
      go_ret
      exact ⟨ret_int (by rw [HS.out]; omega), rfl⟩

set_option maxHeartbeats 400000 in
theorem fail_c (w : World) (b : Nat) (k : Int) (h4 : w.cell? ⟨b, 4, none⟩ = some (.int .i64 0)) (f4 : w.frozen? ⟨b, 4, none⟩ = false) :
    Calls Tryz.prog 165 #[.pointer (some ⟨b, 0, none⟩), .int .i64 k] w fun e w' => e = .returned (.tuple #[]) ∧ w' = w.setCell ⟨b, 4, none⟩ (.int .i64 k) := by
  go_enter Tryz.func165, Tryz.ntmps165
  go_wp2
  go_end0
  exact ⟨rfl, rfl⟩

/-- The reader of the document's answer: p bits were taken; beyond the end its error is 1. -/
structure RB (w : World) (b : Nat) (s : ByteArray) (p : Nat) : Prop where
  c0 : w.cell? ⟨b, 0, none⟩ = some (.string s)
  c1 : w.cell? ⟨b, 1, none⟩ = some (.int .i64 ((min p (8 * s.size) : Nat) : Int))
  c4 : w.cell? ⟨b, 4, none⟩ = some (.int .i64 ((if p ≤ 8 * s.size then 0 else 1 : Nat) : Int))
  fr : ∀ o, w.frozen? ⟨b, o, none⟩ = false
/-- The cells 1 and 4 of the block b alone may have turned. -/
structure BT (b : Nat) (w w' : World) : Prop where
  t : Touch (· = b) w w'
  keep : ∀ o, o ≠ 1 → o ≠ 4 → w'.cell? ⟨b, o, none⟩ = w.cell? ⟨b, o, none⟩
  fr : ∀ o, w'.frozen? ⟨b, o, none⟩ = w.frozen? ⟨b, o, none⟩
theorem BT.refl (b : Nat) (w : World) : BT b w w := ⟨Touch.refl _ _, fun _ _ _ => rfl, fun _ => rfl⟩
theorem BT.trans {b : Nat} {x y z : World} (h : BT b x y) (k : BT b y z) : BT b x z :=
  ⟨h.t.trans k.t, fun o h1 h4 => (k.keep o h1 h4).trans (h.keep o h1 h4), fun o => (k.fr o).trans (h.fr o)⟩
theorem BT.drewN {b : Nat} {x y : World} (h : BT b x y) (n : Nat) : BT b x (y.drewN n) := ⟨h.t.drewN n, h.keep, h.fr⟩
theorem BT.set {b : Nat} {x y : World} (h : BT b x y) (i : Nat) (hi : i = 1 ∨ i = 4) (v : Value) : BT b x (y.setCell ⟨b, i, none⟩ v) :=
  ⟨h.t.setCell rfl v, fun o h1 h4 => (cell_set_ne (by omega)).trans (h.keep o h1 h4), fun o => by rw [World.frozen?_setCell]; exact h.fr o⟩

set_option maxRecDepth 100000 in
set_option maxHeartbeats 1000000 in
theorem rbit_over (w : World) (b : Nat) (s : ByteArray) (h4 : w.cell? ⟨b, 4, none⟩ = some (.int .i64 1)) :
    Calls Tryz.prog 159 #[.pointer (some ⟨b, 0, none⟩)] w fun e w' => e = .returned (.int .i64 0) ∧ ∃ n, w' = w.drewN n := by
  go_enter Tryz.func159, Tryz.ntmps159
  go_wp2
  go_quiet (fail)
  go_wp2
  go_ret
  exact ⟨rfl, _, rfl⟩
set_option maxRecDepth 100000 in
set_option maxHeartbeats 1000000 in
theorem rbit_end (w : World) (b : Nat) (s : ByteArray) (hs : s.size ≤ 2147483648) (h0 : w.cell? ⟨b, 0, none⟩ = some (.string s)) (h1 : w.cell? ⟨b, 1, none⟩ = some (.int .i64 ((8 * s.size : Nat) : Int))) (h4 : w.cell? ⟨b, 4, none⟩ = some (.int .i64 0)) (f4 : w.frozen? ⟨b, 4, none⟩ = false) :
    Calls Tryz.prog 159 #[.pointer (some ⟨b, 0, none⟩)] w fun e w' => e = .returned (.int .i64 0) ∧ ∃ n, w' = (w.drewN n).setCell ⟨b, 4, none⟩ (.int .i64 1) := by
  go_enter Tryz.func159, Tryz.ntmps159
  go_wp2
  go_quiet (fail)
  go_wp2_with (go_at_call 165; refine (fail_c (w.drewN nq) b 1 h4 f4).mono ?_; rintro e w' ⟨rfl, rfl⟩)
  go_ret
  exact ⟨rfl, _, rfl⟩

set_option maxRecDepth 100000 in
set_option maxHeartbeats 1000000 in
theorem rbit_in (w : World) (b : Nat) (s : ByteArray) (p k j : Nat) (hp : p = 8 * k + j) (hj : j < 8) (hk : k < s.size) (hs : s.size ≤ 2147483648) (h0 : w.cell? ⟨b, 0, none⟩ = some (.string s)) (h1 : w.cell? ⟨b, 1, none⟩ = some (.int .i64 (p : Int))) (h4 : w.cell? ⟨b, 4, none⟩ = some (.int .i64 0)) (f1 : w.frozen? ⟨b, 1, none⟩ = false) (v : Nat) (HV : Hid (v = s[k].toNat / 2 ^ j % 2)) :
    Calls Tryz.prog 159 #[.pointer (some ⟨b, 0, none⟩)] w fun e w' => e = .returned (.int .i64 (v : Int)) ∧ ∃ n, w' = (w.drewN n).setCell ⟨b, 1, none⟩ (.int .i64 ((p + 1 : Nat) : Int)) := by
  obtain ⟨P, hP⟩ : ∃ P, P = 2 ^ j := ⟨_, rfl⟩
  have HP : Hid (P = 2 ^ j) := hP
  have P1 : 1 ≤ P := by rw [hP]; exact Nat.one_le_two_pow
  have e1 : (p : Int) / 8 = (k : Int) := by omega
  have e2 : (p : Int) % 8 = (j : Int) := by omega
  have hc := s[k].toNat_lt
  have e3 : (s[k].toNat : Int) / (P : Int) % 2 = (v : Int) := by rw [HV.out, ← hP]; push_cast; rfl
  have vb : v ≤ 1 := by rw [HV.out]; omega
  have lt : ¬ 8 * (s.size : Int) ≤ (p : Int) := by omega
  have pl : p ≤ 17179869184 := by omega
  have HPP : Hid (p = 8 * k + j) := hp
  have kk : (k : Int) < (s.size : Int) := by omega
  have P2 : ¬ (P : Int) = 0 := by omega
  have P3 : ((P : Int) == 0) = false := by simp; omega
  have P4 : (1 : Int) ≤ (P : Int) := by omega
  have k0 : (0 : Int) ≤ (k : Int) := by omega
  have wr1 : ∀ n : Int, 0 ≤ n → n < 4611686018427387904 → IntKind.i64.wrap n = n := by intro n h0 h1; simp [IntKind.wrap, IntKind.bits, IntKind.signed]; omega
  have q1 : IntKind.i64.wrap (k : Int) = (k : Int) := wr1 _ (by omega) (by omega)
  have q0 : IntKind.i64.wrap (s[k].toNat : Int) = (s[k].toNat : Int) := wr1 _ (by omega) (by omega)
  have q2 : IntKind.i64.wrap (j : Int) = (j : Int) := wr1 _ (by omega) (by omega)
  have d0 : (0 : Int) ≤ (s[k].toNat : Int) / (P : Int) := Int.ediv_nonneg (by omega) (by omega)
  have d1 : (s[k].toNat : Int) / (P : Int) ≤ (s[k].toNat : Int) := Int.ediv_le_self _ (by omega)
  have q3 : IntKind.i64.wrap ((s[k].toNat : Int) / (P : Int)) = (s[k].toNat : Int) / (P : Int) := wr1 _ d0 (by omega)
  have q4 : IntKind.i64.wrap (v : Int) = (v : Int) := wr1 _ (by omega) (by omega)
  have q5 : (s[k].toNat : Int).tdiv (P : Int) = (s[k].toNat : Int) / (P : Int) := Int.tdiv_eq_ediv_of_nonneg (by omega)
  have q6 : ((s[k].toNat : Int) / (P : Int)).tmod 2 = (v : Int) := by rw [Int.tmod_eq_emod_of_nonneg d0]; exact e3
  have q7 : (p : Int).tdiv 8 = (k : Int) := by rw [Int.tdiv_eq_ediv_of_nonneg (by omega)]; exact e1
  have q8 : (p : Int).tmod 8 = (j : Int) := by rw [Int.tmod_eq_emod_of_nonneg (by omega)]; exact e2
  clear wr1
  clear hP hp HV
  go_enter Tryz.func159, Tryz.ntmps159
  go_wp2
  go_quiet (fail)
  go_wp2
  go_quiet ((go_at_call 229; exact (power_p _ j P HP (by omega)).mono fun _ _ hh => ⟨hh.1, _, hh.2⟩))
  go_wp2
  go_ret
  exact ⟨rfl, _, by push_cast; rfl⟩

theorem rbit_c (w : World) (b : Nat) (s : ByteArray) (p : Nat) (hs : s.size ≤ 2147483648) (h : RB w b s p) :
    Calls Tryz.prog 159 #[.pointer (some ⟨b, 0, none⟩)] w fun e w' => e = .returned (.int .i64 (bitOf s p : Nat)) ∧ RB w' b s (p + 1) ∧ BT b w w' := by
  obtain ⟨c0, c1, c4, fr⟩ := h
  by_cases h1 : 8 * s.size < p
  · rw [if_neg (by omega)] at c4
    refine (rbit_over w b s c4).mono ?_
    rintro e w' ⟨rfl, n, rfl⟩
    refine ⟨by rw [bitOf_end s p (by omega)]; rfl, ⟨c0, ?_, ?_, fr⟩, (BT.refl b w).drewN n⟩
    · rw [show min (p + 1) (8 * s.size) = min p (8 * s.size) by omega]; exact c1
    · rw [if_neg (by omega)]; exact c4
  · rw [if_pos (by omega)] at c4
    by_cases h2 : p = 8 * s.size
    · rw [show min p (8 * s.size) = 8 * s.size by omega] at c1
      refine (rbit_end w b s hs c0 c1 c4 (fr 4)).mono ?_
      rintro e w' ⟨rfl, n, rfl⟩
      refine ⟨by rw [bitOf_end s p (by omega)]; rfl, ⟨?_, ?_, ?_, ?_⟩, ((BT.refl b w).drewN n).set 4 (Or.inr rfl) _⟩
      · simp [cell_set_if, cell_drewN, c0]
      · rw [show min (p + 1) (8 * s.size) = 8 * s.size by omega]; simp [cell_set_if, cell_drewN, c1]
      · rw [if_neg (by omega)]; simp [cell_set_if, cell_drewN, c4]
      · intro o; rw [World.frozen?_setCell]; exact fr o
    · rw [show min p (8 * s.size) = p by omega] at c1
      have hk : p / 8 < s.size := by omega
      refine (rbit_in w b s p (p / 8) (p % 8) (by omega) (by omega) hk hs c0 c1 c4 (fr 1) (bitOf s p) (by unfold Hid bitOf; rw [dif_pos hk])).mono ?_
      rintro e w' ⟨rfl, n, rfl⟩
      refine ⟨rfl, ⟨?_, ?_, ?_, ?_⟩, ((BT.refl b w).drewN n).set 1 (Or.inl rfl) _⟩
      · simp [cell_set_if, cell_drewN, c0]
      · rw [show min (p + 1) (8 * s.size) = p + 1 by omega]; simp [cell_set_if, cell_drewN, c1]
      · rw [if_pos (by omega)]; simp [cell_set_if, cell_drewN, c4]
      · intro o; rw [World.frozen?_setCell]; exact fr o

theorem rbit_v (w : World) (b : Nat) (s : ByteArray) (p v : Nat) (hv : bitOf s p = v) (hs : s.size ≤ 2147483648) (h : RB w b s p) :
    Calls Tryz.prog 159 #[.pointer (some ⟨b, 0, none⟩)] w fun e w' => e = .returned (.int .i64 (v : Int)) ∧ RB w' b s (p + 1) ∧ BT b w w' := by
  subst hv; exact rbit_c w b s p hs h
theorem power_v (w : World) (n P : Nat) (HP : Hid (P = 2 ^ n)) (hn : n ≤ 60) : Calls Tryz.prog 229 #[.int .i64 (n : Int)] w fun e w' => e = .returned (.int .i64 (P : Int)) ∧ w = w' :=
  (power_p w n P HP hn).mono fun _ _ h => ⟨h.1, h.2.symm⟩

set_option maxRecDepth 100000 in
set_option maxHeartbeats 1000000 in
theorem rnumber_c (w : World) (b : Nat) (s : ByteArray) (p n : Nat) (hn : n ≤ 16) (hs : s.size ≤ 2147483648) (h : RB w b s p) :
    Calls Tryz.prog 160 #[.pointer (some ⟨b, 0, none⟩), .int .i64 (n : Int)] w fun e w' => e = .returned (.int .i64 (numAt s p n : Nat)) ∧ RB w' b s (p + n) ∧ BT b w w' := by
  go_enter Tryz.func160, Tryz.ntmps160
  go_wp2
  go_loopw [5, 6] (fun t i wr => ∃ k : Nat, k ≤ n ∧ i = .int .i64 (k : Int) ∧ t = .int .i64 (numAt s p k : Nat) ∧ RB wr b s (p + k) ∧ BT b w wr) (fun _ i _ => n - (intOf i).toNat)
  case atStart => exact ⟨0, by omega, rfl, rfl, h, BT.refl _ _⟩
  case round =>
    obtain ⟨k, hk, rfl, rfl, hrb, hbt⟩ := hrel
    by_cases hlt : k < n
    · obtain ⟨P, hP⟩ : ∃ P, P = 2 ^ k := ⟨_, rfl⟩
      have HP : Hid (P = 2 ^ k) := hP
      have P2 : P ≤ 65536 := by rw [hP]; exact Nat.le_trans (Nat.pow_le_pow_right (by omega) (show k ≤ 16 by omega)) (by decide)
      obtain ⟨x, hx⟩ : ∃ x, x = numAt s p k := ⟨_, rfl⟩
      have bx := numAt_lt s p k
      rw [← hx, ← hP] at bx
      obtain ⟨v, hv⟩ : ∃ v, v = bitOf s (p + k) := ⟨_, rfl⟩
      have bv := bitOf_lt s (p + k)
      rw [← hv] at bv
      obtain ⟨z, hz⟩ : ∃ z, z = v * P := ⟨_, rfl⟩
      have bz : z ≤ 65536 := by rw [hz]; have : v * P ≤ 1 * P := Nat.mul_le_mul_right _ (by omega); omega
      have e1 : (v : Int) * (P : Int) = (z : Int) := by rw [hz]; push_cast; rfl
      have HN : Hid (numAt s p (k + 1) = x + z) := by unfold Hid; rw [hz, hx, hv, hP]; rfl
      have HV : Hid (bitOf s (p + k) = v) := hv.symm
      rw [← hx]
      clear hP hx hv hz
      go_wp2_with (first | (go_at_call 159; refine (rbit_v _ b s (p + k) v HV.out hs hrb).mono ?_; rintro e w1 ⟨rfl, r1, t1⟩) | (go_at_call 229; refine (power_v _ k P HP (by omega)).mono ?_; rintro e w2 ⟨rfl, rfl⟩))
      go_roundw
      case rel => exact ⟨k + 1, by omega, by go_num, by rw [HN.out]; go_num, r1, hbt.trans t1⟩
      case measure => simp [intOf]; omega
    · obtain rfl : k = n := by omega
      go_wp2
      go_ret
      exact ⟨by simp, hrb, hbt⟩
end Go.Proofs.YtobfkhapeejkfaaGreatDoor
