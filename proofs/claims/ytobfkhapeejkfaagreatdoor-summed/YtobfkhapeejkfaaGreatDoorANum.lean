/- The document's answer: numbers in an archive. -/
import Derived.Test.YtobfkhapeejkfaaGreatDoorRBit
namespace Go.Proofs.YtobfkhapeejkfaaGreatDoor
open Go.RowKit
set_option linter.unusedSimpArgs false
set_option linter.unusedVariables false

/-- A byte's number (0 behind the last). -/
def byteAt (s : ByteArray) (i : Nat) : Nat := if h : i < s.size then s[i].toNat else 0
/-- A number of m bytes from the place a on, the lowest first. -/
def leAt (s : ByteArray) (a : Nat) : Nat → Nat
  | 0 => 0
  | m + 1 => byteAt s a + 256 * leAt s (a + 1) m
theorem byteAt_lt (s : ByteArray) (i : Nat) : byteAt s i < 256 := by
  unfold byteAt; split
  · exact s[i].toNat_lt
  · omega
theorem leAt_lt (s : ByteArray) : ∀ (m a : Nat), leAt s a m < 256 ^ m
  | 0, a => by simp [leAt]
  | m + 1, a => by
    have := leAt_lt s m (a + 1)
    have := byteAt_lt s a
    simp only [leAt, Nat.pow_succ]; omega
theorem leAt_ge (s : ByteArray) : ∀ (k a m : Nat), k ≤ m → leAt s (a + k) (m - k) * 256 ^ k ≤ leAt s a m
  | 0, a, m, _ => by simp
  | k + 1, a, m, h => by
    obtain ⟨m', rfl⟩ : ∃ m', m = m' + 1 := ⟨m - 1, by omega⟩
    have ih := leAt_ge s k (a + 1) m' (by omega)
    rw [show a + (k + 1) = a + 1 + k by omega, show m' + 1 - (k + 1) = m' - k by omega, Nat.pow_succ, ← Nat.mul_assoc]
    simp only [leAt]
    have : leAt s (a + 1 + k) (m' - k) * 256 ^ k * 256 ≤ leAt s (a + 1) m' * 256 := Nat.mul_le_mul_right _ ih
    omega
/-- What 'num' answers, where the bytes are there. -/
def numIn (s : ByteArray) (a n : Nat) : Nat := min (leAt s a n) 9223372036854775807

set_option maxRecDepth 100000 in
set_option maxHeartbeats 1000000 in
theorem rnum_none (w : World) (s : ByteArray) (A N : Int) (hs : s.size ≤ 140737488355328) (h : A < 0 ∨ (s.size : Int) < A + N) (hA : -4611686018427387904 ≤ A ∧ A ≤ 4611686018427387904) (hN : 0 ≤ N ∧ N ≤ 8) :
    Calls Tryz.prog 236 #[.string s, .int .i64 A, .int .i64 N] w fun e w' => e = .returned (.int .i64 (-1)) ∧ w = w' := by
  by_cases h1 : A < 0
  · go_enter Tryz.func236, Tryz.ntmps236
    go_wp2
    go_ret
    exact ⟨rfl, rfl⟩
  · have h2 : (s.size : Int) < A + N := by omega
    go_enter Tryz.func236, Tryz.ntmps236
    go_wp2
    go_ret
    exact ⟨rfl, rfl⟩

set_option maxRecDepth 100000 in
set_option maxHeartbeats 2000000 in
theorem rnum_some (w : World) (s : ByteArray) (a n : Nat) (A N : Int) (hA : A = (a : Int)) (hN : N = (n : Int)) (hs : s.size ≤ 140737488355328) (h : a + n ≤ s.size) (hn : n ≤ 8) (h1 : 1 ≤ n) :
    Calls Tryz.prog 236 #[.string s, .int .i64 A, .int .i64 N] w fun e w' => e = .returned (.int .i64 (numIn s a n : Nat)) ∧ w = w' := by
  subst hA hN
  have a1 : ¬ (a : Int) < 0 := by omega
  have a2 : ¬ (s.size : Int) < (a : Int) + (n : Int) := by omega
  have a3 : ¬ (s.size : Int) < (a : Int) := by omega
  obtain ⟨V, hV⟩ : ∃ V, V = numIn s a n := ⟨_, rfl⟩
  have HV : Hid (V = numIn s a n) := hV
  rw [← hV]
  clear hV
  go_enter Tryz.func236, Tryz.ntmps236
  go_wp2
  go_loop [7, 8] (fun t i => ∃ k x : Nat, k ≤ n ∧ i = .int .i64 ((k : Int) - 1) ∧ t = .int .i64 (x : Int) ∧ x ≤ 9223372036854775807 ∧ Hid (x = leAt s (a + k) (n - k))) (fun _ i => (intOf i + 1).toNat)
  case atStart => exact ⟨n, 0, Nat.le_refl _, rfl, rfl, by omega, by unfold Hid; rw [Nat.sub_self]; rfl⟩
  case round =>
    obtain ⟨k, x, hk, rfl, rfl, hx, HX⟩ := hrel
    by_cases hk0 : k = 0
    · subst hk0
      have HE : Hid (V = x) := by unfold Hid; rw [HV.out]; unfold numIn; have := HX.out; simp at this; rw [← this]; omega
      go_wp2
      go_ret
      exact ⟨by rw [HE.out]; rfl, rfl⟩
    · obtain ⟨i, rfl⟩ : ∃ i, k = i + 1 := ⟨k - 1, by omega⟩
      have ei : ((i + 1 : Nat) : Int) - 1 = (i : Int) := by omega
      rw [ei]
      have hi : a + i < s.size := by omega
      have c := s[a + i].toNat_lt
      have HC : Hid (byteAt s (a + i) = s[a + i].toNat) := by unfold Hid byteAt; rw [dif_pos hi]
      have HL : Hid (leAt s (a + i) (n - i) = byteAt s (a + i) + 256 * x) := by
        unfold Hid; rw [show n - i = (n - (i + 1)) + 1 by omega]; simp only [leAt]; rw [HX.out]; rfl
      have i0 : (0 : Int) ≤ (i : Int) := by omega
      have ai : (a : Int) + (i : Int) < (s.size : Int) := by omega
      have ain : ((a : Int) + (i : Int)).toNat = a + i := by omega
      clear ei
      have ge := leAt_ge s (i + 1) a n hk
      rw [← HX.out] at ge
      have step : ∀ (h' : 256 * x + s[a + i].toNat ≤ 9223372036854775807), ∃ k' x' : Nat, k' ≤ n ∧ (Value.int IntKind.i64 ((i : Int) - 1)) = .int .i64 ((k' : Int) - 1) ∧ Value.int IntKind.i64 (256 * (x : Int) + (s[a + i].toNat : Int)) = .int .i64 (x' : Int) ∧ x' ≤ 9223372036854775807 ∧ Hid (x' = leAt s (a + k') (n - k')) := fun h' =>
        ⟨i, 256 * x + s[a + i].toNat, by omega, rfl, by push_cast; rfl, h', by unfold Hid; rw [HL.out, HC.out]; omega⟩
      have HST : Hid (∀ (h' : 256 * x + s[a + i].toNat ≤ 9223372036854775807), ∃ k' x' : Nat, k' ≤ n ∧ (Value.int IntKind.i64 ((i : Int) - 1)) = .int .i64 ((k' : Int) - 1) ∧ Value.int IntKind.i64 (256 * (x : Int) + (s[a + i].toNat : Int)) = .int .i64 (x' : Int) ∧ x' ≤ 9223372036854775807 ∧ Hid (x' = leAt s (a + k') (n - k'))) := step
      clear step
      by_cases big : 36028797018963967 < x
      · have HE : Hid (V = 9223372036854775807) := by
          unfold Hid; rw [HV.out]; unfold numIn
          have p1 : 256 ^ 1 ≤ 256 ^ (i + 1) := Nat.pow_le_pow_right (by omega) (by omega)
          have p2 : x * 256 ^ 1 ≤ x * 256 ^ (i + 1) := Nat.mul_le_mul_left _ p1
          rw [Nat.min_eq_right]; omega
        clear ge
        have bi : (36028797018963967 : Int) < (x : Int) := by omega
        go_wp2
        go_ret
        exact ⟨by rw [HE.out]; rfl, rfl⟩
      · have bi : ¬ (36028797018963967 : Int) < (x : Int) := by omega
        clear ge
        by_cases i00 : i = 0
        · have i0b : ((i : Int) == 0) = true := by simp; omega
          have i0i : (i : Int) = 0 := by omega
          have d0 : (0 : Int) ≤ 9223372036854775807 - (s[a + i].toNat : Int) := by omega
          have dv : ((9223372036854775807 : Int) - (s[a + i].toNat : Int)).tdiv 256 = ((9223372036854775807 : Int) - (s[a + i].toNat : Int)) / 256 := Int.tdiv_eq_ediv_of_nonneg d0
          have e := HL.out
          rw [HC.out] at e
          have e0 : leAt s (a + i) (n - i) = leAt s a n := by rw [i00]; rfl
          rw [e0] at e
          by_cases top : (9223372036854775807 - s[a + i].toNat) / 256 < x
          · exfalso; omega
          · have ti : ¬ ((9223372036854775807 : Int) - (s[a + i].toNat : Int)) / 256 < (x : Int) := by omega
            have le : 256 * x + s[a + i].toNat ≤ 9223372036854775807 := by omega
            have r := HST.out le
            have HR : Hid (∃ k' x' : Nat, k' ≤ n ∧ (Value.int IntKind.i64 ((i : Int) - 1)) = .int .i64 ((k' : Int) - 1) ∧ Value.int IntKind.i64 (256 * (x : Int) + (s[a + i].toNat : Int)) = .int .i64 (x' : Int) ∧ x' ≤ 9223372036854775807 ∧ Hid (x' = leAt s (a + k') (n - k'))) := r
            clear r HST HL HC e e0 i00 i0i
            go_wp2
            exact ⟨HR.out, by simp [intOf]⟩
        · have i0b : ((i : Int) == 0) = false := by simp; omega
          have le : 256 * x + s[a + i].toNat ≤ 9223372036854775807 := by omega
          have r := HST.out le
          have HR : Hid (∃ k' x' : Nat, k' ≤ n ∧ (Value.int IntKind.i64 ((i : Int) - 1)) = .int .i64 ((k' : Int) - 1) ∧ Value.int IntKind.i64 (256 * (x : Int) + (s[a + i].toNat : Int)) = .int .i64 (x' : Int) ∧ x' ≤ 9223372036854775807 ∧ Hid (x' = leAt s (a + k') (n - k'))) := r
          clear r HST HL HC
          go_wp2
          exact ⟨HR.out, by simp [intOf]⟩
end Go.Proofs.YtobfkhapeejkfaaGreatDoor
