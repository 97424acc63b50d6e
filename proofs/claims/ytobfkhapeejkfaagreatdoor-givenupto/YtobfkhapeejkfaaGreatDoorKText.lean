/- The statements' own texts: 'pick', 'most', 'copied'. -/
import Derived.Test.YtobfkhapeejkfaaGreatDoorRCopy
import Derived.Lib.Strings
namespace Go.Proofs.YtobfkhapeejkfaaGreatDoor
open Go.RowKit
set_option linter.unusedSimpArgs false
set_option linter.unusedVariables false

/-- Which of n things a raw number speaks of. -/
def pickOf (c : Int) (n : Nat) : Nat := ((if c < 0 then -(c + 1) else c) % (n : Int)).toNat
theorem pickOf_lt (c : Int) (n : Nat) (h : 0 < n) : pickOf c n < n := by
  unfold pickOf
  have h1 := Int.emod_lt_of_pos (if c < 0 then -(c + 1) else c) (show (0 : Int) < (n : Int) by omega)
  have h2 := Int.emod_nonneg (if c < 0 then -(c + 1) else c) (show (n : Int) ≠ 0 by omega)
  omega
set_option maxHeartbeats 400000 in
theorem kpick_c (w : World) (c : Int) (n k : Nat) (N : Int) (hN : N = (n : Int)) (hk : pickOf c n = k) (h1 : 1 ≤ n) (hn : n ≤ 1099511627776) (c0 : -9223372036854775808 ≤ c) (c1 : c ≤ 9223372036854775807) :
    Calls Tryz.prog 17 #[.int .i64 c, .int .i64 N] w fun e w' => e = .returned (.int .i64 (k : Int)) ∧ w = w' := by
  subst hN hk
  have lt := pickOf_lt c n (by omega)
  have n0 : ((n : Int) == 0) = false := by simp; omega
  have n0' : ¬ (n : Int) = 0 := by omega
  by_cases hc : c < 0
  · obtain ⟨d, hd⟩ : ∃ d : Nat, -(c + 1) = (d : Int) := ⟨(-(c + 1)).toNat, by omega⟩
    have e : (d : Int).tmod (n : Int) = ((pickOf c n : Nat) : Int) := by
      unfold pickOf
      have h2 := Int.emod_nonneg (d : Int) n0'
      rw [if_pos hc, hd, Int.tmod_eq_emod_of_nonneg (by omega)]; omega
    have hd2 : -1 + -c = (d : Int) := by omega
    have hd3 : -c - 1 = (d : Int) := by omega
    have db : d ≤ 9223372036854775807 := by omega
    generalize pickOf c n = k at *
    go_enter Tryz.func17, Tryz.ntmps17
    go_wp2
    go_ret
    exact ⟨rfl, rfl⟩
  · obtain ⟨d, rfl⟩ : ∃ d : Nat, c = (d : Int) := ⟨c.toNat, by omega⟩
    have e : (d : Int).tmod (n : Int) = ((pickOf (d : Int) n : Nat) : Int) := by
      unfold pickOf
      have h2 := Int.emod_nonneg (d : Int) n0'
      rw [if_neg hc, Int.tmod_eq_emod_of_nonneg (by omega)]; omega
    generalize pickOf (d : Int) n = k at *
    go_enter Tryz.func17, Tryz.ntmps17
    go_wp2
    go_ret
    exact ⟨rfl, rfl⟩

set_option maxHeartbeats 400000 in
theorem kmost_c (w : World) (S T : ByteArray) (hS : S.size ≤ 9223372036854775807) (hT : T = ⟨(S.data.toList.take 40).toArray⟩) :
    Calls Tryz.prog 39 #[.string S, .int .i64 40] w fun e w' => e = .returned (.string T) ∧ w = w' := by
  have hl : S.data.toList.length = S.size := Array.length_toList
  by_cases h : 40 < S.size
  · have HE : Hid (S.extract 0 40 = T) := by
      unfold Hid; rw [hT]
      apply ByteArray.ext
      apply Array.toList_inj.1
      rw [Lib.extract_data]; simp
    clear hT
    go_enter Tryz.func39, Tryz.ntmps39
    go_wp2
    go_ret
    refine ⟨?_, rfl⟩
    rw [← HE.out]; rfl
  · have HE : Hid (S = T) := by
      unfold Hid; rw [hT, List.take_of_length_le (by omega)]
    clear hT
    go_enter Tryz.func39, Tryz.ntmps39
    go_wp2
    go_ret
    refine ⟨?_, rfl⟩
    rw [← HE.out]; rfl

theorem kstr_size (l : List UInt8) : (ByteArray.mk l.toArray).size = l.length := by show l.toArray.size = _; simp
theorem kstr_app (a b : List UInt8) : (ByteArray.mk a.toArray ++ ByteArray.mk b.toArray) = ByteArray.mk (a ++ b).toArray := by
  apply ByteArray.ext; simp
theorem kstr_part (l : List UInt8) (i : Nat) (h : i < l.length) : (ByteArray.mk l.toArray).extract i (i + 1) = ByteArray.mk [l[i]].toArray := by
  apply ByteArray.ext
  apply Array.toList_inj.1
  rw [Lib.extract_data]
  show (l.drop i).take (i + 1 - i) = [l[i]]
  rw [show i + 1 - i = 1 by omega, List.drop_eq_getElem_cons h]
  rfl

set_option maxRecDepth 100000 in
set_option maxHeartbeats 1000000 in
theorem kcopied_c (w : World) (out : List UInt8) (S : ByteArray) (far n : Nat) (F N : Int) (hF : F = (far : Int)) (hN : N = (n : Int)) (hS : S = ⟨out.toArray⟩) (h1 : 1 ≤ far) (h2 : far ≤ out.length) (hn : n ≤ 258) (hl : out.length ≤ 1000000) :
    Calls Tryz.prog 45 #[.string S, .int .i64 F, .int .i64 N] w fun e w' => e = .returned (.string ⟨(copyOf out (out.length - far) far n).toArray⟩) ∧ w = w' := by
  subst hF hN hS
  obtain ⟨place, hp⟩ : ∃ place, place = out.length - far := ⟨_, rfl⟩
  rw [← hp]
  have pd : place + far = out.length := by omega
  clear hp
  go_enter Tryz.func45, Tryz.ntmps45
  go_wp2
  go_loop [0, 7] (fun t i => ∃ k : Nat, k ≤ n ∧ i = .int .i64 (k : Int) ∧ t = .string ⟨(copyOf out place far k).toArray⟩) (fun _ i => n - (intOf i).toNat)
  case atStart => exact ⟨0, by omega, rfl, by rw [copyOf_zero]⟩
  case round =>
    obtain ⟨k, hk, rfl, rfl⟩ := hrel
    by_cases hlt : k < n
    · obtain ⟨cur, hcur⟩ : ∃ cur, cur = copyOf out place far k := ⟨_, rfl⟩
      have cl := copyOf_len out place far k
      have hpl : place + k < (copyOf out place far k).length := by omega
      have nx := copyOf_next out place far k (by omega) pd hpl
      have pt := kstr_part (copyOf out place far k) (place + k) hpl
      have ap := kstr_app (copyOf out place far k) [(copyOf out place far k)[place + k]]
      rw [nx] at ap
      have sz := kstr_size (copyOf out place far k)
      obtain ⟨C, hC⟩ : ∃ C, C = ByteArray.mk (copyOf out place far k).toArray := ⟨_, rfl⟩
      obtain ⟨E, hE⟩ : ∃ E, E = ByteArray.mk [(copyOf out place far k)[place + k]].toArray := ⟨_, rfl⟩
      rw [← hC, ← hE] at ap pt
      rw [← hC] at sz ⊢
      have HAP : Hid (C ++ E = ByteArray.mk (copyOf out place far (k + 1)).toArray) := ap
      obtain ⟨m, hm⟩ : ∃ m, m = place + k := ⟨_, rfl⟩
      rw [← hm] at pt
      have sb : C.size ≤ 1000300 := by omega
      have im : (C.size : Int) - (far : Int) = (m : Int) := by omega
      have im2 : (m : Int) < (C.size : Int) := by omega
      have im3 : (m : Int) + 1 ≤ (C.size : Int) := by omega
      have im4 : m + 1 ≤ C.size := by omega
      have im5 : (0 : Int) ≤ (m : Int) := by omega
      have m0 : m ≤ 1000300 := by omega
      have es : E.size = 1 := by rw [hE]; rfl
      clear ap nx cl hpl hC hE sz hm hcur
      go_wp2
      exact ⟨⟨k + 1, by omega, by go_num, by rw [HAP.out]⟩, by simp [intOf]; omega⟩
    · obtain rfl : k = n := by omega
      go_wp2
      go_ret
      exact ⟨rfl, rfl⟩
end Go.Proofs.YtobfkhapeejkfaaGreatDoor
