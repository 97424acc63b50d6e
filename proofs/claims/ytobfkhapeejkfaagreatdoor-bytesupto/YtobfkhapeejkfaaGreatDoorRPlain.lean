/- The document's answer: a PLAIN block. -/
import Derived.Test.YtobfkhapeejkfaaGreatDoorWPlain
import Derived.Test.YtobfkhapeejkfaaGreatDoorRGive
import Derived.Test.YtobfkhapeejkfaaGreatDoorRNext
namespace Go.Proofs.YtobfkhapeejkfaaGreatDoor
open Go.RowKit
set_option linter.unusedSimpArgs false
set_option linter.unusedVariables false

/-- What is behind a block, or a part of one. -/
def refPost (b : Nat) (s : ByteArray) (M : Int) (w : World) (r : Sum Nat (List UInt8 × Nat)) (w' : World) : Prop :=
  IT b w w' ∧ match r with
  | .inl k => w'.cell? ⟨b, 4, none⟩ = some (.int .i64 (k : Int))
  | .inr (out, q) => Ref w' b s q out M
theorem RB.at {w : World} {b : Nat} {s : ByteArray} {p : Nat} (h : RB w b s p) (hp : p ≤ 8 * s.size) : w.cell? ⟨b, 1, none⟩ = some (.int .i64 (p : Int)) := by
  have := h.c1; rw [Nat.min_eq_left hp] at this; exact this
/-- Where the reader stands. -/
def atOf (w : World) (b : Nat) : Nat := match w.cell? ⟨b, 1, none⟩ with | some (.int _ n) => n.toNat | _ => 0
theorem RB.atOf {w : World} {b : Nat} {s : ByteArray} {p : Nat} (h : RB w b s p) (hp : p ≤ 8 * s.size) : atOf w b = p := by
  unfold Proofs.YtobfkhapeejkfaaGreatDoor.atOf; rw [h.at hp]; simp
theorem RB.one_on {w : World} {b : Nat} {s : ByteArray} {p q : Nat} (h : RB w b s p) (hp : p ≤ 8 * s.size) (hq : q ≤ 8 * s.size) : RB (w.setCell ⟨b, 1, none⟩ (.int .i64 (q : Int))) b s q := by
  refine ⟨?_, ?_, ?_, ?_⟩
  · rw [cell_set_ne (by omega)]; exact h.c0
  · rw [Nat.min_eq_left hq]; simp [cell_set_if, h.c1]
  · rw [cell_set_ne (by omega), if_pos hq]; have := h.c4; rw [if_pos hp] at this; exact this
  · intro o; rw [World.frozen?_setCell]; exact h.fr o
theorem num8 (s : ByteArray) (k : Nat) (hk : k < s.size) : numAt s (8 * k) 8 = s[k].toNat := by
  have b := s[k].toNat_lt
  simp only [numAt, bitOf_in s k _ hk (show 0 < 8 by omega), bitOf_in s k _ hk (show 1 < 8 by omega), bitOf_in s k _ hk (show 2 < 8 by omega), bitOf_in s k _ hk (show 3 < 8 by omega), bitOf_in s k _ hk (show 4 < 8 by omega), bitOf_in s k _ hk (show 5 < 8 by omega), bitOf_in s k _ hk (show 6 < 8 by omega), bitOf_in s k _ hk (show 7 < 8 by omega)]
  generalize s[k].toNat = x at *
  omega
theorem take_more (s : ByteArray) (k i : Nat) (h : k + i < s.size) : (s.data.toList.drop k).take (i + 1) = (s.data.toList.drop k).take i ++ [s[k + i]] := by
  have e : s.data.toList.length = s.size := Array.length_toList
  rw [List.take_succ_eq_append_getElem (by rw [List.length_drop]; omega)]
  simp [ByteArray.getElem_eq_getElem_data]

theorem rnumber_i (w : World) (b : Nat) (s : ByteArray) (p n v : Nat) (N : Int) (hN : N = (n : Int)) (hv : v = numAt s p n) (hn : n ≤ 16) (hs : s.size ≤ 2147483648) (h : RB w b s p) :
    Calls Tryz.prog 160 #[.pointer (some ⟨b, 0, none⟩), .int .i64 N] w fun e w' => e = .returned (.int .i64 (v : Int)) ∧ RB w' b s (p + n) ∧ BT b w w' := by
  subst hN hv; exact rnumber_c w b s p n hn hs h
theorem give_ok_i (b : Nat) (w : World) (s : ByteArray) (p : Nat) (out : List UInt8) (M : Int) (c : UInt8) (C : Int) (hC : C = (c.toNat : Int)) (h : Ref w b s p out M) (hp : p ≤ 8 * s.size) (hs : s.size ≤ 2147483648) (hroom : (out.length : Int) < M) (hfew : out.length + 1 ≤ 258 * p) :
    Calls Tryz.prog 230 #[.pointer (some ⟨b, 0, none⟩), .int .u8 C] w fun e w' => e = .returned (.tuple #[]) ∧ Ref w' b s p (out ++ [c]) M ∧ IT b w w' := by
  subst hC; exact give_ok b w s p out M c h hp hs hroom hfew

set_option maxRecDepth 100000 in
set_option maxHeartbeats 1000000 in
theorem give_no (b : Nat) (w : World) (e c : Int) (h4 : w.cell? ⟨b, 4, none⟩ = some (.int .i64 e)) (he : e ≠ 0) :
    Calls Tryz.prog 230 #[.pointer (some ⟨b, 0, none⟩), .int .u8 c] w fun e w' => e = .returned (.tuple #[]) ∧ ∃ n, w' = w.drewN n := by
  have he' : (e == 0) = false := by simp; omega
  go_enter Tryz.func230, Tryz.ntmps230
  go_wp2
  go_quiet (fail)
  go_wp2
  go_end0
  exact ⟨rfl, _, rfl⟩

set_option maxRecDepth 100000 in
set_option maxHeartbeats 2000000 in
theorem rplain_c (b : Nat) (w : World) (s : ByteArray) (p : Nat) (out : List UInt8) (M : Int) (hs : s.size ≤ 2147483648) (h : Ref w b s p out M) (hp : p ≤ 8 * s.size) :
    Calls Tryz.prog 161 #[.pointer (some ⟨b, 0, none⟩)] w fun e w' => e = .returned (.tuple #[]) ∧ refPost b s M w (plainOf s p out (max M 0).toNat) w' := by
  obtain ⟨R, hR⟩ : ∃ R, R = plainOf s p out (max M 0).toNat := ⟨_, rfl⟩
  have HR : Hid (R = plainOf s p out (max M 0).toNat) := hR
  rw [← hR]
  clear hR
  obtain ⟨most, hmost⟩ : ∃ most, most = (max M 0).toNat := ⟨_, rfl⟩
  rw [← hmost] at HR
  unfold plainOf at HR
  obtain ⟨k0, hk0⟩ : ∃ k0, k0 = (p + 7) / 8 := ⟨_, rfl⟩
  obtain ⟨n, hn⟩ : ∃ n, n = numAt s (8 * k0) 16 := ⟨_, rfl⟩
  obtain ⟨m, hm⟩ : ∃ m, m = numAt s (8 * k0 + 16) 16 := ⟨_, rfl⟩
  have bn := numAt_lt s (8 * k0) 16
  have bm := numAt_lt s (8 * k0 + 16) 16
  rw [← hk0, ← hn, ← hm] at HR
  rw [← hn] at bn; rw [← hm] at bm
  have pk : p ≤ 8 * k0 := by omega
  have kp : 8 * k0 ≤ p + 7 := by omega
  have k8 : 8 * k0 ≤ 8 * s.size := by omega
  have HN : Hid (n = numAt s (8 * k0) 16) := hn
  have HM : Hid (m = numAt s (8 * k0 + 16) 16) := hm
  clear hn hm hk0
  go_enter Tryz.func161, Tryz.ntmps161
  go_wp2
  go_loopw [] (fun wr => ∃ q, p ≤ q ∧ q ≤ 8 * k0 ∧ RB wr b s q ∧ BT b w wr) (fun wr => 8 * k0 - atOf wr b)
  case atStart => exact ⟨p, by omega, pk, h.rb, BT.refl _ _⟩
  case round =>
    obtain ⟨q, q1, q2, hrb, hbt⟩ := hrel
    have hc1 := hrb.at (by omega)
    have hf1 := hrb.fr 1
    by_cases hq : q = 8 * k0
    · subst hq
      have e1 : (8 * (k0 : Int)) % 8 = 0 := by omega
      go_wp2_with fail
      refine (rnumber_i wr b s (8 * k0) 16 n _ rfl HN.out (by omega) hs hrb).mono ?_
      rintro e w2 ⟨rfl, r2, t2⟩
      go_wp2_with fail
      refine (rnumber_i w2 b s (8 * k0 + 16) 16 m _ rfl HM.out (by omega) hs r2).mono ?_
      rintro e w3 ⟨rfl, r3, t3⟩
      have T3 := (hbt.trans t2).trans t3
      have ref3 := h.read r3 T3 (by omega)
      clear hbt t2 t3 hrb r2 hc1 hf1
      by_cases c2 : 8 * s.size < 8 * k0 + 32
      · have HE : Hid (R = .inl 1) := by unfold Hid; rw [HR.out, if_pos (Or.inl c2)]
        have h4 := r3.one (by omega)
        go_wp2
        go_loopw [4] (fun i wr => ∃ i' : Nat, i = .int .i64 (i' : Int) ∧ wr = w3) (fun _ _ => 0)
        case atStart => exact ⟨0, rfl, rfl⟩
        case round =>
          obtain ⟨i', rfl, rfl⟩ := hrel
          go_wp2
          all_goals
            go_end0
            exact ⟨rfl, IT.ofBT T3, by rw [HE.out]; exact h4⟩
      · have c2' : 8 * k0 + 16 + 16 ≤ 8 * s.size := by omega
        have h4 := r3.zero c2'
        have f4 := r3.fr 4
        by_cases c3 : m = 65535 - n
        · have c3' : ((m : Int) != 65535 - (n : Int)) = false := by simp; omega
          obtain ⟨k, hk⟩ : ∃ k, k = k0 + 4 := ⟨_, rfl⟩
          have hh := HR.out
          rw [if_neg (by omega), ← hk] at hh
          have HR' : Hid (R = _) := hh
          clear HR hh
          rw [show 8 * k0 + 16 + 16 = 8 * k by omega] at ref3
          have hfew := ref3.few
          have kle : k ≤ s.size := by omega
          clear c3
          go_wp2
          go_loopw [4] (fun i wr => ∃ i' : Nat, i' ≤ n ∧ i = .int .i64 (i' : Int) ∧ IT b w wr ∧ (Ref wr b s (8 * (k + i')) (out ++ (s.data.toList.drop k).take i') M ∧ i' ≤ s.size - k ∧ i' ≤ most - out.length ∨ ∃ e : Nat, 1 ≤ e ∧ Hid (R = .inl e) ∧ wr.cell? ⟨b, 4, none⟩ = some (.int .i64 (e : Int)))) (fun i _ => n - (intOf i).toNat)
          case atStart => exact ⟨0, by omega, rfl, IT.ofBT T3, Or.inl ⟨by simpa using ref3, by omega, by omega⟩⟩
          case round =>
            clear T3 ref3 h4 f4 r3
            obtain ⟨i, hin, rfl, hit, hst⟩ := hrel
            have len : ((s.data.toList.drop k).take i).length ≤ i := List.length_take_le _ _
            rcases hst with ⟨ref, i1, i2⟩ | ⟨e, he, HE, h4⟩
            · have len2 := take_len s k i (by omega)
              have rl : (out ++ (s.data.toList.drop k).take i).length = out.length + i := by rw [List.length_append, len2]
              have h4 := ref.rb.zero (by omega)
              by_cases hlt : i < n
              · obtain ⟨v, hv⟩ : ∃ v, v = numAt s (8 * (k + i)) 8 := ⟨_, rfl⟩
                have bv := numAt_lt s (8 * (k + i)) 8
                rw [← hv] at bv
                have bv' : v < 256 := bv
                have HV : Hid (v = numAt s (8 * (k + i)) 8) := hv
                by_cases hin2 : k + i < s.size
                · have hc : (v : Int) = (s[k + i].toNat : Int) := by rw [hv, num8 s (k + i) hin2]
                  have HC : Hid ((v : Int) = (s[k + i].toNat : Int)) := hc
                  clear hv hc bv
                  by_cases hroom : ((out.length + i : Nat) : Int) < M
                  · go_wp2_with (first | (go_at_call 160; refine (rnumber_i wr b s (8 * (k + i)) 8 v _ rfl HV.out (by omega) hs ref.rb).mono ?_; rintro e w4 ⟨rfl, r4, t4⟩; have ref4 := ref.read r4 t4 (by omega)) | (go_at_call 230; refine (give_ok_i b w4 s _ _ M s[k + i] _ HC.out ref4 (by omega) hs (by rw [rl]; exact hroom) (by rw [rl]; omega)).mono ?_; rintro e w5 ⟨rfl, ref5, t5⟩))
                    go_roundw
                    case rel =>
                      refine ⟨i + 1, by omega, by go_num, (hit.trans (IT.ofBT t4)).trans t5, Or.inl ⟨?_, by omega, by omega⟩⟩
                      rw [take_more s k i hin2, ← List.append_assoc, show 8 * (k + (i + 1)) = 8 * (k + i) + 8 by omega]; exact ref5
                    case measure => simp [intOf]; omega
                  · have HE : Hid (R = .inl 2) := by unfold Hid; rw [HR'.out, if_neg (by omega), if_neg (by omega)]
                    go_wp2_with (first | (go_at_call 160; refine (rnumber_i wr b s (8 * (k + i)) 8 v _ rfl HV.out (by omega) hs ref.rb).mono ?_; rintro e w4 ⟨rfl, r4, t4⟩; have ref4 := ref.read r4 t4 (by omega)) | (go_at_call 230; refine (give_full b w4 s _ _ M _ ref4 (by omega) (by rw [rl]; omega)).mono ?_; rintro e w5 ⟨rfl, h5, t5⟩))
                    go_roundw
                    case rel => exact ⟨i + 1, by omega, by go_num, (hit.trans (IT.ofBT t4)).trans t5, Or.inr ⟨2, by omega, HE, h5⟩⟩
                    case measure => simp [intOf]; omega
                · have HE : Hid (R = .inl 1) := by unfold Hid; rw [HR'.out, if_neg (by omega), if_pos (by omega)]
                  clear hv bv
                  go_wp2_with (first | (go_at_call 160; refine (rnumber_i wr b s (8 * (k + i)) 8 v _ rfl HV.out (by omega) hs ref.rb).mono ?_; rintro e w4 ⟨rfl, r4, t4⟩; have h5 := r4.one (by omega)) | (go_at_call 230; refine (give_no b w4 1 _ h5 (by decide)).mono ?_; rintro e w5 ⟨rfl, d5, rfl⟩))
                  go_roundw
                  case rel => exact ⟨i + 1, by omega, by go_num, (hit.trans (IT.ofBT t4)).drewN _, Or.inr ⟨1, by omega, HE, h5⟩⟩
                  case measure => simp [intOf]; omega
              · obtain rfl : i = n := by omega
                have HE : Hid (R = .inr (out ++ (s.data.toList.drop k).take i, 8 * (k + i))) := by unfold Hid; rw [HR'.out, if_pos ⟨i1, i2⟩]
                go_wp2
                go_end0
                exact ⟨rfl, hit, by rw [HE.out]; exact ref⟩
            · have e0 : ((e : Int) == 0) = false := by simp; omega
              go_wp2
              all_goals
                go_end0
                exact ⟨rfl, hit, by rw [HE.out]; exact h4⟩
        · have c3' : ¬ (m : Int) = 65535 - (n : Int) := by omega
          have HE : Hid (R = .inl 1) := by unfold Hid; rw [HR.out, if_pos (Or.inr c3)]
          have h4' : (w3.setCell ⟨b, 4, none⟩ (.int .i64 1)).cell? ⟨b, 4, none⟩ = some (.int .i64 1) := by simp [cell_set_if, h4]
          go_wp2_with (go_at_call 165; refine (fail_c _ b 1 h4 f4).mono ?_; rintro e w4 ⟨rfl, rfl⟩)
          go_loopw [4] (fun i wr => ∃ i' : Nat, i = .int .i64 (i' : Int) ∧ wr = w3.setCell ⟨b, 4, none⟩ (.int .i64 1)) (fun _ _ => 0)
          case atStart => exact ⟨0, rfl, rfl⟩
          case round =>
            obtain ⟨i', rfl, rfl⟩ := hrel
            go_wp2
            all_goals
              go_end0
              exact ⟨rfl, IT.ofBT (T3.set 4 (Or.inr rfl) _), by rw [HE.out]; exact h4'⟩
    · have e1 : ¬ (q : Int) % 8 = 0 := by omega
      go_wp2
      go_roundw
      case rel =>
        have e2 : (q : Int) + 1 = ((q + 1 : Nat) : Int) := by omega
        rw [e2]
        exact ⟨q + 1, by omega, by omega, hrb.one_on (by omega) (by omega), hbt.set 1 (Or.inl rfl) _⟩
      case measure =>
        have e2 : (q : Int) + 1 = ((q + 1 : Nat) : Int) := by omega
        rw [e2, (hrb.one_on (q := q + 1) (by omega) (by omega)).atOf (by omega), hrb.atOf (by omega)]
        omega
end Go.Proofs.YtobfkhapeejkfaaGreatDoor
