/- The document's answer: the next code's number. -/
import Derived.Test.YtobfkhapeejkfaaGreatDoorRCode
namespace Go.Proofs.YtobfkhapeejkfaaGreatDoor
open Go.RowKit
set_option linter.unusedSimpArgs false
set_option linter.unusedVariables false

/-- What 'next' answers. -/
def nextPost (b : Nat) (s : ByteArray) (w : World) (r : Option (Nat × Nat)) (e : Ending) (w' : World) : Prop :=
  BT b w w' ∧ match r with
  | none => e = .returned (.int .i64 (-1)) ∧ w'.cell? ⟨b, 4, none⟩ = some (.int .i64 1)
  | some (k, q) => e = .returned (.int .i64 (k : Int)) ∧ RB w' b s q

set_option maxHeartbeats 400000 in
theorem fail_no (w : World) (b : Nat) (k e : Int) (h4 : w.cell? ⟨b, 4, none⟩ = some (.int .i64 e)) (he : e ≠ 0) :
    Calls Tryz.prog 165 #[.pointer (some ⟨b, 0, none⟩), .int .i64 k] w fun e w' => e = .returned (.tuple #[]) ∧ w = w' := by
  have he' : (e == 0) = false := by simp; omega
  go_enter Tryz.func165, Tryz.ntmps165
  go_wp2
  go_end0
  exact ⟨rfl, rfl⟩

theorem BT.owns {b : Nat} {w w' : World} (h : BT b w w') {base : Nat} {e : TypeId} {size : Nat} {v : Value} {n : Nat} {xs : List Value} (ho : w.ownsRow base e size v n xs) (hs : ∀ k, v.ownBlock = some k → k ≠ b) : w'.ownsRow base e size v n xs :=
  h.t.owns ho (fun k hk e => hs k hk e)

theorem RB.zero {w : World} {b : Nat} {s : ByteArray} {p : Nat} (h : RB w b s p) (hp : p ≤ 8 * s.size) : w.cell? ⟨b, 4, none⟩ = some (.int .i64 0) := by
  have := h.c4; rw [if_pos hp] at this; exact this
theorem RB.one {w : World} {b : Nat} {s : ByteArray} {p : Nat} (h : RB w b s p) (hp : 8 * s.size < p) : w.cell? ⟨b, 4, none⟩ = some (.int .i64 1) := by
  have := h.c4; rw [if_neg (by omega)] at this; exact this

set_option maxRecDepth 100000 in
set_option maxHeartbeats 4000000 in
theorem rnext_c (w : World) (b base : Nat) (s : ByteArray) (p : Nat) (L : List Nat) (v : Value) (hL : L.length ≤ 400) (hs : s.size ≤ 2147483648) (h : RB w b s p)
    (ho : w.ownsRow base 333 3 v (codesAt L 16).length (flat3 (codesAt L 16))) (hne : ∀ k, v.ownBlock = some k → k ≠ b) :
    Calls Tryz.prog 233 #[.pointer (some ⟨b, 0, none⟩), v] w (nextPost b s w (dec L s p)) := by
  obtain ⟨ao, kc, rfl⟩ := owned_slice ho
  obtain ⟨m, hm⟩ : ∃ m, m = (codesAt L 16).length := ⟨_, rfl⟩
  have HM : Hid (m = (codesAt L 16).length) := hm
  have mb : m ≤ 6400 := by rw [hm, codesAt_len]; exact placeOf_bd L hL 16 (by omega)
  rw [← hm] at ho hne ⊢
  clear hm
  go_enter Tryz.func233, Tryz.ntmps233
  go_wp2
  go_loopw [5, 6] (fun x i wr => ∃ k y : Nat, k ≤ 15 ∧ i = .int .i64 (k : Int) ∧ x = .int .i64 (y : Int) ∧ y < 65536 ∧ RB wr b s (p + k) ∧ BT b w wr ∧ Hid (y < 2 ^ k) ∧ Hid (dec L s p = decGo L s p (15 - k) k y)) (fun _ i _ => 15 - (intOf i).toNat)
  case atStart => exact ⟨0, 0, by omega, rfl, rfl, by omega, h, BT.refl _ _, (by unfold Hid; decide), rfl⟩
  case round =>
    obtain ⟨k, y, hk, rfl, rfl, hyb, hrb, hbt, HP, HK⟩ := hrel
    by_cases hlt : k < 15
    · have d15 : (k : Int) < 15 := by omega
      obtain ⟨t, ht⟩ : ∃ t, t = bitOf s (p + k) := ⟨_, rfl⟩
      have tb := bitOf_lt s (p + k)
      rw [← ht] at tb
      have HT : Hid (bitOf s (p + k) = t) := ht.symm
      have HD : Hid (decGo L s p (15 - k) k y = if 8 * s.size < p + k + 1 then none else if firstOf L (k + 1) ≤ 2 * y + t ∧ 2 * y + t < firstOf L (k + 1) + cnt L (k + 1) then some (nth L (k + 1) (2 * y + t - firstOf L (k + 1)), p + k + 1) else decGo L s p (15 - (k + 1)) (k + 1) (2 * y + t)) := by
        obtain ⟨f, hf⟩ : ∃ f, 15 - k = f + 1 := ⟨14 - k, by omega⟩
        rw [show 15 - (k + 1) = f by omega, hf, ht]; rfl
      have HP2 : Hid (2 * y + t < 2 ^ (k + 1)) := by unfold Hid; exact pow_step HP.out tb
      clear ht
      by_cases hend : 8 * s.size < p + k + 1
      · have HE : Hid (dec L s p = none) := by unfold Hid; rw [HK.out, HD.out, if_pos hend]
        go_wp2_with (go_at_call 159; refine (rbit_v _ b s (p + k) t HT.out hs hrb).mono ?_; rintro e w1 ⟨rfl, r1, t1⟩; have h4 := r1.one (by omega))
        go_ret
        refine ⟨hbt.trans t1, ?_⟩
        rw [HE.out]; exact ⟨rfl, h4⟩
      · have hp8 : p + k + 1 ≤ 8 * s.size := by omega
        obtain ⟨z, hz⟩ : ∃ z, z = 2 * y + t := ⟨_, rfl⟩
        have hzi : 2 * (y : Int) + (t : Int) = (z : Int) := by omega
        have zb : z < 65536 := by
          have := HP2.out
          have h2 : 2 ^ (k + 1) ≤ 2 ^ 16 := Nat.pow_le_pow_right (by omega) (by omega)
          omega
        rw [← hz] at HD HP2
        clear hz
        go_wp2_with (go_at_call 159; refine (rbit_v _ b s (p + k) t HT.out hs hrb).mono ?_; rintro e w1 ⟨rfl, r1, t1⟩; have h4 := r1.zero hp8; have o1 := (hbt.trans t1).owns ho hne)
        go_loop [7] (fun i => ∃ j : Nat, j ≤ m ∧ i = .int .i64 (j : Int) ∧ Hid (∀ j' a n y', j' < j → (codesAt L 16)[j']? = some (a, n, y') → ¬ (n = k + 1 ∧ y' = z))) (fun i => m - (intOf i).toNat)
        case atStart => exact ⟨0, by omega, rfl, by unfold Hid; intro j' a n y' hj; omega⟩
        case round =>
          obtain ⟨j, hj, rfl, HJ⟩ := hrel
          by_cases hjm : j < m
          · obtain ⟨g, kc', e0, hg⟩ := owned_some o1 (by omega)
            cases e0
            have hj' : j < (codesAt L 16).length := by rw [← HM.out]; exact hjm
            obtain ⟨⟨a, n, y'⟩, hat⟩ : ∃ x, (codesAt L 16)[j]? = some x := ⟨_, List.getElem?_eq_getElem hj'⟩
            obtain ⟨f0, f1, f2⟩ := flat3_at _ _ _ _ _ hat
            have q0 : w1.cell? ⟨g, j * 3, none⟩ = some (.int .i64 (a : Int)) := (o1.cellAt _ (by omega)).trans f0
            have q1 : w1.cell? ⟨g, j * 3 + 1, none⟩ = some (.int .i64 (n : Int)) := (o1.cellAt _ (by omega)).trans f1
            have q2 : w1.cell? ⟨g, j * 3 + 2, none⟩ = some (.int .i64 (y' : Int)) := (o1.cellAt _ (by omega)).trans f2
            have HAT : Hid ((codesAt L 16)[j]? = some (a, n, y')) := hat
            clear f0 f1 f2 hat hj'
            by_cases hn : n = k + 1
            · have hn' : ((n : Int) == (k : Int) + 1) = true := by simp; omega
              by_cases hy : y' = z
              · have hy' : ((y' : Int) == (z : Int)) = true := by simp; omega
                have HE : Hid (dec L s p = some (a, p + k + 1)) := by
                  obtain ⟨hm1, r, hr, ha, hyy⟩ := (codesAt_mem L 16 a n y').1 (List.mem_of_getElem? HAT.out)
                  subst hn
                  unfold Hid
                  rw [HK.out, HD.out, if_neg hend, if_pos ⟨by omega, by omega⟩, ha]
                  congr 3; omega
                go_wp2
                go_ret
                refine ⟨hbt.trans t1, ?_⟩
                rw [HE.out]; exact ⟨rfl, r1⟩
              · have hy' : ((y' : Int) == (z : Int)) = false := by simp; omega
                go_wp2
                go_round
                case rel => exact ⟨j + 1, by omega, by go_num, by
                  unfold Hid
                  intro j' a' n' y'' hj2 h2
                  by_cases ej : j' = j
                  · subst ej; rw [HAT.out] at h2; cases h2; omega
                  · exact HJ.out j' a' n' y'' (by omega) h2⟩
                case measure => simp [intOf]; omega
            · have hn' : ((n : Int) == (k : Int) + 1) = false := by simp; omega
              go_wp2
              go_round
              case rel => exact ⟨j + 1, by omega, by go_num, by
                  unfold Hid
                  intro j' a' n' y'' hj2 h2
                  by_cases ej : j' = j
                  · subst ej; rw [HAT.out] at h2; cases h2; omega
                  · exact HJ.out j' a' n' y'' (by omega) h2⟩
              case measure => simp [intOf]; omega
          · obtain rfl : j = m := by omega
            have HE : Hid (dec L s p = decGo L s p (15 - (k + 1)) (k + 1) z) := by
              unfold Hid
              rw [HK.out, HD.out, if_neg hend, if_neg]
              rintro ⟨h1, h2⟩
              have hmem := (codesAt_mem L 16 (nth L (k + 1) (z - firstOf L (k + 1))) (k + 1) z).2 ⟨by omega, z - firstOf L (k + 1), by omega, rfl, by omega⟩
              obtain ⟨j', hj2, e2⟩ := List.mem_iff_getElem.1 hmem
              refine HJ.out j' _ _ _ (by rw [HM.out]; exact hj2) (by rw [List.getElem?_eq_getElem hj2, e2]) ⟨rfl, rfl⟩
            go_wp2
            go_roundw
            case rel => exact ⟨k + 1, z, by omega, by go_num, rfl, zb, r1, hbt.trans t1, HP2, HE⟩
            case measure => simp [intOf]; omega
    · obtain rfl : k = 15 := by omega
      have HE : Hid (dec L s p = none) := by unfold Hid; rw [HK.out]; rfl
      by_cases hp15 : p + 15 ≤ 8 * s.size
      · have h4 := hrb.zero hp15
        go_wp2_with (go_at_call 165; refine (fail_c _ b 1 h4 (hrb.fr 4)).mono ?_; rintro e w1 ⟨rfl, rfl⟩)
        go_ret
        refine ⟨hbt.set 4 (Or.inr rfl) _, ?_⟩
        rw [HE.out]
        exact ⟨rfl, by simp [cell_set_if, h4]⟩
      · have h4 := hrb.one (by omega)
        go_wp2_with (go_at_call 165; refine (fail_no _ b 1 1 h4 (by decide)).mono ?_; rintro e w1 ⟨rfl, rfl⟩)
        go_ret
        refine ⟨hbt, ?_⟩
        rw [HE.out]
        exact ⟨rfl, h4⟩
end Go.Proofs.YtobfkhapeejkfaaGreatDoor
