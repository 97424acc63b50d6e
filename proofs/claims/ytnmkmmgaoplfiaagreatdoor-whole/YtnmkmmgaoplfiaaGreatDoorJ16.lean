/- Texts of this seat, joined. -/
import Derived.Test.YtnmkmmgaoplfiaaGreatDoorJ14
import Derived.Test.YtnmkmmgaoplfiaaGreatDoorJ15
import Derived.Deep.RegionHeld3
set_option linter.unusedSimpArgs false
set_option linter.unusedVariables false
set_option maxRecDepth 100000
set_option maxHeartbeats 20000000
namespace Go.Proofs.YtnmkmmgaoplfiaaGreatDoor
open Go.RowKit
def rangedOf (s : ByteArray) (p idx group : Nat) : Nat × Nat :=
 if idx < 2 * group then (idx, p) else ((group + idx % group) * 2 ^ (idx / group - 1) + numAt s p (idx / group - 1), p + (idx / group - 1))
theorem ranged_4 (w : World) (b : Nat) (s : ByteArray) (p idx : Nat) (hi : idx ≤ 30) (hs : s.size ≤ maxLen) (hr : Rd w b s p) :
  Calls Tryz.prog 135 #[.pointer (some ⟨b, 0, none⟩), .int .i64 (idx : Int), .int .i64 4] w fun e w' => e = .returned (.int .i64 ((rangedOf s p idx 4).1 : Nat)) ∧ Rd w' b s (rangedOf s p idx 4).2 ∧ RN b w w' := by
 by_cases hlt : idx < 2 * 4
 ·have HE : Hid (rangedOf s p idx 4 = (idx, p)) := by unfold Hid rangedOf; rw [if_pos hlt]
  go_enter Tryz.func135, Tryz.ntmps135
  go_wp2
  go_ret
  rw [HE.out]
  exact ⟨rfl, hr, RN.refl _ _⟩
 ·obtain ⟨q, hq⟩ : ∃ q, q = idx / 4 - 1 := ⟨_, rfl⟩
  obtain ⟨r, hrr⟩ : ∃ r, r = idx % 4 := ⟨_, rfl⟩
  have HE : Hid (rangedOf s p idx 4 = ((4 + r) * 2 ^ q + numAt s p q, p + q)) := by unfold Hid rangedOf; rw [if_neg hlt, ← hq, ← hrr]
  have hq14 : q ≤ 14 := by omega
  have hr4 : r ≤ 3 := by omega
  have k1 : (idx : Int) / 4 - 1 = (q : Int) := by omega
  have k2 : (idx : Int) % 4 = (r : Int) := by omega
  have k3 : (idx : Int).tmod 4 = (r : Int) := by rw [Int.tmod_eq_emod_of_nonneg (by omega)]; exact k2
  clear hq hrr
  have p2 : 2 ^ q ≤ 2 ^ 14 := Nat.pow_le_pow_right (by omega) hq14
  have n2 := numAt_lt s p q
  have wr1 : ∀ n : Int, 0 ≤ n → n < 4611686018427387904 → IntKind.i64.wrap n = n := by intro n h0 h1; simp [IntKind.wrap, IntKind.bits, IntKind.signed]; omega
  have k4 : IntKind.i64.wrap (r : Int) = (r : Int) := wr1 _ (by omega) (by omega)
  have k5 : IntKind.i64.wrap (4 + (r : Int)) = 4 + (r : Int) := wr1 _ (by omega) (by omega)
  have m1 : (4 + r) * 2 ^ q ≤ 7 * 2 ^ 14 := Nat.mul_le_mul (by omega) p2
  obtain ⟨X, hX⟩ : ∃ X, X = (4 + r) * 2 ^ q := ⟨_, rfl⟩
  rw [← hX] at m1 HE
  have k6 : (4 + (r : Int)) * 2 ^ q = (X : Int) := by rw [hX]; push_cast; rfl
  clear hX
  have k7 : IntKind.i64.wrap (X : Int) = (X : Int) := wr1 _ (by omega) (by omega)
  have k8 : IntKind.i64.wrap ((X : Int) + ((numAt s p q : Nat) : Int)) = (X : Int) + ((numAt s p q : Nat) : Int) := wr1 _ (by omega) (by omega)
  have k9 : (0 : Int) ≤ (q : Int) := by omega
  have k10 : ¬ (q : Int) < 0 := by omega
  clear wr1
  go_enter Tryz.func135, Tryz.ntmps135
  go_wp2
  go_region_held3 (fun _ => True) (trivial) (first | (go_at_call 62; refine (number_i b w.drew s p q _ rfl (by omega) hs hr.drew).mono ?_; rintro e w3 ⟨rfl, hrd3, hrt3⟩))
  all_goals go_wp2
  all_goals go_ret
  all_goals rw [HE.out]
  all_goals exact ⟨by go_light; simp, hrd3, ((RN.refl b w).drew).trans hrt3.rn⟩
theorem ranged_2 (w : World) (b : Nat) (s : ByteArray) (p idx : Nat) (hi : idx ≤ 30) (hs : s.size ≤ maxLen) (hr : Rd w b s p) :
  Calls Tryz.prog 135 #[.pointer (some ⟨b, 0, none⟩), .int .i64 (idx : Int), .int .i64 2] w fun e w' => e = .returned (.int .i64 ((rangedOf s p idx 2).1 : Nat)) ∧ Rd w' b s (rangedOf s p idx 2).2 ∧ RN b w w' := by
 by_cases hlt : idx < 2 * 2
 ·have HE : Hid (rangedOf s p idx 2 = (idx, p)) := by unfold Hid rangedOf; rw [if_pos hlt]
  go_enter Tryz.func135, Tryz.ntmps135
  go_wp2
  go_ret
  rw [HE.out]
  exact ⟨rfl, hr, RN.refl _ _⟩
 ·obtain ⟨q, hq⟩ : ∃ q, q = idx / 2 - 1 := ⟨_, rfl⟩
  obtain ⟨r, hrr⟩ : ∃ r, r = idx % 2 := ⟨_, rfl⟩
  have HE : Hid (rangedOf s p idx 2 = ((2 + r) * 2 ^ q + numAt s p q, p + q)) := by unfold Hid rangedOf; rw [if_neg hlt, ← hq, ← hrr]
  have hq14 : q ≤ 14 := by omega
  have hr4 : r ≤ 3 := by omega
  have k1 : (idx : Int) / 2 - 1 = (q : Int) := by omega
  have k2 : (idx : Int) % 2 = (r : Int) := by omega
  have k3 : (idx : Int).tmod 2 = (r : Int) := by rw [Int.tmod_eq_emod_of_nonneg (by omega)]; exact k2
  clear hq hrr
  have p2 : 2 ^ q ≤ 2 ^ 14 := Nat.pow_le_pow_right (by omega) hq14
  have n2 := numAt_lt s p q
  have wr1 : ∀ n : Int, 0 ≤ n → n < 4611686018427387904 → IntKind.i64.wrap n = n := by intro n h0 h1; simp [IntKind.wrap, IntKind.bits, IntKind.signed]; omega
  have k4 : IntKind.i64.wrap (r : Int) = (r : Int) := wr1 _ (by omega) (by omega)
  have k5 : IntKind.i64.wrap (2 + (r : Int)) = 2 + (r : Int) := wr1 _ (by omega) (by omega)
  have m1 : (2 + r) * 2 ^ q ≤ 7 * 2 ^ 14 := Nat.mul_le_mul (by omega) p2
  obtain ⟨X, hX⟩ : ∃ X, X = (2 + r) * 2 ^ q := ⟨_, rfl⟩
  rw [← hX] at m1 HE
  have k6 : (2 + (r : Int)) * 2 ^ q = (X : Int) := by rw [hX]; push_cast; rfl
  clear hX
  have k7 : IntKind.i64.wrap (X : Int) = (X : Int) := wr1 _ (by omega) (by omega)
  have k8 : IntKind.i64.wrap ((X : Int) + ((numAt s p q : Nat) : Int)) = (X : Int) + ((numAt s p q : Nat) : Int) := wr1 _ (by omega) (by omega)
  have k9 : (0 : Int) ≤ (q : Int) := by omega
  have k10 : ¬ (q : Int) < 0 := by omega
  clear wr1
  go_enter Tryz.func135, Tryz.ntmps135
  go_wp2
  go_region_held3 (fun _ => True) (trivial) (first | (go_at_call 62; refine (number_i b w.drew s p q _ rfl (by omega) hs hr.drew).mono ?_; rintro e w3 ⟨rfl, hrd3, hrt3⟩))
  all_goals go_wp2
  all_goals go_ret
  all_goals rw [HE.out]
  all_goals exact ⟨by go_light; simp, hrd3, ((RN.refl b w).drew).trans hrt3.rn⟩
end Go.Proofs.YtnmkmmgaoplfiaaGreatDoor
namespace Go.Proofs.YtnmkmmgaoplfiaaGreatDoor
open Go.RowKit
def lengthOf (s : ByteArray) (q x : Nat) : Nat × Nat := if x = 285 then (258, q) else (3 + (rangedOf s q (x - 257) 4).1, (rangedOf s q (x - 257) 4).2)
def copyStep (D : List Nat) (s : ByteArray) (q : Nat) (out : List UInt8) (most x : Nat) : Sum Nat (List UInt8 × Nat) :=
 if 285 < x then .inl 1 else
 match dec D s (lengthOf s q x).2 with
 | none => .inl 1
 | some (y, q2) =>
  if 29 < y then .inl 1
  else if 8 * s.size < (rangedOf s q2 y 2).2 ∨ out.length < 1 + (rangedOf s q2 y 2).1 then .inl 1
  else if most < out.length + (lengthOf s q x).1 then .inl 2
  else .inr (copyOf out (out.length - (1 + (rangedOf s q2 y 2).1)) (1 + (rangedOf s q2 y 2).1) (lengthOf s q x).1, (rangedOf s q2 y 2).2)
def infPost (b : Nat) (s : ByteArray) (most : Nat) (w : World) (r : Sum Nat (List UInt8 × Nat)) (e : Ending) (w' : World) : Prop :=
 IT b w w' ∧ match r with
 | .inl k => e = .returned (.int .i64 (k : Int))
 | .inr (out, q) => e = .returned (.int .i64 0) ∧ Inf w' b s q out most
theorem rangedOf_le (s : ByteArray) (p idx group : Nat) : p ≤ (rangedOf s p idx group).2 := by
 unfold rangedOf; split
 ·exact Nat.le_refl _
 ·exact Nat.le_add_right _ _
theorem rangedOf4_bd (s : ByteArray) (p idx : Nat) (h : idx ≤ 27) : (rangedOf s p idx 4).1 ≤ 255 := by
 unfold rangedOf
 by_cases h1 : idx < 2 * 4
 ·rw [if_pos h1]; show idx ≤ 255; omega
 ·rw [if_neg h1]
  show (4 + idx % 4) * 2 ^ (idx / 4 - 1) + numAt s p (idx / 4 - 1) ≤ 255
  have n2 := numAt_lt s p (idx / 4 - 1)
  have h2 : idx / 4 - 1 ≤ 5 := by omega
  have p2 : 2 ^ (idx / 4 - 1) ≤ 2 ^ 5 := Nat.pow_le_pow_right (by omega) h2
  have m1 : (4 + idx % 4) * 2 ^ (idx / 4 - 1) ≤ 7 * 2 ^ (idx / 4 - 1) := Nat.mul_le_mul_right _ (by omega)
  generalize 2 ^ (idx / 4 - 1) = z at *
  generalize (4 + idx % 4) * z = u at *
  omega
theorem rangedOf2_bd (s : ByteArray) (p idx : Nat) (h : idx ≤ 30) : (rangedOf s p idx 2).1 ≤ 65536 := by
 unfold rangedOf
 by_cases h1 : idx < 2 * 2
 ·rw [if_pos h1]; show idx ≤ 65536; omega
 ·rw [if_neg h1]
  show (2 + idx % 2) * 2 ^ (idx / 2 - 1) + numAt s p (idx / 2 - 1) ≤ 65536
  have n2 := numAt_lt s p (idx / 2 - 1)
  have h2 : idx / 2 - 1 ≤ 14 := by omega
  have p2 : 2 ^ (idx / 2 - 1) ≤ 2 ^ 14 := Nat.pow_le_pow_right (by omega) h2
  have m1 : (2 + idx % 2) * 2 ^ (idx / 2 - 1) ≤ 3 * 2 ^ (idx / 2 - 1) := Nat.mul_le_mul_right _ (by omega)
  generalize 2 ^ (idx / 2 - 1) = z at *
  generalize (2 + idx % 2) * z = u at *
  omega
theorem ranged_4i (w : World) (b : Nat) (s : ByteArray) (p idx : Nat) (N : Int) (hN : N = (idx : Int)) (R : Nat × Nat) (hR : rangedOf s p idx 4 = R) (hi : idx ≤ 30) (hs : s.size ≤ maxLen) (hr : Rd w b s p) :
  Calls Tryz.prog 135 #[.pointer (some ⟨b, 0, none⟩), .int .i64 N, .int .i64 4] w fun e w' => e = .returned (.int .i64 (R.1 : Int)) ∧ Rd w' b s R.2 ∧ RN b w w' := by
 subst hN hR; exact ranged_4 w b s p idx hi hs hr
theorem ranged_2i (w : World) (b : Nat) (s : ByteArray) (p idx : Nat) (N : Int) (hN : N = (idx : Int)) (R : Nat × Nat) (hR : rangedOf s p idx 2 = R) (hi : idx ≤ 30) (hs : s.size ≤ maxLen) (hr : Rd w b s p) :
  Calls Tryz.prog 135 #[.pointer (some ⟨b, 0, none⟩), .int .i64 N, .int .i64 2] w fun e w' => e = .returned (.int .i64 (R.1 : Int)) ∧ Rd w' b s R.2 ∧ RN b w w' := by
 subst hN hR; exact ranged_2 w b s p idx hi hs hr
theorem copy_ok_i (b : Nat) (w : World) (s : ByteArray) (p : Nat) (out : List UInt8) (most : Nat) (place d n : Nat) (PL NN : Int) (hPL : PL = (place : Int)) (hNN : NN = (n : Int)) (h : Inf w b s p out most) (hd : 0 < d) (hp : place + d = out.length) (hn : n ≤ 258) (hroom : out.length + n ≤ most) (hfew : out.length + n ≤ 258 * p) (hpp : p ≤ 17179869184) :
  Calls Tryz.prog 136 #[.pointer (some ⟨b, 0, none⟩), .int .i64 PL, .int .i64 NN] w fun e w' => e = .returned (.int .i64 0) ∧ Inf w' b s p (copyOf out place d n) most ∧ IT b w w' := by
 subst hPL hNN; exact copy_ok b w s p out most place d n h hd hp hn hroom hfew hpp
theorem copy_much_i (b : Nat) (w : World) (s : ByteArray) (p : Nat) (out : List UInt8) (most : Nat) (place d n : Nat) (PL NN : Int) (hPL : PL = (place : Int)) (hNN : NN = (n : Int)) (h : Inf w b s p out most) (hd : 0 < d) (hp : place + d = out.length) (hn : n ≤ 258) (hroom : most < out.length + n) (hfew : out.length + n ≤ 258 * p) (hpp : p ≤ 17179869184) :
  Calls Tryz.prog 136 #[.pointer (some ⟨b, 0, none⟩), .int .i64 PL, .int .i64 NN] w fun e w' => e = .returned (.int .i64 2) ∧ IT b w w' := by
 subst hPL hNN; exact copy_much b w s p out most place d n h hd hp hn hroom hfew hpp
theorem earlier_c (b : Nat) (w : World) (s : ByteArray) (q : Nat) (out : List UInt8) (most x cb off nb cp : Nat) (D : List Nat) (hs : s.size ≤ 2147483648) (h : Inf w b s q out most) (hx : 257 ≤ x) (hx2 : x ≤ 287) (hc : IsCode w cb off nb cp D) (h1 : cb ≠ b) (h2 : nb ≠ b) (hfew : out.length + 258 ≤ 258 * q) :
  Calls Tryz.prog 120 #[.pointer (some ⟨b, 0, none⟩), .int .i64 (x : Int), .pointer (some ⟨cb, off, none⟩)] w (infPost b s most w (copyStep D s q out most x)) := by
 have hsm : s.size ≤ maxLen := by unfold maxLen; omega
 obtain ⟨R, hR⟩ : ∃ R, R = copyStep D s q out most x := ⟨_, rfl⟩
 have HR : Hid (R = copyStep D s q out most x) := hR
 rw [← hR]
 clear hR
 unfold copyStep at HR
 have hlt := h.lt
 by_cases c1 : 285 < x
 ·have HE : Hid (R = .inl 1) := by unfold Hid; rw [HR.out, if_pos c1]
  go_enter Tryz.func120, Tryz.ntmps120
  go_wp2
  go_ret
  exact ⟨IT.refl _ _, by rw [HE.out]; rfl⟩
 ·have hh := HR.out
  rw [if_neg c1] at hh
  have HR' : Hid (R = _) := hh
  clear HR hh
  by_cases c2 : x = 285
  ·have HL : Hid (lengthOf s q x = (258, q)) := by unfold Hid lengthOf; rw [if_pos c2]
   go_enter Tryz.func120, Tryz.ntmps120
   go_wp2_with fail
   have hcw : IsCode w cb off nb cp D := hc.keep (RN.refl b w).t h1 h2
   cases hd : dec D s q with
   | none =>
    have HE : Hid (R = .inl 1) := by unfold Hid; rw [HR'.out, HL.out, hd]
    refine (next_none _ _ _ _ _ _ D s _ hsm hcw h.rd h1 h2 hd).mono ?_
    rintro e w2 ⟨rfl, t2⟩
    clear hd HR'
    go_wp2
    go_ret
    exact ⟨IT.ofRN ((RN.refl b w).trans t2.rn), by rw [HE.out]; rfl⟩
   | some yq =>
    obtain ⟨y, q2⟩ := yq
    have hy := dec_lt hd
    have hh := HR'.out
    rw [HL.out, hd] at hh
    have HR : Hid (R = _) := hh
    refine (next_some _ _ _ _ _ _ D s _ y q2 hsm hcw h.rd h1 h2 hd).mono ?_
    rintro e w2 ⟨rfl, r2, t2⟩
    clear hd HR' hh
    have RN2 := (RN.refl b w).trans t2.rn
    by_cases c3 : 29 < y
    ·have HE : Hid (R = .inl 1) := by unfold Hid; rw [HR.out]; show (if 29 < y then _ else _) = _; rw [if_pos c3]
     go_wp2
     go_ret
     exact ⟨IT.ofRN RN2, by rw [HE.out]; rfl⟩
    ·have hh := HR.out
     change R = (if 29 < y then _ else _) at hh
     rw [if_neg c3] at hh
     obtain ⟨R2, hR2⟩ : ∃ R2, rangedOf s q2 y 2 = R2 := ⟨_, rfl⟩
     have bd2 := rangedOf2_bd s q2 y (by omega)
     have le2 := rangedOf_le s q2 y 2
     rw [hR2] at hh bd2 le2
     have HR' : Hid (R = _) := hh
     have HR2 : Hid (rangedOf s q2 y 2 = R2) := hR2
     clear HR hh hR2
     have hy30 : y ≤ 30 := by omega
     go_wp2_with fail
     refine (ranged_2i w2 b s q2 y _ rfl R2 HR2.out hy30 hsm r2).mono ?_
     rintro e w3 ⟨rfl, r3, t3⟩
     have RN3 := RN2.trans t3
     have hin := h.read r3 RN3 (by omega)
     obtain ⟨ao, cap, h5, ho⟩ := hin.gv
     have z4 := r3.c4
     obtain ⟨f, hf⟩ : ∃ f, f = R2.1 := ⟨_, rfl⟩
     obtain ⟨q3, hq3⟩ : ∃ q3, q3 = R2.2 := ⟨_, rfl⟩
     have hh := HR'.out
     rw [← hf, ← hq3] at hh
     rw [← hf] at bd2 ⊢
     rw [← hq3] at le2 z4 hin
     have HR : Hid (R = _) := hh
     clear HR' hh hf hq3 HR2
     by_cases c4 : 8 * s.size < q3 ∨ out.length < 1 + f
     ·have HE : Hid (R = .inl 1) := by unfold Hid; rw [HR.out, if_pos c4]
      by_cases c5 : 8 * s.size < q3
      ·go_wp2
       go_ret
       exact ⟨IT.ofRN RN3, by rw [HE.out]; rfl⟩
      ·have c6 : out.length < 1 + f := by omega
       go_wp2
       go_ret
       exact ⟨IT.ofRN RN3, by rw [HE.out]; rfl⟩
     ·have c5 : ¬ 8 * s.size < q3 := by omega
      have c6 : 1 + f ≤ out.length := by omega
      have hh := HR.out
      rw [if_neg c4] at hh
      have HR' : Hid (R = _) := hh
      clear HR hh c4
      by_cases c7 : most < out.length + (258)
      ·have HE : Hid (R = .inl 2) := by unfold Hid; rw [HR'.out, if_pos c7]
       go_wp2_with fail
       refine (copy_much_i b w3 s q3 out most (out.length - (1 + f)) (1 + f) (258) _ _ (by omega) (by omega) hin (by omega) (by omega) (by omega) c7 (by omega) (by omega)).mono ?_
       rintro e w4 ⟨rfl, t4⟩
       go_wp2
       go_ret
       exact ⟨(IT.ofRN RN3).trans t4, by rw [HE.out]; rfl⟩
      ·have HE : Hid (R = .inr (copyOf out (out.length - (1 + f)) (1 + f) (258), q3)) := by unfold Hid; rw [HR'.out, if_neg c7]
       go_wp2_with fail
       refine (copy_ok_i b w3 s q3 out most (out.length - (1 + f)) (1 + f) (258) _ _ (by omega) (by omega) hin (by omega) (by omega) (by omega) (by omega) (by omega) (by omega)).mono ?_
       rintro e w4 ⟨rfl, i4, t4⟩
       go_wp2
       go_ret
       exact ⟨(IT.ofRN RN3).trans t4, by rw [HE.out]; exact ⟨rfl, i4⟩⟩
  ·have hx284 : x - 257 ≤ 27 := by omega
   obtain ⟨R4, hR4⟩ : ∃ R4, rangedOf s q (x - 257) 4 = R4 := ⟨_, rfl⟩
   have bd4 := rangedOf4_bd s q (x - 257) hx284
   have le4 := rangedOf_le s q (x - 257) 4
   rw [hR4] at bd4 le4
   have HL0 : Hid (lengthOf s q x = (3 + R4.1, R4.2)) := by unfold Hid lengthOf; rw [if_neg c2, hR4]
   have HR4 : Hid (rangedOf s q (x - 257) 4 = R4) := hR4
   clear hR4
   go_enter Tryz.func120, Tryz.ntmps120
   go_wp2_with fail
   refine (ranged_4i w b s q (x - 257) _ (by omega) R4 HR4.out (by omega) hsm h.rd).mono ?_
   rintro e w1 ⟨rfl, r1, t1⟩
   obtain ⟨l4, hl4⟩ : ∃ l4, l4 = R4.1 := ⟨_, rfl⟩
   obtain ⟨q1, hq1⟩ : ∃ q1, q1 = R4.2 := ⟨_, rfl⟩
   have hhl := HL0.out
   rw [← hl4, ← hq1] at hhl
   have HL : Hid (lengthOf s q x = (3 + l4, q1)) := hhl
   rw [← hl4] at bd4 ⊢
   rw [← hq1] at le4 r1
   clear HL0 HR4 hhl hl4 hq1
   go_wp2_with fail
   have hcw : IsCode w1 cb off nb cp D := hc.keep (t1).t h1 h2
   cases hd : dec D s q1 with
   | none =>
    have HE : Hid (R = .inl 1) := by unfold Hid; rw [HR'.out, HL.out, hd]
    refine (next_none _ _ _ _ _ _ D s _ hsm hcw r1 h1 h2 hd).mono ?_
    rintro e w2 ⟨rfl, t2⟩
    clear hd HR'
    go_wp2
    go_ret
    exact ⟨IT.ofRN ((t1).trans t2.rn), by rw [HE.out]; rfl⟩
   | some yq =>
    obtain ⟨y, q2⟩ := yq
    have hy := dec_lt hd
    have hh := HR'.out
    rw [HL.out, hd] at hh
    have HR : Hid (R = _) := hh
    refine (next_some _ _ _ _ _ _ D s _ y q2 hsm hcw r1 h1 h2 hd).mono ?_
    rintro e w2 ⟨rfl, r2, t2⟩
    clear hd HR' hh
    have RN2 := (t1).trans t2.rn
    by_cases c3 : 29 < y
    ·have HE : Hid (R = .inl 1) := by unfold Hid; rw [HR.out]; show (if 29 < y then _ else _) = _; rw [if_pos c3]
     go_wp2
     go_ret
     exact ⟨IT.ofRN RN2, by rw [HE.out]; rfl⟩
    ·have hh := HR.out
     change R = (if 29 < y then _ else _) at hh
     rw [if_neg c3] at hh
     obtain ⟨R2, hR2⟩ : ∃ R2, rangedOf s q2 y 2 = R2 := ⟨_, rfl⟩
     have bd2 := rangedOf2_bd s q2 y (by omega)
     have le2 := rangedOf_le s q2 y 2
     rw [hR2] at hh bd2 le2
     have HR' : Hid (R = _) := hh
     have HR2 : Hid (rangedOf s q2 y 2 = R2) := hR2
     clear HR hh hR2
     have hy30 : y ≤ 30 := by omega
     go_wp2_with fail
     refine (ranged_2i w2 b s q2 y _ rfl R2 HR2.out hy30 hsm r2).mono ?_
     rintro e w3 ⟨rfl, r3, t3⟩
     have RN3 := RN2.trans t3
     have hin := h.read r3 RN3 (by omega)
     obtain ⟨ao, cap, h5, ho⟩ := hin.gv
     have z4 := r3.c4
     obtain ⟨f, hf⟩ : ∃ f, f = R2.1 := ⟨_, rfl⟩
     obtain ⟨q3, hq3⟩ : ∃ q3, q3 = R2.2 := ⟨_, rfl⟩
     have hh := HR'.out
     rw [← hf, ← hq3] at hh
     rw [← hf] at bd2 ⊢
     rw [← hq3] at le2 z4 hin
     have HR : Hid (R = _) := hh
     clear HR' hh hf hq3 HR2
     by_cases c4 : 8 * s.size < q3 ∨ out.length < 1 + f
     ·have HE : Hid (R = .inl 1) := by unfold Hid; rw [HR.out, if_pos c4]
      by_cases c5 : 8 * s.size < q3
      ·go_wp2
       go_ret
       exact ⟨IT.ofRN RN3, by rw [HE.out]; rfl⟩
      ·have c6 : out.length < 1 + f := by omega
       go_wp2
       go_ret
       exact ⟨IT.ofRN RN3, by rw [HE.out]; rfl⟩
     ·have c5 : ¬ 8 * s.size < q3 := by omega
      have c6 : 1 + f ≤ out.length := by omega
      have hh := HR.out
      rw [if_neg c4] at hh
      have HR' : Hid (R = _) := hh
      clear HR hh c4
      by_cases c7 : most < out.length + (3 + l4)
      ·have HE : Hid (R = .inl 2) := by unfold Hid; rw [HR'.out, if_pos c7]
       go_wp2_with fail
       refine (copy_much_i b w3 s q3 out most (out.length - (1 + f)) (1 + f) (3 + l4) _ _ (by omega) (by omega) hin (by omega) (by omega) (by omega) c7 (by omega) (by omega)).mono ?_
       rintro e w4 ⟨rfl, t4⟩
       go_wp2
       go_ret
       exact ⟨(IT.ofRN RN3).trans t4, by rw [HE.out]; rfl⟩
      ·have HE : Hid (R = .inr (copyOf out (out.length - (1 + f)) (1 + f) (3 + l4), q3)) := by unfold Hid; rw [HR'.out, if_neg c7]
       go_wp2_with fail
       refine (copy_ok_i b w3 s q3 out most (out.length - (1 + f)) (1 + f) (3 + l4) _ _ (by omega) (by omega) hin (by omega) (by omega) (by omega) (by omega) (by omega) (by omega)).mono ?_
       rintro e w4 ⟨rfl, i4, t4⟩
       go_wp2
       go_ret
       exact ⟨(IT.ofRN RN3).trans t4, by rw [HE.out]; exact ⟨rfl, i4⟩⟩
end Go.Proofs.YtnmkmmgaoplfiaaGreatDoor
namespace Go.Proofs.YtnmkmmgaoplfiaaGreatDoor
open Go.RowKit
def codedGo (L D : List Nat) (s : ByteArray) (most : Nat) : Nat → Nat → List UInt8 → Sum Nat (List UInt8 × Nat)
 | 0, _, _ => .inl 1
 | f + 1, p, out =>
  match dec L s p with
  | none => .inl 1
  | some (x, q) =>
   if x = 256 then .inr (out, q)
   else if x < 256 then (if most ≤ out.length then .inl 2 else codedGo L D s most f q (out ++ [UInt8.ofNat x]))
   else match copyStep D s q out most x with
    | .inl e => .inl e
    | .inr (o, q') => codedGo L D s most f q' o
theorem codedGo_none (L D : List Nat) (s : ByteArray) (most f p : Nat) (out : List UInt8) (h : dec L s p = none) : codedGo L D s most (f + 1) p out = .inl 1 := by simp only [codedGo, h]
theorem codedGo_some (L D : List Nat) (s : ByteArray) (most f p x q : Nat) (out : List UInt8) (h : dec L s p = some (x, q)) : codedGo L D s most (f + 1) p out =
  if x = 256 then .inr (out, q) else if x < 256 then (if most ≤ out.length then .inl 2 else codedGo L D s most f q (out ++ [UInt8.ofNat x])) else match copyStep D s q out most x with
    | .inl e => .inl e
    | .inr (o, q') => codedGo L D s most f q' o := by simp only [codedGo, h]
theorem single_ok_i (b : Nat) (w : World) (s : ByteArray) (p : Nat) (out : List UInt8) (most : Nat) (c : UInt8) (C : Int) (hC : C = (c.toNat : Int)) (h : Inf w b s p out most) (hroom : out.length < most) (hfew : out.length + 1 ≤ 258 * p) (hp : p ≤ 17179869184) :
  Calls Tryz.prog 119 #[.pointer (some ⟨b, 0, none⟩), .int .u8 C] w fun e w' => e = .returned (.int .i64 0) ∧ Inf w' b s p (out ++ [c]) most ∧ IT b w w' := by
 subst hC; exact single_ok b w s p out most c h hroom hfew hp
theorem byte_of (x : Nat) (h : x < 256) : (x : Int) = ((UInt8.ofNat x).toNat : Int) := by
 have : (UInt8.ofNat x).toNat = x := by simp [UInt8.toNat_ofNat']; omega
 rw [this]
theorem earlier_r (b : Nat) (w : World) (s : ByteArray) (q : Nat) (out : List UInt8) (most x cb off nb cp : Nat) (D : List Nat) (R : Sum Nat (List UInt8 × Nat)) (hR : copyStep D s q out most x = R) (hs : s.size ≤ 2147483648) (h : Inf w b s q out most) (hx : 257 ≤ x) (hx2 : x ≤ 287) (hc : IsCode w cb off nb cp D) (h1 : cb ≠ b) (h2 : nb ≠ b) (hfew : out.length + 258 ≤ 258 * q) :
  Calls Tryz.prog 120 #[.pointer (some ⟨b, 0, none⟩), .int .i64 (x : Int), .pointer (some ⟨cb, off, none⟩)] w (infPost b s most w R) := by
 subst hR; exact earlier_c b w s q out most x cb off nb cp D hs h hx hx2 hc h1 h2 hfew
theorem lengthOf_le (s : ByteArray) (q x : Nat) : q ≤ (lengthOf s q x).2 := by
 unfold lengthOf
 by_cases h : x = 285
 ·rw [if_pos h]; exact Nat.le_refl _
 ·have e := rangedOf_le s q (x - 257) 4
  generalize rangedOf s q (x - 257) 4 = R at *
  rw [if_neg h]; exact e
theorem copyStep_le (D : List Nat) (s : ByteArray) (q : Nat) (out : List UInt8) (most x : Nat) (o : List UInt8) (q' : Nat) (h : copyStep D s q out most x = .inr (o, q')) : q' ≤ 8 * s.size ∧ q < q' := by
 unfold copyStep at h
 by_cases c1 : 285 < x
 ·rw [if_pos c1] at h; cases h
 ·rw [if_neg c1] at h
  cases hd : dec D s (lengthOf s q x).2 with
  | none => rw [hd] at h; cases h
  | some yq =>
   obtain ⟨y, q2⟩ := yq
   have hy := dec_lt hd
   rw [hd] at h
   change (if 29 < y then _ else _) = _ at h
   by_cases c3 : 29 < y
   ·rw [if_pos c3] at h; cases h
   ·rw [if_neg c3] at h
    by_cases c4 : 8 * s.size < (rangedOf s q2 y 2).2 ∨ out.length < 1 + (rangedOf s q2 y 2).1
    ·rw [if_pos c4] at h; cases h
    ·rw [if_neg c4] at h
     by_cases c5 : most < out.length + (lengthOf s q x).1
     ·rw [if_pos c5] at h; cases h
     ·rw [if_neg c5] at h
      simp only [Sum.inr.injEq, Prod.mk.injEq] at h
      obtain ⟨_, rfl⟩ := h
      have l1 := lengthOf_le s q x
      have l2 := rangedOf_le s q2 y 2
      omega
theorem copyStep_inl (D : List Nat) (s : ByteArray) (q : Nat) (out : List UInt8) (most x : Nat) (k : Nat) (h : copyStep D s q out most x = .inl k) : k = 1 ∨ k = 2 := by
 unfold copyStep at h
 by_cases c1 : 285 < x
 ·rw [if_pos c1] at h; cases h; exact Or.inl rfl
 ·rw [if_neg c1] at h
  cases hd : dec D s (lengthOf s q x).2 with
  | none => rw [hd] at h; cases h; exact Or.inl rfl
  | some yq =>
   obtain ⟨y, q2⟩ := yq
   rw [hd] at h
   change (if 29 < y then _ else _) = _ at h
   by_cases c3 : 29 < y
   ·rw [if_pos c3] at h; cases h; exact Or.inl rfl
   ·rw [if_neg c3] at h
    by_cases c4 : 8 * s.size < (rangedOf s q2 y 2).2 ∨ out.length < 1 + (rangedOf s q2 y 2).1
    ·rw [if_pos c4] at h; cases h; exact Or.inl rfl
    ·rw [if_neg c4] at h
     by_cases c5 : most < out.length + (lengthOf s q x).1
     ·rw [if_pos c5] at h; cases h; exact Or.inr rfl
     ·rw [if_neg c5] at h; cases h
theorem Codes.drew {w : World} {fb n1 c1 n2 c2 : Nat} {L D : List Nat} (h : Codes w fb n1 c1 n2 c2 L D) : Codes w.drew fb n1 c1 n2 c2 L D := h.keepS (S := fun _ => False) ((Touch.refl _ w).drew) (fun e => e) (fun e => e) (fun e => e)
theorem IT.drew {b : Nat} {x y : World} (h : IT b x y) : IT b x y.drew := Touch.drew h
theorem coded_c (b : Nat) (w : World) (s : ByteArray) (p : Nat) (out : List UInt8) (most cb n1 c1 n2 c2 : Nat) (L D : List Nat) (hs : s.size ≤ 2147483648) (h : Inf w b s p out most) (hp : p ≤ 8 * s.size) (hc : Codes w cb n1 c1 n2 c2 L D) (h0 : b < cb) (h1 : b < n1) (h2 : b < n2) (hL : L.length ≤ 288) (f : Nat) (hf : 8 * s.size + 1 ≤ p + f) :
  Calls Tryz.prog 85 #[.pointer (some ⟨b, 0, none⟩), .pointer (some ⟨cb, 0, none⟩)] w (infPost b s most w (codedGo L D s most f p out)) := by
 have hsm : s.size ≤ maxLen := by unfold maxLen; omega
 obtain ⟨R, hR⟩ : ∃ R, R = codedGo L D s most f p out := ⟨_, rfl⟩
 have HR0 : Hid (R = codedGo L D s most f p out) := hR
 rw [← hR]
 clear hR
 go_enter Tryz.func85, Tryz.ntmps85
 go_wp2
 go_loopg [] f (fun g wr => ∃ p out, Inf wr b s p out most ∧ p ≤ 8 * s.size ∧ 8 * s.size + 1 ≤ p + g ∧ IT b w wr ∧ Hid (R = codedGo L D s most g p out))
 case atStart => exact ⟨p, out, h, hp, hf, IT.refl _ _, HR0⟩
 case round =>
  clear HR0 h hp hf
  obtain ⟨p, out, hin, hp, hf, hit, HR⟩ := hrel
  obtain ⟨g, rfl⟩ : ∃ g, gk = g + 1 := ⟨gk - 1, by omega⟩
  have hcw := (hc.keepI hit h0 h1 h2).drew
  have hrd := hin.rd.drew
  have hfew := hin.few
  cases hd : dec L s p with
  | none =>
   have HE : Hid (R = .inl 1) := by unfold Hid; rw [HR.out, codedGo_none _ _ _ _ _ _ _ hd]
   have HD : Hid (dec L s p = none) := hd
   clear hd
   go_wp2
   go_region_held3 (fun _ => True) (trivial) (first | (go_at_call 118; refine (next_none _ _ _ _ _ _ L s p hsm hcw.lt hrd (by omega) (by omega) HD.out).mono ?_; rintro e w2 ⟨rfl, t2⟩))
   all_goals go_wp2
   all_goals go_ret
   all_goals exact ⟨hit.drew.trans (IT.ofRT t2), by rw [HE.out]; rfl⟩
  | some xq =>
   obtain ⟨x, q⟩ := xq
   have hx := dec_lt hd
   have hh := HR.out
   rw [codedGo_some _ _ _ _ _ _ _ _ _ hd] at hh
   have HS : Hid (R = _) := hh
   have HD : Hid (dec L s p = some (x, q)) := hd
   clear hd HR hh
   by_cases x1 : x = 256
   ·have HE : Hid (R = .inr (out, q)) := by unfold Hid; rw [HS.out, if_pos x1]
    go_wp2
    go_region_held3 (fun _ => True) (trivial) (first | (go_at_call 118; refine (next_some _ _ _ _ _ _ L s p x q hsm hcw.lt hrd (by omega) (by omega) HD.out).mono ?_; rintro e w2 ⟨rfl, r2, t2⟩))
    all_goals go_wp2
    all_goals go_ret
    all_goals exact ⟨hit.drew.trans (IT.ofRT t2), by rw [HE.out]; exact ⟨rfl, hin.read r2 (((RN.refl b wr).drew).trans t2.rn) (by omega)⟩⟩
   ·by_cases x2 : x < 256
    ·by_cases x3 : most ≤ out.length
     ·have HE : Hid (R = .inl 2) := by unfold Hid; rw [HS.out, if_neg x1, if_pos x2, if_pos x3]
      have hft := hin.fit
      go_wp2
      go_region_held3 (fun _ => True) (trivial) (first | (go_at_call 118; refine (next_some _ _ _ _ _ _ L s p x q hsm hcw.lt hrd (by omega) (by omega) HD.out).mono ?_; rintro e w2 ⟨rfl, r2, t2⟩))
      all_goals
       have i2 := hin.read r2 (((RN.refl b wr).drew).trans t2.rn) (by omega)
       go_wp2_with (go_at_call 119; refine (single_full b w2 s q out most _ i2 (by omega)).mono ?_; rintro e w3 ⟨rfl, t3⟩)
       go_ret
       exact ⟨(hit.drew.trans (IT.ofRT t2)).trans t3, by rw [HE.out]; rfl⟩
     ·have HE : Hid (R = codedGo L D s most g q (out ++ [UInt8.ofNat x])) := by unfold Hid; rw [HS.out, if_neg x1, if_pos x2, if_neg x3]
      go_wp2
      go_region_held3 (fun _ => True) (trivial) (first | (go_at_call 118; refine (next_some _ _ _ _ _ _ L s p x q hsm hcw.lt hrd (by omega) (by omega) HD.out).mono ?_; rintro e w2 ⟨rfl, r2, t2⟩))
      all_goals
       have i2 := hin.read r2 (((RN.refl b wr).drew).trans t2.rn) (by omega)
       go_wp2_with (go_at_call 119; refine (single_ok_i b w2 s q out most (UInt8.ofNat x) _ (byte_of x x2) i2 (by omega) (by omega) (by omega)).mono ?_; rintro e w3 ⟨rfl, i3, t3⟩)
       go_roundg g
       case measure => omega
       case rel => exact ⟨q, _, i3, hx.2.1, by omega, (hit.drew.trans (IT.ofRT t2)).trans t3, HE⟩
    ·cases hq : copyStep D s q out most x with
     | inl k =>
      have HE : Hid (R = .inl k) := by unfold Hid; rw [HS.out, if_neg x1, if_neg x2, hq]
      have hk := copyStep_inl _ _ _ _ _ _ _ hq
      have HQ : Hid (copyStep D s q out most x = .inl k) := hq
      have hk0 : ¬ k = 0 := by omega
      clear hq HS
      go_wp2
      go_region_held3 (fun _ => True) (trivial) (first | (go_at_call 118; refine (next_some _ _ _ _ _ _ L s p x q hsm hcw.lt hrd (by omega) (by omega) HD.out).mono ?_; rintro e w2 ⟨rfl, r2, t2⟩))
      all_goals
       have i2 := hin.read r2 (((RN.refl b wr).drew).trans t2.rn) (by omega)
       have d2 := hcw.keepS t2.t (by show ¬ cb = b; omega) (by show ¬ n1 = b; omega) (by show ¬ n2 = b; omega)
       go_wp2_with (go_at_call 120; refine (earlier_r b w2 s q out most x cb 17 n2 c2 D _ HQ.out hs i2 (by omega) (by omega) d2.ds (by omega) (by omega) (by omega)).mono ?_; rintro e w3 ⟨t3, rfl⟩)
       go_ret
       exact ⟨(hit.drew.trans (IT.ofRT t2)).trans t3, by rw [HE.out]; rfl⟩
     | inr oq =>
      obtain ⟨o, q'⟩ := oq
      have HE : Hid (R = codedGo L D s most g q' o) := by unfold Hid; rw [HS.out, if_neg x1, if_neg x2, hq]
      have hle := copyStep_le _ _ _ _ _ _ _ _ hq
      have HQ : Hid (copyStep D s q out most x = .inr (o, q')) := hq
      clear hq HS
      go_wp2
      go_region_held3 (fun _ => True) (trivial) (first | (go_at_call 118; refine (next_some _ _ _ _ _ _ L s p x q hsm hcw.lt hrd (by omega) (by omega) HD.out).mono ?_; rintro e w2 ⟨rfl, r2, t2⟩))
      all_goals
       have i2 := hin.read r2 (((RN.refl b wr).drew).trans t2.rn) (by omega)
       have d2 := hcw.keepS t2.t (by show ¬ cb = b; omega) (by show ¬ n1 = b; omega) (by show ¬ n2 = b; omega)
       go_wp2_with (go_at_call 120; refine (earlier_r b w2 s q out most x cb 17 n2 c2 D _ HQ.out hs i2 (by omega) (by omega) d2.ds (by omega) (by omega) (by omega)).mono ?_; rintro e w3 ⟨t3, rfl, i3⟩)
       go_roundg g
       case measure => omega
       case rel => exact ⟨q', o, i3, hle.1, by omega, (hit.drew.trans (IT.ofRT t2)).trans t3, HE⟩
end Go.Proofs.YtnmkmmgaoplfiaaGreatDoor
