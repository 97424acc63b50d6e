/- A letter that is a length: its distance, and the copy: 'earlier'. -/
import Derived.Test.YtobfkhapeejkfaaGreatDoorWCopy
import Derived.Test.YtobfkhapeejkfaaGreatDoorWRange
namespace Go.Proofs.YtobfkhapeejkfaaGreatDoor
open Go.RowKit
set_option linter.unusedSimpArgs false
set_option linter.unusedVariables false

/-- The length that a letter below 286 means, and the place behind its bits. -/
def lengthOf (s : ByteArray) (q x : Nat) : Nat × Nat := if x = 285 then (258, q) else (3 + (rangedOf s q (x - 257) 4).1, (rangedOf s q (x - 257) 4).2)
/-- A letter above 256: an error's number, or what was given then, and the place behind. -/
def copyStep (D : List Nat) (s : ByteArray) (q : Nat) (out : List UInt8) (most x : Nat) : Sum Nat (List UInt8 × Nat) :=
  if 285 < x then .inl 1 else
  match dec D s (lengthOf s q x).2 with
  | none => .inl 1
  | some (y, q2) =>
    if 29 < y then .inl 1
    else if 8 * s.size < (rangedOf s q2 y 2).2 ∨ out.length < 1 + (rangedOf s q2 y 2).1 then .inl 1
    else if most < out.length + (lengthOf s q x).1 then .inl 2
    else .inr (copyOf out (out.length - (1 + (rangedOf s q2 y 2).1)) (1 + (rangedOf s q2 y 2).1) (lengthOf s q x).1, (rangedOf s q2 y 2).2)

/-- What such a call answers. -/
def infPost (b : Nat) (s : ByteArray) (most : Nat) (w : World) (r : Sum Nat (List UInt8 × Nat)) (e : Ending) (w' : World) : Prop :=
  IT b w w' ∧ match r with
  | .inl k => e = .returned (.int .i64 (k : Int))
  | .inr (out, q) => e = .returned (.int .i64 0) ∧ Inf w' b s q out most

theorem rangedOf_le (s : ByteArray) (p idx group : Nat) : p ≤ (rangedOf s p idx group).2 := by
  unfold rangedOf; split
  · exact Nat.le_refl _
  · exact Nat.le_add_right _ _
theorem rangedOf4_bd (s : ByteArray) (p idx : Nat) (h : idx ≤ 27) : (rangedOf s p idx 4).1 ≤ 255 := by
  unfold rangedOf
  by_cases h1 : idx < 2 * 4
  · rw [if_pos h1]; show idx ≤ 255; omega
  · rw [if_neg h1]
    show (4 + idx % 4) * 2 ^ (idx / 4 - 1) + numAt s p (idx / 4 - 1) ≤ 255
    have n2 := numAt_lt s p (idx / 4 - 1)
    have h2 : idx / 4 - 1 ≤ 5 := by omega
    have p2 : 2 ^ (idx / 4 - 1) ≤ 2 ^ 5 := Nat.pow_le_pow_right (by omega) h2
    have m1 : (4 + idx % 4) * 2 ^ (idx / 4 - 1) ≤ 7 * 2 ^ (idx / 4 - 1) := Nat.mul_le_mul_right _ (by omega)
    generalize 2 ^ (idx / 4 - 1) = z at *
    generalize (4 + idx % 4) * z = u at *
    omega
theorem rangedOf2_bd (s : ByteArray) (p idx : Nat) (h : idx ≤ 30) : (rangedOf s p idx 2).1 ≤ 65536 := by
  unfold rangedOf
  by_cases h1 : idx < 2 * 2
  · rw [if_pos h1]; show idx ≤ 65536; omega
  · rw [if_neg h1]
    show (2 + idx % 2) * 2 ^ (idx / 2 - 1) + numAt s p (idx / 2 - 1) ≤ 65536
    have n2 := numAt_lt s p (idx / 2 - 1)
    have h2 : idx / 2 - 1 ≤ 14 := by omega
    have p2 : 2 ^ (idx / 2 - 1) ≤ 2 ^ 14 := Nat.pow_le_pow_right (by omega) h2
    have m1 : (2 + idx % 2) * 2 ^ (idx / 2 - 1) ≤ 3 * 2 ^ (idx / 2 - 1) := Nat.mul_le_mul_right _ (by omega)
    generalize 2 ^ (idx / 2 - 1) = z at *
    generalize (2 + idx % 2) * z = u at *
    omega

theorem ranged_4i (w : World) (b : Nat) (s : ByteArray) (p idx : Nat) (N : Int) (hN : N = (idx : Int)) (R : Nat × Nat) (hR : rangedOf s p idx 4 = R) (hi : idx ≤ 30) (hs : s.size ≤ maxLen) (hr : Rd w b s p) :
    Calls Tryz.prog 242 #[.pointer (some ⟨b, 0, none⟩), .int .i64 N, .int .i64 4] w fun e w' => e = .returned (.int .i64 (R.1 : Int)) ∧ Rd w' b s R.2 ∧ RN b w w' := by
  subst hN hR; exact ranged_4 w b s p idx hi hs hr
theorem ranged_2i (w : World) (b : Nat) (s : ByteArray) (p idx : Nat) (N : Int) (hN : N = (idx : Int)) (R : Nat × Nat) (hR : rangedOf s p idx 2 = R) (hi : idx ≤ 30) (hs : s.size ≤ maxLen) (hr : Rd w b s p) :
    Calls Tryz.prog 242 #[.pointer (some ⟨b, 0, none⟩), .int .i64 N, .int .i64 2] w fun e w' => e = .returned (.int .i64 (R.1 : Int)) ∧ Rd w' b s R.2 ∧ RN b w w' := by
  subst hN hR; exact ranged_2 w b s p idx hi hs hr
theorem copy_ok_i (b : Nat) (w : World) (s : ByteArray) (p : Nat) (out : List UInt8) (most : Nat) (place d n : Nat) (PL NN : Int) (hPL : PL = (place : Int)) (hNN : NN = (n : Int)) (h : Inf w b s p out most) (hd : 0 < d) (hp : place + d = out.length) (hn : n ≤ 258) (hroom : out.length + n ≤ most) (hfew : out.length + n ≤ 258 * p) (hpp : p ≤ 17179869184) :
    Calls Tryz.prog 243 #[.pointer (some ⟨b, 0, none⟩), .int .i64 PL, .int .i64 NN] w fun e w' => e = .returned (.int .i64 0) ∧ Inf w' b s p (copyOf out place d n) most ∧ IT b w w' := by
  subst hPL hNN; exact copy_ok b w s p out most place d n h hd hp hn hroom hfew hpp
theorem copy_much_i (b : Nat) (w : World) (s : ByteArray) (p : Nat) (out : List UInt8) (most : Nat) (place d n : Nat) (PL NN : Int) (hPL : PL = (place : Int)) (hNN : NN = (n : Int)) (h : Inf w b s p out most) (hd : 0 < d) (hp : place + d = out.length) (hn : n ≤ 258) (hroom : most < out.length + n) (hfew : out.length + n ≤ 258 * p) (hpp : p ≤ 17179869184) :
    Calls Tryz.prog 243 #[.pointer (some ⟨b, 0, none⟩), .int .i64 PL, .int .i64 NN] w fun e w' => e = .returned (.int .i64 2) ∧ IT b w w' := by
  subst hPL hNN; exact copy_much b w s p out most place d n h hd hp hn hroom hfew hpp

set_option maxRecDepth 100000 in
set_option maxHeartbeats 2000000 in
theorem earlier_c (b : Nat) (w : World) (s : ByteArray) (q : Nat) (out : List UInt8) (most x cb off nb cp : Nat) (D : List Nat) (hs : s.size ≤ 2147483648) (h : Inf w b s q out most) (hx : 257 ≤ x) (hx2 : x ≤ 287) (hc : IsCode w cb off nb cp D) (h1 : cb ≠ b) (h2 : nb ≠ b) (hfew : out.length + 258 ≤ 258 * q) :
    Calls Tryz.prog 183 #[.pointer (some ⟨b, 0, none⟩), .int .i64 (x : Int), .pointer (some ⟨cb, off, none⟩)] w (infPost b s most w (copyStep D s q out most x)) := by
  have hsm : s.size ≤ maxLen := by unfold maxLen; omega
  obtain ⟨R, hR⟩ : ∃ R, R = copyStep D s q out most x := ⟨_, rfl⟩
  have HR : Hid (R = copyStep D s q out most x) := hR
  rw [← hR]
  clear hR
  unfold copyStep at HR
  have hlt := h.lt
  by_cases c1 : 285 < x
  · have HE : Hid (R = .inl 1) := by unfold Hid; rw [HR.out, if_pos c1]
    go_enter Tryz.func183, Tryz.ntmps183
    go_wp2
    go_ret
    exact ⟨IT.refl _ _, by rw [HE.out]; rfl⟩
  · have hh := HR.out
    rw [if_neg c1] at hh
    have HR' : Hid (R = _) := hh
    clear HR hh
    by_cases c2 : x = 285
    · have HL : Hid (lengthOf s q x = (258, q)) := by unfold Hid lengthOf; rw [if_pos c2]
      go_enter Tryz.func183, Tryz.ntmps183
      go_wp2_with fail
      have hcw : IsCode w cb off nb cp D := hc.keep (RN.refl b w).t h1 h2
      cases hd : dec D s q with
      | none =>
        have HE : Hid (R = .inl 1) := by unfold Hid; rw [HR'.out, HL.out, hd]
        refine (next_none _ _ _ _ _ _ D s _ hsm hcw h.rd h1 h2 hd).mono ?_
        rintro e w2 ⟨rfl, t2⟩
        clear hd HR'
        go_wp2
        go_ret
        exact ⟨IT.ofRN ((RN.refl b w).trans t2.rn), by rw [HE.out]; rfl⟩
      | some yq =>
        obtain ⟨y, q2⟩ := yq
        have hy := dec_lt hd
        have hh := HR'.out
        rw [HL.out, hd] at hh
        have HR : Hid (R = _) := hh
        refine (next_some _ _ _ _ _ _ D s _ y q2 hsm hcw h.rd h1 h2 hd).mono ?_
        rintro e w2 ⟨rfl, r2, t2⟩
        clear hd HR' hh
        have RN2 := (RN.refl b w).trans t2.rn
        by_cases c3 : 29 < y
        · have HE : Hid (R = .inl 1) := by unfold Hid; rw [HR.out]; show (if 29 < y then _ else _) = _; rw [if_pos c3]
          go_wp2
          go_ret
          exact ⟨IT.ofRN RN2, by rw [HE.out]; rfl⟩
        · have hh := HR.out
          change R = (if 29 < y then _ else _) at hh
          rw [if_neg c3] at hh
          obtain ⟨R2, hR2⟩ : ∃ R2, rangedOf s q2 y 2 = R2 := ⟨_, rfl⟩
          have bd2 := rangedOf2_bd s q2 y (by omega)
          have le2 := rangedOf_le s q2 y 2
          rw [hR2] at hh bd2 le2
          have HR' : Hid (R = _) := hh
          have HR2 : Hid (rangedOf s q2 y 2 = R2) := hR2
          clear HR hh hR2
          have hy30 : y ≤ 30 := by omega
          go_wp2_with fail
          refine (ranged_2i w2 b s q2 y _ rfl R2 HR2.out hy30 hsm r2).mono ?_
          rintro e w3 ⟨rfl, r3, t3⟩
          have RN3 := RN2.trans t3
          have hin := h.read r3 RN3 (by omega)
          obtain ⟨ao, cap, h5, ho⟩ := hin.gv
          have z4 := r3.c4
          obtain ⟨f, hf⟩ : ∃ f, f = R2.1 := ⟨_, rfl⟩
          obtain ⟨q3, hq3⟩ : ∃ q3, q3 = R2.2 := ⟨_, rfl⟩
          have hh := HR'.out
          rw [← hf, ← hq3] at hh
          rw [← hf] at bd2 ⊢
          rw [← hq3] at le2 z4 hin
          have HR : Hid (R = _) := hh
          clear HR' hh hf hq3 HR2
          by_cases c4 : 8 * s.size < q3 ∨ out.length < 1 + f
          · have HE : Hid (R = .inl 1) := by unfold Hid; rw [HR.out, if_pos c4]
            by_cases c5 : 8 * s.size < q3
            · go_wp2
              go_ret
              exact ⟨IT.ofRN RN3, by rw [HE.out]; rfl⟩
            · have c6 : out.length < 1 + f := by omega
              go_wp2
              go_ret
              exact ⟨IT.ofRN RN3, by rw [HE.out]; rfl⟩
          · have c5 : ¬ 8 * s.size < q3 := by omega
            have c6 : 1 + f ≤ out.length := by omega
            have hh := HR.out
            rw [if_neg c4] at hh
            have HR' : Hid (R = _) := hh
            clear HR hh c4
            by_cases c7 : most < out.length + (258)
            · have HE : Hid (R = .inl 2) := by unfold Hid; rw [HR'.out, if_pos c7]
              go_wp2_with fail
              refine (copy_much_i b w3 s q3 out most (out.length - (1 + f)) (1 + f) (258) _ _ (by omega) (by omega) hin (by omega) (by omega) (by omega) c7 (by omega) (by omega)).mono ?_
              rintro e w4 ⟨rfl, t4⟩
              go_wp2
              go_ret
              exact ⟨(IT.ofRN RN3).trans t4, by rw [HE.out]; rfl⟩
            · have HE : Hid (R = .inr (copyOf out (out.length - (1 + f)) (1 + f) (258), q3)) := by unfold Hid; rw [HR'.out, if_neg c7]
              go_wp2_with fail
              refine (copy_ok_i b w3 s q3 out most (out.length - (1 + f)) (1 + f) (258) _ _ (by omega) (by omega) hin (by omega) (by omega) (by omega) (by omega) (by omega) (by omega)).mono ?_
              rintro e w4 ⟨rfl, i4, t4⟩
              go_wp2
              go_ret
              exact ⟨(IT.ofRN RN3).trans t4, by rw [HE.out]; exact ⟨rfl, i4⟩⟩
    · have hx284 : x - 257 ≤ 27 := by omega
      obtain ⟨R4, hR4⟩ : ∃ R4, rangedOf s q (x - 257) 4 = R4 := ⟨_, rfl⟩
      have bd4 := rangedOf4_bd s q (x - 257) hx284
      have le4 := rangedOf_le s q (x - 257) 4
      rw [hR4] at bd4 le4
      have HL0 : Hid (lengthOf s q x = (3 + R4.1, R4.2)) := by unfold Hid lengthOf; rw [if_neg c2, hR4]
      have HR4 : Hid (rangedOf s q (x - 257) 4 = R4) := hR4
      clear hR4
      go_enter Tryz.func183, Tryz.ntmps183
      go_wp2_with fail
      refine (ranged_4i w b s q (x - 257) _ (by omega) R4 HR4.out (by omega) hsm h.rd).mono ?_
      rintro e w1 ⟨rfl, r1, t1⟩
      obtain ⟨l4, hl4⟩ : ∃ l4, l4 = R4.1 := ⟨_, rfl⟩
      obtain ⟨q1, hq1⟩ : ∃ q1, q1 = R4.2 := ⟨_, rfl⟩
      have hhl := HL0.out
      rw [← hl4, ← hq1] at hhl
      have HL : Hid (lengthOf s q x = (3 + l4, q1)) := hhl
      rw [← hl4] at bd4 ⊢
      rw [← hq1] at le4 r1
      clear HL0 HR4 hhl hl4 hq1
      go_wp2_with fail
      have hcw : IsCode w1 cb off nb cp D := hc.keep (t1).t h1 h2
      cases hd : dec D s q1 with
      | none =>
        have HE : Hid (R = .inl 1) := by unfold Hid; rw [HR'.out, HL.out, hd]
        refine (next_none _ _ _ _ _ _ D s _ hsm hcw r1 h1 h2 hd).mono ?_
        rintro e w2 ⟨rfl, t2⟩
        clear hd HR'
        go_wp2
        go_ret
        exact ⟨IT.ofRN ((t1).trans t2.rn), by rw [HE.out]; rfl⟩
      | some yq =>
        obtain ⟨y, q2⟩ := yq
        have hy := dec_lt hd
        have hh := HR'.out
        rw [HL.out, hd] at hh
        have HR : Hid (R = _) := hh
        refine (next_some _ _ _ _ _ _ D s _ y q2 hsm hcw r1 h1 h2 hd).mono ?_
        rintro e w2 ⟨rfl, r2, t2⟩
        clear hd HR' hh
        have RN2 := (t1).trans t2.rn
        by_cases c3 : 29 < y
        · have HE : Hid (R = .inl 1) := by unfold Hid; rw [HR.out]; show (if 29 < y then _ else _) = _; rw [if_pos c3]
          go_wp2
          go_ret
          exact ⟨IT.ofRN RN2, by rw [HE.out]; rfl⟩
        · have hh := HR.out
          change R = (if 29 < y then _ else _) at hh
          rw [if_neg c3] at hh
          obtain ⟨R2, hR2⟩ : ∃ R2, rangedOf s q2 y 2 = R2 := ⟨_, rfl⟩
          have bd2 := rangedOf2_bd s q2 y (by omega)
          have le2 := rangedOf_le s q2 y 2
          rw [hR2] at hh bd2 le2
          have HR' : Hid (R = _) := hh
          have HR2 : Hid (rangedOf s q2 y 2 = R2) := hR2
          clear HR hh hR2
          have hy30 : y ≤ 30 := by omega
          go_wp2_with fail
          refine (ranged_2i w2 b s q2 y _ rfl R2 HR2.out hy30 hsm r2).mono ?_
          rintro e w3 ⟨rfl, r3, t3⟩
          have RN3 := RN2.trans t3
          have hin := h.read r3 RN3 (by omega)
          obtain ⟨ao, cap, h5, ho⟩ := hin.gv
          have z4 := r3.c4
          obtain ⟨f, hf⟩ : ∃ f, f = R2.1 := ⟨_, rfl⟩
          obtain ⟨q3, hq3⟩ : ∃ q3, q3 = R2.2 := ⟨_, rfl⟩
          have hh := HR'.out
          rw [← hf, ← hq3] at hh
          rw [← hf] at bd2 ⊢
          rw [← hq3] at le2 z4 hin
          have HR : Hid (R = _) := hh
          clear HR' hh hf hq3 HR2
          by_cases c4 : 8 * s.size < q3 ∨ out.length < 1 + f
          · have HE : Hid (R = .inl 1) := by unfold Hid; rw [HR.out, if_pos c4]
            by_cases c5 : 8 * s.size < q3
            · go_wp2
              go_ret
              exact ⟨IT.ofRN RN3, by rw [HE.out]; rfl⟩
            · have c6 : out.length < 1 + f := by omega
              go_wp2
              go_ret
              exact ⟨IT.ofRN RN3, by rw [HE.out]; rfl⟩
          · have c5 : ¬ 8 * s.size < q3 := by omega
            have c6 : 1 + f ≤ out.length := by omega
            have hh := HR.out
            rw [if_neg c4] at hh
            have HR' : Hid (R = _) := hh
            clear HR hh c4
            by_cases c7 : most < out.length + (3 + l4)
            · have HE : Hid (R = .inl 2) := by unfold Hid; rw [HR'.out, if_pos c7]
              go_wp2_with fail
              refine (copy_much_i b w3 s q3 out most (out.length - (1 + f)) (1 + f) (3 + l4) _ _ (by omega) (by omega) hin (by omega) (by omega) (by omega) c7 (by omega) (by omega)).mono ?_
              rintro e w4 ⟨rfl, t4⟩
              go_wp2
              go_ret
              exact ⟨(IT.ofRN RN3).trans t4, by rw [HE.out]; rfl⟩
            · have HE : Hid (R = .inr (copyOf out (out.length - (1 + f)) (1 + f) (3 + l4), q3)) := by unfold Hid; rw [HR'.out, if_neg c7]
              go_wp2_with fail
              refine (copy_ok_i b w3 s q3 out most (out.length - (1 + f)) (1 + f) (3 + l4) _ _ (by omega) (by omega) hin (by omega) (by omega) (by omega) (by omega) (by omega) (by omega)).mono ?_
              rintro e w4 ⟨rfl, i4, t4⟩
              go_wp2
              go_ret
              exact ⟨(IT.ofRN RN3).trans t4, by rw [HE.out]; exact ⟨rfl, i4⟩⟩
end Go.Proofs.YtobfkhapeejkfaaGreatDoor
