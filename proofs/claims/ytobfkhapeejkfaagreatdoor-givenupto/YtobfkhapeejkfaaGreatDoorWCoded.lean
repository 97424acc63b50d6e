/- A block of codes, letter by letter: 'coded'. -/
import Derived.Test.YtobfkhapeejkfaaGreatDoorWEarl
namespace Go.Proofs.YtobfkhapeejkfaaGreatDoor
open Go.RowKit
set_option linter.unusedSimpArgs false
set_option linter.unusedVariables false

/-- What the letters of a block give, up to its end; f: at most so many letters. -/
def codedGo (L D : List Nat) (s : ByteArray) (most : Nat) : Nat → Nat → List UInt8 → Sum Nat (List UInt8 × Nat)
  | 0, _, _ => .inl 1
  | f + 1, p, out =>
    match dec L s p with
    | none => .inl 1
    | some (x, q) =>
      if x = 256 then .inr (out, q)
      else if x < 256 then (if most ≤ out.length then .inl 2 else codedGo L D s most f q (out ++ [UInt8.ofNat x]))
      else match copyStep D s q out most x with
        | .inl e => .inl e
        | .inr (o, q') => codedGo L D s most f q' o

theorem codedGo_none (L D : List Nat) (s : ByteArray) (most f p : Nat) (out : List UInt8) (h : dec L s p = none) : codedGo L D s most (f + 1) p out = .inl 1 := by simp only [codedGo, h]
theorem codedGo_some (L D : List Nat) (s : ByteArray) (most f p x q : Nat) (out : List UInt8) (h : dec L s p = some (x, q)) : codedGo L D s most (f + 1) p out =
    if x = 256 then .inr (out, q) else if x < 256 then (if most ≤ out.length then .inl 2 else codedGo L D s most f q (out ++ [UInt8.ofNat x])) else match copyStep D s q out most x with
        | .inl e => .inl e
        | .inr (o, q') => codedGo L D s most f q' o := by simp only [codedGo, h]

theorem single_ok_i (b : Nat) (w : World) (s : ByteArray) (p : Nat) (out : List UInt8) (most : Nat) (c : UInt8) (C : Int) (hC : C = (c.toNat : Int)) (h : Inf w b s p out most) (hroom : out.length < most) (hfew : out.length + 1 ≤ 258 * p) (hp : p ≤ 17179869184) :
    Calls Tryz.prog 182 #[.pointer (some ⟨b, 0, none⟩), .int .u8 C] w fun e w' => e = .returned (.int .i64 0) ∧ Inf w' b s p (out ++ [c]) most ∧ IT b w w' := by
  subst hC; exact single_ok b w s p out most c h hroom hfew hp
theorem byte_of (x : Nat) (h : x < 256) : (x : Int) = ((UInt8.ofNat x).toNat : Int) := by
  have : (UInt8.ofNat x).toNat = x := by simp [UInt8.toNat_ofNat']; omega
  rw [this]
theorem earlier_r (b : Nat) (w : World) (s : ByteArray) (q : Nat) (out : List UInt8) (most x cb off nb cp : Nat) (D : List Nat) (R : Sum Nat (List UInt8 × Nat)) (hR : copyStep D s q out most x = R) (hs : s.size ≤ 2147483648) (h : Inf w b s q out most) (hx : 257 ≤ x) (hx2 : x ≤ 287) (hc : IsCode w cb off nb cp D) (h1 : cb ≠ b) (h2 : nb ≠ b) (hfew : out.length + 258 ≤ 258 * q) :
    Calls Tryz.prog 183 #[.pointer (some ⟨b, 0, none⟩), .int .i64 (x : Int), .pointer (some ⟨cb, off, none⟩)] w (infPost b s most w R) := by
  subst hR; exact earlier_c b w s q out most x cb off nb cp D hs h hx hx2 hc h1 h2 hfew
theorem lengthOf_le (s : ByteArray) (q x : Nat) : q ≤ (lengthOf s q x).2 := by
  unfold lengthOf
  by_cases h : x = 285
  · rw [if_pos h]; exact Nat.le_refl _
  · have e := rangedOf_le s q (x - 257) 4
    generalize rangedOf s q (x - 257) 4 = R at *
    rw [if_neg h]; exact e
theorem copyStep_le (D : List Nat) (s : ByteArray) (q : Nat) (out : List UInt8) (most x : Nat) (o : List UInt8) (q' : Nat) (h : copyStep D s q out most x = .inr (o, q')) : q' ≤ 8 * s.size ∧ q < q' := by
  unfold copyStep at h
  by_cases c1 : 285 < x
  · rw [if_pos c1] at h; cases h
  · rw [if_neg c1] at h
    cases hd : dec D s (lengthOf s q x).2 with
    | none => rw [hd] at h; cases h
    | some yq =>
      obtain ⟨y, q2⟩ := yq
      have hy := dec_lt hd
      rw [hd] at h
      change (if 29 < y then _ else _) = _ at h
      by_cases c3 : 29 < y
      · rw [if_pos c3] at h; cases h
      · rw [if_neg c3] at h
        by_cases c4 : 8 * s.size < (rangedOf s q2 y 2).2 ∨ out.length < 1 + (rangedOf s q2 y 2).1
        · rw [if_pos c4] at h; cases h
        · rw [if_neg c4] at h
          by_cases c5 : most < out.length + (lengthOf s q x).1
          · rw [if_pos c5] at h; cases h
          · rw [if_neg c5] at h
            simp only [Sum.inr.injEq, Prod.mk.injEq] at h
            obtain ⟨_, rfl⟩ := h
            have l1 := lengthOf_le s q x
            have l2 := rangedOf_le s q2 y 2
            omega
theorem copyStep_inl (D : List Nat) (s : ByteArray) (q : Nat) (out : List UInt8) (most x : Nat) (k : Nat) (h : copyStep D s q out most x = .inl k) : k = 1 ∨ k = 2 := by
  unfold copyStep at h
  by_cases c1 : 285 < x
  · rw [if_pos c1] at h; cases h; exact Or.inl rfl
  · rw [if_neg c1] at h
    cases hd : dec D s (lengthOf s q x).2 with
    | none => rw [hd] at h; cases h; exact Or.inl rfl
    | some yq =>
      obtain ⟨y, q2⟩ := yq
      rw [hd] at h
      change (if 29 < y then _ else _) = _ at h
      by_cases c3 : 29 < y
      · rw [if_pos c3] at h; cases h; exact Or.inl rfl
      · rw [if_neg c3] at h
        by_cases c4 : 8 * s.size < (rangedOf s q2 y 2).2 ∨ out.length < 1 + (rangedOf s q2 y 2).1
        · rw [if_pos c4] at h; cases h; exact Or.inl rfl
        · rw [if_neg c4] at h
          by_cases c5 : most < out.length + (lengthOf s q x).1
          · rw [if_pos c5] at h; cases h; exact Or.inr rfl
          · rw [if_neg c5] at h; cases h

theorem Codes.drew {w : World} {fb n1 c1 n2 c2 : Nat} {L D : List Nat} (h : Codes w fb n1 c1 n2 c2 L D) : Codes w.drew fb n1 c1 n2 c2 L D := h.keepS (S := fun _ => False) ((Touch.refl _ w).drew) (fun e => e) (fun e => e) (fun e => e)
theorem IT.drew {b : Nat} {x y : World} (h : IT b x y) : IT b x y.drew := Touch.drew h

set_option maxRecDepth 100000 in
set_option maxHeartbeats 2000000 in
theorem coded_c (b : Nat) (w : World) (s : ByteArray) (p : Nat) (out : List UInt8) (most cb n1 c1 n2 c2 : Nat) (L D : List Nat) (hs : s.size ≤ 2147483648) (h : Inf w b s p out most) (hp : p ≤ 8 * s.size) (hc : Codes w cb n1 c1 n2 c2 L D) (h0 : b < cb) (h1 : b < n1) (h2 : b < n2) (hL : L.length ≤ 288) (f : Nat) (hf : 8 * s.size + 1 ≤ p + f) :
    Calls Tryz.prog 124 #[.pointer (some ⟨b, 0, none⟩), .pointer (some ⟨cb, 0, none⟩)] w (infPost b s most w (codedGo L D s most f p out)) := by
  have hsm : s.size ≤ maxLen := by unfold maxLen; omega
  obtain ⟨R, hR⟩ : ∃ R, R = codedGo L D s most f p out := ⟨_, rfl⟩
  have HR0 : Hid (R = codedGo L D s most f p out) := hR
  rw [← hR]
  clear hR
  go_enter Tryz.func124, Tryz.ntmps124
  go_wp2
  go_loopg [] f (fun g wr => ∃ p out, Inf wr b s p out most ∧ p ≤ 8 * s.size ∧ 8 * s.size + 1 ≤ p + g ∧ IT b w wr ∧ Hid (R = codedGo L D s most g p out))
  case atStart => exact ⟨p, out, h, hp, hf, IT.refl _ _, HR0⟩
  case round =>
    clear HR0 h hp hf
    obtain ⟨p, out, hin, hp, hf, hit, HR⟩ := hrel
    obtain ⟨g, rfl⟩ : ∃ g, gk = g + 1 := ⟨gk - 1, by omega⟩
    have hcw := (hc.keepI hit h0 h1 h2).drew
    have hrd := hin.rd.drew
    have hfew := hin.few
    cases hd : dec L s p with
    | none =>
      have HE : Hid (R = .inl 1) := by unfold Hid; rw [HR.out, codedGo_none _ _ _ _ _ _ _ hd]
      have HD : Hid (dec L s p = none) := hd
      clear hd
      go_wp2
      go_region_held3 (fun _ => True) (trivial) (first | (go_at_call 181; refine (next_none _ _ _ _ _ _ L s p hsm hcw.lt hrd (by omega) (by omega) HD.out).mono ?_; rintro e w2 ⟨rfl, t2⟩))
      all_goals go_wp2
      all_goals go_ret
      all_goals exact ⟨hit.drew.trans (IT.ofRT t2), by rw [HE.out]; rfl⟩
    | some xq =>
      obtain ⟨x, q⟩ := xq
      have hx := dec_lt hd
      have hh := HR.out
      rw [codedGo_some _ _ _ _ _ _ _ _ _ hd] at hh
      have HS : Hid (R = _) := hh
      have HD : Hid (dec L s p = some (x, q)) := hd
      clear hd HR hh
      by_cases x1 : x = 256
      · have HE : Hid (R = .inr (out, q)) := by unfold Hid; rw [HS.out, if_pos x1]
        go_wp2
        go_region_held3 (fun _ => True) (trivial) (first | (go_at_call 181; refine (next_some _ _ _ _ _ _ L s p x q hsm hcw.lt hrd (by omega) (by omega) HD.out).mono ?_; rintro e w2 ⟨rfl, r2, t2⟩))
        all_goals go_wp2
        all_goals go_ret
        all_goals exact ⟨hit.drew.trans (IT.ofRT t2), by rw [HE.out]; exact ⟨rfl, hin.read r2 (((RN.refl b wr).drew).trans t2.rn) (by omega)⟩⟩
      · by_cases x2 : x < 256
        · by_cases x3 : most ≤ out.length
          · have HE : Hid (R = .inl 2) := by unfold Hid; rw [HS.out, if_neg x1, if_pos x2, if_pos x3]
            have hft := hin.fit
            go_wp2
            go_region_held3 (fun _ => True) (trivial) (first | (go_at_call 181; refine (next_some _ _ _ _ _ _ L s p x q hsm hcw.lt hrd (by omega) (by omega) HD.out).mono ?_; rintro e w2 ⟨rfl, r2, t2⟩))
            all_goals
              have i2 := hin.read r2 (((RN.refl b wr).drew).trans t2.rn) (by omega)
              go_wp2_with (go_at_call 182; refine (single_full b w2 s q out most _ i2 (by omega)).mono ?_; rintro e w3 ⟨rfl, t3⟩)
              go_ret
              exact ⟨(hit.drew.trans (IT.ofRT t2)).trans t3, by rw [HE.out]; rfl⟩
          · have HE : Hid (R = codedGo L D s most g q (out ++ [UInt8.ofNat x])) := by unfold Hid; rw [HS.out, if_neg x1, if_pos x2, if_neg x3]
            go_wp2
            go_region_held3 (fun _ => True) (trivial) (first | (go_at_call 181; refine (next_some _ _ _ _ _ _ L s p x q hsm hcw.lt hrd (by omega) (by omega) HD.out).mono ?_; rintro e w2 ⟨rfl, r2, t2⟩))
            all_goals
              have i2 := hin.read r2 (((RN.refl b wr).drew).trans t2.rn) (by omega)
              go_wp2_with (go_at_call 182; refine (single_ok_i b w2 s q out most (UInt8.ofNat x) _ (byte_of x x2) i2 (by omega) (by omega) (by omega)).mono ?_; rintro e w3 ⟨rfl, i3, t3⟩)
              go_roundg g
              case measure => omega
              case rel => exact ⟨q, _, i3, hx.2.1, by omega, (hit.drew.trans (IT.ofRT t2)).trans t3, HE⟩
        · cases hq : copyStep D s q out most x with
          | inl k =>
            have HE : Hid (R = .inl k) := by unfold Hid; rw [HS.out, if_neg x1, if_neg x2, hq]
            have hk := copyStep_inl _ _ _ _ _ _ _ hq
            have HQ : Hid (copyStep D s q out most x = .inl k) := hq
            have hk0 : ¬ k = 0 := by omega
            clear hq HS
            go_wp2
            go_region_held3 (fun _ => True) (trivial) (first | (go_at_call 181; refine (next_some _ _ _ _ _ _ L s p x q hsm hcw.lt hrd (by omega) (by omega) HD.out).mono ?_; rintro e w2 ⟨rfl, r2, t2⟩))
            all_goals
              have i2 := hin.read r2 (((RN.refl b wr).drew).trans t2.rn) (by omega)
              have d2 := hcw.keepS t2.t (by show ¬ cb = b; omega) (by show ¬ n1 = b; omega) (by show ¬ n2 = b; omega)
              go_wp2_with (go_at_call 183; refine (earlier_r b w2 s q out most x cb 17 n2 c2 D _ HQ.out hs i2 (by omega) (by omega) d2.ds (by omega) (by omega) (by omega)).mono ?_; rintro e w3 ⟨t3, rfl⟩)
              go_ret
              exact ⟨(hit.drew.trans (IT.ofRT t2)).trans t3, by rw [HE.out]; rfl⟩
          | inr oq =>
            obtain ⟨o, q'⟩ := oq
            have HE : Hid (R = codedGo L D s most g q' o) := by unfold Hid; rw [HS.out, if_neg x1, if_neg x2, hq]
            have hle := copyStep_le _ _ _ _ _ _ _ _ hq
            have HQ : Hid (copyStep D s q out most x = .inr (o, q')) := hq
            clear hq HS
            go_wp2
            go_region_held3 (fun _ => True) (trivial) (first | (go_at_call 181; refine (next_some _ _ _ _ _ _ L s p x q hsm hcw.lt hrd (by omega) (by omega) HD.out).mono ?_; rintro e w2 ⟨rfl, r2, t2⟩))
            all_goals
              have i2 := hin.read r2 (((RN.refl b wr).drew).trans t2.rn) (by omega)
              have d2 := hcw.keepS t2.t (by show ¬ cb = b; omega) (by show ¬ n1 = b; omega) (by show ¬ n2 = b; omega)
              go_wp2_with (go_at_call 183; refine (earlier_r b w2 s q out most x cb 17 n2 c2 D _ HQ.out hs i2 (by omega) (by omega) d2.ds (by omega) (by omega) (by omega)).mono ?_; rintro e w3 ⟨t3, rfl, i3⟩)
              go_roundg g
              case measure => omega
              case rel => exact ⟨q', o, i3, hle.1, by omega, (hit.drew.trans (IT.ofRT t2)).trans t3, HE⟩
end Go.Proofs.YtobfkhapeejkfaaGreatDoor
