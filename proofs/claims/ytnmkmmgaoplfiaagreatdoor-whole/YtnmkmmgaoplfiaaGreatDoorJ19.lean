/- Texts of this seat, joined. -/
import Derived.Test.YtnmkmmgaoplfiaaGreatDoorJ16
import Derived.Test.YtnmkmmgaoplfiaaGreatDoorJ17
import Derived.Test.YtnmkmmgaoplfiaaGreatDoorJ18
import Derived.Laws.BytesArg
set_option linter.unusedSimpArgs false
set_option linter.unusedVariables false
set_option maxRecDepth 100000
set_option maxHeartbeats 20000000
namespace Go.Proofs.YtnmkmmgaoplfiaaGreatDoor
open Go.RowKit
def blockOf (s : ByteArray) (kind p : Nat) (out : List UInt8) (most : Nat) : Sum Nat (List UInt8 × Nat) :=
 if kind = 0 then plainOf s p out most
 else if kind = 1 then codedGo fixLetters fixDist s most (8 * s.size + 1) p out
 else if kind = 2 then (match ownOf s p with
  | none => .inl 1
  | some (L, D, q) => codedGo L D s most (8 * s.size + 1) q out)
 else .inl 1
def blocksGo (s : ByteArray) (most : Nat) : Nat → Nat → List UInt8 → Sum Nat (List UInt8 × Nat)
 | 0, _, _ => .inl 1
 | f + 1, p, out =>
  if 8 * s.size < p + 3 then .inl 1
  else match blockOf s (numAt s (p + 1) 2) (p + 3) out most with
   | .inl e => .inl e
   | .inr (o, q) => if bitOf s p = 1 then .inr (o, q) else blocksGo s most f q o
theorem codedGo_le (L D : List Nat) (s : ByteArray) (most : Nat) : ∀ f p out o q, codedGo L D s most f p out = .inr (o, q) → p ≤ q ∧ q ≤ 8 * s.size
 | 0, p, out, o, q, h => by simp [codedGo] at h
 | f + 1, p, out, o, q, h => by
  cases hd : dec L s p with
  | none => rw [codedGo_none _ _ _ _ _ _ _ hd] at h; cases h
  | some xq =>
   obtain ⟨x, q1⟩ := xq
   have hx := dec_lt hd
   rw [codedGo_some _ _ _ _ _ _ _ _ _ hd] at h
   by_cases x1 : x = 256
   ·rw [if_pos x1] at h
    simp only [Sum.inr.injEq, Prod.mk.injEq] at h
    obtain ⟨_, rfl⟩ := h
    omega
   ·rw [if_neg x1] at h
    by_cases x2 : x < 256
    ·rw [if_pos x2] at h
     by_cases x3 : most ≤ out.length
     ·rw [if_pos x3] at h; cases h
     ·rw [if_neg x3] at h
      have := codedGo_le L D s most f _ _ o q h
      omega
    ·rw [if_neg x2] at h
     cases hq : copyStep D s q1 out most x with
     | inl k => rw [hq] at h; cases h
     | inr oq =>
      obtain ⟨o1, q2⟩ := oq
      rw [hq] at h
      have h2 := copyStep_le _ _ _ _ _ _ _ _ hq
      have := codedGo_le L D s most f _ _ o q h
      omega
theorem codedGo_inl (L D : List Nat) (s : ByteArray) (most : Nat) : ∀ f p out k, codedGo L D s most f p out = .inl k → k = 1 ∨ k = 2
 | 0, p, out, k, h => by simp only [codedGo, Sum.inl.injEq] at h; omega
 | f + 1, p, out, k, h => by
  cases hd : dec L s p with
  | none => rw [codedGo_none _ _ _ _ _ _ _ hd] at h; simp only [Sum.inl.injEq] at h; omega
  | some xq =>
   obtain ⟨x, q1⟩ := xq
   rw [codedGo_some _ _ _ _ _ _ _ _ _ hd] at h
   by_cases x1 : x = 256
   ·rw [if_pos x1] at h; cases h
   ·rw [if_neg x1] at h
    by_cases x2 : x < 256
    ·rw [if_pos x2] at h
     by_cases x3 : most ≤ out.length
     ·rw [if_pos x3] at h; simp only [Sum.inl.injEq] at h; omega
     ·rw [if_neg x3] at h; exact codedGo_inl L D s most f _ _ k h
    ·rw [if_neg x2] at h
     cases hq : copyStep D s q1 out most x with
     | inl k' => rw [hq] at h; simp only [Sum.inl.injEq] at h; subst h; exact copyStep_inl _ _ _ _ _ _ _ hq
     | inr oq =>
      obtain ⟨o1, q2⟩ := oq
      rw [hq] at h
      exact codedGo_inl L D s most f _ _ k h
theorem lensGo_le (C : List Nat) (s : ByteArray) (want : Nat) : ∀ f p acc l q, p ≤ 8 * s.size → lensGo C s want f p acc = some (l, q) → p ≤ q ∧ q ≤ 8 * s.size
 | 0, p, acc, l, q, hp, h => by
  simp only [lensGo] at h
  by_cases hw : want ≤ acc.length
  ·rw [if_pos hw] at h; cases h; omega
  ·rw [if_neg hw] at h; cases h
 | f + 1, p, acc, l, q, hp, h => by
  by_cases hw : want ≤ acc.length
  ·rw [lensGo_done _ _ _ _ _ _ hw] at h; cases h; omega
  ·cases hd : dec C s p with
   | none => rw [lensGo_none _ _ _ _ _ _ (by omega) hd] at h; cases h
   | some kq =>
    obtain ⟨kind, q1⟩ := kq
    have hk := dec_lt hd
    rw [lensGo_some _ _ _ _ _ kind q1 _ (by omega) hd] at h
    by_cases c1 : kind = 16 ∧ acc.length = 0
    ·rw [if_pos c1] at h; cases h
    ·rw [if_neg c1] at h
     by_cases c2 : 8 * s.size < (lenOf s kind q1 acc).2.2
     ·rw [if_pos c2] at h; cases h
     ·rw [if_neg c2] at h
      by_cases c3 : want < acc.length + (lenOf s kind q1 acc).2.1
      ·rw [if_pos c3] at h; cases h
      ·rw [if_neg c3] at h
       have h1 := lensGo_le C s want f _ _ l q (by omega) h
       have h2 : q1 ≤ (lenOf s kind q1 acc).2.2 := by
        unfold lenOf
        by_cases k1 : kind = 16
        ·rw [if_pos k1]; show q1 ≤ q1 + 2; omega
        ·rw [if_neg k1]
         by_cases k2 : kind = 17
         ·rw [if_pos k2]; show q1 ≤ q1 + 3; omega
         ·rw [if_neg k2]
          by_cases k3 : kind = 18
          ·rw [if_pos k3]; show q1 ≤ q1 + 7; omega
          ·rw [if_neg k3]; exact Nat.le_refl _
       omega
theorem ownOf_le (s : ByteArray) (p : Nat) (L D : List Nat) (q : Nat) (h : ownOf s p = some (L, D, q)) : p ≤ q ∧ q ≤ 8 * s.size ∧ L.length ≤ 288 := by
 unfold ownOf at h
 generalize numAt s p 5 = x at h
 generalize numAt s (p + 5) 5 = y at h
 generalize numAt s (p + 10) 4 = z at h
 by_cases c1 : 286 < x + 257 ∨ 30 < y + 1
 ·rw [if_pos c1] at h; cases h
 ·rw [if_neg c1] at h
  generalize lens3 s (p + 14) (z + 4) = C at h
  by_cases c2 : 8 * s.size < p + 14 + 3 * (z + 4) ∨ freeOf C 15 ≠ 0
  ·rw [if_pos c2] at h; cases h
  ·rw [if_neg c2] at h
   cases hz : lensGo C s (x + 257 + (y + 1)) (x + 257 + (y + 1)) (p + 14 + 3 * (z + 4)) [] with
   | none => rw [hz] at h; cases h
   | some lq =>
    obtain ⟨l, q'⟩ := lq
    have hl := lensGo_le C s _ _ _ _ l q' (by omega) hz
    rw [hz] at h
    change (if l.getD 256 0 = 0 then _ else _) = _ at h
    by_cases c3 : l.getD 256 0 = 0
    ·rw [if_pos c3] at h; cases h
    ·rw [if_neg c3] at h
     by_cases c4 : fine (l.take (x + 257)) (l.drop (x + 257)) = true
     ·rw [if_pos c4] at h
      simp only [Option.some.injEq, Prod.mk.injEq] at h
      obtain ⟨rfl, _, rfl⟩ := h
      refine ⟨by omega, hl.2, ?_⟩
      rw [List.length_take]; omega
     ·rw [if_neg c4] at h; cases h
theorem plainOf_le (s : ByteArray) (p : Nat) (out : List UInt8) (most : Nat) (o : List UInt8) (q : Nat) (h : plainOf s p out most = .inr (o, q)) : p ≤ q ∧ q ≤ 8 * s.size := by
 unfold plainOf at h
 generalize numAt s (8 * ((p + 7) / 8)) 16 = n at h
 generalize numAt s (8 * ((p + 7) / 8) + 16) 16 = m at h
 by_cases c1 : 8 * s.size < 8 * ((p + 7) / 8) + 32 ∨ m ≠ 65535 - n
 ·rw [if_pos c1] at h; cases h
 ·rw [if_neg c1] at h
  by_cases c2 : n ≤ s.size - ((p + 7) / 8 + 4) ∧ n ≤ most - out.length
  ·rw [if_pos c2] at h
   simp only [Sum.inr.injEq, Prod.mk.injEq] at h
   obtain ⟨_, rfl⟩ := h
   omega
  ·rw [if_neg c2] at h
   by_cases c3 : s.size - ((p + 7) / 8 + 4) ≤ most - out.length
   ·rw [if_pos c3] at h; cases h
   ·rw [if_neg c3] at h; cases h
theorem plainOf_inl (s : ByteArray) (p : Nat) (out : List UInt8) (most k : Nat) (h : plainOf s p out most = .inl k) : k = 1 ∨ k = 2 := by
 unfold plainOf at h
 split at h
 ·simp only [Sum.inl.injEq] at h; omega
 ·split at h
  ·cases h
  ·split at h <;> (simp only [Sum.inl.injEq] at h; omega)
theorem blockOf_le (s : ByteArray) (kind p : Nat) (out : List UInt8) (most : Nat) (o : List UInt8) (q : Nat) (h : blockOf s kind p out most = .inr (o, q)) : p ≤ q ∧ q ≤ 8 * s.size := by
 unfold blockOf at h
 by_cases k0 : kind = 0
 ·rw [if_pos k0] at h; exact plainOf_le _ _ _ _ _ _ h
 ·rw [if_neg k0] at h
  by_cases k1 : kind = 1
  ·rw [if_pos k1] at h; exact codedGo_le _ _ _ _ _ _ _ _ _ h
  ·rw [if_neg k1] at h
   by_cases k2 : kind = 2
   ·rw [if_pos k2] at h
    cases ho : ownOf s p with
    | none => rw [ho] at h; cases h
    | some ldq =>
     obtain ⟨L, D, q'⟩ := ldq
     rw [ho] at h
     have := ownOf_le s p L D q' ho
     have h2 := codedGo_le _ _ _ _ _ _ _ _ _ h
     omega
   ·rw [if_neg k2] at h; cases h
theorem blockOf_inl (s : ByteArray) (kind p : Nat) (out : List UInt8) (most k : Nat) (h : blockOf s kind p out most = .inl k) : k = 1 ∨ k = 2 := by
 unfold blockOf at h
 by_cases k0 : kind = 0
 ·rw [if_pos k0] at h; exact plainOf_inl _ _ _ _ _ h
 ·rw [if_neg k0] at h
  by_cases k1 : kind = 1
  ·rw [if_pos k1] at h; exact codedGo_inl _ _ _ _ _ _ _ _ h
  ·rw [if_neg k1] at h
   by_cases k2 : kind = 2
   ·rw [if_pos k2] at h
    cases ho : ownOf s p with
    | none => rw [ho] at h; simp only [Sum.inl.injEq] at h; omega
    | some ldq =>
     obtain ⟨L, D, q'⟩ := ldq
     rw [ho] at h
     exact codedGo_inl _ _ _ _ _ _ _ _ h
   ·rw [if_neg k2] at h; simp only [Sum.inl.injEq] at h; omega
theorem Inf.fix {w w1 : World} {b : Nat} {s : ByteArray} {p : Nat} {out : List UInt8} {most fb n1 c1 n2 c2 : Nat} (h : Inf w b s p out most) (ht : Touch (fun _ => False) w w1) (hc : Codes w1 fb n1 c1 n2 c2 fixLetters fixDist) (h0 : b < fb) (h1 : b < n1) (h2 : b < n2) :
  Inf (w1.setCell ⟨b, 7, none⟩ (.pointer (some ⟨fb, 0, none⟩))) b s p out most ∧ IT b w (w1.setCell ⟨b, 7, none⟩ (.pointer (some ⟨fb, 0, none⟩))) ∧ Codes (w1.setCell ⟨b, 7, none⟩ (.pointer (some ⟨fb, 0, none⟩))) fb n1 c1 n2 c2 fixLetters fixDist := by
 have hlt := h.lt
 have cc : ∀ o, w1.cell? ⟨b, o, none⟩ = w.cell? ⟨b, o, none⟩ := fun o => ht.cell hlt (fun e => e)
 have ff : ∀ o, w1.frozen? ⟨b, o, none⟩ = w.frozen? ⟨b, o, none⟩ := fun o => ht.frozen hlt (fun e => e)
 have t2 : Touch (· = b) w1 (w1.setCell ⟨b, 7, none⟩ (.pointer (some ⟨fb, 0, none⟩))) := Touch.setCell (S := (· = b)) (Touch.refl _ w1) (p := ⟨b, 7, none⟩) rfl _
 have hc2 := hc.keepS t2 (by show ¬ fb = b; omega) (by show ¬ n1 = b; omega) (by show ¬ n2 = b; omega)
 have it : IT b w (w1.setCell ⟨b, 7, none⟩ (.pointer (some ⟨fb, 0, none⟩))) := Touch.setCell (ht.mono (fun _ _ e => e.elim)) (p := ⟨b, 7, none⟩) (Or.inl rfl) _
 obtain ⟨ao, cap, g5, go⟩ := h.gv
 obtain ⟨v7, g7, _⟩ := h.fx
 have r := h.rd
 refine ⟨⟨⟨?_, ?_, ?_, ?_, ?_, ?_⟩, ⟨ao, cap, ?_, ?_⟩, ?_, ⟨_, ?_, Or.inr ⟨fb, n1, c1, n2, c2, rfl, hc2, h0, h1, h2⟩⟩, h.fit, h.few, h.top⟩, it, hc2⟩
 ·rw [cell_set_ne (by omega), cc]; exact r.c0
 ·rw [cell_set_ne (by omega), cc]; exact r.c1
 ·rw [cell_set_ne (by omega), cc]; exact r.c2
 ·rw [cell_set_ne (by omega), cc]; exact r.c3
 ·rw [cell_set_ne (by omega), cc]; exact r.c4
 ·intro o; rw [World.frozen?_setCell, ff]; exact r.fr o
 ·rw [cell_set_ne (by omega), cc]; exact g5
 ·exact t2.owns (ht.owns go (fun _ _ e => e)) (fun k hk (e : k = b) => by have := (go.lt k hk).1; omega)
 ·rw [cell_set_ne (by omega), cc]; exact h.ms
 ·simp [cell_set_if, cc, g7]
theorem plain_r (b : Nat) (w : World) (s : ByteArray) (p : Nat) (out : List UInt8) (most : Nat) (R : Sum Nat (List UInt8 × Nat)) (hR : plainOf s p out most = R) (hs : s.size ≤ 2147483648) (h : Inf w b s p out most) (hp : p ≤ 8 * s.size) :
  Calls Tryz.prog 83 #[.pointer (some ⟨b, 0, none⟩)] w (infPost b s most w R) := by
 subst hR; exact plain_c b w s p out most hs h hp
theorem coded_r (b : Nat) (w : World) (s : ByteArray) (p : Nat) (out : List UInt8) (most cb n1 c1 n2 c2 : Nat) (L D : List Nat) (R : Sum Nat (List UInt8 × Nat)) (hR : codedGo L D s most (8 * s.size + 1) p out = R) (hs : s.size ≤ 2147483648) (h : Inf w b s p out most) (hp : p ≤ 8 * s.size) (hc : Codes w cb n1 c1 n2 c2 L D) (h0 : b < cb) (h1 : b < n1) (h2 : b < n2) (hL : L.length ≤ 288) :
  Calls Tryz.prog 85 #[.pointer (some ⟨b, 0, none⟩), .pointer (some ⟨cb, 0, none⟩)] w (infPost b s most w R) := by
 subst hR; exact coded_c b w s p out most cb n1 c1 n2 c2 L D hs h hp hc h0 h1 h2 hL _ (by omega)
theorem own_none (w : World) (b : Nat) (s : ByteArray) (p : Nat) (hR : ownOf s p = none) (hs : s.size ≤ maxLen) (hr : Rd w b s p) (ho : Ord w) (hb : 0 < b) :
  Calls Tryz.prog 86 #[.pointer (some ⟨b, 0, none⟩)] w fun e w' => ∃ v, e = .returned (.tuple #[v, .bool false]) ∧ RN b w w' := by
 refine (ownCodes_c w b s p hs hr ho hb).mono ?_
 rintro e w' ⟨rn, he⟩
 rw [hR] at he
 obtain ⟨v, rfl⟩ := he
 exact ⟨v, rfl, rn⟩
theorem own_some (w : World) (b : Nat) (s : ByteArray) (p : Nat) (L D : List Nat) (q : Nat) (hR : ownOf s p = some (L, D, q)) (hs : s.size ≤ maxLen) (hr : Rd w b s p) (ho : Ord w) (hb : 0 < b) :
  Calls Tryz.prog 86 #[.pointer (some ⟨b, 0, none⟩)] w fun e w' => ∃ fb n1 c1 n2 c2, e = .returned (.tuple #[.pointer (some ⟨fb, 0, none⟩), .bool true]) ∧ Codes w' fb n1 c1 n2 c2 L D ∧ w.heap.size ≤ fb ∧ w.heap.size ≤ n1 ∧ w.heap.size ≤ n2 ∧ Rd w' b s q ∧ RN b w w' := by
 refine (ownCodes_c w b s p hs hr ho hb).mono ?_
 rintro e w' ⟨rn, he⟩
 rw [hR] at he
 obtain ⟨fb, n1, c1, n2, c2, rfl, h1, h2, h3, h4, h5⟩ := he
 exact ⟨fb, n1, c1, n2, c2, rfl, h1, h2, h3, h4, h5, rn⟩
theorem fix_len : fixLetters.length ≤ 288 := by
 unfold fixLetters
 simp only [List.length_append, List.length_replicate, List.length_nil]; omega
theorem infPost.val {b : Nat} {s : ByteArray} {most : Nat} {w w' : World} {r : Sum Nat (List UInt8 × Nat)} {e : Ending} (h : infPost b s most w r e w') : ∃ k : Nat, e = .returned (.int .i64 (k : Int)) ∧ IT b w w' ∧ infPost b s most w r (.returned (.int .i64 (k : Int))) w' := by
 obtain ⟨it, h⟩ := h
 cases r with
 | inl k => exact ⟨k, h, it, it, rfl⟩
 | inr oq => obtain ⟨rfl, hi⟩ := h; exact ⟨0, rfl, it, it, rfl, hi⟩
theorem infPost.from {b : Nat} {s : ByteArray} {most : Nat} {w0 w w' : World} {r : Sum Nat (List UInt8 × Nat)} {e : Ending} (h : infPost b s most w r e w') (h0 : IT b w0 w) : infPost b s most w0 r e w' := ⟨h0.trans h.1, h.2⟩
theorem block_c (b : Nat) (w : World) (s : ByteArray) (kind p : Nat) (out : List UInt8) (most : Nat) (hs : s.size ≤ 2147483648) (h : Inf w b s p out most) (hp : p ≤ 8 * s.size) (ho : Ord w) (hb : 0 < b) (hk : kind ≤ 3) :
  Calls Tryz.prog 63 #[.pointer (some ⟨b, 0, none⟩), .int .i64 (kind : Int)] w (infPost b s most w (blockOf s kind p out most)) := by
 have hsm : s.size ≤ maxLen := by unfold maxLen; omega
 have hlt := h.lt
 obtain ⟨R, hR⟩ : ∃ R, R = blockOf s kind p out most := ⟨_, rfl⟩
 have HR : Hid (R = blockOf s kind p out most) := hR
 rw [← hR]
 clear hR
 unfold blockOf at HR
 by_cases k0 : kind = 0
 ·have HE : Hid (plainOf s p out most = R) := by unfold Hid; rw [HR.out, if_pos k0]
  subst k0
  go_enter Tryz.func63, Tryz.ntmps63
  go_wp2_with fail
  refine (plain_r b w s p out most R HE.out hs h hp).mono ?_
  rintro e w1 hpost
  obtain ⟨v, rfl, it, hpost⟩ := hpost.val
  go_wp2
  go_ret
  exact hpost
 ·by_cases k1 : kind = 1
  ·have HE : Hid (codedGo fixLetters fixDist s most (8 * s.size + 1) p out = R) := by unfold Hid; rw [HR.out, if_neg k0, if_pos k1]
   subst k1
   obtain ⟨v7, h7, hf⟩ := h.fx
   have f7 := h.rd.fr 7
   rcases hf with rfl | ⟨fb, n1, c1, n2, c2, rfl, hc, g0, g1, g2⟩
   ·go_enter Tryz.func63, Tryz.ntmps63
    go_wp2_with fail
    refine (fixedCodes_c w).mono ?_
    rintro e w1 ⟨fb, n1, c1, n2, c2, rfl, hc, g0, g1, g2, t1⟩
    obtain ⟨hin, it, hc2⟩ := h.fix t1 hc (by omega) (by omega) (by omega)
    have q7 : w1.cell? ⟨b, 7, none⟩ = some (.pointer none) := t1.at h7 (fun e => e)
    have p7 : w1.frozen? ⟨b, 7, none⟩ = false := (t1.frozen (p := ⟨b, 7, none⟩) hlt (fun e => e)).trans f7
    go_wp2_with fail
    refine (coded_r b _ s p out most fb n1 c1 n2 c2 _ _ R HE.out hs hin hp hc2 (by omega) (by omega) (by omega) fix_len).mono ?_
    rintro e w2 hpost
    obtain ⟨v, rfl, it2, hpost⟩ := (hpost.from it).val
    go_wp2
    go_ret
    exact hpost
   ·go_enter Tryz.func63, Tryz.ntmps63
    go_wp2_with fail
    refine (coded_r b _ s p out most fb n1 c1 n2 c2 _ _ R HE.out hs h hp hc g0 g1 g2 fix_len).mono ?_
    rintro e w2 hpost
    obtain ⟨v, rfl, it2, hpost⟩ := hpost.val
    go_wp2
    go_ret
    exact hpost
  ·by_cases k2 : kind = 2
   ·have hh := HR.out
    rw [if_neg k0, if_neg k1, if_pos k2] at hh
    subst k2
    cases hO : ownOf s p with
    | none =>
     rw [hO] at hh
     have HE : Hid (R = .inl 1) := hh
     have HO : Hid (ownOf s p = none) := hO
     clear hh hO HR
     go_enter Tryz.func63, Tryz.ntmps63
     go_wp2_with fail
     refine (own_none w b s p HO.out hsm h.rd ho hb).mono ?_
     rintro e w1 ⟨v, rfl, rn⟩
     go_wp2
     go_ret
     exact ⟨IT.ofRN rn, by rw [HE.out]; rfl⟩
    | some ldq =>
     obtain ⟨L, D, q⟩ := ldq
     have hle := ownOf_le s p L D q hO
     rw [hO] at hh
     have HE : Hid (codedGo L D s most (8 * s.size + 1) q out = R) := hh.symm
     have HO : Hid (ownOf s p = some (L, D, q)) := hO
     clear hh hO HR
     go_enter Tryz.func63, Tryz.ntmps63
     go_wp2_with fail
     refine (own_some w b s p L D q HO.out hsm h.rd ho hb).mono ?_
     rintro e w1 ⟨fb, n1, c1, n2, c2, rfl, hc, g0, g1, g2, r1, rn⟩
     have hin := h.read r1 rn hle.1
     go_wp2_with fail
     refine (coded_r b w1 s q out most fb n1 c1 n2 c2 L D R HE.out hs hin hle.2.1 hc (by omega) (by omega) (by omega) hle.2.2).mono ?_
     rintro e w2 hpost
     obtain ⟨v, rfl, it2, hpost⟩ := (hpost.from (IT.ofRN rn)).val
     go_wp2
     go_ret
     exact hpost
   ·have HE : Hid (R = .inl 1) := by unfold Hid; rw [HR.out, if_neg k0, if_neg k1, if_neg k2]
    obtain rfl : kind = 3 := by omega
    go_enter Tryz.func63, Tryz.ntmps63
    go_wp2
    go_ret
    exact ⟨IT.refl _ _, by rw [HE.out]; rfl⟩
end Go.Proofs.YtnmkmmgaoplfiaaGreatDoor
namespace Go.Proofs.YtnmkmmgaoplfiaaGreatDoor
open Go.RowKit
theorem Ord.keepI {b : Nat} {w w' : World} (h : Ord w) (ht : IT b w w') (hb : 0 < b) : Ord w' := h.keep ht (by rintro (e | ⟨e, _⟩) <;> omega)
theorem bit_r (b : Nat) (w : World) (s : ByteArray) (p v : Nat) (hv : bitOf s p = v) (hs : s.size ≤ maxLen) (h : Rd w b s p) :
  Calls Tryz.prog 61 #[.pointer (some ⟨b, 0, none⟩)] w fun e w' => e = .returned (.int .i64 (v : Int)) ∧ Rd w' b s (p + 1) ∧ RT b w w' := by
 subst hv; exact bit_c b w s p hs h
theorem block_r (b : Nat) (w : World) (s : ByteArray) (kind p : Nat) (out : List UInt8) (most : Nat) (R : Sum Nat (List UInt8 × Nat)) (hR : blockOf s kind p out most = R) (hs : s.size ≤ 2147483648) (h : Inf w b s p out most) (hp : p ≤ 8 * s.size) (ho : Ord w) (hb : 0 < b) (hk : kind ≤ 3) :
  Calls Tryz.prog 63 #[.pointer (some ⟨b, 0, none⟩), .int .i64 (kind : Int)] w (infPost b s most w R) := by
 subst hR; exact block_c b w s kind p out most hs h hp ho hb hk
theorem blocks_c (b : Nat) (w : World) (s : ByteArray) (p : Nat) (out : List UInt8) (most : Nat) (hs : s.size ≤ 2147483648) (h : Inf w b s p out most) (hp : p ≤ 8 * s.size) (ho : Ord w) (hb : 0 < b) (f : Nat) (hf : 8 * s.size + 1 ≤ p + f) :
  Calls Tryz.prog 37 #[.pointer (some ⟨b, 0, none⟩)] w (infPost b s most w (blocksGo s most f p out)) := by
 have hsm : s.size ≤ maxLen := by unfold maxLen; omega
 obtain ⟨R, hR⟩ : ∃ R, R = blocksGo s most f p out := ⟨_, rfl⟩
 have HR0 : Hid (R = blocksGo s most f p out) := hR
 rw [← hR]
 clear hR
 go_enter Tryz.func37, Tryz.ntmps37
 go_wp2
 go_loopg [] f (fun g wr => ∃ p out, Inf wr b s p out most ∧ p ≤ 8 * s.size ∧ 8 * s.size + 1 ≤ p + g ∧ IT b w wr ∧ Hid (R = blocksGo s most g p out))
 case atStart => exact ⟨p, out, h, hp, hf, IT.refl _ _, HR0⟩
 case round =>
  clear HR0 h hp hf
  obtain ⟨p, out, hin, hp, hf, hit, HR⟩ := hrel
  obtain ⟨g, rfl⟩ : ∃ g, gk = g + 1 := ⟨gk - 1, by omega⟩
  have hh := HR.out
  unfold blocksGo at hh
  obtain ⟨v, hv⟩ : ∃ v, bitOf s p = v := ⟨_, rfl⟩
  obtain ⟨kd, hkd⟩ : ∃ kd, kd = numAt s (p + 1) 2 := ⟨_, rfl⟩
  have bk := numAt_lt s (p + 1) 2
  rw [hv, ← hkd] at hh
  rw [← hkd] at bk
  have HR' : Hid (R = _) := hh
  have HV : Hid (bitOf s p = v) := hv
  have HK : Hid (kd = numAt s (p + 1) 2) := hkd
  clear hh HR hv hkd
  go_wp2_with fail
  refine (bit_r b wr s p v HV.out hsm hin.rd).mono ?_
  rintro e w1 ⟨rfl, r1, t1⟩
  go_wp2_with fail
  refine (number_i b w1 s (p + 1) 2 _ rfl (by omega) hsm r1).mono ?_
  rintro e w2 ⟨rfl, r2, t2⟩
  rw [← HK.out]
  have z4 := r2.c4
  have RN2 := t1.rn.trans t2.rn
  have IT2 := hit.trans (IT.ofRN RN2)
  rw [show p + 1 + 2 = p + 3 by omega] at z4 r2
  by_cases c1 : 8 * s.size < p + 3
  ·have HE : Hid (R = .inl 1) := by unfold Hid; rw [HR'.out, if_pos c1]
   go_wp2
   go_ret
   exact ⟨IT2, by rw [HE.out]; rfl⟩
  ·have hh := HR'.out
   rw [if_neg c1] at hh
   have i2 := hin.read r2 RN2 (by omega)
   have o2 := ho.keepI IT2 hb
   cases hB : blockOf s kd (p + 3) out most with
   | inl k =>
    have hk0 := blockOf_inl s kd (p + 3) out most k hB
    rw [hB] at hh
    have HE : Hid (R = .inl k) := hh
    have HB : Hid (blockOf s kd (p + 3) out most = .inl k) := hB
    have hk1 : ¬ k = 0 := by omega
    clear hh hB HR'
    go_wp2_with fail
    refine (block_r b w2 s kd (p + 3) out most _ HB.out hs i2 (by omega) o2 hb (by omega)).mono ?_
    rintro e w3 ⟨t3, rfl⟩
    go_wp2
    go_ret
    exact ⟨IT2.trans t3, by rw [HE.out]; rfl⟩
   | inr oq =>
    obtain ⟨o, q⟩ := oq
    have hle := blockOf_le s kd (p + 3) out most o q hB
    rw [hB] at hh
    have HR : Hid (R = if v = 1 then .inr (o, q) else blocksGo s most g q o) := hh
    have HB : Hid (blockOf s kd (p + 3) out most = .inr (o, q)) := hB
    clear hh hB HR'
    by_cases c2 : v = 1
    ·have HE : Hid (R = .inr (o, q)) := by unfold Hid; rw [HR.out, if_pos c2]
     go_wp2_with fail
     refine (block_r b w2 s kd (p + 3) out most _ HB.out hs i2 (by omega) o2 hb (by omega)).mono ?_
     rintro e w3 ⟨t3, rfl, i3⟩
     go_wp2
     go_ret
     exact ⟨IT2.trans t3, by rw [HE.out]; exact ⟨rfl, i3⟩⟩
    ·have HE : Hid (R = blocksGo s most g q o) := by unfold Hid; rw [HR.out, if_neg c2]
     go_wp2_with fail
     refine (block_r b w2 s kd (p + 3) out most _ HB.out hs i2 (by omega) o2 hb (by omega)).mono ?_
     rintro e w3 ⟨t3, rfl, i3⟩
     go_wp2
     go_roundg g
     case measure => omega
     case rel => exact ⟨q, o, i3, hle.2, by omega, IT2.trans t3, HE⟩
theorem out_str {W : World} {base cap n : Nat} {ao : Option Addr} {out : List UInt8} (ho : W.ownsRow base 5 1 (.slice ao n cap) n (byteV out)) (hn : n = out.length) : (convert 86 9 (.slice ao n cap)).run Tryz.prog W = .ok (.string ⟨out.toArray⟩) W := by
 subst hn
 rcases ho.2 with ⟨e, h0⟩ | ⟨g, cap', cur, e, _, _⟩
 ·have he : out = [] := List.eq_nil_of_length_eq_zero h0
  subst he
  cases e
  exact run_convert_bytes_nil W 86 5 Tryz.underlying86 Tryz.underlying5 _ _ 9 Tryz.underlying9
 ·cases e
  have := run_convert_bytes_arg (P := Tryz.prog) W 86 5 Tryz.underlying86 Tryz.underlying5 g 0 out.length cap (out.map fun c => (c.toNat : Int)) (by simp) (by
   intro i hi
   rw [Nat.zero_add, ho.cellAt i (by omega)]
   simp [byteV, hi]) 9 Tryz.underlying9
  have e2 : strOfNums (out.map fun c => (c.toNat : Int)) = ⟨out.toArray⟩ := by
   unfold strOfNums
   have e3 : (out.map fun c => (c.toNat : Int)).map (fun n : Int => UInt8.ofNat n.toNat) = out := by
    rw [List.map_map]
    have : ((fun n : Int => UInt8.ofNat n.toNat) ∘ fun c : UInt8 => (c.toNat : Int)) = id := by funext c; simp
    rw [this, List.map_id]
   rw [e3]
  rw [this, e2]
def inflateOf (s : ByteArray) (most : Int) : Sum Nat (List UInt8 × Nat) := blocksGo s (max most 0).toNat (8 * s.size + 1) 0 []
def inflateVal (r : Sum Nat (List UInt8 × Nat)) : Value :=
 match r with
 | .inl k => .tuple #[.string ⟨#[]⟩, .int .i64 0, .int .i64 (k : Int)]
 | .inr (out, q) => .tuple #[.string ⟨out.toArray⟩, .int .i64 (((q + 7) / 8 : Nat) : Int), .int .i64 0]
theorem blocksGo_le (s : ByteArray) (most : Nat) : ∀ f p out o q, blocksGo s most f p out = .inr (o, q) → q ≤ 8 * s.size
 | 0, p, out, o, q, h => by simp [blocksGo] at h
 | f + 1, p, out, o, q, h => by
  unfold blocksGo at h
  by_cases c1 : 8 * s.size < p + 3
  ·rw [if_pos c1] at h; cases h
  ·rw [if_neg c1] at h
   cases hB : blockOf s (numAt s (p + 1) 2) (p + 3) out most with
   | inl k => rw [hB] at h; cases h
   | inr oq =>
    obtain ⟨o1, q1⟩ := oq
    rw [hB] at h
    have hle := blockOf_le _ _ _ _ _ _ _ hB
    change (if bitOf s p = 1 then _ else _) = _ at h
    by_cases c2 : bitOf s p = 1
    ·rw [if_pos c2] at h
     simp only [Sum.inr.injEq, Prod.mk.injEq] at h
     omega
    ·rw [if_neg c2] at h
     exact blocksGo_le s most f _ _ o q h
theorem blocksGo_inl (s : ByteArray) (most : Nat) : ∀ f p out k, blocksGo s most f p out = .inl k → k = 1 ∨ k = 2
 | 0, p, out, k, h => by simp only [blocksGo, Sum.inl.injEq] at h; omega
 | f + 1, p, out, k, h => by
  unfold blocksGo at h
  by_cases c1 : 8 * s.size < p + 3
  ·rw [if_pos c1] at h; simp only [Sum.inl.injEq] at h; omega
  ·rw [if_neg c1] at h
   cases hB : blockOf s (numAt s (p + 1) 2) (p + 3) out most with
   | inl k' => rw [hB] at h; simp only [Sum.inl.injEq] at h; subst h; exact blockOf_inl _ _ _ _ _ _ hB
   | inr oq =>
    obtain ⟨o1, q1⟩ := oq
    rw [hB] at h
    change (if bitOf s p = 1 then _ else _) = _ at h
    by_cases c2 : bitOf s p = 1
    ·rw [if_pos c2] at h; cases h
    ·rw [if_neg c2] at h
     exact blocksGo_inl s most f _ _ k h
theorem inf_new (w : World) (s : ByteArray) (M : Nat) (hM : M ≤ 9223372036854775807) : Inf (w.alloc (.cells #[.string s, .int .i64 0, .int .u8 0, .int .i64 0, .bool false, .slice none 0 0, .int .i64 (M : Int), .pointer none] 89)) w.heap.size s 0 [] M := by
 have hc : ∀ j, (w.alloc (.cells #[.string s, .int .i64 0, .int .u8 0, .int .i64 0, .bool false, .slice none 0 0, .int .i64 (M : Int), .pointer none] 89)).cell? ⟨w.heap.size, j, none⟩ = #[Value.string s, .int .i64 0, .int .u8 0, .int .i64 0, .bool false, .slice none 0 0, .int .i64 (M : Int), .pointer none][j]? := fun j => row_cell (heap_alloc_new w _) j
 refine ⟨⟨?_, ?_, ⟨0, by omega, ?_, ?_⟩, ?_, ?_, ?_⟩, ⟨none, 0, ?_, World.ownsRow_nil _ _ _ _⟩, ?_, ⟨_, ?_, Or.inl rfl⟩, Nat.zero_le _, Nat.zero_le _, hM⟩
 ·rw [hc]; rfl
 ·rw [hc]; simp
 ·rw [hc]; rfl
 ·intro _ h; omega
 ·rw [hc]; simp
 ·rw [hc]; simp
 ·intro o; exact row_fr (heap_alloc_new w _) o
 ·rw [hc]; rfl
 ·rw [hc]; rfl
 ·rw [hc]; rfl
theorem blocks_r (b : Nat) (w : World) (s : ByteArray) (p : Nat) (out : List UInt8) (most : Nat) (R : Sum Nat (List UInt8 × Nat)) (hR : blocksGo s most (8 * s.size + 1) p out = R) (hs : s.size ≤ 2147483648) (h : Inf w b s p out most) (hp : p ≤ 8 * s.size) (ho : Ord w) (hb : 0 < b) :
  Calls Tryz.prog 37 #[.pointer (some ⟨b, 0, none⟩)] w (infPost b s most w R) := by
 subst hR; exact blocks_c b w s p out most hs h hp ho hb _ (by omega)
theorem inflate_c (w : World) (s : ByteArray) (most : Int) (hm : most ≤ 9223372036854775807) (hs : s.size ≤ 2147483648) (ho : Ord w) (hb : 0 < w.heap.size) :
  Calls Tryz.prog 15 #[.string s, .int .i64 most] w fun e w' => e = .returned (inflateVal (inflateOf s most)) ∧ Below w.heap.size w w' := by
 obtain ⟨M, hM⟩ : ∃ M : Nat, (max most 0) = (M : Int) := ⟨(max most 0).toNat, by omega⟩
 have hM2 : M ≤ 9223372036854775807 := by omega
 have hmm : (max most 0).toNat = M := by omega
 have hin := inf_new w s M hM2
 have hdo : Touch (fun _ => False) w (w.alloc (.cells #[.string s, .int .i64 0, .int .u8 0, .int .i64 0, .bool false, .slice none 0 0, .int .i64 (M : Int), .pointer none] 89)) := (Touch.refl _ w).alloc _
 obtain ⟨R, hR⟩ : ∃ R, R = inflateOf s most := ⟨_, rfl⟩
 have HB : Hid (R = blocksGo s M (8 * s.size + 1) 0 []) := by unfold Hid; rw [hR]; unfold inflateOf; rw [hmm]
 rw [← hR]
 clear hR hmm
 have fin : ∀ w', IT w.heap.size (w.alloc (.cells #[.string s, .int .i64 0, .int .u8 0, .int .i64 0, .bool false, .slice none 0 0, .int .i64 (M : Int), .pointer none] 89)) w' → Below w.heap.size w w' := fun w' it =>
  ((Below.refl _ w).alloc (Nat.le_refl _) _).trans (it.toBelow (by simp) (fun k hk e => by rcases e with e | ⟨e, _⟩ <;> omega))
 have o1 : Ord (w.alloc (.cells #[.string s, .int .i64 0, .int .u8 0, .int .i64 0, .bool false, .slice none 0 0, .int .i64 (M : Int), .pointer none] 89)) := ho.keep hdo (fun e => e)
 by_cases h0 : 0 ≤ most
 ·have hx : most = (M : Int) := by omega
  subst hx
  clear hM
  cases hRR : R with
  | inl k =>
   have HE : Hid (blocksGo s M (8 * s.size + 1) 0 [] = .inl k) := by unfold Hid; rw [← HB.out, hRR]
   have hk := blocksGo_inl _ _ _ _ _ _ HE.out
   have hk0 : ¬ k = 0 := by omega
   clear hRR
   go_enter Tryz.func15, Tryz.ntmps15
   go_wp2_with fail
   refine (blocks_r w.heap.size _ s 0 [] M _ HE.out hs hin (Nat.zero_le _) o1 hb).mono ?_
   rintro e w1 ⟨it, rfl⟩
   have F1 := fin w1 it
   go_wp2
   go_ret3
   exact ⟨rfl, F1⟩
  | inr oq =>
   obtain ⟨out, q⟩ := oq
   have HE : Hid (blocksGo s M (8 * s.size + 1) 0 [] = .inr (out, q)) := by unfold Hid; rw [← HB.out, hRR]
   have hq := blocksGo_le _ _ _ _ _ _ _ HE.out
   clear hRR
   go_enter Tryz.func15, Tryz.ntmps15
   go_wp2_with fail
   refine (blocks_r w.heap.size _ s 0 [] M _ HE.out hs hin (Nat.zero_le _) o1 hb).mono ?_
   rintro e w1 ⟨it, rfl, i1⟩
   have F1 := fin w1 it
   obtain ⟨ao, cap, g5, gO⟩ := i1.gv
   have g1 := i1.rd.c1
   rw [show min s.size ((q + 7) / 8) = (q + 7) / 8 by omega] at g1
   have cv : ∀ W : World, W.heap = w1.heap → (convert 86 9 (.slice ao out.length cap)).run Tryz.prog W = .ok (.string ⟨out.toArray⟩) W := fun W hW => out_str (base := w.heap.size + 1) (by unfold World.ownsRow at gO ⊢; rw [hW]; exact gO) rfl
   have cv1 := cv w1 rfl
   have cv2 := cv w1.drew rfl
   clear it i1
   obtain ⟨t, ht⟩ : ∃ t, t = (q + 7) / 8 := ⟨_, rfl⟩
   rw [← ht] at g1
   have HT : Hid (t = (q + 7) / 8) := ht
   clear ht hq
   go_wp2
   go_region
   all_goals go_wp2
   all_goals go_ret3
   all_goals
    have e1 : inflateVal (.inr (out, q)) = .tuple #[.string ⟨out.toArray⟩, .int .i64 (t : Int), .int .i64 0] := by rw [HT.out]; rfl
    rw [e1]
    exact ⟨rfl, F1.drew⟩
 ·obtain rfl : M = 0 := by omega
  clear hM
  cases hRR : R with
  | inl k =>
   have HE : Hid (blocksGo s 0 (8 * s.size + 1) 0 [] = .inl k) := by unfold Hid; rw [← HB.out, hRR]
   have hk := blocksGo_inl _ _ _ _ _ _ HE.out
   have hk0 : ¬ k = 0 := by omega
   clear hRR
   go_enter Tryz.func15, Tryz.ntmps15
   go_wp2_with fail
   refine (blocks_r w.heap.size _ s 0 [] 0 _ HE.out hs hin (Nat.zero_le _) o1 hb).mono ?_
   rintro e w1 ⟨it, rfl⟩
   have F1 := fin w1 it
   go_wp2
   go_ret3
   exact ⟨rfl, F1⟩
  | inr oq =>
   obtain ⟨out, q⟩ := oq
   have HE : Hid (blocksGo s 0 (8 * s.size + 1) 0 [] = .inr (out, q)) := by unfold Hid; rw [← HB.out, hRR]
   have hq := blocksGo_le _ _ _ _ _ _ _ HE.out
   clear hRR
   go_enter Tryz.func15, Tryz.ntmps15
   go_wp2_with fail
   refine (blocks_r w.heap.size _ s 0 [] 0 _ HE.out hs hin (Nat.zero_le _) o1 hb).mono ?_
   rintro e w1 ⟨it, rfl, i1⟩
   have F1 := fin w1 it
   obtain ⟨ao, cap, g5, gO⟩ := i1.gv
   have g1 := i1.rd.c1
   rw [show min s.size ((q + 7) / 8) = (q + 7) / 8 by omega] at g1
   have cv : ∀ W : World, W.heap = w1.heap → (convert 86 9 (.slice ao out.length cap)).run Tryz.prog W = .ok (.string ⟨out.toArray⟩) W := fun W hW => out_str (base := w.heap.size + 1) (by unfold World.ownsRow at gO ⊢; rw [hW]; exact gO) rfl
   have cv1 := cv w1 rfl
   have cv2 := cv w1.drew rfl
   clear it i1
   obtain ⟨t, ht⟩ : ∃ t, t = (q + 7) / 8 := ⟨_, rfl⟩
   rw [← ht] at g1
   have HT : Hid (t = (q + 7) / 8) := ht
   clear ht hq
   go_wp2
   go_region
   all_goals go_wp2
   all_goals go_ret3
   all_goals
    have e1 : inflateVal (.inr (out, q)) = .tuple #[.string ⟨out.toArray⟩, .int .i64 (t : Int), .int .i64 0] := by rw [HT.out]; rfl
    rw [e1]
    exact ⟨rfl, F1.drew⟩
end Go.Proofs.YtnmkmmgaoplfiaaGreatDoor
