/- Texts of this seat, joined. -/
import Derived.Test.YtnmkmmgaoplfiaaGreatDoorJ03
import Derived.Deep.RegionHeld3
import Derived.Deep.AppendSrc
set_option linter.unusedSimpArgs false
set_option linter.unusedVariables false
set_option maxRecDepth 100000
set_option maxHeartbeats 20000000
namespace Go.Proofs.YtnmkmmgaoplfiaaGreatDoor
open Go.RowKit
def lenOf (s : ByteArray) (kind q : Nat) (acc : List Nat) : Nat × Nat × Nat :=
 if kind = 16 then (acc.getD (acc.length - 1) 0, 3 + numAt s q 2, q + 2)
 else if kind = 17 then (0, 3 + numAt s q 3, q + 3)
 else if kind = 18 then (0, 11 + numAt s q 7, q + 7)
 else (kind, 1, q)
def lensGo (C : List Nat) (s : ByteArray) (want : Nat) : Nat → Nat → List Nat → Option (List Nat × Nat)
 | 0, p, acc => if want ≤ acc.length then some (acc, p) else none
 | f + 1, p, acc =>
  if want ≤ acc.length then some (acc, p)
  else match dec C s p with
   | none => none
   | some (kind, q) =>
    if kind = 16 ∧ acc.length = 0 then none
    else if 8 * s.size < (lenOf s kind q acc).2.2 then none
    else if want < acc.length + (lenOf s kind q acc).2.1 then none
    else lensGo C s want f (lenOf s kind q acc).2.2 (acc ++ List.replicate (lenOf s kind q acc).2.1 (lenOf s kind q acc).1)
theorem lensGo_done (C : List Nat) (s : ByteArray) (want f p : Nat) (acc : List Nat) (h : want ≤ acc.length) : lensGo C s want f p acc = some (acc, p) := by
 cases f <;> simp only [lensGo, if_pos h]
theorem lensGo_none (C : List Nat) (s : ByteArray) (want f p : Nat) (acc : List Nat) (h : acc.length < want) (hd : dec C s p = none) : lensGo C s want (f + 1) p acc = none := by
 simp only [lensGo, if_neg (Nat.not_le.2 h), hd]
theorem lensGo_some (C : List Nat) (s : ByteArray) (want f p kind q : Nat) (acc : List Nat) (h : acc.length < want) (hd : dec C s p = some (kind, q)) : lensGo C s want (f + 1) p acc =
  if kind = 16 ∧ acc.length = 0 then none else if 8 * s.size < (lenOf s kind q acc).2.2 then none else if want < acc.length + (lenOf s kind q acc).2.1 then none else lensGo C s want f (lenOf s kind q acc).2.2 (acc ++ List.replicate (lenOf s kind q acc).2.1 (lenOf s kind q acc).1) := by
 simp only [lensGo, if_neg (Nat.not_le.2 h), hd]
theorem decGo_lt (L : List Nat) (s : ByteArray) (p : Nat) : ∀ f n x k q, decGo L s p f n x = some (k, q) → k < L.length ∧ q ≤ 8 * s.size ∧ p < q
 | 0, n, x, k, q, h => by simp [decGo] at h
 | f + 1, n, x, k, q, h => by
  simp only [decGo] at h
  by_cases h1 : 8 * s.size < p + n + 1
  ·rw [if_pos h1] at h; cases h
  ·rw [if_neg h1] at h
   by_cases h2 : firstOf L (n + 1) ≤ 2 * x + bitOf s (p + n) ∧ 2 * x + bitOf s (p + n) < firstOf L (n + 1) + cnt L (n + 1)
   ·rw [if_pos h2] at h
    cases h
    refine ⟨nth_lt _ _ _ ?_, by omega, by omega⟩
    have : cnt L (n + 1) = L.count (n + 1) := by unfold cnt; rw [if_neg (by omega)]
    omega
   ·rw [if_neg h2] at h
    exact decGo_lt L s p f _ _ k q h
theorem dec_lt {L : List Nat} {s : ByteArray} {p k q : Nat} (h : dec L s p = some (k, q)) : k < L.length ∧ q ≤ 8 * s.size ∧ p < q := decGo_lt L s p 15 0 0 k q h
theorem next_none (w : World) (b off nb cap rb : Nat) (L : List Nat) (s : ByteArray) (p : Nat) (hs : s.size ≤ maxLen) (h : IsCode w b off nb cap L) (hr : Rd w rb s p) (hb : b ≠ rb) (hnb : nb ≠ rb) (hd : dec L s p = none) :
  Calls Tryz.prog 118 #[.pointer (some ⟨b, off, none⟩), .pointer (some ⟨rb, 0, none⟩)] w fun e w' => e = .returned (.tuple #[.int .i64 0, .bool false]) ∧ RT rb w w' := by
 refine (next_c w b off nb cap rb L s p hs h hr hb hnb).mono ?_
 rintro e w' ⟨rfl, _, ht⟩
 rw [hd]; exact ⟨rfl, ht⟩
theorem next_some (w : World) (b off nb cap rb : Nat) (L : List Nat) (s : ByteArray) (p k q : Nat) (hs : s.size ≤ maxLen) (h : IsCode w b off nb cap L) (hr : Rd w rb s p) (hb : b ≠ rb) (hnb : nb ≠ rb) (hd : dec L s p = some (k, q)) :
  Calls Tryz.prog 118 #[.pointer (some ⟨b, off, none⟩), .pointer (some ⟨rb, 0, none⟩)] w fun e w' => e = .returned (.tuple #[.int .i64 (k : Int), .bool true]) ∧ Rd w' rb s q ∧ RT rb w w' := by
 refine (next_c w b off nb cap rb L s p hs h hr hb hnb).mono ?_
 rintro e w' ⟨rfl, hq, ht⟩
 rw [hd]; exact ⟨rfl, hq k q hd, ht⟩
def lensPost (b : Nat) (s : ByteArray) (w : World) (r : Option (List Nat × Nat)) (e : Ending) (w' : World) : Prop :=
 RN b w w' ∧ match r with
 | none => e = .returned (.tuple #[.slice none 0 0, .bool false])
 | some (l, q) => ∃ g cap, e = .returned (.tuple #[.slice (some ⟨g, 0, none⟩) l.length cap, .bool true]) ∧ w'.ownsRow w.heap.size 3 1 (.slice (some ⟨g, 0, none⟩) l.length cap) l.length (ints l) ∧ Rd w' b s q
def lenV : Value → Nat | .slice _ n _ => n | _ => 0
theorem Touch.next {S : Nat → Prop} {x y z : World} (h : Touch S x y) (k : Touch (fun j => x.heap.size ≤ j) y z) : Touch S x z :=
 ⟨k.os.trans h.os, k.tape.trans h.tape, k.output.trans h.output, Nat.le_trans h.size k.size, fun i hi hs => (k.block i (Nat.lt_of_lt_of_le hi h.size) (Nat.not_le.2 hi)).trans (h.block i hi hs)⟩
theorem takeLengths_c (w : World) (b cb off nb cap : Nat) (C : List Nat) (s : ByteArray) (p want : Nat) (hw : want ≤ 400) (hC : C.length = 19) (hs : s.size ≤ maxLen) (hr : Rd w b s p) (hc : IsCode w cb off nb cap C) (h1 : cb ≠ b) (h2 : nb ≠ b) (h3 : cb < w.heap.size) (h4 : nb < w.heap.size) :
  Calls Tryz.prog 123 #[.pointer (some ⟨b, 0, none⟩), .pointer (some ⟨cb, off, none⟩), .int .i64 (want : Int)] w (lensPost b s w (lensGo C s want want p [])) := by
 obtain ⟨i0, hi, hz0, hz1, hz2⟩ := info_parts Tryz.infoInt
 have hm1 : i0.bytes * want ≤ 281474976710656 := by rw [hz2]; omega
 have hm2 : want ≤ maxLen := by unfold maxLen; omega
 have hlt := hr.lt
 obtain ⟨R, hR⟩ : ∃ R, R = lensGo C s want want p [] := ⟨_, rfl⟩
 have HR : Hid (R = lensGo C s want want p []) := hR
 rw [← hR]
 clear hR
 go_enter Tryz.func123, Tryz.ntmps123
 go_wp2_with (at_make; refine wpList_make_own _ rfl _ _ 187 rfl w.heap.size 3 i0 (.int .i64 0) 1 Tryz.underlying187 hi hz0 hz1 .i64 .i64 _ want rfl rfl rfl hm1 hm2 (Nat.le_refl _) ?_; intro w1 hown1 hgrow1)
 have T1 : Touch (fun _ => False) w w1 := (Touch.refl _ w).grownNew hgrow1 (by intro k e; cases e)
 go_loopw [8] (fun v wr => ∃ (l : List Nat) (g cp f q : Nat), v = .slice (some ⟨g, 0, none⟩) l.length cp ∧ l.length ≤ want ∧ want ≤ l.length + f ∧ w.heap.size ≤ g ∧ wr.ownsRow w.heap.size 3 1 (.slice (some ⟨g, 0, none⟩) l.length cp) l.length (ints l) ∧ Rd wr b s q ∧ RN b w wr ∧ Hid (R = lensGo C s want f q l)) (fun v _ => want - lenV v)
 case atStart => exact ⟨[], w.heap.size, want, want, p, rfl, Nat.zero_le _, by simp, Nat.le_refl _, hown1, hr.new T1 (fun h => h), RN.new T1 hlt, HR⟩
 case round =>
  clear hown1 hgrow1 T1 HR
  obtain ⟨l, g, cp, f, q, rfl, hle, hf, hg, hown, hrd, hrn, HR'⟩ := hrel
  have hszr := hrn.t.size
  have hcr := hc.keep hrn.t h1 h2
  by_cases hlen : l.length < want
  ·obtain ⟨f, rfl⟩ : ∃ f', f = f' + 1 := ⟨f - 1, by omega⟩
   cases hd : dec C s q with
   | none =>
    have HE : Hid (R = none) := by unfold Hid; rw [HR'.out, lensGo_none C s want f q l hlen hd]
    have HD : Hid (dec C s q = none) := hd
    clear hd
    go_wp2_with (go_at_call 118; refine (next_none _ _ _ _ _ _ C s q hs hcr hrd h1 h2 HD.out).mono ?_; rintro e w2 ⟨rfl, hrt2⟩)
    go_ret2
    exact ⟨hrn.trans hrt2.rn, by rw [HE.out]; rfl⟩
   | some kq =>
    obtain ⟨kind, q1⟩ := kq
    have HD : Hid (dec C s q = some (kind, q1)) := hd
    have hkl := dec_lt hd
    clear hd
    by_cases hk16 : kind = 16
    ·by_cases hl0 : l.length = 0
     ·have HE : Hid (R = none) := by unfold Hid; rw [HR'.out, lensGo_some C s want f q kind q1 l hlen HD.out, if_pos ⟨hk16, hl0⟩]
      go_wp2_with (go_at_call 118; refine (next_some _ _ _ _ _ _ C s q kind q1 hs hcr hrd h1 h2 HD.out).mono ?_; rintro e w2 ⟨rfl, hrd2, hrt2⟩; have z2 := hrd2.c4)
      go_ret2
      exact ⟨hrn.trans hrt2.rn, by rw [HE.out]; rfl⟩
     ·have hnk : ¬ (kind = 16 ∧ l.length = 0) := by omega
      obtain ⟨m, hm⟩ : ∃ m, l.length = m + 1 := ⟨l.length - 1, by omega⟩
      have hlast : ∀ x, RT b wr x → x.cell? ⟨g, m, none⟩ = some (.int .i64 ((l.getD m 0 : Nat) : Int)) := by
       intro x hx
       refine hx.t.at ?_ (by show ¬ g = b; omega)
       rw [hown.cellAt _ (by omega)]
       have : m < l.length := by omega
       simp [ints, this]
      have HM : Hid (l.length = m + 1) := hm
      have w1' : IntKind.i64.wrap (((m + 1 : Nat) : Int) - 1) = (m : Int) := by simp [IntKind.wrap, IntKind.bits, IntKind.signed]; omega
      have w2' : IntKind.i64.wrap ((m : Int) + 1 - 1) = (m : Int) := by simp [IntKind.wrap, IntKind.bits, IntKind.signed]; omega
      have w3' : IntKind.i64.wrap (m : Int) = (m : Int) := by simp [IntKind.wrap, IntKind.bits, IntKind.signed]; omega
      have w4' : IntKind.i64.wrap (3 + ((numAt s q1 2 : Nat) : Int)) = 3 + ((numAt s q1 2 : Nat) : Int) := by have := numAt_lt s q1 2; simp [IntKind.wrap, IntKind.bits, IntKind.signed]; omega
      have w5' : (m : Int) < (m : Int) + 1 := by omega
      have w6' : (0 : Int) ≤ (m : Int) := by omega
      have hlen1 : m + 1 < want := by omega
      have hown' : wr.ownsRow w.heap.size 3 1 (.slice (some ⟨g, 0, none⟩) (m + 1) cp) l.length (ints l) := by rw [← hm]; exact hown
      rw [hm]
      clear hm
      have HL : Hid (lenOf s kind q1 l = (l.getD m 0, 3 + numAt s q1 2, q1 + 2)) := by unfold Hid lenOf; rw [if_pos hk16, HM.out]; rfl
      have hnb := numAt_lt s q1 2
      have HS := lensGo_some C s want f q kind q1 l hlen HD.out
      rw [HL.out] at HS
      have HS' : Hid (lensGo C s want (f + 1) q l = _) := HS
      clear HS
      by_cases hend : 8 * s.size < q1 + 2
      ·have HE : Hid (R = none) := by unfold Hid; rw [HR'.out, HS'.out, if_neg hnk, if_pos hend]
       go_wp2_with (go_at_call 118; refine (next_some _ _ _ _ _ _ C s q kind q1 hs hcr hrd h1 h2 HD.out).mono ?_; rintro e w2 ⟨rfl, hrd2, hrt2⟩; have z2 := hrd2.c4)
       have d2 : Rd w2.drew b s q1 := hrd2.drew
       have dl : w2.drew.cell? ⟨g, m, none⟩ = some (.int .i64 ((l.getD m 0 : Nat) : Int)) := by exact hlast w2 hrt2
       go_region_held3 (fun x => x.cell? ⟨g, m, none⟩ = some (.int .i64 ((l.getD m 0 : Nat) : Int))) (first | exact dl | assumption | go_keep) (first | (go_at_call 62; refine (number_i b w2.drew s q1 2 _ rfl (by omega) hs d2).mono ?_; rintro e w3 ⟨rfl, hrd3, hrt3⟩; have z3 := hrd3.c4; have dl3 := hrt3.t.at dl (by show ¬ g = b; omega)))
       all_goals go_wp2
       all_goals go_ret2
       all_goals exact ⟨((hrn.trans hrt2.rn).drew).trans hrt3.rn, by rw [HE.out]; rfl⟩
      ·by_cases hmany : want < m + 1 + (3 + numAt s q1 2)
       ·have HE : Hid (R = none) := by unfold Hid; rw [HR'.out, HS'.out, if_neg hnk, if_neg hend, if_pos (by rw [HM.out]; exact hmany)]
        go_wp2_with (go_at_call 118; refine (next_some _ _ _ _ _ _ C s q kind q1 hs hcr hrd h1 h2 HD.out).mono ?_; rintro e w2 ⟨rfl, hrd2, hrt2⟩; have z2 := hrd2.c4)
        have d2 : Rd w2.drew b s q1 := hrd2.drew
        have dl : w2.drew.cell? ⟨g, m, none⟩ = some (.int .i64 ((l.getD m 0 : Nat) : Int)) := by exact hlast w2 hrt2
        go_region_held3 (fun x => x.cell? ⟨g, m, none⟩ = some (.int .i64 ((l.getD m 0 : Nat) : Int))) (first | exact dl | assumption | go_keep) (first | (go_at_call 62; refine (number_i b w2.drew s q1 2 _ rfl (by omega) hs d2).mono ?_; rintro e w3 ⟨rfl, hrd3, hrt3⟩; have z3 := hrd3.c4; have dl3 := hrt3.t.at dl (by show ¬ g = b; omega)))
        all_goals go_wp2
        all_goals go_ret2
        all_goals exact ⟨((hrn.trans hrt2.rn).drew).trans hrt3.rn, by rw [HE.out]; rfl⟩
       ·have HE : Hid (R = lensGo C s want f (q1 + 2) (l ++ List.replicate (3 + numAt s q1 2) (l.getD m 0))) := by unfold Hid; rw [HR'.out, HS'.out, if_neg hnk, if_neg hend, if_neg (by rw [HM.out]; exact hmany)]
        go_wp2_with (go_at_call 118; refine (next_some _ _ _ _ _ _ C s q kind q1 hs hcr hrd h1 h2 HD.out).mono ?_; rintro e w2 ⟨rfl, hrd2, hrt2⟩; have z2 := hrd2.c4)
        have d2 : Rd w2.drew b s q1 := hrd2.drew
        have dl : w2.drew.cell? ⟨g, m, none⟩ = some (.int .i64 ((l.getD m 0 : Nat) : Int)) := by exact hlast w2 hrt2
        go_region_held3 (fun x => x.cell? ⟨g, m, none⟩ = some (.int .i64 ((l.getD m 0 : Nat) : Int))) (first | exact dl | assumption | go_keep) (first | (go_at_call 62; refine (number_i b w2.drew s q1 2 _ rfl (by omega) hs d2).mono ?_; rintro e w3 ⟨rfl, hrd3, hrt3⟩; have z3 := hrd3.c4; have dl3 := hrt3.t.at dl (by show ¬ g = b; omega)))
        all_goals
         have ow := hrt3.t.owns (show w2.drew.ownsRow w.heap.size 3 1 (.slice (some ⟨g, 0, none⟩) (m + 1) cp) l.length (ints l) from hrt2.t.owns hown' (by intro j hj; cases hj; show ¬ g = b; omega)) (by intro j hj; cases hj; show ¬ g = b; omega)
         have rn3 := ((hrn.trans hrt2.rn).drew).trans hrt3.rn
         have sz3 := rn3.t.size
         go_wp2_with (go_at_call 116; refine (appendTimes_s w3 w.heap.size _ l (l.getD m 0) (3 + numAt s q1 2) _ _ rfl (by omega) ow (by rw [HM.out]; omega) (by omega) sz3).mono ?_; rintro e w4 ⟨l4, g4, k4, rfl, e4, hg4, ho4, ht4⟩)
         go_roundw
         case rel =>
          have rn4 : RN b w w4 := ⟨rn3.t.next ht4, fun o ho => (ht4.cell (p := ⟨b, o, none⟩) (by show b < _; omega) (by show ¬ w.heap.size ≤ b; omega)).trans (rn3.keep o ho), fun o => (ht4.frozen (p := ⟨b, o, none⟩) (by show b < _; omega) (by show ¬ w.heap.size ≤ b; omega)).trans (rn3.fr o)⟩
          exact ⟨l4, g4, k4, f, q1 + 2, rfl, by rw [e4.out, List.length_append, List.length_replicate, HM.out]; omega, by rw [e4.out, List.length_append, List.length_replicate, HM.out]; have := HM.out; omega, hg4, ho4, hrd3.new ht4 (by show ¬ w.heap.size ≤ b; omega), rn4, by rw [e4.out]; exact HE⟩
         case measure => simp only [lenV, e4.out, List.length_append, List.length_replicate, HM.out]; omega
    ·have hnk : ¬ (kind = 16 ∧ l.length = 0) := by omega
     by_cases hk17 : kind = 17
     ·have HL : Hid (lenOf s kind q1 l = (0, 3 + numAt s q1 3, q1 + 3)) := by unfold Hid lenOf; simp [hk17]
      have hnb := numAt_lt s q1 3
      have HS := lensGo_some C s want f q kind q1 l hlen HD.out
      rw [HL.out] at HS
      have HS' : Hid (lensGo C s want (f + 1) q l = _) := HS
      clear HS
      by_cases hend : 8 * s.size < q1 + 3
      ·have HE : Hid (R = none) := by unfold Hid; rw [HR'.out, HS'.out, if_neg hnk, if_pos hend]
       go_wp2_with (first | (go_at_call 118; refine (next_some _ _ _ _ _ _ C s q kind q1 hs hcr hrd h1 h2 HD.out).mono ?_; rintro e w2 ⟨rfl, hrd2, hrt2⟩; have z2 := hrd2.c4) | (go_at_call 62; refine (number_i b _ s q1 3 _ rfl (by omega) hs hrd2).mono ?_; rintro e w3 ⟨rfl, hrd3, hrt3⟩; have z3 := hrd3.c4))
       go_ret2
       exact ⟨(hrn.trans hrt2.rn).trans hrt3.rn, by rw [HE.out]; rfl⟩
      ·by_cases hmany : want < l.length + (3 + numAt s q1 3)
       ·have HE : Hid (R = none) := by unfold Hid; rw [HR'.out, HS'.out, if_neg hnk, if_neg hend, if_pos hmany]
        go_wp2_with (first | (go_at_call 118; refine (next_some _ _ _ _ _ _ C s q kind q1 hs hcr hrd h1 h2 HD.out).mono ?_; rintro e w2 ⟨rfl, hrd2, hrt2⟩; have z2 := hrd2.c4) | (go_at_call 62; refine (number_i b _ s q1 3 _ rfl (by omega) hs hrd2).mono ?_; rintro e w3 ⟨rfl, hrd3, hrt3⟩; have z3 := hrd3.c4))
        go_ret2
        exact ⟨(hrn.trans hrt2.rn).trans hrt3.rn, by rw [HE.out]; rfl⟩
       ·have HE : Hid (R = lensGo C s want f (q1 + 3) (l ++ List.replicate (3 + numAt s q1 3) (0))) := by unfold Hid; rw [HR'.out, HS'.out, if_neg hnk, if_neg hend, if_neg hmany]
        go_wp2_with (first | (go_at_call 118; refine (next_some _ _ _ _ _ _ C s q kind q1 hs hcr hrd h1 h2 HD.out).mono ?_; rintro e w2 ⟨rfl, hrd2, hrt2⟩; have z2 := hrd2.c4) | (go_at_call 62; refine (number_i b _ s q1 3 _ rfl (by omega) hs hrd2).mono ?_; rintro e w3 ⟨rfl, hrd3, hrt3⟩; have z3 := hrd3.c4) | (go_at_call 116; have ow := hrt3.t.owns (hrt2.t.owns hown (by intro j hj; cases hj; show ¬ g = b; omega)) (by intro j hj; cases hj; show ¬ g = b; omega); have rn3 := (hrn.trans hrt2.rn).trans hrt3.rn; have sz3 := rn3.t.size; refine (appendTimes_s w3 w.heap.size _ l (0) (3 + numAt s q1 3) _ _ (by omega) (by omega) ow (by omega) (by omega) sz3).mono ?_; rintro e w4 ⟨l4, g4, k4, rfl, e4, hg4, ho4, ht4⟩))
        go_roundw
        case rel =>
         have rn4 : RN b w w4 := ⟨rn3.t.next ht4, fun o ho => (ht4.cell (p := ⟨b, o, none⟩) (by show b < _; omega) (by show ¬ w.heap.size ≤ b; omega)).trans (rn3.keep o ho), fun o => (ht4.frozen (p := ⟨b, o, none⟩) (by show b < _; omega) (by show ¬ w.heap.size ≤ b; omega)).trans (rn3.fr o)⟩
         exact ⟨l4, g4, k4, f, q1 + 3, rfl, by rw [e4.out, List.length_append, List.length_replicate]; omega, by rw [e4.out, List.length_append, List.length_replicate]; omega, hg4, ho4, hrd3.new ht4 (by show ¬ w.heap.size ≤ b; omega), rn4, by rw [e4.out]; exact HE⟩
        case measure => simp only [lenV, e4.out, List.length_append, List.length_replicate]; omega
     ·by_cases hk18 : kind = 18
      ·have HL : Hid (lenOf s kind q1 l = (0, 11 + numAt s q1 7, q1 + 7)) := by unfold Hid lenOf; simp [hk18]
       have hnb := numAt_lt s q1 7
       have HS := lensGo_some C s want f q kind q1 l hlen HD.out
       rw [HL.out] at HS
       have HS' : Hid (lensGo C s want (f + 1) q l = _) := HS
       clear HS
       by_cases hend : 8 * s.size < q1 + 7
       ·have HE : Hid (R = none) := by unfold Hid; rw [HR'.out, HS'.out, if_neg hnk, if_pos hend]
        go_wp2_with (first | (go_at_call 118; refine (next_some _ _ _ _ _ _ C s q kind q1 hs hcr hrd h1 h2 HD.out).mono ?_; rintro e w2 ⟨rfl, hrd2, hrt2⟩; have z2 := hrd2.c4) | (go_at_call 62; refine (number_i b _ s q1 7 _ rfl (by omega) hs hrd2).mono ?_; rintro e w3 ⟨rfl, hrd3, hrt3⟩; have z3 := hrd3.c4))
        go_ret2
        exact ⟨(hrn.trans hrt2.rn).trans hrt3.rn, by rw [HE.out]; rfl⟩
       ·by_cases hmany : want < l.length + (11 + numAt s q1 7)
        ·have HE : Hid (R = none) := by unfold Hid; rw [HR'.out, HS'.out, if_neg hnk, if_neg hend, if_pos hmany]
         go_wp2_with (first | (go_at_call 118; refine (next_some _ _ _ _ _ _ C s q kind q1 hs hcr hrd h1 h2 HD.out).mono ?_; rintro e w2 ⟨rfl, hrd2, hrt2⟩; have z2 := hrd2.c4) | (go_at_call 62; refine (number_i b _ s q1 7 _ rfl (by omega) hs hrd2).mono ?_; rintro e w3 ⟨rfl, hrd3, hrt3⟩; have z3 := hrd3.c4))
         go_ret2
         exact ⟨(hrn.trans hrt2.rn).trans hrt3.rn, by rw [HE.out]; rfl⟩
        ·have HE : Hid (R = lensGo C s want f (q1 + 7) (l ++ List.replicate (11 + numAt s q1 7) (0))) := by unfold Hid; rw [HR'.out, HS'.out, if_neg hnk, if_neg hend, if_neg hmany]
         go_wp2_with (first | (go_at_call 118; refine (next_some _ _ _ _ _ _ C s q kind q1 hs hcr hrd h1 h2 HD.out).mono ?_; rintro e w2 ⟨rfl, hrd2, hrt2⟩; have z2 := hrd2.c4) | (go_at_call 62; refine (number_i b _ s q1 7 _ rfl (by omega) hs hrd2).mono ?_; rintro e w3 ⟨rfl, hrd3, hrt3⟩; have z3 := hrd3.c4) | (go_at_call 116; have ow := hrt3.t.owns (hrt2.t.owns hown (by intro j hj; cases hj; show ¬ g = b; omega)) (by intro j hj; cases hj; show ¬ g = b; omega); have rn3 := (hrn.trans hrt2.rn).trans hrt3.rn; have sz3 := rn3.t.size; refine (appendTimes_s w3 w.heap.size _ l (0) (11 + numAt s q1 7) _ _ (by omega) (by omega) ow (by omega) (by omega) sz3).mono ?_; rintro e w4 ⟨l4, g4, k4, rfl, e4, hg4, ho4, ht4⟩))
         go_roundw
         case rel =>
          have rn4 : RN b w w4 := ⟨rn3.t.next ht4, fun o ho => (ht4.cell (p := ⟨b, o, none⟩) (by show b < _; omega) (by show ¬ w.heap.size ≤ b; omega)).trans (rn3.keep o ho), fun o => (ht4.frozen (p := ⟨b, o, none⟩) (by show b < _; omega) (by show ¬ w.heap.size ≤ b; omega)).trans (rn3.fr o)⟩
          exact ⟨l4, g4, k4, f, q1 + 7, rfl, by rw [e4.out, List.length_append, List.length_replicate]; omega, by rw [e4.out, List.length_append, List.length_replicate]; omega, hg4, ho4, hrd3.new ht4 (by show ¬ w.heap.size ≤ b; omega), rn4, by rw [e4.out]; exact HE⟩
         case measure => simp only [lenV, e4.out, List.length_append, List.length_replicate]; omega
      ·have HL : Hid (lenOf s kind q1 l = (kind, 1, q1)) := by unfold Hid lenOf; simp [hk16, hk17, hk18]
       have HS := lensGo_some C s want f q kind q1 l hlen HD.out
       rw [HL.out] at HS
       have HS' : Hid (lensGo C s want (f + 1) q l = _) := HS
       clear HS
       by_cases hend : 8 * s.size < q1
       ·omega
       ·by_cases hmany : want < l.length + (1)
        ·omega
        ·have HE : Hid (R = lensGo C s want f (q1) (l ++ List.replicate (1) (kind))) := by unfold Hid; rw [HR'.out, HS'.out, if_neg hnk, if_neg hend, if_neg hmany]
         go_wp2_with (first | (go_at_call 118; refine (next_some _ _ _ _ _ _ C s q kind q1 hs hcr hrd h1 h2 HD.out).mono ?_; rintro e w2 ⟨rfl, hrd2, hrt2⟩; have z2 := hrd2.c4) | (go_at_call 116; have ow := hrt2.t.owns hown (by intro j hj; cases hj; show ¬ g = b; omega); have rn3 := hrn.trans hrt2.rn; have sz3 := rn3.t.size; refine (appendTimes_s w2 w.heap.size _ l (kind) (1) _ _ (by omega) (by omega) ow (by omega) (by omega) sz3).mono ?_; rintro e w4 ⟨l4, g4, k4, rfl, e4, hg4, ho4, ht4⟩))
         go_roundw
         case rel =>
          have rn4 : RN b w w4 := ⟨rn3.t.next ht4, fun o ho => (ht4.cell (p := ⟨b, o, none⟩) (by show b < _; omega) (by show ¬ w.heap.size ≤ b; omega)).trans (rn3.keep o ho), fun o => (ht4.frozen (p := ⟨b, o, none⟩) (by show b < _; omega) (by show ¬ w.heap.size ≤ b; omega)).trans (rn3.fr o)⟩
          exact ⟨l4, g4, k4, f, q1, rfl, by rw [e4.out, List.length_append, List.length_replicate]; omega, by rw [e4.out, List.length_append, List.length_replicate]; omega, hg4, ho4, hrd2.new ht4 (by show ¬ w.heap.size ≤ b; omega), rn4, by rw [e4.out]; exact HE⟩
         case measure => simp only [lenV, e4.out, List.length_append, List.length_replicate]; omega
  ·go_wp2
   go_ret2
   exact ⟨hrn, by rw [HR'.out, lensGo_done C s want f q l (by omega)]; exact ⟨g, cp, rfl, hown, hrd⟩⟩
end Go.Proofs.YtnmkmmgaoplfiaaGreatDoor
namespace Go.Proofs.YtnmkmmgaoplfiaaGreatDoor
open Go.RowKit
def byteV (l : List UInt8) : List Value := l.map fun c => Value.int .u8 (c.toNat : Int)
theorem byteV_len (l : List UInt8) : (byteV l).length = l.length := List.length_map ..
theorem byteV_app (a b : List UInt8) : byteV (a ++ b) = byteV a ++ byteV b := List.map_append ..
def IT (b : Nat) (w w' : World) : Prop := Touch (fun k => k = b ∨ (b < k ∧ Typed w k 5)) w w'
theorem IT.refl (b : Nat) (w : World) : IT b w w := Touch.refl _ _
theorem IT.trans {b : Nat} {x y z : World} (h : IT b x y) (k : IT b y z) : IT b x z := by
 refine ⟨k.os.trans h.os, k.tape.trans h.tape, k.output.trans h.output, Nat.le_trans h.size k.size, fun i hi hs => ?_⟩
 refine (k.block i (Nat.lt_of_lt_of_le hi h.size) ?_).trans (h.block i hi hs)
 rintro (rfl | ⟨hb, cs, fr, hc⟩)
 ·exact hs (Or.inl rfl)
 ·rw [h.block i hi hs] at hc
  exact hs (Or.inr ⟨hb, cs, fr, hc⟩)
theorem IT.ofRN {b : Nat} {x y : World} (h : RN b x y) : IT b x y := h.t.mono (fun _ _ e => Or.inl e)
theorem IT.ofRT {b : Nat} {x y : World} (h : RT b x y) : IT b x y := IT.ofRN h.rn
theorem IT.drewN {b : Nat} {x y : World} (h : IT b x y) (n : Nat) : IT b x (y.drewN n) := Touch.drewN h n
theorem IT.not {b k : Nat} {w : World} {t : TypeId} (h : Typed w k t) (hb : b < k) (ht : t ≠ 5) : ¬ (k = b ∨ (b < k ∧ Typed w k 5)) := by
 rintro (rfl | ⟨_, h'⟩)
 ·omega
 ·exact ht (h.ne h')
theorem Codes.keepS {w w' : World} {fb n1 c1 n2 c2 : Nat} {L D : List Nat} (h : Codes w fb n1 c1 n2 c2 L D) {S : Nat → Prop} (ht : Touch S w w') (h0 : ¬ S fb) (h1 : ¬ S n1) (h2 : ¬ S n2) : Codes w' fb n1 c1 n2 c2 L D :=
 ⟨h.lt.keep ht h0 h1, h.ds.keep ht h0 h2, h.tb.keep ht h0, h.t1.keep ht h1, h.t2.keep ht h2⟩
theorem Codes.keepI {w w' : World} {b fb n1 c1 n2 c2 : Nat} {L D : List Nat} (h : Codes w fb n1 c1 n2 c2 L D) (ht : IT b w w') (h0 : b < fb) (h1 : b < n1) (h2 : b < n2) : Codes w' fb n1 c1 n2 c2 L D :=
 h.keepS ht (IT.not h.tb h0 (by decide)) (IT.not h.t1 h1 (by decide)) (IT.not h.t2 h2 (by decide))
def Fix (w : World) (b : Nat) (v : Value) : Prop := v = .pointer none ∨ ∃ fb n1 c1 n2 c2, v = .pointer (some ⟨fb, 0, none⟩) ∧ Codes w fb n1 c1 n2 c2 fixLetters fixDist ∧ b < fb ∧ b < n1 ∧ b < n2
theorem Fix.keep {w w' : World} {b : Nat} {v : Value} (h : Fix w b v) (ht : IT b w w') : Fix w' b v := by
 rcases h with h | ⟨fb, n1, c1, n2, c2, e, hc, h0, h1, h2⟩
 ·exact Or.inl h
 ·exact Or.inr ⟨fb, n1, c1, n2, c2, e, hc.keepI ht h0 h1 h2, h0, h1, h2⟩
structure Inf (w : World) (b : Nat) (s : ByteArray) (p : Nat) (out : List UInt8) (most : Nat) : Prop where
 rd : Rd w b s p
 gv : ∃ ao cap, w.cell? ⟨b, 5, none⟩ = some (.slice ao out.length cap) ∧ w.ownsRow (b + 1) 5 1 (.slice ao out.length cap) out.length (byteV out)
 ms : w.cell? ⟨b, 6, none⟩ = some (.int .i64 (most : Int))
 fx : ∃ v, w.cell? ⟨b, 7, none⟩ = some v ∧ Fix w b v
 fit : out.length ≤ most
 few : out.length ≤ 258 * p
 top : most ≤ 9223372036854775807
theorem Inf.lt {w : World} {b : Nat} {s : ByteArray} {p : Nat} {out : List UInt8} {most : Nat} (h : Inf w b s p out most) : b < w.heap.size := h.rd.lt
theorem Inf.read {w w' : World} {b : Nat} {s : ByteArray} {p q : Nat} {out : List UInt8} {most : Nat} (h : Inf w b s p out most) (hr : Rd w' b s q) (hn : RN b w w') (hq : p ≤ q) : Inf w' b s q out most := by
 obtain ⟨ao, cap, h5, ho⟩ := h.gv
 obtain ⟨v, h7, hf⟩ := h.fx
 refine ⟨hr, ⟨ao, cap, (hn.keep 5 (by omega)).trans h5, hn.t.owns ho ?_⟩, (hn.keep 6 (by omega)).trans h.ms, ⟨v, (hn.keep 7 (by omega)).trans h7, hf.keep (IT.ofRN hn)⟩, h.fit, by have := h.few; omega, h.top⟩
 intro k hk e
 have := (ho.lt k hk).1
 omega
theorem room_c (b : Nat) (w : World) (ao : Option Addr) (n cap most : Nat) (hn : n ≤ most) (hm : most ≤ 9223372036854775807) (h5 : w.cell? ⟨b, 5, none⟩ = some (.slice ao n cap)) (h6 : w.cell? ⟨b, 6, none⟩ = some (.int .i64 (most : Int))) :
  Calls Tryz.prog 114 #[.pointer (some ⟨b, 0, none⟩)] w fun e w' => e = .returned (.int .i64 ((most - n : Nat) : Int)) ∧ ∃ k, w' = w.drewN k := by
 go_enter Tryz.func114, Tryz.ntmps114
 go_wp2
 go_quiet (fail)
 go_wp2
 go_ret
 exact ⟨ret_int (by omega), _, rfl⟩
theorem Tryz.infoByte : (Tryz.prog.info? 5).map (fun i => (i.zero, i.size, i.bytes)) = some (some (.int .u8 0), 1, 1) := by kernel_rfl
theorem Inf.given {w x w1 : World} {b : Nat} {s : ByteArray} {p q : Nat} {out new : List UInt8} {most : Nat} {ao : Option Addr} {cap : Nat} {v' : Value} (h : Inf w b s p out most) (h5 : w.cell? ⟨b, 5, none⟩ = some (.slice ao out.length cap)) (ho : w.ownsRow (b + 1) 5 1 (.slice ao out.length cap) out.length (byteV out))
  (hx : Touch (fun _ => False) w x) (hg : x.grownBy w1 (Value.slice ao out.length cap).ownBlock) (ho' : w1.ownsRow (b + 1) 5 1 v' (out.length + new.length) (byteV out ++ byteV new)) (hfit : out.length + new.length ≤ most) (hfew : out.length + new.length ≤ 258 * p) :
  Inf (w1.setCell ⟨b, 5, none⟩ v') b s p (out ++ new) most ∧ IT b w (w1.setCell ⟨b, 5, none⟩ v') := by
 have hlt := h.lt
 have t1 : Touch (fun k => k = b ∨ (b < k ∧ Typed w k 5)) w w1 := (hx.mono (fun _ _ e => e.elim)).grown hg (fun k hk => Or.inr ⟨by have := (ho.lt k hk).1; omega, Typed.owned ho hk⟩)
 have hne : ∀ k, (Value.slice ao out.length cap).ownBlock = some k → k ≠ b := fun k hk => by have := (ho.lt k hk).1; omega
 have hbb : w1.heap[b]? = w.heap[b]? := (hg.block b (Nat.lt_of_lt_of_le hlt hx.size) (fun e => hne b e.symm rfl)).trans (hx.block b hlt (fun e => e))
 have hc : ∀ o, w1.cell? ⟨b, o, none⟩ = w.cell? ⟨b, o, none⟩ := fun o => World.cell?_of_block hbb
 have hfz : ∀ o, w1.frozen? ⟨b, o, none⟩ = w.frozen? ⟨b, o, none⟩ := fun o => World.frozen?_of_block hbb
 have it : IT b w (w1.setCell ⟨b, 5, none⟩ v') := Touch.setCell t1 (p := ⟨b, 5, none⟩) (Or.inl rfl) v'
 refine ⟨⟨?_, ?_, ?_, ?_, ?_, ?_, h.top⟩, it⟩
 ·have r := h.rd
  refine ⟨?_, ?_, ?_, ?_, ?_, ?_⟩
  ·rw [cell_set_ne (by omega), hc]; exact r.c0
  ·rw [cell_set_ne (by omega), hc]; exact r.c1
  ·rw [cell_set_ne (by omega), hc]; exact r.c2
  ·rw [cell_set_ne (by omega), hc]; exact r.c3
  ·rw [cell_set_ne (by omega), hc]; exact r.c4
  ·intro o; rw [World.frozen?_setCell, hfz]; exact r.fr o
 ·have hsl : ∃ ao' cap', v' = .slice ao' (out ++ new).length cap' := by
   rw [List.length_append]
   rcases ho'.2 with ⟨e, h0⟩ | ⟨g, cap', cur, e, _⟩
   ·exact ⟨none, 0, by rw [e, h0]⟩
   ·exact ⟨_, _, e⟩
  obtain ⟨ao', cap', rfl⟩ := hsl
  refine ⟨ao', cap', ?_, ?_⟩
  ·simp [cell_set_if, hc, h5]
  ·rw [List.length_append] at *
   rw [byteV_app]
   exact ownsRow_setCell_below ho' (by show b < b + 1; omega) _
 ·rw [cell_set_ne (by omega), hc]; exact h.ms
 ·obtain ⟨v, h7, hf⟩ := h.fx
  exact ⟨v, by rw [cell_set_ne (by omega), hc]; exact h7, hf.keep it⟩
 ·rw [List.length_append]; exact hfit
 ·rw [List.length_append]; exact hfew
theorem Inf.cell5 {w x w1 : World} {b : Nat} {s : ByteArray} {p : Nat} {out : List UInt8} {most : Nat} {ao : Option Addr} {cap : Nat} (h : Inf w b s p out most) (h5 : w.cell? ⟨b, 5, none⟩ = some (.slice ao out.length cap)) (ho : w.ownsRow (b + 1) 5 1 (.slice ao out.length cap) out.length (byteV out))
  (hx : Touch (fun _ => False) w x) (hg : x.grownBy w1 (Value.slice ao out.length cap).ownBlock) : w1.cell? ⟨b, 5, none⟩ = some (.slice ao out.length cap) ∧ w1.frozen? ⟨b, 5, none⟩ = false := by
 have hlt := h.lt
 have hne : ∀ k, (Value.slice ao out.length cap).ownBlock = some k → k ≠ b := fun k hk => by have := (ho.lt k hk).1; omega
 have hbb : w1.heap[b]? = w.heap[b]? := (hg.block b (Nat.lt_of_lt_of_le hlt hx.size) (fun e => hne b e.symm rfl)).trans (hx.block b hlt (fun e => e))
 exact ⟨(World.cell?_of_block hbb).trans h5, (World.frozen?_of_block hbb).trans (h.rd.fr 5)⟩
theorem Inf.drewN {w : World} {b : Nat} {s : ByteArray} {p : Nat} {out : List UInt8} {most : Nat} (h : Inf w b s p out most) (n : Nat) : Inf (w.drewN n) b s p out most := by
 refine h.read (h.rd.drewN n) ⟨(Touch.refl _ w).drewN n, fun _ _ => rfl, fun _ => rfl⟩ (Nat.le_refl _)
theorem single_full (b : Nat) (w : World) (s : ByteArray) (p : Nat) (out : List UInt8) (most : Nat) (c : Int) (h : Inf w b s p out most) (hfull : out.length = most) :
  Calls Tryz.prog 119 #[.pointer (some ⟨b, 0, none⟩), .int .u8 c] w fun e w' => e = .returned (.int .i64 2) ∧ IT b w w' := by
 obtain ⟨ao, cap, h5, ho⟩ := h.gv
 have h6 := h.ms
 have ht := h.top
 go_enter Tryz.func119, Tryz.ntmps119
 go_wp2_with (go_at_call 114; refine (room_c b w ao out.length cap most h.fit ht h5 h6).mono ?_; rintro e w1 ⟨rfl, k, rfl⟩)
 go_ret
 exact ⟨rfl, (IT.refl b w).drewN k⟩
theorem single_ok (b : Nat) (w : World) (s : ByteArray) (p : Nat) (out : List UInt8) (most : Nat) (c : UInt8) (h : Inf w b s p out most) (hroom : out.length < most) (hfew : out.length + 1 ≤ 258 * p) (hp : p ≤ 17179869184) :
  Calls Tryz.prog 119 #[.pointer (some ⟨b, 0, none⟩), .int .u8 (c.toNat : Int)] w fun e w' => e = .returned (.int .i64 0) ∧ Inf w' b s p (out ++ [c]) most ∧ IT b w w' := by
 obtain ⟨ao, cap, h5, ho⟩ := h.gv
 have h6 := h.ms
 have ht := h.top
 have hlt := h.lt
 have f5 := h.rd.fr 5
 obtain ⟨i0, hi, hz0, hz1, hz2⟩ := info_parts Tryz.infoByte
 have c3 : out.length + 1 ≤ maxLen := by unfold maxLen; omega
 have c4 : (out.length + 1) * 1 ≤ 140737488355328 := by omega
 have hne : ¬ most - out.length = 0 := by omega
 have hod : ∀ k, (w.drewN k).ownsRow (b + 1) 5 1 (.slice ao out.length cap) out.length (byteV out) := fun _ => ho
 have hbd : ∀ k o, b + 1 ≤ ((w.drewN k).alloc o).heap.size := by intro k o; rw [World.size_alloc, size_drewN]; omega
 go_enter Tryz.func119, Tryz.ntmps119
 go_wp2_with (first | (go_at_call 114; refine (room_c b w ao out.length cap most h.fit ht h5 h6).mono ?_; rintro e w1 ⟨rfl, k, rfl⟩) | (at_builtin; refine wpList_append_own _ rfl _ _ 86 rfl (b + 1) 5 i0 (.int .u8 0) 1 1 Tryz.underlying86 hi hz0 hz1 hz2 rfl (by decide) _ _ _ rfl ((hod k).alloc _) ⟨_, 0, none⟩ 1 1 [.int .u8 (c.toNat : Int)] rfl rfl (cell_one_new _ _ _) (by simp [Value.oneCell']) c3 c4 (hbd k _) ?_; intro v' w1 hown' hgrow _; obtain ⟨q5, q6⟩ := h.cell5 h5 ho (((Touch.refl _ w).drewN k).alloc _) hgrow; obtain ⟨g', cap', hv', _⟩ := owned_some hown' (by omega); rw [hv'] at hown' ⊢))
 go_ret
 have hin := h.given (p := p) (q := p) (new := [c]) h5 ho (((Touch.refl _ w).drewN k).alloc _) hgrow hown' hroom hfew
 exact ⟨rfl, hin.1, hin.2⟩
end Go.Proofs.YtnmkmmgaoplfiaaGreatDoor
