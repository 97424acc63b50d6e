/- Texts of this seat, joined. -/
import Derived.Test.YtnmkmmgaoplfiaaGreatDoorJ23
import Derived.Laws.BytesArg
set_option linter.unusedSimpArgs false
set_option linter.unusedVariables false
set_option maxRecDepth 100000
set_option maxHeartbeats 20000000
namespace Go.Proofs.YtnmkmmgaoplfiaaGreatDoor
open Go.RowKit
theorem Ord.keepI {b : Nat} {w w' : World} (h : Ord w) (ht : IT b w w') (hb : 0 < b) : Ord w' := h.keep ht (by rintro (e | ⟨e, _⟩) <;> omega)
theorem bit_r (b : Nat) (w : World) (s : ByteArray) (p v : Nat) (hv : bitOf s p = v) (hs : s.size ≤ maxLen) (h : Rd w b s p) :
  Calls Tryz.prog 61 #[.pointer (some ⟨b, 0, none⟩)] w fun e w' => e = .returned (.int .i64 (v : Int)) ∧ Rd w' b s (p + 1) ∧ RT b w w' := by
 subst hv; exact bit_c b w s p hs h
theorem block_r (b : Nat) (w : World) (s : ByteArray) (kind p : Nat) (out : List UInt8) (most : Nat) (R : Sum Nat (List UInt8 × Nat)) (hR : blockOf s kind p out most = R) (hs : s.size ≤ 2147483648) (h : Inf w b s p out most) (hp : p ≤ 8 * s.size) (ho : Ord w) (hb : 0 < b) (hk : kind ≤ 3) :
  Calls Tryz.prog 63 #[.pointer (some ⟨b, 0, none⟩), .int .i64 (kind : Int)] w (infPost b s most w R) := by
 subst hR; exact block_c b w s kind p out most hs h hp ho hb hk
theorem blocks_c (b : Nat) (w : World) (s : ByteArray) (p : Nat) (out : List UInt8) (most : Nat) (hs : s.size ≤ 2147483648) (h : Inf w b s p out most) (hp : p ≤ 8 * s.size) (ho : Ord w) (hb : 0 < b) (f : Nat) (hf : 8 * s.size + 1 ≤ p + f) :
  Calls Tryz.prog 37 #[.pointer (some ⟨b, 0, none⟩)] w (infPost b s most w (blocksGo s most f p out)) := by
 have hsm : s.size ≤ maxLen := by unfold maxLen; omega
 obtain ⟨R, hR⟩ : ∃ R, R = blocksGo s most f p out := ⟨_, rfl⟩
 have HR0 : Hid (R = blocksGo s most f p out) := hR
 rw [← hR]
 clear hR
 go_enter Tryz.func37, Tryz.ntmps37
 go_wp2
 go_loopg [] f (fun g wr => ∃ p out, Inf wr b s p out most ∧ p ≤ 8 * s.size ∧ 8 * s.size + 1 ≤ p + g ∧ IT b w wr ∧ Hid (R = blocksGo s most g p out))
 case atStart => exact ⟨p, out, h, hp, hf, IT.refl _ _, HR0⟩
 case round =>
  clear HR0 h hp hf
  obtain ⟨p, out, hin, hp, hf, hit, HR⟩ := hrel
  obtain ⟨g, rfl⟩ : ∃ g, gk = g + 1 := ⟨gk - 1, by omega⟩
  have hh := HR.out
  unfold blocksGo at hh
  obtain ⟨v, hv⟩ : ∃ v, bitOf s p = v := ⟨_, rfl⟩
  obtain ⟨kd, hkd⟩ : ∃ kd, kd = numAt s (p + 1) 2 := ⟨_, rfl⟩
  have bk := numAt_lt s (p + 1) 2
  rw [hv, ← hkd] at hh
  rw [← hkd] at bk
  have HR' : Hid (R = _) := hh
  have HV : Hid (bitOf s p = v) := hv
  have HK : Hid (kd = numAt s (p + 1) 2) := hkd
  clear hh HR hv hkd
  go_wp2_with fail
  refine (bit_r b wr s p v HV.out hsm hin.rd).mono ?_
  rintro e w1 ⟨rfl, r1, t1⟩
  go_wp2_with fail
  refine (number_i b w1 s (p + 1) 2 _ rfl (by omega) hsm r1).mono ?_
  rintro e w2 ⟨rfl, r2, t2⟩
  rw [← HK.out]
  have z4 := r2.c4
  have RN2 := t1.rn.trans t2.rn
  have IT2 := hit.trans (IT.ofRN RN2)
  rw [show p + 1 + 2 = p + 3 by omega] at z4 r2
  by_cases c1 : 8 * s.size < p + 3
  ·have HE : Hid (R = .inl 1) := by unfold Hid; rw [HR'.out, if_pos c1]
   go_wp2
   go_ret
   exact ⟨IT2, by rw [HE.out]; rfl⟩
  ·have hh := HR'.out
   rw [if_neg c1] at hh
   have i2 := hin.read r2 RN2 (by omega)
   have o2 := ho.keepI IT2 hb
   cases hB : blockOf s kd (p + 3) out most with
   | inl k =>
    have hk0 := blockOf_inl s kd (p + 3) out most k hB
    rw [hB] at hh
    have HE : Hid (R = .inl k) := hh
    have HB : Hid (blockOf s kd (p + 3) out most = .inl k) := hB
    have hk1 : ¬ k = 0 := by omega
    clear hh hB HR'
    go_wp2_with fail
    refine (block_r b w2 s kd (p + 3) out most _ HB.out hs i2 (by omega) o2 hb (by omega)).mono ?_
    rintro e w3 ⟨t3, rfl⟩
    go_wp2
    go_ret
    exact ⟨IT2.trans t3, by rw [HE.out]; rfl⟩
   | inr oq =>
    obtain ⟨o, q⟩ := oq
    have hle := blockOf_le s kd (p + 3) out most o q hB
    rw [hB] at hh
    have HR : Hid (R = if v = 1 then .inr (o, q) else blocksGo s most g q o) := hh
    have HB : Hid (blockOf s kd (p + 3) out most = .inr (o, q)) := hB
    clear hh hB HR'
    by_cases c2 : v = 1
    ·have HE : Hid (R = .inr (o, q)) := by unfold Hid; rw [HR.out, if_pos c2]
     go_wp2_with fail
     refine (block_r b w2 s kd (p + 3) out most _ HB.out hs i2 (by omega) o2 hb (by omega)).mono ?_
     rintro e w3 ⟨t3, rfl, i3⟩
     go_wp2
     go_ret
     exact ⟨IT2.trans t3, by rw [HE.out]; exact ⟨rfl, i3⟩⟩
    ·have HE : Hid (R = blocksGo s most g q o) := by unfold Hid; rw [HR.out, if_neg c2]
     go_wp2_with fail
     refine (block_r b w2 s kd (p + 3) out most _ HB.out hs i2 (by omega) o2 hb (by omega)).mono ?_
     rintro e w3 ⟨t3, rfl, i3⟩
     go_wp2
     go_roundg g
     case measure => omega
     case rel => exact ⟨q, o, i3, hle.2, by omega, IT2.trans t3, HE⟩
theorem out_str {W : World} {base cap n : Nat} {ao : Option Addr} {out : List UInt8} (ho : W.ownsRow base 5 1 (.slice ao n cap) n (byteV out)) (hn : n = out.length) : (convert 86 9 (.slice ao n cap)).run Tryz.prog W = .ok (.string ⟨out.toArray⟩) W := by
 subst hn
 rcases ho.2 with ⟨e, h0⟩ | ⟨g, cap', cur, e, _, _⟩
 ·have he : out = [] := List.eq_nil_of_length_eq_zero h0
  subst he
  cases e
  exact run_convert_bytes_nil W 86 5 Tryz.underlying86 Tryz.underlying5 _ _ 9 Tryz.underlying9
 ·cases e
  have := run_convert_bytes_arg (P := Tryz.prog) W 86 5 Tryz.underlying86 Tryz.underlying5 g 0 out.length cap (out.map fun c => (c.toNat : Int)) (by simp) (by
   intro i hi
   rw [Nat.zero_add, ho.cellAt i (by omega)]
   simp [byteV, hi]) 9 Tryz.underlying9
  have e2 : strOfNums (out.map fun c => (c.toNat : Int)) = ⟨out.toArray⟩ := by
   unfold strOfNums
   have e3 : (out.map fun c => (c.toNat : Int)).map (fun n : Int => UInt8.ofNat n.toNat) = out := by
    rw [List.map_map]
    have : ((fun n : Int => UInt8.ofNat n.toNat) ∘ fun c : UInt8 => (c.toNat : Int)) = id := by funext c; simp
    rw [this, List.map_id]
   rw [e3]
  rw [this, e2]
def inflateOf (s : ByteArray) (most : Int) : Sum Nat (List UInt8 × Nat) := blocksGo s (max most 0).toNat (8 * s.size + 1) 0 []
def inflateVal (r : Sum Nat (List UInt8 × Nat)) : Value :=
 match r with
 | .inl k => .tuple #[.string ⟨#[]⟩, .int .i64 0, .int .i64 (k : Int)]
 | .inr (out, q) => .tuple #[.string ⟨out.toArray⟩, .int .i64 (((q + 7) / 8 : Nat) : Int), .int .i64 0]
theorem blocksGo_le (s : ByteArray) (most : Nat) : ∀ f p out o q, blocksGo s most f p out = .inr (o, q) → q ≤ 8 * s.size
 | 0, p, out, o, q, h => by simp [blocksGo] at h
 | f + 1, p, out, o, q, h => by
  unfold blocksGo at h
  by_cases c1 : 8 * s.size < p + 3
  ·rw [if_pos c1] at h; cases h
  ·rw [if_neg c1] at h
   cases hB : blockOf s (numAt s (p + 1) 2) (p + 3) out most with
   | inl k => rw [hB] at h; cases h
   | inr oq =>
    obtain ⟨o1, q1⟩ := oq
    rw [hB] at h
    have hle := blockOf_le _ _ _ _ _ _ _ hB
    change (if bitOf s p = 1 then _ else _) = _ at h
    by_cases c2 : bitOf s p = 1
    ·rw [if_pos c2] at h
     simp only [Sum.inr.injEq, Prod.mk.injEq] at h
     omega
    ·rw [if_neg c2] at h
     exact blocksGo_le s most f _ _ o q h
theorem blocksGo_inl (s : ByteArray) (most : Nat) : ∀ f p out k, blocksGo s most f p out = .inl k → k = 1 ∨ k = 2
 | 0, p, out, k, h => by simp only [blocksGo, Sum.inl.injEq] at h; omega
 | f + 1, p, out, k, h => by
  unfold blocksGo at h
  by_cases c1 : 8 * s.size < p + 3
  ·rw [if_pos c1] at h; simp only [Sum.inl.injEq] at h; omega
  ·rw [if_neg c1] at h
   cases hB : blockOf s (numAt s (p + 1) 2) (p + 3) out most with
   | inl k' => rw [hB] at h; simp only [Sum.inl.injEq] at h; subst h; exact blockOf_inl _ _ _ _ _ _ hB
   | inr oq =>
    obtain ⟨o1, q1⟩ := oq
    rw [hB] at h
    change (if bitOf s p = 1 then _ else _) = _ at h
    by_cases c2 : bitOf s p = 1
    ·rw [if_pos c2] at h; cases h
    ·rw [if_neg c2] at h
     exact blocksGo_inl s most f _ _ k h
theorem inf_new (w : World) (s : ByteArray) (M : Nat) (hM : M ≤ 9223372036854775807) : Inf (w.alloc (.cells #[.string s, .int .i64 0, .int .u8 0, .int .i64 0, .bool false, .slice none 0 0, .int .i64 (M : Int), .pointer none] 89)) w.heap.size s 0 [] M := by
 have hc : ∀ j, (w.alloc (.cells #[.string s, .int .i64 0, .int .u8 0, .int .i64 0, .bool false, .slice none 0 0, .int .i64 (M : Int), .pointer none] 89)).cell? ⟨w.heap.size, j, none⟩ = #[Value.string s, .int .i64 0, .int .u8 0, .int .i64 0, .bool false, .slice none 0 0, .int .i64 (M : Int), .pointer none][j]? := fun j => row_cell (heap_alloc_new w _) j
 refine ⟨⟨?_, ?_, ⟨0, by omega, ?_, ?_⟩, ?_, ?_, ?_⟩, ⟨none, 0, ?_, World.ownsRow_nil _ _ _ _⟩, ?_, ⟨_, ?_, Or.inl rfl⟩, Nat.zero_le _, Nat.zero_le _, hM⟩
 ·rw [hc]; rfl
 ·rw [hc]; simp
 ·rw [hc]; rfl
 ·intro _ h; omega
 ·rw [hc]; simp
 ·rw [hc]; simp
 ·intro o; exact row_fr (heap_alloc_new w _) o
 ·rw [hc]; rfl
 ·rw [hc]; rfl
 ·rw [hc]; rfl
theorem blocks_r (b : Nat) (w : World) (s : ByteArray) (p : Nat) (out : List UInt8) (most : Nat) (R : Sum Nat (List UInt8 × Nat)) (hR : blocksGo s most (8 * s.size + 1) p out = R) (hs : s.size ≤ 2147483648) (h : Inf w b s p out most) (hp : p ≤ 8 * s.size) (ho : Ord w) (hb : 0 < b) :
  Calls Tryz.prog 37 #[.pointer (some ⟨b, 0, none⟩)] w (infPost b s most w R) := by
 subst hR; exact blocks_c b w s p out most hs h hp ho hb _ (by omega)
theorem inflate_c (w : World) (s : ByteArray) (most : Int) (hm : most ≤ 9223372036854775807) (hs : s.size ≤ 2147483648) (ho : Ord w) (hb : 0 < w.heap.size) :
  Calls Tryz.prog 15 #[.string s, .int .i64 most] w fun e w' => e = .returned (inflateVal (inflateOf s most)) ∧ Below w.heap.size w w' := by
 obtain ⟨M, hM⟩ : ∃ M : Nat, (max most 0) = (M : Int) := ⟨(max most 0).toNat, by omega⟩
 have hM2 : M ≤ 9223372036854775807 := by omega
 have hmm : (max most 0).toNat = M := by omega
 have hin := inf_new w s M hM2
 have hdo : Touch (fun _ => False) w (w.alloc (.cells #[.string s, .int .i64 0, .int .u8 0, .int .i64 0, .bool false, .slice none 0 0, .int .i64 (M : Int), .pointer none] 89)) := (Touch.refl _ w).alloc _
 obtain ⟨R, hR⟩ : ∃ R, R = inflateOf s most := ⟨_, rfl⟩
 have HB : Hid (R = blocksGo s M (8 * s.size + 1) 0 []) := by unfold Hid; rw [hR]; unfold inflateOf; rw [hmm]
 rw [← hR]
 clear hR hmm
 have fin : ∀ w', IT w.heap.size (w.alloc (.cells #[.string s, .int .i64 0, .int .u8 0, .int .i64 0, .bool false, .slice none 0 0, .int .i64 (M : Int), .pointer none] 89)) w' → Below w.heap.size w w' := fun w' it =>
  ((Below.refl _ w).alloc (Nat.le_refl _) _).trans (it.toBelow (by simp) (fun k hk e => by rcases e with e | ⟨e, _⟩ <;> omega))
 have o1 : Ord (w.alloc (.cells #[.string s, .int .i64 0, .int .u8 0, .int .i64 0, .bool false, .slice none 0 0, .int .i64 (M : Int), .pointer none] 89)) := ho.keep hdo (fun e => e)
 by_cases h0 : 0 ≤ most
 ·have hx : most = (M : Int) := by omega
  subst hx
  clear hM
  cases hRR : R with
  | inl k =>
   have HE : Hid (blocksGo s M (8 * s.size + 1) 0 [] = .inl k) := by unfold Hid; rw [← HB.out, hRR]
   have hk := blocksGo_inl _ _ _ _ _ _ HE.out
   have hk0 : ¬ k = 0 := by omega
   clear hRR
   go_enter Tryz.func15, Tryz.ntmps15
   go_wp2_with fail
   refine (blocks_r w.heap.size _ s 0 [] M _ HE.out hs hin (Nat.zero_le _) o1 hb).mono ?_
   rintro e w1 ⟨it, rfl⟩
   have F1 := fin w1 it
   go_wp2
   go_ret3
   exact ⟨rfl, F1⟩
  | inr oq =>
   obtain ⟨out, q⟩ := oq
   have HE : Hid (blocksGo s M (8 * s.size + 1) 0 [] = .inr (out, q)) := by unfold Hid; rw [← HB.out, hRR]
   have hq := blocksGo_le _ _ _ _ _ _ _ HE.out
   clear hRR
   go_enter Tryz.func15, Tryz.ntmps15
   go_wp2_with fail
   refine (blocks_r w.heap.size _ s 0 [] M _ HE.out hs hin (Nat.zero_le _) o1 hb).mono ?_
   rintro e w1 ⟨it, rfl, i1⟩
   have F1 := fin w1 it
   obtain ⟨ao, cap, g5, gO⟩ := i1.gv
   have g1 := i1.rd.c1
   rw [show min s.size ((q + 7) / 8) = (q + 7) / 8 by omega] at g1
   have cv : ∀ W : World, W.heap = w1.heap → (convert 86 9 (.slice ao out.length cap)).run Tryz.prog W = .ok (.string ⟨out.toArray⟩) W := fun W hW => out_str (base := w.heap.size + 1) (by unfold World.ownsRow at gO ⊢; rw [hW]; exact gO) rfl
   have cv1 := cv w1 rfl
   have cv2 := cv w1.drew rfl
   clear it i1
   obtain ⟨t, ht⟩ : ∃ t, t = (q + 7) / 8 := ⟨_, rfl⟩
   rw [← ht] at g1
   have HT : Hid (t = (q + 7) / 8) := ht
   clear ht hq
   go_wp2
   go_region
   all_goals go_wp2
   all_goals go_ret3
   all_goals
    have e1 : inflateVal (.inr (out, q)) = .tuple #[.string ⟨out.toArray⟩, .int .i64 (t : Int), .int .i64 0] := by rw [HT.out]; rfl
    rw [e1]
    exact ⟨rfl, F1.drew⟩
 ·obtain rfl : M = 0 := by omega
  clear hM
  cases hRR : R with
  | inl k =>
   have HE : Hid (blocksGo s 0 (8 * s.size + 1) 0 [] = .inl k) := by unfold Hid; rw [← HB.out, hRR]
   have hk := blocksGo_inl _ _ _ _ _ _ HE.out
   have hk0 : ¬ k = 0 := by omega
   clear hRR
   go_enter Tryz.func15, Tryz.ntmps15
   go_wp2_with fail
   refine (blocks_r w.heap.size _ s 0 [] 0 _ HE.out hs hin (Nat.zero_le _) o1 hb).mono ?_
   rintro e w1 ⟨it, rfl⟩
   have F1 := fin w1 it
   go_wp2
   go_ret3
   exact ⟨rfl, F1⟩
  | inr oq =>
   obtain ⟨out, q⟩ := oq
   have HE : Hid (blocksGo s 0 (8 * s.size + 1) 0 [] = .inr (out, q)) := by unfold Hid; rw [← HB.out, hRR]
   have hq := blocksGo_le _ _ _ _ _ _ _ HE.out
   clear hRR
   go_enter Tryz.func15, Tryz.ntmps15
   go_wp2_with fail
   refine (blocks_r w.heap.size _ s 0 [] 0 _ HE.out hs hin (Nat.zero_le _) o1 hb).mono ?_
   rintro e w1 ⟨it, rfl, i1⟩
   have F1 := fin w1 it
   obtain ⟨ao, cap, g5, gO⟩ := i1.gv
   have g1 := i1.rd.c1
   rw [show min s.size ((q + 7) / 8) = (q + 7) / 8 by omega] at g1
   have cv : ∀ W : World, W.heap = w1.heap → (convert 86 9 (.slice ao out.length cap)).run Tryz.prog W = .ok (.string ⟨out.toArray⟩) W := fun W hW => out_str (base := w.heap.size + 1) (by unfold World.ownsRow at gO ⊢; rw [hW]; exact gO) rfl
   have cv1 := cv w1 rfl
   have cv2 := cv w1.drew rfl
   clear it i1
   obtain ⟨t, ht⟩ : ∃ t, t = (q + 7) / 8 := ⟨_, rfl⟩
   rw [← ht] at g1
   have HT : Hid (t = (q + 7) / 8) := ht
   clear ht hq
   go_wp2
   go_region
   all_goals go_wp2
   all_goals go_ret3
   all_goals
    have e1 : inflateVal (.inr (out, q)) = .tuple #[.string ⟨out.toArray⟩, .int .i64 (t : Int), .int .i64 0] := by rw [HT.out]; rfl
    rw [e1]
    exact ⟨rfl, F1.drew⟩
end Go.Proofs.YtnmkmmgaoplfiaaGreatDoor
