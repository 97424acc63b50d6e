/- Texts of this seat, joined. -/
import Derived.Test.YtpckiobjpikmlaaGreatDoorJ10
import Derived.Test.YtpckiobjpikmlaaGreatDoorJ44
set_option linter.unusedSimpArgs false
set_option linter.unusedVariables false
set_option maxRecDepth 100000
set_option maxHeartbeats 20000000
namespace Go.Proofs.YtpckiobjpikmlaaGreatDoor
open Go.RowKit
theorem ref_new (w : World) (s : ByteArray) (M : Int) : Ref (w.alloc (.cells #[.string s, .int .i64 0, .slice none 0 0, .int .i64 M, .int .i64 0] 172)) w.heap.size s 0 [] M := by
 have hc : ∀ j, (w.alloc (.cells #[.string s, .int .i64 0, .slice none 0 0, .int .i64 M, .int .i64 0] 172)).cell? ⟨w.heap.size, j, none⟩ = #[Value.string s, .int .i64 0, .slice none 0 0, .int .i64 M, .int .i64 0][j]? := fun j => row_cell (heap_alloc_new w _) j
 refine ⟨⟨?_, ?_, ?_, ?_⟩, ⟨none, 0, ?_, World.ownsRow_nil _ _ _ _⟩, ?_, Nat.zero_le _⟩
 ·rw [hc]; rfl
 ·rw [hc]; simp
 ·rw [hc]; simp
 ·intro o; exact row_fr (heap_alloc_new w _) o
 ·rw [hc]; rfl
 ·rw [hc]; rfl
theorem fine_fix : fine fixLetters fixDist = true := by decide +kernel
theorem rplain_r (b : Nat) (w : World) (s : ByteArray) (p : Nat) (out : List UInt8) (M : Int) (R : Sum Nat (List UInt8 × Nat)) (hR : plainOf s p out (max M 0).toNat = R) (hs : s.size ≤ 2147483648) (h : Ref w b s p out M) (hp : p ≤ 8 * s.size) :
  Calls Tryz.prog 86 #[.pointer (some ⟨b, 0, none⟩)] w fun e w' => e = .returned (.tuple #[]) ∧ refPost b s M w R w' := by
 subst hR; exact rplain_c b w s p out M hs h hp
theorem rown_r (w : World) (b : Nat) (s : ByteArray) (p : Nat) (R : Option (List Nat × List Nat × Nat)) (hR : ownRaw s p = R) (hs : s.size ≤ 2147483648) (h : RB w b s p) :
  Calls Tryz.prog 89 #[.pointer (some ⟨b, 0, none⟩)] w (rownPost b s p w R) := by
 subst hR; exact rown_c w b s p hs h
theorem rcoded_r (b : Nat) (w : World) (s : ByteArray) (p : Nat) (out : List UInt8) (M : Int) (lb lo N1 k1 db dof N2 k2 : Nat) (L D : List Nat) (f : Nat) (R : Sum Nat (List UInt8 × Nat)) (hR : (if fine L D = true then codedGo L D s (max M 0).toNat f p out else .inl 1) = R) (hs : s.size ≤ 2147483648) (h : Ref w b s p out M) (hp : p ≤ 8 * s.size) (hl1 : L.length = N1) (hl2 : D.length = N2) (n1 : N1 ≤ 288) (n2 : N2 ≤ 32)
  (c1 : ∀ j (h : j < L.length), w.cell? ⟨lb, lo + j, none⟩ = some (.int .i64 (L[j] : Nat))) (c2 : ∀ j (h : j < D.length), w.cell? ⟨db, dof + j, none⟩ = some (.int .i64 (D[j] : Nat))) (hf : 8 * s.size + 1 ≤ p + f) :
  Calls Tryz.prog 88 #[.pointer (some ⟨b, 0, none⟩), .slice (some ⟨lb, lo, none⟩) N1 k1, .slice (some ⟨db, dof, none⟩) N2 k2] w fun e w' => e = .returned (.tuple #[]) ∧ refPost b s M w R w' := by
 subst hR; exact rcoded_c b w s p out M lb lo N1 k1 db dof N2 k2 L D hs h hp hl1 hl2 n1 n2 c1 c2 f hf
theorem fix_l1 : fixLetters.length = 288 := by decide +kernel
theorem fix_l2 : fixDist.length = 32 := by decide +kernel
theorem fixed_r (w : World) :
  Calls Tryz.prog 87 #[] w fun e w' => ∃ (g1 k1 g2 k2 : Nat), e = .returned (.tuple #[.slice (some ⟨g1, 0, none⟩) 288 k1, .slice (some ⟨g2, 0, none⟩) 32 k2]) ∧
   (∀ j (h : j < fixLetters.length), w'.cell? ⟨g1, 0 + j, none⟩ = some (.int .i64 (fixLetters[j] : Nat))) ∧ (∀ j (h : j < fixDist.length), w'.cell? ⟨g2, 0 + j, none⟩ = some (.int .i64 (fixDist[j] : Nat))) ∧ Touch (fun _ => False) w w' := by
 refine (fixed_c w).mono ?_
 rintro e w' ⟨l, d, g1, k1, g2, k2, rfl, hl, hd, o1, o2, t⟩
 have e1 := hl.out
 have e2 := hd.out
 subst e1 e2
 exact ⟨g1, k1, g2, k2, by rw [fix_l1, fix_l2], owned_ints o1, owned_ints o2, t⟩
theorem block_own (s : ByteArray) (p : Nat) (out : List UInt8) (most : Nat) (L D : List Nat) (q : Nat) (h : ownRaw s p = some (L, D, q)) : blockOf s 2 p out most = if fine L D = true then codedGo L D s most (8 * s.size + 1) q out else .inl 1 := by
 unfold blockOf
 rw [if_neg (by decide), if_neg (by decide), if_pos rfl, ownOf_raw, h]
 by_cases c : fine L D = true
 ·simp only [c, if_true]
 ·simp only [c, if_false]; rfl
theorem block_none (s : ByteArray) (p : Nat) (out : List UInt8) (most : Nat) (h : ownRaw s p = none) : blockOf s 2 p out most = .inl 1 := by
 unfold blockOf
 rw [if_neg (by decide), if_neg (by decide), if_pos rfl, ownOf_raw, h]
def infRel (b : Nat) (s : ByteArray) (M : Int) (most : Nat) (R : Sum Nat (List UInt8 × Nat)) (w1 : World) (g : Nat) (la : Value) (wr : World) : Prop :=
 ∃ lb : Nat, lb ≤ 1 ∧ la = .int .i64 (lb : Int) ∧ IT b w1 wr ∧ ((lb = 0 ∧ ∃ p out, Ref wr b s p out M ∧ p ≤ 8 * s.size ∧ 8 * s.size + 1 ≤ p + g ∧ Hid (R = blocksGo s most g p out)) ∨ (lb = 1 ∧ ∃ p out, Ref wr b s p out M ∧ p ≤ 8 * s.size ∧ Hid (R = .inr (out, p))) ∨ ∃ e : Nat, 1 ≤ e ∧ Hid (R = .inl e) ∧ wr.cell? ⟨b, 4, none⟩ = some (.int .i64 (e : Int)))
theorem infRel_next (b : Nat) (s : ByteArray) (M : Int) (most : Nat) (R C : Sum Nat (List UInt8 × Nat)) (w1 w3 w4 : World) (g p v kd : Nat) (out : List UInt8) (HR : Hid (R = blocksGo s most (g + 1) p out)) (c1 : ¬ 8 * s.size < p + 3) (hv : bitOf s p = v) (hk : numAt s (p + 1) 2 = kd) (hC : blockOf s kd (p + 3) out most = C)
  (it : IT b w1 w3) (hp : refPost b s M w3 C w4) (hf : 8 * s.size + 1 ≤ p + (g + 1)) : infRel b s M most R w1 g (.int .i64 (v : Int)) w4 := by
 have bv := bitOf_lt s p
 have hh := HR.out
 unfold blocksGo at hh
 rw [if_neg c1, hk, hC, hv] at hh
 cases C with
 | inl k =>
  have hk := blockOf_inl s kd (p + 3) out most k hC
  exact ⟨v, by omega, rfl, it.trans hp.1, Or.inr (Or.inr ⟨k, by omega, hh, hp.2⟩)⟩
 | inr oq =>
  obtain ⟨o, q⟩ := oq
  have hle := blockOf_le s kd (p + 3) out most o q hC
  have hr : Ref w4 b s q o M := hp.2
  change R = (if v = 1 then .inr (o, q) else blocksGo s most g q o) at hh
  by_cases c2 : v = 1
  ·rw [if_pos c2] at hh
   exact ⟨v, by omega, rfl, it.trans hp.1, Or.inr (Or.inl ⟨c2, q, o, hr, hle.2, hh⟩)⟩
  ·rw [if_neg c2] at hh
   exact ⟨v, by omega, rfl, it.trans hp.1, Or.inl ⟨by omega, q, o, hr, hle.2, by omega, hh⟩⟩
theorem rinflate_c (w : World) (s : ByteArray) (M : Int) (hs : s.size ≤ 2147483648) :
  Calls Tryz.prog 44 #[.string s, .int .i64 M] w fun e w' => e = .returned (inflateVal (inflateOf s M)) ∧ Touch (fun _ => False) w w' := by
 obtain ⟨R, hR⟩ : ∃ R, R = inflateOf s M := ⟨_, rfl⟩
 obtain ⟨most, hmost⟩ : ∃ most, most = (max M 0).toNat := ⟨_, rfl⟩
 have HB : Hid (R = blocksGo s most (8 * s.size + 1) 0 []) := by unfold Hid; rw [hR]; unfold inflateOf; rw [hmost]
 have HM : Hid (most = (max M 0).toNat) := hmost
 rw [← hR]
 clear hR hmost
 have hin := ref_new w s M
 have t1 : Touch (fun _ => False) w (w.alloc (.cells #[.string s, .int .i64 0, .slice none 0 0, .int .i64 M, .int .i64 0] 172)) := (Touch.refl _ w).alloc _
 go_enter Tryz.func44, Tryz.ntmps44
 go_wp2
 obtain ⟨w1, hw1⟩ : ∃ w1, w1 = w.alloc (.cells #[.string s, .int .i64 0, .slice none 0 0, .int .i64 M, .int .i64 0] 172) := ⟨_, rfl⟩
 obtain ⟨b, hb⟩ : ∃ b, b = w.heap.size := ⟨_, rfl⟩
 rw [← hw1] at hin t1 ⊢
 have fin : ∀ w', IT b w1 w' → Touch (fun _ => False) w w' := fun w' it =>
  ((t1.mono (T := fun k => k = b ∨ b < k) (fun _ _ e => e.elim)).trans (it.mono (fun _ _ e => e.elim Or.inl (fun e => Or.inr e.1)))).mono (fun k hk e => by omega)
 rw [← hb] at hin ⊢
 clear hw1 hb
 go_loopg [8] (8 * s.size + 1) (fun g la wr => infRel b s M most R w1 g la wr)
 case atStart => exact ⟨0, by omega, rfl, IT.refl _ _, Or.inl ⟨rfl, 0, [], hin, by omega, by omega, HB⟩⟩
 case round =>
  clear hin t1 HB
  obtain ⟨lb, hl1, rfl, hit, hst⟩ := hrel
  rcases hst with ⟨rfl, p, out, ref, hp, hf, HR⟩ | ⟨rfl, p, out, ref, hp, HR⟩ | ⟨e, he, HE, h4⟩
  ·obtain ⟨g, rfl⟩ : ∃ g, gk = g + 1 := ⟨gk - 1, by omega⟩
   have h4 := ref.rb.zero hp
   obtain ⟨v, hv⟩ : ∃ v, bitOf s p = v := ⟨_, rfl⟩
   obtain ⟨kd, hkd⟩ : ∃ kd, kd = numAt s (p + 1) 2 := ⟨_, rfl⟩
   have bk := numAt_lt s (p + 1) 2
   rw [← hkd] at bk
   have HV : Hid (bitOf s p = v) := hv
   have HK : Hid (kd = numAt s (p + 1) 2) := hkd
   clear hv hkd
   go_wp2_with fail
   refine (rbit_v wr b s p v HV.out hs ref.rb).mono ?_
   rintro e w2 ⟨rfl, r2, t2⟩
   go_wp2_with fail
   refine (rnumber_i w2 b s (p + 1) 2 kd _ rfl HK.out (by omega) hs r2).mono ?_
   rintro e w3 ⟨rfl, r3, t3⟩
   have T3 := t2.trans t3
   rw [show p + 1 + 2 = p + 3 by omega] at r3
   have IT3 := hit.trans (IT.ofBT T3)
   clear h4 r2 t2 t3
   by_cases c1 : 8 * s.size < p + 3
   ·have HE : Hid (R = .inl 1) := by
     have hh := HR.out; unfold blocksGo at hh; rw [if_pos c1] at hh; exact hh
    have h4 := r3.one c1
    go_wp2
    go_quiet (fail)
    go_wp2
    go_ret3
    exact ⟨by rw [HE.out]; rfl, (fin w3 IT3).drewN _⟩
   ·have c1' : p + 3 ≤ 8 * s.size := by omega
    have h4 := r3.zero c1'
    have i3 := ref.read r3 T3 (by omega)
    have f4 := r3.fr 4
    have nx : ∀ C w4, blockOf s kd (p + 3) out most = C → refPost b s M w3 C w4 → infRel b s M most R w1 g (.int .i64 (v : Int)) w4 := fun C w4 hC hq => infRel_next b s M most R C w1 w3 w4 g p v kd out HR c1 HV.out HK.out.symm hC IT3 hq hf
    have NX : Hid (∀ C w4, blockOf s kd (p + 3) out most = C → refPost b s M w3 C w4 → infRel b s M most R w1 g (.int .i64 (v : Int)) w4) := nx
    clear nx HR HV HK
    have hm := HM.out
    rcases (by omega : kd = 0 ∨ kd = 1 ∨ kd = 2 ∨ kd = 3) with rfl | rfl | rfl | rfl
    ·obtain ⟨C, hC⟩ : ∃ C, plainOf s (p + 3) out (max M 0).toNat = C := ⟨_, rfl⟩
     have HC : Hid (plainOf s (p + 3) out (max M 0).toNat = C) := hC
     have hB : blockOf s 0 (p + 3) out most = C := by unfold blockOf; rw [if_pos rfl, hm]; exact hC
     have NX' := fun w4 hp => NX.out C w4 hB hp
     have NX2 : Hid (∀ w4, refPost b s M w3 C w4 → infRel b s M most R w1 g (.int .i64 (v : Int)) w4) := NX'
     clear NX' NX hB hC hm
     go_wp2_with (go_at_call 86; refine (rplain_r b w3 s (p + 3) out M C HC.out hs i3 c1').mono ?_; rintro e w4 ⟨rfl, hpost⟩)
     go_roundg g
     case measure => omega
     case rel => exact NX2.out w4 hpost
    ·obtain ⟨C, hC⟩ : ∃ C, codedGo fixLetters fixDist s most (8 * s.size + 1) (p + 3) out = C := ⟨_, rfl⟩
     have HC : Hid ((if fine fixLetters fixDist = true then codedGo fixLetters fixDist s (max M 0).toNat (8 * s.size + 1) (p + 3) out else .inl 1) = C) := by unfold Hid; rw [if_pos fine_fix, ← hm]; exact hC
     have hB : blockOf s 1 (p + 3) out most = C := by unfold blockOf; rw [if_neg (by decide), if_pos rfl]; exact hC
     have NX2 : Hid (∀ w4, refPost b s M w3 C w4 → infRel b s M most R w1 g (.int .i64 (v : Int)) w4) := fun w4 hp => NX.out C w4 hB hp
     clear NX hB hC hm
     go_wp2_with (first | (go_at_call 87; refine (fixed_r w3).mono ?_; rintro e w4 ⟨g1, k1, g2, k2, rfl, cl, cd, t4⟩; have i4 := i3.keepN t4) | (go_at_call 88; refine (rcoded_r b w4 s (p + 3) out M g1 0 288 k1 g2 0 32 k2 fixLetters fixDist (8 * s.size + 1) C HC.out hs i4 c1' fix_l1 fix_l2 (by omega) (by omega) cl cd (by omega)).mono ?_; rintro e w5 ⟨rfl, hpost⟩))
     go_roundg g
     case measure => omega
     case rel => exact NX2.out w5 ⟨(IT.ofNone t4).trans hpost.1, hpost.2⟩
    ·cases hO : ownRaw s (p + 3) with
     | none =>
      have HO : Hid (ownRaw s (p + 3) = none) := hO
      have NX2 : Hid (∀ w4, refPost b s M w3 (.inl 1) w4 → infRel b s M most R w1 g (.int .i64 (v : Int)) w4) := fun w4 hp => NX.out _ w4 (block_none s (p + 3) out most hO) hp
      clear NX hO hm
      go_wp2_with fail
      refine (rown_r w3 b s (p + 3) _ HO.out hs r3).mono ?_
      rintro e w4 ⟨t4, rfl, k, hk, h5⟩
      have f5 := (t4.fr 4).trans f4
      clear h4
      by_cases k0 : k = 0
      ·subst k0
       go_wp2_with (go_at_call 90; refine (fail_c w4 b 1 h5 f5).mono ?_; rintro e w5 ⟨rfl, rfl⟩)
       go_roundg g
       case measure => omega
       case rel => exact NX2.out _ ⟨IT.ofBT (t4.set 4 (Or.inr rfl) _), by simp [cell_set_if, h5]⟩
      ·obtain rfl : k = 1 := by omega
       go_wp2_with (go_at_call 90; refine (fail_no w4 b 1 1 h5 (by decide)).mono ?_; rintro e w5 ⟨rfl, rfl⟩)
       go_roundg g
       case measure => omega
       case rel => exact NX2.out _ ⟨IT.ofBT t4, h5⟩
     | some LDq =>
      obtain ⟨L, D, q⟩ := LDq
      obtain ⟨C, hC⟩ : ∃ C, (if fine L D = true then codedGo L D s most (8 * s.size + 1) q out else .inl 1) = C := ⟨_, rfl⟩
      have HC : Hid ((if fine L D = true then codedGo L D s (max M 0).toNat (8 * s.size + 1) q out else .inl 1) = C) := by unfold Hid; rw [← hm]; exact hC
      have HO : Hid (ownRaw s (p + 3) = some (L, D, q)) := hO
      have NX2 : Hid (∀ w4, refPost b s M w3 C w4 → infRel b s M most R w1 g (.int .i64 (v : Int)) w4) := fun w4 hp => NX.out C w4 ((block_own s (p + 3) out most L D q hO).trans hC) hp
      clear NX hO hm hC
      go_wp2_with fail
      refine (rown_r w3 b s (p + 3) _ HO.out hs r3).mono ?_
      rintro e w4 ⟨t4, g1, k1, k2, rfl, cl, cd, r4, q8, pq, l286, d30⟩
      have i4 := i3.read r4 t4 pq
      go_wp2_with (go_at_call 88; refine (rcoded_r b w4 s q out M g1 0 L.length k1 g1 L.length D.length k2 L D (8 * s.size + 1) C HC.out hs i4 q8 rfl rfl (by omega) (by omega) cl cd (by omega)).mono ?_; rintro e w5 ⟨rfl, hpost⟩)
      go_roundg g
      case measure => omega
      case rel => exact NX2.out w5 ⟨(IT.ofBT t4).trans hpost.1, hpost.2⟩
    ·have NX2 : Hid (∀ w4, refPost b s M w3 (.inl 1) w4 → infRel b s M most R w1 g (.int .i64 (v : Int)) w4) := fun w4 hp => NX.out _ w4 (by unfold blockOf; rfl) hp
     clear NX hm
     go_wp2_with (go_at_call 90; refine (fail_c w3 b 1 h4 f4).mono ?_; rintro e w4 ⟨rfl, rfl⟩)
     go_roundg g
     case measure => omega
     case rel => exact NX2.out _ ⟨IT.ofBT ((BT.refl b w3).set 4 (Or.inr rfl) _), by simp [cell_set_if, h4]⟩
  ·have h4 := ref.rb.zero hp
   have h1 := ref.rb.at hp
   obtain ⟨ao, cap, g5, gO⟩ := ref.gv
   have cv : ∀ n, (convert 60 9 (.slice ao out.length cap)).run Tryz.prog (wr.drewN n) = .ok (.string ⟨out.toArray⟩) (wr.drewN n) := fun n => out_str (base := b + 1) gO rfl
   obtain ⟨t, ht⟩ : ∃ t, t = (p + 7) / 8 := ⟨_, rfl⟩
   have e1 : ((p : Int) + 7) / 8 = (t : Int) := by omega
   have HT : Hid (t = (p + 7) / 8) := ht
   clear ht
   go_wp2
   go_quiet (fail)
   go_wp2
   go_ret3
   refine ⟨?_, (fin wr hit).drewN _⟩
   have e2 : inflateVal (.inr (out, p)) = .tuple #[.string ⟨out.toArray⟩, .int .i64 (t : Int), .int .i64 0] := by rw [HT.out]; rfl
   rw [HR.out, e2, ← e1]; rfl
  ·have e0 : ((e : Int) == 0) = false := by simp; omega
   go_wp2
   all_goals
    go_quiet (fail)
    go_wp2
    go_ret3
    exact ⟨by rw [HE.out]; rfl, (fin wr hit).drewN _⟩
end Go.Proofs.YtpckiobjpikmlaaGreatDoor
