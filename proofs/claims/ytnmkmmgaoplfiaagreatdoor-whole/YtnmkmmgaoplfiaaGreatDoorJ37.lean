/- Texts of this seat, joined. -/
import Derived.Test.YtnmkmmgaoplfiaaGreatDoorJ36
import Derived.Test.YtnmkmmgaoplfiaaGreatDoorJ14
import Derived.Test.YtnmkmmgaoplfiaaGreatDoorJ11
import Derived.Test.YtnmkmmgaoplfiaaGreatDoorJ04
set_option linter.unusedSimpArgs false
set_option linter.unusedVariables false
set_option maxRecDepth 100000
set_option maxHeartbeats 20000000
namespace Go.Proofs.YtnmkmmgaoplfiaaGreatDoor
open Go.RowKit
structure BW (w : World) (b : Nat) (B : List UInt8) (n : Nat) : Prop where
 gv : ∃ ao cap, w.cell? ⟨b, 0, none⟩ = some (.slice ao B.length cap) ∧ w.ownsRow (b + 1) 5 1 (.slice ao B.length cap) B.length (byteV B)
 cn : w.cell? ⟨b, 1, none⟩ = some (.int .i64 (n : Int))
 fr : ∀ o, w.frozen? ⟨b, o, none⟩ = false
theorem BW.lt {w : World} {b : Nat} {B : List UInt8} {n : Nat} (h : BW w b B n) : b < w.heap.size := World.block_lt_of_cell? w _ h.cn
theorem IT.drew' {b : Nat} {x y : World} (h : IT b x y) : IT b x y.drew := Touch.drew h
theorem owned_slice' {w : World} {base : Nat} {e : TypeId} {size n : Nat} {v : Value} {xs : List Value} (h : w.ownsRow base e size v n xs) : ∃ ao cap, v = .slice ao n cap := by
 rcases h.2 with ⟨e, h0⟩ | ⟨g, cap', cur, e, _⟩
 ·exact ⟨none, 0, by rw [e, h0]⟩
 ·exact ⟨_, _, e⟩
theorem byteV_set (B : List UInt8) (i : Nat) (c : UInt8) : (byteV B).set i (.int .u8 (c.toNat : Int)) = byteV (B.set i c) := by simp [byteV, List.map_set]
theorem BW.put {w : World} {b g cap m n : Nat} {B : List UInt8} (h0 : w.cell? ⟨b, 0, none⟩ = some (.slice (some ⟨g, 0, none⟩) B.length cap)) (ho : w.ownsRow (b + 1) 5 1 (.slice (some ⟨g, 0, none⟩) B.length cap) B.length (byteV B)) (h1 : w.cell? ⟨b, 1, none⟩ = some (.int .i64 (n : Int))) (fr : ∀ o, w.frozen? ⟨b, o, none⟩ = false) (hgb : b + 1 ≤ g) (V N : Int) (c : UInt8) (hV : V = (c.toNat : Int)) (hN : N = ((n + 1 : Nat) : Int)) :
  BW ((w.setCell ⟨g, m, none⟩ (.int .u8 V)).setCell ⟨b, 1, none⟩ (.int .i64 N)).drew b (B.set m c) (n + 1) ∧ IT b w ((w.setCell ⟨g, m, none⟩ (.int .u8 V)).setCell ⟨b, 1, none⟩ (.int .i64 N)).drew := by
 subst hV hN
 have hne : ¬ g = b := by omega
 have hst := (ho.stored m (.int .u8 (c.toNat : Int))).1
 rw [byteV_set] at hst
 have it : IT b w ((w.setCell ⟨g, m, none⟩ (.int .u8 (c.toNat : Int))).setCell ⟨b, 1, none⟩ (.int .i64 ((n + 1 : Nat) : Int))) :=
  Touch.setCell (Touch.setCell (Touch.refl _ w) (p := ⟨g, m, none⟩) (Or.inr ⟨by show b < g; omega, Typed.owned ho rfl⟩) _) (p := ⟨b, 1, none⟩) (Or.inl rfl) _
 refine ⟨⟨⟨some ⟨g, 0, none⟩, cap, ?_, ?_⟩, ?_, ?_⟩, it.drew'⟩
 ·show ((w.setCell _ _).setCell _ _).cell? _ = _
  rw [cell_set_ne (by omega), cell_set_if, if_neg (by omega), List.length_set]; exact h0
 ·rw [List.length_set]
  exact ownsRow_setCell_below hst (by show b < b + 1; omega) _
 ·show ((w.setCell _ _).setCell _ _).cell? _ = _
  simp [cell_set_if, hne, h1]
 ·intro o
  show ((w.setCell _ _).setCell _ _).frozen? _ = _
  rw [World.frozen?_setCell, World.frozen?_setCell]; exact fr o
theorem BW.given {w x w1 : World} {b n : Nat} {B new : List UInt8} {ao : Option Addr} {cap : Nat} {v' : Value} (h : BW w b B n) (h2 : w.cell? ⟨b, 0, none⟩ = some (.slice ao B.length cap)) (ho : w.ownsRow (b + 1) 5 1 (.slice ao B.length cap) B.length (byteV B))
  (hx : Touch (fun _ => False) w x) (hg : x.grownBy w1 (Value.slice ao B.length cap).ownBlock) (ho' : w1.ownsRow (b + 1) 5 1 v' (B.length + new.length) (byteV B ++ byteV new)) :
  (w1.cell? ⟨b, 0, none⟩ = some (.slice ao B.length cap) ∧ w1.frozen? ⟨b, 0, none⟩ = false) ∧ BW (w1.setCell ⟨b, 0, none⟩ v') b (B ++ new) n ∧ IT b w (w1.setCell ⟨b, 0, none⟩ v') := by
 have hlt := h.lt
 have t1 : Touch (fun k => k = b ∨ (b < k ∧ Typed w k 5)) w w1 := (hx.mono (fun _ _ e => e.elim)).grown hg (fun k hk => Or.inr ⟨by have := (ho.lt k hk).1; omega, Typed.owned ho hk⟩)
 have hne : ∀ k, (Value.slice ao B.length cap).ownBlock = some k → k ≠ b := fun k hk => by have := (ho.lt k hk).1; omega
 have hbb : w1.heap[b]? = w.heap[b]? := (hg.block b (Nat.lt_of_lt_of_le hlt hx.size) (fun e => hne b e.symm rfl)).trans (hx.block b hlt (fun e => e))
 have hc : ∀ o, w1.cell? ⟨b, o, none⟩ = w.cell? ⟨b, o, none⟩ := fun o => World.cell?_of_block hbb
 have hfz : ∀ o, w1.frozen? ⟨b, o, none⟩ = w.frozen? ⟨b, o, none⟩ := fun o => World.frozen?_of_block hbb
 have it : IT b w (w1.setCell ⟨b, 0, none⟩ v') := Touch.setCell t1 (p := ⟨b, 0, none⟩) (Or.inl rfl) v'
 refine ⟨⟨(hc 0).trans h2, (hfz 0).trans (h.fr 0)⟩, ⟨?_, ?_, ?_⟩, it⟩
 ·obtain ⟨ao', cap', rfl⟩ := owned_slice' ho'
  refine ⟨ao', cap', ?_, ?_⟩
  ·rw [List.length_append]; simp [cell_set_if, hc, h2]
  ·rw [List.length_append, byteV_app]
   exact ownsRow_setCell_below ho' (by show b < b + 1; omega) _
 ·rw [cell_set_ne (by omega), hc]; exact h.cn
 ·intro o; rw [World.frozen?_setCell, hfz]; exact h.fr o
theorem kbit_in (w : World) (b : Nat) (B : List UInt8) (n x y P : Nat) (hx : x ≤ 1) (h : BW w b B n) (h8 : n % 8 ≠ 0) (hB : B.length = (n + 7) / 8) (hn : n ≤ 1099511627776) (hy : y = (B.getD (B.length - 1) 0).toNat) (hP : P = 2 ^ (n % 8)) (hlt : y < P) :
  Calls Tryz.prog 38 #[.pointer (some ⟨b, 0, none⟩), .int .i64 (x : Int)] w fun e w' => e = .returned (.tuple #[]) ∧ BW w' b (putBit B n x) (n + 1) ∧ IT b w w' := by
 obtain ⟨ao, cap, h0, ho⟩ := h.gv
 have h1 := h.cn
 have f1 := h.fr 1
 obtain ⟨g, cg, hgv, hgb⟩ := owned_some ho (by omega)
 rw [hgv] at h0 ho
 cases hgv
 obtain ⟨m, hm⟩ : ∃ m, m = B.length - 1 := ⟨_, rfl⟩
 have hyb : w.cell? ⟨g, m, none⟩ = some (.int .u8 (y : Int)) := by
  rw [ho.cellAt m (by omega), hy, ← hm]
  have : m < B.length := by omega
  simp [byteV, List.getElem?_eq_getElem this]
 have hyf := ho.frozenAt m
 have P128 : P ≤ 128 := by rw [hP]; exact Nat.le_trans (Nat.pow_le_pow_right (by omega) (show n % 8 ≤ 7 by omega)) (by decide)
 obtain ⟨r, hr⟩ : ∃ r, r = n % 8 := ⟨_, rfl⟩
 have r7 : r ≤ 7 := by omega
 have HP : Hid (P = 2 ^ r) := by unfold Hid; rw [hP, hr]
 have ir : (n : Int) % 8 = (r : Int) := by omega
 have ir' : (n : Int).tmod 8 = (r : Int) := by rw [Int.tmod_eq_emod_of_nonneg (by omega)]; exact ir
 have r0 : ¬ (r : Int) = 0 := by omega
 have r0' : ((r : Int) == 0) = false := by simp; omega
 have im : (B.length : Int) - 1 = (m : Int) := by omega
 have im2 : IntKind.i64.wrap (m : Int) = (m : Int) := by simp [IntKind.wrap, IntKind.bits, IntKind.signed]; omega
 have im3 : (0 : Int) ≤ (m : Int) := by omega
 have im4 : (m : Int) < (B.length : Int) := by omega
 have im5 : m < B.length := by omega
 have HPB : Hid (putBit B n x = B.set m (UInt8.ofNat (y + x * P))) := by unfold Hid putBit; rw [if_neg h8, ← hy, ← hP, ← hm]
 have HM : Hid (m = B.length - 1) := hm
 clear hP hr hm hy h8 hB ir
 have hgne : ¬ g = b := by omega
 have hbne : ¬ b = g := by omega
 rcases (by omega : x = 0 ∨ x = 1) with rfl | rfl
 ·go_enter Tryz.func38, Tryz.ntmps38
  go_wp2
  go_loop [4, 5] (fun t i => ∃ k q : Nat, k ≤ r ∧ i = .int .i64 (k : Int) ∧ t = .int .i64 (q : Int) ∧ q ≤ 128 ∧ Hid (q = 2 ^ k)) (fun _ i => r - (intOf i).toNat)
  case atStart => exact ⟨0, 1, by omega, rfl, rfl, by omega, rfl⟩
  case round =>
   obtain ⟨k, q, hk, rfl, rfl, hq, HQ⟩ := hrel
   by_cases hlt2 : k < r
   ·have hq2 : 2 * q ≤ 128 := by
     have : 2 ^ (k + 1) ≤ 2 ^ 7 := Nat.pow_le_pow_right (by omega) (by omega)
     rw [Nat.pow_succ, ← HQ.out] at this; omega
    go_wp2
    go_round
    case rel => exact ⟨k + 1, 2 * q, by omega, by go_num, by go_num, hq2, by unfold Hid; rw [HQ.out, Nat.pow_succ, Nat.mul_comm]⟩
    case measure => simp [intOf]; omega
   ·obtain rfl : k = r := by omega
    obtain rfl : q = P := by rw [HQ.out, HP.out]
    have wq : IntKind.u8.wrap (q : Int) = (q : Int) := by simp [IntKind.wrap, IntKind.bits, IntKind.signed]; omega
    have wy : IntKind.u8.wrap ((y : Int) + (q : Int)) = (y : Int) + (q : Int) := by simp [IntKind.wrap, IntKind.bits, IntKind.signed]; omega
    have wy0 : IntKind.u8.wrap (y : Int) = (y : Int) := by simp [IntKind.wrap, IntKind.bits, IntKind.signed]; omega
    go_wp2
    go_region
    all_goals
     go_wp2
     go_end0
     have fin := BW.put (n := n) (m := m) h0 ho h1 h.fr hgb (y : Int) _ (UInt8.ofNat (y + 0 * q)) (by rw [u8_of _ (by omega)]; omega) (show (n : Int) + 1 = ((n + 1 : Nat) : Int) by omega)
     rw [HPB.out]
     exact ⟨rfl, fin⟩
 ·go_enter Tryz.func38, Tryz.ntmps38
  go_wp2
  go_loop [4, 5] (fun t i => ∃ k q : Nat, k ≤ r ∧ i = .int .i64 (k : Int) ∧ t = .int .i64 (q : Int) ∧ q ≤ 128 ∧ Hid (q = 2 ^ k)) (fun _ i => r - (intOf i).toNat)
  case atStart => exact ⟨0, 1, by omega, rfl, rfl, by omega, rfl⟩
  case round =>
   obtain ⟨k, q, hk, rfl, rfl, hq, HQ⟩ := hrel
   by_cases hlt2 : k < r
   ·have hq2 : 2 * q ≤ 128 := by
     have : 2 ^ (k + 1) ≤ 2 ^ 7 := Nat.pow_le_pow_right (by omega) (by omega)
     rw [Nat.pow_succ, ← HQ.out] at this; omega
    go_wp2
    go_round
    case rel => exact ⟨k + 1, 2 * q, by omega, by go_num, by go_num, hq2, by unfold Hid; rw [HQ.out, Nat.pow_succ, Nat.mul_comm]⟩
    case measure => simp [intOf]; omega
   ·obtain rfl : k = r := by omega
    obtain rfl : q = P := by rw [HQ.out, HP.out]
    have wq : IntKind.u8.wrap (q : Int) = (q : Int) := by simp [IntKind.wrap, IntKind.bits, IntKind.signed]; omega
    have wy : IntKind.u8.wrap ((y : Int) + (q : Int)) = (y : Int) + (q : Int) := by simp [IntKind.wrap, IntKind.bits, IntKind.signed]; omega
    have wy0 : IntKind.u8.wrap (y : Int) = (y : Int) := by simp [IntKind.wrap, IntKind.bits, IntKind.signed]; omega
    go_wp2
    go_region
    all_goals
     go_wp2
     go_end0
     have fin := BW.put (n := n) (m := m) h0 ho h1 h.fr hgb ((y : Int) + (q : Int)) _ (UInt8.ofNat (y + 1 * q)) (by rw [u8_of _ (by omega)]; omega) (show (n : Int) + 1 = ((n + 1 : Nat) : Int) by omega)
     rw [HPB.out]
     exact ⟨rfl, fin⟩
theorem kbit_new (w : World) (b : Nat) (B : List UInt8) (n x : Nat) (hx : x ≤ 1) (h : BW w b B n) (h8 : n % 8 = 0) (hB : B.length = (n + 7) / 8) (hn : n ≤ 1099511627776) :
  Calls Tryz.prog 38 #[.pointer (some ⟨b, 0, none⟩), .int .i64 (x : Int)] w fun e w' => e = .returned (.tuple #[]) ∧ BW w' b (putBit B n x) (n + 1) ∧ IT b w w' := by
 obtain ⟨ao, cap, h0, ho⟩ := h.gv
 have h1 := h.cn
 have hlt := h.lt
 obtain ⟨i0, hi, hz0, hz1, hz2⟩ := info_parts Tryz.infoByte
 have hl : B.length ≤ 1099511627776 := by omega
 have ir : (n : Int) % 8 = 0 := by omega
 have ir' : (n : Int).tmod 8 = 0 := by rw [Int.tmod_eq_emod_of_nonneg (by omega)]; exact ir
 have HPB : Hid (putBit B n x = B ++ [UInt8.ofNat x]) := by unfold Hid putBit; rw [if_pos h8]
 have hbs : ∀ o, b + 1 ≤ (w.alloc o).heap.size := by intro o; rw [World.size_alloc]; omega
 clear h8 hB ir
 rcases (by omega : x = 0 ∨ x = 1) with rfl | rfl
 ·go_enter Tryz.func38, Tryz.ntmps38
  go_wp2_with (at_builtin; refine wpList_append_own _ rfl _ _ 86 rfl (b + 1) 5 i0 (.int .u8 0) 1 1 Tryz.underlying86 hi hz0 hz1 hz2 rfl (by decide) _ _ _ rfl (ho.alloc _) ⟨_, 0, none⟩ 1 1 [.int .u8 0] rfl rfl (cell_one_new _ _ _) (by simp [Value.oneCell']) (by unfold maxLen; omega) (by omega) (hbs _) ?_; intro v' w1 hown' hgrow _; obtain ⟨⟨q5, q6⟩, _⟩ := h.given (new := [0]) h0 ho ((Touch.refl _ w).alloc _) hgrow hown'; obtain ⟨g', cap', hv', hgb'⟩ := owned_some hown' (by omega); rw [hv'] at hown' ⊢)
  obtain ⟨_, bw, it⟩ := h.given (new := [0]) h0 ho ((Touch.refl _ w).alloc _) hgrow hown'
  have o2 := ownsRow_setCell_below hown' (a := ⟨b, 0, none⟩) (by show b < b + 1; omega) (.slice (some ⟨g', 0, none⟩) (B.length + 1) cap')
  have c0 : (w1.setCell ⟨b, 0, none⟩ (.slice (some ⟨g', 0, none⟩) (B.length + 1) cap')).cell? ⟨b, 0, none⟩ = some (.slice (some ⟨g', 0, none⟩) (B.length + 1) cap') := by simp [cell_set_if, q5]
  obtain ⟨W, hW⟩ : ∃ W, W = w1.setCell ⟨b, 0, none⟩ (.slice (some ⟨g', 0, none⟩) (B.length + 1) cap') := ⟨_, rfl⟩
  rw [← hW] at bw it o2 c0 ⊢
  have c1 := bw.cn
  have f1 := bw.fr 1
  obtain ⟨m, hm⟩ : ∃ m, m = B.length := ⟨_, rfl⟩
  have hcell : W.cell? ⟨g', m, none⟩ = some (.int .u8 0) := by
   rw [o2.cellAt m (by omega), hm, List.getElem?_append_right (by rw [byteV_len]; omega), byteV_len]; simp
  have hfz := o2.frozenAt m
  have hgne : ¬ g' = b := by omega
  have hbne : ¬ b = g' := by omega
  have lm : (B ++ [(0 : UInt8)]).length = m + 1 := by rw [hm]; simp
  have e1 : byteV B ++ [Value.int .u8 0] = byteV (B ++ [0]) := by rw [byteV_app]; rfl
  have o3 : W.ownsRow (b + 1) 5 1 (.slice (some ⟨g', 0, none⟩) (B ++ [(0 : UInt8)]).length cap') (B ++ [(0 : UInt8)]).length (byteV (B ++ [0])) := by rw [lm, hm, ← e1]; exact o2
  have c3 : W.cell? ⟨b, 0, none⟩ = some (.slice (some ⟨g', 0, none⟩) (B ++ [(0 : UInt8)]).length cap') := by rw [lm, hm]; exact c0
  rw [← hm] at c0 ⊢
  have HB2 : Hid (putBit B n 0 = (B ++ [0]).set m (UInt8.ofNat 0)) := by unfold Hid; rw [HPB.out, hm]; simp
  have m40 : m ≤ 1099511627776 := by omega
  clear hW q5 q6 hown' hgrow o2 hl hm h0 ho e1 hv' hi hz0 hz1 hz2
  have im3 : (0 : Int) ≤ (m : Int) := by omega
  have im4 : (m : Int) < (m : Int) + 1 := by omega
  have im6 : (m : Int) + 1 - 1 = (m : Int) := by omega
  have im2 : IntKind.i64.wrap (m : Int) = (m : Int) := by simp [IntKind.wrap, IntKind.bits, IntKind.signed]; omega
  go_loop [4, 5] (fun t i => t = .int .i64 1 ∧ i = .int .i64 0) (fun _ _ => 0)
  case atStart => exact ⟨rfl, rfl⟩
  case round =>
   obtain ⟨rfl, rfl⟩ := hrel
   go_wp2
   go_region
   all_goals
    go_wp2
    go_end0
    have fin := BW.put (n := n) (m := m) c3 o3 c1 bw.fr hgb' (0 : Int) _ (UInt8.ofNat 0) (by rw [u8_of _ (by omega)]; rfl) (show (n : Int) + 1 = ((n + 1 : Nat) : Int) by omega)
    rw [HB2.out]
    exact ⟨rfl, fin.1, it.trans fin.2⟩
 ·go_enter Tryz.func38, Tryz.ntmps38
  go_wp2_with (at_builtin; refine wpList_append_own _ rfl _ _ 86 rfl (b + 1) 5 i0 (.int .u8 0) 1 1 Tryz.underlying86 hi hz0 hz1 hz2 rfl (by decide) _ _ _ rfl (ho.alloc _) ⟨_, 0, none⟩ 1 1 [.int .u8 0] rfl rfl (cell_one_new _ _ _) (by simp [Value.oneCell']) (by unfold maxLen; omega) (by omega) (hbs _) ?_; intro v' w1 hown' hgrow _; obtain ⟨⟨q5, q6⟩, _⟩ := h.given (new := [0]) h0 ho ((Touch.refl _ w).alloc _) hgrow hown'; obtain ⟨g', cap', hv', hgb'⟩ := owned_some hown' (by omega); rw [hv'] at hown' ⊢)
  obtain ⟨_, bw, it⟩ := h.given (new := [0]) h0 ho ((Touch.refl _ w).alloc _) hgrow hown'
  have o2 := ownsRow_setCell_below hown' (a := ⟨b, 0, none⟩) (by show b < b + 1; omega) (.slice (some ⟨g', 0, none⟩) (B.length + 1) cap')
  have c0 : (w1.setCell ⟨b, 0, none⟩ (.slice (some ⟨g', 0, none⟩) (B.length + 1) cap')).cell? ⟨b, 0, none⟩ = some (.slice (some ⟨g', 0, none⟩) (B.length + 1) cap') := by simp [cell_set_if, q5]
  obtain ⟨W, hW⟩ : ∃ W, W = w1.setCell ⟨b, 0, none⟩ (.slice (some ⟨g', 0, none⟩) (B.length + 1) cap') := ⟨_, rfl⟩
  rw [← hW] at bw it o2 c0 ⊢
  have c1 := bw.cn
  have f1 := bw.fr 1
  obtain ⟨m, hm⟩ : ∃ m, m = B.length := ⟨_, rfl⟩
  have hcell : W.cell? ⟨g', m, none⟩ = some (.int .u8 0) := by
   rw [o2.cellAt m (by omega), hm, List.getElem?_append_right (by rw [byteV_len]; omega), byteV_len]; simp
  have hfz := o2.frozenAt m
  have hgne : ¬ g' = b := by omega
  have hbne : ¬ b = g' := by omega
  have lm : (B ++ [(0 : UInt8)]).length = m + 1 := by rw [hm]; simp
  have e1 : byteV B ++ [Value.int .u8 0] = byteV (B ++ [0]) := by rw [byteV_app]; rfl
  have o3 : W.ownsRow (b + 1) 5 1 (.slice (some ⟨g', 0, none⟩) (B ++ [(0 : UInt8)]).length cap') (B ++ [(0 : UInt8)]).length (byteV (B ++ [0])) := by rw [lm, hm, ← e1]; exact o2
  have c3 : W.cell? ⟨b, 0, none⟩ = some (.slice (some ⟨g', 0, none⟩) (B ++ [(0 : UInt8)]).length cap') := by rw [lm, hm]; exact c0
  rw [← hm] at c0 ⊢
  have HB2 : Hid (putBit B n 1 = (B ++ [0]).set m (UInt8.ofNat 1)) := by unfold Hid; rw [HPB.out, hm]; simp
  have m40 : m ≤ 1099511627776 := by omega
  clear hW q5 q6 hown' hgrow o2 hl hm h0 ho e1 hv' hi hz0 hz1 hz2
  have im3 : (0 : Int) ≤ (m : Int) := by omega
  have im4 : (m : Int) < (m : Int) + 1 := by omega
  have im6 : (m : Int) + 1 - 1 = (m : Int) := by omega
  have im2 : IntKind.i64.wrap (m : Int) = (m : Int) := by simp [IntKind.wrap, IntKind.bits, IntKind.signed]; omega
  go_loop [4, 5] (fun t i => t = .int .i64 1 ∧ i = .int .i64 0) (fun _ _ => 0)
  case atStart => exact ⟨rfl, rfl⟩
  case round =>
   obtain ⟨rfl, rfl⟩ := hrel
   go_wp2
   go_region
   all_goals
    go_wp2
    go_end0
    have fin := BW.put (n := n) (m := m) c3 o3 c1 bw.fr hgb' (1 : Int) _ (UInt8.ofNat 1) (by rw [u8_of _ (by omega)]; rfl) (show (n : Int) + 1 = ((n + 1 : Nat) : Int) by omega)
    rw [HB2.out]
    exact ⟨rfl, fin.1, it.trans fin.2⟩
structure BWs (w : World) (b : Nat) (bs : List Nat) : Prop where
 bw : BW w b (bytesOf bs) bs.length
 le : ∀ x ∈ bs, x ≤ 1
theorem kbit_c (w : World) (b : Nat) (bs : List Nat) (x : Nat) (X : Int) (hX : X = (x : Int)) (hx : x ≤ 1) (h : BWs w b bs) (hn : bs.length ≤ 1099511627776) :
  Calls Tryz.prog 38 #[.pointer (some ⟨b, 0, none⟩), .int .i64 X] w fun e w' => e = .returned (.tuple #[]) ∧ BWs w' b (bs ++ [x]) ∧ IT b w w' := by
 subst hX
 obtain ⟨l1, l2, _⟩ := bitsIn bs h.le
 have le : ∀ y ∈ bs ++ [x], y ≤ 1 := by
  intro y hy
  rcases List.mem_append.1 hy with hy | hy
  ·exact h.le y hy
  ·simp at hy; omega
 have e : putBit (bytesOf bs) bs.length x = bytesOf (bs ++ [x]) := (bytesOf_snoc bs x).symm
 by_cases h8 : bs.length % 8 = 0
 ·refine (kbit_new w b (bytesOf bs) bs.length x hx h.bw h8 l1 hn).mono ?_
  rintro e' w' ⟨he, hb, ht⟩
  rw [e] at hb
  exact ⟨he, ⟨by rw [List.length_append]; exact hb, le⟩, ht⟩
 ·refine (kbit_in w b (bytesOf bs) bs.length x _ _ hx h.bw h8 l1 hn rfl rfl (l2 h8)).mono ?_
  rintro e' w' ⟨he, hb, ht⟩
  rw [e] at hb
  exact ⟨he, ⟨by rw [List.length_append]; exact hb, le⟩, ht⟩
end Go.Proofs.YtnmkmmgaoplfiaaGreatDoor
namespace Go.Proofs.YtnmkmmgaoplfiaaGreatDoor
open Go.RowKit
theorem BWs.lt {w : World} {b : Nat} {bs : List Nat} (h : BWs w b bs) : b < w.heap.size := h.bw.lt
theorem numBits_snoc (x n : Nat) : numBits x (n + 1) = numBits x n ++ [x / 2 ^ n % 2] := by simp [numBits, List.range_succ]
theorem numBits_len (x n : Nat) : (numBits x n).length = n := by simp [numBits]
theorem codeBits_len (x n : Nat) : (codeBits x n).length = n := by simp [codeBits]
theorem knumber_c (w : World) (b : Nat) (bs : List Nat) (x n : Nat) (X N : Int) (hX : X = (x : Int)) (hN : N = (n : Int)) (hx : x ≤ 1099511627776) (hn : n ≤ 64) (h : BWs w b bs) (hl : bs.length ≤ 1099511620000) :
  Calls Tryz.prog 39 #[.pointer (some ⟨b, 0, none⟩), .int .i64 X, .int .i64 N] w fun e w' => e = .returned (.tuple #[]) ∧ BWs w' b (bs ++ numBits x n) ∧ IT b w w' := by
 subst hX hN
 go_enter Tryz.func39, Tryz.ntmps39
 go_wp2
 go_loopw [1, 6] (fun t i wr => ∃ k y : Nat, k ≤ n ∧ i = .int .i64 (k : Int) ∧ t = .int .i64 (y : Int) ∧ y ≤ 1099511627776 ∧ Hid (y = x / 2 ^ k) ∧ BWs wr b (bs ++ numBits x k) ∧ IT b w wr) (fun _ i _ => n - (intOf i).toNat)
 case atStart => exact ⟨0, x, by omega, rfl, rfl, hx, by unfold Hid; simp, by simpa [numBits] using h, IT.refl _ _⟩
 case round =>
  obtain ⟨k, y, hk, rfl, rfl, hy, HY, hb, hit⟩ := hrel
  by_cases hlt : k < n
  ·have len : (bs ++ numBits x k).length ≤ 1099511627776 := by rw [List.length_append, numBits_len]; omega
   go_wp2_with (go_at_call 38; refine (kbit_c wr b (bs ++ numBits x k) (y % 2) _ (by omega) (by omega) hb len).mono ?_; rintro e w2 ⟨rfl, b2, t2⟩)
   go_roundw
   case rel =>
    refine ⟨k + 1, y / 2, by omega, by go_num, by go_num, by omega, ?_, ?_, hit.trans t2⟩
    ·unfold Hid; rw [HY.out, Nat.pow_succ, Nat.div_div_eq_div_mul]
    ·rw [numBits_snoc, ← HY.out, ← List.append_assoc]; exact b2
   case measure => simp [intOf]; omega
  ·obtain rfl : k = n := by omega
   go_wp2
   go_end0
   exact ⟨rfl, hb, hit⟩
def codePart (x n i : Nat) : List Nat := (List.range i).map fun j => x / 2 ^ (n - 1 - j) % 2
theorem codePart_snoc (x n i : Nat) : codePart x n (i + 1) = codePart x n i ++ [x / 2 ^ (n - 1 - i) % 2] := by simp [codePart, List.range_succ]
theorem codePart_len (x n i : Nat) : (codePart x n i).length = i := by simp [codePart]
theorem kcode_c (w : World) (b : Nat) (bs : List Nat) (x n : Nat) (X N : Int) (hX : X = (x : Int)) (hN : N = (n : Int)) (hx : x ≤ 65536) (h1 : 1 ≤ n) (hn : n ≤ 15) (h : BWs w b bs) (hl : bs.length ≤ 1099511620000) :
  Calls Tryz.prog 42 #[.pointer (some ⟨b, 0, none⟩), .int .i64 X, .int .i64 N] w fun e w' => e = .returned (.tuple #[]) ∧ BWs w' b (bs ++ codeBits x n) ∧ IT b w w' := by
 subst hX hN
 go_enter Tryz.func42, Tryz.ntmps42
 go_wp2
 go_loop [6, 7] (fun t i => ∃ k q : Nat, 1 ≤ k ∧ k ≤ n ∧ i = .int .i64 (k : Int) ∧ t = .int .i64 (q : Int) ∧ q ≤ 32768 ∧ Hid (q = 2 ^ (k - 1))) (fun _ i => n - (intOf i).toNat)
 case atStart => exact ⟨1, 1, by omega, h1, rfl, rfl, by omega, rfl⟩
 case round =>
  obtain ⟨k, q, k1, hk, rfl, rfl, hq, HQ⟩ := hrel
  by_cases hlt : k < n
  ·have hq2 : 2 * q ≤ 32768 := by
    have : 2 ^ k ≤ 2 ^ 15 := Nat.pow_le_pow_right (by omega) (by omega)
    obtain ⟨j, rfl⟩ : ∃ j, k = j + 1 := ⟨k - 1, by omega⟩
    have e := HQ.out
    rw [Nat.add_sub_cancel] at e
    rw [Nat.pow_succ, ← e] at this; omega
   go_wp2
   go_round
   case rel =>
    refine ⟨k + 1, 2 * q, by omega, by omega, by go_num, by go_num, hq2, ?_⟩
    obtain ⟨j, rfl⟩ : ∃ j, k = j + 1 := ⟨k - 1, by omega⟩
    unfold Hid; rw [HQ.out]; simp only [Nat.add_sub_cancel]; rw [Nat.pow_succ, Nat.mul_comm]
   case measure => simp [intOf]; omega
  ·obtain rfl : k = n := by omega
   have lt0 : ¬ (k : Int) < (k : Int) := by omega
   go_wp2
   go_loopw [6, 8] (fun t i wr => ∃ j q : Nat, j ≤ k ∧ i = .int .i64 (j : Int) ∧ t = .int .i64 (q : Int) ∧ 1 ≤ q ∧ q ≤ 32768 ∧ Hid (q = 2 ^ (k - 1 - j)) ∧ BWs wr b (bs ++ codePart x k j) ∧ IT b w wr) (fun _ i _ => k - (intOf i).toNat)
   case atStart => exact ⟨0, q, by omega, rfl, rfl, by rw [HQ.out]; exact Nat.one_le_two_pow, hq, by unfold Hid; rw [HQ.out]; rfl, by simpa [codePart] using h, IT.refl _ _⟩
   case round =>
    clear hq HQ
    obtain ⟨j, q, hj, rfl, rfl, q1, hq, HQ, hb, hit⟩ := hrel
    by_cases hlt2 : j < k
    ·have len : (bs ++ codePart x k j).length ≤ 1099511627776 := by rw [List.length_append, codePart_len]; omega
     obtain ⟨y, hy⟩ : ∃ y, y = x / q % 2 := ⟨_, rfl⟩
     have y1 : y ≤ 1 := by omega
     have d0 : (0 : Int) ≤ (x : Int) / (q : Int) := Int.ediv_nonneg (by omega) (by omega)
     have d1 : (x : Int) / (q : Int) ≤ (x : Int) := Int.ediv_le_self _ (by omega)
     have e3 : (x : Int) / (q : Int) % 2 = (y : Int) := by rw [hy]; push_cast; rfl
     have t1 : (x : Int).tdiv (q : Int) = (x : Int) / (q : Int) := Int.tdiv_eq_ediv_of_nonneg (by omega)
     have t2 : ((x : Int) / (q : Int)).tmod 2 = (y : Int) := by rw [Int.tmod_eq_emod_of_nonneg d0]; exact e3
     have wr1 : IntKind.i64.wrap ((x : Int) / (q : Int)) = (x : Int) / (q : Int) := by simp [IntKind.wrap, IntKind.bits, IntKind.signed]; omega
     have q0 : ((q : Int) == 0) = false := by simp; omega
     have q0' : ¬ (q : Int) = 0 := by omega
     have HY : Hid (y = x / 2 ^ (k - 1 - j) % 2) := by unfold Hid; rw [hy, HQ.out]
     clear hy
     by_cases qq : 1 < q
     ·have HQ2 : Hid (q / 2 = 2 ^ (k - 1 - (j + 1))) := by
       have e := HQ.out
       by_cases hz : k - 1 - j = 0
       ·rw [hz] at e; omega
       ·obtain ⟨d, hd⟩ : ∃ d, k - 1 - j = d + 1 := ⟨k - 1 - j - 1, by omega⟩
        unfold Hid; rw [e, hd, show k - 1 - (j + 1) = d by omega, Nat.pow_succ]; omega
      go_wp2_with (go_at_call 38; refine (kbit_c wr b (bs ++ codePart x k j) y _ rfl y1 hb len).mono ?_; rintro e w2 ⟨rfl, b2, t2⟩)
      go_roundw
      case rel => exact ⟨j + 1, q / 2, by omega, by go_num, by go_num, by omega, by omega, HQ2, by rw [codePart_snoc, ← HY.out, ← List.append_assoc]; exact b2, hit.trans t2⟩
      case measure => simp [intOf]; omega
     ·obtain rfl : q = 1 := by omega
      have HQ2 : Hid (1 = 2 ^ (k - 1 - (j + 1))) := by
       have e := HQ.out
       by_cases hz : k - 1 - j = 0
       ·unfold Hid; rw [show k - 1 - (j + 1) = 0 by omega]
       ·obtain ⟨d, hd⟩ : ∃ d, k - 1 - j = d + 1 := ⟨k - 1 - j - 1, by omega⟩
        rw [hd, Nat.pow_succ] at e; omega
      go_wp2_with (go_at_call 38; refine (kbit_c wr b (bs ++ codePart x k j) y _ (by omega) y1 hb len).mono ?_; rintro e w2 ⟨rfl, b2, t2⟩)
      go_roundw
      case rel => exact ⟨j + 1, 1, by omega, by go_num, by go_num, by omega, by omega, HQ2, by rw [codePart_snoc, ← HY.out, ← List.append_assoc]; exact b2, hit.trans t2⟩
      case measure => simp [intOf]; omega
    ·obtain rfl : j = k := by omega
     go_wp2
     go_end0
     exact ⟨rfl, hb, hit⟩
theorem kletter_c (w : World) (b : Nat) (bs : List Nat) (x : Nat) (X : Int) (hX : X = (x : Int)) (hx : x ≤ 287) (h : BWs w b bs) (hl : bs.length ≤ 1099511620000) :
  Calls Tryz.prog 41 #[.pointer (some ⟨b, 0, none⟩), .int .i64 X] w fun e w' => e = .returned (.tuple #[]) ∧ BWs w' b (bs ++ letterBits x) ∧ IT b w w' := by
 subst hX
 by_cases c1 : x < 144
 ·have HE : Hid (letterBits x = codeBits (48 + x) 8) := by unfold Hid letterBits; rw [if_pos c1]
  go_enter Tryz.func41, Tryz.ntmps41
  go_wp2_with (go_at_call 42; refine (kcode_c w b bs (48 + x) 8 _ _ (by omega) rfl (by omega) (by omega) (by omega) h hl).mono ?_; rintro e w2 ⟨rfl, b2, t2⟩)
  go_end0
  exact ⟨rfl, by rw [HE.out]; exact b2, t2⟩
 ·by_cases c2 : x < 256
  ·have HE : Hid (letterBits x = codeBits (400 + x - 144) 9) := by unfold Hid letterBits; rw [if_neg c1, if_pos c2]
   go_enter Tryz.func41, Tryz.ntmps41
   go_wp2_with (go_at_call 42; refine (kcode_c w b bs (400 + x - 144) 9 _ _ (by omega) rfl (by omega) (by omega) (by omega) h hl).mono ?_; rintro e w2 ⟨rfl, b2, t2⟩)
   go_end0
   exact ⟨rfl, by rw [HE.out]; exact b2, t2⟩
  ·by_cases c3 : x < 280
   ·have HE : Hid (letterBits x = codeBits (x - 256) 7) := by unfold Hid letterBits; rw [if_neg c1, if_neg c2, if_pos c3]
    go_enter Tryz.func41, Tryz.ntmps41
    go_wp2_with (go_at_call 42; refine (kcode_c w b bs (x - 256) 7 _ _ (by omega) rfl (by omega) (by omega) (by omega) h hl).mono ?_; rintro e w2 ⟨rfl, b2, t2⟩)
    go_end0
    exact ⟨rfl, by rw [HE.out]; exact b2, t2⟩
   ·have HE : Hid (letterBits x = codeBits (192 + x - 280) 8) := by unfold Hid letterBits; rw [if_neg c1, if_neg c2, if_neg c3]
    go_enter Tryz.func41, Tryz.ntmps41
    go_wp2_with (go_at_call 42; refine (kcode_c w b bs (192 + x - 280) 8 _ _ (by omega) rfl (by omega) (by omega) (by omega) h hl).mono ?_; rintro e w2 ⟨rfl, b2, t2⟩)
    go_end0
    exact ⟨rfl, by rw [HE.out]; exact b2, t2⟩
def padBits (n : Nat) : List Nat := List.replicate ((8 - n % 8) % 8) 0
def strBits (s : List UInt8) : List Nat := s.flatMap fun c => numBits c.toNat 8
theorem strBits_len (s : List UInt8) : (strBits s).length = 8 * s.length := by
 induction s with
 | nil => rfl
 | cons c s ih => rw [show strBits (c :: s) = numBits c.toNat 8 ++ strBits s from rfl, List.length_append, ih, numBits_len, List.length_cons]; omega
theorem strBits_le (s : List UInt8) : ∀ x ∈ strBits s, x ≤ 1 := by
 intro x hx
 simp only [strBits, List.mem_flatMap] at hx
 obtain ⟨c, _, hc⟩ := hx
 exact numBits_le _ _ x hc
theorem set_same (B : List UInt8) (i m : Nat) (h : i < B.length) : B.set i (UInt8.ofNat ((B.getD i 0).toNat + 0 * 2 ^ m)) = B := by
 have e : (B.getD i 0) = B[i] := by rw [List.getD_eq_getElem?_getD, List.getElem?_eq_getElem h]; rfl
 rw [e]
 have : UInt8.ofNat (B[i].toNat + 0 * 2 ^ m) = B[i] := by simp
 rw [this]
 exact List.set_getElem_self h
theorem bytes_zeros (bs : List Nat) (h : ∀ x ∈ bs, x ≤ 1) : ∀ k, k ≤ (8 - bs.length % 8) % 8 → bytesOf (bs ++ List.replicate k 0) = bytesOf bs
 | 0, _ => by simp
 | k + 1, hk => by
  have ih := bytes_zeros bs h k (by omega)
  have hl := (bitsIn bs h).len
  rw [List.replicate_succ', ← List.append_assoc, bytesOf_snoc, ih, List.length_append, List.length_replicate]
  unfold putBit
  rw [if_neg (by omega)]
  exact set_same (bytesOf bs) ((bytesOf bs).length - 1) _ (by omega)
theorem bytes_pad (bs : List Nat) (h : ∀ x ∈ bs, x ≤ 1) : bytesOf (bs ++ padBits bs.length) = bytesOf bs := bytes_zeros bs h _ (Nat.le_refl _)
theorem mod_step (c k : Nat) : c % 2 ^ (k + 1) = c % 2 ^ k + c / 2 ^ k % 2 * 2 ^ k := by
 rw [Nat.pow_succ, Nat.mod_mul, Nat.mul_comm (2 ^ k)]
theorem bytes_part (bs : List Nat) (h : ∀ x ∈ bs, x ≤ 1) (h8 : bs.length % 8 = 0) (c : Nat) : ∀ k, k + 1 ≤ 8 → bytesOf (bs ++ numBits c (k + 1)) = bytesOf bs ++ [UInt8.ofNat (c % 2 ^ (k + 1))]
 | 0, _ => by
  rw [numBits_snoc, ← List.append_assoc, bytesOf_snoc]
  simp only [numBits, List.range_zero, List.map_nil, List.append_nil]
  unfold putBit
  rw [if_pos h8]; simp
 | k + 1, hk => by
  have ih := bytes_part bs h h8 c k (by omega)
  rw [numBits_snoc, ← List.append_assoc, bytesOf_snoc, ih, List.length_append, numBits_len]
  unfold putBit
  rw [if_neg (by omega), show (bs.length + (k + 1)) % 8 = k + 1 by omega, List.length_append]
  simp only [List.length_singleton, Nat.add_sub_cancel]
  have e : ((bytesOf bs ++ [UInt8.ofNat (c % 2 ^ (k + 1))]).getD (bytesOf bs).length 0) = UInt8.ofNat (c % 2 ^ (k + 1)) := by
   rw [List.getD_eq_getElem?_getD, List.getElem?_append_right (Nat.le_refl _)]; simp
  have lt1 : c % 2 ^ (k + 1) < 2 ^ (k + 1) := Nat.mod_lt _ (Nat.two_pow_pos _)
  have lt2 : 2 ^ (k + 1) ≤ 2 ^ 8 := Nat.pow_le_pow_right (by omega) (by omega)
  rw [e, u8_of _ (by omega), ← mod_step]
  rw [List.set_append_right _ _ (Nat.le_refl _)]
  simp
theorem bytes_str (bs : List Nat) : ∀ (s : List UInt8) (bs : List Nat), (∀ x ∈ bs, x ≤ 1) → bs.length % 8 = 0 → bytesOf (bs ++ strBits s) = bytesOf bs ++ s
 | [], bs, h, h8 => by simp [strBits]
 | c :: s, bs, h, h8 => by
  have e : strBits (c :: s) = numBits c.toNat 8 ++ strBits s := rfl
  have b1 := bytes_part bs h h8 c.toNat 7 (by omega)
  have lt := c.toNat_lt
  rw [Nat.mod_eq_of_lt (by simpa using lt)] at b1
  have h2 : ∀ x ∈ bs ++ numBits c.toNat 8, x ≤ 1 := fun x hx => (List.mem_append.1 hx).elim (h x) (numBits_le _ _ x)
  rw [e, ← List.append_assoc, bytes_str bs s (bs ++ numBits c.toNat 8) h2 (by rw [List.length_append, numBits_len]; omega), b1]
  simp
theorem wpList_append_src {P : Program} {ops : Array Oper} {rest : List Oper} {o : Oper} {a : Act} {w : World} {Q : Exit → Act → World → Prop} (hgd : o.guard = none) (s x : Operand) (t tx : TypeId)
  (hop : o.op = .call { callee := .builtin .append, args := #[s, x], argTypes := #[t, tx] })
  (base : Nat) (e : TypeId) (i : TypeInfo) (z : Value) (bytes : Nat) (h1 : P.underlying t = some (.slice e)) (h2 : P.info? e = some i) (h3 : i.zero = some z) (h4 : i.size = 1) (h5 : i.bytes = bytes) (h6 : z.cells.size = 1)
  (v : Value) (n : Nat) (xs : List Value) (hv : a.eval s = v) (hown : w.ownsRow base e 1 v n xs) (y : Value) (m : Nat) (news : List Value) (hy : a.eval x = y) (hs : Src P 1 tx y m news w)
  (b1 : n + m ≤ maxLen) (b2 : (n + m) * bytes ≤ 140737488355328) (b3 : base ≤ w.heap.size)
  (h : ∀ v' w', w'.ownsRow base e 1 v' (n + m) (xs ++ news) → w.grownBy w' v.ownBlock → wpList P ops Q rest (a.put o.dst v') w') : wpList P ops Q (o :: rest) a w :=
 wpList_plain hgd fun _ hK => by
  obtain ⟨v', w', hrun, r1, r2⟩ := run_append_own_src (P := P) w base t tx o.type e i z bytes h1 h2 h3 h4 h5 h6 v n xs hown y m news hs b1 b2 b3
  unfold Oper.wp
  simp [execOp, hop, resolve, invoke, builtin, hv, hy, hrun, Result.andThen]
  exact hK _ _ (h v' w' r1 r2)
theorem IT.set1 {b : Nat} {x y : World} (h : IT b x y) (v : Value) : IT b x (y.setCell ⟨b, 1, none⟩ v) := Touch.setCell h (p := ⟨b, 1, none⟩) (Or.inl rfl) v
theorem byteCells_V (s : List UInt8) : byteCells ⟨s.toArray⟩ = byteV s := by simp [byteCells, byteV]
theorem kbytes_c (w : World) (b : Nat) (bs : List Nat) (s : List UInt8) (S : ByteArray) (hS : S = ⟨s.toArray⟩) (h : BWs w b bs) (hl : bs.length ≤ 1099511620000) (hs : s.length ≤ 1000000) :
  Calls Tryz.prog 40 #[.pointer (some ⟨b, 0, none⟩), .string S] w fun e w' => e = .returned (.tuple #[]) ∧ BWs w' b (bs ++ padBits bs.length ++ strBits s) ∧ IT b w w' := by
 have hlen := (bitsIn bs h.le).len
 have e0 := bytes_pad bs h.le
 have le1 : ∀ x ∈ bs ++ padBits bs.length, x ≤ 1 := fun x hx => (List.mem_append.1 hx).elim (h.le x) (fun hx => by simp only [padBits, List.mem_replicate] at hx; omega)
 have l8 : (bs ++ padBits bs.length).length = 8 * (bytesOf bs).length := by rw [List.length_append, padBits, List.length_replicate]; omega
 have e1 := bytes_str [] s (bs ++ padBits bs.length) le1 (by omega)
 rw [e0] at e1
 have le2 : ∀ x ∈ bs ++ padBits bs.length ++ strBits s, x ≤ 1 := fun x hx => (List.mem_append.1 hx).elim (le1 x) (strBits_le s x)
 have l9 : (bs ++ padBits bs.length ++ strBits s).length = 8 * ((bytesOf bs).length + s.length) := by rw [List.length_append, l8, strBits_len]; omega
 obtain ⟨B, hB⟩ : ∃ B, B = bytesOf bs := ⟨_, rfl⟩
 have hbw := h.bw
 rw [← hB] at e1 l9 hlen hbw
 have HE : Hid (bytesOf (bs ++ padBits bs.length ++ strBits s) = B ++ s) := e1
 have HL : Hid ((bs ++ padBits bs.length ++ strBits s).length = 8 * (B.length + s.length)) := l9
 clear hB e0 l8 e1 l9
 obtain ⟨ao, cap, h0, ho⟩ := hbw.gv
 have h1 := hbw.cn
 obtain ⟨i0, hi, hz0, hz1, hz2⟩ := info_parts Tryz.infoByte
 have hlt := hbw.lt
 have ssz : Hid (S.size = s.length) := by unfold Hid; rw [hS]; show s.toArray.size = _; simp
 have cellS : Hid (byteCells S = byteV s) := by unfold Hid; rw [hS]; exact byteCells_V s
 have sle : S.size ≤ 1000000 := by rw [ssz.out]; exact hs
 have f1 := hbw.fr 1
 have hl2 : B.length ≤ 1099511627776 := by omega
 clear hlen hS
 go_enter Tryz.func40, Tryz.ntmps40
 go_wp2_with (at_builtin; refine wpList_append_src rfl (.tmp 8) (.tmp 9) 86 9 rfl (b + 1) 5 i0 (.int .u8 0) 1 Tryz.underlying86 hi hz0 hz1 hz2 rfl _ _ _ rfl ho _ _ _ rfl (Src.ofString _ Tryz.underlying9 S) (by unfold maxLen; omega) (by omega) (by omega) ?_; intro v' w1 hown' hgrow; rw [cellS.out, ssz.out] at hown'; obtain ⟨⟨q5, q6⟩, bw2, it2⟩ := hbw.given (new := s) h0 ho (Touch.refl _ w) hgrow hown'; have r1 := bw2.cn; rw [cell_set_ne (by omega)] at r1; have r2 := bw2.fr 1; rw [World.frozen?_setCell] at r2; obtain ⟨ao', cap', hv'⟩ := owned_slice' hown'; rw [hv'] at hown' bw2 it2 ⊢)
 go_end0
 refine ⟨rfl, ⟨?_, le2⟩, it2.set1 _⟩
 rw [HE.out, HL.out]
 obtain ⟨ao2, cap2, g0, gO⟩ := bw2.gv
 refine ⟨⟨ao2, cap2, ?_, ownsRow_setCell_below gO (by show b < b + 1; omega) _⟩, ?_, ?_⟩
 ·rw [cell_set_ne (by omega)]; exact g0
 ·have := bw2.cn
  simp [cell_set_if, q5, r1]
 ·intro o; rw [World.frozen?_setCell]; exact bw2.fr o
end Go.Proofs.YtnmkmmgaoplfiaaGreatDoor
namespace Go.Proofs.YtnmkmmgaoplfiaaGreatDoor
open Go.RowKit
structure Ref (w : World) (b : Nat) (s : ByteArray) (p : Nat) (out : List UInt8) (M : Int) : Prop where
 rb : RB w b s p
 gv : ∃ ao cap, w.cell? ⟨b, 2, none⟩ = some (.slice ao out.length cap) ∧ w.ownsRow (b + 1) 5 1 (.slice ao out.length cap) out.length (byteV out)
 ms : w.cell? ⟨b, 3, none⟩ = some (.int .i64 M)
 few : out.length ≤ 258 * p
theorem RB.lt {w : World} {b : Nat} {s : ByteArray} {p : Nat} (h : RB w b s p) : b < w.heap.size := World.block_lt_of_cell? w _ h.c0
theorem Ref.lt {w : World} {b : Nat} {s : ByteArray} {p : Nat} {out : List UInt8} {M : Int} (h : Ref w b s p out M) : b < w.heap.size := h.rb.lt
theorem Ref.read {w w' : World} {b : Nat} {s : ByteArray} {p q : Nat} {out : List UInt8} {M : Int} (h : Ref w b s p out M) (hr : RB w' b s q) (hn : BT b w w') (hq : p ≤ q) : Ref w' b s q out M := by
 obtain ⟨ao, cap, h2, ho⟩ := h.gv
 refine ⟨hr, ⟨ao, cap, (hn.keep 2 (by omega) (by omega)).trans h2, hn.t.owns ho (fun k hk (e : k = b) => ?_)⟩, (hn.keep 3 (by omega) (by omega)).trans h.ms, by have := h.few; omega⟩
 have := (ho.lt k hk).1
 omega
theorem Ref.given {w x w1 : World} {b : Nat} {s : ByteArray} {p : Nat} {out new : List UInt8} {M : Int} {ao : Option Addr} {cap : Nat} {v' : Value} (h : Ref w b s p out M) (h2 : w.cell? ⟨b, 2, none⟩ = some (.slice ao out.length cap)) (ho : w.ownsRow (b + 1) 5 1 (.slice ao out.length cap) out.length (byteV out))
  (hx : Touch (fun _ => False) w x) (hg : x.grownBy w1 (Value.slice ao out.length cap).ownBlock) (ho' : w1.ownsRow (b + 1) 5 1 v' (out.length + new.length) (byteV out ++ byteV new)) (hfew : out.length + new.length ≤ 258 * p) :
  (w1.cell? ⟨b, 2, none⟩ = some (.slice ao out.length cap) ∧ w1.frozen? ⟨b, 2, none⟩ = false) ∧ Ref (w1.setCell ⟨b, 2, none⟩ v') b s p (out ++ new) M ∧ IT b w (w1.setCell ⟨b, 2, none⟩ v') := by
 have hlt := h.lt
 have t1 : Touch (fun k => k = b ∨ (b < k ∧ Typed w k 5)) w w1 := (hx.mono (fun _ _ e => e.elim)).grown hg (fun k hk => Or.inr ⟨by have := (ho.lt k hk).1; omega, Typed.owned ho hk⟩)
 have hne : ∀ k, (Value.slice ao out.length cap).ownBlock = some k → k ≠ b := fun k hk => by have := (ho.lt k hk).1; omega
 have hbb : w1.heap[b]? = w.heap[b]? := (hg.block b (Nat.lt_of_lt_of_le hlt hx.size) (fun e => hne b e.symm rfl)).trans (hx.block b hlt (fun e => e))
 have hc : ∀ o, w1.cell? ⟨b, o, none⟩ = w.cell? ⟨b, o, none⟩ := fun o => World.cell?_of_block hbb
 have hfz : ∀ o, w1.frozen? ⟨b, o, none⟩ = w.frozen? ⟨b, o, none⟩ := fun o => World.frozen?_of_block hbb
 have it : IT b w (w1.setCell ⟨b, 2, none⟩ v') := Touch.setCell t1 (p := ⟨b, 2, none⟩) (Or.inl rfl) v'
 refine ⟨⟨(hc 2).trans h2, (hfz 2).trans (h.rb.fr 2)⟩, ⟨?_, ?_, ?_, ?_⟩, it⟩
 ·have r := h.rb
  refine ⟨?_, ?_, ?_, ?_⟩
  ·rw [cell_set_ne (by omega), hc]; exact r.c0
  ·rw [cell_set_ne (by omega), hc]; exact r.c1
  ·rw [cell_set_ne (by omega), hc]; exact r.c4
  ·intro o; rw [World.frozen?_setCell, hfz]; exact r.fr o
 ·have hsl : ∃ ao' cap', v' = .slice ao' (out ++ new).length cap' := by
   rw [List.length_append]
   rcases ho'.2 with ⟨e, h0⟩ | ⟨g, cap', cur, e, _⟩
   ·exact ⟨none, 0, by rw [e, h0]⟩
   ·exact ⟨_, _, e⟩
  obtain ⟨ao', cap', rfl⟩ := hsl
  refine ⟨ao', cap', ?_, ?_⟩
  ·simp [cell_set_if, hc, h2]
  ·rw [List.length_append] at *
   rw [byteV_app]
   exact ownsRow_setCell_below ho' (by show b < b + 1; omega) _
 ·rw [cell_set_ne (by omega), hc]; exact h.ms
 ·rw [List.length_append]; exact hfew
end Go.Proofs.YtnmkmmgaoplfiaaGreatDoor
