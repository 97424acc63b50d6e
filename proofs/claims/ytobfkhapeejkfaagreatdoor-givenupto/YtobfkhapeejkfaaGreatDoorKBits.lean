/- The statements' own writer of bits. -/
import Derived.Test.YtobfkhapeejkfaaGreatDoorKPure
import Derived.Test.YtobfkhapeejkfaaGreatDoorWInf
import Derived.Test.YtobfkhapeejkfaaGreatDoorAppend
import Derived.Test.YtobfkhapeejkfaaGreatDoorRBit
namespace Go.Proofs.YtobfkhapeejkfaaGreatDoor
open Go.RowKit
set_option linter.unusedSimpArgs false
set_option linter.unusedVariables false

/-- A writer in the block b: its bytes, and how many bits they are. -/
structure BW (w : World) (b : Nat) (B : List UInt8) (n : Nat) : Prop where
  gv : ∃ ao cap, w.cell? ⟨b, 0, none⟩ = some (.slice ao B.length cap) ∧ w.ownsRow (b + 1) 5 1 (.slice ao B.length cap) B.length (byteV B)
  cn : w.cell? ⟨b, 1, none⟩ = some (.int .i64 (n : Int))
  fr : ∀ o, w.frozen? ⟨b, o, none⟩ = false
theorem BW.lt {w : World} {b : Nat} {B : List UInt8} {n : Nat} (h : BW w b B n) : b < w.heap.size := World.block_lt_of_cell? w _ h.cn
theorem IT.drew' {b : Nat} {x y : World} (h : IT b x y) : IT b x y.drew := Touch.drew h
theorem owned_slice' {w : World} {base : Nat} {e : TypeId} {size n : Nat} {v : Value} {xs : List Value} (h : w.ownsRow base e size v n xs) : ∃ ao cap, v = .slice ao n cap := by
  rcases h.2 with ⟨e, h0⟩ | ⟨g, cap', cur, e, _⟩
  · exact ⟨none, 0, by rw [e, h0]⟩
  · exact ⟨_, _, e⟩
theorem byteV_set (B : List UInt8) (i : Nat) (c : UInt8) : (byteV B).set i (.int .u8 (c.toNat : Int)) = byteV (B.set i c) := by simp [byteV, List.map_set]

theorem BW.put {w : World} {b g cap m n : Nat} {B : List UInt8} (h0 : w.cell? ⟨b, 0, none⟩ = some (.slice (some ⟨g, 0, none⟩) B.length cap)) (ho : w.ownsRow (b + 1) 5 1 (.slice (some ⟨g, 0, none⟩) B.length cap) B.length (byteV B)) (h1 : w.cell? ⟨b, 1, none⟩ = some (.int .i64 (n : Int))) (fr : ∀ o, w.frozen? ⟨b, o, none⟩ = false) (hgb : b + 1 ≤ g) (V N : Int) (c : UInt8) (hV : V = (c.toNat : Int)) (hN : N = ((n + 1 : Nat) : Int)) :
    BW ((w.setCell ⟨g, m, none⟩ (.int .u8 V)).setCell ⟨b, 1, none⟩ (.int .i64 N)).drew b (B.set m c) (n + 1) ∧ IT b w ((w.setCell ⟨g, m, none⟩ (.int .u8 V)).setCell ⟨b, 1, none⟩ (.int .i64 N)).drew := by
  subst hV hN
  have hne : ¬ g = b := by omega
  have hst := (ho.stored m (.int .u8 (c.toNat : Int))).1
  rw [byteV_set] at hst
  have it : IT b w ((w.setCell ⟨g, m, none⟩ (.int .u8 (c.toNat : Int))).setCell ⟨b, 1, none⟩ (.int .i64 ((n + 1 : Nat) : Int))) :=
    Touch.setCell (Touch.setCell (Touch.refl _ w) (p := ⟨g, m, none⟩) (Or.inr ⟨by show b < g; omega, Typed.owned ho rfl⟩) _) (p := ⟨b, 1, none⟩) (Or.inl rfl) _
  refine ⟨⟨⟨some ⟨g, 0, none⟩, cap, ?_, ?_⟩, ?_, ?_⟩, it.drew'⟩
  · show ((w.setCell _ _).setCell _ _).cell? _ = _
    rw [cell_set_ne (by omega), cell_set_if, if_neg (by omega), List.length_set]; exact h0
  · rw [List.length_set]
    exact ownsRow_setCell_below hst (by show b < b + 1; omega) _
  · show ((w.setCell _ _).setCell _ _).cell? _ = _
    simp [cell_set_if, hne, h1]
  · intro o
    show ((w.setCell _ _).setCell _ _).frozen? _ = _
    rw [World.frozen?_setCell, World.frozen?_setCell]; exact fr o
theorem BW.given {w x w1 : World} {b n : Nat} {B new : List UInt8} {ao : Option Addr} {cap : Nat} {v' : Value} (h : BW w b B n) (h2 : w.cell? ⟨b, 0, none⟩ = some (.slice ao B.length cap)) (ho : w.ownsRow (b + 1) 5 1 (.slice ao B.length cap) B.length (byteV B))
    (hx : Touch (fun _ => False) w x) (hg : x.grownBy w1 (Value.slice ao B.length cap).ownBlock) (ho' : w1.ownsRow (b + 1) 5 1 v' (B.length + new.length) (byteV B ++ byteV new)) :
    (w1.cell? ⟨b, 0, none⟩ = some (.slice ao B.length cap) ∧ w1.frozen? ⟨b, 0, none⟩ = false) ∧ BW (w1.setCell ⟨b, 0, none⟩ v') b (B ++ new) n ∧ IT b w (w1.setCell ⟨b, 0, none⟩ v') := by
  have hlt := h.lt
  have t1 : Touch (fun k => k = b ∨ (b < k ∧ Typed w k 5)) w w1 := (hx.mono (fun _ _ e => e.elim)).grown hg (fun k hk => Or.inr ⟨by have := (ho.lt k hk).1; omega, Typed.owned ho hk⟩)
  have hne : ∀ k, (Value.slice ao B.length cap).ownBlock = some k → k ≠ b := fun k hk => by have := (ho.lt k hk).1; omega
  have hbb : w1.heap[b]? = w.heap[b]? := (hg.block b (Nat.lt_of_lt_of_le hlt hx.size) (fun e => hne b e.symm rfl)).trans (hx.block b hlt (fun e => e))
  have hc : ∀ o, w1.cell? ⟨b, o, none⟩ = w.cell? ⟨b, o, none⟩ := fun o => World.cell?_of_block hbb
  have hfz : ∀ o, w1.frozen? ⟨b, o, none⟩ = w.frozen? ⟨b, o, none⟩ := fun o => World.frozen?_of_block hbb
  have it : IT b w (w1.setCell ⟨b, 0, none⟩ v') := Touch.setCell t1 (p := ⟨b, 0, none⟩) (Or.inl rfl) v'
  refine ⟨⟨(hc 0).trans h2, (hfz 0).trans (h.fr 0)⟩, ⟨?_, ?_, ?_⟩, it⟩
  · obtain ⟨ao', cap', rfl⟩ := owned_slice' ho'
    refine ⟨ao', cap', ?_, ?_⟩
    · rw [List.length_append]; simp [cell_set_if, hc, h2]
    · rw [List.length_append, byteV_app]
      exact ownsRow_setCell_below ho' (by show b < b + 1; omega) _
  · rw [cell_set_ne (by omega), hc]; exact h.cn
  · intro o; rw [World.frozen?_setCell, hfz]; exact h.fr o

set_option maxRecDepth 100000 in
set_option maxHeartbeats 2000000 in
/-- Within a byte. -/
theorem kbit_in (w : World) (b : Nat) (B : List UInt8) (n x y P : Nat) (hx : x ≤ 1) (h : BW w b B n) (h8 : n % 8 ≠ 0) (hB : B.length = (n + 7) / 8) (hn : n ≤ 1099511627776) (hy : y = (B.getD (B.length - 1) 0).toNat) (hP : P = 2 ^ (n % 8)) (hlt : y < P) :
    Calls Tryz.prog 40 #[.pointer (some ⟨b, 0, none⟩), .int .i64 (x : Int)] w fun e w' => e = .returned (.tuple #[]) ∧ BW w' b (putBit B n x) (n + 1) ∧ IT b w w' := by
  obtain ⟨ao, cap, h0, ho⟩ := h.gv
  have h1 := h.cn
  have f1 := h.fr 1
  obtain ⟨g, cg, hgv, hgb⟩ := owned_some ho (by omega)
  rw [hgv] at h0 ho
  cases hgv
  obtain ⟨m, hm⟩ : ∃ m, m = B.length - 1 := ⟨_, rfl⟩
  have hyb : w.cell? ⟨g, m, none⟩ = some (.int .u8 (y : Int)) := by
    rw [ho.cellAt m (by omega), hy, ← hm]
    have : m < B.length := by omega
    simp [byteV, List.getElem?_eq_getElem this]
  have hyf := ho.frozenAt m
  have P128 : P ≤ 128 := by rw [hP]; exact Nat.le_trans (Nat.pow_le_pow_right (by omega) (show n % 8 ≤ 7 by omega)) (by decide)
  obtain ⟨r, hr⟩ : ∃ r, r = n % 8 := ⟨_, rfl⟩
  have r7 : r ≤ 7 := by omega
  have HP : Hid (P = 2 ^ r) := by unfold Hid; rw [hP, hr]
  have ir : (n : Int) % 8 = (r : Int) := by omega
  have ir' : (n : Int).tmod 8 = (r : Int) := by rw [Int.tmod_eq_emod_of_nonneg (by omega)]; exact ir
  have r0 : ¬ (r : Int) = 0 := by omega
  have r0' : ((r : Int) == 0) = false := by simp; omega
  have im : (B.length : Int) - 1 = (m : Int) := by omega
  have im2 : IntKind.i64.wrap (m : Int) = (m : Int) := by simp [IntKind.wrap, IntKind.bits, IntKind.signed]; omega
  have im3 : (0 : Int) ≤ (m : Int) := by omega
  have im4 : (m : Int) < (B.length : Int) := by omega
  have im5 : m < B.length := by omega
  have HPB : Hid (putBit B n x = B.set m (UInt8.ofNat (y + x * P))) := by unfold Hid putBit; rw [if_neg h8, ← hy, ← hP, ← hm]
  have HM : Hid (m = B.length - 1) := hm
  clear hP hr hm hy h8 hB ir
  have hgne : ¬ g = b := by omega
  have hbne : ¬ b = g := by omega
  rcases (by omega : x = 0 ∨ x = 1) with rfl | rfl
  · go_enter Tryz.func40, Tryz.ntmps40
    go_wp2
    go_loop [4, 5] (fun t i => ∃ k q : Nat, k ≤ r ∧ i = .int .i64 (k : Int) ∧ t = .int .i64 (q : Int) ∧ q ≤ 128 ∧ Hid (q = 2 ^ k)) (fun _ i => r - (intOf i).toNat)
    case atStart => exact ⟨0, 1, by omega, rfl, rfl, by omega, rfl⟩
    case round =>
      obtain ⟨k, q, hk, rfl, rfl, hq, HQ⟩ := hrel
      by_cases hlt2 : k < r
      · have hq2 : 2 * q ≤ 128 := by
          have : 2 ^ (k + 1) ≤ 2 ^ 7 := Nat.pow_le_pow_right (by omega) (by omega)
          rw [Nat.pow_succ, ← HQ.out] at this; omega
        go_wp2
        go_round
        case rel => exact ⟨k + 1, 2 * q, by omega, by go_num, by go_num, hq2, by unfold Hid; rw [HQ.out, Nat.pow_succ, Nat.mul_comm]⟩
        case measure => simp [intOf]; omega
      · obtain rfl : k = r := by omega
        obtain rfl : q = P := by rw [HQ.out, HP.out]
        have wq : IntKind.u8.wrap (q : Int) = (q : Int) := by simp [IntKind.wrap, IntKind.bits, IntKind.signed]; omega
        have wy : IntKind.u8.wrap ((y : Int) + (q : Int)) = (y : Int) + (q : Int) := by simp [IntKind.wrap, IntKind.bits, IntKind.signed]; omega
        have wy0 : IntKind.u8.wrap (y : Int) = (y : Int) := by simp [IntKind.wrap, IntKind.bits, IntKind.signed]; omega
        go_wp2
        go_region
        all_goals
          go_wp2
          go_end0
          have fin := BW.put (n := n) (m := m) h0 ho h1 h.fr hgb (y : Int) _ (UInt8.ofNat (y + 0 * q)) (by rw [u8_of _ (by omega)]; omega) (show (n : Int) + 1 = ((n + 1 : Nat) : Int) by omega)
          rw [HPB.out]
          exact ⟨rfl, fin⟩
  · go_enter Tryz.func40, Tryz.ntmps40
    go_wp2
    go_loop [4, 5] (fun t i => ∃ k q : Nat, k ≤ r ∧ i = .int .i64 (k : Int) ∧ t = .int .i64 (q : Int) ∧ q ≤ 128 ∧ Hid (q = 2 ^ k)) (fun _ i => r - (intOf i).toNat)
    case atStart => exact ⟨0, 1, by omega, rfl, rfl, by omega, rfl⟩
    case round =>
      obtain ⟨k, q, hk, rfl, rfl, hq, HQ⟩ := hrel
      by_cases hlt2 : k < r
      · have hq2 : 2 * q ≤ 128 := by
          have : 2 ^ (k + 1) ≤ 2 ^ 7 := Nat.pow_le_pow_right (by omega) (by omega)
          rw [Nat.pow_succ, ← HQ.out] at this; omega
        go_wp2
        go_round
        case rel => exact ⟨k + 1, 2 * q, by omega, by go_num, by go_num, hq2, by unfold Hid; rw [HQ.out, Nat.pow_succ, Nat.mul_comm]⟩
        case measure => simp [intOf]; omega
      · obtain rfl : k = r := by omega
        obtain rfl : q = P := by rw [HQ.out, HP.out]
        have wq : IntKind.u8.wrap (q : Int) = (q : Int) := by simp [IntKind.wrap, IntKind.bits, IntKind.signed]; omega
        have wy : IntKind.u8.wrap ((y : Int) + (q : Int)) = (y : Int) + (q : Int) := by simp [IntKind.wrap, IntKind.bits, IntKind.signed]; omega
        have wy0 : IntKind.u8.wrap (y : Int) = (y : Int) := by simp [IntKind.wrap, IntKind.bits, IntKind.signed]; omega
        go_wp2
        go_region
        all_goals
          go_wp2
          go_end0
          have fin := BW.put (n := n) (m := m) h0 ho h1 h.fr hgb ((y : Int) + (q : Int)) _ (UInt8.ofNat (y + 1 * q)) (by rw [u8_of _ (by omega)]; omega) (show (n : Int) + 1 = ((n + 1 : Nat) : Int) by omega)
          rw [HPB.out]
          exact ⟨rfl, fin⟩

set_option maxRecDepth 100000 in
set_option maxHeartbeats 2000000 in
/-- At a byte's beginning. -/
theorem kbit_new (w : World) (b : Nat) (B : List UInt8) (n x : Nat) (hx : x ≤ 1) (h : BW w b B n) (h8 : n % 8 = 0) (hB : B.length = (n + 7) / 8) (hn : n ≤ 1099511627776) :
    Calls Tryz.prog 40 #[.pointer (some ⟨b, 0, none⟩), .int .i64 (x : Int)] w fun e w' => e = .returned (.tuple #[]) ∧ BW w' b (putBit B n x) (n + 1) ∧ IT b w w' := by
  obtain ⟨ao, cap, h0, ho⟩ := h.gv
  have h1 := h.cn
  have hlt := h.lt
  obtain ⟨i0, hi, hz0, hz1, hz2⟩ := info_parts Tryz.infoByte
  have hl : B.length ≤ 1099511627776 := by omega
  have ir : (n : Int) % 8 = 0 := by omega
  have ir' : (n : Int).tmod 8 = 0 := by rw [Int.tmod_eq_emod_of_nonneg (by omega)]; exact ir
  have HPB : Hid (putBit B n x = B ++ [UInt8.ofNat x]) := by unfold Hid putBit; rw [if_pos h8]
  have hbs : ∀ o, b + 1 ≤ (w.alloc o).heap.size := by intro o; rw [World.size_alloc]; omega
  clear h8 hB ir
  rcases (by omega : x = 0 ∨ x = 1) with rfl | rfl
  · go_enter Tryz.func40, Tryz.ntmps40
    go_wp2_with (at_builtin; refine wpList_append_own _ rfl _ _ 34 rfl (b + 1) 5 i0 (.int .u8 0) 1 1 Tryz.underlying34 hi hz0 hz1 hz2 rfl (by decide) _ _ _ rfl (ho.alloc _) ⟨_, 0, none⟩ 1 1 [.int .u8 0] rfl rfl (cell_one_new _ _ _) (by simp [Value.oneCell']) (by unfold maxLen; omega) (by omega) (hbs _) ?_; intro v' w1 hown' hgrow _; obtain ⟨⟨q5, q6⟩, _⟩ := h.given (new := [0]) h0 ho ((Touch.refl _ w).alloc _) hgrow hown'; obtain ⟨g', cap', hv', hgb'⟩ := owned_some hown' (by omega); rw [hv'] at hown' ⊢)
    obtain ⟨_, bw, it⟩ := h.given (new := [0]) h0 ho ((Touch.refl _ w).alloc _) hgrow hown'
    have o2 := ownsRow_setCell_below hown' (a := ⟨b, 0, none⟩) (by show b < b + 1; omega) (.slice (some ⟨g', 0, none⟩) (B.length + 1) cap')
    have c0 : (w1.setCell ⟨b, 0, none⟩ (.slice (some ⟨g', 0, none⟩) (B.length + 1) cap')).cell? ⟨b, 0, none⟩ = some (.slice (some ⟨g', 0, none⟩) (B.length + 1) cap') := by simp [cell_set_if, q5]
    obtain ⟨W, hW⟩ : ∃ W, W = w1.setCell ⟨b, 0, none⟩ (.slice (some ⟨g', 0, none⟩) (B.length + 1) cap') := ⟨_, rfl⟩
    rw [← hW] at bw it o2 c0 ⊢
    have c1 := bw.cn
    have f1 := bw.fr 1
    obtain ⟨m, hm⟩ : ∃ m, m = B.length := ⟨_, rfl⟩
    have hcell : W.cell? ⟨g', m, none⟩ = some (.int .u8 0) := by
      rw [o2.cellAt m (by omega), hm, List.getElem?_append_right (by rw [byteV_len]; omega), byteV_len]; simp
    have hfz := o2.frozenAt m
    have hgne : ¬ g' = b := by omega
    have hbne : ¬ b = g' := by omega
    have lm : (B ++ [(0 : UInt8)]).length = m + 1 := by rw [hm]; simp
    have e1 : byteV B ++ [Value.int .u8 0] = byteV (B ++ [0]) := by rw [byteV_app]; rfl
    have o3 : W.ownsRow (b + 1) 5 1 (.slice (some ⟨g', 0, none⟩) (B ++ [(0 : UInt8)]).length cap') (B ++ [(0 : UInt8)]).length (byteV (B ++ [0])) := by rw [lm, hm, ← e1]; exact o2
    have c3 : W.cell? ⟨b, 0, none⟩ = some (.slice (some ⟨g', 0, none⟩) (B ++ [(0 : UInt8)]).length cap') := by rw [lm, hm]; exact c0
    rw [← hm] at c0 ⊢
    have HB2 : Hid (putBit B n 0 = (B ++ [0]).set m (UInt8.ofNat 0)) := by unfold Hid; rw [HPB.out, hm]; simp
    have m40 : m ≤ 1099511627776 := by omega
    clear hW q5 q6 hown' hgrow o2 hl hm h0 ho e1 hv' hi hz0 hz1 hz2
    have im3 : (0 : Int) ≤ (m : Int) := by omega
    have im4 : (m : Int) < (m : Int) + 1 := by omega
    have im6 : (m : Int) + 1 - 1 = (m : Int) := by omega
    have im2 : IntKind.i64.wrap (m : Int) = (m : Int) := by simp [IntKind.wrap, IntKind.bits, IntKind.signed]; omega
    go_loop [4, 5] (fun t i => t = .int .i64 1 ∧ i = .int .i64 0) (fun _ _ => 0)
    case atStart => exact ⟨rfl, rfl⟩
    case round =>
      obtain ⟨rfl, rfl⟩ := hrel
      go_wp2
      go_region
      all_goals
        go_wp2
        go_end0
        have fin := BW.put (n := n) (m := m) c3 o3 c1 bw.fr hgb' (0 : Int) _ (UInt8.ofNat 0) (by rw [u8_of _ (by omega)]; rfl) (show (n : Int) + 1 = ((n + 1 : Nat) : Int) by omega)
        rw [HB2.out]
        exact ⟨rfl, fin.1, it.trans fin.2⟩
  · go_enter Tryz.func40, Tryz.ntmps40
    go_wp2_with (at_builtin; refine wpList_append_own _ rfl _ _ 34 rfl (b + 1) 5 i0 (.int .u8 0) 1 1 Tryz.underlying34 hi hz0 hz1 hz2 rfl (by decide) _ _ _ rfl (ho.alloc _) ⟨_, 0, none⟩ 1 1 [.int .u8 0] rfl rfl (cell_one_new _ _ _) (by simp [Value.oneCell']) (by unfold maxLen; omega) (by omega) (hbs _) ?_; intro v' w1 hown' hgrow _; obtain ⟨⟨q5, q6⟩, _⟩ := h.given (new := [0]) h0 ho ((Touch.refl _ w).alloc _) hgrow hown'; obtain ⟨g', cap', hv', hgb'⟩ := owned_some hown' (by omega); rw [hv'] at hown' ⊢)
    obtain ⟨_, bw, it⟩ := h.given (new := [0]) h0 ho ((Touch.refl _ w).alloc _) hgrow hown'
    have o2 := ownsRow_setCell_below hown' (a := ⟨b, 0, none⟩) (by show b < b + 1; omega) (.slice (some ⟨g', 0, none⟩) (B.length + 1) cap')
    have c0 : (w1.setCell ⟨b, 0, none⟩ (.slice (some ⟨g', 0, none⟩) (B.length + 1) cap')).cell? ⟨b, 0, none⟩ = some (.slice (some ⟨g', 0, none⟩) (B.length + 1) cap') := by simp [cell_set_if, q5]
    obtain ⟨W, hW⟩ : ∃ W, W = w1.setCell ⟨b, 0, none⟩ (.slice (some ⟨g', 0, none⟩) (B.length + 1) cap') := ⟨_, rfl⟩
    rw [← hW] at bw it o2 c0 ⊢
    have c1 := bw.cn
    have f1 := bw.fr 1
    obtain ⟨m, hm⟩ : ∃ m, m = B.length := ⟨_, rfl⟩
    have hcell : W.cell? ⟨g', m, none⟩ = some (.int .u8 0) := by
      rw [o2.cellAt m (by omega), hm, List.getElem?_append_right (by rw [byteV_len]; omega), byteV_len]; simp
    have hfz := o2.frozenAt m
    have hgne : ¬ g' = b := by omega
    have hbne : ¬ b = g' := by omega
    have lm : (B ++ [(0 : UInt8)]).length = m + 1 := by rw [hm]; simp
    have e1 : byteV B ++ [Value.int .u8 0] = byteV (B ++ [0]) := by rw [byteV_app]; rfl
    have o3 : W.ownsRow (b + 1) 5 1 (.slice (some ⟨g', 0, none⟩) (B ++ [(0 : UInt8)]).length cap') (B ++ [(0 : UInt8)]).length (byteV (B ++ [0])) := by rw [lm, hm, ← e1]; exact o2
    have c3 : W.cell? ⟨b, 0, none⟩ = some (.slice (some ⟨g', 0, none⟩) (B ++ [(0 : UInt8)]).length cap') := by rw [lm, hm]; exact c0
    rw [← hm] at c0 ⊢
    have HB2 : Hid (putBit B n 1 = (B ++ [0]).set m (UInt8.ofNat 1)) := by unfold Hid; rw [HPB.out, hm]; simp
    have m40 : m ≤ 1099511627776 := by omega
    clear hW q5 q6 hown' hgrow o2 hl hm h0 ho e1 hv' hi hz0 hz1 hz2
    have im3 : (0 : Int) ≤ (m : Int) := by omega
    have im4 : (m : Int) < (m : Int) + 1 := by omega
    have im6 : (m : Int) + 1 - 1 = (m : Int) := by omega
    have im2 : IntKind.i64.wrap (m : Int) = (m : Int) := by simp [IntKind.wrap, IntKind.bits, IntKind.signed]; omega
    go_loop [4, 5] (fun t i => t = .int .i64 1 ∧ i = .int .i64 0) (fun _ _ => 0)
    case atStart => exact ⟨rfl, rfl⟩
    case round =>
      obtain ⟨rfl, rfl⟩ := hrel
      go_wp2
      go_region
      all_goals
        go_wp2
        go_end0
        have fin := BW.put (n := n) (m := m) c3 o3 c1 bw.fr hgb' (1 : Int) _ (UInt8.ofNat 1) (by rw [u8_of _ (by omega)]; rfl) (show (n : Int) + 1 = ((n + 1 : Nat) : Int) by omega)
        rw [HB2.out]
        exact ⟨rfl, fin.1, it.trans fin.2⟩

/-- A writer that holds some bits. -/
structure BWs (w : World) (b : Nat) (bs : List Nat) : Prop where
  bw : BW w b (bytesOf bs) bs.length
  le : ∀ x ∈ bs, x ≤ 1
theorem kbit_c (w : World) (b : Nat) (bs : List Nat) (x : Nat) (X : Int) (hX : X = (x : Int)) (hx : x ≤ 1) (h : BWs w b bs) (hn : bs.length ≤ 1099511627776) :
    Calls Tryz.prog 40 #[.pointer (some ⟨b, 0, none⟩), .int .i64 X] w fun e w' => e = .returned (.tuple #[]) ∧ BWs w' b (bs ++ [x]) ∧ IT b w w' := by
  subst hX
  obtain ⟨l1, l2, _⟩ := bitsIn bs h.le
  have le : ∀ y ∈ bs ++ [x], y ≤ 1 := by
    intro y hy
    rcases List.mem_append.1 hy with hy | hy
    · exact h.le y hy
    · simp at hy; omega
  have e : putBit (bytesOf bs) bs.length x = bytesOf (bs ++ [x]) := (bytesOf_snoc bs x).symm
  by_cases h8 : bs.length % 8 = 0
  · refine (kbit_new w b (bytesOf bs) bs.length x hx h.bw h8 l1 hn).mono ?_
    rintro e' w' ⟨he, hb, ht⟩
    rw [e] at hb
    exact ⟨he, ⟨by rw [List.length_append]; exact hb, le⟩, ht⟩
  · refine (kbit_in w b (bytesOf bs) bs.length x _ _ hx h.bw h8 l1 hn rfl rfl (l2 h8)).mono ?_
    rintro e' w' ⟨he, hb, ht⟩
    rw [e] at hb
    exact ⟨he, ⟨by rw [List.length_append]; exact hb, le⟩, ht⟩
end Go.Proofs.YtobfkhapeejkfaaGreatDoor
