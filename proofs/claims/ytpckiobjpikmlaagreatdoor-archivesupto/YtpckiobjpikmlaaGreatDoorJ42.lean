/- Texts of this seat, joined. -/
import Derived.Test.YtpckiobjpikmlaaGreatDoorJ41
import Derived.Test.YtpckiobjpikmlaaGreatDoorJ32
set_option linter.unusedSimpArgs false
set_option linter.unusedVariables false
set_option maxRecDepth 100000
set_option maxHeartbeats 20000000
namespace Go.Proofs.YtpckiobjpikmlaaGreatDoor
open Go.RowKit
def flat3 : List (Nat × Nat × Nat) → List Value
 | [] => []
 | (a, b, c) :: l => .int .i64 (a : Int) :: .int .i64 (b : Int) :: .int .i64 (c : Int) :: flat3 l
theorem flat3_app (l k : List (Nat × Nat × Nat)) : flat3 (l ++ k) = flat3 l ++ flat3 k := by
 induction l with
 | nil => rfl
 | cons x l ih => obtain ⟨a, b, c⟩ := x; simp [flat3, ih]
theorem flat3_at : ∀ (l : List (Nat × Nat × Nat)) (j a b c : Nat), l[j]? = some (a, b, c) → (flat3 l)[j * 3]? = some (.int .i64 (a : Int)) ∧ (flat3 l)[j * 3 + 1]? = some (.int .i64 (b : Int)) ∧ (flat3 l)[j * 3 + 2]? = some (.int .i64 (c : Int))
 | (x, y, z) :: l, 0, a, b, c, h => by simp at h; obtain ⟨rfl, rfl, rfl⟩ := h; simp [flat3]
 | (x, y, z) :: l, j + 1, a, b, c, h => by
  simp at h
  have := flat3_at l j a b c h
  rw [show (j + 1) * 3 = j * 3 + 1 + 1 + 1 by omega]
  simpa [flat3] using this
theorem cell_three_new (w : World) (x y z : Value) (t : TypeId) : ∀ j u, [x, y, z][j]? = some u → (w.alloc (.cells #[x, y, z] t)).cell? ((⟨w.heap.size, 0, none⟩ : Addr).add j) = some u := by
 intro j u h
 have hc : (w.alloc (.cells #[x, y, z] t)).heap[w.heap.size]? = some (.cells #[x, y, z] t (0, 0)) := heap_alloc_new w _
 match j, h with
 | 0, h => simp at h; subst h; simp [Addr.add, cell_of_row _ _ _ _ _ _ hc]
 | 1, h => simp at h; subst h; simp [Addr.add, cell_of_row _ _ _ _ _ _ hc]
 | 2, h => simp at h; subst h; simp [Addr.add, cell_of_row _ _ _ _ _ _ hc]
theorem owned_slice {w : World} {base : Nat} {e : TypeId} {size n : Nat} {v : Value} {xs : List Value} (h : w.ownsRow base e size v n xs) : ∃ ao cap, v = .slice ao n cap := by
 rcases h.2 with ⟨e, h0⟩ | ⟨g, cap', cur, e, _⟩
 ·exact ⟨none, 0, by rw [e, h0]⟩
 ·exact ⟨_, _, e⟩
theorem Tryz.infoCode : (Tryz.prog.info? 267).map (fun i => (i.zero, i.size, i.bytes)) = some (some (.agg #[.int .i64 0, .int .i64 0, .int .i64 0]), 3, 24) := by kernel_rfl
theorem codes_c (w : World) (lb lo N cap : Nat) (L : List Nat) (few : Bool) (hlen : L.length = N) (hn : N ≤ 400) (hcells : ∀ j (h : j < L.length), w.cell? ⟨lb, lo + j, none⟩ = some (.int .i64 (L[j] : Nat))) :
  Calls Tryz.prog 141 #[.slice (some ⟨lb, lo, none⟩) N cap, .bool few] w fun e w' => ∃ v, e = .returned (.tuple #[v, .bool (okOf L few)]) ∧ (okOf L few = true → w'.ownsRow w.heap.size 267 3 v (codesAt L 16).length (flat3 (codesAt L 16))) ∧ Touch (fun _ => False) w w' := by
 obtain ⟨i0, hi, hz0, hz1, hz2⟩ := info_parts Tryz.infoCode
 go_enter Tryz.func141, Tryz.ntmps141
 go_wp2
 go_loopw [6, 7, 8, 9] (fun v nx ws i wr => ∃ n x u : Nat, 1 ≤ n ∧ n ≤ 16 ∧ i = .int .i64 (n : Int) ∧ nx = .int .i64 (x : Int) ∧ ws = .int .i64 (u : Int) ∧ Hid (CInv L n 0 x u) ∧ wr.ownsRow w.heap.size 267 3 v (codesTo L n 0).length (flat3 (codesTo L n 0)) ∧ Touch (fun _ => False) w wr) (fun _ _ _ i _ => 16 - (intOf i).toNat)
 case atStart => exact ⟨1, 0, 0, by omega, by omega, rfl, rfl, rfl, CInv.start L, by simpa [codesTo, codesAt, cnt, flat3] using World.ownsRow_nil _ _ _ _, Touch.refl _ _⟩
 case round =>
  obtain ⟨n, x, u, hn1, hn16, rfl, rfl, rfl, HC, ho, ht⟩ := hrel
  by_cases hlt : n < 16
  ·have d15 : (n : Int) ≤ 15 := by omega
   go_wp2
   go_loopw [6, 7, 8, 10] (fun v nx ws i wr => ∃ k x u : Nat, k ≤ N ∧ i = .int .i64 (k : Int) ∧ nx = .int .i64 (x : Int) ∧ ws = .int .i64 (u : Int) ∧ Hid (CInv L n k x u) ∧ wr.ownsRow w.heap.size 267 3 v (codesTo L n k).length (flat3 (codesTo L n k)) ∧ Touch (fun _ => False) w wr) (fun _ _ _ i _ => N - (intOf i).toNat)
   case atStart => exact ⟨0, x, u, by omega, rfl, rfl, rfl, HC, ho, ht⟩
   case round =>
    clear HC ho ht
    obtain ⟨k, x, u, hk, rfl, rfl, rfl, HC, ho, ht⟩ := hrel
    by_cases hkl : k < N
    ·have hk' : k < L.length := by omega
     have hcell : wr.cell? ⟨lb, lo + k, none⟩ = some (.int .i64 (L[k] : Nat)) := ht.at (hcells k hk') (fun h => h)
     by_cases he : L[k] = n
     ·obtain ⟨ao, kc, rfl⟩ := owned_slice ho
      obtain ⟨m, hm⟩ : ∃ m, m = (codesTo L n k).length := ⟨_, rfl⟩
      obtain ⟨y, hy⟩ : ∃ y, y = firstOf L n + (L.take k).count n := ⟨_, rfl⟩
      obtain ⟨Q, hQ⟩ : ∃ Q, Q = 2 ^ n := ⟨_, rfl⟩
      have Q1 : 1 ≤ Q := by rw [hQ]; exact Nat.one_le_two_pow
      have Q2 : Q ≤ 32768 := by rw [hQ]; exact Nat.le_trans (Nat.pow_le_pow_right (by omega) (show n ≤ 15 by omega)) (by decide)
      have HQ : Hid (Q = 2 ^ n) := hQ
      have HY : Hid (y = firstOf L n + (L.take k).count n) := hy
      have HM : Hid (m = (codesTo L n k).length) := hm
      have mb : m ≤ 6400 + k := by
       rw [hm, codesTo_len]
       have a1 := placeOf_bd L (by omega) n (by omega)
       have a2 : (L.take k).count n ≤ k := Nat.le_trans List.count_le_length (List.length_take_le _ _)
       omega
      have hEnd : y < Q → (codesTo L n (k + 1)).length = m + 1 ∧ Hid (CInv L n (k + 1) y n) ∧ flat3 (codesTo L n (k + 1)) = flat3 (codesTo L n k) ++ [.int .i64 (k : Int), .int .i64 (n : Int), .int .i64 (y : Int)] := by
       intro h
       refine ⟨by rw [codesTo_eq L n k hk' he]; simp [hm], ?_, by rw [codesTo_eq L n k hk' he, flat3_app, hy]; rfl⟩
       unfold Hid; rw [hy]; exact CInv.eq hk' he hn1 (by omega) (by omega)
      have hOver : Q ≤ y → okOf L few = false := fun h => ok_over hk' he hn1 (by omega) (by omega) few
      rw [← hm] at ho ⊢
      rw [he] at hcell
      have c3 : m + 1 ≤ maxLen := by unfold maxLen; omega
      have c4 : (m + 1) * 24 ≤ 140737488355328 := by omega
      have hsz := ht.size
      clear hm hy hQ
      by_cases h0 : m = 0
      ·obtain ⟨rfl, rfl, hy0⟩ := HC.out.empty (by rw [← HM.out]; exact h0)
       have y0 : y = 0 := by rw [HY.out]; exact hy0
       subst y0
       clear hy0
       subst h0
       go_wp2_with (first | (go_at_call 138; refine (power_w _ n Q _ (by omega) HQ (by omega)).mono ?_; rintro e w2 ⟨rfl, rfl⟩) | (at_builtin; refine wpList_append_own _ rfl _ _ 237 rfl w.heap.size 267 i0 (.agg #[.int .i64 0, .int .i64 0, .int .i64 0]) 3 24 Tryz.underlying237 hi hz0 hz1 hz2 rfl (by decide) _ _ _ rfl (ho.alloc _) ⟨_, 0, none⟩ 1 1 [.int .i64 (k : Int), .int .i64 (n : Int), .int .i64 0] rfl rfl (cell_three_new _ _ _ _ _) (by simp [Value.oneCell']) c3 c4 (by simp; omega) ?_; intro v' w1 hown' hgrow _))
       go_roundw
       case rel =>
        obtain ⟨e1, e2, e3⟩ := hEnd (by omega)
        exact ⟨k + 1, 0, n, by omega, by go_num, rfl, rfl, e2, by rw [e1, e3]; exact hown', (ht.alloc _).grownNew hgrow (fun j hj => (ho.lt j hj).1)⟩
       case measure => simp [intOf]; omega
      ·obtain ⟨u1, u2, u3, xu, xy⟩ := HC.out.more (by rw [← HM.out]; exact h0)
       obtain ⟨P, hP⟩ : ∃ P, P = 2 ^ (n - u) := ⟨_, rfl⟩
       have HP : Hid (P = 2 ^ (n - u)) := hP
       have hz : ((x : Int) + 1) * (P : Int) = (y : Int) := by rw [HY.out, ← xy, hP]; push_cast; rfl
       have xb : x < 32768 := Nat.lt_of_lt_of_le xu (Nat.le_trans (Nat.pow_le_pow_right (by omega) u3) (by decide))
       have yb : y ≤ 32768 := by
        rw [HY.out, ← xy]
        have : (x + 1) * 2 ^ (n - u) ≤ 2 ^ u * 2 ^ (n - u) := Nat.mul_le_mul_right _ xu
        rw [← Nat.pow_add, show u + (n - u) = n by omega, ← HQ.out] at this
        omega
       clear xu xy hP
       have m0 : (0 : Int) < (m : Int) := by omega
       by_cases hyq : y < Q
       ·go_wp2_with (first | (go_at_call 138; refine (power_w _ (n - u) P _ (by omega) HP (by omega)).mono ?_; rintro e w2 ⟨rfl, rfl⟩) | (go_at_call 138; refine (power_w _ n Q _ (by omega) HQ (by omega)).mono ?_; rintro e w2 ⟨rfl, rfl⟩) | (at_builtin; refine wpList_append_own _ rfl _ _ 237 rfl w.heap.size 267 i0 (.agg #[.int .i64 0, .int .i64 0, .int .i64 0]) 3 24 Tryz.underlying237 hi hz0 hz1 hz2 rfl (by decide) _ _ _ rfl (ho.alloc _) ⟨_, 0, none⟩ 1 1 [.int .i64 (k : Int), .int .i64 (n : Int), .int .i64 (y : Int)] rfl rfl (cell_three_new _ _ _ _ _) (by simp [Value.oneCell']) c3 c4 (by simp; omega) ?_; intro v' w1 hown' hgrow _))
        go_roundw
        case rel =>
         obtain ⟨e1, e2, e3⟩ := hEnd hyq
         exact ⟨k + 1, y, n, by omega, by go_num, rfl, rfl, e2, by rw [e1, e3]; exact hown', (ht.alloc _).grownNew hgrow (fun j hj => (ho.lt j hj).1)⟩
        case measure => simp [intOf]; omega
       ·have hO := hOver (by omega)
        go_wp2_with (first | (go_at_call 138; refine (power_w _ (n - u) P _ (by omega) HP (by omega)).mono ?_; rintro e w2 ⟨rfl, rfl⟩) | (go_at_call 138; refine (power_w _ n Q _ (by omega) HQ (by omega)).mono ?_; rintro e w2 ⟨rfl, rfl⟩))
        go_ret2
        exact ⟨_, by rw [hO]; rfl, (by rw [hO]; intro h; cases h), ht⟩
     ·have he' : ((L[k] : Int) == (n : Int)) = false := by simp; omega
      obtain ⟨ao, kc, rfl⟩ := owned_slice ho
      go_wp2
      go_roundw
      case rel => exact ⟨k + 1, x, u, by omega, by go_num, rfl, rfl, HC.out.ne hk' he, by rw [codesTo_ne L n k hk' he]; exact ho, ht⟩
      case measure => simp [intOf]; omega
    ·obtain rfl : k = N := by omega
     go_wp2
     go_roundw
     case rel => 
      rw [← hlen] at HC ho
      exact ⟨n + 1, x, u, by omega, by omega, by go_num, rfl, rfl, HC.out.step hn1, by rw [codesTo_zero, ← codesTo_end L n hn1]; exact ho, ht⟩
     case measure => simp [intOf]; omega
  ·obtain rfl : n = 16 := by omega
   obtain ⟨ao, kc, rfl⟩ := owned_slice ho
   have hl := codesTo_len L 16 0
   simp only [List.take_zero, List.count_nil, Nat.add_zero] at hl
   obtain ⟨m, hm⟩ : ∃ m, m = (codesTo L 16 0).length := ⟨_, rfl⟩
   have HM : Hid (m = (codesTo L 16 0).length) := hm
   have HL : Hid (m = placeOf L 16) := hm.trans hl
   rw [← hm] at ho ⊢
   clear hl hm
   by_cases h0 : m = 0
   ·have HO : Hid (okOf L few = few) := ok_none (by rw [← HL.out]; exact h0) few
    subst h0
    go_wp2
    go_ret2
    refine ⟨_, by rw [HO.out]; rfl, fun _ => ?_, ht⟩
    have e : codesAt L 16 = [] := by
     have := HM.out
     rw [codesTo_zero] at this
     exact List.eq_nil_of_length_eq_zero this.symm
    rw [e]; exact World.ownsRow_nil _ _ _ _
   ·obtain ⟨u1, u2, u3, xu, xy⟩ := HC.out.more (by rw [← HM.out]; exact h0)
    have HO : Hid (okOf L few = (x + 1 == 2 ^ u || (few && (placeOf L 16 == 1 && u == 1)))) := ok_some HC.out (by rw [← HM.out]; exact h0) few
    obtain ⟨P, hP⟩ : ∃ P, P = 2 ^ u := ⟨_, rfl⟩
    have HP : Hid (P = 2 ^ u) := hP
    have P1 : 1 ≤ P := by rw [hP]; exact Nat.one_le_two_pow
    have P2 : P ≤ 32768 := by rw [hP]; exact Nat.le_trans (Nat.pow_le_pow_right (by omega) u3) (by decide)
    have xb : x < P := by rw [hP]; exact xu
    have m0 : ((m : Int) == 0) = false := by simp; omega
    have oE : w.heap.size ≤ wr.heap.size → wr.ownsRow w.heap.size 267 3 (.slice ao m kc) (codesAt L 16).length (flat3 (codesAt L 16)) := by
     intro _
     have := ho
     rw [HM.out, codesTo_zero] at this
     rw [HM.out, codesTo_zero]; exact this
    clear xu xy hP
    have HF : Hid (okOf L few = (decide ((x : Int) = (P : Int) - 1) || (few && (decide (m = 1) && decide (u = 1))))) := by
     unfold Hid
     rw [HO.out, ← HP.out, ← HL.out]
     congr 1
     rw [Bool.eq_iff_iff]; simp; omega
    clear HO
    by_cases hf : x + 1 = P
    ·have e1 : (x : Int) = (P : Int) - 1 := by omega
     have HG : Hid (okOf L few = true) := by unfold Hid; rw [HF.out]; simp [e1]
     go_wp2_with (go_at_call 138; refine (power_v _ u P HP (by omega)).mono ?_; rintro e w2 ⟨rfl, rfl⟩)
     go_ret2
     exact ⟨_, by rw [HG.out]; rfl, fun _ => oE ht.size, ht⟩
    ·have e1 : ¬ (x : Int) = (P : Int) - 1 := by omega
     have HG : Hid (okOf L few = (few && (decide (m = 1) && decide (u = 1)))) := by unfold Hid; rw [HF.out]; simp [e1]
     cases few with
     | false =>
      go_wp2_with (go_at_call 138; refine (power_v _ u P HP (by omega)).mono ?_; rintro e w2 ⟨rfl, rfl⟩)
      go_ret2
      exact ⟨_, by rw [HG.out]; simp [e1], fun _ => oE ht.size, ht⟩
     | true =>
      by_cases h1 : m = 1
      ·subst h1
       by_cases hu : u = 1
       ·subst hu
        go_wp2_with (go_at_call 138; refine (power_w _ 1 P _ rfl HP (by omega)).mono ?_; rintro e w2 ⟨rfl, rfl⟩)
        go_ret2
        exact ⟨_, by rw [HG.out]; simp [e1], fun _ => oE ht.size, ht⟩
       ·have e3 : ((u : Int) == 1) = false := by simp; omega
        go_wp2_with (go_at_call 138; refine (power_v _ u P HP (by omega)).mono ?_; rintro e w2 ⟨rfl, rfl⟩)
        go_ret2
        exact ⟨_, by rw [HG.out]; simp [hu, e1], fun _ => oE ht.size, ht⟩
      ·have e2 : ((m : Int) == 1) = false := by simp; omega
       go_wp2_with (go_at_call 138; refine (power_v _ u P HP (by omega)).mono ?_; rintro e w2 ⟨rfl, rfl⟩)
       go_ret2
       exact ⟨_, by rw [HG.out]; simp [h1, e1], fun _ => oE ht.size, ht⟩
end Go.Proofs.YtpckiobjpikmlaaGreatDoor
namespace Go.Proofs.YtpckiobjpikmlaaGreatDoor
open Go.RowKit
def nextPost (b : Nat) (s : ByteArray) (w : World) (r : Option (Nat × Nat)) (e : Ending) (w' : World) : Prop :=
 BT b w w' ∧ match r with
 | none => e = .returned (.int .i64 (-1)) ∧ w'.cell? ⟨b, 4, none⟩ = some (.int .i64 1)
 | some (k, q) => e = .returned (.int .i64 (k : Int)) ∧ RB w' b s q
theorem fail_no (w : World) (b : Nat) (k e : Int) (h4 : w.cell? ⟨b, 4, none⟩ = some (.int .i64 e)) (he : e ≠ 0) :
  Calls Tryz.prog 90 #[.pointer (some ⟨b, 0, none⟩), .int .i64 k] w fun e w' => e = .returned (.tuple #[]) ∧ w = w' := by
 have he' : (e == 0) = false := by simp; omega
 go_enter Tryz.func90, Tryz.ntmps90
 go_wp2
 go_end0
 exact ⟨rfl, rfl⟩
theorem BT.owns {b : Nat} {w w' : World} (h : BT b w w') {base : Nat} {e : TypeId} {size : Nat} {v : Value} {n : Nat} {xs : List Value} (ho : w.ownsRow base e size v n xs) (hs : ∀ k, v.ownBlock = some k → k ≠ b) : w'.ownsRow base e size v n xs :=
 h.t.owns ho (fun k hk e => hs k hk e)
theorem RB.zero {w : World} {b : Nat} {s : ByteArray} {p : Nat} (h : RB w b s p) (hp : p ≤ 8 * s.size) : w.cell? ⟨b, 4, none⟩ = some (.int .i64 0) := by
 have := h.c4; rw [if_pos hp] at this; exact this
theorem RB.one {w : World} {b : Nat} {s : ByteArray} {p : Nat} (h : RB w b s p) (hp : 8 * s.size < p) : w.cell? ⟨b, 4, none⟩ = some (.int .i64 1) := by
 have := h.c4; rw [if_neg (by omega)] at this; exact this
theorem rnext_c (w : World) (b base : Nat) (s : ByteArray) (p : Nat) (L : List Nat) (v : Value) (hL : L.length ≤ 400) (hs : s.size ≤ 2147483648) (h : RB w b s p)
  (ho : w.ownsRow base 267 3 v (codesAt L 16).length (flat3 (codesAt L 16))) (hne : ∀ k, v.ownBlock = some k → k ≠ b) :
  Calls Tryz.prog 142 #[.pointer (some ⟨b, 0, none⟩), v] w (nextPost b s w (dec L s p)) := by
 obtain ⟨ao, kc, rfl⟩ := owned_slice ho
 obtain ⟨m, hm⟩ : ∃ m, m = (codesAt L 16).length := ⟨_, rfl⟩
 have HM : Hid (m = (codesAt L 16).length) := hm
 have mb : m ≤ 6400 := by rw [hm, codesAt_len]; exact placeOf_bd L hL 16 (by omega)
 rw [← hm] at ho hne ⊢
 clear hm
 go_enter Tryz.func142, Tryz.ntmps142
 go_wp2
 go_loopw [5, 6] (fun x i wr => ∃ k y : Nat, k ≤ 15 ∧ i = .int .i64 (k : Int) ∧ x = .int .i64 (y : Int) ∧ y < 65536 ∧ RB wr b s (p + k) ∧ BT b w wr ∧ Hid (y < 2 ^ k) ∧ Hid (dec L s p = decGo L s p (15 - k) k y)) (fun _ i _ => 15 - (intOf i).toNat)
 case atStart => exact ⟨0, 0, by omega, rfl, rfl, by omega, h, BT.refl _ _, (by unfold Hid; decide), rfl⟩
 case round =>
  obtain ⟨k, y, hk, rfl, rfl, hyb, hrb, hbt, HP, HK⟩ := hrel
  by_cases hlt : k < 15
  ·have d15 : (k : Int) < 15 := by omega
   obtain ⟨t, ht⟩ : ∃ t, t = bitOf s (p + k) := ⟨_, rfl⟩
   have tb := bitOf_lt s (p + k)
   rw [← ht] at tb
   have HT : Hid (bitOf s (p + k) = t) := ht.symm
   have HD : Hid (decGo L s p (15 - k) k y = if 8 * s.size < p + k + 1 then none else if firstOf L (k + 1) ≤ 2 * y + t ∧ 2 * y + t < firstOf L (k + 1) + cnt L (k + 1) then some (nth L (k + 1) (2 * y + t - firstOf L (k + 1)), p + k + 1) else decGo L s p (15 - (k + 1)) (k + 1) (2 * y + t)) := by
    obtain ⟨f, hf⟩ : ∃ f, 15 - k = f + 1 := ⟨14 - k, by omega⟩
    rw [show 15 - (k + 1) = f by omega, hf, ht]; rfl
   have HP2 : Hid (2 * y + t < 2 ^ (k + 1)) := by unfold Hid; exact pow_step HP.out tb
   clear ht
   by_cases hend : 8 * s.size < p + k + 1
   ·have HE : Hid (dec L s p = none) := by unfold Hid; rw [HK.out, HD.out, if_pos hend]
    go_wp2_with (go_at_call 84; refine (rbit_v _ b s (p + k) t HT.out hs hrb).mono ?_; rintro e w1 ⟨rfl, r1, t1⟩; have h4 := r1.one (by omega))
    go_ret
    refine ⟨hbt.trans t1, ?_⟩
    rw [HE.out]; exact ⟨rfl, h4⟩
   ·have hp8 : p + k + 1 ≤ 8 * s.size := by omega
    obtain ⟨z, hz⟩ : ∃ z, z = 2 * y + t := ⟨_, rfl⟩
    have hzi : 2 * (y : Int) + (t : Int) = (z : Int) := by omega
    have zb : z < 65536 := by
     have := HP2.out
     have h2 : 2 ^ (k + 1) ≤ 2 ^ 16 := Nat.pow_le_pow_right (by omega) (by omega)
     omega
    rw [← hz] at HD HP2
    clear hz
    go_wp2_with (go_at_call 84; refine (rbit_v _ b s (p + k) t HT.out hs hrb).mono ?_; rintro e w1 ⟨rfl, r1, t1⟩; have h4 := r1.zero hp8; have o1 := (hbt.trans t1).owns ho hne)
    go_loop [7] (fun i => ∃ j : Nat, j ≤ m ∧ i = .int .i64 (j : Int) ∧ Hid (∀ j' a n y', j' < j → (codesAt L 16)[j']? = some (a, n, y') → ¬ (n = k + 1 ∧ y' = z))) (fun i => m - (intOf i).toNat)
    case atStart => exact ⟨0, by omega, rfl, by unfold Hid; intro j' a n y' hj; omega⟩
    case round =>
     obtain ⟨j, hj, rfl, HJ⟩ := hrel
     by_cases hjm : j < m
     ·obtain ⟨g, kc', e0, hg⟩ := owned_some o1 (by omega)
      cases e0
      have hj' : j < (codesAt L 16).length := by rw [← HM.out]; exact hjm
      obtain ⟨⟨a, n, y'⟩, hat⟩ : ∃ x, (codesAt L 16)[j]? = some x := ⟨_, List.getElem?_eq_getElem hj'⟩
      obtain ⟨f0, f1, f2⟩ := flat3_at _ _ _ _ _ hat
      have q0 : w1.cell? ⟨g, j * 3, none⟩ = some (.int .i64 (a : Int)) := (o1.cellAt _ (by omega)).trans f0
      have q1 : w1.cell? ⟨g, j * 3 + 1, none⟩ = some (.int .i64 (n : Int)) := (o1.cellAt _ (by omega)).trans f1
      have q2 : w1.cell? ⟨g, j * 3 + 2, none⟩ = some (.int .i64 (y' : Int)) := (o1.cellAt _ (by omega)).trans f2
      have HAT : Hid ((codesAt L 16)[j]? = some (a, n, y')) := hat
      clear f0 f1 f2 hat hj'
      by_cases hn : n = k + 1
      ·have hn' : ((n : Int) == (k : Int) + 1) = true := by simp; omega
       by_cases hy : y' = z
       ·have hy' : ((y' : Int) == (z : Int)) = true := by simp; omega
        have HE : Hid (dec L s p = some (a, p + k + 1)) := by
         obtain ⟨hm1, r, hr, ha, hyy⟩ := (codesAt_mem L 16 a n y').1 (List.mem_of_getElem? HAT.out)
         subst hn
         unfold Hid
         rw [HK.out, HD.out, if_neg hend, if_pos ⟨by omega, by omega⟩, ha]
         congr 3; omega
        go_wp2
        go_ret
        refine ⟨hbt.trans t1, ?_⟩
        rw [HE.out]; exact ⟨rfl, r1⟩
       ·have hy' : ((y' : Int) == (z : Int)) = false := by simp; omega
        go_wp2
        go_round
        case rel => exact ⟨j + 1, by omega, by go_num, by
         unfold Hid
         intro j' a' n' y'' hj2 h2
         by_cases ej : j' = j
         ·subst ej; rw [HAT.out] at h2; cases h2; omega
         ·exact HJ.out j' a' n' y'' (by omega) h2⟩
        case measure => simp [intOf]; omega
      ·have hn' : ((n : Int) == (k : Int) + 1) = false := by simp; omega
       go_wp2
       go_round
       case rel => exact ⟨j + 1, by omega, by go_num, by
         unfold Hid
         intro j' a' n' y'' hj2 h2
         by_cases ej : j' = j
         ·subst ej; rw [HAT.out] at h2; cases h2; omega
         ·exact HJ.out j' a' n' y'' (by omega) h2⟩
       case measure => simp [intOf]; omega
     ·obtain rfl : j = m := by omega
      have HE : Hid (dec L s p = decGo L s p (15 - (k + 1)) (k + 1) z) := by
       unfold Hid
       rw [HK.out, HD.out, if_neg hend, if_neg]
       rintro ⟨h1, h2⟩
       have hmem := (codesAt_mem L 16 (nth L (k + 1) (z - firstOf L (k + 1))) (k + 1) z).2 ⟨by omega, z - firstOf L (k + 1), by omega, rfl, by omega⟩
       obtain ⟨j', hj2, e2⟩ := List.mem_iff_getElem.1 hmem
       refine HJ.out j' _ _ _ (by rw [HM.out]; exact hj2) (by rw [List.getElem?_eq_getElem hj2, e2]) ⟨rfl, rfl⟩
      go_wp2
      go_roundw
      case rel => exact ⟨k + 1, z, by omega, by go_num, rfl, zb, r1, hbt.trans t1, HP2, HE⟩
      case measure => simp [intOf]; omega
  ·obtain rfl : k = 15 := by omega
   have HE : Hid (dec L s p = none) := by unfold Hid; rw [HK.out]; rfl
   by_cases hp15 : p + 15 ≤ 8 * s.size
   ·have h4 := hrb.zero hp15
    go_wp2_with (go_at_call 90; refine (fail_c _ b 1 h4 (hrb.fr 4)).mono ?_; rintro e w1 ⟨rfl, rfl⟩)
    go_ret
    refine ⟨hbt.set 4 (Or.inr rfl) _, ?_⟩
    rw [HE.out]
    exact ⟨rfl, by simp [cell_set_if, h4]⟩
   ·have h4 := hrb.one (by omega)
    go_wp2_with (go_at_call 90; refine (fail_no _ b 1 1 h4 (by decide)).mono ?_; rintro e w1 ⟨rfl, rfl⟩)
    go_ret
    refine ⟨hbt, ?_⟩
    rw [HE.out]
    exact ⟨rfl, h4⟩
end Go.Proofs.YtpckiobjpikmlaaGreatDoor
