/- Texts of this seat, joined. -/
import Derived.Test.YtmhlkdlcpicekaaGreatDoorJ42
import Derived.Test.YtmhlkdlcpicekaaGreatDoorJ43
import Derived.Test.YtmhlkdlcpicekaaGreatDoorJ14
import Derived.Test.YtmhlkdlcpicekaaGreatDoorJ26
import Derived.Deep.RegionLaw
import Derived.Deep.DeepCutAuto
import Derived.Deep.RegionHeldLaw
import Derived.BigQuiet
set_option linter.unusedSimpArgs false
set_option linter.unusedVariables false
set_option maxRecDepth 100000
set_option maxHeartbeats 20000000
namespace Go.Proofs.YtmhlkdlcpicekaaGreatDoor
open Go.RowKit
def repP (n : Nat) (pat : List Value) : List Value := (List.replicate n pat).flatten
theorem repP_len (n : Nat) (pat : List Value) : (repP n pat).length = n * pat.length := by simp [repP]
theorem repP_get (pat : List Value) : ∀ (n j c : Nat), j < n → c < pat.length → (repP n pat)[j * pat.length + c]? = pat[c]?
 | 0, j, c, h, _ => by omega
 | n + 1, j, c, h, hc => by
  have e : repP (n + 1) pat = pat ++ repP n pat := by unfold repP; rw [List.replicate_succ, List.flatten_cons]
  rw [e]
  cases j with
  | zero => rw [Nat.zero_mul, Nat.zero_add, List.getElem?_append_left hc]
  | succ j =>
   rw [List.getElem?_append_right (by rw [Nat.add_mul]; omega)]
   have : (j + 1) * pat.length + c - pat.length = j * pat.length + c := by rw [Nat.add_mul]; omega
   rw [this]
   exact repP_get pat n j c (by omega) hc
def LKept (w : World) (t : TypeId) (pat : List Value) (v : Value) : Prop := ∃ a n cap, v = .slice a n cap ∧ n ≤ 1000000000 ∧ ((a = none ∧ n = 0) ∨ ∃ g, a = some ⟨g, 0, none⟩ ∧ Typed w g t ∧ ∀ j, j < n → ∀ c, c < pat.length → w.cell? ⟨g, j * pat.length + c, none⟩ = pat[c]?)
def slLen : Value → Nat
 | .slice _ n _ => n
 | _ => 0
theorem LKept.keep {S : Nat → Prop} {w w' : World} {t : TypeId} {pat : List Value} {v : Value} (h : LKept w t pat v) (ht : Touch S w w') (hs : ∀ q, S q → q < w.heap.size → v.ownBlock = some q → ¬ Typed w q t) : LKept w' t pat v := by
 obtain ⟨a, n, cap, rfl, hn, h | ⟨g, rfl, hty, hc⟩⟩ := h
 ·exact ⟨a, n, cap, rfl, hn, .inl h⟩
 ·have hg : ¬ S g := fun hh => hs g hh hty.lt rfl hty
  exact ⟨_, n, cap, rfl, hn, .inr ⟨g, rfl, hty.keep ht hg, fun j hj c hc' => (ht.cell (p := ⟨g, j * pat.length + c, none⟩) hty.lt hg).trans (hc j hj c hc')⟩⟩
theorem LKept.same {w w' : World} {t : TypeId} {pat : List Value} {v : Value} (h : LKept w t pat v) (ht : Touch (fun _ => False) w w') : LKept w' t pat v := h.keep ht (fun _ h _ _ => h.elim)
theorem LKept.owned {w : World} {base : Nat} {t : TypeId} {pat : List Value} {v : Value} {n : Nat} (h : w.ownsRow base t pat.length v n (repP n pat)) (hn : n ≤ 1000000000) : LKept w t pat v := by
 have hty := fun k hk => Typed.owned h (k := k) hk
 obtain ⟨h1, ⟨rfl, rfl⟩ | ⟨g, cap, cur, rfl, hb, hg, h3, h4, h5, h6⟩⟩ := h
 ·exact ⟨none, 0, 0, rfl, Nat.zero_le _, .inl ⟨rfl, rfl⟩⟩
 ·refine ⟨_, n, cap, rfl, hn, .inr ⟨g, rfl, hty g rfl, fun j hj c hc => ?_⟩⟩
  have hlt : j * pat.length + c < n * pat.length := by
   have : (j + 1) * pat.length ≤ n * pat.length := Nat.mul_le_mul_right _ hj
   rw [Nat.add_mul] at this; omega
  rw [row_cell hg, ← repP_get pat n j c hj hc, ← h6, List.getElem?_take_of_lt hlt]; simp
theorem LKept.block {w : World} {t : TypeId} {pat : List Value} {v : Value} (h : LKept w t pat v) {q : Nat} (hq : v.ownBlock = some q) : Typed w q t := by
 obtain ⟨a, n, cap, rfl, hn, ⟨rfl, _⟩ | ⟨g, rfl, hty, hc⟩⟩ := h
 ·cases hq
 ·cases hq; exact hty
structure Chain (w : World) (t : TypeId) (pat : Nat → List Value) (z : Nat) (K : List (Value × Nat)) (l : Value) (n m : Nat) : Prop where
 len : ∀ k, (pat k).length = z
 kept : ∀ x ∈ K, LKept w t (pat x.2) x.1
 same : ∀ x ∈ K, ∀ q, x.1.ownBlock = some q → l.ownBlock = some q → x.2 = m ∧ slLen x.1 ≤ n
theorem Chain.keep {S : Nat → Prop} {w w' : World} {t : TypeId} {pat : Nat → List Value} {z : Nat} {K : List (Value × Nat)} {l : Value} {n m : Nat} (h : Chain w t pat z K l n m) (ht : Touch S w w') (hs : ∀ q, S q → q < w.heap.size → ¬ Typed w q t) : Chain w' t pat z K l n m :=
 ⟨h.len, fun x hx => (h.kept x hx).keep ht (fun q h1 h2 _ => hs q h1 h2), h.same⟩
theorem Chain.append {w W w' : World} {t : TypeId} {pat : Nat → List Value} {z : Nat} {K : List (Value × Nat)} {l : Value} {n m base g cap : Nat} (h : Chain w t pat z K l n m) (ho : w.ownsRow base t z l n (repP n (pat m))) (hW : Touch (fun _ => False) w W)
  (ho' : w'.ownsRow base t z (.slice (some ⟨g, 0, none⟩) (n + 1) cap) (n + 1) (repP (n + 1) (pat m))) (hg : (l.ownBlock = some g ∧ W.grownBy w' (some g)) ∨ (W.heap.size ≤ g ∧ W.grownBy w' none)) (hn : n + 1 ≤ 1000000000) :
  Chain w' t pat z K (.slice (some ⟨g, 0, none⟩) (n + 1) cap) (n + 1) m := by
 have hK' : LKept w' t (pat m) (.slice (some ⟨g, 0, none⟩) (n + 1) cap) := LKept.owned (by rw [h.len]; exact ho') hn
 refine ⟨h.len, fun x hx => ?_, fun x hx q h1 h2 => ?_⟩
 ·have hk := h.kept x hx
  have hsm := h.same x hx
  obtain ⟨xv, xm⟩ := x
  simp only at hk hsm ⊢
  obtain ⟨a, k, cp, rfl, hk1, hk2 | ⟨q, rfl, hty, hc⟩⟩ := hk
  ·exact ⟨a, k, cp, rfl, hk1, .inl hk2⟩
  ·have hlt : q < W.heap.size := Nat.lt_of_lt_of_le hty.lt hW.size
   have hWq := hW.block q hty.lt (fun e => e)
   by_cases hq : l.ownBlock = some g ∧ q = g
   ·obtain ⟨hlg, rfl⟩ := hq
    obtain ⟨rfl, hle⟩ := hsm q rfl hlg
    obtain ⟨a2, n2, cap2, e2, _, ⟨e3, _⟩ | ⟨g2, e3, hty2, hc2⟩⟩ := hK'
    ·cases e2; cases e3
    ·cases e2; cases e3
     have hle' : k ≤ n := hle
     exact ⟨_, k, cp, rfl, hk1, .inr ⟨q, rfl, hty2, fun j hj c hc' => hc2 j (by omega) c hc'⟩⟩
   ·have hb : w'.heap[q]? = w.heap[q]? := by
     rcases hg with ⟨hlg, hgr⟩ | ⟨hgs, hgr⟩
     ·exact (hgr.block q hlt (fun e => hq ⟨hlg, Option.some.inj e⟩)).trans hWq
     ·exact (hgr.block q hlt (by simp)).trans hWq
    refine ⟨_, k, cp, rfl, hk1, .inr ⟨q, rfl, ?_, fun j hj c hc' => ?_⟩⟩
    ·obtain ⟨cs, fr, hcs⟩ := hty; exact ⟨cs, fr, hb.trans hcs⟩
    ·exact (World.cell?_of_block (w := w) (w' := w') (a := ⟨q, j * (pat xm).length + c, none⟩) hb).trans (hc j hj c hc')
 ·have hq : q = g := by cases h2; rfl
  subst hq
  rcases hg with ⟨hlg, hgr⟩ | ⟨hgs, hgr⟩
  ·obtain ⟨e1, e2⟩ := h.same x hx q h1 hlg
   exact ⟨e1, by omega⟩
  ·have := (h.kept x hx).block h1
   have h3 := this.lt
   have h4 := hW.size
   omega
def RowG (w : World) (g : Nat) (t : TypeId) (len : Nat) : Prop := ∃ cur, w.heap[g]? = some (.cells cur t) ∧ cur.size = len
theorem RowG.set {w : World} {g : Nat} {t : TypeId} {len : Nat} (h : RowG w g t len) (b i : Nat) (v : Value) : RowG (w.setCell ⟨b, i, none⟩ v) g t len := by
 obtain ⟨cur, h1, h2⟩ := h
 by_cases e : b = g
 ·subst e
  refine ⟨cur.setIfInBounds i v, ?_, by simpa using h2⟩
  simp only [World.setCell, Array.getElem?_modify, if_true, h1]
  rfl
 ·refine ⟨cur, ?_, h2⟩
  have := (touch_set w b i v).block g (Array.getElem?_eq_some_iff.1 h1).1 (fun h => e h.symm)
  rw [this]; exact h1
theorem RowG.cell {w : World} {g : Nat} {t : TypeId} {len : Nat} (h : RowG w g t len) (i : Nat) (hi : i < len) : (∃ v, w.cell? ⟨g, i, none⟩ = some v) ∧ w.frozen? ⟨g, i, none⟩ = false := by
 obtain ⟨cur, h1, h2⟩ := h
 refine ⟨⟨cur[i]'(by omega), ?_⟩, frozen_row h1 i⟩
 rw [row_cell h1 i, Array.getElem?_eq_getElem (by omega)]
theorem RowG.owns {w : World} {g base cap n z : Nat} {t : TypeId} {xs : List Value} (h : RowG w g t (cap * z)) (hb : base ≤ g) (hn : n ≤ cap) (hc : cap ≤ maxLen) (hl : xs.length = n * z) (hx : ∀ j, j < n * z → w.cell? ⟨g, j, none⟩ = xs[j]?) : w.ownsRow base t z (.slice (some ⟨g, 0, none⟩) n cap) n xs := by
 obtain ⟨cur, h1, h2⟩ := h
 refine ⟨hl, .inr ⟨g, cap, cur, rfl, hb, h1, hn, hc, h2, ?_⟩⟩
 have hle : n * z ≤ cap * z := Nat.mul_le_mul_right _ hn
 apply List.ext_getElem?
 intro j
 by_cases hj : j < n * z
 ·rw [List.getElem?_take_of_lt hj, ← hx j hj, row_cell h1 j]; simp
 ·rw [List.getElem?_eq_none (by rw [List.length_take]; omega), List.getElem?_eq_none (by omega)]
end Go.Proofs.YtmhlkdlcpicekaaGreatDoor
namespace Go.Proofs.YtmhlkdlcpicekaaGreatDoor
open Go.RowKit
structure KB (w : World) (wb base m : Nat) (FA FB EA EB : List (Value × Nat)) (vF vM vE vN : Value) : Prop where
 c0 : w.cell? ⟨wb, 0, none⟩ = some (.slice none 0 0)
 c1 : w.cell? ⟨wb, 1, none⟩ = some (vF)
 c2 : w.cell? ⟨wb, 2, none⟩ = some (vE)
 c3 : w.cell? ⟨wb, 3, none⟩ = some (.slice none 0 0)
 c4 : w.cell? ⟨wb, 4, none⟩ = some (vM)
 c5 : w.cell? ⟨wb, 5, none⟩ = some (vN)
 c6 : w.cell? ⟨wb, 6, none⟩ = some (.slice none 0 0)
 c7 : w.cell? ⟨wb, 7, none⟩ = some (.int .i64 (m : Int))
 fz : ∀ i, w.frozen? ⟨wb, i, none⟩ = false
 ty : Typed w wb 56
 low : wb < base
 rF : w.ownsRow base 30 1 vF FA.length (FA.map (·.1))
 rM : w.ownsRow base 9 1 vM FB.length (FB.map (fun x => Value.string (markS x.2)))
 rE : w.ownsRow base 59 1 vE EA.length (EA.map (·.1))
 rN : w.ownsRow base 3 1 vN EB.length (EB.map (fun x => Value.int .i64 (-(x.2 : Int))))
def Other (w : World) (S : Nat → Prop) : Prop := ∀ q, S q → q < w.heap.size → ∃ t, Typed w q t ∧ t ≠ 56 ∧ t ≠ 30 ∧ t ≠ 9 ∧ t ≠ 59 ∧ t ≠ 3
theorem KB.keep {w : World} {wb base m : Nat} {FA FB EA EB : List (Value × Nat)} {vF vM vE vN : Value} {S : Nat → Prop} {w' : World} (h : KB w wb base m FA FB EA EB vF vM vE vN) (ht : Touch S w w') (hs : Other w S) : KB w' wb base m FA FB EA EB vF vM vE vN := by
 have hw : ¬ S wb := fun hS => by
  obtain ⟨t, h1, h2, _⟩ := hs wb hS h.ty.lt
  exact h2 (h1.ne h.ty)
 have oF := ht.owns h.rF (fun q hq hS => by
  have hty := Typed.owned h.rF hq
  obtain ⟨t, h1, h2⟩ := hs q hS hty.lt
  exact h2.2.1 (h1.ne hty))
 have oM := ht.owns h.rM (fun q hq hS => by
  have hty := Typed.owned h.rM hq
  obtain ⟨t, h1, h2⟩ := hs q hS hty.lt
  exact h2.2.2.1 (h1.ne hty))
 have oE := ht.owns h.rE (fun q hq hS => by
  have hty := Typed.owned h.rE hq
  obtain ⟨t, h1, h2⟩ := hs q hS hty.lt
  exact h2.2.2.2.1 (h1.ne hty))
 have oN := ht.owns h.rN (fun q hq hS => by
  have hty := Typed.owned h.rN hq
  obtain ⟨t, h1, h2⟩ := hs q hS hty.lt
  exact h2.2.2.2.2 (h1.ne hty))
 exact ⟨ht.at h.c0 hw, ht.at h.c1 hw, ht.at h.c2 hw, ht.at h.c3 hw, ht.at h.c4 hw, ht.at h.c5 hw, ht.at h.c6 hw, ht.at h.c7 hw, fun i => (ht.frozen (p := ⟨wb, i, none⟩) h.ty.lt hw).trans (h.fz i), h.ty.keep ht hw, h.low, oF, oM, oE, oN⟩
theorem KB.same {w : World} {wb base m : Nat} {FA FB EA EB : List (Value × Nat)} {vF vM vE vN : Value} {w' : World} (h : KB w wb base m FA FB EA EB vF vM vE vN) (ht : Touch (fun _ => False) w w') : KB w' wb base m FA FB EA EB vF vM vE vN := h.keep ht (fun _ h => h.elim)
theorem KB.last {w : World} {wb base m : Nat} {FA FB EA EB : List (Value × Nat)} {vF vM vE vN : Value} (h : KB w wb base m FA FB EA EB vF vM vE vN) (k : Nat) : KB (w.setCell ⟨wb, 7, none⟩ (.int .i64 (k : Int))) wb base k FA FB EA EB vF vM vE vN := by
 have e : ∀ j, j ≠ 7 → (w.setCell ⟨wb, 7, none⟩ (.int .i64 (k : Int))).cell? ⟨wb, j, none⟩ = w.cell? ⟨wb, j, none⟩ := fun j hj => cell_set_ne (fun e => hj e.symm)
 have r : ∀ {t : TypeId} {z : Nat} {v : Value} {n : Nat} {xs : List Value}, w.ownsRow base t z v n xs → (w.setCell ⟨wb, 7, none⟩ (.int .i64 (k : Int))).ownsRow base t z v n xs := fun h' => ownsRow_setCell_below h' (a := ⟨wb, 7, none⟩) h.low _
 exact ⟨(e 0 (by omega)).trans h.c0, (e 1 (by omega)).trans h.c1, (e 2 (by omega)).trans h.c2, (e 3 (by omega)).trans h.c3, (e 4 (by omega)).trans h.c4, (e 5 (by omega)).trans h.c5, (e 6 (by omega)).trans h.c6, by rw [cell_set_if, if_pos ⟨rfl, rfl⟩, h.c7]; rfl, fun i => by rw [World.frozen?_setCell]; exact h.fz i, h.ty.set _ _, h.low, r h.rF, r h.rM, r h.rE, r h.rN⟩
theorem KB.putF {w : World} {wb base m : Nat} {FA FB EA EB : List (Value × Nat)} {vF vM vE vN : Value} {w' : World} {u : Value} (h : KB w wb base m FA FB EA EB vF vM vE vN) (x : Value × Nat) (ht : Touch (fun q => vF.ownBlock = some q) w w') (ho : w'.ownsRow base 30 1 u (FA.length + 1) (FA.map (·.1) ++ [(·.1) x])) : KB (w'.setCell ⟨wb, 1, none⟩ u) wb base m (FA ++ [x]) FB EA EB u vM vE vN := by
 have hw : ¬ vF.ownBlock = some wb := fun hq => by
  have := (Typed.owned h.rF hq).ne h.ty
  exact absurd this (by decide)
 have oM := ht.owns h.rM (fun q hq hS => absurd ((Typed.owned h.rM hq).ne (Typed.owned h.rF hS)) (by decide))
 have oE := ht.owns h.rE (fun q hq hS => absurd ((Typed.owned h.rE hq).ne (Typed.owned h.rF hS)) (by decide))
 have oN := ht.owns h.rN (fun q hq hS => absurd ((Typed.owned h.rN hq).ne (Typed.owned h.rF hS)) (by decide))
 have e : ∀ j, j ≠ 1 → (w'.setCell ⟨wb, 1, none⟩ u).cell? ⟨wb, j, none⟩ = w'.cell? ⟨wb, j, none⟩ := fun j hj => cell_set_ne (fun e => hj e.symm)
 have r : ∀ {t : TypeId} {z : Nat} {v : Value} {n : Nat} {xs : List Value}, w'.ownsRow base t z v n xs → (w'.setCell ⟨wb, 1, none⟩ u).ownsRow base t z v n xs := fun h' => ownsRow_setCell_below h' (a := ⟨wb, 1, none⟩) h.low _
 have ho2 : (w'.setCell ⟨wb, 1, none⟩ u).ownsRow base 30 1 u (FA ++ [x]).length ((FA ++ [x]).map (·.1)) := by
  rw [List.length_append, List.map_append]; exact r ho
 exact ⟨(e 0 (by omega)).trans (ht.at h.c0 hw), by rw [cell_set_if, if_pos ⟨rfl, rfl⟩, ht.at h.c1 hw]; rfl, (e 2 (by omega)).trans (ht.at h.c2 hw), (e 3 (by omega)).trans (ht.at h.c3 hw), (e 4 (by omega)).trans (ht.at h.c4 hw), (e 5 (by omega)).trans (ht.at h.c5 hw), (e 6 (by omega)).trans (ht.at h.c6 hw), (e 7 (by omega)).trans (ht.at h.c7 hw), fun i => by rw [World.frozen?_setCell]; exact (ht.frozen (p := ⟨wb, i, none⟩) h.ty.lt hw).trans (h.fz i), (h.ty.keep ht hw).set _ _, h.low, ho2, r oM, r oE, r oN⟩
end Go.Proofs.YtmhlkdlcpicekaaGreatDoor
namespace Go.Proofs.YtmhlkdlcpicekaaGreatDoor
open Go.RowKit Go.Shelf Go.Lib
def patE (k : Nat) : List Value := [.string ⟨#[]⟩, .int .i64 0, .int .u32 0, .int .i64 0, .int .i64 0, .int .i64 (-(k : Int))]
theorem patE_len (k : Nat) : (patE k).length = 6 := rfl
structure MarkE (w : World) (l : Value) (n k m : Nat) : Prop where
 row : ∀ a cap, l = .slice a n cap → ∀ g, a = some ⟨g, 0, none⟩ → RowG w g 134 (cap * 6) ∧ ∀ j, j < k → ∀ c, c < 6 → w.cell? ⟨g, j * 6 + c, none⟩ = (patE m)[c]?
theorem MarkE.start {w : World} {base n : Nat} {l : Value} {xs : List Value} (h : w.ownsRow base 134 6 l n xs) (m : Nat) : MarkE w l n 0 m := by
 refine ⟨fun a cap hl g ha => ⟨?_, fun j hj => by omega⟩⟩
 obtain ⟨h1, ⟨h2, _⟩ | ⟨g', cap', cur, e, hb, hg, h3, h4, h5, h6⟩⟩ := h
 ·rw [hl] at h2; cases h2; cases ha
 ·rw [hl] at e
  cases e
  cases ha
  exact ⟨cur, hg, h5⟩
theorem MarkE.owns {w w' : World} {base n m : Nat} {l : Value} {xs : List Value} (h : w.ownsRow base 134 6 l n xs) (hM : MarkE w' l n n m) : w'.ownsRow base 134 6 l n (repP n (patE m)) := by
 obtain ⟨h1, ⟨rfl, rfl⟩ | ⟨g, cap, cur, rfl, hb, hg, h3, h4, h5, h6⟩⟩ := h
 ·exact World.ownsRow_nil _ _ _ _
 ·obtain ⟨hr, hc⟩ := hM.row _ cap rfl g rfl
  refine hr.owns hb h3 h4 (by rw [repP_len, patE_len]) (fun j hj => ?_)
  have e := hc (j / 6) (by omega) (j % 6) (by omega)
  have e2 := repP_get (patE m) n (j / 6) (j % 6) (by omega) (by rw [patE_len]; omega)
  rw [patE_len] at e2
  rw [show j / 6 * 6 + j % 6 = j by omega] at e e2
  rw [e, e2]
theorem MarkE.set {w w' : World} {l : Value} {n k m g cap : Nat} (h : MarkE w l n k m) (hl : l = .slice (some ⟨g, 0, none⟩) n cap) (hw : w' = (((((w.setCell ⟨g, k * 6, none⟩ (.string ⟨#[]⟩)).setCell ⟨g, k * 6 + 1, none⟩ (.int .i64 0)).setCell ⟨g, k * 6 + 2, none⟩ (.int .u32 0)).setCell ⟨g, k * 6 + 3, none⟩ (.int .i64 0)).setCell ⟨g, k * 6 + 4, none⟩ (.int .i64 0)).setCell ⟨g, k * 6 + 5, none⟩ (.int .i64 (-(m : Int)))) (hk : k < n) (hc : n ≤ cap) : MarkE w' l n (k + 1) m := by
 refine ⟨fun a cap' hl' g' ha => ?_⟩
 rw [hl] at hl'
 cases hl'
 cases ha
 obtain ⟨hr, hcl⟩ := h.row _ cap hl g rfl
 have hr' : RowG w' g 134 (cap * 6) := by rw [hw]; exact (((((hr.set _ _ _).set _ _ _).set _ _ _).set _ _ _).set _ _ _).set _ _ _
 refine ⟨hr', fun j hj c hc' => ?_⟩
 rw [hw, cell_set_if, cell_set_if, cell_set_if, cell_set_if, cell_set_if, cell_set_if]
 by_cases e : j = k
 ·subst e
  obtain ⟨⟨u, hu⟩, _⟩ := hr.cell (j * 6 + c) (by omega)
  rcases (by omega : c = 0 ∨ c = 1 ∨ c = 2 ∨ c = 3 ∨ c = 4 ∨ c = 5) with rfl | rfl | rfl | rfl | rfl | rfl <;> simp [hu, patE] <;> (simp at hu; simp [hu])
 ·have h1 := hcl j (by omega) c hc'
  have e0 : ¬ k * 6 = j * 6 + c := by omega
  have e1 : ¬ k * 6 + 1 = j * 6 + c := by omega
  have e2 : ¬ k * 6 + 2 = j * 6 + c := by omega
  have e3 : ¬ k * 6 + 3 = j * 6 + c := by omega
  have e4 : ¬ k * 6 + 4 = j * 6 + c := by omega
  have e5 : ¬ k * 6 + 5 = j * 6 + c := by omega
  simp [e0, e1, e2, e3, e4, e5, h1]
end Go.Proofs.YtmhlkdlcpicekaaGreatDoor
namespace Go.Proofs.YtmhlkdlcpicekaaGreatDoor
open Go.RowKit Go.Shelf Go.Lib
theorem owned_sl {w : World} {base : Nat} {e : TypeId} {size n : Nat} {v : Value} {xs : List Value} (h : w.ownsRow base e size v n xs) : ∃ ao cap, v = .slice ao n cap := by
 rcases h.2 with ⟨e, h0⟩ | ⟨g, cap', cur, e, _⟩
 ·exact ⟨none, 0, by rw [e, h0]⟩
 ·exact ⟨_, _, e⟩
end Go.Proofs.YtmhlkdlcpicekaaGreatDoor
namespace Go.Proofs.YtmhlkdlcpicekaaGreatDoor
open Go.RowKit Go.Shelf Go.Lib
theorem own1_cells {w : World} {base n cap : Nat} {e : TypeId} {a : Option Addr} {xs : List Value} (h : w.ownsRow base e 1 (.slice a n cap) n xs) (hn : 0 < n) : ∃ g, a = some ⟨g, 0, none⟩ ∧ ∀ i, i < n → w.cell? ⟨g, i, none⟩ = xs[i]? := by
 obtain ⟨h1, ⟨h2, h3⟩ | ⟨g, cap', cur, e, hb, hg, h3, h4, h5, h6⟩⟩ := h
 ·omega
 ·cases e
  refine ⟨g, rfl, fun i hi => ?_⟩
  rw [row_cell hg i, ← h6, List.getElem?_take_of_lt (by omega)]; simp
end Go.Proofs.YtmhlkdlcpicekaaGreatDoor
