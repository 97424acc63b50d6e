/- Texts of this seat, joined. -/
import Derived.Test.YtpckiobjpikmlaaGreatDoorJ29
import Derived.Test.YtpckiobjpikmlaaGreatDoorJ30
import Derived.Test.YtpckiobjpikmlaaGreatDoorJ19
import Derived.Test.YtpckiobjpikmlaaGreatDoorJ25
import Derived.Test.YtpckiobjpikmlaaGreatDoorJ20
import Derived.Deep.RegionLaw
import Derived.Deep.DeepCutAuto
import Derived.Deep.RegionHeldLaw
import Derived.BigQuiet
set_option linter.unusedSimpArgs false
set_option linter.unusedVariables false
set_option maxRecDepth 100000
set_option maxHeartbeats 20000000
namespace Go.Proofs.YtpckiobjpikmlaaGreatDoor
open Go.RowKit
def repP (n : Nat) (pat : List Value) : List Value := (List.replicate n pat).flatten
theorem repP_len (n : Nat) (pat : List Value) : (repP n pat).length = n * pat.length := by simp [repP]
theorem repP_succ (n : Nat) (pat : List Value) : repP (n + 1) pat = repP n pat ++ pat := by
 unfold repP; rw [List.replicate_succ', List.flatten_append]; simp
theorem repP_get (pat : List Value) : ∀ (n j c : Nat), j < n → c < pat.length → (repP n pat)[j * pat.length + c]? = pat[c]?
 | 0, j, c, h, _ => by omega
 | n + 1, j, c, h, hc => by
  have e : repP (n + 1) pat = pat ++ repP n pat := by unfold repP; rw [List.replicate_succ, List.flatten_cons]
  rw [e]
  cases j with
  | zero => rw [Nat.zero_mul, Nat.zero_add, List.getElem?_append_left hc]
  | succ j =>
   rw [List.getElem?_append_right (by rw [Nat.add_mul]; omega)]
   have : (j + 1) * pat.length + c - pat.length = j * pat.length + c := by rw [Nat.add_mul]; omega
   rw [this]
   exact repP_get pat n j c (by omega) hc
def LKept (w : World) (t : TypeId) (pat : List Value) (v : Value) : Prop := ∃ a n cap, v = .slice a n cap ∧ n ≤ 1000000000 ∧ ((a = none ∧ n = 0) ∨ ∃ g, a = some ⟨g, 0, none⟩ ∧ Typed w g t ∧ ∀ j, j < n → ∀ c, c < pat.length → w.cell? ⟨g, j * pat.length + c, none⟩ = pat[c]?)
def slLen : Value → Nat
 | .slice _ n _ => n
 | _ => 0
theorem LKept.keep {S : Nat → Prop} {w w' : World} {t : TypeId} {pat : List Value} {v : Value} (h : LKept w t pat v) (ht : Touch S w w') (hs : ∀ q, S q → q < w.heap.size → v.ownBlock = some q → ¬ Typed w q t) : LKept w' t pat v := by
 obtain ⟨a, n, cap, rfl, hn, h | ⟨g, rfl, hty, hc⟩⟩ := h
 ·exact ⟨a, n, cap, rfl, hn, .inl h⟩
 ·have hg : ¬ S g := fun hh => hs g hh hty.lt rfl hty
  exact ⟨_, n, cap, rfl, hn, .inr ⟨g, rfl, hty.keep ht hg, fun j hj c hc' => (ht.cell (p := ⟨g, j * pat.length + c, none⟩) hty.lt hg).trans (hc j hj c hc')⟩⟩
theorem LKept.same {w w' : World} {t : TypeId} {pat : List Value} {v : Value} (h : LKept w t pat v) (ht : Touch (fun _ => False) w w') : LKept w' t pat v := h.keep ht (fun _ h _ _ => h.elim)
theorem LKept.owned {w : World} {base : Nat} {t : TypeId} {pat : List Value} {v : Value} {n : Nat} (h : w.ownsRow base t pat.length v n (repP n pat)) (hn : n ≤ 1000000000) : LKept w t pat v := by
 have hty := fun k hk => Typed.owned h (k := k) hk
 obtain ⟨h1, ⟨rfl, rfl⟩ | ⟨g, cap, cur, rfl, hb, hg, h3, h4, h5, h6⟩⟩ := h
 ·exact ⟨none, 0, 0, rfl, Nat.zero_le _, .inl ⟨rfl, rfl⟩⟩
 ·refine ⟨_, n, cap, rfl, hn, .inr ⟨g, rfl, hty g rfl, fun j hj c hc => ?_⟩⟩
  have hlt : j * pat.length + c < n * pat.length := by
   have : (j + 1) * pat.length ≤ n * pat.length := Nat.mul_le_mul_right _ hj
   rw [Nat.add_mul] at this; omega
  rw [row_cell hg, ← repP_get pat n j c hj hc, ← h6, List.getElem?_take_of_lt hlt]; simp
theorem LKept.block {w : World} {t : TypeId} {pat : List Value} {v : Value} (h : LKept w t pat v) {q : Nat} (hq : v.ownBlock = some q) : Typed w q t := by
 obtain ⟨a, n, cap, rfl, hn, ⟨rfl, _⟩ | ⟨g, rfl, hty, hc⟩⟩ := h
 ·cases hq
 ·cases hq; exact hty
structure Chain (w : World) (t : TypeId) (pat : Nat → List Value) (z : Nat) (K : List (Value × Nat)) (l : Value) (n m : Nat) : Prop where
 len : ∀ k, (pat k).length = z
 kept : ∀ x ∈ K, LKept w t (pat x.2) x.1
 same : ∀ x ∈ K, ∀ q, x.1.ownBlock = some q → l.ownBlock = some q → x.2 = m ∧ slLen x.1 ≤ n
theorem Chain.push {w : World} {t : TypeId} {pat : Nat → List Value} {z : Nat} {K : List (Value × Nat)} {l : Value} {n m base : Nat} (h : Chain w t pat z K l n m) (ho : w.ownsRow base t z l n (repP n (pat m))) (hn : n ≤ 1000000000) : Chain w t pat z (K ++ [(l, m)]) l n m := by
 refine ⟨h.len, fun x hx => ?_, fun x hx q h1 h2 => ?_⟩
 ·rcases List.mem_append.1 hx with hx | hx
  ·exact h.kept x hx
  ·rw [List.mem_singleton.1 hx]
   exact LKept.owned (by rw [h.len]; exact ho) hn
 ·rcases List.mem_append.1 hx with hx | hx
  ·exact h.same x hx q h1 h2
  ·rw [List.mem_singleton.1 hx]
   refine ⟨rfl, ?_⟩
   obtain ⟨_, ⟨rfl, rfl⟩ | ⟨g, cap, cur, rfl, _⟩⟩ := ho
   ·exact Nat.zero_le _
   ·exact Nat.le_refl _
theorem Chain.keep {S : Nat → Prop} {w w' : World} {t : TypeId} {pat : Nat → List Value} {z : Nat} {K : List (Value × Nat)} {l : Value} {n m : Nat} (h : Chain w t pat z K l n m) (ht : Touch S w w') (hs : ∀ q, S q → q < w.heap.size → ¬ Typed w q t) : Chain w' t pat z K l n m :=
 ⟨h.len, fun x hx => (h.kept x hx).keep ht (fun q h1 h2 _ => hs q h1 h2), h.same⟩
theorem Chain.append {w W w' : World} {t : TypeId} {pat : Nat → List Value} {z : Nat} {K : List (Value × Nat)} {l : Value} {n m base g cap : Nat} (h : Chain w t pat z K l n m) (ho : w.ownsRow base t z l n (repP n (pat m))) (hW : Touch (fun _ => False) w W)
  (ho' : w'.ownsRow base t z (.slice (some ⟨g, 0, none⟩) (n + 1) cap) (n + 1) (repP (n + 1) (pat m))) (hg : (l.ownBlock = some g ∧ W.grownBy w' (some g)) ∨ (W.heap.size ≤ g ∧ W.grownBy w' none)) (hn : n + 1 ≤ 1000000000) :
  Chain w' t pat z K (.slice (some ⟨g, 0, none⟩) (n + 1) cap) (n + 1) m := by
 have hK' : LKept w' t (pat m) (.slice (some ⟨g, 0, none⟩) (n + 1) cap) := LKept.owned (by rw [h.len]; exact ho') hn
 refine ⟨h.len, fun x hx => ?_, fun x hx q h1 h2 => ?_⟩
 ·have hk := h.kept x hx
  have hsm := h.same x hx
  obtain ⟨xv, xm⟩ := x
  simp only at hk hsm ⊢
  obtain ⟨a, k, cp, rfl, hk1, hk2 | ⟨q, rfl, hty, hc⟩⟩ := hk
  ·exact ⟨a, k, cp, rfl, hk1, .inl hk2⟩
  ·have hlt : q < W.heap.size := Nat.lt_of_lt_of_le hty.lt hW.size
   have hWq := hW.block q hty.lt (fun e => e)
   by_cases hq : l.ownBlock = some g ∧ q = g
   ·obtain ⟨hlg, rfl⟩ := hq
    obtain ⟨rfl, hle⟩ := hsm q rfl hlg
    obtain ⟨a2, n2, cap2, e2, _, ⟨e3, _⟩ | ⟨g2, e3, hty2, hc2⟩⟩ := hK'
    ·cases e2; cases e3
    ·cases e2; cases e3
     have hle' : k ≤ n := hle
     exact ⟨_, k, cp, rfl, hk1, .inr ⟨q, rfl, hty2, fun j hj c hc' => hc2 j (by omega) c hc'⟩⟩
   ·have hb : w'.heap[q]? = w.heap[q]? := by
     rcases hg with ⟨hlg, hgr⟩ | ⟨hgs, hgr⟩
     ·exact (hgr.block q hlt (fun e => hq ⟨hlg, Option.some.inj e⟩)).trans hWq
     ·exact (hgr.block q hlt (by simp)).trans hWq
    refine ⟨_, k, cp, rfl, hk1, .inr ⟨q, rfl, ?_, fun j hj c hc' => ?_⟩⟩
    ·obtain ⟨cs, fr, hcs⟩ := hty; exact ⟨cs, fr, hb.trans hcs⟩
    ·exact (World.cell?_of_block (w := w) (w' := w') (a := ⟨q, j * (pat xm).length + c, none⟩) hb).trans (hc j hj c hc')
 ·have hq : q = g := by cases h2; rfl
  subst hq
  rcases hg with ⟨hlg, hgr⟩ | ⟨hgs, hgr⟩
  ·obtain ⟨e1, e2⟩ := h.same x hx q h1 hlg
   exact ⟨e1, by omega⟩
  ·have := (h.kept x hx).block h1
   have h3 := this.lt
   have h4 := hW.size
   omega
def RowG (w : World) (g : Nat) (t : TypeId) (len : Nat) : Prop := ∃ cur, w.heap[g]? = some (.cells cur t) ∧ cur.size = len
theorem RowG.set {w : World} {g : Nat} {t : TypeId} {len : Nat} (h : RowG w g t len) (b i : Nat) (v : Value) : RowG (w.setCell ⟨b, i, none⟩ v) g t len := by
 obtain ⟨cur, h1, h2⟩ := h
 by_cases e : b = g
 ·subst e
  refine ⟨cur.setIfInBounds i v, ?_, by simpa using h2⟩
  simp only [World.setCell, Array.getElem?_modify, if_true, h1]
  rfl
 ·refine ⟨cur, ?_, h2⟩
  have := (touch_set w b i v).block g (Array.getElem?_eq_some_iff.1 h1).1 (fun h => e h.symm)
  rw [this]; exact h1
theorem RowG.cell {w : World} {g : Nat} {t : TypeId} {len : Nat} (h : RowG w g t len) (i : Nat) (hi : i < len) : (∃ v, w.cell? ⟨g, i, none⟩ = some v) ∧ w.frozen? ⟨g, i, none⟩ = false := by
 obtain ⟨cur, h1, h2⟩ := h
 refine ⟨⟨cur[i]'(by omega), ?_⟩, frozen_row h1 i⟩
 rw [row_cell h1 i, Array.getElem?_eq_getElem (by omega)]
theorem RowG.owns {w : World} {g base cap n z : Nat} {t : TypeId} {xs : List Value} (h : RowG w g t (cap * z)) (hb : base ≤ g) (hn : n ≤ cap) (hc : cap ≤ maxLen) (hl : xs.length = n * z) (hx : ∀ j, j < n * z → w.cell? ⟨g, j, none⟩ = xs[j]?) : w.ownsRow base t z (.slice (some ⟨g, 0, none⟩) n cap) n xs := by
 obtain ⟨cur, h1, h2⟩ := h
 refine ⟨hl, .inr ⟨g, cap, cur, rfl, hb, h1, hn, hc, h2, ?_⟩⟩
 have hle : n * z ≤ cap * z := Nat.mul_le_mul_right _ hn
 apply List.ext_getElem?
 intro j
 by_cases hj : j < n * z
 ·rw [List.getElem?_take_of_lt hj, ← hx j hj, row_cell h1 j]; simp
 ·rw [List.getElem?_eq_none (by rw [List.length_take]; omega), List.getElem?_eq_none (by omega)]
end Go.Proofs.YtpckiobjpikmlaaGreatDoor
namespace Go.Proofs.YtpckiobjpikmlaaGreatDoor
open Go.RowKit
structure KB (w : World) (wb base m : Nat) (FA FB EA EB : List (Value × Nat)) (vF vM vE vN : Value) : Prop where
 c0 : w.cell? ⟨wb, 0, none⟩ = some (.slice none 0 0)
 c1 : w.cell? ⟨wb, 1, none⟩ = some (vF)
 c2 : w.cell? ⟨wb, 2, none⟩ = some (vE)
 c3 : w.cell? ⟨wb, 3, none⟩ = some (.slice none 0 0)
 c4 : w.cell? ⟨wb, 4, none⟩ = some (vM)
 c5 : w.cell? ⟨wb, 5, none⟩ = some (vN)
 c6 : w.cell? ⟨wb, 6, none⟩ = some (.slice none 0 0)
 c7 : w.cell? ⟨wb, 7, none⟩ = some (.int .i64 (m : Int))
 fz : ∀ i, w.frozen? ⟨wb, i, none⟩ = false
 ty : Typed w wb 33
 low : wb < base
 rF : w.ownsRow base 81 1 vF FA.length (FA.map (·.1))
 rM : w.ownsRow base 9 1 vM FB.length (FB.map (fun x => Value.string (markS x.2)))
 rE : w.ownsRow base 37 1 vE EA.length (EA.map (·.1))
 rN : w.ownsRow base 3 1 vN EB.length (EB.map (fun x => Value.int .i64 (-(x.2 : Int))))
def Other (w : World) (S : Nat → Prop) : Prop := ∀ q, S q → q < w.heap.size → ∃ t, Typed w q t ∧ t ≠ 33 ∧ t ≠ 81 ∧ t ≠ 9 ∧ t ≠ 37 ∧ t ≠ 3
theorem KB.keep {w : World} {wb base m : Nat} {FA FB EA EB : List (Value × Nat)} {vF vM vE vN : Value} {S : Nat → Prop} {w' : World} (h : KB w wb base m FA FB EA EB vF vM vE vN) (ht : Touch S w w') (hs : Other w S) : KB w' wb base m FA FB EA EB vF vM vE vN := by
 have hw : ¬ S wb := fun hS => by
  obtain ⟨t, h1, h2, _⟩ := hs wb hS h.ty.lt
  exact h2 (h1.ne h.ty)
 have oF := ht.owns h.rF (fun q hq hS => by
  have hty := Typed.owned h.rF hq
  obtain ⟨t, h1, h2⟩ := hs q hS hty.lt
  exact h2.2.1 (h1.ne hty))
 have oM := ht.owns h.rM (fun q hq hS => by
  have hty := Typed.owned h.rM hq
  obtain ⟨t, h1, h2⟩ := hs q hS hty.lt
  exact h2.2.2.1 (h1.ne hty))
 have oE := ht.owns h.rE (fun q hq hS => by
  have hty := Typed.owned h.rE hq
  obtain ⟨t, h1, h2⟩ := hs q hS hty.lt
  exact h2.2.2.2.1 (h1.ne hty))
 have oN := ht.owns h.rN (fun q hq hS => by
  have hty := Typed.owned h.rN hq
  obtain ⟨t, h1, h2⟩ := hs q hS hty.lt
  exact h2.2.2.2.2 (h1.ne hty))
 exact ⟨ht.at h.c0 hw, ht.at h.c1 hw, ht.at h.c2 hw, ht.at h.c3 hw, ht.at h.c4 hw, ht.at h.c5 hw, ht.at h.c6 hw, ht.at h.c7 hw, fun i => (ht.frozen (p := ⟨wb, i, none⟩) h.ty.lt hw).trans (h.fz i), h.ty.keep ht hw, h.low, oF, oM, oE, oN⟩
theorem KB.same {w : World} {wb base m : Nat} {FA FB EA EB : List (Value × Nat)} {vF vM vE vN : Value} {w' : World} (h : KB w wb base m FA FB EA EB vF vM vE vN) (ht : Touch (fun _ => False) w w') : KB w' wb base m FA FB EA EB vF vM vE vN := h.keep ht (fun _ h => h.elim)
theorem KB.last {w : World} {wb base m : Nat} {FA FB EA EB : List (Value × Nat)} {vF vM vE vN : Value} (h : KB w wb base m FA FB EA EB vF vM vE vN) (k : Nat) : KB (w.setCell ⟨wb, 7, none⟩ (.int .i64 (k : Int))) wb base k FA FB EA EB vF vM vE vN := by
 have e : ∀ j, j ≠ 7 → (w.setCell ⟨wb, 7, none⟩ (.int .i64 (k : Int))).cell? ⟨wb, j, none⟩ = w.cell? ⟨wb, j, none⟩ := fun j hj => cell_set_ne (fun e => hj e.symm)
 have r : ∀ {t : TypeId} {z : Nat} {v : Value} {n : Nat} {xs : List Value}, w.ownsRow base t z v n xs → (w.setCell ⟨wb, 7, none⟩ (.int .i64 (k : Int))).ownsRow base t z v n xs := fun h' => ownsRow_setCell_below h' (a := ⟨wb, 7, none⟩) h.low _
 exact ⟨(e 0 (by omega)).trans h.c0, (e 1 (by omega)).trans h.c1, (e 2 (by omega)).trans h.c2, (e 3 (by omega)).trans h.c3, (e 4 (by omega)).trans h.c4, (e 5 (by omega)).trans h.c5, (e 6 (by omega)).trans h.c6, by rw [cell_set_if, if_pos ⟨rfl, rfl⟩, h.c7]; rfl, fun i => by rw [World.frozen?_setCell]; exact h.fz i, h.ty.set _ _, h.low, r h.rF, r h.rM, r h.rE, r h.rN⟩
theorem KB.putF {w : World} {wb base m : Nat} {FA FB EA EB : List (Value × Nat)} {vF vM vE vN : Value} {w' : World} {u : Value} (h : KB w wb base m FA FB EA EB vF vM vE vN) (x : Value × Nat) (ht : Touch (fun q => vF.ownBlock = some q) w w') (ho : w'.ownsRow base 81 1 u (FA.length + 1) (FA.map (·.1) ++ [(·.1) x])) : KB (w'.setCell ⟨wb, 1, none⟩ u) wb base m (FA ++ [x]) FB EA EB u vM vE vN := by
 have hw : ¬ vF.ownBlock = some wb := fun hq => by
  have := (Typed.owned h.rF hq).ne h.ty
  exact absurd this (by decide)
 have oM := ht.owns h.rM (fun q hq hS => absurd ((Typed.owned h.rM hq).ne (Typed.owned h.rF hS)) (by decide))
 have oE := ht.owns h.rE (fun q hq hS => absurd ((Typed.owned h.rE hq).ne (Typed.owned h.rF hS)) (by decide))
 have oN := ht.owns h.rN (fun q hq hS => absurd ((Typed.owned h.rN hq).ne (Typed.owned h.rF hS)) (by decide))
 have e : ∀ j, j ≠ 1 → (w'.setCell ⟨wb, 1, none⟩ u).cell? ⟨wb, j, none⟩ = w'.cell? ⟨wb, j, none⟩ := fun j hj => cell_set_ne (fun e => hj e.symm)
 have r : ∀ {t : TypeId} {z : Nat} {v : Value} {n : Nat} {xs : List Value}, w'.ownsRow base t z v n xs → (w'.setCell ⟨wb, 1, none⟩ u).ownsRow base t z v n xs := fun h' => ownsRow_setCell_below h' (a := ⟨wb, 1, none⟩) h.low _
 have ho2 : (w'.setCell ⟨wb, 1, none⟩ u).ownsRow base 81 1 u (FA ++ [x]).length ((FA ++ [x]).map (·.1)) := by
  rw [List.length_append, List.map_append]; exact r ho
 exact ⟨(e 0 (by omega)).trans (ht.at h.c0 hw), by rw [cell_set_if, if_pos ⟨rfl, rfl⟩, ht.at h.c1 hw]; rfl, (e 2 (by omega)).trans (ht.at h.c2 hw), (e 3 (by omega)).trans (ht.at h.c3 hw), (e 4 (by omega)).trans (ht.at h.c4 hw), (e 5 (by omega)).trans (ht.at h.c5 hw), (e 6 (by omega)).trans (ht.at h.c6 hw), (e 7 (by omega)).trans (ht.at h.c7 hw), fun i => by rw [World.frozen?_setCell]; exact (ht.frozen (p := ⟨wb, i, none⟩) h.ty.lt hw).trans (h.fz i), (h.ty.keep ht hw).set _ _, h.low, ho2, r oM, r oE, r oN⟩
theorem KB.putM {w : World} {wb base m : Nat} {FA FB EA EB : List (Value × Nat)} {vF vM vE vN : Value} {w' : World} {u : Value} (h : KB w wb base m FA FB EA EB vF vM vE vN) (x : Value × Nat) (ht : Touch (fun q => vM.ownBlock = some q) w w') (ho : w'.ownsRow base 9 1 u (FB.length + 1) (FB.map (fun x => Value.string (markS x.2)) ++ [(fun x => Value.string (markS x.2)) x])) : KB (w'.setCell ⟨wb, 4, none⟩ u) wb base m FA (FB ++ [x]) EA EB vF u vE vN := by
 have hw : ¬ vM.ownBlock = some wb := fun hq => by
  have := (Typed.owned h.rM hq).ne h.ty
  exact absurd this (by decide)
 have oF := ht.owns h.rF (fun q hq hS => absurd ((Typed.owned h.rF hq).ne (Typed.owned h.rM hS)) (by decide))
 have oE := ht.owns h.rE (fun q hq hS => absurd ((Typed.owned h.rE hq).ne (Typed.owned h.rM hS)) (by decide))
 have oN := ht.owns h.rN (fun q hq hS => absurd ((Typed.owned h.rN hq).ne (Typed.owned h.rM hS)) (by decide))
 have e : ∀ j, j ≠ 4 → (w'.setCell ⟨wb, 4, none⟩ u).cell? ⟨wb, j, none⟩ = w'.cell? ⟨wb, j, none⟩ := fun j hj => cell_set_ne (fun e => hj e.symm)
 have r : ∀ {t : TypeId} {z : Nat} {v : Value} {n : Nat} {xs : List Value}, w'.ownsRow base t z v n xs → (w'.setCell ⟨wb, 4, none⟩ u).ownsRow base t z v n xs := fun h' => ownsRow_setCell_below h' (a := ⟨wb, 4, none⟩) h.low _
 have ho2 : (w'.setCell ⟨wb, 4, none⟩ u).ownsRow base 9 1 u (FB ++ [x]).length ((FB ++ [x]).map (fun x => Value.string (markS x.2))) := by
  rw [List.length_append, List.map_append]; exact r ho
 exact ⟨(e 0 (by omega)).trans (ht.at h.c0 hw), (e 1 (by omega)).trans (ht.at h.c1 hw), (e 2 (by omega)).trans (ht.at h.c2 hw), (e 3 (by omega)).trans (ht.at h.c3 hw), by rw [cell_set_if, if_pos ⟨rfl, rfl⟩, ht.at h.c4 hw]; rfl, (e 5 (by omega)).trans (ht.at h.c5 hw), (e 6 (by omega)).trans (ht.at h.c6 hw), (e 7 (by omega)).trans (ht.at h.c7 hw), fun i => by rw [World.frozen?_setCell]; exact (ht.frozen (p := ⟨wb, i, none⟩) h.ty.lt hw).trans (h.fz i), (h.ty.keep ht hw).set _ _, h.low, r oF, ho2, r oE, r oN⟩
theorem KB.putE {w : World} {wb base m : Nat} {FA FB EA EB : List (Value × Nat)} {vF vM vE vN : Value} {w' : World} {u : Value} (h : KB w wb base m FA FB EA EB vF vM vE vN) (x : Value × Nat) (ht : Touch (fun q => vE.ownBlock = some q) w w') (ho : w'.ownsRow base 37 1 u (EA.length + 1) (EA.map (·.1) ++ [(·.1) x])) : KB (w'.setCell ⟨wb, 2, none⟩ u) wb base m FA FB (EA ++ [x]) EB vF vM u vN := by
 have hw : ¬ vE.ownBlock = some wb := fun hq => by
  have := (Typed.owned h.rE hq).ne h.ty
  exact absurd this (by decide)
 have oF := ht.owns h.rF (fun q hq hS => absurd ((Typed.owned h.rF hq).ne (Typed.owned h.rE hS)) (by decide))
 have oM := ht.owns h.rM (fun q hq hS => absurd ((Typed.owned h.rM hq).ne (Typed.owned h.rE hS)) (by decide))
 have oN := ht.owns h.rN (fun q hq hS => absurd ((Typed.owned h.rN hq).ne (Typed.owned h.rE hS)) (by decide))
 have e : ∀ j, j ≠ 2 → (w'.setCell ⟨wb, 2, none⟩ u).cell? ⟨wb, j, none⟩ = w'.cell? ⟨wb, j, none⟩ := fun j hj => cell_set_ne (fun e => hj e.symm)
 have r : ∀ {t : TypeId} {z : Nat} {v : Value} {n : Nat} {xs : List Value}, w'.ownsRow base t z v n xs → (w'.setCell ⟨wb, 2, none⟩ u).ownsRow base t z v n xs := fun h' => ownsRow_setCell_below h' (a := ⟨wb, 2, none⟩) h.low _
 have ho2 : (w'.setCell ⟨wb, 2, none⟩ u).ownsRow base 37 1 u (EA ++ [x]).length ((EA ++ [x]).map (·.1)) := by
  rw [List.length_append, List.map_append]; exact r ho
 exact ⟨(e 0 (by omega)).trans (ht.at h.c0 hw), (e 1 (by omega)).trans (ht.at h.c1 hw), by rw [cell_set_if, if_pos ⟨rfl, rfl⟩, ht.at h.c2 hw]; rfl, (e 3 (by omega)).trans (ht.at h.c3 hw), (e 4 (by omega)).trans (ht.at h.c4 hw), (e 5 (by omega)).trans (ht.at h.c5 hw), (e 6 (by omega)).trans (ht.at h.c6 hw), (e 7 (by omega)).trans (ht.at h.c7 hw), fun i => by rw [World.frozen?_setCell]; exact (ht.frozen (p := ⟨wb, i, none⟩) h.ty.lt hw).trans (h.fz i), (h.ty.keep ht hw).set _ _, h.low, r oF, r oM, ho2, r oN⟩
theorem KB.putN {w : World} {wb base m : Nat} {FA FB EA EB : List (Value × Nat)} {vF vM vE vN : Value} {w' : World} {u : Value} (h : KB w wb base m FA FB EA EB vF vM vE vN) (x : Value × Nat) (ht : Touch (fun q => vN.ownBlock = some q) w w') (ho : w'.ownsRow base 3 1 u (EB.length + 1) (EB.map (fun x => Value.int .i64 (-(x.2 : Int))) ++ [(fun x => Value.int .i64 (-(x.2 : Int))) x])) : KB (w'.setCell ⟨wb, 5, none⟩ u) wb base m FA FB EA (EB ++ [x]) vF vM vE u := by
 have hw : ¬ vN.ownBlock = some wb := fun hq => by
  have := (Typed.owned h.rN hq).ne h.ty
  exact absurd this (by decide)
 have oF := ht.owns h.rF (fun q hq hS => absurd ((Typed.owned h.rF hq).ne (Typed.owned h.rN hS)) (by decide))
 have oM := ht.owns h.rM (fun q hq hS => absurd ((Typed.owned h.rM hq).ne (Typed.owned h.rN hS)) (by decide))
 have oE := ht.owns h.rE (fun q hq hS => absurd ((Typed.owned h.rE hq).ne (Typed.owned h.rN hS)) (by decide))
 have e : ∀ j, j ≠ 5 → (w'.setCell ⟨wb, 5, none⟩ u).cell? ⟨wb, j, none⟩ = w'.cell? ⟨wb, j, none⟩ := fun j hj => cell_set_ne (fun e => hj e.symm)
 have r : ∀ {t : TypeId} {z : Nat} {v : Value} {n : Nat} {xs : List Value}, w'.ownsRow base t z v n xs → (w'.setCell ⟨wb, 5, none⟩ u).ownsRow base t z v n xs := fun h' => ownsRow_setCell_below h' (a := ⟨wb, 5, none⟩) h.low _
 have ho2 : (w'.setCell ⟨wb, 5, none⟩ u).ownsRow base 3 1 u (EB ++ [x]).length ((EB ++ [x]).map (fun x => Value.int .i64 (-(x.2 : Int)))) := by
  rw [List.length_append, List.map_append]; exact r ho
 exact ⟨(e 0 (by omega)).trans (ht.at h.c0 hw), (e 1 (by omega)).trans (ht.at h.c1 hw), (e 2 (by omega)).trans (ht.at h.c2 hw), (e 3 (by omega)).trans (ht.at h.c3 hw), (e 4 (by omega)).trans (ht.at h.c4 hw), by rw [cell_set_if, if_pos ⟨rfl, rfl⟩, ht.at h.c5 hw]; rfl, (e 6 (by omega)).trans (ht.at h.c6 hw), (e 7 (by omega)).trans (ht.at h.c7 hw), fun i => by rw [World.frozen?_setCell]; exact (ht.frozen (p := ⟨wb, i, none⟩) h.ty.lt hw).trans (h.fz i), (h.ty.keep ht hw).set _ _, h.low, r oF, r oM, r oE, ho2⟩
end Go.Proofs.YtpckiobjpikmlaaGreatDoor
namespace Go.Proofs.YtpckiobjpikmlaaGreatDoor
open Go.RowKit Go.Shelf Go.Lib
theorem Tryz.infoEntries : (Tryz.prog.info? 37).map (fun i => (i.zero, i.size, i.bytes)) = some (some (.slice none 0 0), 1, 24) := by kernel_rfl
theorem Tryz.infoEnt6 : (Tryz.prog.info? 86).map (fun i => (i.zero, i.size, i.bytes)) = some (some (.agg #[.string ⟨#[]⟩, .int .i64 0, .int .u32 0, .int .i64 0, .int .i64 0, .int .i64 0]), 6, 56) := by kernel_rfl
theorem step_append_own {P : Program} {ops : Array Oper} {o : Oper} {a : Act} {w : World} {K : Act → World → Prop} {Q : Exit → Act → World → Prop} {E : Prop}
  (hg : o.guard = none) (s x : Operand) (t : TypeId) (hop : o.op = Op.call { callee := Callee.builtin Builtin.append, args := #[s, x], argTypes := #[t, t] })
  (base : Nat) (e : TypeId) (i : TypeInfo) (z : Value) (size bytes : Nat) (h1 : P.underlying t = some (.slice e)) (h2 : P.info? e = some i) (h3 : i.zero = some z) (h4 : i.size = size) (h5 : i.bytes = bytes) (h6 : z.cells.size = size) (h7 : 0 < size)
  (v : Value) (n : Nat) (xs : List Value) (hv : a.eval s = v) (hown : w.ownsRow base e size v n xs) (ad : Addr) (m c : Nat) (news : List Value) (hx : a.eval x = .slice (some ad) m c) (hl : news.length = m * size) (hnews : ∀ j u, news[j]? = some u → w.cell? (ad.add j) = some u) (hone : ∀ u ∈ news, u.oneCell' = true)
  (b1 : n + m ≤ maxLen) (b2 : (n + m) * bytes ≤ 140737488355328) (b3 : base ≤ w.heap.size)
  (hK : ∀ v' w', w'.ownsRow base e size v' (n + m) (xs ++ news) → w.grownBy w' v.ownBlock → K (a.put o.dst v') w') :
  if Region.wanted o (yielded ops a.tmps) = true then Oper.wp P o a w K Q else E := by
 have hw : Region.wanted o (yielded ops a.tmps) = true := by simp [Region.wanted, hg]
 rw [if_pos hw]
 obtain ⟨v', w', hrun, r1, r2, _⟩ := run_append_own (P := P) w base t o.type e i z size bytes h1 h2 h3 h4 h5 h6 h7 v n xs hown ad m c news hl hnews hone b1 b2 b3
 unfold Oper.wp
 simp [execOp, hop, resolve, invoke, builtin, hv, hx, hrun, Result.andThen]
 exact hK v' w' r1 r2
def patE (k : Nat) : List Value := [.string ⟨#[]⟩, .int .i64 0, .int .u32 0, .int .i64 0, .int .i64 0, .int .i64 (-(k : Int))]
def patF (k : Nat) : List Value := [.string (markS k), .string (markS k)]
theorem patE_len (k : Nat) : (patE k).length = 6 := rfl
structure MarkE (w : World) (l : Value) (n k m : Nat) : Prop where
 row : ∀ a cap, l = .slice a n cap → ∀ g, a = some ⟨g, 0, none⟩ → RowG w g 86 (cap * 6) ∧ ∀ j, j < k → ∀ c, c < 6 → w.cell? ⟨g, j * 6 + c, none⟩ = (patE m)[c]?
theorem MarkE.start {w : World} {base n : Nat} {l : Value} {xs : List Value} (h : w.ownsRow base 86 6 l n xs) (m : Nat) : MarkE w l n 0 m := by
 refine ⟨fun a cap hl g ha => ⟨?_, fun j hj => by omega⟩⟩
 obtain ⟨h1, ⟨h2, _⟩ | ⟨g', cap', cur, e, hb, hg, h3, h4, h5, h6⟩⟩ := h
 ·rw [hl] at h2; cases h2; cases ha
 ·rw [hl] at e
  cases e
  cases ha
  exact ⟨cur, hg, h5⟩
theorem MarkE.owns {w w' : World} {base n m : Nat} {l : Value} {xs : List Value} (h : w.ownsRow base 86 6 l n xs) (hM : MarkE w' l n n m) : w'.ownsRow base 86 6 l n (repP n (patE m)) := by
 obtain ⟨h1, ⟨rfl, rfl⟩ | ⟨g, cap, cur, rfl, hb, hg, h3, h4, h5, h6⟩⟩ := h
 ·exact World.ownsRow_nil _ _ _ _
 ·obtain ⟨hr, hc⟩ := hM.row _ cap rfl g rfl
  refine hr.owns hb h3 h4 (by rw [repP_len, patE_len]) (fun j hj => ?_)
  have e := hc (j / 6) (by omega) (j % 6) (by omega)
  have e2 := repP_get (patE m) n (j / 6) (j % 6) (by omega) (by rw [patE_len]; omega)
  rw [patE_len] at e2
  rw [show j / 6 * 6 + j % 6 = j by omega] at e e2
  rw [e, e2]
theorem MarkE.set {w w' : World} {l : Value} {n k m g cap : Nat} (h : MarkE w l n k m) (hl : l = .slice (some ⟨g, 0, none⟩) n cap) (hw : w' = (((((w.setCell ⟨g, k * 6, none⟩ (.string ⟨#[]⟩)).setCell ⟨g, k * 6 + 1, none⟩ (.int .i64 0)).setCell ⟨g, k * 6 + 2, none⟩ (.int .u32 0)).setCell ⟨g, k * 6 + 3, none⟩ (.int .i64 0)).setCell ⟨g, k * 6 + 4, none⟩ (.int .i64 0)).setCell ⟨g, k * 6 + 5, none⟩ (.int .i64 (-(m : Int)))) (hk : k < n) (hc : n ≤ cap) : MarkE w' l n (k + 1) m := by
 refine ⟨fun a cap' hl' g' ha => ?_⟩
 rw [hl] at hl'
 cases hl'
 cases ha
 obtain ⟨hr, hcl⟩ := h.row _ cap hl g rfl
 have hr' : RowG w' g 86 (cap * 6) := by rw [hw]; exact (((((hr.set _ _ _).set _ _ _).set _ _ _).set _ _ _).set _ _ _).set _ _ _
 refine ⟨hr', fun j hj c hc' => ?_⟩
 rw [hw, cell_set_if, cell_set_if, cell_set_if, cell_set_if, cell_set_if, cell_set_if]
 by_cases e : j = k
 ·subst e
  obtain ⟨⟨u, hu⟩, _⟩ := hr.cell (j * 6 + c) (by omega)
  rcases (by omega : c = 0 ∨ c = 1 ∨ c = 2 ∨ c = 3 ∨ c = 4 ∨ c = 5) with rfl | rfl | rfl | rfl | rfl | rfl <;> simp [hu, patE] <;> (simp at hu; simp [hu])
 ·have h1 := hcl j (by omega) c hc'
  have e0 : ¬ k * 6 = j * 6 + c := by omega
  have e1 : ¬ k * 6 + 1 = j * 6 + c := by omega
  have e2 : ¬ k * 6 + 2 = j * 6 + c := by omega
  have e3 : ¬ k * 6 + 3 = j * 6 + c := by omega
  have e4 : ¬ k * 6 + 4 = j * 6 + c := by omega
  have e5 : ¬ k * 6 + 5 = j * 6 + c := by omega
  simp [e0, e1, e2, e3, e4, e5, h1]
end Go.Proofs.YtpckiobjpikmlaaGreatDoor
namespace Go.Proofs.YtpckiobjpikmlaaGreatDoor
open Go.RowKit Go.Shelf Go.Lib
theorem owned_sl {w : World} {base : Nat} {e : TypeId} {size n : Nat} {v : Value} {xs : List Value} (h : w.ownsRow base e size v n xs) : ∃ ao cap, v = .slice ao n cap := by
 rcases h.2 with ⟨e, h0⟩ | ⟨g, cap', cur, e, _⟩
 ·exact ⟨none, 0, by rw [e, h0]⟩
 ·exact ⟨_, _, e⟩
structure KeptAll (w : World) (wb base m : Nat) (FL EL : List (Value × Nat)) : Prop where
 box : ∃ vF vM vE vN, KB w wb base m FL FL EL EL vF vM vE vN
 files : ∀ x ∈ FL, LKept w 83 (patF x.2) x.1
 ents : ∀ x ∈ EL, LKept w 86 (patE x.2) x.1
structure KS (w0 w : World) (wb base m : Nat) (FL EL : List (Value × Nat)) (l : Value) (n base' : Nat) : Prop where
 box : ∃ vF vM vE vN, KB w wb base m FL FL EL EL vF vM vE vN
 chain : Chain w 86 patE 6 EL l n m
 row : w.ownsRow base' 86 6 l n (repP n (patE m))
 files : ∀ x ∈ FL, LKept w 83 (patF x.2) x.1
 touch : Touch (fun q => wb ≤ q) w0 w
 size : base ≤ w.heap.size
theorem KS.mk' {w0 w w5 : World} {wb base m n base' : Nat} {FL EL : List (Value × Nat)} {l vF vM vE vN v5 : Value} (hB : KB w wb base m FL FL (EL ++ [(l, m)]) EL vF vM vE vN) (hE : Chain w 86 patE 6 (EL ++ [(l, m)]) l n m) (ho : w.ownsRow base' 86 6 l n (repP n (patE m))) (hF : ∀ x ∈ FL, LKept w 83 (patF x.2) x.1) (hW : Touch (fun q => wb ≤ q) w0 w) (hb : base ≤ w.heap.size)
  (t5 : Touch (fun q => vN.ownBlock = some q) w w5) (ho5 : w5.ownsRow base 3 1 v5 (EL.length + 1) (EL.map (fun x => Value.int .i64 (-(x.2 : Int))) ++ [.int .i64 (-(m : Int))])) : KS w0 (w5.setCell ⟨wb, 5, none⟩ v5) wb base m FL (EL ++ [(l, m)]) l n base' := by
 have t52 : Touch (fun q => vN.ownBlock = some q ∨ q = wb) w (w5.setCell ⟨wb, 5, none⟩ v5) := (t5.mono (fun _ _ h => .inl h)).setCell (p := ⟨wb, 5, none⟩) (.inr rfl) _
 have hne : ∀ q, (vN.ownBlock = some q ∨ q = wb) → q < w.heap.size → ∃ t, Typed w q t ∧ t ≠ 86 ∧ t ≠ 83 := fun q hq _ => by
  rcases hq with hq | rfl
  ·exact ⟨_, Typed.owned hB.rN hq, by decide, by decide⟩
  ·exact ⟨_, hB.ty, by decide, by decide⟩
 refine ⟨⟨vF, vM, vE, v5, hB.putN (l, m) t5 ho5⟩, hE.keep t52 (fun q h1 h2 h3 => by obtain ⟨t, a1, a2, a3⟩ := hne q h1 h2; exact a2 (a1.ne h3)), t52.owns ho (fun q hq h => by obtain ⟨t, a1, a2, a3⟩ := hne q h ((ho.lt q hq).2); exact a2 (a1.ne (Typed.owned ho hq))), fun x hx => (hF x hx).keep t52 (fun q h1 h2 _ h3 => by obtain ⟨t, a1, a2, a3⟩ := hne q h1 h2; exact a3 (a1.ne h3)), hW.trans (t52.mono (fun q hq h => ?_)), Nat.le_trans hb t52.size⟩
 rcases h with h | rfl
 ·have := (hB.rN.lt q h).1; have := hB.low; omega
 ·exact Nat.le_refl _
theorem keepE_c (w : World) (wb base m base' n : Nat) (FL EL : List (Value × Nat)) (l : Value) (xs : List Value) (hK : KeptAll w wb base m FL EL) (hbase : base ≤ w.heap.size) (ho : w.ownsRow base' 86 6 l n xs) (hb' : wb < base') (hsz' : base' ≤ w.heap.size) (hdis : ∀ x ∈ EL, ∀ q, x.1.ownBlock = some q → l.ownBlock ≠ some q) (hn : n ≤ 1000000) (hm : m ≤ 1073741823) (hel : EL.length ≤ 100000000) :
  Calls Tryz.prog 49 #[.pointer (some ⟨wb, 0, none⟩), l] w fun r w' => r = .returned (.tuple #[]) ∧ ∃ EL', EL'.length = EL.length + 9 ∧ KeptAll w' wb base (m + 1) FL EL' ∧ Touch (fun q => wb ≤ q) w w' := by
 obtain ⟨iE, hiE, hzE0, hzE1, hzE2⟩ := info_parts Tryz.infoEntries
 obtain ⟨i6, hi6, hz60, hz61, hz62⟩ := info_parts Tryz.infoEnt6
 obtain ⟨iI, hiI, hzI0, hzI1, hzI2⟩ := info_parts Tryz.infoInt
 obtain ⟨⟨vF, vM, vE, vN, hB⟩, hF, hE⟩ := hK
 have ec : ((m + 1 : Nat) : Int) = (m : Int) + 1 := by push_cast; rfl
 have HWR : Hid (IntKind.i64.wrap (-((m : Int) + 1)) = -((m : Int) + 1)) := IntWalk.i64_in _ ⟨by omega, by omega⟩
 have hB1 := hB.last (m + 1)
 rw [ec] at hB1
 have c7 := hB.c7
 have f7 := hB.fz 7
 have T1 : Touch (fun q => q = wb) w (w.setCell ⟨wb, 7, none⟩ (.int .i64 ((m : Int) + 1))) := touch_set w wb 7 _
 have hwb := hB.ty.lt
 have hlw : ∀ q, l.ownBlock = some q → q ≠ wb := fun q hq e => by have := (ho.lt q hq).1; omega
 have ho1 := T1.owns ho (fun q hq h => hlw q hq h)
 have hE1 : ∀ x ∈ EL, LKept (w.setCell ⟨wb, 7, none⟩ (.int .i64 ((m : Int) + 1))) 86 (patE x.2) x.1 := fun x hx => (hE x hx).keep T1 (fun q h _ _ hty => by
  subst h; exact absurd (hty.ne hB.ty) (by decide))
 have hF1 : ∀ x ∈ FL, LKept (w.setCell ⟨wb, 7, none⟩ (.int .i64 ((m : Int) + 1))) 83 (patF x.2) x.1 := fun x hx => (hF x hx).keep T1 (fun q h _ _ hty => by
  subst h; exact absurd (hty.ne hB.ty) (by decide))
 have HW0 : Hid (Touch (fun q => wb ≤ q) w (w.setCell ⟨wb, 7, none⟩ (.int .i64 ((m : Int) + 1)))) := T1.mono (fun q _ h => by rw [h]; exact Nat.le_refl _)
 have ho1c := ho1
 obtain ⟨a, cap, hl, hcap⟩ : ∃ a cap, l = .slice a n cap ∧ n ≤ cap := by
  obtain ⟨_, ⟨rfl, rfl⟩ | ⟨g, cap, cur, rfl, _, _, h3, _⟩⟩ := ho1c
  ·exact ⟨none, 0, rfl, Nat.le_refl _⟩
  ·exact ⟨_, cap, rfl, h3⟩
 have HA : Hid (0 < n → ∃ g, a = some ⟨g, 0, none⟩) := fun h0 => by
  obtain ⟨_, ⟨_, e⟩ | ⟨g, cap2, cur, e, _⟩⟩ := ho1c
  ·omega
  ·rw [hl] at e; cases e; exact ⟨g, rfl⟩
 have hM0 := MarkE.start ho1 (m + 1)
 have hb1 : base ≤ (w.setCell ⟨wb, 7, none⟩ (.int .i64 ((m : Int) + 1))).heap.size := by rw [size_setCell]; exact hbase
 have c7' := hB1.c7
 subst hl
 clear ho1c T1 hF hE hB ho
 go_enter Tryz.func49, Tryz.ntmps49
 go_wp2
 obtain ⟨W1, hW1⟩ : ∃ W, W = w.setCell ⟨wb, 7, none⟩ (.int .i64 ((m : Int) + 1)) := ⟨_, rfl⟩
 rw [← hW1] at hB1 ho1 hE1 hF1 HW0 hM0 hb1 c7' ⊢
 clear hW1 c7 f7
 go_loopw [4] (fun i wr => ∃ k : Nat, k ≤ n ∧ i = .int .i64 (k : Int) ∧ MarkE wr (.slice a n cap) n k (m + 1) ∧ Touch (fun q => (Value.slice a n cap).ownBlock = some q) W1 wr) (fun i wr => n - (intOf i).toNat)
 case atStart => exact ⟨0, Nat.zero_le _, rfl, hM0, Touch.refl _ _⟩
 case round =>
  obtain ⟨k, hk, rfl, hM, T2⟩ := hrel
  have hwS : ¬ (Value.slice a n cap).ownBlock = some wb := fun h => hlw wb h rfl
  have d7 := T2.at c7' hwS
  by_cases hlt : k < n
  ·obtain ⟨g, rfl⟩ := HA.out (by omega)
   obtain ⟨hr, _⟩ := hM.row _ cap rfl g rfl
   obtain ⟨⟨u0, e0⟩, f0⟩ := hr.cell (k * 6) (by omega)
   obtain ⟨⟨u1, e1⟩, f1⟩ := hr.cell (k * 6 + 1) (by omega)
   obtain ⟨⟨u2, e2⟩, f2⟩ := hr.cell (k * 6 + 2) (by omega)
   obtain ⟨⟨u3, e3⟩, f3⟩ := hr.cell (k * 6 + 3) (by omega)
   obtain ⟨⟨u4', e4⟩, f4⟩ := hr.cell (k * 6 + 4) (by omega)
   obtain ⟨⟨u5', e5⟩, f5⟩ := hr.cell (k * 6 + 5) (by omega)
   have i1 : (k : Int) < (n : Int) := by omega
   have HMS : Hid (∀ w', w' = (((((wr.setCell ⟨g, k * 6, none⟩ (.string ⟨#[]⟩)).setCell ⟨g, k * 6 + 1, none⟩ (.int .i64 0)).setCell ⟨g, k * 6 + 2, none⟩ (.int .u32 0)).setCell ⟨g, k * 6 + 3, none⟩ (.int .i64 0)).setCell ⟨g, k * 6 + 4, none⟩ (.int .i64 0)).setCell ⟨g, k * 6 + 5, none⟩ (.int .i64 (-((m + 1 : Nat) : Int))) → MarkE w' (.slice (some ⟨g, 0, none⟩) n cap) n (k + 1) (m + 1)) := fun w' hw' => hM.set rfl hw' hlt hcap
   rw [ec] at HMS
   have HTS : Hid (∀ (i : Nat) (v : Value) (X : World), Touch (fun q => (Value.slice (some ⟨g, 0, none⟩) n cap).ownBlock = some q) W1 X → Touch (fun q => (Value.slice (some ⟨g, 0, none⟩) n cap).ownBlock = some q) W1 (X.setCell ⟨g, i, none⟩ v)) := fun i v X h => h.setCell (p := ⟨g, i, none⟩) rfl v
   clear hr hM
   go_wp2
   refine ⟨⟨k + 1, by omega, by go_num, HMS.out _ rfl, ?_⟩, by simp [intOf]; omega⟩
   exact HTS.out _ _ _ (HTS.out _ _ _ (HTS.out _ _ _ (HTS.out _ _ _ (HTS.out _ _ _ (HTS.out _ _ _ T2)))))
  ·obtain rfl : n = k := by omega
   have ho2 := MarkE.owns ho1 hM
   have htE : ∀ q, (Value.slice a n cap).ownBlock = some q → Typed W1 q 86 := fun q hq => Typed.owned ho1 hq
   have hB2 := hB1.keep T2 (fun q hq _ => ⟨_, htE q hq, by decide, by decide, by decide, by decide, by decide⟩)
   have hE2 : Chain wr 86 patE 6 EL (.slice a n cap) n (m + 1) := ⟨patE_len, fun x hx => (hE1 x hx).keep T2 (fun q h1 _ h2 => absurd h1 (hdis x hx q h2)), fun x hx q h1 h2 => absurd h2 (hdis x hx q h1)⟩
   have hF2 : ∀ x ∈ FL, LKept wr 83 (patF x.2) x.1 := fun x hx => (hF1 x hx).keep T2 (fun q h1 _ _ hty => absurd (hty.ne (htE q h1)) (by decide))
   have HW2 : Hid (Touch (fun q => wb ≤ q) w wr) := HW0.out.trans (T2.mono (fun q _ h => by have := (ho1.lt q h).1; omega))
   have hb2 : base ≤ wr.heap.size := Nat.le_trans hb1 T2.size
   clear hM T2 hB1 ho1 hE1 hF1 HW0 hb1 htE c7' d7 HA hM0
   have hB := hB2
   have hE := hE2
   have ho := ho2
   have hF := hF2
   have HW := HW2
   have hb := hb2
   clear hB2 hE2 ho2 hF2 HW2 hb2
   have b1 : EL.length + 1 ≤ maxLen := by unfold maxLen; omega
   have b2 : (EL.length + 1) * 24 ≤ 140737488355328 := by omega
   have b3 : (EL.length + 1) * 8 ≤ 140737488355328 := by omega
   have c2 := hB.c2
   have hwE : ¬ vE.ownBlock = some wb := fun hq => absurd ((Typed.owned hB.rE hq).ne hB.ty) (by decide)
   have HZ2 : Hid (∀ w3, Touch (fun q => vE.ownBlock = some q) wr w3 → w3.cell? ⟨wb, 2, none⟩ = some vE ∧ w3.frozen? ⟨wb, 2, none⟩ = false) := fun w3 t => ⟨t.at hB.c2 hwE, (t.frozen (p := ⟨wb, 2, none⟩) hB.ty.lt hwE).trans (hB.fz 2)⟩
   have HRE : Hid (∀ o, (wr.alloc o).ownsRow base 37 1 vE EL.length (EL.map (·.1))) := fun o => hB.rE.alloc o
   go_upto_region 6 with (at_builtin; refine wpList_append_own _ rfl _ _ 28 rfl base 37 iE (.slice none 0 0) 1 24 Tryz.underlying28 hiE hzE0 hzE1 hzE2 rfl (by decide) vE EL.length (EL.map (·.1)) rfl (HRE.out _) ⟨_, 0, none⟩ 1 1 [.slice a n cap] rfl rfl (cell_one_new _ _ _) (by simp [Value.oneCell']) b1 b2 (by simp; omega) ?_; intro v3 w3 ho3 hg3 _; obtain ⟨ao3, cap3, rfl⟩ := owned_sl ho3; have t3 : Touch (fun q => vE.ownBlock = some q) wr w3 := ((Touch.refl (fun q => vE.ownBlock = some q) wr).alloc _).grown hg3 (fun q hq => hq); obtain ⟨z2, z3⟩ := HZ2.out w3 t3)
   have hB3 := hB.putE ((.slice a n cap : Value), m + 1) t3 ho3
   have t32 : Touch (fun q => vE.ownBlock = some q ∨ q = wb) wr (w3.setCell ⟨wb, 2, none⟩ (.slice ao3 (EL.length + 1) cap3)) := (t3.mono (fun _ _ h => .inl h)).setCell (p := ⟨wb, 2, none⟩) (.inr rfl) _
   have hne : ∀ q, (vE.ownBlock = some q ∨ q = wb) → q < wr.heap.size → ∃ t, Typed wr q t ∧ t ≠ 86 ∧ t ≠ 83 := fun q hq _ => by
    rcases hq with hq | rfl
    ·exact ⟨_, Typed.owned hB.rE hq, by decide, by decide⟩
    ·exact ⟨_, hB.ty, by decide, by decide⟩
   have hE3 := (hE.push ho (by omega)).keep t32 (fun q h1 h2 h3 => by obtain ⟨t, a1, a2, a3⟩ := hne q h1 h2; exact a2 (a1.ne h3))
   have ho4 := t32.owns ho (fun q hq h => by obtain ⟨t, a1, a2, a3⟩ := hne q h ((ho.lt q hq).2); exact a2 (a1.ne (Typed.owned ho hq)))
   have hF3 : ∀ x ∈ FL, LKept (w3.setCell ⟨wb, 2, none⟩ (.slice ao3 (EL.length + 1) cap3)) 83 (patF x.2) x.1 := fun x hx => (hF x hx).keep t32 (fun q h1 h2 _ h3 => by obtain ⟨t, a1, a2, a3⟩ := hne q h1 h2; exact a3 (a1.ne h3))
   have HW3 : Hid (Touch (fun q => wb ≤ q) w (w3.setCell ⟨wb, 2, none⟩ (.slice ao3 (EL.length + 1) cap3))) := HW.out.trans (t32.mono (fun q hq h => by
    rcases h with h | rfl
    ·have := (hB.rE.lt q h).1; have := hB.low; omega
    ·exact Nat.le_refl _))
   have hb3 : base ≤ (w3.setCell ⟨wb, 2, none⟩ (.slice ao3 (EL.length + 1) cap3)).heap.size := Nat.le_trans hb t32.size
   clear hB hE hF HW ho t32 hne t3 ho3 hg3 z2 z3 HZ2 HRE c2 hwE hb b2
   obtain ⟨W3, hW3⟩ : ∃ W, W = w3.setCell ⟨wb, 2, none⟩ (.slice ao3 (EL.length + 1) cap3) := ⟨_, rfl⟩
   rw [← hW3] at hB3 hE3 ho4 hF3 HW3 hb3 ⊢
   clear hW3
   go_cut [] from 39 to 52 (fun wc => KS w wc wb base (m + 1) FL (EL ++ [((.slice a n cap : Value), m + 1)]) (.slice a n cap) n base')
   case first =>
    have d5 := hB3.c5
    have d7 := hB3.c7
    have g5 := hB3.fz 5
    have hwN : ¬ vN.ownBlock = some wb := fun hq => absurd ((Typed.owned hB3.rN hq).ne hB3.ty) (by decide)
    have HZ5 : Hid (∀ w5, Touch (fun q => vN.ownBlock = some q) W3 w5 → w5.cell? ⟨wb, 5, none⟩ = some vN ∧ w5.frozen? ⟨wb, 5, none⟩ = false ∧ w5.cell? ⟨wb, 7, none⟩ = some (.int .i64 ((m : Int) + 1))) := fun w5 t => ⟨t.at hB3.c5 hwN, (t.frozen (p := ⟨wb, 5, none⟩) hB3.ty.lt hwN).trans (hB3.fz 5), by rw [← ec]; exact t.at hB3.c7 hwN⟩
    have HRN : Hid (∀ o, (W3.alloc o).drew.ownsRow base 3 1 vN EL.length (EL.map (fun x => Value.int .i64 (-(x.2 : Int))))) := fun o => hB3.rN.alloc o
    rw [ec] at d7
    have hwl := hB3.ty.lt
    have HAL : Hid (∀ o, (W3.alloc o).cell? ⟨wb, 7, none⟩ = some (.int .i64 ((m : Int) + 1))) := fun o => ((Touch.refl (fun _ => False) W3).alloc o).at d7 (fun e => e)
    have HAF : Hid (∀ o, (W3.alloc o).frozen? ⟨wb, 5, none⟩ = false) := fun o => (((Touch.refl (fun _ => False) W3).alloc o).frozen (p := ⟨wb, 5, none⟩) hwl (fun e => e)).trans g5
    have hwr := HWR.out
    have HFIN : Hid (∀ (w5 : World) (v5 : Value), Touch (fun q => vN.ownBlock = some q) W3 w5 → w5.ownsRow base 3 1 v5 (EL.length + 1) (EL.map (fun x => Value.int .i64 (-(x.2 : Int))) ++ [.int .i64 (-((m : Int) + 1))]) → KS w (w5.setCell ⟨wb, 5, none⟩ v5) wb base (m + 1) FL (EL ++ [((.slice a n cap : Value), m + 1)]) (.slice a n cap) n base') := fun w5 v5 t5 ho5 => KS.mk' hB3 hE3 ho4 hF3 HW3.out hb3 t5 (by rw [← ec] at ho5; exact ho5)
    clear hB3 hE3 ho4 hF3 HW3
    go_region_law (first | (refine step_append_own rfl (.tmp 43) (.tmp 49) 31 rfl base 3 iI (.int .i64 0) 1 8 Tryz.underlying31 hiI hzI0 hzI1 hzI2 rfl (by decide) vN EL.length (EL.map (fun x => Value.int .i64 (-(x.2 : Int)))) (by simp [Act.eval, Act.put]) (HRN.out _) ⟨W3.heap.size, 0, none⟩ 1 1 [.int .i64 (-((m : Int) + 1))] (by simp [Act.eval, Act.put]) rfl (cell_one_new W3 _ _) (by simp [Value.oneCell']) b1 b3 (by simp; omega) ?_; intro v5 w5 ho5 hg5; obtain ⟨ao5, cap5, rfl⟩ := owned_sl ho5; have t5 : Touch (fun q => vN.ownBlock = some q) W3 w5 := (((Touch.refl (fun q => vN.ownBlock = some q) W3).alloc _).drew).grown hg5 (fun q hq => hq); obtain ⟨y5, yf, y7⟩ := HZ5.out w5 t5))
    all_goals
     go_wp2
     go_meet
     case rel => exact HFIN.out w5 _ t5 ho5
   case rest =>
    clear hB3 hE3 ho4 hF3 HW3 hb3 b1 b3
    go_wp2
    go_loopw [1, 5] (fun lv i wr => ∃ (i' : Nat) (EL' : List (Value × Nat)) (n' : Nat), i' ≤ 8 ∧ i = .int .i64 (i' : Int) ∧ Hid (EL'.length = EL.length + 1 + i') ∧ Hid (n' = n + i') ∧ KS w wr wb base (m + 1) FL EL' lv n' base') (fun lv i wr => 8 - (intOf i).toNat)
    case atStart => exact ⟨0, _, n, by omega, rfl, by unfold Hid; simp, by unfold Hid; omega, hcut⟩
    case round =>
     clear hcut
     obtain ⟨i, EL2, n2, hi2, rfl, HL2, HN2, hS⟩ := hrel
     have hl2 : EL2.length ≤ 100000009 := by have := HL2.out; omega
     have hn2 : n2 ≤ 1000008 := by have := HN2.out; omega
     obtain ⟨⟨vF, vM, vE, vN, hB⟩, hE, ho, hF, HW, hb⟩ := hS
     have HW : Hid (Touch (fun q => wb ≤ q) w wr) := HW
     by_cases hlt : i < 8
     ·have i1 : (i : Int) < 8 := by omega
      have c7 := hB.c7
      rw [ec] at c7
      have hwr := HWR.out
      have k1 : n2 + 1 ≤ maxLen := by unfold maxLen; omega
      have k2 : (n2 + 1) * 56 ≤ 140737488355328 := by omega
      have kb : base' ≤ wr.heap.size := Nat.le_trans hsz' HW.out.size
      have HRL : Hid (∀ o, (wr.alloc o).ownsRow base' 86 6 u1 n2 (repP n2 (patE (m + 1)))) := fun o => ho.alloc o
      have hwl := hB.ty.lt
      go_upto_region 11 with (at_builtin; refine wpList_append_both rfl _ _ 37 rfl base' 86 i6 (.agg #[.string ⟨#[]⟩, .int .i64 0, .int .u32 0, .int .i64 0, .int .i64 0, .int .i64 0]) 6 56 Tryz.underlying37 hi6 hz60 hz61 hz62 rfl (by decide) u1 n2 (repP n2 (patE (m + 1))) rfl (HRL.out _) ⟨wr.heap.size, 0, none⟩ 1 1 [.string ⟨#[]⟩, .int .i64 0, .int .u32 0, .int .i64 0, .int .i64 0, .int .i64 (-((m : Int) + 1))] rfl rfl (cell_list_new wr [.string ⟨#[]⟩, .int .i64 0, .int .u32 0, .int .i64 0, .int .i64 0, .int .i64 (-((m : Int) + 1))] 86) (by simp [Value.oneCell']) (by decide) k1 k2 (by simp; omega) ?_; intro g2 cap2 w2 ho2 hg2)
      have tA : Touch (fun _ => False) wr (wr.alloc (Obj.cells #[.string ⟨#[]⟩, .int .i64 0, .int .u32 0, .int .i64 0, .int .i64 0, .int .i64 (-((m : Int) + 1))] 86)) := (Touch.refl (fun _ => False) wr).alloc _
      have ho2' : w2.ownsRow base' 86 6 (.slice (some ⟨g2, 0, none⟩) (n2 + 1) cap2) (n2 + 1) (repP (n2 + 1) (patE (m + 1))) := by
       rw [repP_succ]
       have e : patE (m + 1) = [.string ⟨#[]⟩, .int .i64 0, .int .u32 0, .int .i64 0, .int .i64 0, .int .i64 (-((m : Int) + 1))] := by unfold patE; rw [ec]
       rw [e] at ho2 ⊢; exact ho2
      have hE2 := hE.append ho tA ho2' hg2 (by omega)
      have t2 : Touch (fun q => u1.ownBlock = some q) wr w2 := by
       rcases hg2 with ⟨e, h⟩ | ⟨e, h⟩
       ·exact (tA.mono (fun _ _ h => h.elim)).grown h (fun q hq => by cases hq; exact e)
       ·exact (tA.mono (fun _ _ h => h.elim)).grown h (fun q hq => by cases hq)
      have hB2 := hB.keep t2 (fun q hq _ => ⟨_, Typed.owned ho hq, by decide, by decide, by decide, by decide, by decide⟩)
      have hF2 : ∀ x ∈ FL, LKept w2 83 (patF x.2) x.1 := fun x hx => (hF x hx).keep t2 (fun q h1 _ _ hty => absurd (hty.ne (Typed.owned ho h1)) (by decide))
      have HW2 : Hid (Touch (fun q => wb ≤ q) w w2) := HW.out.trans (t2.mono (fun q _ h => by have := (ho.lt q h).1; omega))
      have hb2 : base ≤ w2.heap.size := Nat.le_trans hb t2.size
      clear hB hE ho hF HW hb hg2 t2 tA ho2 HRL c7 kb k1 k2 hwl hwr
      have hB := hB2
      have hE := hE2
      have ho := ho2'
      have hF := hF2
      have HW := HW2
      have hb := hb2
      clear hB2 hE2 ho2' hF2 HW2 hb2
      have b1 : EL2.length + 1 ≤ maxLen := by unfold maxLen; omega
      have b2 : (EL2.length + 1) * 24 ≤ 140737488355328 := by omega
      have b3 : (EL2.length + 1) * 8 ≤ 140737488355328 := by omega
      have c2 := hB.c2
      have hwE : ¬ vE.ownBlock = some wb := fun hq => absurd ((Typed.owned hB.rE hq).ne hB.ty) (by decide)
      have HZ2 : Hid (∀ w3, Touch (fun q => vE.ownBlock = some q) w2 w3 → w3.cell? ⟨wb, 2, none⟩ = some vE ∧ w3.frozen? ⟨wb, 2, none⟩ = false) := fun w3 t => ⟨t.at hB.c2 hwE, (t.frozen (p := ⟨wb, 2, none⟩) hB.ty.lt hwE).trans (hB.fz 2)⟩
      have HRE : Hid (∀ o, (w2.alloc o).ownsRow base 37 1 vE EL2.length (EL2.map (·.1))) := fun o => hB.rE.alloc o
      go_upto_region 12 with (at_builtin; refine wpList_append_own _ rfl _ _ 28 rfl base 37 iE (.slice none 0 0) 1 24 Tryz.underlying28 hiE hzE0 hzE1 hzE2 rfl (by decide) vE EL2.length (EL2.map (·.1)) rfl (HRE.out _) ⟨_, 0, none⟩ 1 1 [.slice (some ⟨g2, 0, none⟩) (n2 + 1) cap2] rfl rfl (cell_one_new _ _ _) (by simp [Value.oneCell']) b1 b2 (by simp; omega) ?_; intro v3 w3 ho3 hg3 _; obtain ⟨ao3, cap3, rfl⟩ := owned_sl ho3; have t3 : Touch (fun q => vE.ownBlock = some q) w2 w3 := ((Touch.refl (fun q => vE.ownBlock = some q) w2).alloc _).grown hg3 (fun q hq => hq); obtain ⟨z2, z3⟩ := HZ2.out w3 t3)
      have hB3 := hB.putE ((.slice (some ⟨g2, 0, none⟩) (n2 + 1) cap2 : Value), m + 1) t3 ho3
      have t32 : Touch (fun q => vE.ownBlock = some q ∨ q = wb) w2 (w3.setCell ⟨wb, 2, none⟩ (.slice ao3 (EL2.length + 1) cap3)) := (t3.mono (fun _ _ h => .inl h)).setCell (p := ⟨wb, 2, none⟩) (.inr rfl) _
      have hne : ∀ q, (vE.ownBlock = some q ∨ q = wb) → q < w2.heap.size → ∃ t, Typed w2 q t ∧ t ≠ 86 ∧ t ≠ 83 := fun q hq _ => by
       rcases hq with hq | rfl
       ·exact ⟨_, Typed.owned hB.rE hq, by decide, by decide⟩
       ·exact ⟨_, hB.ty, by decide, by decide⟩
      have hE3 := (hE.push ho (by omega)).keep t32 (fun q h1 h2 h3 => by obtain ⟨t, a1, a2, a3⟩ := hne q h1 h2; exact a2 (a1.ne h3))
      have ho4 := t32.owns ho (fun q hq h => by obtain ⟨t, a1, a2, a3⟩ := hne q h ((ho.lt q hq).2); exact a2 (a1.ne (Typed.owned ho hq)))
      have hF3 : ∀ x ∈ FL, LKept (w3.setCell ⟨wb, 2, none⟩ (.slice ao3 (EL2.length + 1) cap3)) 83 (patF x.2) x.1 := fun x hx => (hF x hx).keep t32 (fun q h1 h2 _ h3 => by obtain ⟨t, a1, a2, a3⟩ := hne q h1 h2; exact a3 (a1.ne h3))
      have HW3 : Hid (Touch (fun q => wb ≤ q) w (w3.setCell ⟨wb, 2, none⟩ (.slice ao3 (EL2.length + 1) cap3))) := HW.out.trans (t32.mono (fun q hq h => by
       rcases h with h | rfl
       ·have := (hB.rE.lt q h).1; have := hB.low; omega
       ·exact Nat.le_refl _))
      have hb3 : base ≤ (w3.setCell ⟨wb, 2, none⟩ (.slice ao3 (EL2.length + 1) cap3)).heap.size := Nat.le_trans hb t32.size
      clear hB hE hF HW ho t32 hne t3 ho3 hg3 z2 z3 HZ2 HRE c2 hwE hb b2
      obtain ⟨W3, hW3⟩ : ∃ W, W = w3.setCell ⟨wb, 2, none⟩ (.slice ao3 (EL2.length + 1) cap3) := ⟨_, rfl⟩
      rw [← hW3] at hB3 hE3 ho4 hF3 HW3 hb3 ⊢
      clear hW3
      go_cut [] from 76 to 89 (fun wc => KS w wc wb base (m + 1) FL (EL2 ++ [((.slice (some ⟨g2, 0, none⟩) (n2 + 1) cap2 : Value), m + 1)]) (.slice (some ⟨g2, 0, none⟩) (n2 + 1) cap2) (n2 + 1) base')
      case first =>
       have d5 := hB3.c5
       have d7 := hB3.c7
       have g5 := hB3.fz 5
       have hwN : ¬ vN.ownBlock = some wb := fun hq => absurd ((Typed.owned hB3.rN hq).ne hB3.ty) (by decide)
       have HZ5 : Hid (∀ w5, Touch (fun q => vN.ownBlock = some q) W3 w5 → w5.cell? ⟨wb, 5, none⟩ = some vN ∧ w5.frozen? ⟨wb, 5, none⟩ = false ∧ w5.cell? ⟨wb, 7, none⟩ = some (.int .i64 ((m : Int) + 1))) := fun w5 t => ⟨t.at hB3.c5 hwN, (t.frozen (p := ⟨wb, 5, none⟩) hB3.ty.lt hwN).trans (hB3.fz 5), by rw [← ec]; exact t.at hB3.c7 hwN⟩
       have HRN : Hid (∀ o, (W3.alloc o).drew.ownsRow base 3 1 vN EL2.length (EL2.map (fun x => Value.int .i64 (-(x.2 : Int))))) := fun o => hB3.rN.alloc o
       rw [ec] at d7
       have hwl := hB3.ty.lt
       have HAL : Hid (∀ o, (W3.alloc o).cell? ⟨wb, 7, none⟩ = some (.int .i64 ((m : Int) + 1))) := fun o => ((Touch.refl (fun _ => False) W3).alloc o).at d7 (fun e => e)
       have HAF : Hid (∀ o, (W3.alloc o).frozen? ⟨wb, 5, none⟩ = false) := fun o => (((Touch.refl (fun _ => False) W3).alloc o).frozen (p := ⟨wb, 5, none⟩) hwl (fun e => e)).trans g5
       have hwr := HWR.out
       have HFIN : Hid (∀ (w5 : World) (v5 : Value), Touch (fun q => vN.ownBlock = some q) W3 w5 → w5.ownsRow base 3 1 v5 (EL2.length + 1) (EL2.map (fun x => Value.int .i64 (-(x.2 : Int))) ++ [.int .i64 (-((m : Int) + 1))]) → KS w (w5.setCell ⟨wb, 5, none⟩ v5) wb base (m + 1) FL (EL2 ++ [((.slice (some ⟨g2, 0, none⟩) (n2 + 1) cap2 : Value), m + 1)]) (.slice (some ⟨g2, 0, none⟩) (n2 + 1) cap2) (n2 + 1) base') := fun w5 v5 t5 ho5 => KS.mk' hB3 hE3 ho4 hF3 HW3.out hb3 t5 (by rw [← ec] at ho5; exact ho5)
       clear hB3 hE3 ho4 hF3 HW3
       go_region_law (first | (refine step_append_own rfl (.tmp 80) (.tmp 86) 31 rfl base 3 iI (.int .i64 0) 1 8 Tryz.underlying31 hiI hzI0 hzI1 hzI2 rfl (by decide) vN EL2.length (EL2.map (fun x => Value.int .i64 (-(x.2 : Int)))) (by simp [Act.eval, Act.put]) (HRN.out _) ⟨W3.heap.size, 0, none⟩ 1 1 [.int .i64 (-((m : Int) + 1))] (by simp [Act.eval, Act.put]) rfl (cell_one_new W3 _ _) (by simp [Value.oneCell']) b1 b3 (by simp; omega) ?_; intro v5 w5 ho5 hg5; obtain ⟨ao5, cap5, rfl⟩ := owned_sl ho5; have t5 : Touch (fun q => vN.ownBlock = some q) W3 w5 := (((Touch.refl (fun q => vN.ownBlock = some q) W3).alloc _).drew).grown hg5 (fun q hq => hq); obtain ⟨y5, yf, y7⟩ := HZ5.out w5 t5))
       all_goals
        go_wp2
        go_meet
        case rel => exact HFIN.out w5 _ t5 ho5
      case rest =>
       clear hB3 hE3 ho4 hF3 HW3 hb3 b1 b3
       go_wp2
       exact ⟨⟨i + 1, _, _, by omega, by go_num, by have := HL2.out; unfold Hid; simp; omega, by have := HN2.out; unfold Hid; omega, hcut⟩, by simp [intOf]; omega⟩
     ·obtain rfl : 8 = i := by omega
      have FIN : Hid (∃ EL', EL'.length = EL.length + 9 ∧ KeptAll wr wb base (m + 1) FL EL' ∧ Touch (fun q => wb ≤ q) w wr) := ⟨EL2, by have := HL2.out; omega, ⟨⟨vF, vM, vE, vN, hB⟩, hF, hE.kept⟩, HW.out⟩
      clear hB hE ho hF HW hb
      go_wp2
      go_end0
      exact ⟨rfl, FIN.out⟩
end Go.Proofs.YtpckiobjpikmlaaGreatDoor
namespace Go.Proofs.YtpckiobjpikmlaaGreatDoor
open Go.RowKit Go.Shelf Go.Lib
theorem Tryz.infoFiles2 : (Tryz.prog.info? 81).map (fun i => (i.zero, i.size, i.bytes)) = some (some (.slice none 0 0), 1, 24) := by kernel_rfl
theorem Tryz.infoFile2 : (Tryz.prog.info? 83).map (fun i => (i.zero, i.size, i.bytes)) = some (some (.agg #[.string ⟨#[]⟩, .string ⟨#[]⟩]), 2, 32) := by kernel_rfl
theorem Tryz.infoStr2 : (Tryz.prog.info? 9).map (fun i => (i.zero, i.size, i.bytes)) = some (some (.string ⟨#[]⟩), 1, 16) := by kernel_rfl
theorem patF_len (k : Nat) : (patF k).length = 2 := rfl
structure MarkF (w : World) (l : Value) (n k m : Nat) : Prop where
 row : ∀ a cap, l = .slice a n cap → ∀ g, a = some ⟨g, 0, none⟩ → RowG w g 83 (cap * 2) ∧ ∀ j, j < k → ∀ c, c < 2 → w.cell? ⟨g, j * 2 + c, none⟩ = (patF m)[c]?
theorem MarkF.start {w : World} {base n : Nat} {l : Value} {xs : List Value} (h : w.ownsRow base 83 2 l n xs) (m : Nat) : MarkF w l n 0 m := by
 refine ⟨fun a cap hl g ha => ⟨?_, fun j hj => by omega⟩⟩
 obtain ⟨h1, ⟨h2, _⟩ | ⟨g', cap', cur, e, hb, hg, h3, h4, h5, h6⟩⟩ := h
 ·rw [hl] at h2; cases h2; cases ha
 ·rw [hl] at e
  cases e
  cases ha
  exact ⟨cur, hg, h5⟩
theorem MarkF.owns {w w' : World} {base n m : Nat} {l : Value} {xs : List Value} (h : w.ownsRow base 83 2 l n xs) (hM : MarkF w' l n n m) : w'.ownsRow base 83 2 l n (repP n (patF m)) := by
 obtain ⟨h1, ⟨rfl, rfl⟩ | ⟨g, cap, cur, rfl, hb, hg, h3, h4, h5, h6⟩⟩ := h
 ·exact World.ownsRow_nil _ _ _ _
 ·obtain ⟨hr, hc⟩ := hM.row _ cap rfl g rfl
  refine hr.owns hb h3 h4 (by rw [repP_len, patF_len]) (fun j hj => ?_)
  have e := hc (j / 2) (by omega) (j % 2) (by omega)
  have e2 := repP_get (patF m) n (j / 2) (j % 2) (by omega) (by rw [patF_len]; omega)
  rw [patF_len] at e2
  rw [show j / 2 * 2 + j % 2 = j by omega] at e e2
  rw [e, e2]
theorem MarkF.set {w w' : World} {l : Value} {n k m g cap : Nat} (h : MarkF w l n k m) (hl : l = .slice (some ⟨g, 0, none⟩) n cap) (hw : w' = (w.setCell ⟨g, k * 2, none⟩ (.string (markS m))).setCell ⟨g, k * 2 + 1, none⟩ (.string (markS m))) (hk : k < n) (hc : n ≤ cap) : MarkF w' l n (k + 1) m := by
 refine ⟨fun a cap' hl' g' ha => ?_⟩
 rw [hl] at hl'
 cases hl'
 cases ha
 obtain ⟨hr, hcl⟩ := h.row _ cap hl g rfl
 have hr' : RowG w' g 83 (cap * 2) := by rw [hw]; exact (hr.set _ _ _).set _ _ _
 refine ⟨hr', fun j hj c hc' => ?_⟩
 rw [hw, cell_set_if, cell_set_if]
 by_cases e : j = k
 ·subst e
  obtain ⟨⟨u, hu⟩, _⟩ := hr.cell (j * 2 + c) (by omega)
  rcases (by omega : c = 0 ∨ c = 1) with rfl | rfl <;> simp [hu, patF] <;> (simp at hu; simp [hu])
 ·have h1 := hcl j (by omega) c hc'
  have e0 : ¬ k * 2 = j * 2 + c := by omega
  have e1 : ¬ k * 2 + 1 = j * 2 + c := by omega
  simp [e0, e1, h1]
structure KSF (w0 w : World) (wb base m : Nat) (FL EL : List (Value × Nat)) (l : Value) (n base' : Nat) : Prop where
 box : ∃ vF vM vE vN, KB w wb base m FL FL EL EL vF vM vE vN
 chain : Chain w 83 patF 2 FL l n m
 row : w.ownsRow base' 83 2 l n (repP n (patF m))
 ents : ∀ x ∈ EL, LKept w 86 (patE x.2) x.1
 touch : Touch (fun q => wb ≤ q) w0 w
 size : base ≤ w.heap.size
theorem KSF.mk' {w0 w w5 : World} {wb base m n base' : Nat} {FL EL : List (Value × Nat)} {l vF vM vE vN v5 : Value} (hB : KB w wb base m (FL ++ [(l, m)]) FL EL EL vF vM vE vN) (hF : Chain w 83 patF 2 (FL ++ [(l, m)]) l n m) (ho : w.ownsRow base' 83 2 l n (repP n (patF m))) (hE : ∀ x ∈ EL, LKept w 86 (patE x.2) x.1) (hW : Touch (fun q => wb ≤ q) w0 w) (hb : base ≤ w.heap.size)
  (t5 : Touch (fun q => vM.ownBlock = some q) w w5) (ho5 : w5.ownsRow base 9 1 v5 (FL.length + 1) (FL.map (fun x => Value.string (markS x.2)) ++ [.string (markS m)])) : KSF w0 (w5.setCell ⟨wb, 4, none⟩ v5) wb base m (FL ++ [(l, m)]) EL l n base' := by
 have t52 : Touch (fun q => vM.ownBlock = some q ∨ q = wb) w (w5.setCell ⟨wb, 4, none⟩ v5) := (t5.mono (fun _ _ h => .inl h)).setCell (p := ⟨wb, 4, none⟩) (.inr rfl) _
 have hne : ∀ q, (vM.ownBlock = some q ∨ q = wb) → q < w.heap.size → ∃ t, Typed w q t ∧ t ≠ 86 ∧ t ≠ 83 := fun q hq _ => by
  rcases hq with hq | rfl
  ·exact ⟨_, Typed.owned hB.rM hq, by decide, by decide⟩
  ·exact ⟨_, hB.ty, by decide, by decide⟩
 refine ⟨⟨vF, v5, vE, vN, hB.putM (l, m) t5 ho5⟩, hF.keep t52 (fun q h1 h2 h3 => by obtain ⟨t, a1, a2, a3⟩ := hne q h1 h2; exact a3 (a1.ne h3)), t52.owns ho (fun q hq h => by obtain ⟨t, a1, a2, a3⟩ := hne q h ((ho.lt q hq).2); exact a3 (a1.ne (Typed.owned ho hq))), fun x hx => (hE x hx).keep t52 (fun q h1 h2 _ h3 => by obtain ⟨t, a1, a2, a3⟩ := hne q h1 h2; exact a2 (a1.ne h3)), hW.trans (t52.mono (fun q hq h => ?_)), Nat.le_trans hb t52.size⟩
 rcases h with h | rfl
 ·have := (hB.rM.lt q h).1; have := hB.low; omega
 ·exact Nat.le_refl _
theorem keepF_c (w : World) (wb base m base' n : Nat) (FL EL : List (Value × Nat)) (l : Value) (xs : List Value) (hK : KeptAll w wb base m FL EL) (hbase : base ≤ w.heap.size) (ho : w.ownsRow base' 83 2 l n xs) (hb' : wb < base') (hsz' : base' ≤ w.heap.size) (hdis : ∀ x ∈ FL, ∀ q, x.1.ownBlock = some q → l.ownBlock ≠ some q) (hn : n ≤ 10000000) (hm : m ≤ 1073741823) (hfl : FL.length ≤ 100000000) :
  Calls Tryz.prog 53 #[.pointer (some ⟨wb, 0, none⟩), l] w fun r w' => r = .returned (.tuple #[]) ∧ ∃ FL', FL'.length = FL.length + 9 ∧ KeptAll w' wb base (m + 1) FL' EL ∧ Touch (fun q => wb ≤ q) w w' := by
 obtain ⟨iE, hiE, hzE0, hzE1, hzE2⟩ := info_parts Tryz.infoFiles2
 obtain ⟨i6, hi6, hz60, hz61, hz62⟩ := info_parts Tryz.infoFile2
 obtain ⟨iI, hiI, hzI0, hzI1, hzI2⟩ := info_parts Tryz.infoStr2
 obtain ⟨⟨vF, vM, vE, vN, hB⟩, hF, hE⟩ := hK
 have ec : ((m + 1 : Nat) : Int) = (m : Int) + 1 := by push_cast; rfl
 have hB1 := hB.last (m + 1)
 rw [ec] at hB1
 have HMK : Hid (Calls Tryz.prog 100 #[.pointer (some ⟨wb, 0, none⟩)] w fun r w' => r = .returned (.string (markS (m + 1))) ∧ w' = w.setCell ⟨wb, 7, none⟩ (.int .i64 ((m : Int) + 1))) := mark_c w wb m hB.c7 (hB.fz 7) (by omega)
 have T1 : Touch (fun q => q = wb) w (w.setCell ⟨wb, 7, none⟩ (.int .i64 ((m : Int) + 1))) := touch_set w wb 7 _
 have hlw : ∀ q, l.ownBlock = some q → q ≠ wb := fun q hq e => by have := (ho.lt q hq).1; omega
 have ho1 := T1.owns ho (fun q hq h => hlw q hq h)
 have hE1 : ∀ x ∈ EL, LKept (w.setCell ⟨wb, 7, none⟩ (.int .i64 ((m : Int) + 1))) 86 (patE x.2) x.1 := fun x hx => (hE x hx).keep T1 (fun q h _ _ hty => by
  subst h; exact absurd (hty.ne hB.ty) (by decide))
 have hF1 : ∀ x ∈ FL, LKept (w.setCell ⟨wb, 7, none⟩ (.int .i64 ((m : Int) + 1))) 83 (patF x.2) x.1 := fun x hx => (hF x hx).keep T1 (fun q h _ _ hty => by
  subst h; exact absurd (hty.ne hB.ty) (by decide))
 have HW0 : Hid (Touch (fun q => wb ≤ q) w (w.setCell ⟨wb, 7, none⟩ (.int .i64 ((m : Int) + 1)))) := T1.mono (fun q _ h => by rw [h]; exact Nat.le_refl _)
 have ho1c := ho1
 obtain ⟨a, cap, hl, hcap⟩ : ∃ a cap, l = .slice a n cap ∧ n ≤ cap := by
  obtain ⟨_, ⟨rfl, rfl⟩ | ⟨g, cap, cur, rfl, _, _, h3, _⟩⟩ := ho1c
  ·exact ⟨none, 0, rfl, Nat.le_refl _⟩
  ·exact ⟨_, cap, rfl, h3⟩
 have HA : Hid (0 < n → ∃ g, a = some ⟨g, 0, none⟩) := fun h0 => by
  obtain ⟨_, ⟨_, e⟩ | ⟨g, cap2, cur, e, _⟩⟩ := ho1c
  ·omega
  ·rw [hl] at e; cases e; exact ⟨g, rfl⟩
 have hM0 := MarkF.start ho1 (m + 1)
 have hb1 : base ≤ (w.setCell ⟨wb, 7, none⟩ (.int .i64 ((m : Int) + 1))).heap.size := by rw [size_setCell]; exact hbase
 subst hl
 clear ho1c T1 hF hE hB ho
 go_enter Tryz.func53, Tryz.ntmps53
 go_wp2_with fail
 refine HMK.out.mono ?_
 rintro e W1 ⟨rfl, hW1⟩
 rw [← hW1] at hB1 ho1 hE1 hF1 HW0 hM0 hb1
 clear hW1 HMK
 go_wp2
 go_loopw [5] (fun i wr => ∃ k : Nat, k ≤ n ∧ i = .int .i64 (k : Int) ∧ MarkF wr (.slice a n cap) n k (m + 1) ∧ Touch (fun q => (Value.slice a n cap).ownBlock = some q) W1 wr) (fun i wr => n - (intOf i).toNat)
 case atStart => exact ⟨0, Nat.zero_le _, rfl, hM0, Touch.refl _ _⟩
 case round =>
  obtain ⟨k, hk, rfl, hM, T2⟩ := hrel
  by_cases hlt : k < n
  ·obtain ⟨g, rfl⟩ := HA.out (by omega)
   obtain ⟨hr, _⟩ := hM.row _ cap rfl g rfl
   obtain ⟨⟨u0, e0⟩, f0⟩ := hr.cell (k * 2) (by omega)
   obtain ⟨⟨u1', e1⟩, f1⟩ := hr.cell (k * 2 + 1) (by omega)
   have i1 : (k : Int) < (n : Int) := by omega
   have HMS : Hid (∀ w', w' = (wr.setCell ⟨g, k * 2, none⟩ (.string (markS (m + 1)))).setCell ⟨g, k * 2 + 1, none⟩ (.string (markS (m + 1))) → MarkF w' (.slice (some ⟨g, 0, none⟩) n cap) n (k + 1) (m + 1)) := fun w' hw' => hM.set rfl hw' hlt hcap
   have HTS : Hid (∀ (i : Nat) (v : Value) (X : World), Touch (fun q => (Value.slice (some ⟨g, 0, none⟩) n cap).ownBlock = some q) W1 X → Touch (fun q => (Value.slice (some ⟨g, 0, none⟩) n cap).ownBlock = some q) W1 (X.setCell ⟨g, i, none⟩ v)) := fun i v X h => h.setCell (p := ⟨g, i, none⟩) rfl v
   clear hr hM
   go_wp2
   refine ⟨⟨k + 1, by omega, by go_num, HMS.out _ rfl, ?_⟩, by simp [intOf]; omega⟩
   exact HTS.out _ _ _ (HTS.out _ _ _ T2)
  ·obtain rfl : n = k := by omega
   have ho2 := MarkF.owns ho1 hM
   have htE : ∀ q, (Value.slice a n cap).ownBlock = some q → Typed W1 q 83 := fun q hq => Typed.owned ho1 hq
   have hB2 := hB1.keep T2 (fun q hq _ => ⟨_, htE q hq, by decide, by decide, by decide, by decide, by decide⟩)
   have hF2 : Chain wr 83 patF 2 FL (.slice a n cap) n (m + 1) := ⟨patF_len, fun x hx => (hF1 x hx).keep T2 (fun q h1 _ h2 => absurd h1 (hdis x hx q h2)), fun x hx q h1 h2 => absurd h2 (hdis x hx q h1)⟩
   have hE2 : ∀ x ∈ EL, LKept wr 86 (patE x.2) x.1 := fun x hx => (hE1 x hx).keep T2 (fun q h1 _ _ hty => absurd (hty.ne (htE q h1)) (by decide))
   have HW2 : Hid (Touch (fun q => wb ≤ q) w wr) := HW0.out.trans (T2.mono (fun q _ h => by have := (ho1.lt q h).1; omega))
   have hb2 : base ≤ wr.heap.size := Nat.le_trans hb1 T2.size
   clear hM T2 hB1 ho1 hE1 hF1 HW0 hb1 htE HA hM0
   have hB := hB2
   have hE := hE2
   have ho := ho2
   have hF := hF2
   have HW := HW2
   have hb := hb2
   clear hB2 hE2 ho2 hF2 HW2 hb2
   have b1 : FL.length + 1 ≤ maxLen := by unfold maxLen; omega
   have b2 : (FL.length + 1) * 24 ≤ 140737488355328 := by omega
   have b3 : (FL.length + 1) * 16 ≤ 140737488355328 := by omega
   have c1 := hB.c1
   have hwF : ¬ vF.ownBlock = some wb := fun hq => absurd ((Typed.owned hB.rF hq).ne hB.ty) (by decide)
   have HZ2 : Hid (∀ w3, Touch (fun q => vF.ownBlock = some q) wr w3 → w3.cell? ⟨wb, 1, none⟩ = some vF ∧ w3.frozen? ⟨wb, 1, none⟩ = false) := fun w3 t => ⟨t.at hB.c1 hwF, (t.frozen (p := ⟨wb, 1, none⟩) hB.ty.lt hwF).trans (hB.fz 1)⟩
   have HRE : Hid (∀ o, (wr.alloc o).ownsRow base 81 1 vF FL.length (FL.map (·.1))) := fun o => hB.rF.alloc o
   go_upto_region 6 with (at_builtin; refine wpList_append_own _ rfl _ _ 27 rfl base 81 iE (.slice none 0 0) 1 24 Tryz.underlying27 hiE hzE0 hzE1 hzE2 rfl (by decide) vF FL.length (FL.map (·.1)) rfl (HRE.out _) ⟨_, 0, none⟩ 1 1 [.slice a n cap] rfl rfl (cell_one_new _ _ _) (by simp [Value.oneCell']) b1 b2 (by simp; omega) ?_; intro v3 w3 ho3 hg3 _; obtain ⟨ao3, cap3, rfl⟩ := owned_sl ho3; have t3 : Touch (fun q => vF.ownBlock = some q) wr w3 := ((Touch.refl (fun q => vF.ownBlock = some q) wr).alloc _).grown hg3 (fun q hq => hq); obtain ⟨z2, z3⟩ := HZ2.out w3 t3)
   have hB3 := hB.putF ((.slice a n cap : Value), m + 1) t3 ho3
   have t32 : Touch (fun q => vF.ownBlock = some q ∨ q = wb) wr (w3.setCell ⟨wb, 1, none⟩ (.slice ao3 (FL.length + 1) cap3)) := (t3.mono (fun _ _ h => .inl h)).setCell (p := ⟨wb, 1, none⟩) (.inr rfl) _
   have hne : ∀ q, (vF.ownBlock = some q ∨ q = wb) → q < wr.heap.size → ∃ t, Typed wr q t ∧ t ≠ 86 ∧ t ≠ 83 := fun q hq _ => by
    rcases hq with hq | rfl
    ·exact ⟨_, Typed.owned hB.rF hq, by decide, by decide⟩
    ·exact ⟨_, hB.ty, by decide, by decide⟩
   have hF3 := (hF.push ho (by omega)).keep t32 (fun q h1 h2 h3 => by obtain ⟨t, a1, a2, a3⟩ := hne q h1 h2; exact a3 (a1.ne h3))
   have ho4 := t32.owns ho (fun q hq h => by obtain ⟨t, a1, a2, a3⟩ := hne q h ((ho.lt q hq).2); exact a3 (a1.ne (Typed.owned ho hq)))
   have hE3 : ∀ x ∈ EL, LKept (w3.setCell ⟨wb, 1, none⟩ (.slice ao3 (FL.length + 1) cap3)) 86 (patE x.2) x.1 := fun x hx => (hE x hx).keep t32 (fun q h1 h2 _ h3 => by obtain ⟨t, a1, a2, a3⟩ := hne q h1 h2; exact a2 (a1.ne h3))
   have HW3 : Hid (Touch (fun q => wb ≤ q) w (w3.setCell ⟨wb, 1, none⟩ (.slice ao3 (FL.length + 1) cap3))) := HW.out.trans (t32.mono (fun q hq h => by
    rcases h with h | rfl
    ·have := (hB.rF.lt q h).1; have := hB.low; omega
    ·exact Nat.le_refl _))
   have hb3 : base ≤ (w3.setCell ⟨wb, 1, none⟩ (.slice ao3 (FL.length + 1) cap3)).heap.size := Nat.le_trans hb t32.size
   clear hB hE hF HW ho t32 hne t3 ho3 hg3 z2 z3 HZ2 HRE c1 hwF hb b2
   obtain ⟨W3, hW3⟩ : ∃ W, W = w3.setCell ⟨wb, 1, none⟩ (.slice ao3 (FL.length + 1) cap3) := ⟨_, rfl⟩
   rw [← hW3] at hB3 hE3 ho4 hF3 HW3 hb3 ⊢
   clear hW3
   have d4 := hB3.c4
   have hwN : ¬ vM.ownBlock = some wb := fun hq => absurd ((Typed.owned hB3.rM hq).ne hB3.ty) (by decide)
   have HZ5 : Hid (∀ w5, Touch (fun q => vM.ownBlock = some q) W3 w5 → w5.cell? ⟨wb, 4, none⟩ = some vM ∧ w5.frozen? ⟨wb, 4, none⟩ = false) := fun w5 t => ⟨t.at hB3.c4 hwN, (t.frozen (p := ⟨wb, 4, none⟩) hB3.ty.lt hwN).trans (hB3.fz 4)⟩
   have HRN : Hid (∀ o, (W3.alloc o).ownsRow base 9 1 vM FL.length (FL.map (fun x => Value.string (markS x.2)))) := fun o => hB3.rM.alloc o
   go_upto_region 7 with (at_builtin; refine wpList_append_own _ rfl _ _ 30 rfl base 9 iI (.string ⟨#[]⟩) 1 16 Tryz.underlying30 hiI hzI0 hzI1 hzI2 rfl (by decide) vM FL.length (FL.map (fun x => Value.string (markS x.2))) rfl (HRN.out _) ⟨_, 0, none⟩ 1 1 [.string (markS (m + 1))] rfl rfl (cell_one_new _ _ _) (by simp [Value.oneCell']) b1 b3 (by simp; omega) ?_; intro v5 w5 ho5 hg5 _; obtain ⟨ao5, cap5, rfl⟩ := owned_sl ho5; have t5 : Touch (fun q => vM.ownBlock = some q) W3 w5 := ((Touch.refl (fun q => vM.ownBlock = some q) W3).alloc _).grown hg5 (fun q hq => hq); obtain ⟨y5, yf⟩ := HZ5.out w5 t5)
   have hcut := KSF.mk' hB3 hF3 ho4 hE3 HW3.out hb3 t5 ho5
   clear hB3 hE3 ho4 hF3 HW3 hb3 b1 b3 t5 ho5 hg5 y5 yf HZ5 HRN d4 hwN
   obtain ⟨W5, hW5⟩ : ∃ W, W = w5.setCell ⟨wb, 4, none⟩ (.slice ao5 (FL.length + 1) cap5) := ⟨_, rfl⟩
   rw [← hW5] at hcut ⊢
   clear hW5
   go_wp2
   go_loopw [1, 6] (fun lv i wr => ∃ (i' : Nat) (FL' : List (Value × Nat)) (n' : Nat), i' ≤ 8 ∧ i = .int .i64 (i' : Int) ∧ Hid (FL'.length = FL.length + 1 + i') ∧ Hid (n' = n + i') ∧ KSF w wr wb base (m + 1) FL' EL lv n' base') (fun lv i wr => 8 - (intOf i).toNat)
   case atStart => exact ⟨0, _, n, by omega, rfl, by unfold Hid; simp, by unfold Hid; omega, hcut⟩
   case round =>
    clear hcut
    obtain ⟨i, FL2, n2, hi2, rfl, HL2, HN2, hS⟩ := hrel
    have hl2 : FL2.length ≤ 100000009 := by have := HL2.out; omega
    have hn2 : n2 ≤ 10000008 := by have := HN2.out; omega
    obtain ⟨⟨vF, vM, vE, vN, hB⟩, hF, ho, hE, HW, hb⟩ := hS
    have HW : Hid (Touch (fun q => wb ≤ q) w wr) := HW
    by_cases hlt : i < 8
    ·have i1 : (i : Int) < 8 := by omega
     have k1 : n2 + 1 ≤ maxLen := by unfold maxLen; omega
     have k2 : (n2 + 1) * 32 ≤ 140737488355328 := by omega
     have kb : base' ≤ wr.heap.size := Nat.le_trans hsz' HW.out.size
     have HRL : Hid (∀ o, (wr.alloc o).ownsRow base' 83 2 u1 n2 (repP n2 (patF (m + 1)))) := fun o => ho.alloc o
     go_upto_region 11 with (at_builtin; refine wpList_append_both rfl _ _ 81 rfl base' 83 i6 (.agg #[.string ⟨#[]⟩, .string ⟨#[]⟩]) 2 32 Tryz.underlying81 hi6 hz60 hz61 hz62 rfl (by decide) u1 n2 (repP n2 (patF (m + 1))) rfl (HRL.out _) ⟨wr.heap.size, 0, none⟩ 1 1 [.string (markS (m + 1)), .string (markS (m + 1))] rfl rfl (cell_list_new wr [.string (markS (m + 1)), .string (markS (m + 1))] 83) (by simp [Value.oneCell']) (by decide) k1 k2 (by simp; omega) ?_; intro g2 cap2 w2 ho2 hg2)
     have tA : Touch (fun _ => False) wr (wr.alloc (Obj.cells #[.string (markS (m + 1)), .string (markS (m + 1))] 83)) := (Touch.refl (fun _ => False) wr).alloc _
     have ho2' : w2.ownsRow base' 83 2 (.slice (some ⟨g2, 0, none⟩) (n2 + 1) cap2) (n2 + 1) (repP (n2 + 1) (patF (m + 1))) := by
      rw [repP_succ]; exact ho2
     have hF2 := hF.append ho tA ho2' hg2 (by omega)
     have t2 : Touch (fun q => u1.ownBlock = some q) wr w2 := by
      rcases hg2 with ⟨e, h⟩ | ⟨e, h⟩
      ·exact (tA.mono (fun _ _ h => h.elim)).grown h (fun q hq => by cases hq; exact e)
      ·exact (tA.mono (fun _ _ h => h.elim)).grown h (fun q hq => by cases hq)
     have hB2 := hB.keep t2 (fun q hq _ => ⟨_, Typed.owned ho hq, by decide, by decide, by decide, by decide, by decide⟩)
     have hE2 : ∀ x ∈ EL, LKept w2 86 (patE x.2) x.1 := fun x hx => (hE x hx).keep t2 (fun q h1 _ _ hty => absurd (hty.ne (Typed.owned ho h1)) (by decide))
     have HW2 : Hid (Touch (fun q => wb ≤ q) w w2) := HW.out.trans (t2.mono (fun q _ h => by have := (ho.lt q h).1; omega))
     have hb2 : base ≤ w2.heap.size := Nat.le_trans hb t2.size
     clear hB hE ho hF HW hb hg2 t2 tA ho2 HRL kb k1 k2
     have hB := hB2
     have hE := hE2
     have ho := ho2'
     have hF := hF2
     have HW := HW2
     have hb := hb2
     clear hB2 hE2 ho2' hF2 HW2 hb2
     have b1 : FL2.length + 1 ≤ maxLen := by unfold maxLen; omega
     have b2 : (FL2.length + 1) * 24 ≤ 140737488355328 := by omega
     have b3 : (FL2.length + 1) * 16 ≤ 140737488355328 := by omega
     have c1 := hB.c1
     have hwF : ¬ vF.ownBlock = some wb := fun hq => absurd ((Typed.owned hB.rF hq).ne hB.ty) (by decide)
     have HZ2 : Hid (∀ w3, Touch (fun q => vF.ownBlock = some q) w2 w3 → w3.cell? ⟨wb, 1, none⟩ = some vF ∧ w3.frozen? ⟨wb, 1, none⟩ = false) := fun w3 t => ⟨t.at hB.c1 hwF, (t.frozen (p := ⟨wb, 1, none⟩) hB.ty.lt hwF).trans (hB.fz 1)⟩
     have HRE : Hid (∀ o, (w2.alloc o).ownsRow base 81 1 vF FL2.length (FL2.map (·.1))) := fun o => hB.rF.alloc o
     go_upto_region 12 with (at_builtin; refine wpList_append_own _ rfl _ _ 27 rfl base 81 iE (.slice none 0 0) 1 24 Tryz.underlying27 hiE hzE0 hzE1 hzE2 rfl (by decide) vF FL2.length (FL2.map (·.1)) rfl (HRE.out _) ⟨_, 0, none⟩ 1 1 [.slice (some ⟨g2, 0, none⟩) (n2 + 1) cap2] rfl rfl (cell_one_new _ _ _) (by simp [Value.oneCell']) b1 b2 (by simp; omega) ?_; intro v3 w3 ho3 hg3 _; obtain ⟨ao3, cap3, rfl⟩ := owned_sl ho3; have t3 : Touch (fun q => vF.ownBlock = some q) w2 w3 := ((Touch.refl (fun q => vF.ownBlock = some q) w2).alloc _).grown hg3 (fun q hq => hq); obtain ⟨z2, z3⟩ := HZ2.out w3 t3)
     have hB3 := hB.putF ((.slice (some ⟨g2, 0, none⟩) (n2 + 1) cap2 : Value), m + 1) t3 ho3
     have t32 : Touch (fun q => vF.ownBlock = some q ∨ q = wb) w2 (w3.setCell ⟨wb, 1, none⟩ (.slice ao3 (FL2.length + 1) cap3)) := (t3.mono (fun _ _ h => .inl h)).setCell (p := ⟨wb, 1, none⟩) (.inr rfl) _
     have hne : ∀ q, (vF.ownBlock = some q ∨ q = wb) → q < w2.heap.size → ∃ t, Typed w2 q t ∧ t ≠ 86 ∧ t ≠ 83 := fun q hq _ => by
      rcases hq with hq | rfl
      ·exact ⟨_, Typed.owned hB.rF hq, by decide, by decide⟩
      ·exact ⟨_, hB.ty, by decide, by decide⟩
     have hF3 := (hF.push ho (by omega)).keep t32 (fun q h1 h2 h3 => by obtain ⟨t, a1, a2, a3⟩ := hne q h1 h2; exact a3 (a1.ne h3))
     have ho4 := t32.owns ho (fun q hq h => by obtain ⟨t, a1, a2, a3⟩ := hne q h ((ho.lt q hq).2); exact a3 (a1.ne (Typed.owned ho hq)))
     have hE3 : ∀ x ∈ EL, LKept (w3.setCell ⟨wb, 1, none⟩ (.slice ao3 (FL2.length + 1) cap3)) 86 (patE x.2) x.1 := fun x hx => (hE x hx).keep t32 (fun q h1 h2 _ h3 => by obtain ⟨t, a1, a2, a3⟩ := hne q h1 h2; exact a2 (a1.ne h3))
     have HW3 : Hid (Touch (fun q => wb ≤ q) w (w3.setCell ⟨wb, 1, none⟩ (.slice ao3 (FL2.length + 1) cap3))) := HW.out.trans (t32.mono (fun q hq h => by
      rcases h with h | rfl
      ·have := (hB.rF.lt q h).1; have := hB.low; omega
      ·exact Nat.le_refl _))
     have hb3 : base ≤ (w3.setCell ⟨wb, 1, none⟩ (.slice ao3 (FL2.length + 1) cap3)).heap.size := Nat.le_trans hb t32.size
     clear hB hE hF HW ho t32 hne t3 ho3 hg3 z2 z3 HZ2 HRE c1 hwF hb b2
     obtain ⟨W3, hW3⟩ : ∃ W, W = w3.setCell ⟨wb, 1, none⟩ (.slice ao3 (FL2.length + 1) cap3) := ⟨_, rfl⟩
     rw [← hW3] at hB3 hE3 ho4 hF3 HW3 hb3 ⊢
     clear hW3
     have d4 := hB3.c4
     have hwN : ¬ vM.ownBlock = some wb := fun hq => absurd ((Typed.owned hB3.rM hq).ne hB3.ty) (by decide)
     have HZ5 : Hid (∀ w5, Touch (fun q => vM.ownBlock = some q) W3 w5 → w5.cell? ⟨wb, 4, none⟩ = some vM ∧ w5.frozen? ⟨wb, 4, none⟩ = false) := fun w5 t => ⟨t.at hB3.c4 hwN, (t.frozen (p := ⟨wb, 4, none⟩) hB3.ty.lt hwN).trans (hB3.fz 4)⟩
     have HRN : Hid (∀ o, (W3.alloc o).ownsRow base 9 1 vM FL2.length (FL2.map (fun x => Value.string (markS x.2)))) := fun o => hB3.rM.alloc o
     go_upto_region 13 with (at_builtin; refine wpList_append_own _ rfl _ _ 30 rfl base 9 iI (.string ⟨#[]⟩) 1 16 Tryz.underlying30 hiI hzI0 hzI1 hzI2 rfl (by decide) vM FL2.length (FL2.map (fun x => Value.string (markS x.2))) rfl (HRN.out _) ⟨_, 0, none⟩ 1 1 [.string (markS (m + 1))] rfl rfl (cell_one_new _ _ _) (by simp [Value.oneCell']) b1 b3 (by simp; omega) ?_; intro v5 w5 ho5 hg5 _; obtain ⟨ao5, cap5, rfl⟩ := owned_sl ho5; have t5 : Touch (fun q => vM.ownBlock = some q) W3 w5 := ((Touch.refl (fun q => vM.ownBlock = some q) W3).alloc _).grown hg5 (fun q hq => hq); obtain ⟨y5, yf⟩ := HZ5.out w5 t5)
     have hcut := KSF.mk' hB3 hF3 ho4 hE3 HW3.out hb3 t5 ho5
     clear hB3 hE3 ho4 hF3 HW3 hb3 b1 b3 t5 ho5 hg5 y5 yf HZ5 HRN d4 hwN
     obtain ⟨W5, hW5⟩ : ∃ W, W = w5.setCell ⟨wb, 4, none⟩ (.slice ao5 (FL2.length + 1) cap5) := ⟨_, rfl⟩
     rw [← hW5] at hcut ⊢
     clear hW5
     go_wp2
     exact ⟨⟨i + 1, _, _, by omega, by go_num, by have := HL2.out; unfold Hid; simp; omega, by have := HN2.out; unfold Hid; omega, hcut⟩, by simp [intOf]; omega⟩
    ·obtain rfl : 8 = i := by omega
     have FIN : Hid (∃ FL', FL'.length = FL.length + 9 ∧ KeptAll wr wb base (m + 1) FL' EL ∧ Touch (fun q => wb ≤ q) w wr) := ⟨FL2, by have := HL2.out; omega, ⟨⟨vF, vM, vE, vN, hB⟩, hF.kept, hE⟩, HW.out⟩
     clear hB hE ho hF HW hb
     go_wp2
     go_end0
     exact ⟨rfl, FIN.out⟩
end Go.Proofs.YtpckiobjpikmlaaGreatDoor
namespace Go.Proofs.YtpckiobjpikmlaaGreatDoor
open Go.RowKit Go.Shelf Go.Lib
theorem own1_cells {w : World} {base n cap : Nat} {e : TypeId} {a : Option Addr} {xs : List Value} (h : w.ownsRow base e 1 (.slice a n cap) n xs) (hn : 0 < n) : ∃ g, a = some ⟨g, 0, none⟩ ∧ ∀ i, i < n → w.cell? ⟨g, i, none⟩ = xs[i]? := by
 obtain ⟨h1, ⟨h2, h3⟩ | ⟨g, cap', cur, e, hb, hg, h3, h4, h5, h6⟩⟩ := h
 ·omega
 ·cases e
  refine ⟨g, rfl, fun i hi => ?_⟩
  rw [row_cell hg i, ← h6, List.getElem?_take_of_lt (by omega)]; simp
theorem kept_c (w : World) (wb base m : Nat) (FL EL : List (Value × Nat)) (hK : KeptAll w wb base m FL EL) (hfl : FL.length ≤ 1000000000) (hel : EL.length ≤ 1000000000) :
  Calls Tryz.prog 9 #[.pointer (some ⟨wb, 0, none⟩)] w fun r w' => r = .returned (.bool true) ∧ Touch (fun _ => False) w w' := by
 obtain ⟨⟨vF, vM, vE, vN, hB⟩, hF, hE⟩ := hK
 obtain ⟨aF, cF, rfl⟩ := owned_sl hB.rF
 obtain ⟨aM, cM, rfl⟩ := owned_sl hB.rM
 obtain ⟨aE, cE, rfl⟩ := owned_sl hB.rE
 obtain ⟨aN, cN, rfl⟩ := owned_sl hB.rN
 obtain ⟨nF, hnF⟩ : ∃ n, n = FL.length := ⟨_, rfl⟩
 obtain ⟨nE, hnE⟩ : ∃ n, n = EL.length := ⟨_, rfl⟩
 have HNF : Hid (nF = FL.length) := hnF
 have HNE : Hid (nE = EL.length) := hnE
 have HB : Hid (KB w wb base m FL FL EL EL (.slice aF FL.length cF) (.slice aM FL.length cM) (.slice aE EL.length cE) (.slice aN EL.length cN)) := hB
 have HC : Hid (∀ wr, Touch (fun _ => False) w wr → wr.cell? ⟨wb, 1, none⟩ = some (.slice aF nF cF) ∧ wr.cell? ⟨wb, 2, none⟩ = some (.slice aE nE cE) ∧ wr.cell? ⟨wb, 3, none⟩ = some (.slice none 0 0) ∧ wr.cell? ⟨wb, 4, none⟩ = some (.slice aM nF cM) ∧ wr.cell? ⟨wb, 5, none⟩ = some (.slice aN nE cN)) := fun wr t => by
  rw [hnF, hnE]
  have h := hB.same t
  exact ⟨h.c1, h.c2, h.c3, h.c4, h.c5⟩
 have HF : Hid (∀ wr, Touch (fun _ => False) w wr → ∀ i (h : i < FL.length), LKept wr 83 (patF FL[i].2) FL[i].1) := fun wr t i h => (hF _ (List.getElem_mem h)).same t
 have HE : Hid (∀ wr, Touch (fun _ => False) w wr → ∀ i (h : i < EL.length), LKept wr 86 (patE EL[i].2) EL[i].1) := fun wr t i h => (hE _ (List.getElem_mem h)).same t
 have HRF : Hid (0 < nF → ∃ gF gM, aF = some ⟨gF, 0, none⟩ ∧ aM = some ⟨gM, 0, none⟩ ∧ ∀ wr, Touch (fun _ => False) w wr → ∀ i (h : i < FL.length), wr.cell? ⟨gF, i, none⟩ = some FL[i].1 ∧ wr.cell? ⟨gM, i, none⟩ = some (.string (markS FL[i].2))) := fun h0 => by
  obtain ⟨gF, e1, k1⟩ := own1_cells hB.rF (by omega)
  obtain ⟨gM, e2, k2⟩ := own1_cells hB.rM (by omega)
  refine ⟨gF, gM, e1, e2, fun wr t i h => ⟨?_, ?_⟩⟩
  ·exact t.at ((k1 i h).trans (by rw [List.getElem?_map, List.getElem?_eq_getElem h]; rfl)) (fun e => e)
  ·exact t.at ((k2 i h).trans (by rw [List.getElem?_map, List.getElem?_eq_getElem h]; rfl)) (fun e => e)
 have HRE : Hid (0 < nE → ∃ gE gN, aE = some ⟨gE, 0, none⟩ ∧ aN = some ⟨gN, 0, none⟩ ∧ ∀ wr, Touch (fun _ => False) w wr → ∀ i (h : i < EL.length), wr.cell? ⟨gE, i, none⟩ = some EL[i].1 ∧ wr.cell? ⟨gN, i, none⟩ = some (.int .i64 (-(EL[i].2 : Int)))) := fun h0 => by
  obtain ⟨gF, e1, k1⟩ := own1_cells hB.rE (by omega)
  obtain ⟨gM, e2, k2⟩ := own1_cells hB.rN (by omega)
  refine ⟨gF, gM, e1, e2, fun wr t i h => ⟨?_, ?_⟩⟩
  ·exact t.at ((k1 i h).trans (by rw [List.getElem?_map, List.getElem?_eq_getElem h]; rfl)) (fun e => e)
  ·exact t.at ((k2 i h).trans (by rw [List.getElem?_map, List.getElem?_eq_getElem h]; rfl)) (fun e => e)
 have bF : nF ≤ 1000000000 := by omega
 have bE : nE ≤ 1000000000 := by omega
 clear hB hF hE HB hfl hel hnF hnE
 go_enter Tryz.func9, Tryz.ntmps9
 go_wp2
 go_loopw [3] (fun i wr => ∃ k : Nat, k ≤ nF ∧ i = .int .i64 (k : Int) ∧ Touch (fun _ => False) w wr) (fun i wr => nF - (intOf i).toNat)
 case atStart => exact ⟨0, Nat.zero_le _, rfl, Touch.refl _ _⟩
 case round =>
  obtain ⟨k, hk, rfl, T⟩ := hrel
  obtain ⟨c1, c2, c3, c4, c5⟩ := HC.out _ T
  by_cases hlt : k < nF
  ·have hlt' : k < FL.length := by have := HNF.out; omega
   obtain ⟨gF, gM, rfl, rfl, hcell⟩ := HRF.out (by omega)
   have HCL : Hid (∀ wr, Touch (fun _ => False) w wr → wr.cell? ⟨gF, k, none⟩ = some FL[k].1 ∧ wr.cell? ⟨gM, k, none⟩ = some (.string (markS FL[k].2))) := fun wr t => hcell wr t k hlt'
   have HLK : Hid (∀ wr, Touch (fun _ => False) w wr → LKept wr 83 (patF FL[k].2) FL[k].1) := fun wr t => HF.out wr t k hlt'
   clear hcell
   obtain ⟨x1, x2⟩ := HCL.out _ T
   have hL := HLK.out _ T
   revert HCL HLK x1 x2 hL
   generalize FL[k] = x
   intro HCL HLK x1 x2 hL
   obtain ⟨xv, xm⟩ := x
   simp only at HCL HLK x1 x2 hL
   obtain ⟨xa, xn, xc, rfl, hxn, _⟩ := hL
   have i1 : (k : Int) < (nF : Int) := by omega
   obtain ⟨M, hM⟩ : ∃ M, M = markS xm := ⟨_, rfl⟩
   have HXC : Hid (0 < xn → ∃ g, xa = some ⟨g, 0, none⟩ ∧ ∀ wr, Touch (fun _ => False) w wr → ∀ j, j < xn → wr.cell? ⟨g, j * 2, none⟩ = some (.string M) ∧ wr.cell? ⟨g, j * 2 + 1, none⟩ = some (.string M)) := fun h0 => by
    rw [hM]
    obtain ⟨a0, n0, cp0, e0, _, ⟨e1, e2⟩ | ⟨g, e1, _, _⟩⟩ := HLK.out _ T
    ·cases e0; omega
    ·cases e0
     refine ⟨g, e1, fun wr t j hj => ?_⟩
     obtain ⟨a3, n3, cp3, e3, _, ⟨e4, e5⟩ | ⟨g3, e4, _, hc⟩⟩ := HLK.out wr t
     ·cases e3; omega
     ·cases e3
      rw [e1] at e4; cases e4
      exact ⟨hc j hj 0 (by show 0 < 2; omega), hc j hj 1 (by show 1 < 2; omega)⟩
   rw [← hM] at HCL x2
   clear hM HLK
   go_wp2
   go_loopw [4] (fun i wr => ∃ j : Nat, j ≤ xn ∧ i = .int .i64 (j : Int) ∧ Touch (fun _ => False) w wr) (fun i wr => xn - (intOf i).toNat)
   case atStart => exact ⟨0, Nat.zero_le _, rfl, T⟩
   case round =>
    clear T c1 c2 c3 c4 c5 x1 x2
    obtain ⟨j, hj, rfl, T⟩ := hrel
    obtain ⟨c1, c2, c3, c4, c5⟩ := HC.out _ T
    obtain ⟨x1, x2⟩ := HCL.out _ T
    by_cases hjl : j < xn
    ·obtain ⟨g, rfl, hc⟩ := HXC.out (by omega)
     obtain ⟨y1, y2⟩ := hc _ T j hjl
     have i2 : (j : Int) < (xn : Int) := by omega
     have b1 : (M.toList == M.toList) = true := by simp
     clear hc HXC
     go_wp2
     go_quiet (fail)
     go_wp2
     exact ⟨⟨j + 1, by omega, by go_num, T.drewN _⟩, by simp [intOf]; omega⟩
    ·obtain rfl : xn = j := by omega
     clear HXC
     go_wp2
     exact ⟨⟨k + 1, by omega, by go_num, T⟩, by simp [intOf]; omega⟩
  ·obtain rfl : nF = k := by omega
   go_wp2
   go_loopw [5] (fun i wr => ∃ k : Nat, k ≤ nE ∧ i = .int .i64 (k : Int) ∧ Touch (fun _ => False) w wr) (fun i wr => nE - (intOf i).toNat)
   case atStart => exact ⟨0, Nat.zero_le _, rfl, T⟩
   case round =>
    clear T c1 c2 c3 c4 c5
    obtain ⟨k, hk, rfl, T⟩ := hrel
    obtain ⟨c1, c2, c3, c4, c5⟩ := HC.out _ T
    by_cases hlt : k < nE
    ·have hlt' : k < EL.length := by have := HNE.out; omega
     obtain ⟨gF, gM, rfl, rfl, hcell⟩ := HRE.out (by omega)
     have HCL : Hid (∀ wr, Touch (fun _ => False) w wr → wr.cell? ⟨gF, k, none⟩ = some EL[k].1 ∧ wr.cell? ⟨gM, k, none⟩ = some (.int .i64 (-(EL[k].2 : Int)))) := fun wr t => hcell wr t k hlt'
     have HLK : Hid (∀ wr, Touch (fun _ => False) w wr → LKept wr 86 (patE EL[k].2) EL[k].1) := fun wr t => HE.out wr t k hlt'
     clear hcell
     obtain ⟨x1, x2⟩ := HCL.out _ T
     have hL := HLK.out _ T
     revert HCL HLK x1 x2 hL
     generalize EL[k] = x
     intro HCL HLK x1 x2 hL
     obtain ⟨xv, xm⟩ := x
     simp only at HCL HLK x1 x2 hL
     obtain ⟨xa, xn, xc, rfl, hxn, _⟩ := hL
     have i1 : (k : Int) < (nE : Int) := by omega
     have HXC : Hid (0 < xn → ∃ g, xa = some ⟨g, 0, none⟩ ∧ ∀ wr, Touch (fun _ => False) w wr → ∀ j, j < xn → wr.cell? ⟨g, j * 6, none⟩ = some (.string ⟨#[]⟩) ∧ wr.cell? ⟨g, j * 6 + 5, none⟩ = some (.int .i64 (-(xm : Int)))) := fun h0 => by
      obtain ⟨a0, n0, cp0, e0, _, ⟨e1, e2⟩ | ⟨g, e1, _, _⟩⟩ := HLK.out _ T
      ·cases e0; omega
      ·cases e0
       refine ⟨g, e1, fun wr t j hj => ?_⟩
       obtain ⟨a3, n3, cp3, e3, _, ⟨e4, e5⟩ | ⟨g3, e4, _, hc⟩⟩ := HLK.out wr t
       ·cases e3; omega
       ·cases e3
        rw [e1] at e4; cases e4
        exact ⟨hc j hj 0 (by show 0 < 6; omega), hc j hj 5 (by show 5 < 6; omega)⟩
     clear HLK
     obtain ⟨N, hN⟩ : ∃ N : Int, N = -(xm : Int) := ⟨_, rfl⟩
     rw [← hN] at HCL x2 HXC
     clear hN
     go_wp2
     go_loopw [6] (fun i wr => ∃ j : Nat, j ≤ xn ∧ i = .int .i64 (j : Int) ∧ Touch (fun _ => False) w wr) (fun i wr => xn - (intOf i).toNat)
     case atStart => exact ⟨0, Nat.zero_le _, rfl, T⟩
     case round =>
      clear T c1 c2 c3 c4 c5 x1 x2
      obtain ⟨j, hj, rfl, T⟩ := hrel
      obtain ⟨c1, c2, c3, c4, c5⟩ := HC.out _ T
      obtain ⟨x1, x2⟩ := HCL.out _ T
      by_cases hjl : j < xn
      ·obtain ⟨g, rfl, hc⟩ := HXC.out (by omega)
       obtain ⟨y1, y2⟩ := hc _ T j hjl
       have i2 : (j : Int) < (xn : Int) := by omega
       clear hc HXC
       go_wp2
       go_quiet (fail)
       go_wp2
       exact ⟨⟨j + 1, by omega, by go_num, T.drewN _⟩, by simp [intOf]; omega⟩
      ·obtain rfl : xn = j := by omega
       clear HXC
       go_wp2
       exact ⟨⟨k + 1, by omega, by go_num, T⟩, by simp [intOf]; omega⟩
    ·obtain rfl : nE = k := by omega
     go_wp2
     go_loopw [7] (fun i wr => i = .int .i64 0 ∧ Touch (fun _ => False) w wr) (fun i wr => 0)
     case atStart => exact ⟨rfl, T⟩
     case round =>
      clear T c1 c2 c3 c4 c5
      obtain ⟨rfl, T⟩ := hrel
      obtain ⟨c1, c2, c3, c4, c5⟩ := HC.out _ T
      go_wp2
      go_ret
      exact ⟨rfl, T⟩
end Go.Proofs.YtpckiobjpikmlaaGreatDoor
