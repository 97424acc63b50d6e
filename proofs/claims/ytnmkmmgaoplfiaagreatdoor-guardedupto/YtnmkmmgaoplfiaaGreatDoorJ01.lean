/- Texts of this seat, joined. -/
import Derived.WalkKit
import Derived.WalkSpells
import Derived.WalkLawsBesides
import Derived.Deep.Draws
set_option linter.unusedSimpArgs false
set_option linter.unusedVariables false
set_option maxHeartbeats 20000000
namespace Go.Proofs.YtnmkmmgaoplfiaaGreatDoor
open Go.RowKit
structure Touch (S : Nat → Prop) (w w' : World) : Prop where
 os : w'.os = w.os
 tape : w'.tape = w.tape
 output : w'.output = w.output
 size : w.heap.size ≤ w'.heap.size
 block : ∀ k, k < w.heap.size → ¬ S k → w'.heap[k]? = w.heap[k]?
theorem Touch.refl (S : Nat → Prop) (w : World) : Touch S w w := ⟨rfl, rfl, rfl, Nat.le_refl _, fun _ _ _ => rfl⟩
theorem Touch.trans {S : Nat → Prop} {a b c : World} (h : Touch S a b) (k : Touch S b c) : Touch S a c :=
 ⟨k.os.trans h.os, k.tape.trans h.tape, k.output.trans h.output, Nat.le_trans h.size k.size, fun i hi hs => (k.block i (Nat.lt_of_lt_of_le hi h.size) hs).trans (h.block i hi hs)⟩
theorem Touch.mono {S T : Nat → Prop} {a b : World} (h : Touch S a b) (hs : ∀ k, k < a.heap.size → S k → T k) : Touch T a b :=
 ⟨h.os, h.tape, h.output, h.size, fun k hk ht => h.block k hk (fun e => ht (hs k hk e))⟩
theorem Touch.drew {S : Nat → Prop} {a b : World} (h : Touch S a b) : Touch S a b.drew := ⟨h.os, h.tape, h.output, h.size, h.block⟩
theorem Touch.drewN {S : Nat → Prop} {a b : World} (h : Touch S a b) (n : Nat) : Touch S a (b.drewN n) := ⟨h.os, h.tape, h.output, h.size, h.block⟩
theorem Touch.setCell {S : Nat → Prop} {a b : World} (h : Touch S a b) {p : Addr} (hp : S p.block) (u : Value) : Touch S a (b.setCell p u) :=
 h.trans ⟨rfl, rfl, rfl, by simp [World.setCell], fun k _ hs => Below.heap_setCell _ _ _ _ (fun e => hs (e ▸ hp))⟩
theorem Touch.setNew {S : Nat → Prop} {a b : World} (h : Touch S a b) {p : Addr} (hp : a.heap.size ≤ p.block) (u : Value) : Touch S a (b.setCell p u) :=
 ⟨h.os, h.tape, h.output, by simp [World.setCell]; exact h.size, fun k hk hs => (Below.heap_setCell _ _ _ _ (by omega)).trans (h.block k hk hs)⟩
theorem Touch.setRow {S : Nat → Prop} {a b : World} (h : Touch S a b) {g : Nat} (hp : a.heap.size ≤ g) (cs : Array Value) : Touch S a (b.setRow g cs) :=
 ⟨h.os, h.tape, h.output, by simpa using h.size, fun k hk hs => (setRow_other b g k _ (by omega)).trans (h.block k hk hs)⟩
theorem Touch.grownNew {S : Nat → Prop} {a w w' : World} {row : Option Nat} (h : Touch S a w) (hg : w.grownBy w' row) (hr : ∀ k, row = some k → a.heap.size ≤ k) : Touch S a w' :=
 ⟨hg.os.trans h.os, hg.tape.trans h.tape, hg.output.trans h.output, Nat.le_trans h.size hg.size, fun k hk hs => (hg.block k (Nat.lt_of_lt_of_le hk h.size) (fun e => by have := hr k e.symm; omega)).trans (h.block k hk hs)⟩
theorem Touch.alloc {S : Nat → Prop} {a b : World} (h : Touch S a b) (o : Obj) : Touch S a (b.alloc o) :=
 h.trans ⟨rfl, rfl, rfl, by simp, fun k hk _ => Below.heap_alloc _ _ _ hk⟩
theorem Touch.grown {S : Nat → Prop} {a w w' : World} {row : Option Nat} (h : Touch S a w) (hg : w.grownBy w' row) (hr : ∀ k, row = some k → S k) : Touch S a w' :=
 h.trans ⟨hg.os, hg.tape, hg.output, hg.size, fun k hk hs => hg.block k hk (fun e => hs (hr k e.symm))⟩
theorem Touch.fresh {w w' : World} (h : Touch (fun k => w.heap.size ≤ k) w w') : Touch (fun _ => False) w w' := h.mono (fun _ hk hs => Nat.not_lt.2 hs hk)
theorem Touch.ofBelow {w w' : World} (h : Below w.heap.size w w') (S : Nat → Prop) : Touch S w w' := ⟨h.os, h.tape, h.output, h.size, fun k hk _ => h.block k hk⟩
theorem Touch.toBelow {S : Nat → Prop} {w w' : World} (h : Touch S w w') {B : Nat} (hB : B ≤ w.heap.size) (hs : ∀ k, k < B → ¬ S k) : Below B w w' :=
 ⟨h.os, h.tape, h.output, h.size, fun k hk => h.block k (Nat.lt_of_lt_of_le hk hB) (hs k hk)⟩
theorem Touch.cell {S : Nat → Prop} {w w' : World} (h : Touch S w w') {p : Addr} (hp : p.block < w.heap.size) (hs : ¬ S p.block) : w'.cell? p = w.cell? p := World.cell?_of_block (w := w) (h.block p.block hp hs)
theorem Touch.frozen {S : Nat → Prop} {w w' : World} (h : Touch S w w') {p : Addr} (hp : p.block < w.heap.size) (hs : ¬ S p.block) : w'.frozen? p = w.frozen? p := World.frozen?_of_block (w := w) (h.block p.block hp hs)
theorem Touch.at {S : Nat → Prop} {w w' : World} (h : Touch S w w') {p : Addr} {v : Value} (hv : w.cell? p = some v) (hs : ¬ S p.block) : w'.cell? p = some v :=
 (h.cell (World.block_lt_of_cell? w p hv) hs).trans hv
theorem Touch.owns {S : Nat → Prop} {w w' : World} (h : Touch S w w') {base : Nat} {e : TypeId} {size : Nat} {v : Value} {n : Nat} {xs : List Value} (ho : w.ownsRow base e size v n xs) (hs : ∀ k, v.ownBlock = some k → ¬ S k) : w'.ownsRow base e size v n xs := by
 refine ⟨ho.1, ?_⟩
 rcases ho.2 with hn | ⟨g, cap, cur, rfl, hb, hgg, rest⟩
 ·exact .inl hn
 ·refine .inr ⟨g, cap, cur, rfl, hb, ?_, rest⟩
  rw [h.block g (Array.getElem?_eq_some_iff.1 hgg).1 (hs g rfl)]
  exact hgg
def Typed (w : World) (k : Nat) (t : TypeId) : Prop := ∃ cs fr, w.heap[k]? = some (.cells cs t fr)
theorem Typed.lt {w : World} {k : Nat} {t : TypeId} (h : Typed w k t) : k < w.heap.size := by
 obtain ⟨cs, fr, h⟩ := h; exact (Array.getElem?_eq_some_iff.1 h).1
theorem Typed.keep {S : Nat → Prop} {w w' : World} {k : Nat} {t : TypeId} (h : Typed w k t) (ht : Touch S w w') (hs : ¬ S k) : Typed w' k t := by
 have hl := h.lt
 obtain ⟨cs, fr, h⟩ := h; exact ⟨cs, fr, (ht.block k hl hs).trans h⟩
theorem Typed.ne {w : World} {k : Nat} {t u : TypeId} (h : Typed w k t) (h' : Typed w k u) : t = u := by
 obtain ⟨cs, fr, h⟩ := h; obtain ⟨cs', fr', h'⟩ := h'; rw [h] at h'; cases h'; rfl
theorem Typed.owned {w : World} {base : Nat} {e : TypeId} {size : Nat} {v : Value} {n : Nat} {xs : List Value} (h : w.ownsRow base e size v n xs) {k : Nat} (hk : v.ownBlock = some k) : Typed w k e := by
 rcases h.2 with ⟨rfl, _⟩ | ⟨g, cap, cur, rfl, _, hg, _⟩
 ·cases hk
 ·cases hk; exact ⟨_, _, hg⟩
theorem Typed.set {w : World} {k : Nat} {t : TypeId} (h : Typed w k t) (a : Addr) (v : Value) : Typed (w.setCell a v) k t := by
 obtain ⟨cs, fr, h⟩ := h
 by_cases e : k = a.block
 ·subst e
  simp only [Typed, World.setCell, Array.getElem?_modify, if_true, h]
  exact ⟨_, _, rfl⟩
 ·exact ⟨cs, fr, (Below.heap_setCell _ _ _ _ e).trans h⟩
theorem Typed.drewN {w : World} {k : Nat} {t : TypeId} (h : Typed w k t) (n : Nat) : Typed (w.drewN n) k t := h
theorem Typed.drew {w : World} {k : Nat} {t : TypeId} (h : Typed w k t) : Typed w.drew k t := h
theorem Typed.alloc {w : World} {k : Nat} {t : TypeId} (h : Typed w k t) (o : Obj) : Typed (w.alloc o) k t := by
 have hl := h.lt
 obtain ⟨cs, fr, h⟩ := h; exact ⟨cs, fr, (Below.heap_alloc _ _ _ hl).trans h⟩
theorem cell_drewN (w : World) (n : Nat) (a : Addr) : (w.drewN n).cell? a = w.cell? a := rfl
theorem frozen_drewN (w : World) (n : Nat) (a : Addr) : (w.drewN n).frozen? a = w.frozen? a := rfl
theorem size_drewN (w : World) (n : Nat) : (w.drewN n).heap.size = w.heap.size := rfl
theorem size_setCell (w : World) (a : Addr) (v : Value) : (w.setCell a v).heap.size = w.heap.size := by simp [World.setCell]
theorem ne_off {b i j : Nat} (h : i ≠ j) : (⟨b, i, none⟩ : Addr) ≠ ⟨b, j, none⟩ := by intro e; cases e; exact h rfl
theorem cell_set_ne {w : World} {b i j : Nat} {v : Value} (h : i ≠ j) : (w.setCell ⟨b, i, none⟩ v).cell? ⟨b, j, none⟩ = w.cell? ⟨b, j, none⟩ := by apply World.cell?_setCell_other; exact ne_off h
theorem cell_set_if (w : World) (b i b' j : Nat) (v : Value) : (w.setCell ⟨b, i, none⟩ v).cell? ⟨b', j, none⟩ = if b = b' ∧ i = j then (w.cell? ⟨b', j, none⟩).map (fun _ => v) else w.cell? ⟨b', j, none⟩ := by
 by_cases h : b = b' ∧ i = j
 ·obtain ⟨rfl, rfl⟩ := h
  rw [if_pos ⟨rfl, rfl⟩]
  cases hc : w.cell? ⟨b, i, none⟩ with
  | none => 
   rw [Option.map_none]
   by_cases hn : (w.setCell ⟨b, i, none⟩ v).cell? ⟨b, i, none⟩ = none
   ·exact hn
   ·exfalso
    revert hn hc
    simp only [World.cell?, World.setCell, Array.getElem?_modify]
    simp only [if_true]
    cases w.heap[b]? with
    | none => simp
    | some o => cases o <;> simp
  | some u => rw [Option.map_some]; apply World.cell?_setCell_same; exact hc
 ·rw [if_neg h]
  apply World.cell?_setCell_other
  intro e; cases e; exact h ⟨rfl, rfl⟩
theorem ret_int {k : IntKind} {a b : Int} (h : a = b) : Ending.returned (.int k a) = .returned (.int k b) := by rw [h]
end Go.Proofs.YtnmkmmgaoplfiaaGreatDoor
