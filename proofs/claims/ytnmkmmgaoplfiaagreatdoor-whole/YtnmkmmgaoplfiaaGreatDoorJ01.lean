/- Texts of this seat, joined. -/
import Derived.WalkKit
import Derived.WalkSpells
import Derived.WalkLawsBesides
import Derived.Deep.Draws
set_option linter.unusedSimpArgs false
set_option linter.unusedVariables false
set_option maxHeartbeats 20000000
namespace Go.Proofs.YtnmkmmgaoplfiaaGreatDoor
open Go.RowKit
structure Touch (S : Nat → Prop) (w w' : World) : Prop where
 os : w'.os = w.os
 tape : w'.tape = w.tape
 output : w'.output = w.output
 size : w.heap.size ≤ w'.heap.size
 block : ∀ k, k < w.heap.size → ¬ S k → w'.heap[k]? = w.heap[k]?
theorem Touch.refl (S : Nat → Prop) (w : World) : Touch S w w := ⟨rfl, rfl, rfl, Nat.le_refl _, fun _ _ _ => rfl⟩
theorem Touch.trans {S : Nat → Prop} {a b c : World} (h : Touch S a b) (k : Touch S b c) : Touch S a c :=
 ⟨k.os.trans h.os, k.tape.trans h.tape, k.output.trans h.output, Nat.le_trans h.size k.size, fun i hi hs => (k.block i (Nat.lt_of_lt_of_le hi h.size) hs).trans (h.block i hi hs)⟩
theorem Touch.mono {S T : Nat → Prop} {a b : World} (h : Touch S a b) (hs : ∀ k, k < a.heap.size → S k → T k) : Touch T a b :=
 ⟨h.os, h.tape, h.output, h.size, fun k hk ht => h.block k hk (fun e => ht (hs k hk e))⟩
theorem Touch.drew {S : Nat → Prop} {a b : World} (h : Touch S a b) : Touch S a b.drew := ⟨h.os, h.tape, h.output, h.size, h.block⟩
theorem Touch.drewN {S : Nat → Prop} {a b : World} (h : Touch S a b) (n : Nat) : Touch S a (b.drewN n) := ⟨h.os, h.tape, h.output, h.size, h.block⟩
theorem Touch.setCell {S : Nat → Prop} {a b : World} (h : Touch S a b) {p : Addr} (hp : S p.block) (u : Value) : Touch S a (b.setCell p u) :=
 h.trans ⟨rfl, rfl, rfl, by simp [World.setCell], fun k _ hs => Below.heap_setCell _ _ _ _ (fun e => hs (e ▸ hp))⟩
theorem Touch.setNew {S : Nat → Prop} {a b : World} (h : Touch S a b) {p : Addr} (hp : a.heap.size ≤ p.block) (u : Value) : Touch S a (b.setCell p u) :=
 ⟨h.os, h.tape, h.output, by simp [World.setCell]; exact h.size, fun k hk hs => (Below.heap_setCell _ _ _ _ (by omega)).trans (h.block k hk hs)⟩
theorem Touch.setRow {S : Nat → Prop} {a b : World} (h : Touch S a b) {g : Nat} (hp : a.heap.size ≤ g) (cs : Array Value) : Touch S a (b.setRow g cs) :=
 ⟨h.os, h.tape, h.output, by simpa using h.size, fun k hk hs => (setRow_other b g k _ (by omega)).trans (h.block k hk hs)⟩
theorem Touch.grownNew {S : Nat → Prop} {a w w' : World} {row : Option Nat} (h : Touch S a w) (hg : w.grownBy w' row) (hr : ∀ k, row = some k → a.heap.size ≤ k) : Touch S a w' :=
 ⟨hg.os.trans h.os, hg.tape.trans h.tape, hg.output.trans h.output, Nat.le_trans h.size hg.size, fun k hk hs => (hg.block k (Nat.lt_of_lt_of_le hk h.size) (fun e => by have := hr k e.symm; omega)).trans (h.block k hk hs)⟩
theorem Touch.alloc {S : Nat → Prop} {a b : World} (h : Touch S a b) (o : Obj) : Touch S a (b.alloc o) :=
 h.trans ⟨rfl, rfl, rfl, by simp, fun k hk _ => Below.heap_alloc _ _ _ hk⟩
theorem Touch.grown {S : Nat → Prop} {a w w' : World} {row : Option Nat} (h : Touch S a w) (hg : w.grownBy w' row) (hr : ∀ k, row = some k → S k) : Touch S a w' :=
 h.trans ⟨hg.os, hg.tape, hg.output, hg.size, fun k hk hs => hg.block k hk (fun e => hs (hr k e.symm))⟩
theorem Touch.fresh {w w' : World} (h : Touch (fun k => w.heap.size ≤ k) w w') : Touch (fun _ => False) w w' := h.mono (fun _ hk hs => Nat.not_lt.2 hs hk)
theorem Touch.ofBelow {w w' : World} (h : Below w.heap.size w w') (S : Nat → Prop) : Touch S w w' := ⟨h.os, h.tape, h.output, h.size, fun k hk _ => h.block k hk⟩
theorem Touch.toBelow {S : Nat → Prop} {w w' : World} (h : Touch S w w') {B : Nat} (hB : B ≤ w.heap.size) (hs : ∀ k, k < B → ¬ S k) : Below B w w' :=
 ⟨h.os, h.tape, h.output, h.size, fun k hk => h.block k (Nat.lt_of_lt_of_le hk hB) (hs k hk)⟩
theorem Touch.cell {S : Nat → Prop} {w w' : World} (h : Touch S w w') {p : Addr} (hp : p.block < w.heap.size) (hs : ¬ S p.block) : w'.cell? p = w.cell? p := World.cell?_of_block (w := w) (h.block p.block hp hs)
theorem Touch.frozen {S : Nat → Prop} {w w' : World} (h : Touch S w w') {p : Addr} (hp : p.block < w.heap.size) (hs : ¬ S p.block) : w'.frozen? p = w.frozen? p := World.frozen?_of_block (w := w) (h.block p.block hp hs)
theorem Touch.at {S : Nat → Prop} {w w' : World} (h : Touch S w w') {p : Addr} {v : Value} (hv : w.cell? p = some v) (hs : ¬ S p.block) : w'.cell? p = some v :=
 (h.cell (World.block_lt_of_cell? w p hv) hs).trans hv
theorem Touch.owns {S : Nat → Prop} {w w' : World} (h : Touch S w w') {base : Nat} {e : TypeId} {size : Nat} {v : Value} {n : Nat} {xs : List Value} (ho : w.ownsRow base e size v n xs) (hs : ∀ k, v.ownBlock = some k → ¬ S k) : w'.ownsRow base e size v n xs := by
 refine ⟨ho.1, ?_⟩
 rcases ho.2 with hn | ⟨g, cap, cur, rfl, hb, hgg, rest⟩
 ·exact .inl hn
 ·refine .inr ⟨g, cap, cur, rfl, hb, ?_, rest⟩
  rw [h.block g (Array.getElem?_eq_some_iff.1 hgg).1 (hs g rfl)]
  exact hgg
def Typed (w : World) (k : Nat) (t : TypeId) : Prop := ∃ cs fr, w.heap[k]? = some (.cells cs t fr)
theorem Typed.lt {w : World} {k : Nat} {t : TypeId} (h : Typed w k t) : k < w.heap.size := by
 obtain ⟨cs, fr, h⟩ := h; exact (Array.getElem?_eq_some_iff.1 h).1
theorem Typed.keep {S : Nat → Prop} {w w' : World} {k : Nat} {t : TypeId} (h : Typed w k t) (ht : Touch S w w') (hs : ¬ S k) : Typed w' k t := by
 have hl := h.lt
 obtain ⟨cs, fr, h⟩ := h; exact ⟨cs, fr, (ht.block k hl hs).trans h⟩
theorem Typed.ne {w : World} {k : Nat} {t u : TypeId} (h : Typed w k t) (h' : Typed w k u) : t = u := by
 obtain ⟨cs, fr, h⟩ := h; obtain ⟨cs', fr', h'⟩ := h'; rw [h] at h'; cases h'; rfl
theorem Typed.owned {w : World} {base : Nat} {e : TypeId} {size : Nat} {v : Value} {n : Nat} {xs : List Value} (h : w.ownsRow base e size v n xs) {k : Nat} (hk : v.ownBlock = some k) : Typed w k e := by
 rcases h.2 with ⟨rfl, _⟩ | ⟨g, cap, cur, rfl, _, hg, _⟩
 ·cases hk
 ·cases hk; exact ⟨_, _, hg⟩
theorem Typed.set {w : World} {k : Nat} {t : TypeId} (h : Typed w k t) (a : Addr) (v : Value) : Typed (w.setCell a v) k t := by
 obtain ⟨cs, fr, h⟩ := h
 by_cases e : k = a.block
 ·subst e
  simp only [Typed, World.setCell, Array.getElem?_modify, if_true, h]
  exact ⟨_, _, rfl⟩
 ·exact ⟨cs, fr, (Below.heap_setCell _ _ _ _ e).trans h⟩
theorem Typed.drewN {w : World} {k : Nat} {t : TypeId} (h : Typed w k t) (n : Nat) : Typed (w.drewN n) k t := h
theorem Typed.drew {w : World} {k : Nat} {t : TypeId} (h : Typed w k t) : Typed w.drew k t := h
theorem Typed.alloc {w : World} {k : Nat} {t : TypeId} (h : Typed w k t) (o : Obj) : Typed (w.alloc o) k t := by
 have hl := h.lt
 obtain ⟨cs, fr, h⟩ := h; exact ⟨cs, fr, (Below.heap_alloc _ _ _ hl).trans h⟩
theorem cell_drewN (w : World) (n : Nat) (a : Addr) : (w.drewN n).cell? a = w.cell? a := rfl
theorem frozen_drewN (w : World) (n : Nat) (a : Addr) : (w.drewN n).frozen? a = w.frozen? a := rfl
theorem size_drewN (w : World) (n : Nat) : (w.drewN n).heap.size = w.heap.size := rfl
theorem size_setCell (w : World) (a : Addr) (v : Value) : (w.setCell a v).heap.size = w.heap.size := by simp [World.setCell]
theorem ne_off {b i j : Nat} (h : i ≠ j) : (⟨b, i, none⟩ : Addr) ≠ ⟨b, j, none⟩ := by intro e; cases e; exact h rfl
theorem cell_set_ne {w : World} {b i j : Nat} {v : Value} (h : i ≠ j) : (w.setCell ⟨b, i, none⟩ v).cell? ⟨b, j, none⟩ = w.cell? ⟨b, j, none⟩ := by apply World.cell?_setCell_other; exact ne_off h
theorem cell_set_if (w : World) (b i b' j : Nat) (v : Value) : (w.setCell ⟨b, i, none⟩ v).cell? ⟨b', j, none⟩ = if b = b' ∧ i = j then (w.cell? ⟨b', j, none⟩).map (fun _ => v) else w.cell? ⟨b', j, none⟩ := by
 by_cases h : b = b' ∧ i = j
 ·obtain ⟨rfl, rfl⟩ := h
  rw [if_pos ⟨rfl, rfl⟩]
  cases hc : w.cell? ⟨b, i, none⟩ with
  | none => 
   rw [Option.map_none]
   by_cases hn : (w.setCell ⟨b, i, none⟩ v).cell? ⟨b, i, none⟩ = none
   ·exact hn
   ·exfalso
    revert hn hc
    simp only [World.cell?, World.setCell, Array.getElem?_modify]
    simp only [if_true]
    cases w.heap[b]? with
    | none => simp
    | some o => cases o <;> simp
  | some u => rw [Option.map_some]; apply World.cell?_setCell_same; exact hc
 ·rw [if_neg h]
  apply World.cell?_setCell_other
  intro e; cases e; exact h ⟨rfl, rfl⟩
theorem ret_int {k : IntKind} {a b : Int} (h : a = b) : Ending.returned (.int k a) = .returned (.int k b) := by rw [h]
end Go.Proofs.YtnmkmmgaoplfiaaGreatDoor
namespace Go.Proofs.YtnmkmmgaoplfiaaGreatDoor
def bitOf (s : ByteArray) (i : Nat) : Nat := if h : i / 8 < s.size then (s[i / 8].toNat / 2 ^ (i % 8)) % 2 else 0
def numAt (s : ByteArray) (p : Nat) : Nat → Nat
 | 0 => 0
 | n + 1 => numAt s p n + bitOf s (p + n) * 2 ^ n
theorem bitOf_lt (s : ByteArray) (i : Nat) : bitOf s i < 2 := by unfold bitOf; split <;> omega
theorem numAt_lt (s : ByteArray) (p n : Nat) : numAt s p n < 2 ^ n := by
 induction n with
 | zero => simp [numAt]
 | succ n ih =>
  have := bitOf_lt s (p + n)
  simp only [numAt]
  have : bitOf s (p + n) * 2 ^ n ≤ 1 * 2 ^ n := Nat.mul_le_mul_right _ (by omega)
  rw [Nat.pow_succ]; omega
theorem bitOf_end (s : ByteArray) (i : Nat) (h : 8 * s.size ≤ i) : bitOf s i = 0 := by unfold bitOf; rw [dif_neg (by omega)]
theorem bitOf_in (s : ByteArray) (k j : Nat) (hk : k < s.size) (hj : j < 8) : bitOf s (8 * k + j) = (s[k].toNat / 2 ^ j) % 2 := by
 unfold bitOf
 have h1 : (8 * k + j) / 8 = k := by omega
 have h2 : (8 * k + j) % 8 = j := by omega
 simp only [h1, h2]
 rw [dif_pos hk]
def cnt (L : List Nat) (n : Nat) : Nat := if n = 0 then 0 else L.count n
def firstOf (L : List Nat) : Nat → Nat
 | 0 => 0
 | n + 1 => 2 * (firstOf L n + cnt L n)
def placeOf (L : List Nat) : Nat → Nat
 | 0 => 0
 | n + 1 => placeOf L n + cnt L n
def freeOf (L : List Nat) : Nat → Int
 | 0 => 1
 | n + 1 => 2 * freeOf L n - (cnt L (n + 1) : Nat)
def nth : List Nat → Nat → Nat → Nat
 | [], _, _ => 0
 | x :: xs, n, r => if x = n then (if r = 0 then 0 else 1 + nth xs n (r - 1)) else 1 + nth xs n r
def decGo (L : List Nat) (s : ByteArray) (p : Nat) : Nat → Nat → Nat → Option (Nat × Nat)
 | 0, _, _ => none
 | f + 1, n, x =>
  let y := 2 * x + bitOf s (p + n)
  if 8 * s.size < p + n + 1 then none
  else if firstOf L (n + 1) ≤ y ∧ y < firstOf L (n + 1) + cnt L (n + 1) then some (nth L (n + 1) (y - firstOf L (n + 1)), p + n + 1)
  else decGo L s p f (n + 1) y
def dec (L : List Nat) (s : ByteArray) (p : Nat) : Option (Nat × Nat) := decGo L s p 15 0 0
theorem cnt_le (L : List Nat) (n : Nat) : cnt L n ≤ L.length := by unfold cnt; split; omega; exact List.count_le_length
theorem nth_at : ∀ (L : List Nat) (n i : Nat) (h : i < L.length), L[i] = n → nth L n ((L.take i).count n) = i
 | x :: xs, n, 0, _, e => by simp at e; subst e; simp [nth]
 | x :: xs, n, i + 1, h, e => by
  simp only [List.length_cons] at h
  simp at e
  have ih := nth_at xs n i (by omega) e
  by_cases hx : x = n
  ·subst hx; simp [nth, ih]; omega
  ·simp [nth, hx, List.count_cons, ih]; omega
theorem nth_ex : ∀ (L : List Nat) (n r : Nat), r < L.count n → ∃ i, ∃ h : i < L.length, L[i] = n ∧ (L.take i).count n = r
 | [], n, r, h => by simp at h
 | x :: xs, n, r, h => by
  by_cases hx : x = n
  ·subst hx
   by_cases hr : r = 0
   ·subst hr; exact ⟨0, by simp, by simp, by simp⟩
   ·rw [List.count_cons_self] at h
    obtain ⟨i, hi, h1, h2⟩ := nth_ex xs x (r - 1) (by omega)
    exact ⟨i + 1, by simpa using hi, by simpa using h1, by simp [h2]; omega⟩
  ·rw [List.count_cons_of_ne hx] at h
   obtain ⟨i, hi, h1, h2⟩ := nth_ex xs n r h
   exact ⟨i + 1, by simpa using hi, by simpa using h1, by simp [List.count_cons, h2, hx]⟩
theorem nth_lt (L : List Nat) (n r : Nat) (h : r < L.count n) : nth L n r < L.length := by
 obtain ⟨i, hi, h1, h2⟩ := nth_ex L n r h
 rw [← h2, nth_at L n i hi h1]; exact hi
theorem placeOf_le (L : List Nat) (n : Nat) : placeOf L n ≤ n * L.length := by
 induction n with
 | zero => simp [placeOf]
 | succ n ih => simp only [placeOf, Nat.succ_mul]; have := cnt_le L n; omega
theorem placeOf_mono (L : List Nat) {m n : Nat} (h : m ≤ n) : placeOf L m ≤ placeOf L n := by
 induction h with
 | refl => exact Nat.le_refl _
 | step _ ih => simp only [placeOf]; omega
theorem placeOf_end (L : List Nat) {n r : Nat} (hn : n < 16) (hr : r < cnt L n) : placeOf L n + r < placeOf L 16 := by
 have := placeOf_mono L (show n + 1 ≤ 16 by omega)
 simp only [placeOf] at this ⊢; omega
theorem free_bd (L : List Nat) (hL : L.length ≤ 400) (n : Nat) : -(((2 ^ n : Nat) : Int) - 1) * 400 ≤ freeOf L n ∧ freeOf L n ≤ ((2 ^ n : Nat) : Int) := by
 induction n with
 | zero => simp [freeOf]
 | succ n ih =>
  have h := cnt_le L (n + 1)
  simp only [freeOf, Nat.pow_succ]
  generalize 2 ^ n = x at *
  generalize freeOf L n = y at *
  generalize cnt L (n + 1) = z at *
  omega
theorem free_bd15 (L : List Nat) (hL : L.length ≤ 400) (n : Nat) (hn : n ≤ 15) : -13107200 ≤ freeOf L n ∧ freeOf L n ≤ 32768 := by
 have h := free_bd L hL n
 have h2 : 2 ^ n ≤ 2 ^ 15 := Nat.pow_le_pow_right (by omega) hn
 generalize 2 ^ n = x at *
 generalize freeOf L n = y at *
 omega
theorem placeOf_cons (x : Nat) (xs : List Nat) (m : Nat) : placeOf (x :: xs) m = placeOf xs m + if 0 < x ∧ x < m then 1 else 0 := by
 induction m with
 | zero => simp [placeOf]
 | succ m ih =>
  simp only [placeOf, ih, cnt, List.count_cons]
  by_cases hm : m = 0
  ·subst hm; simp; intro; omega
  ·simp only [hm, if_false, beq_iff_eq]
   by_cases hx : x = m
   ·subst hx
    rw [if_pos rfl, if_neg (by omega), if_pos (by omega)]; omega
   ·rw [if_neg hx]
    by_cases h1 : 0 < x ∧ x < m
    ·rw [if_pos h1, if_pos (by omega)]; omega
    ·rw [if_neg h1, if_neg (by omega)]; omega
theorem placeOf_total : ∀ (L : List Nat), (∀ x ∈ L, x ≤ 15) → placeOf L 16 + L.count 0 = L.length
 | [], _ => by simp [placeOf, cnt]
 | x :: xs, h => by
  have ih := placeOf_total xs (fun y hy => h y (List.mem_cons_of_mem _ hy))
  have hx := h x List.mem_cons_self
  rw [placeOf_cons, List.count_cons, List.length_cons]
  by_cases h0 : x = 0
  ·subst h0; simp; omega
  ·rw [if_pos (by omega), if_neg (by simpa using h0)]; omega
def order : List Nat := [16, 17, 18, 0, 8, 7, 9, 6, 10, 5, 11, 4, 12, 3, 13, 2, 14, 1, 15]
def lens3 (s : ByteArray) (p : Nat) : Nat → List Nat
 | 0 => List.replicate 19 0
 | n + 1 => (lens3 s p n).set (order.getD n 0) (numAt s (p + 3 * n) 3)
theorem lens3_len (s : ByteArray) (p n : Nat) : (lens3 s p n).length = 19 := by
 induction n with
 | zero => rfl
 | succ n ih => simp [lens3, ih]
theorem lens3_le (s : ByteArray) (p n : Nat) : ∀ x ∈ lens3 s p n, x ≤ 15 := by
 induction n with
 | zero => intro x hx; simp only [lens3, List.mem_replicate] at hx; omega
 | succ n ih =>
  intro x hx
  rcases List.mem_or_eq_of_mem_set hx with h | h
  ·exact ih x h
  ·have := numAt_lt s (p + 3 * n) 3; omega
theorem order_lt (n : Nat) (h : n < 19) : order.getD n 0 < 19 := by
 have : ∀ n : Fin 19, order.getD n.val 0 < 19 := by decide
 exact this ⟨n, h⟩
end Go.Proofs.YtnmkmmgaoplfiaaGreatDoor
