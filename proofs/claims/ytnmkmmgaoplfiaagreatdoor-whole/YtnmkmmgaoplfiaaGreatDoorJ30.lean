/- Texts of this seat, joined. -/
import Derived.Test.YtnmkmmgaoplfiaaGreatDoorJ29
import Derived.Test.YtnmkmmgaoplfiaaGreatDoorJ12
import Derived.Deep.DeepCutAuto
set_option linter.unusedSimpArgs false
set_option linter.unusedVariables false
set_option maxHeartbeats 20000000
namespace Go.Proofs.YtnmkmmgaoplfiaaGreatDoor
open Go.RowKit
def fourOf (e : Ent) : Nat × Nat × Nat := (numIn e.three 0 4, numIn e.three 4 4, numIn e.three 8 4)
theorem XB.other {w : World} {b c : Nat} {l : List Value} (h : XB w b l) (k : Nat) (v : Value) (hne : b ≠ c) : XB (w.setCell ⟨c, k, none⟩ v) b l :=
 h.keep (touch_set w c k v) hne
theorem name_pos (s : ByteArray) (h : nameOk s = true) : 0 < s.size := by
 by_cases h0 : s.size = 0
 ·exfalso
  have e : s.toList = [] := by rw [ByteArray.toList_eq]; exact List.eq_nil_of_length_eq_zero (by simpa using h0)
  unfold nameOk bareL folderB at h
  rw [e] at h
  simp [partsGo, partOk] at h
 ·omega
end Go.Proofs.YtnmkmmgaoplfiaaGreatDoor
namespace Go.Proofs.YtnmkmmgaoplfiaaGreatDoor
open Go.RowKit
def hdB0 (s : ByteArray) (e : Ent) : Nat := e.ahead + 30 + numIn s (e.ahead + 26) 2 + numIn s (e.ahead + 28) 2
def hdT0 (s : ByteArray) (e : Ent) : Nat := hdB0 s e + e.packed + (if laterB e then 16 else 0)
@[reducible] def Hd1 (s : ByteArray) (P : Nat) (e : Ent) : Prop := e.ahead + 30 ≤ P ∧ hdT0 s e ≤ P ∧ markB s e.ahead 3 4 = true ∧ numIn s (e.ahead + 6) 2 = e.flags ∧ numIn s (e.ahead + 8) 2 = e.method ∧ s.extract (e.ahead + 30) (e.ahead + 30 + numIn s (e.ahead + 26) 2) = e.name
@[reducible] def Hd2 (s : ByteArray) (e : Ent) : Prop := (numIn s (e.ahead + 14) 4 = (fourOf e).1 ∧ numIn s (e.ahead + 18) 4 = (fourOf e).2.1 ∧ numIn s (e.ahead + 22) 4 = (fourOf e).2.2) ∨ (laterB e = true ∧ numIn s (e.ahead + 14) 4 = 0 ∧ numIn s (e.ahead + 18) 4 = 0 ∧ numIn s (e.ahead + 22) 4 = 0)
@[reducible] def Hd3 (s : ByteArray) (e : Ent) : Prop := laterB e = true → markB s (hdB0 s e + e.packed) 7 8 = true ∧ numIn s (hdB0 s e + e.packed + 4) 4 = e.sum ∧ numIn s (hdB0 s e + e.packed + 8) 4 = e.packed % 4294967296 ∧ numIn s (hdB0 s e + e.packed + 12) 4 = e.size % 4294967296
end Go.Proofs.YtnmkmmgaoplfiaaGreatDoor
namespace Go.Proofs.YtnmkmmgaoplfiaaGreatDoor
open Go.RowKit
structure RE where
 ent : Ent
 place : Nat
 from_ : Nat
 to_ : Nat
def refC (x : RE) : List Value := refL x.ent (fourOf x.ent) x.place x.from_ x.to_
def rawE (e : Ent) : RE := ⟨e, 0, 0, 0⟩
structure RefAt (w : World) (g : Nat) (L : List RE) : Prop where
 cells : ∀ i (h : i < L.length) j, j < 13 → w.cell? ⟨g, i * 13 + j, none⟩ = (refC L[i])[j]?
 frozen : ∀ i, w.frozen? ⟨g, i, none⟩ = false
 lt : g < w.heap.size
theorem RefAt.keep {S : Nat → Prop} {w w' : World} {g : Nat} {L : List RE} (h : RefAt w g L) (ht : Touch S w w') (hs : ¬ S g) : RefAt w' g L :=
 ⟨fun i hi j hj => (ht.cell (p := ⟨g, i * 13 + j, none⟩) h.lt hs).trans (h.cells i hi j hj), fun i => (ht.frozen (p := ⟨g, i, none⟩) h.lt hs).trans (h.frozen i), Nat.lt_of_lt_of_le h.lt ht.size⟩
structure Refs (w : World) (a : Option Addr) (g : Nat) (L : List RE) : Prop where
 ptr : 0 < L.length → a = some ⟨g, 0, none⟩
 at_ : 0 < L.length → RefAt w g L
theorem Refs.keep {S : Nat → Prop} {w w' : World} {a : Option Addr} {g : Nat} {L : List RE} (h : Refs w a g L) (ht : Touch S w w') (hs : ¬ S g) : Refs w' a g L :=
 ⟨h.ptr, fun h0 => (h.at_ h0).keep ht hs⟩
theorem Refs.drewN {w : World} {a : Option Addr} {g : Nat} {L : List RE} (h : Refs w a g L) (n : Nat) : Refs (w.drewN n) a g L := h.keep ((Touch.refl (fun _ => False) w).drewN n) (fun e => e)
theorem XB.drewN {w : World} {b : Nat} {l : List Value} (h : XB w b l) (n : Nat) : XB (w.drewN n) b l := h.keep ((Touch.refl (fun _ => False) w).drewN n) (fun e => e)
def NoPair {α : Type} (r : α → α → Bool) (l : List α) (i : Nat) : Prop := ∀ a b (ha : a < l.length) (hb : b < l.length), a < b → b < i → r l[a] l[b] = false
theorem NoPair.all {α : Type} {r : α → α → Bool} {l : List α} (h : NoPair r l l.length) : anyPair r l = false := by
 rw [anyPair_false, List.pairwise_iff_getElem]
 exact fun i j hi hj hij => h i j hi hj hij hj
theorem NoPair.step {α : Type} {r : α → α → Bool} {l : List α} {i : Nat} (h : NoPair r l i) (hi : i < l.length) (hk : ∀ k (hk : k < i), r (l[k]'(by omega)) l[i] = false) : NoPair r l (i + 1) := by
 intro a b ha hb hab hbi
 by_cases e : b = i
 ·subst e; exact hk a hab
 ·exact h a b ha hb hab (by omega)
def putTo (f : Ent → RE) (l : List Ent) (k : Nat) : List RE := (l.take k).map f ++ (l.drop k).map rawE
theorem putTo_len (f : Ent → RE) (l : List Ent) (k : Nat) : (putTo f l k).length = l.length := by
 unfold putTo; rw [List.length_append, List.length_map, List.length_map, List.length_take, List.length_drop]; omega
theorem putTo_get (f : Ent → RE) (l : List Ent) (k i : Nat) (hi : i < l.length) : (putTo f l k)[i]'(by rw [putTo_len]; exact hi) = if i < k then f l[i] else rawE l[i] := by
 unfold putTo
 by_cases h : i < k
 ·rw [List.getElem_append_left (by rw [List.length_map, List.length_take]; omega), if_pos h]
  simp
 ·rw [List.getElem_append_right (by rw [List.length_map, List.length_take]; omega), if_neg h]
  simp only [List.getElem_map, List.getElem_drop, List.length_map, List.length_take]
  congr 1
  congr 1
  omega
theorem RefAt.put {w w' : World} {g : Nat} {f : Ent → RE} {l : List Ent} {k : Nat} (h : RefAt w g (putTo f l k)) (hk : k < l.length) (hent : ∀ j, j < 13 → w'.cell? ⟨g, k * 13 + j, none⟩ = (refC (f l[k]))[j]?) (ho : ∀ i j, i ≠ k → j < 13 → w'.cell? ⟨g, i * 13 + j, none⟩ = w.cell? ⟨g, i * 13 + j, none⟩) (hz : ∀ i, w'.frozen? ⟨g, i, none⟩ = false) (hl : g < w'.heap.size) : RefAt w' g (putTo f l (k + 1)) := by
 refine ⟨fun i hi j hj => ?_, hz, hl⟩
 have hi' : i < l.length := by rw [putTo_len] at hi; exact hi
 rw [putTo_get f l (k + 1) i hi']
 by_cases e : i = k
 ·subst e
  rw [if_pos (by omega)]; exact hent j hj
 ·rw [ho i j e hj, h.cells i (by rw [putTo_len]; exact hi') j hj, putTo_get f l k i hi']
  by_cases h2 : i < k
  ·rw [if_pos h2, if_pos (by omega)]
  ·rw [if_neg h2, if_neg (by omega)]
end Go.Proofs.YtnmkmmgaoplfiaaGreatDoor
