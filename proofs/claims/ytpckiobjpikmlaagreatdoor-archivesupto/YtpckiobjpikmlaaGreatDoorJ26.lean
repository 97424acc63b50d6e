/- Texts of this seat, joined. -/
import Derived.Test.YtpckiobjpikmlaaGreatDoorJ25
import Derived.Test.YtpckiobjpikmlaaGreatDoorJ18
import Derived.Deep.DeepCutAuto
set_option linter.unusedSimpArgs false
set_option linter.unusedVariables false
set_option maxHeartbeats 20000000
namespace Go.Proofs.YtpckiobjpikmlaaGreatDoor
open Go.RowKit
def anyE (r : Ending) (k : Nat) : Prop := ∃ (nm : ByteArray) (x1 x2 x3 x4 x5 x6 x7 x8 x9 x10 x11 x12 : Int), r = .returned (.tuple #[.agg #[.string nm, .int .i64 x1, .int .i64 x2, .int .i64 x3, .int .i64 x4, .int .i64 x5, .int .i64 x6, .int .i64 x7, .int .i64 x8, .int .i64 x9, .int .i64 x10, .int .i64 x11, .int .i64 x12], .int .i64 0, .int .i64 (k : Int)])
def fourOf (e : Ent) : Nat × Nat × Nat := (numIn e.three 0 4, numIn e.three 4 4, numIn e.three 8 4)
def rentPost (R : Option (Ent × Nat)) (r : Ending) : Prop := match R with
 | none => anyE r 5
 | some (e, q) => if faultOf e = 0 then r = .returned (.tuple #[.agg (refL e (fourOf e) 0 0 0).toArray, .int .i64 (q : Int), .int .i64 0]) else anyE r (faultOf e)
theorem rent_none {R : Option (Ent × Nat)} (h : R = none) (nm : ByteArray) (x1 x2 x3 x4 x5 x6 x7 x8 x9 x10 x11 x12 : Int) : rentPost R (.returned (.tuple #[.agg #[.string nm, .int .i64 x1, .int .i64 x2, .int .i64 x3, .int .i64 x4, .int .i64 x5, .int .i64 x6, .int .i64 x7, .int .i64 x8, .int .i64 x9, .int .i64 x10, .int .i64 x11, .int .i64 x12], .int .i64 0, .int .i64 5])) := by
 subst h; exact ⟨nm, x1, x2, x3, x4, x5, x6, x7, x8, x9, x10, x11, x12, rfl⟩
theorem rent_fault {R : Option (Ent × Nat)} {e : Ent} {q k : Nat} (h : R = some (e, q)) (hk : faultOf e = k) (h0 : k ≠ 0) (nm : ByteArray) (x1 x2 x3 x4 x5 x6 x7 x8 x9 x10 x11 x12 : Int) : rentPost R (.returned (.tuple #[.agg #[.string nm, .int .i64 x1, .int .i64 x2, .int .i64 x3, .int .i64 x4, .int .i64 x5, .int .i64 x6, .int .i64 x7, .int .i64 x8, .int .i64 x9, .int .i64 x10, .int .i64 x11, .int .i64 x12], .int .i64 0, .int .i64 (k : Int)])) := by
 subst h
 show (if faultOf e = 0 then _ else anyE _ (faultOf e))
 rw [hk, if_neg h0]
 exact ⟨nm, x1, x2, x3, x4, x5, x6, x7, x8, x9, x10, x11, x12, rfl⟩
theorem XB.other {w : World} {b c : Nat} {l : List Value} (h : XB w b l) (k : Nat) (v : Value) (hne : b ≠ c) : XB (w.setCell ⟨c, k, none⟩ v) b l :=
 h.keep (touch_set w c k v) hne
theorem name_pos (s : ByteArray) (h : nameOk s = true) : 0 < s.size := by
 by_cases h0 : s.size = 0
 ·exfalso
  have e : s.toList = [] := by rw [ByteArray.toList_eq]; exact List.eq_nil_of_length_eq_zero (by simpa using h0)
  unfold nameOk bareL folderB at h
  rw [e] at h
  simp [partsGo, partOk] at h
 ·omega
theorem rent_ok {R : Option (Ent × Nat)} {e : Ent} {q : Nat} {n16 n20 n24 : Nat} {Q : Int} (h : R = some (e, q)) (hk : faultOf e = 0) (hf : fourOf e = (n16, n20, n24)) (hq : Q = (q : Int)) :
  rentPost R (.returned (.tuple #[.agg #[.string e.name, .int .i64 (e.method : Int), .int .i64 (e.sum : Int), .int .i64 (e.packed : Int), .int .i64 (e.size : Int), .int .i64 0, .int .i64 (e.flags : Int), .int .i64 (e.ahead : Int), .int .i64 (n16 : Int), .int .i64 (n20 : Int), .int .i64 (n24 : Int), .int .i64 0, .int .i64 0], .int .i64 Q, .int .i64 0])) := by
 subst h hq
 show (if faultOf e = 0 then _ else anyE _ (faultOf e))
 rw [if_pos hk, hf]; rfl
end Go.Proofs.YtpckiobjpikmlaaGreatDoor
namespace Go.Proofs.YtpckiobjpikmlaaGreatDoor
open Go.RowKit
theorem entAt_three (s : ByteArray) (E p : Nat) (e : Ent) (q : Nat) (hE : E ≤ s.size) (h : entAt s E p = some (e, q)) : e.three.size = 12 := by
 unfold entAt at h
 simp only at h
 split at h
 ·rename_i hc
  cases hw : wideGo s (p + 46 + numIn s (p + 28) 2 + numIn s (p + 30) 2) (numIn s (p + 30) 2 + 1) (p + 46 + numIn s (p + 28) 2) none with
  | none => rw [hw] at h; cases h
  | some found =>
   rw [hw] at h
   simp only [Option.bind_some] at h
   cases hm : meantAll s (found.getD (0, 0)).1 (found.getD (0, 0)).2 (numIn s (p + 24) 4) (numIn s (p + 20) 4) (numIn s (p + 42) 4) with
   | none => rw [hm] at h; cases h
   | some m =>
    rw [hm] at h
    simp only [Option.bind_some, Option.some.injEq, Prod.mk.injEq] at h
    obtain ⟨rfl, rfl⟩ := h
    show (s.extract (p + 16) (p + 28)).size = 12
    rw [ByteArray.size_extract]; omega
 ·cases h
theorem entsGo_each (s : ByteArray) (E : Nat) (hE : E ≤ s.size) : ∀ (f p : Nat) (acc l : List Ent), entsGo s E f p acc = .ok l → (∀ e ∈ acc, EntOk e ∧ faultOf e = 0 ∧ e.three.size = 12) → ∀ e ∈ l, EntOk e ∧ faultOf e = 0 ∧ e.three.size = 12
 | 0, p, acc, l, h, ha => by
  unfold entsGo at h
  split at h
  ·cases h; exact ha
  ·cases h
 | f + 1, p, acc, l, h, ha => by
  unfold entsGo at h
  split at h
  ·cases h
  ·rename_i e q he
   split at h
   ·rename_i hf
    refine entsGo_each s E hE f q _ l h ?_
    intro x hx
    rw [List.mem_append] at hx
    rcases hx with hx | hx
    ·exact ha x hx
    ·simp at hx; rw [hx]; exact ⟨(entAt_ok s E p e q he).2.2, hf, entAt_three s E p e q hE he⟩
   ·cases h
def hdB0 (s : ByteArray) (e : Ent) : Nat := e.ahead + 30 + numIn s (e.ahead + 26) 2 + numIn s (e.ahead + 28) 2
def hdT0 (s : ByteArray) (e : Ent) : Nat := hdB0 s e + e.packed + (if laterB e then 16 else 0)
@[reducible] def Hd1 (s : ByteArray) (P : Nat) (e : Ent) : Prop := e.ahead + 30 ≤ P ∧ hdT0 s e ≤ P ∧ markB s e.ahead 3 4 = true ∧ numIn s (e.ahead + 6) 2 = e.flags ∧ numIn s (e.ahead + 8) 2 = e.method ∧ s.extract (e.ahead + 30) (e.ahead + 30 + numIn s (e.ahead + 26) 2) = e.name
@[reducible] def Hd2 (s : ByteArray) (e : Ent) : Prop := (numIn s (e.ahead + 14) 4 = (fourOf e).1 ∧ numIn s (e.ahead + 18) 4 = (fourOf e).2.1 ∧ numIn s (e.ahead + 22) 4 = (fourOf e).2.2) ∨ (laterB e = true ∧ numIn s (e.ahead + 14) 4 = 0 ∧ numIn s (e.ahead + 18) 4 = 0 ∧ numIn s (e.ahead + 22) 4 = 0)
@[reducible] def Hd3 (s : ByteArray) (e : Ent) : Prop := laterB e = true → markB s (hdB0 s e + e.packed) 7 8 = true ∧ numIn s (hdB0 s e + e.packed + 4) 4 = e.sum ∧ numIn s (hdB0 s e + e.packed + 8) 4 = e.packed % 4294967296 ∧ numIn s (hdB0 s e + e.packed + 12) 4 = e.size % 4294967296
theorem spanAt_ref (s : ByteArray) (P : Nat) (e : Ent) (hP : P ≤ s.size) (h3 : e.three.size = 12) : (¬ (Hd1 s P e ∧ Hd2 s e ∧ Hd3 s e) → spanAt s P e = none) ∧ (Hd1 s P e ∧ Hd2 s e ∧ Hd3 s e → spanAt s P e = some (hdB0 s e, hdT0 s e)) := by
 have key : (Hd1 s P e ∧ Hd2 s e ∧ Hd3 s e) ↔ (e.ahead + 30 ≤ P ∧ hdB0 s e + e.packed + (if laterB e then 16 else 0) ≤ P ∧ markB s e.ahead 3 4 = true ∧ numIn s (e.ahead + 6) 2 = e.flags ∧ numIn s (e.ahead + 8) 2 = e.method ∧ s.extract (e.ahead + 30) (e.ahead + 30 + numIn s (e.ahead + 26) 2) = e.name
   ∧ (s.extract (e.ahead + 14) (e.ahead + 26) = e.three ∨ (laterB e = true ∧ s.extract (e.ahead + 14) (e.ahead + 26) = ⟨#[0, 0, 0, 0, 0, 0, 0, 0, 0, 0, 0, 0]⟩))
   ∧ (laterB e = true → markB s (hdB0 s e + e.packed) 7 8 = true ∧ numIn s (hdB0 s e + e.packed + 4) 4 = e.sum ∧ numIn s (hdB0 s e + e.packed + 8) 4 = e.packed % 4294967296 ∧ numIn s (hdB0 s e + e.packed + 12) 4 = e.size % 4294967296)) := by
  have t1 : e.ahead + 30 ≤ P → (s.extract (e.ahead + 14) (e.ahead + 26) = e.three ↔ numIn s (e.ahead + 14) 4 = (fourOf e).1 ∧ numIn s (e.ahead + 18) 4 = (fourOf e).2.1 ∧ numIn s (e.ahead + 22) 4 = (fourOf e).2.2) := fun h => twelve s e.three (e.ahead + 14) (by omega) h3
  have t2 : e.ahead + 30 ≤ P → (s.extract (e.ahead + 14) (e.ahead + 26) = ⟨#[0, 0, 0, 0, 0, 0, 0, 0, 0, 0, 0, 0]⟩ ↔ numIn s (e.ahead + 14) 4 = 0 ∧ numIn s (e.ahead + 18) 4 = 0 ∧ numIn s (e.ahead + 22) 4 = 0) := fun h => twelve_nought s (e.ahead + 14) (by omega)
  constructor
  ·rintro ⟨⟨a1, a2, a3, a4, a5, a6⟩, b, c⟩
   exact ⟨a1, a2, a3, a4, a5, a6, b.imp (t1 a1).2 (fun h => ⟨h.1, (t2 a1).2 h.2⟩), c⟩
  ·rintro ⟨a1, a2, a3, a4, a5, a6, b, c⟩
   exact ⟨⟨a1, a2, a3, a4, a5, a6⟩, b.imp (t1 a1).1 (fun h => ⟨h.1, (t2 a1).1 h.2⟩), c⟩
 constructor
 ·intro h
  rw [key] at h
  exact if_neg h
 ·intro h
  rw [key] at h
  exact if_pos h
end Go.Proofs.YtpckiobjpikmlaaGreatDoor
namespace Go.Proofs.YtpckiobjpikmlaaGreatDoor
open Go.RowKit
structure RE where
 ent : Ent
 place : Nat
 from_ : Nat
 to_ : Nat
def refC (x : RE) : List Value := refL x.ent (fourOf x.ent) x.place x.from_ x.to_
def rawE (e : Ent) : RE := ⟨e, 0, 0, 0⟩
def spnE (x : Spanned) : RE := ⟨x.ent, x.place, x.ent.ahead, x.stop⟩
structure RefAt (w : World) (g : Nat) (L : List RE) : Prop where
 cells : ∀ i (h : i < L.length) j, j < 13 → w.cell? ⟨g, i * 13 + j, none⟩ = (refC L[i])[j]?
 frozen : ∀ i, w.frozen? ⟨g, i, none⟩ = false
 lt : g < w.heap.size
theorem RefAt.keep {S : Nat → Prop} {w w' : World} {g : Nat} {L : List RE} (h : RefAt w g L) (ht : Touch S w w') (hs : ¬ S g) : RefAt w' g L :=
 ⟨fun i hi j hj => (ht.cell (p := ⟨g, i * 13 + j, none⟩) h.lt hs).trans (h.cells i hi j hj), fun i => (ht.frozen (p := ⟨g, i, none⟩) h.lt hs).trans (h.frozen i), Nat.lt_of_lt_of_le h.lt ht.size⟩
def refV (l : List Ent) : List Value := l.flatMap fun e => refC (rawE e)
theorem refV_snoc (l : List Ent) (e : Ent) : refV (l ++ [e]) = refV l ++ refC (rawE e) := by simp [refV]
theorem refV_get (l : List Ent) : ∀ i (h : i < l.length) j, j < 13 → (refV l)[i * 13 + j]? = (refC (rawE l[i]))[j]? := by
 induction l with
 | nil => intro i h; simp at h
 | cons a l ih =>
  intro i h j hj
  have e : refV (a :: l) = refC (rawE a) ++ refV l := rfl
  have hl : (refC (rawE a)).length = 13 := rfl
  cases i with
  | zero => rw [e, List.getElem?_append_left (by omega)]; simp
  | succ i =>
   have := ih i (by simpa using h) j hj
   rw [e, List.getElem?_append_right (by omega), hl, show (i + 1) * 13 + j - 13 = i * 13 + j by omega, this]
   rfl
theorem RefAt.owned {w : World} {base g cap : Nat} {l : List Ent} (h : w.ownsRow base 185 13 (.slice (some ⟨g, 0, none⟩) l.length cap) l.length (refV l)) : base ≤ g ∧ RefAt w g (l.map rawE) := by
 obtain ⟨h1, ⟨h2, _⟩ | ⟨g', cap', cur, e, hb, hg, h3, h4, h5, h6⟩⟩ := h
 ·cases h2
 ·cases e
  refine ⟨hb, ⟨fun i hi j hj => ?_, fun i => frozen_row hg i, (Array.getElem?_eq_some_iff.1 hg).1⟩⟩
  have hi' : i < l.length := by simpa using hi
  have hlt : i * 13 + j < l.length * 13 := by omega
  have := refV_get l i hi' j hj
  rw [row_cell hg (i * 13 + j)]
  simp only [List.getElem_map]
  rw [← this, ← h6, List.getElem?_take_of_lt hlt]; simp
structure Refs (w : World) (a : Option Addr) (g : Nat) (L : List RE) : Prop where
 ptr : 0 < L.length → a = some ⟨g, 0, none⟩
 at_ : 0 < L.length → RefAt w g L
theorem Refs.keep {S : Nat → Prop} {w w' : World} {a : Option Addr} {g : Nat} {L : List RE} (h : Refs w a g L) (ht : Touch S w w') (hs : ¬ S g) : Refs w' a g L :=
 ⟨h.ptr, fun h0 => (h.at_ h0).keep ht hs⟩
theorem Refs.drewN {w : World} {a : Option Addr} {g : Nat} {L : List RE} (h : Refs w a g L) (n : Nat) : Refs (w.drewN n) a g L := h.keep ((Touch.refl (fun _ => False) w).drewN n) (fun e => e)
theorem XB.drewN {w : World} {b : Nat} {l : List Value} (h : XB w b l) (n : Nat) : XB (w.drewN n) b l := h.keep ((Touch.refl (fun _ => False) w).drewN n) (fun e => e)
def rlistPost (base : Nat) (R : Except Nat (List Spanned)) (r : Ending) (w' : World) : Prop := match R with
 | .error k => r = .returned (.tuple #[.slice none 0 0, .int .i64 (k : Int)])
 | .ok L => ∃ a cap g, r = .returned (.tuple #[.slice a (L.map spnE).length cap, .int .i64 0]) ∧ base ≤ g ∧ Refs w' a g (L.map spnE)
def NoPair {α : Type} (r : α → α → Bool) (l : List α) (i : Nat) : Prop := ∀ a b (ha : a < l.length) (hb : b < l.length), a < b → b < i → r l[a] l[b] = false
theorem NoPair.all {α : Type} {r : α → α → Bool} {l : List α} (h : NoPair r l l.length) : anyPair r l = false := by
 rw [anyPair_false, List.pairwise_iff_getElem]
 exact fun i j hi hj hij => h i j hi hj hij hj
theorem NoPair.step {α : Type} {r : α → α → Bool} {l : List α} {i : Nat} (h : NoPair r l i) (hi : i < l.length) (hk : ∀ k (hk : k < i), r (l[k]'(by omega)) l[i] = false) : NoPair r l (i + 1) := by
 intro a b ha hb hab hbi
 by_cases e : b = i
 ·subst e; exact hk a hab
 ·exact h a b ha hb hab (by omega)
theorem anyPair_true {α : Type} {r : α → α → Bool} {l : List α} (k i : Nat) (hk : k < l.length) (hi : i < l.length) (hki : k < i) (h : r l[k] l[i] = true) : anyPair r l = true := by
 cases hh : anyPair r l with
 | true => rfl
 | false =>
  rw [anyPair_false, List.pairwise_iff_getElem] at hh
  rw [hh k i hk hi hki] at h; cases h
def sumE (l : List Ent) (sz : Ent → Nat) (i : Nat) : Nat := ((l.take i).map sz).sum
theorem sumE_succ (l : List Ent) (sz : Ent → Nat) (i : Nat) (h : i < l.length) : sumE l sz (i + 1) = sumE l sz i + sz l[i] := by
 unfold sumE; rw [List.take_succ_eq_append_getElem h, List.map_append, List.sum_append]; simp
theorem sumE_all (l : List Ent) (sz : Ent → Nat) : sumE l sz l.length = (l.map sz).sum := by
 unfold sumE; rw [List.take_length]
theorem sumE_le (l : List Ent) (sz : Ent → Nat) (B : Nat) (h : ∀ e ∈ l, sz e ≤ B) : ∀ i, i ≤ l.length → sumE l sz i ≤ i * B
 | 0, _ => by simp [sumE]
 | i + 1, hi => by
  have ih := sumE_le l sz B h i (by omega)
  rw [sumE_succ l sz i (by omega), Nat.add_mul]
  have := h l[i] (List.getElem_mem _)
  omega
def putTo (f : Ent → RE) (l : List Ent) (k : Nat) : List RE := (l.take k).map f ++ (l.drop k).map rawE
theorem putTo_len (f : Ent → RE) (l : List Ent) (k : Nat) : (putTo f l k).length = l.length := by
 unfold putTo; rw [List.length_append, List.length_map, List.length_map, List.length_take, List.length_drop]; omega
theorem putTo_zero (f : Ent → RE) (l : List Ent) : putTo f l 0 = l.map rawE := by simp [putTo]
theorem putTo_all (f : Ent → RE) (l : List Ent) : putTo f l l.length = l.map f := by simp [putTo]
theorem putTo_get (f : Ent → RE) (l : List Ent) (k i : Nat) (hi : i < l.length) : (putTo f l k)[i]'(by rw [putTo_len]; exact hi) = if i < k then f l[i] else rawE l[i] := by
 unfold putTo
 by_cases h : i < k
 ·rw [List.getElem_append_left (by rw [List.length_map, List.length_take]; omega), if_pos h]
  simp
 ·rw [List.getElem_append_right (by rw [List.length_map, List.length_take]; omega), if_neg h]
  simp only [List.getElem_map, List.getElem_drop, List.length_map, List.length_take]
  congr 1
  congr 1
  omega
theorem RefAt.put {w w' : World} {g : Nat} {f : Ent → RE} {l : List Ent} {k : Nat} (h : RefAt w g (putTo f l k)) (hk : k < l.length) (hent : ∀ j, j < 13 → w'.cell? ⟨g, k * 13 + j, none⟩ = (refC (f l[k]))[j]?) (ho : ∀ i j, i ≠ k → j < 13 → w'.cell? ⟨g, i * 13 + j, none⟩ = w.cell? ⟨g, i * 13 + j, none⟩) (hz : ∀ i, w'.frozen? ⟨g, i, none⟩ = false) (hl : g < w'.heap.size) : RefAt w' g (putTo f l (k + 1)) := by
 refine ⟨fun i hi j hj => ?_, hz, hl⟩
 have hi' : i < l.length := by rw [putTo_len] at hi; exact hi
 rw [putTo_get f l (k + 1) i hi']
 by_cases e : i = k
 ·subst e
  rw [if_pos (by omega)]; exact hent j hj
 ·rw [ho i j e hj, h.cells i (by rw [putTo_len]; exact hi') j hj, putTo_get f l k i hi']
  by_cases h2 : i < k
  ·rw [if_pos h2, if_pos (by omega)]
  ·rw [if_neg h2, if_neg (by omega)]
theorem spansOf_none_of (s : ByteArray) (P : Nat) : ∀ (l : List Ent) (e : Ent), e ∈ l → spanAt s P e = none → spansOf s P l = none
 | [], e, h, _ => by cases h
 | a :: l, e, h, hn => by
  unfold spansOf
  rw [List.mem_cons] at h
  rcases h with rfl | h
  ·rw [hn]; rfl
  ·cases spanAt s P a with
   | none => rfl
   | some p => rw [Option.bind_some, spansOf_none_of s P l e h hn]; rfl
def spnOf (s : ByteArray) (P : Nat) (e : Ent) : Spanned := match spanAt s P e with
 | some p => ⟨e, p.1, p.2⟩
 | none => ⟨e, 0, 0⟩
theorem spansOf_all (s : ByteArray) (P : Nat) : ∀ (l : List Ent), (∀ e ∈ l, spanAt s P e ≠ none) → spansOf s P l = some (l.map (spnOf s P))
 | [], _ => rfl
 | a :: l, h => by
  unfold spansOf
  have ih := spansOf_all s P l (fun e he => h e (List.mem_cons_of_mem _ he))
  cases ha : spanAt s P a with
  | none => exact absurd ha (h a (List.mem_cons_self ..))
  | some p => rw [Option.bind_some, ih]; simp [spnOf, ha]
def spanV : Option (Nat × Nat) → Value
 | none => .tuple #[.int .i64 0, .int .i64 0, .bool false]
 | some (b, t) => .tuple #[.int .i64 (b : Int), .int .i64 (t : Int), .bool true]
theorem RefAt.putIn {wr W : World} {g m sb stp P : Nat} {s : ByteArray} {l : List Ent} (hR : RefAt wr g (putTo (fun e => spnE (spnOf s P e)) l m)) (hm : m < l.length) (h : spanAt s P l[m] = some (sb, stp)) (T : Touch (fun _ => False) wr W) :
  Refs (((W.setCell ⟨g, m * 13 + 5, none⟩ (.int .i64 (sb : Int))).setCell ⟨g, m * 13 + 11, none⟩ (.int .i64 (l[m].ahead : Int))).setCell ⟨g, m * 13 + 12, none⟩ (.int .i64 (stp : Int))) (some ⟨g, 0, none⟩) g (putTo (fun e => spnE (spnOf s P e)) l (m + 1)) := by
 have hK := hR.keep T (fun e => e)
 refine ⟨fun _ => rfl, fun _ => hK.put hm ?_ ?_ ?_ ?_⟩
 ·intro j hj
  have hc : W.cell? ⟨g, m * 13 + j, none⟩ = (refC (rawE l[m]))[j]? := by
   have := hK.cells m (by rw [putTo_len]; exact hm) j hj
   rw [putTo_get _ l m m hm, if_neg (Nat.lt_irrefl _)] at this
   exact this
  have he : spnE (spnOf s P l[m]) = ⟨l[m], sb, l[m].ahead, stp⟩ := by unfold spnOf; rw [h]; rfl
  show _ = (refC (spnE (spnOf s P l[m])))[j]?
  rw [he, cell_set_if, cell_set_if, cell_set_if, hc]
  rcases (by omega : j = 0 ∨ j = 1 ∨ j = 2 ∨ j = 3 ∨ j = 4 ∨ j = 5 ∨ j = 6 ∨ j = 7 ∨ j = 8 ∨ j = 9 ∨ j = 10 ∨ j = 11 ∨ j = 12) with rfl | rfl | rfl | rfl | rfl | rfl | rfl | rfl | rfl | rfl | rfl | rfl | rfl <;> simp [refC, refL, rawE]
 ·intro i j hi hj
  rw [cell_set_ne (by omega), cell_set_ne (by omega), cell_set_ne (by omega)]
 ·intro i
  rw [World.frozen?_setCell, World.frozen?_setCell, World.frozen?_setCell]; exact hK.frozen i
 ·simpa using hK.lt
end Go.Proofs.YtpckiobjpikmlaaGreatDoor
