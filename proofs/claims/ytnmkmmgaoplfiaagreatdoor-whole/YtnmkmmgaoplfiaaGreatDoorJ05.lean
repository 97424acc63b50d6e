/- Texts of this seat, joined. -/
import Derived.Test.YtnmkmmgaoplfiaaGreatDoorJ04
import Derived.Test.YtnmkmmgaoplfiaaGreatDoorShelf
import Derived.RangeFuncNested
import Derived.RangeFuncBound
import Derived.RangeFuncCalls
import Derived.RangeFuncLeaves
import Derived.Shelf.Abstract
import Derived.Shelf.RegionOpen
import Derived.OwnWalkIn
import Derived.TacticsInMore
import Derived.LoopNIn
import Derived.LoopIn
import Derived.Lib.IndexLaws
import Derived.Deep.QuietTactic
import Derived.BigQuiet
set_option linter.unusedSimpArgs false
set_option linter.unusedVariables false
set_option maxRecDepth 100000
set_option maxHeartbeats 20000000
namespace Go.Proofs.YtnmkmmgaoplfiaaGreatDoor
open Go.RowKit Go.Shelf
theorem index_c (s : ByteArray) (w : World) : Calls Tryz.prog 139 #[.string s, .string ⟨#[47]⟩] w fun e w' => e = .returned (.int .i64 (Lib.indexByte s.data.toList 47)) ∧ w = w' :=
 (Any.strings_Index_one Tryz.lays143 s 47 w).mono fun _ _ h => ⟨h.1, h.2.symm⟩
theorem partsGo_none : ∀ (l part : List UInt8), Lib.indexByte l 47 = -1 → partsGo l part = [part ++ l]
 | [], part, _ => by simp [partsGo]
 | c :: l, part, h => by
  unfold Lib.indexByte at h
  by_cases hc : c = 47
  ·simp [hc] at h
  ·have hb : (c == 47) = false := by simpa using hc
   rw [hb] at h
   simp only [Bool.false_eq_true, if_false] at h
   have h' : Lib.indexByte l 47 = -1 := by
    by_cases h2 : Lib.indexByte l 47 = -1
    ·exact h2
    ·have := Lib.indexByte_ge l 47
     simp [h2] at h; omega
   rw [partsGo, if_neg hc, partsGo_none l _ h']; simp
theorem partsGo_some : ∀ (l part : List UInt8) (i : Nat), Lib.indexByte l 47 = (i : Int) → partsGo l part = (part ++ l.take i) :: partsGo (l.drop (i + 1)) [] ∧ i < l.length
 | [], part, i, h => by unfold Lib.indexByte at h; omega
 | c :: l, part, i, h => by
  unfold Lib.indexByte at h
  by_cases hc : c = 47
  ·simp [hc] at h
   obtain rfl : i = 0 := by omega
   simp [partsGo, hc]
  ·have hb : (c == 47) = false := by simpa using hc
   rw [hb] at h
   simp only [Bool.false_eq_true, if_false] at h
   by_cases h2 : Lib.indexByte l 47 = -1
   ·simp [h2] at h
   ·have := Lib.indexByte_ge l 47
    simp [h2] at h
    obtain ⟨j, rfl⟩ : ∃ j, i = j + 1 := ⟨i - 1, by omega⟩
    obtain ⟨k1, k2⟩ := partsGo_some l (part ++ [c]) j (by omega)
    rw [partsGo, if_neg hc, k1]
    exact ⟨by simp, by simp; omega⟩
theorem setCell_setCell (w : World) (b o : Nat) (u v : Value) : (w.setCell ⟨b, o, none⟩ u).setCell ⟨b, o, none⟩ v = w.setCell ⟨b, o, none⟩ v := by
 have h : ∀ x : Obj, (match (match x with | .cells c e f => Obj.cells (c.setIfInBounds o u) e f | o => o) with | .cells c e f => Obj.cells (c.setIfInBounds o v) e f | o => o) = (match x with | .cells c e f => Obj.cells (c.setIfInBounds o v) e f | o => o) := by
  intro x; cases x <;> simp [Array.setIfInBounds_setIfInBounds]
 unfold World.setCell
 congr 1
 apply Array.ext_getElem?
 intro i
 simp only [Array.getElem?_modify]
 by_cases hi : b = i
 ·simp only [hi, if_true, Option.map_map]
  congr 1
  funext x
  have := h x
  cases x <;> simp_all
 ·simp [hi]
def strLen (w : World) (b : Nat) : Nat := match w.cell? ⟨b, 0, none⟩ with
 | some (.string x) => x.size
 | _ => 0
def partsOk (l : List UInt8) : Bool := (partsGo l []).all partOk
attribute [local go_sem] Oper.semAt_some
theorem split_c (m l sb pb vb : Nat) (W0 : World) (Jx : World → Prop) (t : ByteArray) (ht : t.size ≤ 1000)
  (hp : ∀ x, (W0.setCell ⟨sb, 0, none⟩ (.string x)).cell? ⟨pb, 0, none⟩ = some (.string ⟨#[47]⟩)) (hv : ∀ x, (W0.setCell ⟨sb, 0, none⟩ (.string x)).cell? ⟨vb, 0, none⟩ = some (.int .i64 0))
  (hs : ∀ x, (W0.setCell ⟨sb, 0, none⟩ (.string x)).cell? ⟨sb, 0, none⟩ = some (.string x)) (hf : ∀ x, (W0.setCell ⟨sb, 0, none⟩ (.string x)).frozen? ⟨sb, 0, none⟩ = false)
  (hY : ∀ x t' : ByteArray, YieldAt Fence.wide (m - 1) Tryz.prog l #[.string x] (W0.setCell ⟨sb, 0, none⟩ (.string t')) fun e W' =>
   (partOk x.data.toList = true ∧ e = .returned (.bool true) ∧ W0.setCell ⟨sb, 0, none⟩ (.string t') = W') ∨ (partOk x.data.toList = false ∧ e = .returned (.bool false) ∧ Jx W')) :
  CallsIn Fence.wide m Tryz.prog 137 (#[.func (.yield l) #[] #[]] ++ #[.pointer (some ⟨pb, 0, none⟩), .pointer (some ⟨sb, 0, none⟩), .pointer (some ⟨vb, 0, none⟩)]) (W0.setCell ⟨sb, 0, none⟩ (.string t)) fun e W' =>
   (∃ v, e = .returned v) ∧ ((partsOk t.data.toList = true ∧ ∃ t', W' = W0.setCell ⟨sb, 0, none⟩ (.string t')) ∨ (partsOk t.data.toList = false ∧ Jx W')) := by
 have p0 := hp t
 have v0 := hv t
 have s0 := hs t
 refine callsIn_of_wp Tryz.func137 rfl trivial ?_ rfl
 simp only [Tryz.ntmps137, List.size_toArray, List.length_cons, List.length_nil, Nat.reduceAdd, Nat.reduceSub, Array.replicate_succ, Array.replicate_zero, List.push_toArray, List.append_toArray, List.nil_append, List.cons_append]
 gi_wp2
 clear p0 v0 s0
 gi_loopw [7] (fun i wr => ∃ t' : ByteArray, wr = W0.setCell ⟨sb, 0, none⟩ (.string t') ∧ t'.size ≤ 1000 ∧ Hid (partsOk t.data.toList = partsOk t'.data.toList)) (fun i wr => strLen wr sb)
 case atStart => exact ⟨t, rfl, ht, rfl⟩
 case round =>
  obtain ⟨t', rfl, hz, HP⟩ := hrel
  have p0 := hp t'
  have v0 := hv t'
  have s0 := hs t'
  have f0 := hf t'
  by_cases hi : Lib.indexByte t'.data.toList 47 = -1
  ·obtain ⟨fn, tmps, assign, body, hy, hR⟩ := hY t' t'
   have HC := fun W => callsIn_wide (n := m - 1) |>.2 (index_c t' W)
   rw [hi] at HC
   gi_wp2_with fail
   refine ⟨trivial, (fun h => by cases h), (HC _).mono ?_⟩
   rintro e w' ⟨rfl, rfl⟩
   gi_wp2
   have HE : Hid (partsOk t.data.toList = partOk t'.data.toList) := by unfold Hid; rw [HP.out]; unfold partsOk; rw [partsGo_none _ _ hi]; simp
   refine ⟨(fun h => by cases h), hR.mono ?_⟩
   rintro e W3 (⟨hk, rfl, rfl⟩ | ⟨hk, rfl, hJ⟩)
   ·gi_wp2
    go_end0
    exact ⟨⟨_, rfl⟩, .inl ⟨by rw [HE.out, hk], t', rfl⟩⟩
   ·gi_wp2
    go_end0
    exact ⟨⟨_, rfl⟩, .inr ⟨by rw [HE.out, hk], hJ⟩⟩
  ·have hg := Lib.indexByte_ge t'.data.toList 47
   obtain ⟨i, hI⟩ : ∃ i : Nat, Lib.indexByte t'.data.toList 47 = (i : Int) := ⟨(Lib.indexByte t'.data.toList 47).toNat, by omega⟩
   have HC := fun W => callsIn_wide (n := m - 1) |>.2 (index_c t' W)
   obtain ⟨pp, il⟩ := partsGo_some t'.data.toList [] i hI
   have il' : i < t'.size := by rw [Lib.size_eq]; exact il
   rw [hI] at HC
   obtain ⟨fn, tmps, assign, body, hy, hR⟩ := hY (t'.extract 0 i) t'
   clear hi hg hI
   have HI : Hid (partsOk t'.data.toList = (partOk (t'.extract 0 i).data.toList && partsOk (t'.extract (i + 1) t'.size).data.toList)) := by
    have e1 : (t'.extract 0 i).data.toList = t'.data.toList.take i := by simp [ByteArray.data_extract]
    have e2 : (t'.extract (i + 1) t'.size).data.toList = t'.data.toList.drop (i + 1) := by
     rw [ByteArray.data_extract, Array.toList_extract]
     simp only [List.extract_eq_take_drop]
     apply List.take_of_length_le
     rw [List.length_drop, ← Lib.size_eq]; exact Nat.le_refl _
    unfold Hid partsOk; rw [pp, e1, e2]; simp
   have c1 : ¬ (i : Int) < 0 := by omega
   have c2 : (i : Int) ≤ (t'.size : Int) := by omega
   have c3 : (i : Int) + 1 ≤ (t'.size : Int) := by omega
   clear pp il
   gi_wp2_with fail
   refine ⟨trivial, (fun h => by cases h), (HC _).mono ?_⟩
   rintro e w' ⟨rfl, rfl⟩
   gi_wp2
   refine ⟨(fun h => by cases h), hR.mono ?_⟩
   rintro e W3 (⟨hk, rfl, rfl⟩ | ⟨hk, rfl, hJ⟩)
   ·gi_wp2
    rw [setCell_setCell]
    refine ⟨⟨t'.extract (i + 1) t'.size, rfl, by rw [ByteArray.size_extract]; omega, ?_⟩, ?_⟩
    ·unfold Hid; rw [HP.out, HI.out, hk, Bool.true_and]
    ·unfold strLen; rw [hs, hs]; simp only [ByteArray.size_extract]; omega
   ·gi_wp2
    refine bodyPost_ret (results_none rfl _ _ _) rfl ?_
    exact ⟨⟨_, rfl⟩, .inr ⟨by rw [HP.out, HI.out, hk]; rfl, hJ⟩⟩
end Go.Proofs.YtnmkmmgaoplfiaaGreatDoor
namespace Go.Proofs.YtnmkmmgaoplfiaaGreatDoor
open Go.RowKit Go.Shelf
theorem Touch.putNew {S : Nat → Prop} {a b : World} (h : Touch S a b) {l : Nat} (hl : a.heap.size ≤ l) (o : Obj) : Touch S a (b.putObj l o) :=
 ⟨h.os, h.tape, h.output, by rw [World.putObj_size]; exact h.size, fun k hk hs => (World.putObj_heap_other (by omega)).trans (h.block k hk hs)⟩
theorem putObj_back (w : World) (l : Nat) (o o' : Obj) (h : w.heap[l]? = some o) : (w.putObj l o').putObj l o = w := by
 unfold World.putObj
 congr 1
 apply Array.ext_getElem?
 intro i
 by_cases e : l = i
 ·subst e
  obtain ⟨hl, _⟩ := Array.getElem?_eq_some_iff.1 h
  rw [Array.getElem?_setIfInBounds_self_of_lt (by simpa using hl), h]
 ·rw [Array.getElem?_setIfInBounds_ne e, Array.getElem?_setIfInBounds_ne e]
theorem setCell_self (w : World) (b o : Nat) (v : Value) (h : w.cell? ⟨b, o, none⟩ = some v) : w.setCell ⟨b, o, none⟩ v = w := by
 unfold World.setCell
 congr 1
 apply Array.ext_getElem?
 intro i
 rw [Array.getElem?_modify]
 by_cases e : b = i
 ·subst e
  simp only [if_true]
  unfold World.cell? at h
  cases hc : w.heap[b]? with
  | none => rfl
  | some x =>
   rw [hc] at h
   cases x with
   | cells c t f =>
    simp at h
    simp
    obtain ⟨h1, h2⟩ := Array.getElem?_eq_some_iff.1 h
    apply Array.ext_getElem?
    intro j
    by_cases e : o = j
    ·subst e; rw [Array.getElem?_setIfInBounds_self_of_lt h1, h]
    ·rw [Array.getElem?_setIfInBounds_ne e]
   | _ => rfl
 ·simp [e]
theorem cell_putObj {w : World} {l b o : Nat} (x : Obj) (h : b ≠ l) : (w.putObj l x).cell? ⟨b, o, none⟩ = w.cell? ⟨b, o, none⟩ := World.cell?_of_block (World.putObj_heap_other h)
theorem frozen_putObj {w : World} {l b o : Nat} (x : Obj) (h : b ≠ l) : (w.putObj l x).frozen? ⟨b, o, none⟩ = w.frozen? ⟨b, o, none⟩ := World.frozen?_of_block (World.putObj_heap_other h)
theorem range_c {P : Program} {F : Fence} {n : Nat} {g : Operand} {ps : Array Tmp} {assign body : Code} {Q : Exit → Act → World → Prop} {a : Act} {w : World} {gf : Nat} {lb : Array Value}
  (hro : F.round = none) (hF : ∀ f, F.fn f) (hd : F.depth.isSome = true → 1 ≤ n)
  (hg : a.eval g = .func (.func gf) #[] lb) (eg : ∀ args w, (callFunc gf args).run P w = .ok (.enter gf args) w)
  (h : ∀ fn : FuncId, CallsIn F (n - 1) P gf (#[.func (.yield (w.heap.size + 1)) #[] #[]] ++ lb) ((w.alloc (.deferred (some []))).alloc (.loop { state := .ready, pending := none, fn := fn, tmps := a.tmps, params := ps, assign := assign, body := body, defers := w.heap.size }))
   (rangePost F n P (w.heap.size + 1) Q { a with defers := [{ target := .collected w.heap.size, args := #[] }] ++ a.defers })) :
  (Code.rangeFunc g ps assign body).wpIn F n P Q a w := by
 refine wpIn_rangeFunc ?_
 intro fn hfn
 rw [hro]
 obtain ⟨W1, hW1⟩ : ∃ W1, (w.alloc (.deferred (some []))).alloc (.loop { state := .ready, pending := none, fn := fn, tmps := a.tmps, params := ps, assign := assign, body := body, defers := w.heap.size }) = W1 := ⟨_, rfl⟩
 have hc := h fn
 rw [hW1] at hc
 refine ⟨w.heap.size + 1, [{ target := .collected w.heap.size, args := #[] }], W1, { target := .fn (.func gf) lb, args := #[.func (.yield (w.heap.size + 1)) #[] #[]] }, W1, gf, #[.func (.yield (w.heap.size + 1)) #[] #[]] ++ lb, W1, ?_, ?_, ?_, ?_, hd, ?_⟩
 ·rw [← hW1]; exact run_enterLoop_outer _ _ _ _ _
 ·simp only [resolve, hg]
  simp [go_sem]
 ·intro f' _; exact hF f'
 ·simp [invoke, go_sem, eg]
 ·exact hc
theorem heap_set_other {w : World} {b o l : Nat} {v : Value} (h : l ≠ b) : (w.setCell ⟨b, o, none⟩ v).heap[l]? = w.heap[l]? := Below.heap_setCell _ _ _ _ h
structure Behind (w W : World) (D rb : Nat) (b : Bool) : Prop where
 touch : Touch (fun _ => False) w W
 defer : W.heap[D]? = some (.deferred (some []))
 cell : W.cell? ⟨rb, 0, none⟩ = some (.bool b)
 frozen : W.frozen? ⟨rb, 0, none⟩ = false
theorem splitRange {n : Nat} {g : Operand} {ps : Array Tmp} {assign body : Code} {Q : Exit → Act → World → Prop} {a : Act} {w W4 : World} (sb pb vb rb : Nat) (b0 : Bool) (t : ByteArray) (ht : t.size ≤ 1000)
  (hg : a.eval g = .func (.func 137) #[] #[.pointer (some ⟨pb, 0, none⟩), .pointer (some ⟨sb, 0, none⟩), .pointer (some ⟨vb, 0, none⟩)]) (hps : ps.size = 1)
  (hw : w.heap.size ≤ rb) (hsb : w.heap.size ≤ sb) (htw : Touch (fun _ => False) w W4)
  (q0 : W4.heap[rb]? = some (.cells #[.bool b0] 4)) (q1 : W4.heap[sb]? = some (.cells #[.string t] 9)) (q2 : W4.heap[pb]? = some (.cells #[.string ⟨#[47]⟩] 9)) (q3 : W4.heap[vb]? = some (.cells #[.int .i64 0] 3))
  (n1 : rb ≠ sb) (n2 : pb ≠ sb) (n3 : vb ≠ sb) (a₁ : ByteArray → Act)
  (hassign : ∀ (l : Nat) (x : ByteArray) (W : World) (K : Act → World → Prop), K (a₁ x) W → assign.wpIn (Fence.wide.inRound l) (n - 1 - 1) Tryz.prog (Exit.then K (fun _ _ _ => False)) { tmps := (ps.zip #[.string x]).foldl (fun t (p, v) => t.setIfInBounds p v) a.tmps, defers := [] } W)
  (hgo : ∀ (l : Nat) (x : ByteArray) (W : World), partOk x.data.toList = true → body.wpIn (Fence.wide.inRound l) (n - 1 - 1) Tryz.prog (fun e _ W' => e = .normal ∧ W' = W) (a₁ x) W)
  (hout : ∀ (l : Nat) (x : ByteArray) (W : World), partOk x.data.toList = false → W.cell? ⟨rb, 0, none⟩ = some (.bool b0) → W.frozen? ⟨rb, 0, none⟩ = false → body.wpIn (Fence.wide.inRound l) (n - 1 - 1) Tryz.prog (fun e _ W' => e = .ret ∧ W' = W.setCell ⟨rb, 0, none⟩ (.bool false)) (a₁ x) W)
  (hdone : partsOk t.data.toList = true → ∀ W, Behind w W W4.heap.size rb b0 → Q .normal { a with defers := { target := .collected W4.heap.size, args := #[] } :: a.defers } W)
  (hstop : partsOk t.data.toList = false → ∀ W, Behind w W W4.heap.size rb false → Code.ret.wpIn Fence.wide n Tryz.prog Q { a with defers := { target := .collected W4.heap.size, args := #[] } :: a.defers } W) :
  (Code.rangeFunc g ps assign body).wpIn Fence.wide n Tryz.prog Q a W4 := by
 refine range_c rfl (fun _ => trivial) (fun h => by cases h) hg (enters_of Tryz.func137 (by kernel_rfl) rfl) (fun fn => ?_)
 obtain ⟨rec, hrec⟩ : ∃ rec : LoopState → Option Code → Loop, rec = fun st pe => { state := st, pending := pe, fn := fn, tmps := a.tmps, params := ps, assign := assign, body := body, defers := W4.heap.size } := ⟨_, rfl⟩
 obtain ⟨W1, hW1⟩ : ∃ W1, (W4.alloc (.deferred (some []))).alloc (.loop (rec .ready none)) = W1 := ⟨_, rfl⟩
 have hW1' : (W4.alloc (.deferred (some []))).alloc (.loop { state := .ready, pending := none, fn := fn, tmps := a.tmps, params := ps, assign := assign, body := body, defers := W4.heap.size }) = W1 := by rw [← hW1, hrec]
 rw [hW1']
 have z1 : W1.heap.size = W4.heap.size + 2 := by rw [← hW1]; simp
 have l1 : W1.heap[W4.heap.size + 1]? = some (.loop (rec .ready none)) := by
  rw [← hW1]; have := World.alloc_heap_new (W4.alloc (.deferred (some []))) (.loop (rec .ready none)); rwa [World.size_alloc] at this
 have d1 : W1.heap[W4.heap.size]? = some (.deferred (some [])) := by
  rw [← hW1]; exact (Below.heap_alloc _ _ _ (by simp)).trans (World.alloc_heap_new W4 _)
 have k1 : ∀ k, k < W4.heap.size → W1.heap[k]? = W4.heap[k]? := fun k hk => by
  rw [← hW1]; exact (Below.heap_alloc _ _ _ (by simp; omega)).trans (Below.heap_alloc _ _ _ hk)
 have T1 : Touch (fun _ => False) w W1 := by rw [← hW1]; exact (htw.alloc _).alloc _
 have lr := (Array.getElem?_eq_some_iff.1 q0).1
 have ls := (Array.getElem?_eq_some_iff.1 q1).1
 have lp := (Array.getElem?_eq_some_iff.1 q2).1
 have lv := (Array.getElem?_eq_some_iff.1 q3).1
 have q0' := (k1 rb lr).trans q0
 have q1' := (k1 sb ls).trans q1
 have q2' := (k1 pb lp).trans q2
 have q3' := (k1 vb lv).trans q3
 have c1 : W1.cell? ⟨sb, 0, none⟩ = some (.string t) := by rw [row_cell q1' 0]; rfl
 clear hW1 hW1'
 have hs := split_c (n - 1) (W4.heap.size + 1) sb pb vb W1 (fun W => W.heap[W4.heap.size + 1]? = some (.loop (rec .done (some .ret))) ∧ Behind w W W4.heap.size rb false) t ht
  (fun x => by rw [World.cell?_of_block (heap_set_other n2), row_cell q2' 0]; rfl)
  (fun x => by rw [World.cell?_of_block (heap_set_other n3), row_cell q3' 0]; rfl)
  (fun x => World.cell?_setCell_same' _ _ _ (by rw [c1]; rfl))
  (fun x => by rw [World.frozen?_setCell]; exact frozen_row q1' 0)
  ?_
 ·rw [setCell_self W1 sb 0 _ c1] at hs
  refine hs.mono ?_
  rintro e W' ⟨⟨v, rfl⟩, (⟨hp, t', rfl⟩ | ⟨hp, hl, hb⟩)⟩
  ·have lt : (W1.setCell ⟨sb, 0, none⟩ (.string t')).heap[W4.heap.size + 1]? = some (.loop (rec .ready none)) := (heap_set_other (by omega)).trans l1
   have he : (Instr.endLoop (W4.heap.size + 1)).run Tryz.prog (W1.setCell ⟨sb, 0, none⟩ (.string t')) = .ok none ((W1.setCell ⟨sb, 0, none⟩ (.string t')).putObj (W4.heap.size + 1) (.loop { rec .ready none with state := .exhausted })) := by
    have := run_endLoop (P := Tryz.prog) lt (by rw [hrec]; simp)
    rw [hrec] at this ⊢; exact this
   refine ⟨none, _, he, hdone hp _ ⟨(T1.setNew (p := ⟨sb, 0, none⟩) hsb _).putNew (l := W4.heap.size + 1) (by have := htw.size; omega) _, ?_, ?_, ?_⟩⟩
   ·rw [World.putObj_heap_other (by omega), heap_set_other (by omega)]; exact d1
   ·rw [cell_putObj _ (by omega), World.cell?_of_block (heap_set_other n1), row_cell q0' 0]; rfl
   ·rw [frozen_putObj _ (by omega), World.frozen?_of_block (heap_set_other n1)]; exact frozen_row q0' 0
  ·have he : (Instr.endLoop (W4.heap.size + 1)).run Tryz.prog W' = .ok (some .ret) (W'.putObj (W4.heap.size + 1) (.loop { rec .done (some .ret) with state := .exhausted })) := by
    have := run_endLoop (P := Tryz.prog) hl (by rw [hrec]; simp)
    rw [hrec] at this ⊢; exact this
   refine ⟨some .ret, _, he, hstop hp _ ⟨hb.touch.putNew (l := W4.heap.size + 1) (by have := htw.size; omega) _, ?_, ?_, ?_⟩⟩
   ·rw [World.putObj_heap_other (by omega)]; exact hb.defer
   ·rw [cell_putObj _ (by omega)]; exact hb.cell
   ·rw [frozen_putObj _ (by omega)]; exact hb.frozen
 ·intro x t'
  have lt : (W1.setCell ⟨sb, 0, none⟩ (.string t')).heap[W4.heap.size + 1]? = some (.loop (rec .ready none)) := (heap_set_other (by omega)).trans l1
  have dt : (W1.setCell ⟨sb, 0, none⟩ (.string t')).heap[W4.heap.size]? = some (.deferred (some [])) := (heap_set_other (by omega)).trans d1
  have ct : (W1.setCell ⟨sb, 0, none⟩ (.string t')).cell? ⟨rb, 0, none⟩ = some (.bool b0) := by rw [World.cell?_of_block (heap_set_other n1), row_cell q0' 0]; rfl
  have ft : (W1.setCell ⟨sb, 0, none⟩ (.string t')).frozen? ⟨rb, 0, none⟩ = false := by rw [World.frozen?_of_block (heap_set_other n1)]; exact frozen_row q0' 0
  have Tt : Touch (fun _ => False) w (W1.setCell ⟨sb, 0, none⟩ (.string t')) := T1.setNew (p := ⟨sb, 0, none⟩) hsb _
  revert lt dt ct ft Tt
  generalize W1.setCell ⟨sb, 0, none⟩ (.string t') = Wt
  intro lt dt ct ft Tt
  have hy := run_yield (P := Tryz.prog) (args := #[.string x]) lt (by rw [hrec]; simpa using hps.symm)
  rw [hrec] at hy
  refine ⟨fn, _, assign, body, hy, roundIn_of_wpIn trivial (hassign _ x Wt _ ⟨_, run_beginRound lt (by rw [hrec]), ?_⟩)⟩
  have ll := (Array.getElem?_eq_some_iff.1 lt).1
  cases hx : partOk x.data.toList with
  | true =>
   refine wpIn_mono (hgo _ x _ hx) ?_
   rintro e a' W' ⟨rfl, rfl⟩
   have l2 : (Wt.putObj (W4.heap.size + 1) (.loop { rec .ready none with state := .busy })).heap[W4.heap.size + 1]? = some (.loop { rec .ready none with state := .busy }) := World.putObj_heap_same ll
   refine ⟨_, _, run_endRound none l2, .inl ⟨rfl, rfl, ?_⟩⟩
   have := putObj_back Wt (W4.heap.size + 1) (.loop (rec .ready none)) (.loop { rec .ready none with state := .busy }) lt
   rw [hrec] at this ⊢
   exact this.symm
  | false =>
   refine wpIn_mono (hout _ x _ hx (by rw [cell_putObj _ (by omega)]; exact ct) (by rw [frozen_putObj _ (by omega)]; exact ft)) ?_
   rintro e a' W' ⟨rfl, rfl⟩
   have l2 : ((Wt.putObj (W4.heap.size + 1) (.loop { rec .ready none with state := .busy })).setCell ⟨rb, 0, none⟩ (.bool false)).heap[W4.heap.size + 1]? = some (.loop { rec .ready none with state := .busy }) := (heap_set_other (by omega)).trans (World.putObj_heap_same ll)
   refine ⟨_, _, run_endRound (some .ret) l2, .inr ⟨rfl, rfl, ?_, ?_⟩⟩
   ·rw [World.putObj_heap_same (by simpa [size_setCell] using ll)]
    rw [hrec]; rfl
   ·refine ⟨((Tt.putNew (by have := htw.size; omega) _).setNew (p := ⟨rb, 0, none⟩) hw _).putNew (by have := htw.size; omega) _, ?_, ?_, ?_⟩
    ·rw [World.putObj_heap_other (by omega), heap_set_other (by omega), World.putObj_heap_other (by omega)]; exact dt
    ·rw [cell_putObj _ (by omega)]; exact World.cell?_setCell_same' _ _ _ (by rw [cell_putObj _ (by omega), ct]; rfl)
    ·rw [frozen_putObj _ (by omega), World.frozen?_setCell, frozen_putObj _ (by omega)]; exact ft
end Go.Proofs.YtnmkmmgaoplfiaaGreatDoor
namespace Go.Proofs.YtnmkmmgaoplfiaaGreatDoor
open Go.RowKit Go.Shelf
theorem isNameByte_c (w : World) (b : UInt8) :
  Calls Tryz.prog 88 #[.int .u8 (b.toNat : Int)] w fun e w' => e = .returned (.bool (byteOk b)) ∧ w = w' := by
 have HB : Hid (byteOk b = (decide (32 ≤ b.toNat) && decide (b.toNat ≤ 126) && decide (b.toNat ≠ 92) && decide (b.toNat ≠ 58) && decide (b.toNat ≠ 34))) := by
  have e : ∀ n : UInt8, (b ≠ n) ↔ b.toNat ≠ n.toNat := fun n => not_congr ⟨fun h => by rw [h], fun h => UInt8.toNat_inj.1 h⟩
  unfold Hid byteOk
  simp only [UInt8.le_iff_toNat_le, e]
  rfl
 obtain ⟨n, hn⟩ : ∃ n, n = b.toNat := ⟨_, rfl⟩
 rw [← hn] at HB ⊢
 clear hn
 go_enter Tryz.func88, Tryz.ntmps88
 go_wp2
 all_goals go_ret
 all_goals refine ⟨?_, rfl⟩
 all_goals rw [HB.out]
 all_goals refine congrArg Ending.returned (congrArg Value.bool ?_)
 all_goals rw [Bool.eq_iff_iff]
 all_goals simp only [Bool.and_eq_true, bne_iff_ne, decide_eq_true_eq, ne_eq, Bool.false_eq_true, false_iff]
 all_goals omega
theorem folder_eq (s : ByteArray) : Lib.hasSuffix s.data.toList [47] = folderB s := by
 unfold folderB Lib.hasSuffix
 rw [ByteArray.toList_eq]
 rcases List.eq_nil_or_concat s.data.toList with h | ⟨l, a, h⟩
 ·rw [h]; rfl
 ·rw [h]; simp [List.isSuffixOf, List.isPrefixOf]
  by_cases ha : a = 47
  ·simp [ha]
  ·have hb : ¬ 47 = a := fun e => ha e.symm
   simp [ha, hb]
theorem bare_eq (s : ByteArray) : Lib.trimSuffix s.data.toList [47] = bareL s := by
 unfold Lib.trimSuffix bareL
 rw [folder_eq, ByteArray.toList_eq]
 split
 ·simp [List.dropLast_eq_take]
 ·rfl
theorem isFolder_c (w : World) (s : ByteArray) (hs : s.size ≤ 140737488355328) :
  Calls Tryz.prog 56 #[.string s] w fun e w' => e = .returned (.bool (folderB s)) ∧ w = w' := by
 have hc := fun W => Any.strings_HasSuffix Tryz.lays100 s ⟨#[47]⟩ W (by omega)
 change ∀ W, Calls Tryz.prog 78 _ _ _ at hc
 have HC : Hid (∀ W, Calls Tryz.prog 78 #[.string s, .string ⟨#[47]⟩] W fun e w' => e = .returned (.bool (folderB s)) ∧ W = w') :=
  fun W => (hc W).mono fun e w' h => ⟨by rw [h.1, ← folder_eq], h.2.symm⟩
 clear hc
 go_enter Tryz.func56, Tryz.ntmps56
 go_wp2_with fail
 refine (HC.out _).mono ?_
 rintro e w' ⟨rfl, rfl⟩
 go_wp2
 go_ret
 exact ⟨rfl, rfl⟩
theorem pathOf_c (w : World) (s : ByteArray) (hs : s.size ≤ 140737488355328) :
  Calls Tryz.prog 70 #[.string s] w fun e w' => e = .returned (.string ⟨(bareL s).toArray⟩) ∧ w = w' := by
 have hc := fun W => Any.strings_TrimSuffix Tryz.lays102 s ⟨#[47]⟩ W (by omega)
 change ∀ W, Calls Tryz.prog 90 _ _ _ at hc
 have HC : Hid (∀ W, Calls Tryz.prog 90 #[.string s, .string ⟨#[47]⟩] W fun e w' => e = .returned (.string ⟨(bareL s).toArray⟩) ∧ W = w') :=
  fun W => (hc W).mono fun e w' h => ⟨by rw [h.1, ← bare_eq], h.2.symm⟩
 clear hc
 go_enter Tryz.func70, Tryz.ntmps70
 go_wp2_with fail
 refine (HC.out _).mono ?_
 rintro e w' ⟨rfl, rfl⟩
 go_wp2
 go_ret
 exact ⟨rfl, rfl⟩
theorem all_step (s : ByteArray) (i : Nat) (h : i < s.size) : (s.data.toList.drop i).all byteOk = (byteOk s[i] && (s.data.toList.drop (i + 1)).all byteOk) := by
 rw [List.drop_eq_getElem_cons (by rw [← Lib.size_eq]; exact h)]; rfl
theorem splitSeq_c (w : World) (t : ByteArray) :
  Calls Tryz.prog 89 #[.string t, .string ⟨#[47]⟩] w fun e w' => e = .returned (.func (.func 137) #[] #[.pointer (some ⟨w.heap.size + 1, 0, none⟩), .pointer (some ⟨w.heap.size, 0, none⟩), .pointer (some ⟨w.heap.size + 2, 0, none⟩)])
   ∧ ((w.alloc (.cells #[.string t] 9)).alloc (.cells #[.string ⟨#[47]⟩] 9)).alloc (.cells #[.int .i64 0] 3) = w' := by
 have HC : Hid (∀ W, Calls Tryz.prog 125 #[.string t, .string ⟨#[47]⟩, .int .i64 0] W fun e w' => e = .returned (.func (.func 137) #[] #[.pointer (some ⟨W.heap.size + 1, 0, none⟩), .pointer (some ⟨W.heap.size, 0, none⟩), .pointer (some ⟨W.heap.size + 2, 0, none⟩)])
   ∧ ((W.alloc (.cells #[.string t] 9)).alloc (.cells #[.string ⟨#[47]⟩] 9)).alloc (.cells #[.int .i64 0] 3) = w') := by
  intro W
  go_enter Tryz.func125, Tryz.ntmps125
  go_wp2
  go_ret
  exact ⟨rfl, rfl⟩
 go_enter Tryz.func89, Tryz.ntmps89
 go_wp2_with fail
 refine (HC.out _).mono ?_
 rintro e w' ⟨rfl, rfl⟩
 go_wp2
 go_ret
 exact ⟨rfl, rfl⟩
theorem four (w : World) (o0 o1 o2 o3 : Obj) : ((((w.alloc o0).alloc o1).alloc o2).alloc o3).heap[w.heap.size]? = some o0 ∧ ((((w.alloc o0).alloc o1).alloc o2).alloc o3).heap[w.heap.size + 1]? = some o1
  ∧ ((((w.alloc o0).alloc o1).alloc o2).alloc o3).heap[w.heap.size + 1 + 1]? = some o2 ∧ ((((w.alloc o0).alloc o1).alloc o2).alloc o3).heap[w.heap.size + 1 + 2]? = some o3 := by
 have h1 : (w.alloc o0).heap.size = w.heap.size + 1 := by simp
 have h2 : ((w.alloc o0).alloc o1).heap.size = w.heap.size + 1 + 1 := by simp
 have h3 : (((w.alloc o0).alloc o1).alloc o2).heap.size = w.heap.size + 1 + 2 := by simp
 refine ⟨?_, ?_, ?_, ?_⟩
 ·rw [Below.heap_alloc _ _ _ (by omega), Below.heap_alloc _ _ _ (by omega), Below.heap_alloc _ _ _ (by omega)]; exact World.alloc_heap_new w o0
 ·rw [Below.heap_alloc _ _ _ (by omega), Below.heap_alloc _ _ _ (by omega), ← h1]; exact World.alloc_heap_new _ o1
 ·rw [Below.heap_alloc _ _ _ (by omega), ← h2]; exact World.alloc_heap_new _ o2
 ·rw [← h3]; exact World.alloc_heap_new _ o3
theorem part_empty (x : ByteArray) : partOk x.data.toList = (decide (¬ x.toList = []) && decide (¬ x.toList = [46]) && decide (¬ x.toList = [46, 46])) := by
 rw [ByteArray.toList_eq]; rfl
theorem part_tests (x : ByteArray) : partOk x.data.toList = (!x.toList.isEmpty && !(x.toList == [46]) && !(x.toList == [46, 46])) := by
 rw [part_empty, Bool.eq_iff_iff]; simp
theorem bare_size (s : ByteArray) : (⟨(bareL s).toArray⟩ : ByteArray).size ≤ s.size := by
 have : (bareL s).length ≤ s.size := by
  unfold bareL
  rw [ByteArray.toList_eq]
  split
  ·rw [List.length_dropLast, ← Lib.size_eq]; omega
  ·rw [← Lib.size_eq]; omega
 show (bareL s).toArray.size ≤ _
 rw [List.size_toArray]; exact this
attribute [local go_sem] Oper.semAt_some
theorem isName_c (w : World) (s : ByteArray) (hs : s.size ≤ 140737488355328) :
  Calls Tryz.prog 69 #[.string s] w fun e w' => e = .returned (.bool (nameOk s)) ∧ Touch (fun _ => False) w w' := by
 refine (callsIn_wide (n := 9)).1 ?_
 have T0 : Touch (fun _ => False) w (w.alloc (.cells #[.bool false] 4)) := (Touch.refl _ w).alloc _
 refine callsIn_of_wp_marks Tryz.func69 rfl trivial ?_
 simp only [Tryz.ntmps69, List.size_toArray, List.length_cons, List.length_nil, Nat.reduceAdd, Nat.reduceSub, Array.replicate_succ, Array.replicate_zero, List.push_toArray, List.append_toArray, List.nil_append, List.cons_append]
 by_cases h60 : s.size ≤ 60
 ·have HN : Hid (nameOk s = ((s.data.toList.drop 0).all byteOk && partsOk (bareL s))) := by
   unfold Hid nameOk partsOk; rw [decide_eq_true h60, ByteArray.toList_eq, Bool.true_and]; rfl
  have hP := fun W => (callsIn_wide (n := 8)).2 (pathOf_c W s hs)
  gi_wp2
  gi_loopw [10] (fun i wr => ∃ k : Nat, k ≤ s.size ∧ i = .int .i64 (k : Int) ∧ wr = w.alloc (.cells #[.bool false] 4) ∧ Hid ((s.data.toList.drop 0).all byteOk = (s.data.toList.drop k).all byteOk)) (fun i wr => s.size - (intOf i).toNat)
  case atStart => exact ⟨0, Nat.zero_le _, rfl, rfl, rfl⟩
  case round =>
   obtain ⟨k, hk, rfl, rfl, HA⟩ := hrel
   by_cases hlt : k < s.size
   ·have hB := fun W => (callsIn_wide (n := 8)).2 (isNameByte_c W s[k])
    have HS : Hid ((s.data.toList.drop 0).all byteOk = (byteOk s[k] && (s.data.toList.drop (k + 1)).all byteOk)) := by
     unfold Hid; rw [HA.out, all_step s k hlt]
    cases hb : byteOk s[k] with
    | true =>
     rw [hb] at hB HS
     gi_wp2_with fail
     refine ⟨trivial, (hB _).mono ?_⟩
     rintro e w' ⟨rfl, rfl⟩
     gi_wp2
     exact ⟨⟨k + 1, by omega, by go_num, trivial, by unfold Hid; rw [HS.out]; rfl⟩, by simp [intOf]; omega⟩
    | false =>
     rw [hb] at hB HS
     gi_wp2_with fail
     refine ⟨trivial, (hB _).mono ?_⟩
     rintro e w' ⟨rfl, rfl⟩
     gi_wp2
     refine ⟨.bool false, by simp [results, Tryz.results69, go_sem], ?_, T0⟩
     rw [HN.out, HS.out]; rfl
   ·obtain rfl : k = s.size := by omega
    have HE : Hid (nameOk s = partsOk (bareL s)) := by
     unfold Hid; rw [HN.out, HA.out, List.drop_of_length_le (by rw [← Lib.size_eq]; exact Nat.le_refl _)]; rfl
    gi_wp2_with fail
    refine ⟨trivial, (hP _).mono ?_⟩
    rintro e w' ⟨rfl, rfl⟩
    gi_wp2_with fail
    refine ⟨trivial, ((callsIn_wide (n := 8)).2 (splitSeq_c _ _)).mono ?_⟩
    rintro e w' ⟨rfl, rfl⟩
    gi_wp2
    obtain ⟨q0, q1, q2, q3⟩ := four w (Obj.cells #[Value.bool false] 4) (Obj.cells #[Value.string ⟨(bareL s).toArray⟩] 9) (Obj.cells #[Value.string ⟨#[47]⟩] 9) (Obj.cells #[Value.int IntKind.i64 0] 3)
    refine splitRange (w := w) (w.heap.size + 1) (w.heap.size + 1 + 1) (w.heap.size + 1 + 2) w.heap.size false ⟨(bareL s).toArray⟩ (by have := bare_size s; omega) rfl rfl (Nat.le_refl _) (by omega) (((T0.alloc _).alloc _).alloc _) q0 q1 q2 q3 (by omega) (by omega) (by omega)
     (fun x => { tmps := #[.string s, undef, .pointer (some ⟨w.heap.size, 0, none⟩), u3, .string x, .string s, .int .i64 (s.size : Int), .bool (decide ((60 : Int) < (s.size : Int))), .string s, .int .i64 (s.size : Int), .int .i64 (s.size : Int), .bool false, u12, u13, u14, u15, u16, u17, u18, .string s, .string ⟨(bareL s).toArray⟩,
      .func (.func 137) #[] #[.pointer (some ⟨w.heap.size + 1 + 1, 0, none⟩), .pointer (some ⟨w.heap.size + 1, 0, none⟩), .pointer (some ⟨w.heap.size + 1 + 2, 0, none⟩)], .string x, undef, undef, undef, undef, undef, undef, undef, undef, undef, undef], defers := [] }) ?assign ?go ?out ?done ?stop
    case assign =>
     intro l x W K hK
     gi_wp2
     exact hK
    case go =>
     intro l x W hx
     rw [part_tests] at hx
     have h1 : x.toList.isEmpty = false := by cases hh : x.toList.isEmpty <;> simp_all
     have h2 : (x.toList == [46]) = false := by cases hh : (x.toList == [46]) <;> simp_all
     have h3 : (x.toList == [46, 46]) = false := by cases hh : (x.toList == [46, 46]) <;> simp_all
     clear hx
     gi_wp2
    case out =>
     intro l x W hx hc hf
     rw [part_tests] at hx
     cases h1 : x.toList.isEmpty with
     | true =>
      clear hx
      gi_wp2
     | false =>
      cases h2 : (x.toList == [46]) with
      | true =>
       clear hx
       gi_wp2
      | false =>
       have h3 : (x.toList == [46, 46]) = true := by cases hh : (x.toList == [46, 46]) <;> simp_all
       clear hx
       gi_wp2
    case done =>
     intro hp W hb
     have hf := hb.frozen
     have hc := hb.cell
     have hK := hb.defer
     simp only [World.size_alloc] at hK
     gi_wp2
     refine ⟨by simp, .inl ⟨_, _, rfl, run_takeDeferred ((heap_set_other (by omega)).trans hK), ?_⟩⟩
     refine ⟨.bool true, ?_, ?_, ?_⟩
     ·have e1 : ((W.setCell ⟨w.heap.size, 0, none⟩ (.bool true)).putObj (w.heap.size + 1 + 1 + 1 + 1) (.deferred none)).cell? ⟨w.heap.size, 0, none⟩ = some (.bool true) := by
       rw [cell_putObj _ (by omega)]; exact World.cell?_setCell_same' _ _ _ (by rw [hc]; rfl)
      simp [results, Tryz.results69, go_sem, e1]
     ·rw [HE.out, show partsOk (bareL s) = true from hp]
     ·exact (hb.touch.setNew (p := ⟨w.heap.size, 0, none⟩) (Nat.le_refl _) _).putNew (by omega) _
    case stop =>
     intro hp W hb
     have hf := hb.frozen
     have hc := hb.cell
     have hK := hb.defer
     simp only [World.size_alloc] at hK
     gi_wp2
     refine ⟨by simp, .inl ⟨_, _, rfl, run_takeDeferred hK, ?_⟩⟩
     refine ⟨.bool false, ?_, ?_, ?_⟩
     ·have e1 : (W.putObj (w.heap.size + 1 + 1 + 1 + 1) (.deferred none)).cell? ⟨w.heap.size, 0, none⟩ = some (.bool false) := by
       rw [cell_putObj _ (by omega)]; exact hc
      simp [results, Tryz.results69, go_sem, e1]
     ·rw [HE.out, show partsOk (bareL s) = false from hp]
     ·exact hb.touch.putNew (by omega) _
 ·have c1 : (60 : Int) < (s.size : Int) := by omega
  have HN : Hid (nameOk s = false) := by unfold Hid nameOk; rw [decide_eq_false h60]; rfl
  gi_wp2
  refine ⟨.bool false, by simp [results, Tryz.results69, go_sem], ?_, T0⟩
  rw [HN.out]
end Go.Proofs.YtnmkmmgaoplfiaaGreatDoor
namespace Go.Proofs.YtnmkmmgaoplfiaaGreatDoor
open Go.RowKit Go.Shelf
def listL (e : Ent) (place stop : Nat) : List Value := [.string e.name, .int .i64 (e.method : Int), .int .u32 (e.sum : Int), .int .i64 (e.packed : Int), .int .i64 (e.size : Int), .int .i64 (place : Int), .int .i64 (e.maker : Int), .int .i64 (e.flags : Int), .int .i64 (e.disk : Int), .int .i64 (e.outer : Int), .string e.three, .int .i64 (e.ahead : Int), .int .i64 (stop : Int)]
def ListAt (w : World) (b o : Nat) (e : Ent) (place stop : Nat) : Prop := ∀ i, i < 13 → w.cell? ⟨b, o + i, none⟩ = (listL e place stop)[i]?
structure EntOk (e : Ent) : Prop where
 method : e.method < 65536
 sum : e.sum < 4294967296
 packed : e.packed ≤ 1099511627776
 size : e.size ≤ 1099511627776
 ahead : e.ahead ≤ 1099511627776
 maker : e.maker < 65536
 flags : e.flags < 65536
 outer : e.outer < 4294967296
 name : e.name.size < 65536
theorem andNot_flags (f : Nat) (h : f < 65536) : bits .andNot .i64 (f : Int) 2062 = ((f &&& 63473 : Nat) : Int) := by
 have e1 : (BitVec.ofInt IntKind.i64.bits (f : Int) &&& ~~~ BitVec.ofInt IntKind.i64.bits 2062).toNat = f &&& 63473 := by
  show (BitVec.ofInt 64 (f : Int) &&& ~~~ BitVec.ofInt 64 2062).toNat = _
  rw [BitVec.toNat_and, BitVec.ofInt_natCast, BitVec.toNat_ofNat, Nat.mod_eq_of_lt (by omega)]
  have e2 : (~~~ BitVec.ofInt 64 2062).toNat = 18446744073709549553 := by decide
  rw [e2]
  have e3 : f &&& 65535 = f := by rw [Nat.and_two_pow_sub_one_eq_mod f 16]; omega
  rw [← e3, Nat.and_assoc, Nat.and_assoc]
  congr 1
 unfold bits
 simp only [e1]
 have : f &&& 63473 ≤ f := Nat.and_le_left
 simp [IntKind.wrap, IntKind.bits, IntKind.signed]
 omega
theorem isLink_c (w : World) (b o : Nat) (e : Ent) (p t : Nat) (h : ListAt w b o e p t) :
  Calls Tryz.prog 68 #[.pointer (some ⟨b, o, none⟩)] w fun r w' => r = .returned (.bool (linkB e)) ∧ w = w' := by
 have h6 : w.cell? ⟨b, o + 6, none⟩ = some (.int .i64 (e.maker : Int)) := h 6 (by omega)
 have h9 : w.cell? ⟨b, o + 9, none⟩ = some (.int .i64 (e.outer : Int)) := h 9 (by omega)
 have H : Hid (linkB e = (((e.maker : Int) / 256 == 3) && ((e.outer : Int) / 268435456 == 10))) := by
  unfold Hid linkB; rw [Bool.eq_iff_iff]; simp; omega
 go_enter Tryz.func68, Tryz.ntmps68
 go_wp2
 ·have hm : (e.maker : Int) / 256 = 3 := by assumption
  go_ret
  exact ⟨by rw [H.out, hm]; rfl, rfl⟩
 ·have hm : ¬ (e.maker : Int) / 256 = 3 := by assumption
  have hm' : ((e.maker : Int) / 256 == 3) = false := by simpa using hm
  go_ret
  exact ⟨by rw [H.out, hm']; rfl, rfl⟩
theorem ListAt.keep {S : Nat → Prop} {w w' : World} {b o : Nat} {e : Ent} {p t : Nat} (h : ListAt w b o e p t) (ht : Touch S w w') (hs : ¬ S b) : ListAt w' b o e p t := fun i hi => by
 have h1 := h i hi
 have h2 : (listL e p t)[i]? = some ((listL e p t)[i]'(by simpa [listL] using hi)) := List.getElem?_eq_getElem _
 rw [h2] at h1 ⊢
 exact ht.at h1 hs
theorem fault_c (w : World) (b o : Nat) (e : Ent) (p t : Nat) (h : ListAt w b o e p t) (ho : EntOk e) :
  Calls Tryz.prog 49 #[.pointer (some ⟨b, o, none⟩)] w fun r w' => r = .returned (.int .i64 (faultOf e : Int)) ∧ Touch (fun _ => False) w w' := by
 have h0 : w.cell? ⟨b, o, none⟩ = some (.string e.name) := h 0 (by omega)
 have h1 : w.cell? ⟨b, o + 1, none⟩ = some (.int .i64 (e.method : Int)) := h 1 (by omega)
 have h3 : w.cell? ⟨b, o + 3, none⟩ = some (.int .i64 (e.packed : Int)) := h 3 (by omega)
 have h4 : w.cell? ⟨b, o + 4, none⟩ = some (.int .i64 (e.size : Int)) := h 4 (by omega)
 have h7 : w.cell? ⟨b, o + 7, none⟩ = some (.int .i64 (e.flags : Int)) := h 7 (by omega)
 have h8 : w.cell? ⟨b, o + 8, none⟩ = some (.int .i64 (e.disk : Int)) := h 8 (by omega)
 have HL : Hid (∀ W, ListAt W b o e p t → Calls Tryz.prog 68 #[.pointer (some ⟨b, o, none⟩)] W fun r w' => r = .returned (.bool (linkB e)) ∧ W = w') := fun W hW => isLink_c W b o e p t hW
 have HN : Hid (∀ W, Calls Tryz.prog 69 #[.string e.name] W fun r w' => r = .returned (.bool (nameOk e.name)) ∧ Touch (fun _ => False) W w') := fun W => isName_c W e.name (by have := ho.name; omega)
 have HD : Hid (∀ W, Calls Tryz.prog 56 #[.string e.name] W fun r w' => r = .returned (.bool (folderB e.name)) ∧ W = w') := fun W => isFolder_c W e.name (by have := ho.name; omega)
 have HA := andNot_flags e.flags ho.flags
 have HF : Hid (faultOf e = if e.disk ≠ 0 then 4
  else if decide (e.flags &&& 63473 ≠ 0) || (decide (e.method ≠ 0) && decide (e.method ≠ 8)) || linkB e then 6
  else if nameOk e.name = false then 7
  else if (folderB e.name && (decide (e.size ≠ 0) || decide (e.packed ≠ 0))) || (decide (e.method = 0) && decide (e.size ≠ e.packed)) then 11
  else 0) := rfl
 have HLA : Hid (ListAt w b o e p t) := h
 clear h
 revert HF HA
 generalize e.flags &&& 63473 = g
 intro HA HF
 by_cases d0 : (e.disk : Int) = 0
 ·by_cases g0 : (g : Int) = 0
  ·by_cases m0 : (e.method : Int) = 0
   ·have m8 : ¬ (e.method : Int) = 8 := by omega
    go_enter Tryz.func49, Tryz.ntmps49
    ·skip
     go_wp2_with fail
     refine (HL.out _ HLA.out).mono ?_
     rintro r w' ⟨rfl, rfl⟩
     cases hl : linkB e with
     | true =>
      go_wp2
      go_ret
      exact ⟨by rw [HF.out, if_neg (by omega), hl, Bool.or_true]; rfl, Touch.refl _ _⟩
     | false =>
      have HF2 : Hid (faultOf e = if nameOk e.name = false then 7 else if (folderB e.name && (decide (e.size ≠ 0) || decide (e.packed ≠ 0))) || (decide (e.method = 0) && decide (e.size ≠ e.packed)) then 11 else 0) := by
       unfold Hid; rw [HF.out, if_neg (by omega), hl, Bool.or_false]; rw [if_neg]; simp; omega
      go_wp2_with fail
      refine (HN.out _).mono ?_
      rintro r w1 ⟨rfl, t1⟩
      have L1 := HLA.out.keep t1 (fun e => e)
      have k0 : w1.cell? ⟨b, o, none⟩ = some (.string e.name) := L1 0 (by omega)
      have k1 : w1.cell? ⟨b, o + 1, none⟩ = some (.int .i64 (e.method : Int)) := L1 1 (by omega)
      have k3 : w1.cell? ⟨b, o + 3, none⟩ = some (.int .i64 (e.packed : Int)) := L1 3 (by omega)
      have k4 : w1.cell? ⟨b, o + 4, none⟩ = some (.int .i64 (e.size : Int)) := L1 4 (by omega)
      clear L1
      cases hn : nameOk e.name with
      | false =>
       go_wp2
       go_ret
       exact ⟨by rw [HF2.out, if_pos hn]; rfl, t1⟩
      | true =>
       go_wp2_with fail
       refine (HD.out _).mono ?_
       rintro r w' ⟨rfl, rfl⟩
       have HF3 : Hid (faultOf e = if (folderB e.name && (decide (e.size ≠ 0) || decide (e.packed ≠ 0))) || (decide (e.method = 0) && decide (e.size ≠ e.packed)) then 11 else 0) := by
        unfold Hid; rw [HF2.out, if_neg (by rw [hn]; simp)]
       clear HF2 HF
       have FIN : Hid (∀ x : Nat, x = faultOf e → ∀ W : World, Touch (fun _ => False) w W → Ending.returned (.int .i64 (x : Int)) = Ending.returned (.int .i64 (faultOf e : Int)) ∧ Touch (fun _ => False) w W) := fun x hx W hW => ⟨by rw [hx], hW⟩
       cases hf : folderB e.name with
       | true =>
        by_cases z0 : (e.size : Int) = 0
        ·by_cases y0 : (e.packed : Int) = 0
         ·go_wp2
          go_quiet (fail)
          go_wp2
          go_ret
          exact FIN.out 0 (by rw [HF3.out, hf]; simp; omega) _ (t1.drewN _)
         ·have y1 : ((e.packed : Int) != 0) = true := by simpa using y0
          go_wp2
          go_ret
          exact FIN.out 11 (by rw [HF3.out, hf]; simp; omega) _ t1
        ·have z1 : ((e.size : Int) != 0) = true := by simpa using z0
         go_wp2
         go_ret
         exact FIN.out 11 (by rw [HF3.out, hf]; simp; omega) _ t1
       | false =>
        by_cases zp : (e.size : Int) = (e.packed : Int)
        ·have zp' : ((e.size : Int) != (e.packed : Int)) = false := by simpa using zp
         go_wp2
         go_quiet (fail)
         go_wp2
         go_ret
         exact FIN.out 0 (by rw [HF3.out, hf]; simp; omega) _ (t1.drewN _)
        ·have zp' : ((e.size : Int) != (e.packed : Int)) = true := by simpa using zp
         go_wp2
         go_quiet (fail)
         go_wp2
         go_ret
         exact FIN.out 11 (by rw [HF3.out, hf]; simp; omega) _ (t1.drewN _)
   ·by_cases m8 : (e.method : Int) = 8
    ·go_enter Tryz.func49, Tryz.ntmps49
     go_wp2_with fail
     refine (HL.out _ HLA.out).mono ?_
     rintro r w' ⟨rfl, rfl⟩
     cases hl : linkB e with
     | true =>
      go_wp2
      go_ret
      exact ⟨by rw [HF.out, if_neg (by omega), hl, Bool.or_true]; rfl, Touch.refl _ _⟩
     | false =>
      have HF2 : Hid (faultOf e = if nameOk e.name = false then 7 else if (folderB e.name && (decide (e.size ≠ 0) || decide (e.packed ≠ 0))) || (decide (e.method = 0) && decide (e.size ≠ e.packed)) then 11 else 0) := by
       unfold Hid; rw [HF.out, if_neg (by omega), hl, Bool.or_false]; rw [if_neg]; simp; omega
      go_wp2_with fail
      refine (HN.out _).mono ?_
      rintro r w1 ⟨rfl, t1⟩
      have L1 := HLA.out.keep t1 (fun e => e)
      have k0 : w1.cell? ⟨b, o, none⟩ = some (.string e.name) := L1 0 (by omega)
      have k1 : w1.cell? ⟨b, o + 1, none⟩ = some (.int .i64 (e.method : Int)) := L1 1 (by omega)
      have k3 : w1.cell? ⟨b, o + 3, none⟩ = some (.int .i64 (e.packed : Int)) := L1 3 (by omega)
      have k4 : w1.cell? ⟨b, o + 4, none⟩ = some (.int .i64 (e.size : Int)) := L1 4 (by omega)
      clear L1
      cases hn : nameOk e.name with
      | false =>
       go_wp2
       go_ret
       exact ⟨by rw [HF2.out, if_pos hn]; rfl, t1⟩
      | true =>
       go_wp2_with fail
       refine (HD.out _).mono ?_
       rintro r w' ⟨rfl, rfl⟩
       have HF3 : Hid (faultOf e = if (folderB e.name && (decide (e.size ≠ 0) || decide (e.packed ≠ 0))) || (decide (e.method = 0) && decide (e.size ≠ e.packed)) then 11 else 0) := by
        unfold Hid; rw [HF2.out, if_neg (by rw [hn]; simp)]
       clear HF2 HF
       have FIN : Hid (∀ x : Nat, x = faultOf e → ∀ W : World, Touch (fun _ => False) w W → Ending.returned (.int .i64 (x : Int)) = Ending.returned (.int .i64 (faultOf e : Int)) ∧ Touch (fun _ => False) w W) := fun x hx W hW => ⟨by rw [hx], hW⟩
       cases hf : folderB e.name with
       | true =>
        by_cases z0 : (e.size : Int) = 0
        ·by_cases y0 : (e.packed : Int) = 0
         ·go_wp2
          go_quiet (fail)
          go_wp2
          go_ret
          exact FIN.out 0 (by rw [HF3.out, hf]; simp; omega) _ (t1.drewN _)
         ·have y1 : ((e.packed : Int) != 0) = true := by simpa using y0
          go_wp2
          go_ret
          exact FIN.out 11 (by rw [HF3.out, hf]; simp; omega) _ t1
        ·have z1 : ((e.size : Int) != 0) = true := by simpa using z0
         go_wp2
         go_ret
         exact FIN.out 11 (by rw [HF3.out, hf]; simp; omega) _ t1
       | false =>
        go_wp2
        go_quiet (fail)
        go_wp2
        go_ret
        exact FIN.out 0 (by rw [HF3.out, hf]; simp; omega) _ (t1.drewN _)
    ·go_enter Tryz.func49, Tryz.ntmps49
     have n0 : ((e.method : Int) != 0) = true := by simpa using m0
     have n8 : ((e.method : Int) != 8) = true := by simpa using m8
     go_wp2
     go_ret
     exact ⟨by rw [HF.out, if_neg (by omega), if_pos (by simp; omega)]; rfl, Touch.refl _ _⟩
  ·have g1 : ((g : Int) != 0) = true := by simpa using g0
   go_enter Tryz.func49, Tryz.ntmps49
   go_wp2
   go_ret
   exact ⟨by rw [HF.out, if_neg (by omega), decide_eq_true (by omega)]; rfl, Touch.refl _ _⟩
 ·have d1 : ((e.disk : Int) != 0) = true := by simpa using d0
  go_enter Tryz.func49, Tryz.ntmps49
  go_wp2
  go_ret
  exact ⟨by rw [HF.out, if_pos (by omega)]; rfl, Touch.refl _ _⟩
end Go.Proofs.YtnmkmmgaoplfiaaGreatDoor
