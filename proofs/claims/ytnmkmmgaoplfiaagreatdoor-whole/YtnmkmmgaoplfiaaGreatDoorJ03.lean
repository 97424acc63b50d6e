/- Texts of this seat, joined. -/
import Derived.Test.YtnmkmmgaoplfiaaGreatDoorJ02
import Derived.Test.YtnmkmmgaoplfiaaGreatDoorCards
import Derived.Test.YtnmkmmgaoplfiaaGreatDoorTie
import Derived.Deep.RegionWith
import Derived.ProofKit
import Derived.OpenShut
import Derived.Deep.DeepHandedRow
import Derived.Lib.LaidTab
import Derived.Lay
set_option linter.unusedSimpArgs false
set_option linter.unusedVariables false
set_option maxRecDepth 100000
set_option maxHeartbeats 20000000
namespace Go.Proofs.YtnmkmmgaoplfiaaGreatDoor
open Go.RowKit
def Ord (w : World) : Prop := ∀ j, j < 19 → w.cell? ⟨0, j, none⟩ = some (.int .i64 ((order.getD j 0 : Nat) : Int))
theorem Ord.keep {S : Nat → Prop} {w w' : World} (h : Ord w) (ht : Touch S w w') (hs : ¬ S 0) : Ord w' := fun j hj => ht.at (h j hj) hs
structure RN (b : Nat) (w w' : World) : Prop where
 t : Touch (· = b) w w'
 keep : ∀ o, 5 ≤ o → w'.cell? ⟨b, o, none⟩ = w.cell? ⟨b, o, none⟩
 fr : ∀ o, w'.frozen? ⟨b, o, none⟩ = w.frozen? ⟨b, o, none⟩
theorem RT.rn {b : Nat} {w w' : World} (h : RT b w w') : RN b w w' := ⟨h.t, h.keep, h.fr⟩
theorem RN.refl (b : Nat) (w : World) : RN b w w := ⟨Touch.refl _ _, fun _ _ => rfl, fun _ => rfl⟩
theorem RN.trans {b : Nat} {x y z : World} (h : RN b x y) (k : RN b y z) : RN b x z :=
 ⟨h.t.trans k.t, fun o ho => (k.keep o ho).trans (h.keep o ho), fun o => (k.fr o).trans (h.fr o)⟩
theorem RN.new {b : Nat} {w w' : World} (h : Touch (fun _ => False) w w') (hb : b < w.heap.size) : RN b w w' :=
 ⟨h.mono (fun _ _ e => e.elim), fun o _ => h.cell hb (fun e => e), fun o => h.frozen hb (fun e => e)⟩
theorem Rd.lt {w : World} {b : Nat} {s : ByteArray} {p : Nat} (h : Rd w b s p) : b < w.heap.size := World.block_lt_of_cell? w _ h.c0
theorem Rd.new {w w' : World} {b : Nat} {s : ByteArray} {p : Nat} (h : Rd w b s p) {S : Nat → Prop} (ht : Touch S w w') (hs : ¬ S b) : Rd w' b s p := by
 have hl := h.lt
 have e : ∀ o, w'.cell? ⟨b, o, none⟩ = w.cell? ⟨b, o, none⟩ := fun o => ht.cell hl hs
 have f : ∀ o, w'.frozen? ⟨b, o, none⟩ = w.frozen? ⟨b, o, none⟩ := fun o => ht.frozen hl hs
 exact ⟨(e 0).trans h.c0, (e 1).trans h.c1, by rw [e 2]; exact h.c2, (e 3).trans h.c3, (e 4).trans h.c4, fun o => (f o).trans (h.fr o)⟩
theorem Rd.drew {w : World} {b : Nat} {s : ByteArray} {p : Nat} (h : Rd w b s p) : Rd w.drew b s p := ⟨h.c0, h.c1, h.c2, h.c3, h.c4, h.fr⟩
theorem Rd.drewN {w : World} {b : Nat} {s : ByteArray} {p : Nat} (h : Rd w b s p) (n : Nat) : Rd (w.drewN n) b s p := ⟨h.c0, h.c1, h.c2, h.c3, h.c4, h.fr⟩
theorem RN.drew {b : Nat} {x y : World} (h : RN b x y) : RN b x y.drew := ⟨h.t.drew, h.keep, h.fr⟩
theorem RT.drew {b : Nat} {x y : World} (h : RT b x y) : RT b x y.drew := ⟨h.t.drew, h.size, h.keep, h.fr⟩
theorem RN.set {b : Nat} {x y : World} (h : RN b x y) {a : Addr} (ha : x.heap.size ≤ a.block) (hb : b < x.heap.size) (v : Value) : RN b x (y.setCell a v) := by
 have hne : ∀ o, a ≠ ⟨b, o, none⟩ := by intro o e; rw [e] at ha; simp at ha; omega
 exact ⟨h.t.setNew ha v, fun o ho => by rw [← h.keep o ho]; apply World.cell?_setCell_other; exact hne o, fun o => by rw [World.frozen?_setCell]; exact h.fr o⟩
theorem Rd.set {w : World} {b : Nat} {s : ByteArray} {p : Nat} (h : Rd w b s p) {a : Addr} (ha : b ≠ a.block) (v : Value) : Rd (w.setCell a v) b s p := by
 have hne : ∀ o, a ≠ ⟨b, o, none⟩ := by intro o e; rw [e] at ha; exact ha rfl
 have e : ∀ o, (w.setCell a v).cell? ⟨b, o, none⟩ = w.cell? ⟨b, o, none⟩ := fun o => by apply World.cell?_setCell_other; exact hne o
 exact ⟨(e 0).trans h.c0, (e 1).trans h.c1, by rw [e 2]; exact h.c2, (e 3).trans h.c3, (e 4).trans h.c4, fun o => by rw [World.frozen?_setCell]; exact h.fr o⟩
theorem RN.row {b : Nat} {x y : World} (h : RN b x y) {g : Nat} (hg : x.heap.size ≤ g) (hb : b < x.heap.size) (cs : Array Value) : RN b x (y.setRow g cs) := by
 have e : (y.setRow g cs).heap[b]? = y.heap[b]? := setRow_other _ _ _ _ (by omega)
 exact ⟨h.t.setRow hg cs, fun o ho => (World.cell?_of_block e).trans (h.keep o ho), fun o => (World.frozen?_of_block e).trans (h.fr o)⟩
theorem Touch.row {w : World} {g : Nat} (cs : Array Value) : Touch (· = g) w (w.setRow g cs) := ⟨rfl, rfl, rfl, by simp, fun k _ hk => setRow_other _ _ _ _ hk⟩
theorem number_i (b : Nat) (w : World) (s : ByteArray) (p : Nat) (n : Nat) (N : Int) (hN : N = (n : Int)) (hn : n ≤ 16) (hs : s.size ≤ maxLen) (h : Rd w b s p) :
  Calls Tryz.prog 62 #[.pointer (some ⟨b, 0, none⟩), .int .i64 N] w fun e w' => e = .returned (.int .i64 (numAt s p n)) ∧ Rd w' b s (p + n) ∧ RT b w w' := by
 subst hN; exact number_c b w s p n hn hs h
theorem takeLengthCode_c (w : World) (b : Nat) (s : ByteArray) (p n : Nat) (hn : n ≤ 19) (hs : s.size ≤ maxLen) (hr : Rd w b s p) (ho : Ord w) (hb : 0 < b) :
  Calls Tryz.prog 121 #[.pointer (some ⟨b, 0, none⟩), .int .i64 (n : Int)] w fun e w' => ∃ nb cap, e = .returned (.agg (codeCells (lens3 s p n) (.slice (some ⟨nb, 0, none⟩) (placeOf (lens3 s p n) 16) cap))) ∧ w.heap.size ≤ nb ∧
   (∀ m r, 1 ≤ m → m < 16 → r < cnt (lens3 s p n) m → w'.cell? ⟨nb, placeOf (lens3 s p n) m + r, none⟩ = some (.int .i64 (nth (lens3 s p n) m r : Nat))) ∧ Typed w' nb 3 ∧ Rd w' b s (p + 3 * n) ∧ RN b w w' := by
 obtain ⟨i0, hi, hz0, hz1, hz2⟩ := info_parts Tryz.infoInt
 have hm1 : i0.bytes * 19 ≤ 281474976710656 := by rw [hz2]; omega
 have hm2 : 19 ≤ maxLen := by unfold maxLen; omega
 have hlt := hr.lt
 go_enter Tryz.func121, Tryz.ntmps121
 go_wp2_with (at_make; refine wpList_make_full _ rfl _ _ 187 rfl (w.heap.size + 1) 3 i0 (.int .i64 0) 1 Tryz.underlying187 hi hz0 hz1 .i64 .i64 _ _ 19 rfl rfl rfl rfl hm1 hm2 (by simp) ?_; intro w1 hown1 hgrow1)
 have T1 : Touch (fun _ => False) w w1 := ((Touch.refl _ w).alloc _).grownNew hgrow1 (by intro k e; cases e)
 have r0 : w1.heap[w.heap.size]? = some (.cells (cArr (fun _ => 0) (.slice none 0 0)) 191 (0, 0)) := by
  rw [hgrow1.block w.heap.size (by simp) (by simp)]; exact heap_alloc_new w _
 have E1 : (madeCells (Value.int IntKind.i64 0).cells (19 * 1)).toList = ints (lens3 s p 0) := by kernel_rfl
 rw [E1] at hown1
 simp only [World.size_alloc] at hown1
 go_loopw [9] (fun i wr => ∃ k : Nat, k ≤ n ∧ i = .int .i64 (k : Int) ∧ wr.ownsRow (w.heap.size + 1) 3 1 (.slice (some ⟨w.heap.size + 1, 0, none⟩) 19 19) 19 (ints (lens3 s p k)) ∧ Rd wr b s (p + 3 * k) ∧ RN b w wr ∧ wr.heap[w.heap.size]? = some (.cells (cArr (fun _ => 0) (.slice none 0 0)) 191 (0, 0)) ∧ Ord wr) (fun i _ => n - (intOf i).toNat)
 case atStart => exact ⟨0, by omega, rfl, hown1, hr.new T1 (fun h => h), RN.new T1 hlt, r0, ho.keep T1 (fun h => h)⟩
 case round =>
  clear r0 hown1 hgrow1 T1 E1
  obtain ⟨k, hk, rfl, hown, hrd, hrn, r0, hord⟩ := hrel
  by_cases hlt' : k < n
  ·have ho1 := hord k (by omega)
   have hol := order_lt k (by omega)
   obtain ⟨x, hx⟩ : ∃ x, x = order.getD k 0 := ⟨_, rfl⟩
   have HX : Hid (x = order.getD k 0) := hx
   rw [← hx] at ho1 hol
   clear hx
   obtain ⟨old, e3⟩ : ∃ v, wr.cell? ⟨w.heap.size + 1, x, none⟩ = some v := by
    rw [hown.cellAt _ (by omega)]
    have := hown.1
    exact ⟨_, List.getElem?_eq_getElem (by omega)⟩
   have e4 := hown.frozenAt x
   go_wp2
   have d1 : wr.drew.cell? ⟨0, k, none⟩ = some (.int .i64 (x : Int)) := ho1
   have d3 : wr.drew.cell? ⟨w.heap.size + 1, x, none⟩ = some old := e3
   have d4 : wr.drew.frozen? ⟨w.heap.size + 1, x, none⟩ = false := e4
   have dlt : w.heap.size + 1 < wr.drew.heap.size := World.block_lt_of_cell? _ _ d3
   go_region_with (go_at_call 62; refine (number_i b wr.drew s (p + 3 * k) 3 _ rfl (by omega) hs hrd.drew).mono ?_; rintro e w2 ⟨rfl, hrd', hrt'⟩; have ho2 := hrt'.t.at d1 (by show ¬ 0 = b; omega); have e3' := hrt'.t.at d3 (by show ¬ w.heap.size + 1 = b; omega); have e4' := (hrt'.t.frozen (p := ⟨w.heap.size + 1, x, none⟩) dlt (by show ¬ w.heap.size + 1 = b; omega)).trans d4)
   all_goals go_wp2
   all_goals
    go_roundw
    case rel =>
     have hownd : wr.drew.ownsRow (w.heap.size + 1) 3 1 (.slice (some ⟨w.heap.size + 1, 0, none⟩) 19 19) 19 (ints (lens3 s p k)) := hown
     have how := hrt'.t.owns hownd (by intro j hj; cases hj; show ¬ w.heap.size + 1 = b; omega)
     have hst := (how.stored x (.int .i64 (numAt s (p + 3 * k) 3 : Nat))).1
     have e : (ints (lens3 s p k)).set x (.int .i64 (numAt s (p + 3 * k) 3 : Nat)) = ints (lens3 s p (k + 1)) := by
      simp only [lens3, ints, List.map_set, ← HX.out]
     rw [e] at hst
     have rn1 : RN b w w2 := hrn.drew.trans hrt'.rn
     have ord2 : Ord w2 := (show Ord wr.drew from hord).keep hrt'.t (by show ¬ 0 = b; omega)
     refine ⟨k + 1, by omega, by go_num, hst, ?_, ?_, ?_, ?_⟩
     ·rw [show p + 3 * (k + 1) = p + 3 * k + 3 by omega]
      exact hrd'.set (by show b ≠ w.heap.size + 1; omega) _
     ·exact rn1.set (by show w.heap.size ≤ w.heap.size + 1; omega) hlt _
     ·rw [row_ne (by omega), hrt'.t.block w.heap.size (by have := dlt; omega) (by omega)]; exact r0
     ·intro j hj
      rw [World.cell?_setCell_other]
      ·exact ord2 j hj
      ·intro e; cases e
    case measure => simp [intOf]; omega
  ·obtain rfl : k = n := by omega
   go_wp2_with fail
   refine (newCode_c wr (w.heap.size + 1) 0 19 19 (lens3 s p k) (lens3_len s p k) (by omega) (lens3_le s p k) ?_).mono ?_
   ·intro j hj
    rw [Nat.zero_add, hown.cellAt j (by rw [lens3_len] at hj; omega)]
    simp [ints, hj]
   ·rintro e w2 ⟨nb, cap, rfl, h1, h2, h3, h4, h5⟩
    have lt1 : w.heap.size < wr.heap.size := (Array.getElem?_eq_some_iff.1 r0).1
    have r0' := (h5.block w.heap.size lt1 (fun h => h)).trans r0
    go_wp2_with (refine wpList_store_row rfl 191 (.tmp 4) (.tmp 21) rfl w.heap.size _ rfl rfl 191 _ r0' (by kernel_rfl) rfl (cArr_one _ _ _ _) ?_)
    have hsz2 := h5.size
    have t6 := Touch.row (w := w2) (g := w.heap.size) (codeCells (lens3 s p k) (.slice (some ⟨nb, 0, none⟩) (placeOf (lens3 s p k) 16) cap))
    refine bodyPost_ret (v := .agg (codeCells (lens3 s p k) (.slice (some ⟨nb, 0, none⟩) (placeOf (lens3 s p k) 16) cap))) (results_cell_row Tryz.results121 _ _ w.heap.size 191 _ (0, 0) _ rfl (setRow_heap _ _ _ _ _ _ r0') Tryz.underlying191 rfl (by kernel_rfl)) rfl ⟨nb, cap, rfl, by omega, ?_, ?_, ?_, ?_⟩
    ·intro m r a1 a2 a3
     exact t6.at (h3 m r a1 a2 a3) (by show ¬ nb = w.heap.size; omega)
    ·exact h4.keep t6 (by show ¬ nb = w.heap.size; omega)
    ·exact (hrd.new h5 (fun h => h)).new t6 (by show ¬ b = w.heap.size; omega)
    ·exact (hrn.trans (RN.new h5 (by omega))).row (Nat.le_refl _) hlt _
end Go.Proofs.YtnmkmmgaoplfiaaGreatDoor
namespace Go.Proofs.YtnmkmmgaoplfiaaGreatDoor
namespace PHead
open Go.ChangeShapes Go.WideShapes Go.ChangeAt Go.RowKit
theorem own : ownKnob Tryz.prog.godebug = none := by kernel_rfl
theorem gTab : Tryz.prog.globalNamed "crate/crate.lengthOrder" = some 0 := by kernel_rfl
theorem gTabType : (Tryz.prog.globals[0]?).map (·.type) = some 211 := by kernel_rfl
theorem cellsTab : Tryz.prog.cellsOf 211 = 19 := by kernel_rfl
theorem cellsInt : Tryz.prog.cellsOf 3 = 1 := by kernel_rfl
theorem tab_of_vars {P : Program} {W : World} {name : String} {k : IntKind} {zs : List Int} {g : Nat} {t e : TypeId} {n : Nat}
  (hg : P.globalNamed name = some g) (hty : (P.globals[g]?).map (·.type) = some t) (ht : P.underlying t = some (.array n e)) (he : P.underlying e = some (.int k)) (hce : P.cellsOf e = 1) (hct : P.cellsOf t = n) :
  ∀ {l : List (String × DataW Unit)} {ps : List MemPlace}, DataW.LaidVars P W l ps → (name, Lib.tabData k zs) ∈ l → Lib.TabIs P W name k zs
 | [], _, _, hm => by cases hm
 | y :: r, ps, h, hm => by
  obtain ⟨g', t', cs, fuel, p, q, hg', ht', hvar, hd, hrest, _⟩ := h
  rcases List.mem_cons.1 hm with e1 | e1
  ·subst e1
   obtain rfl := Option.some.inj (hg.symm.trans hg')
   obtain rfl := Option.some.inj (hty.symm.trans ht')
   unfold Lib.TabIs
   rw [hvar, ← Lib.cells_of_tab ht he hce hct hd]
  ·exact tab_of_vars hg hty ht he hce hct hrest e1
theorem ord {l : List (String × DataW Unit)} {W : World} (h : laidMetH Tryz.prog l W) (hp : ∀ w, laidMetH Tryz.prog l w = laidMet Tryz.prog l w) (hm : ("crate/crate.lengthOrder", (Rows.laid_crate_crate_lengthOrder : DataW Unit)) ∈ l) : Ord W := by
 rw [hp] at h
 obtain ⟨ps, hv, _⟩ := h
 have ht : Lib.TabIs Tryz.prog W "crate/crate.lengthOrder" .i64 [16, 17, 18, 0, 8, 7, 9, 6, 10, 5, 11, 4, 12, 3, 13, 2, 14, 1, 15] := tab_of_vars gTab gTabType Tryz.underlying211 Tryz.underlying3 cellsInt cellsTab hv hm
 intro j hj
 rw [ht.cell gTab j (by simpa using hj)]
 congr 2
 have : ∀ j : Fin 19, ([16, 17, 18, 0, 8, 7, 9, 6, 10, 5, 11, 4, 12, 3, 13, 2, 14, 1, 15] : List Int).getD j.val 0 = ((order.getD j.val 0 : Nat) : Int) := by decide
 exact this ⟨j, hj⟩
end PHead
end Go.Proofs.YtnmkmmgaoplfiaaGreatDoor
