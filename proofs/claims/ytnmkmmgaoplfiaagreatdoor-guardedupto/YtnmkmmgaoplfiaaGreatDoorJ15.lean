/- Texts of this seat, joined. -/
import Derived.Test.YtnmkmmgaoplfiaaGreatDoorJ13
set_option linter.unusedSimpArgs false
set_option linter.unusedVariables false
set_option maxRecDepth 100000
set_option maxHeartbeats 20000000
namespace Go.Proofs.YtnmkmmgaoplfiaaGreatDoor
open Go.RowKit Go.Shelf Go.Lib
theorem Tryz.infoEntry : (Tryz.prog.info? 44).map (fun i => (i.zero, i.size, i.bytes)) = some (some (.agg #[.string ⟨#[]⟩, .int .i64 0, .int .u32 0, .int .i64 0, .int .i64 0, .int .i64 0]), 6, 56) := by kernel_rfl
def entL (x : Spanned) : List Value := [.string x.ent.name, .int .i64 (x.ent.method : Int), .int .u32 (x.ent.sum : Int), .int .i64 (x.ent.packed : Int), .int .i64 (x.ent.size : Int), .int .i64 (x.place : Int)]
def entV (l : List Spanned) : List Value := l.flatMap entL
theorem entV_snoc (l : List Spanned) (x : Spanned) : entV (l ++ [x]) = entV l ++ entL x := by simp [entV]
theorem clone_c (w : World) (s : ByteArray) (hs : s.size ≤ 281474976710656) : Calls Tryz.prog 55 #[.string s] w fun e w' => e = .returned (.string s) ∧ Touch (fun _ => False) w w' := by
 have hc := fun W => Any.stringslite_Clone Tryz.laysM316 s W hs
 change ∀ W, Calls Tryz.prog 77 _ _ _ at hc
 have HC : Hid (∀ W, Calls Tryz.prog 77 #[.string s] W fun e w' => e = .returned (.string s) ∧ Touch (fun _ => False) W w') := fun W => (hc W).mono fun e w' h => ⟨h.1, Touch.ofBelow h.2 _⟩
 clear hc
 go_enter Tryz.func55, Tryz.ntmps55
 go_wp2_with fail
 refine (HC.out _).mono ?_
 rintro e w' ⟨rfl, t⟩
 go_wp2
 go_ret
 exact ⟨rfl, t⟩
theorem cell_six_new (w : World) (u0 u1 u2 u3 u4 u5 : Value) (t : TypeId) : ∀ (j : Nat) (x : Value), [u0, u1, u2, u3, u4, u5][j]? = some x → (w.alloc (.cells #[u0, u1, u2, u3, u4, u5] t)).cell? ((⟨w.heap.size, 0, none⟩ : Addr).add j) = some x := by
 intro j x h
 have hb := heap_alloc_new w (.cells #[u0, u1, u2, u3, u4, u5] t)
 have hj : j < 6 := by
  have := (List.getElem?_eq_some_iff.1 h).1
  simpa using this
 have e : ∀ i, i < 6 → (w.alloc (.cells #[u0, u1, u2, u3, u4, u5] t)).cell? ⟨w.heap.size, i, none⟩ = [u0, u1, u2, u3, u4, u5][i]? := by
  intro i hi
  rw [row_cell hb i]
  rcases (by omega : i = 0 ∨ i = 1 ∨ i = 2 ∨ i = 3 ∨ i = 4 ∨ i = 5) with rfl | rfl | rfl | rfl | rfl | rfl <;> rfl
 rcases (by omega : j = 0 ∨ j = 1 ∨ j = 2 ∨ j = 3 ∨ j = 4 ∨ j = 5) with rfl | rfl | rfl | rfl | rfl | rfl
 ·exact (e 0 (by omega)).trans h
 ·exact (e 1 (by omega)).trans h
 ·exact (e 2 (by omega)).trans h
 ·exact (e 3 (by omega)).trans h
 ·exact (e 4 (by omega)).trans h
 ·exact (e 5 (by omega)).trans h
theorem entriesOf_c (w : World) (a : Option Addr) (g cap : Nat) (L : List Spanned) (ha : 0 < L.length → a = some ⟨g, 0, none⟩) (hl : 0 < L.length → LstAt w g L) (hn : L.length ≤ 1000000000) (hok : ∀ x ∈ L, x.ent.name.size ≤ 65536) :
  Calls Tryz.prog 32 #[.slice a L.length cap] w fun r w' => ∃ v, r = .returned v ∧ v ≠ .slice none 0 0 ∧ w'.ownsRow w.heap.size 44 6 v L.length (entV L) ∧ Touch (fun _ => False) w w' := by
 obtain ⟨i0, hi, hz0, hz1, hz2⟩ := info_parts Tryz.infoEntry
 obtain ⟨n, hN⟩ : ∃ n, n = L.length := ⟨_, rfl⟩
 rw [← hN]
 have ha' : Hid (0 < L.length → a = some ⟨g, 0, none⟩) := ha
 have hl' : Hid (0 < L.length → LstAt w g L) := hl
 have hN' : Hid (n = L.length) := hN
 have hn' : n ≤ 1000000000 := by omega
 have hby : i0.bytes * n ≤ 281474976710656 := by rw [hz2]; omega
 have hnm : n ≤ maxLen := by unfold maxLen; omega
 clear ha hl hN hn
 go_enter Tryz.func32, Tryz.ntmps32
 go_wp2_with (at_make; refine wpList_make_own _ rfl _ _ 31 rfl w.heap.size 44 i0 (.agg #[.string ⟨#[]⟩, .int .i64 0, .int .u32 0, .int .i64 0, .int .i64 0, .int .i64 0]) 6 Tryz.underlying31 hi hz0 hz1 .i64 .i64 _ n rfl rfl rfl hby hnm (Nat.le_refl _) ?_; intro w0 ho0 hg0)
 have T0 : Touch (fun _ => False) w w0 := (Touch.refl (fun _ => False) w).grownNew hg0 (fun k e => by cases e)
 clear hg0
 go_loopw [3, 11] (fun v i wr => ∃ k : Nat, k ≤ n ∧ i = .int .i64 (k : Int) ∧ wr.ownsRow w.heap.size 44 6 v k (entV (L.take k)) ∧ v ≠ .slice none 0 0 ∧ Touch (fun _ => False) w wr) (fun v i wr => n - (intOf i).toNat)
 case atStart => exact ⟨0, Nat.zero_le _, rfl, ho0, by simp, T0⟩
 case round =>
  obtain ⟨k, hk, rfl, ho, hnn, ht⟩ := hrel
  have hsz := ht.size
  by_cases hlt : k < n
  ·have hlt' : k < L.length := by have := hN'.out; omega
   obtain rfl := ha'.out (by omega)
   have hL := (hl'.out (by omega)).keep ht (fun e => e)
   have hC := hL.cells k hlt'
   have HX : Hid (L.take (k + 1) = L.take k ++ [L[k]]) := by
    unfold Hid; rw [List.take_succ_eq_append_getElem hlt']
   have hns := hok L[k] (List.getElem_mem hlt')
   revert hC HX hns
   generalize L[k] = x
   intro hC HX hns
   have c0 := hC 0 (by omega)
   have c1 := hC 1 (by omega)
   have c2 := hC 2 (by omega)
   have c3 := hC 3 (by omega)
   have c4 := hC 4 (by omega)
   have c5 := hC 5 (by omega)
   have c6 := hC 6 (by omega)
   have c7 := hC 7 (by omega)
   have c8 := hC 8 (by omega)
   have c9 := hC 9 (by omega)
   have c10 := hC 10 (by omega)
   have c11 := hC 11 (by omega)
   have c12 := hC 12 (by omega)
   simp only [listL, List.getElem?_cons_zero, List.getElem?_cons_succ, Nat.add_zero] at c0 c1 c2 c3 c4 c5 c6 c7 c8 c9 c10 c11 c12
   clear hC hlt' hL
   have b1 : k + 1 ≤ maxLen := by unfold maxLen; omega
   have b2 : (k + 1) * 56 ≤ 140737488355328 := by omega
   go_wp2_with fail
   refine (clone_c _ x.ent.name (by omega)).mono ?_
   rintro e w1 ⟨rfl, t1⟩
   have T1 := (ht.alloc _).trans t1
   have bb := (t1.block wr.heap.size (by simp) (fun e => e)).trans (heap_alloc_new wr _)
   have ho1 := t1.owns (ho.alloc _) (fun k _ h => h)
   have hw1 : wr.heap.size < w1.heap.size := by have := t1.size; simp at this; omega
   clear c0 c1 c2 c3 c4 c5 c6 c7 c8 c9 c10 c11 c12 t1
   have g0 : w1.cell? ⟨wr.heap.size, 0, none⟩ = some (.string x.ent.name) := by rw [row_cell bb 0]; rfl
   have g1 : w1.cell? ⟨wr.heap.size, 1, none⟩ = some (.int .i64 (x.ent.method : Int)) := by rw [row_cell bb 1]; rfl
   have g2 : w1.cell? ⟨wr.heap.size, 2, none⟩ = some (.int .u32 (x.ent.sum : Int)) := by rw [row_cell bb 2]; rfl
   have g3 : w1.cell? ⟨wr.heap.size, 3, none⟩ = some (.int .i64 (x.ent.packed : Int)) := by rw [row_cell bb 3]; rfl
   have g4 : w1.cell? ⟨wr.heap.size, 4, none⟩ = some (.int .i64 (x.ent.size : Int)) := by rw [row_cell bb 4]; rfl
   have g5 : w1.cell? ⟨wr.heap.size, 5, none⟩ = some (.int .i64 (x.place : Int)) := by rw [row_cell bb 5]; rfl
   have fz : ∀ o, w1.frozen? ⟨wr.heap.size, o, none⟩ = false := fun o => frozen_row bb o
   have es := setCell_self w1 wr.heap.size 0 _ g0
   have HQ : Hid (∀ (j : Nat) (y : Value), (entL x)[j]? = some y → (w1.alloc (Obj.cells #[.string x.ent.name, .int .i64 (x.ent.method : Int), .int .u32 (x.ent.sum : Int), .int .i64 (x.ent.packed : Int), .int .i64 (x.ent.size : Int), .int .i64 (x.place : Int)] 44)).cell? ((⟨w1.heap.size, 0, none⟩ : Addr).add j) = some y) := cell_six_new w1 _ _ _ _ _ _ _
   have hsz1 : w.heap.size ≤ w1.heap.size := T1.size
   clear bb
   go_wp2_with (at_builtin; refine wpList_append_own _ rfl _ _ 31 rfl w.heap.size 44 i0 (.agg #[.string ⟨#[]⟩, .int .i64 0, .int .u32 0, .int .i64 0, .int .i64 0, .int .i64 0]) 6 56 Tryz.underlying31 hi hz0 hz1 hz2 rfl (by decide) _ _ _ rfl (ho1.alloc _) ⟨w1.heap.size, 0, none⟩ 1 1 (entL x) rfl rfl HQ.out (by simp [entL, Value.oneCell']) b1 b2 (by simp; omega) ?_; intro v' w2 hown' hgrow hnil)
   refine ⟨⟨k + 1, by omega, by go_num, ?_, ?_, ?_⟩, by simp [intOf]; omega⟩
   ·rw [HX.out, entV_snoc]; exact hown'
   ·intro e; have := (hnil.1 e).2; omega
   ·exact (T1.alloc _).grownNew hgrow (fun j hj => (ho.lt j hj).1)
  ·obtain rfl : k = n := by omega
   rw [List.take_of_length_le (by have := hN'.out; omega)] at ho
   go_wp2
   go_ret
   exact ⟨_, rfl, hnn, ho, ht⟩
end Go.Proofs.YtnmkmmgaoplfiaaGreatDoor
