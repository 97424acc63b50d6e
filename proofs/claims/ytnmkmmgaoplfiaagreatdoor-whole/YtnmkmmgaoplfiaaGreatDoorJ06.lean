/- Texts of this seat, joined. -/
import Derived.Test.YtnmkmmgaoplfiaaGreatDoorJ05
import Derived.Maps.OwnSet
import Derived.Maps.OwnOps
import Derived.Maps.Views
import Derived.BigRegion
set_option linter.unusedSimpArgs false
set_option linter.unusedVariables false
set_option maxRecDepth 100000
set_option maxHeartbeats 20000000
namespace Go.Proofs.YtnmkmmgaoplfiaaGreatDoor
open Go.RowKit Go.Shelf
structure LstAt (w : World) (g : Nat) (L : List Spanned) : Prop where
 cells : ∀ i (h : i < L.length), ListAt w g (i * 13) L[i].ent L[i].place L[i].stop
 lt : g < w.heap.size
theorem LstAt.keep {S : Nat → Prop} {w w' : World} {g : Nat} {L : List Spanned} (h : LstAt w g L) (ht : Touch S w w') (hs : ¬ S g) : LstAt w' g L :=
 ⟨fun i hi => (h.cells i hi).keep ht hs, Nat.lt_of_lt_of_le h.lt ht.size⟩
theorem nameSize_c (w : World) (e : Ent) (p t : Nat) :
  Calls Tryz.prog 27 #[.agg #[.string e.name, .int .i64 (e.method : Int), .int .u32 (e.sum : Int), .int .i64 (e.packed : Int), .int .i64 (e.size : Int), .int .i64 (p : Int), .int .i64 (e.maker : Int), .int .i64 (e.flags : Int), .int .i64 (e.disk : Int), .int .i64 (e.outer : Int), .string e.three, .int .i64 (e.ahead : Int), .int .i64 (t : Int)]] w fun r w' => r = .returned (.int .i64 (e.name.size : Int)) ∧ Touch (fun _ => False) w w' := by
 have T := (Touch.refl (fun _ => False) w).alloc (Obj.cells #[.string e.name, .int .i64 (e.method : Int), .int .u32 (e.sum : Int), .int .i64 (e.packed : Int), .int .i64 (e.size : Int), .int .i64 (p : Int), .int .i64 (e.maker : Int), .int .i64 (e.flags : Int), .int .i64 (e.disk : Int), .int .i64 (e.outer : Int), .string e.three, .int .i64 (e.ahead : Int), .int .i64 (t : Int)] 125)
 go_enter Tryz.func27, Tryz.ntmps27
 go_wp2
 go_ret
 exact ⟨rfl, T⟩
theorem fileSize_c (w : World) (e : Ent) (p t : Nat) :
  Calls Tryz.prog 31 #[.agg #[.string e.name, .int .i64 (e.method : Int), .int .u32 (e.sum : Int), .int .i64 (e.packed : Int), .int .i64 (e.size : Int), .int .i64 (p : Int), .int .i64 (e.maker : Int), .int .i64 (e.flags : Int), .int .i64 (e.disk : Int), .int .i64 (e.outer : Int), .string e.three, .int .i64 (e.ahead : Int), .int .i64 (t : Int)]] w fun r w' => r = .returned (.int .i64 (e.size : Int)) ∧ Touch (fun _ => False) w w' := by
 have T := (Touch.refl (fun _ => False) w).alloc (Obj.cells #[.string e.name, .int .i64 (e.method : Int), .int .u32 (e.sum : Int), .int .i64 (e.packed : Int), .int .i64 (e.size : Int), .int .i64 (p : Int), .int .i64 (e.maker : Int), .int .i64 (e.flags : Int), .int .i64 (e.disk : Int), .int .i64 (e.outer : Int), .string e.three, .int .i64 (e.ahead : Int), .int .i64 (t : Int)] 125)
 go_enter Tryz.func31, Tryz.ntmps31
 go_wp2
 go_ret
 exact ⟨rfl, T⟩
def sumTo (L : List Spanned) (sz : Ent → Nat) (i : Nat) : Nat := ((L.take i).map fun x => sz x.ent).sum
theorem sumTo_succ (L : List Spanned) (sz : Ent → Nat) (i : Nat) (h : i < L.length) : sumTo L sz (i + 1) = sumTo L sz i + sz L[i].ent := by
 unfold sumTo; rw [List.take_succ_eq_append_getElem h, List.map_append, List.sum_append]; simp
theorem sumTo_le (L : List Spanned) (sz : Ent → Nat) : ∀ i, sumTo L sz i ≤ sumTo L sz L.length := by
 intro i
 have : sumTo L sz L.length = sumTo L sz i + (((L.drop i).map fun x => sz x.ent).sum) := by
  unfold sumTo; rw [List.take_length, ← List.sum_append, ← List.map_append, List.take_append_drop]
 omega
theorem withinN_c (w : World) (A : Int) (hA : -9223372036854775808 ≤ A ∧ A ≤ 9223372036854775807) (a : Option Addr) (g cap : Nat) (L : List Spanned) (ha : 0 < L.length → a = some ⟨g, 0, none⟩) (hl : 0 < L.length → LstAt w g L) (hn : L.length ≤ 1000000000000) (hok : ∀ x ∈ L, EntOk x.ent) :
  Calls Tryz.prog 26 #[.int .i64 A, .slice a L.length cap, .func (.func 27) #[] #[]] w fun r w' => r = .returned (.bool (decide ((sumTo L (fun e => e.name.size) L.length : Int) ≤ A))) ∧ Touch (fun _ => False) w w' := by
 obtain ⟨n, hN⟩ : ∃ n, n = L.length := ⟨_, rfl⟩
 rw [← hN]
 have ha' : Hid (0 < L.length → a = some ⟨g, 0, none⟩) := ha
 have hl' : Hid (0 < L.length → LstAt w g L) := hl
 have hN' : Hid (n = L.length) := hN
 have hn' : n ≤ 1000000000000 := by omega
 have hs1 : Hid (∀ k (h : k < L.length), sumTo L (fun e => e.name.size) (k + 1) = sumTo L (fun e => e.name.size) k + (fun e : Ent => e.name.size) L[k].ent) := fun k h => sumTo_succ L _ k h
 have hs2 : Hid (∀ k, sumTo L (fun e => e.name.size) k ≤ sumTo L (fun e => e.name.size) n) := fun k => by rw [hN]; exact sumTo_le L _ k
 obtain ⟨S, hS⟩ : ∃ S : Nat → Nat, S = sumTo L (fun e => e.name.size) := ⟨_, rfl⟩
 have HS0 : Hid (S 0 = 0) := by rw [hS]; rfl
 rw [← hS] at hs1 hs2 ⊢
 clear ha hl hN hn hS
 go_enter Tryz.func26, Tryz.ntmps26
 go_wp2
 go_loopw [0, 11] (fun al i wr => ∃ k : Nat, k ≤ n ∧ i = .int .i64 (k : Int) ∧ (∃ B : Int, al = .int .i64 B ∧ Hid (B = A - (S k : Int)) ∧ -9223372036854775808 ≤ B ∧ B ≤ 9223372036854775807) ∧ Touch (fun _ => False) w wr) (fun al i wr => n - (intOf i).toNat)
 case atStart => exact ⟨0, Nat.zero_le _, rfl, ⟨A, rfl, by unfold Hid; rw [HS0.out]; simp, hA.1, hA.2⟩, Touch.refl _ _⟩
 case round =>
  obtain ⟨k, hk, rfl, ⟨B, rfl, HB, hB1, hB2⟩, ht⟩ := hrel
  by_cases hlt : k < n
  ·have hlt' : k < L.length := by have := hN'.out; omega
   obtain rfl := ha'.out (by omega)
   have hL := (hl'.out (by omega)).keep ht (fun e => e)
   have hC := hL.cells k hlt'
   have HX := hs1.out k hlt'
   have hz := hok L[k] (List.getElem_mem hlt')
   revert hC HX hz
   generalize L[k] = x
   intro hC HX hz
   have c0 := hC 0 (by omega)
   have c1 := hC 1 (by omega)
   have c2 := hC 2 (by omega)
   have c3 := hC 3 (by omega)
   have c4 := hC 4 (by omega)
   have c5 := hC 5 (by omega)
   have c6 := hC 6 (by omega)
   have c7 := hC 7 (by omega)
   have c8 := hC 8 (by omega)
   have c9 := hC 9 (by omega)
   have c10 := hC 10 (by omega)
   have c11 := hC 11 (by omega)
   have c12 := hC 12 (by omega)
   simp only [listL, List.getElem?_cons_zero, List.getElem?_cons_succ, Nat.add_zero] at c0 c1 c2 c3 c4 c5 c6 c7 c8 c9 c10 c11 c12
   have HX' : Hid (S (k + 1) = S k + x.ent.name.size) := HX
   have hb : x.ent.name.size ≤ 1099511627776 := by have := hz.name; have := hz.size; omega
   clear hC HX hlt' hL hz
   go_wp2_with fail
   refine (nameSize_c _ x.ent x.place x.stop).mono ?_
   rintro r w1 ⟨rfl, t1⟩
   have T1 := (ht.alloc _).trans t1
   have b1 := (t1.block wr.heap.size (by simp) (fun e => e)).trans (heap_alloc_new wr (Obj.cells #[.string x.ent.name, .int .i64 (x.ent.method : Int), .int .u32 (x.ent.sum : Int), .int .i64 (x.ent.packed : Int), .int .i64 (x.ent.size : Int), .int .i64 (x.place : Int), .int .i64 (x.ent.maker : Int), .int .i64 (x.ent.flags : Int), .int .i64 (x.ent.disk : Int), .int .i64 (x.ent.outer : Int), .string x.ent.three, .int .i64 (x.ent.ahead : Int), .int .i64 (x.stop : Int)] 125))
   clear c0 c1 c2 c3 c4 c5 c6 c7 c8 c9 c10 c11 c12 t1
   by_cases hgt : B < (x.ent.name.size : Nat)
   ·go_wp2
    go_ret
    refine ⟨?_, T1⟩
    have h1 := hs2.out (k + 1)
    have h2 := HB.out
    have h3 := HX'.out
    rw [decide_eq_false (by omega)]; rfl
   ·have g0 : w1.cell? ⟨wr.heap.size, 0, none⟩ = some (.string x.ent.name) := by rw [row_cell b1 0]; rfl
    have g1 : w1.cell? ⟨wr.heap.size, 1, none⟩ = some (.int .i64 (x.ent.method : Int)) := by rw [row_cell b1 1]; rfl
    have g2 : w1.cell? ⟨wr.heap.size, 2, none⟩ = some (.int .u32 (x.ent.sum : Int)) := by rw [row_cell b1 2]; rfl
    have g3 : w1.cell? ⟨wr.heap.size, 3, none⟩ = some (.int .i64 (x.ent.packed : Int)) := by rw [row_cell b1 3]; rfl
    have g4 : w1.cell? ⟨wr.heap.size, 4, none⟩ = some (.int .i64 (x.ent.size : Int)) := by rw [row_cell b1 4]; rfl
    have g5 : w1.cell? ⟨wr.heap.size, 5, none⟩ = some (.int .i64 (x.place : Int)) := by rw [row_cell b1 5]; rfl
    have g6 : w1.cell? ⟨wr.heap.size, 6, none⟩ = some (.int .i64 (x.ent.maker : Int)) := by rw [row_cell b1 6]; rfl
    have g7 : w1.cell? ⟨wr.heap.size, 7, none⟩ = some (.int .i64 (x.ent.flags : Int)) := by rw [row_cell b1 7]; rfl
    have g8 : w1.cell? ⟨wr.heap.size, 8, none⟩ = some (.int .i64 (x.ent.disk : Int)) := by rw [row_cell b1 8]; rfl
    have g9 : w1.cell? ⟨wr.heap.size, 9, none⟩ = some (.int .i64 (x.ent.outer : Int)) := by rw [row_cell b1 9]; rfl
    have g10 : w1.cell? ⟨wr.heap.size, 10, none⟩ = some (.string x.ent.three) := by rw [row_cell b1 10]; rfl
    have g11 : w1.cell? ⟨wr.heap.size, 11, none⟩ = some (.int .i64 (x.ent.ahead : Int)) := by rw [row_cell b1 11]; rfl
    have g12 : w1.cell? ⟨wr.heap.size, 12, none⟩ = some (.int .i64 (x.stop : Int)) := by rw [row_cell b1 12]; rfl
    clear b1
    go_wp2_with fail
    refine (nameSize_c _ x.ent x.place x.stop).mono ?_
    rintro r w2 ⟨rfl, t2⟩
    have T2 := T1.trans t2
    clear t2 g0 g1 g2 g3 g4 g5 g6 g7 g8 g9 g10 g11 g12
    go_wp2
    refine ⟨⟨k + 1, by omega, by go_num, ⟨B - (x.ent.name.size : Nat), by go_num, ?_, by omega, by omega⟩, T2⟩, by simp [intOf]; omega⟩
    have h2 := HB.out
    have h3 := HX'.out
    unfold Hid; omega
  ·obtain rfl : k = n := by omega
   go_wp2
   go_ret
   refine ⟨?_, ht⟩
   have h2 := HB.out
   refine congrArg Ending.returned (congrArg Value.bool ?_)
   rw [Bool.eq_iff_iff]; simp only [decide_eq_true_eq]; omega
theorem withinF_c (w : World) (A : Int) (hA : -9223372036854775808 ≤ A ∧ A ≤ 9223372036854775807) (a : Option Addr) (g cap : Nat) (L : List Spanned) (ha : 0 < L.length → a = some ⟨g, 0, none⟩) (hl : 0 < L.length → LstAt w g L) (hn : L.length ≤ 1000000000000) (hok : ∀ x ∈ L, EntOk x.ent) :
  Calls Tryz.prog 26 #[.int .i64 A, .slice a L.length cap, .func (.func 31) #[] #[]] w fun r w' => r = .returned (.bool (decide ((sumTo L (fun e => e.size) L.length : Int) ≤ A))) ∧ Touch (fun _ => False) w w' := by
 obtain ⟨n, hN⟩ : ∃ n, n = L.length := ⟨_, rfl⟩
 rw [← hN]
 have ha' : Hid (0 < L.length → a = some ⟨g, 0, none⟩) := ha
 have hl' : Hid (0 < L.length → LstAt w g L) := hl
 have hN' : Hid (n = L.length) := hN
 have hn' : n ≤ 1000000000000 := by omega
 have hs1 : Hid (∀ k (h : k < L.length), sumTo L (fun e => e.size) (k + 1) = sumTo L (fun e => e.size) k + (fun e : Ent => e.size) L[k].ent) := fun k h => sumTo_succ L _ k h
 have hs2 : Hid (∀ k, sumTo L (fun e => e.size) k ≤ sumTo L (fun e => e.size) n) := fun k => by rw [hN]; exact sumTo_le L _ k
 obtain ⟨S, hS⟩ : ∃ S : Nat → Nat, S = sumTo L (fun e => e.size) := ⟨_, rfl⟩
 have HS0 : Hid (S 0 = 0) := by rw [hS]; rfl
 rw [← hS] at hs1 hs2 ⊢
 clear ha hl hN hn hS
 go_enter Tryz.func26, Tryz.ntmps26
 go_wp2
 go_loopw [0, 11] (fun al i wr => ∃ k : Nat, k ≤ n ∧ i = .int .i64 (k : Int) ∧ (∃ B : Int, al = .int .i64 B ∧ Hid (B = A - (S k : Int)) ∧ -9223372036854775808 ≤ B ∧ B ≤ 9223372036854775807) ∧ Touch (fun _ => False) w wr) (fun al i wr => n - (intOf i).toNat)
 case atStart => exact ⟨0, Nat.zero_le _, rfl, ⟨A, rfl, by unfold Hid; rw [HS0.out]; simp, hA.1, hA.2⟩, Touch.refl _ _⟩
 case round =>
  obtain ⟨k, hk, rfl, ⟨B, rfl, HB, hB1, hB2⟩, ht⟩ := hrel
  by_cases hlt : k < n
  ·have hlt' : k < L.length := by have := hN'.out; omega
   obtain rfl := ha'.out (by omega)
   have hL := (hl'.out (by omega)).keep ht (fun e => e)
   have hC := hL.cells k hlt'
   have HX := hs1.out k hlt'
   have hz := hok L[k] (List.getElem_mem hlt')
   revert hC HX hz
   generalize L[k] = x
   intro hC HX hz
   have c0 := hC 0 (by omega)
   have c1 := hC 1 (by omega)
   have c2 := hC 2 (by omega)
   have c3 := hC 3 (by omega)
   have c4 := hC 4 (by omega)
   have c5 := hC 5 (by omega)
   have c6 := hC 6 (by omega)
   have c7 := hC 7 (by omega)
   have c8 := hC 8 (by omega)
   have c9 := hC 9 (by omega)
   have c10 := hC 10 (by omega)
   have c11 := hC 11 (by omega)
   have c12 := hC 12 (by omega)
   simp only [listL, List.getElem?_cons_zero, List.getElem?_cons_succ, Nat.add_zero] at c0 c1 c2 c3 c4 c5 c6 c7 c8 c9 c10 c11 c12
   have HX' : Hid (S (k + 1) = S k + x.ent.size) := HX
   have hb : x.ent.size ≤ 1099511627776 := by have := hz.name; have := hz.size; omega
   clear hC HX hlt' hL hz
   go_wp2_with fail
   refine (fileSize_c _ x.ent x.place x.stop).mono ?_
   rintro r w1 ⟨rfl, t1⟩
   have T1 := (ht.alloc _).trans t1
   have b1 := (t1.block wr.heap.size (by simp) (fun e => e)).trans (heap_alloc_new wr (Obj.cells #[.string x.ent.name, .int .i64 (x.ent.method : Int), .int .u32 (x.ent.sum : Int), .int .i64 (x.ent.packed : Int), .int .i64 (x.ent.size : Int), .int .i64 (x.place : Int), .int .i64 (x.ent.maker : Int), .int .i64 (x.ent.flags : Int), .int .i64 (x.ent.disk : Int), .int .i64 (x.ent.outer : Int), .string x.ent.three, .int .i64 (x.ent.ahead : Int), .int .i64 (x.stop : Int)] 125))
   clear c0 c1 c2 c3 c4 c5 c6 c7 c8 c9 c10 c11 c12 t1
   by_cases hgt : B < (x.ent.size : Nat)
   ·go_wp2
    go_ret
    refine ⟨?_, T1⟩
    have h1 := hs2.out (k + 1)
    have h2 := HB.out
    have h3 := HX'.out
    rw [decide_eq_false (by omega)]; rfl
   ·have g0 : w1.cell? ⟨wr.heap.size, 0, none⟩ = some (.string x.ent.name) := by rw [row_cell b1 0]; rfl
    have g1 : w1.cell? ⟨wr.heap.size, 1, none⟩ = some (.int .i64 (x.ent.method : Int)) := by rw [row_cell b1 1]; rfl
    have g2 : w1.cell? ⟨wr.heap.size, 2, none⟩ = some (.int .u32 (x.ent.sum : Int)) := by rw [row_cell b1 2]; rfl
    have g3 : w1.cell? ⟨wr.heap.size, 3, none⟩ = some (.int .i64 (x.ent.packed : Int)) := by rw [row_cell b1 3]; rfl
    have g4 : w1.cell? ⟨wr.heap.size, 4, none⟩ = some (.int .i64 (x.ent.size : Int)) := by rw [row_cell b1 4]; rfl
    have g5 : w1.cell? ⟨wr.heap.size, 5, none⟩ = some (.int .i64 (x.place : Int)) := by rw [row_cell b1 5]; rfl
    have g6 : w1.cell? ⟨wr.heap.size, 6, none⟩ = some (.int .i64 (x.ent.maker : Int)) := by rw [row_cell b1 6]; rfl
    have g7 : w1.cell? ⟨wr.heap.size, 7, none⟩ = some (.int .i64 (x.ent.flags : Int)) := by rw [row_cell b1 7]; rfl
    have g8 : w1.cell? ⟨wr.heap.size, 8, none⟩ = some (.int .i64 (x.ent.disk : Int)) := by rw [row_cell b1 8]; rfl
    have g9 : w1.cell? ⟨wr.heap.size, 9, none⟩ = some (.int .i64 (x.ent.outer : Int)) := by rw [row_cell b1 9]; rfl
    have g10 : w1.cell? ⟨wr.heap.size, 10, none⟩ = some (.string x.ent.three) := by rw [row_cell b1 10]; rfl
    have g11 : w1.cell? ⟨wr.heap.size, 11, none⟩ = some (.int .i64 (x.ent.ahead : Int)) := by rw [row_cell b1 11]; rfl
    have g12 : w1.cell? ⟨wr.heap.size, 12, none⟩ = some (.int .i64 (x.stop : Int)) := by rw [row_cell b1 12]; rfl
    clear b1
    go_wp2_with fail
    refine (fileSize_c _ x.ent x.place x.stop).mono ?_
    rintro r w2 ⟨rfl, t2⟩
    have T2 := T1.trans t2
    clear t2 g0 g1 g2 g3 g4 g5 g6 g7 g8 g9 g10 g11 g12
    go_wp2
    refine ⟨⟨k + 1, by omega, by go_num, ⟨B - (x.ent.size : Nat), by go_num, ?_, by omega, by omega⟩, T2⟩, by simp [intOf]; omega⟩
    have h2 := HB.out
    have h3 := HX'.out
    unfold Hid; omega
  ·obtain rfl : k = n := by omega
   go_wp2
   go_ret
   refine ⟨?_, ht⟩
   have h2 := HB.out
   refine congrArg Ending.returned (congrArg Value.bool ?_)
   rw [Bool.eq_iff_iff]; simp only [decide_eq_true_eq]; omega
end Go.Proofs.YtnmkmmgaoplfiaaGreatDoor
namespace Go.Proofs.YtnmkmmgaoplfiaaGreatDoor
open Go.RowKit Go.Shelf Go.Maps
def updU (U : List UInt8 → Nat) (k : List UInt8) (v : Nat) : List UInt8 → Nat := fun x => if x = k then v else U x
def MapIs (w : World) (B n : Nat) (U : List UInt8 → Nat) : Prop :=
 ∃ D : DataW Unit, w.ownsMap Tryz.prog 9 (plainElem Tryz.prog 150) B n D ∧ (∀ key, D.atKey (.string key) (.lit (.int .i64 0)) = .lit (.int .i64 (U key : Int))) ∧ ∀ key, U key ≤ 3
theorem zeroUse (w : World) : (zeroValue 150).run Tryz.prog w = .ok (.int .i64 0) w := by kernel_rfl
theorem MapIs.look {w : World} {B n : Nat} {U : List UInt8 → Nat} (h : MapIs w B n U) (s : ByteArray) (hs : s.size ≤ maxLen) :
  (Instr.lookup 129 (.map (some B)) (.string s) false).run Tryz.prog w = .ok (.int .i64 (U s.data.toList : Int)) w := by
 obtain ⟨D, ho, hU, _⟩ := h
 obtain ⟨c, hrun, hat, _⟩ := ho.lookup_int (string_keyed Tryz.underlying9) Tryz.underlying129 Tryz.underlying150 (zeroUse w) (Go.WideMaps.keyOf_string_mk Tryz.underlying9 hs)
 rw [hU] at hat
 cases hat
 exact hrun
theorem wf_small (v : Nat) (h : v ≤ 3) : (Lit.int .i64 (v : Int)).wf = true := by
 rcases (by omega : v = 0 ∨ v = 1 ∨ v = 2 ∨ v = 3) with rfl | rfl | rfl | rfl <;> decide
theorem MapIs.put {w : World} {B n : Nat} {U : List UInt8 → Nat} (h : MapIs w B n U) (s : ByteArray) (hs : s.size ≤ maxLen) (hn : n < maxLen) (v : Nat) (hv : v ≤ 3) :
  ∃ w', (Instr.mapUpdate 129 (.map (some B)) (.string s) (.int .i64 (v : Int))).run Tryz.prog w = .ok () w' ∧ MapIs w' B (n + 1) (updU U s.data.toList v) ∧ w.grownBy w' (some B) := by
 obtain ⟨D, ho, hU, hb⟩ := h
 have hkey := Go.WideMaps.keyOf_string_mk Tryz.underlying9 hs
 obtain ⟨w', hrun, ho', hg⟩ := ho.update (string_keyed Tryz.underlying9) Tryz.underlying129 hn hkey (plainElem_int Tryz.underlying150 (wf_small v hv))
 refine ⟨w', hrun, ⟨_, ho', fun key => ?_, fun key => ?_⟩, hg⟩
 ·unfold updU
  by_cases e : key = s.data.toList
  ·rw [if_pos e, e]; exact atKey_put_same ho.isMap ((string_keyed Tryz.underlying9).key hkey) _ _
  ·rw [if_neg e, atKey_put_other (by intro h; cases h; exact e rfl)]; exact hU key
 ·unfold updU; split
  ·exact hv
  ·exact hb key
theorem MapIs.keep {w w' : World} {S : Nat → Prop} {B n : Nat} {U : List UInt8 → Nat} (h : MapIs w B n U) (ht : Touch S w w') (hs : ¬ S B) : MapIs w' B n U := by
 obtain ⟨D, ho, hU, hb⟩ := h
 refine ⟨D, ?_, hU, hb⟩
 have hl := ho.lt
 obtain ⟨es, clock, h1, h2⟩ := ho
 exact ⟨es, clock, (ht.block B hl hs).trans h1, h2⟩
theorem MapIs.lt {w : World} {B n : Nat} {U : List UInt8 → Nat} (h : MapIs w B n U) : B < w.heap.size := by obtain ⟨D, ho, _⟩ := h; exact ho.lt
theorem MapIs.new (w : World) : MapIs (w.alloc (.map #[] 0)) w.heap.size 0 (fun _ => 0) := ⟨_, World.ownsMap_made w _ _ _, fun _ => rfl, fun _ => Nat.zero_le _⟩
theorem touch_grown {w w' : World} {B : Nat} (h : w.grownBy w' (some B)) : Touch (fun k => k = B) w w' := (Touch.refl (fun k => k = B) w).grown h (fun k e => by cases e; rfl)
def leadTo (p : List UInt8) : Nat → Nat → (List UInt8 → Nat) → Option (List UInt8 → Nat)
 | 0, _, U => some U
 | f + 1, i, U => if p[i]? = some 47 then (if U (p.take i) = 3 then none else leadTo p f (i + 1) (updU U (p.take i) (max (U (p.take i)) 1))) else leadTo p f (i + 1) U
def claimOf (U : List UInt8 → Nat) (s : ByteArray) : Option (List UInt8 → Nat) :=
 (leadTo (bareL s) (bareL s).length 0 U).bind fun V => if V (bareL s) > 1 ∨ (V (bareL s) = 1 ∧ folderB s = false) then none else some (updU V (bareL s) (if folderB s then 2 else 3))
theorem claim_c (w : World) (B n : Nat) (U : List UInt8 → Nat) (s : ByteArray) (hs : s.size ≤ 60) (hn : n ≤ 1000000000000) (hM : MapIs w B n U) :
  Calls Tryz.prog 50 #[.map (some B), .string s] w fun r w' => r = .returned (.bool (claimOf U s).isSome) ∧ (∀ V, claimOf U s = some V → MapIs w' B (n + 61) V) ∧ Touch (fun k => k = B) w w' := by
 have HP : Hid (∀ W, Calls Tryz.prog 70 #[.string s] W fun e w' => e = .returned (.string ⟨(bareL s).toArray⟩) ∧ W = w') := fun W => pathOf_c W s (by omega)
 have HD : Hid (∀ W, Calls Tryz.prog 56 #[.string s] W fun r w' => r = .returned (.bool (folderB s)) ∧ W = w') := fun W => isFolder_c W s (by omega)
 have hz := bare_size s
 have hp : (⟨(bareL s).toArray⟩ : ByteArray).data.toList = bareL s := rfl
 have HC : Hid (claimOf U s = (leadTo (bareL s) (bareL s).length 0 U).bind fun V => if V (bareL s) > 1 ∨ (V (bareL s) = 1 ∧ folderB s = false) then none else some (updU V (bareL s) (if folderB s then 2 else 3))) := rfl
 revert HP hz hp HC
 generalize claimOf U s = R
 generalize bareL s = p
 intro HP hz hp HC
 obtain ⟨P, hP⟩ : ∃ P : ByteArray, P = ⟨p.toArray⟩ := ⟨_, rfl⟩
 rw [← hP] at HP hz hp
 have hl : p.length = P.size := by rw [hP]; show _ = p.toArray.size; simp
 have hl60 : p.length ≤ 60 := by omega
 have HL : Hid (p.length = P.size) := hl
 have HPp : Hid (P.data.toList = p) := hp
 have e0 : ∀ i, (P.extract 0 i).data.toList = p.take i := by intro i; rw [← hp]; simp [ByteArray.data_extract]
 have HT : Hid (∀ i, (P.extract 0 i).data.toList = p.take i) := e0
 have HG : Hid (∀ i (h : i < P.size), p[i]? = some P[i]) := by
  intro i h
  rw [← hp]; simp [h]; rfl
 clear hP hp e0 hl
 go_enter Tryz.func50, Tryz.ntmps50
 go_wp2_with fail
 refine (HP.out _).mono ?_
 rintro e w' ⟨rfl, rfl⟩
 go_wp2
 go_loopw [12] (fun i wr => ∃ k : Nat, k ≤ P.size ∧ i = .int .i64 (k : Int) ∧ (∃ V, MapIs wr B (n + k) V ∧ Hid (leadTo p p.length 0 U = leadTo p (p.length - k) k V)) ∧ Touch (fun k => k = B) w wr) (fun i wr => P.size - (intOf i).toNat)
 case atStart => exact ⟨0, Nat.zero_le _, rfl, ⟨U, hM, rfl⟩, Touch.refl _ _⟩
 case round =>
  obtain ⟨k, hk, rfl, ⟨V, hV, HV⟩, ht⟩ := hrel
  by_cases hlt : k < P.size
  ·have hg := HG.out k hlt
   have HS : Hid (leadTo p p.length 0 U = if p[k]? = some 47 then (if V (p.take k) = 3 then none else leadTo p (p.length - (k + 1)) (k + 1) (updU V (p.take k) (max (V (p.take k)) 1))) else leadTo p (p.length - (k + 1)) (k + 1) V) := by
    unfold Hid; rw [HV.out, show p.length - k = (p.length - (k + 1)) + 1 by have := HL.out; omega]; rfl
   by_cases h47 : (P[k].toNat : Int) = 47
   ·have hb : p[k]? = some 47 := by rw [hg]; congr 1; apply UInt8.toNat_inj.1; simpa using (by omega : P[k].toNat = 47)
    have h47' : ((P[k].toNat : Int) != 47) = false := by simpa using h47
    have q1 := hV.look (P.extract 0 k) (by rw [ByteArray.size_extract]; unfold maxLen; omega)
    rw [HT.out k] at q1
    have kl : (k : Int) ≤ (P.size : Int) := by omega
    by_cases h3 : (V (p.take k) : Int) = 3
    ·have HE : Hid (R = none) := by
      unfold Hid; rw [HC.out, HS.out, if_pos hb, if_pos (by omega)]; rfl
     rw [h3] at q1
     clear hg HS h3
     go_wp2
     go_ret
     exact ⟨by rw [HE.out]; rfl, (fun V h => by rw [HE.out] at h; cases h), ht⟩
    ·obtain ⟨w2, q2, hV2, hg2⟩ := MapIs.put (w := wr.drew) hV (P.extract 0 k) (by rw [ByteArray.size_extract]; unfold maxLen; omega) (by unfold maxLen; omega) (max (V (p.take k)) 1) (by obtain ⟨_, _, _, hb⟩ := hV; have := hb (p.take k); omega)
     rw [HT.out k] at hV2
     rw [show ((max (V (p.take k)) 1 : Nat) : Int) = max (V (p.take k) : Int) 1 by omega] at q2
     have q1' : (Instr.lookup 129 (.map (some B)) (.string (P.extract 0 k)) false).run Tryz.prog wr.drew = .ok (.int .i64 (V (p.take k) : Int)) wr.drew := by
      have := MapIs.look (w := wr.drew) hV (P.extract 0 k) (by rw [ByteArray.size_extract]; unfold maxLen; omega)
      rw [HT.out k] at this; exact this
     have T2 : Touch (fun k => k = B) w w2 := ht.drew.trans (touch_grown hg2)
     have HS' : Hid (leadTo p p.length 0 U = leadTo p (p.length - (k + 1)) (k + 1) (updU V (p.take k) (max (V (p.take k)) 1))) := by
      unfold Hid; rw [HS.out, if_pos hb, if_neg (by omega)]
     have h3' : ((V (p.take k) : Int) == 3) = false := by simpa using h3
     clear hg HS hg2
     go_wp2
     go_region
     all_goals
      go_wp2
      go_roundw
      case rel => exact ⟨k + 1, by omega, by go_num, ⟨_, hV2, HS'⟩, T2⟩
      case measure => simp [intOf]; omega
   ·have hb : ¬ p[k]? = some 47 := by
     rw [hg]; intro e; apply h47; rw [Option.some.inj e]; rfl
    have h47' : ((P[k].toNat : Int) != 47) = true := by simpa using h47
    have HS' : Hid (leadTo p p.length 0 U = leadTo p (p.length - (k + 1)) (k + 1) V) := by
     unfold Hid; rw [HS.out, if_neg hb]
    clear hg HS
    go_wp2
    exact ⟨⟨k + 1, by omega, by go_num, ⟨V, by obtain ⟨D, h1, h2, h3⟩ := hV; exact ⟨D, h1.mono (by omega), h2, h3⟩, HS'⟩, ht⟩, by simp [intOf]; omega⟩
  ·obtain rfl : k = P.size := by omega
   have HE : Hid (R = if V p > 1 ∨ (V p = 1 ∧ folderB s = false) then none else some (updU V p (if folderB s then 2 else 3))) := by
    unfold Hid; rw [HC.out, HV.out, show p.length - P.size = 0 by have := HL.out; omega]; rfl
   have q1 := hV.look P (by unfold maxLen; omega)
   rw [HPp.out] at q1
   cases hf : folderB s with
   | true =>
    rw [hf] at HE
    obtain ⟨w3, q3, hV3, hg3⟩ := hV.put P (by unfold maxLen; omega) (by unfold maxLen; omega) 2 (by omega)
    rw [HPp.out] at hV3
    have q3' : (Instr.mapUpdate 129 (.map (some B)) (.string P) (.int .i64 2)).run Tryz.prog wr = .ok () w3 := q3
    clear q3
    have T3 : Touch (fun k => k = B) w w3 := ht.trans (touch_grown hg3)
    have hV4 : MapIs w3 B (n + 61) (updU V p 2) := by obtain ⟨D, h1, h2, h3⟩ := hV3; exact ⟨D, h1.mono (by have := HL.out; omega), h2, h3⟩
    clear hg3 hV3
    by_cases v1 : (1 : Int) < (V p : Int)
    ·have HN : Hid (R = none) := by unfold Hid; rw [HE.out, if_pos (by omega)]
     go_wp2_with fail
     refine (HD.out _).mono ?_
     rintro e w' ⟨rfl, rfl⟩
     rw [hf]
     go_wp2
     go_ret
     exact ⟨by rw [HN.out]; rfl, (fun V h => by rw [HN.out] at h; cases h), ht⟩
    ·have HN : Hid (R = some (updU V p 2)) := by unfold Hid; rw [HE.out, if_neg (by simp; omega)]; rfl
     by_cases v0 : (V p : Int) = 1
     ·rw [v0] at q1
      clear v1 v0
      go_wp2_with fail
      refine (HD.out _).mono ?_
      rintro e w' ⟨rfl, rfl⟩
      rw [hf]
      go_wp2
      go_ret
      exact ⟨by rw [HN.out]; rfl, (fun V' h => by rw [HN.out] at h; cases h; exact hV4), T3⟩
     ·have v0' : ((V p : Int) == 1) = false := by simpa using v0
      go_wp2_with fail
      refine (HD.out _).mono ?_
      rintro e w' ⟨rfl, rfl⟩
      rw [hf]
      go_wp2
      go_ret
      exact ⟨by rw [HN.out]; rfl, (fun V' h => by rw [HN.out] at h; cases h; exact hV4), T3⟩
   | false =>
    rw [hf] at HE
    obtain ⟨w3, q3, hV3, hg3⟩ := hV.put P (by unfold maxLen; omega) (by unfold maxLen; omega) 3 (by omega)
    rw [HPp.out] at hV3
    have q3' : (Instr.mapUpdate 129 (.map (some B)) (.string P) (.int .i64 3)).run Tryz.prog wr = .ok () w3 := q3
    clear q3
    have T3 : Touch (fun k => k = B) w w3 := ht.trans (touch_grown hg3)
    have hV4 : MapIs w3 B (n + 61) (updU V p 3) := by obtain ⟨D, h1, h2, h3⟩ := hV3; exact ⟨D, h1.mono (by have := HL.out; omega), h2, h3⟩
    clear hg3 hV3
    by_cases v1 : (1 : Int) < (V p : Int)
    ·have HN : Hid (R = none) := by unfold Hid; rw [HE.out, if_pos (by omega)]
     go_wp2_with fail
     refine (HD.out _).mono ?_
     rintro e w' ⟨rfl, rfl⟩
     rw [hf]
     go_wp2
     go_ret
     exact ⟨by rw [HN.out]; rfl, (fun V h => by rw [HN.out] at h; cases h), ht⟩
    ·by_cases v0 : (V p : Int) = 1
     ·have HN : Hid (R = none) := by unfold Hid; rw [HE.out, if_pos (by simp; omega)]
      rw [v0] at q1
      clear v1 v0
      go_wp2_with fail
      refine (HD.out _).mono ?_
      rintro e w' ⟨rfl, rfl⟩
      rw [hf]
      go_wp2
      go_ret
      exact ⟨by rw [HN.out]; rfl, (fun V h => by rw [HN.out] at h; cases h), ht⟩
     ·have HN : Hid (R = some (updU V p 3)) := by unfold Hid; rw [HE.out, if_neg (by simp; omega)]; rfl
      have v0' : ((V p : Int) == 1) = false := by simpa using v0
      go_wp2_with fail
      refine (HD.out _).mono ?_
      rintro e w' ⟨rfl, rfl⟩
      rw [hf]
      go_wp2
      go_ret
      exact ⟨by rw [HN.out]; rfl, (fun V' h => by rw [HN.out] at h; cases h; exact hV4), T3⟩
end Go.Proofs.YtnmkmmgaoplfiaaGreatDoor
namespace Go.Proofs.YtnmkmmgaoplfiaaGreatDoor
open Go.RowKit Go.Shelf Go.Maps
def twiceGo : List Spanned → (List UInt8 → Nat) → Bool
 | [], _ => false
 | x :: l, U => match claimOf U x.ent.name with
  | none => true
  | some V => twiceGo l V
theorem anyTwice_c (w : World) (a : Option Addr) (g cap : Nat) (L : List Spanned) (ha : 0 < L.length → a = some ⟨g, 0, none⟩) (hl : 0 < L.length → LstAt w g L) (hn : L.length ≤ 10000000000) (hok : ∀ x ∈ L, x.ent.name.size ≤ 60) :
  Calls Tryz.prog 28 #[.slice a L.length cap] w fun r w' => r = .returned (.bool (twiceGo L (fun _ => 0))) ∧ Touch (fun _ => False) w w' := by
 obtain ⟨n, hN⟩ : ∃ n, n = L.length := ⟨_, rfl⟩
 rw [← hN]
 have ha' : Hid (0 < L.length → a = some ⟨g, 0, none⟩) := ha
 have hl' : Hid (0 < L.length → LstAt w g L) := hl
 have hN' : Hid (n = L.length) := hN
 have hn' : n ≤ 10000000000 := by omega
 have hmm := @run_makeMap Tryz.prog
 have T0 : Touch (fun _ => False) w (w.alloc (.map #[] 0)) := (Touch.refl _ w).alloc _
 have M0 := MapIs.new w
 clear ha hl hN hn
 go_enter Tryz.func28, Tryz.ntmps28
 go_wp2
 go_loopw [9] (fun i wr => ∃ k : Nat, k ≤ n ∧ i = .int .i64 (k : Int) ∧ (∃ V, MapIs wr w.heap.size (61 * k) V ∧ Hid (twiceGo L (fun _ => 0) = twiceGo (L.drop k) V)) ∧ Touch (fun _ => False) w wr) (fun i wr => n - (intOf i).toNat)
 case atStart => exact ⟨0, Nat.zero_le _, rfl, ⟨_, M0, rfl⟩, T0⟩
 case round =>
  obtain ⟨k, hk, rfl, ⟨V, hV, HV⟩, ht⟩ := hrel
  by_cases hlt : k < n
  ·have hlt' : k < L.length := by have := hN'.out; omega
   obtain rfl := ha'.out (by omega)
   have hL := (hl'.out (by omega)).keep ht (fun e => e)
   have hC := hL.cells k hlt'
   have HX : Hid (twiceGo L (fun _ => 0) = match claimOf V L[k].ent.name with | none => true | some V' => twiceGo (L.drop (k + 1)) V') := by
    unfold Hid; rw [HV.out, List.drop_eq_getElem_cons hlt']; rfl
   have hz := hok L[k] (List.getElem_mem hlt')
   revert hC HX hz
   generalize L[k] = x
   intro hC HX hz
   have c0 := hC 0 (by omega)
   have c1 := hC 1 (by omega)
   have c2 := hC 2 (by omega)
   have c3 := hC 3 (by omega)
   have c4 := hC 4 (by omega)
   have c5 := hC 5 (by omega)
   have c6 := hC 6 (by omega)
   have c7 := hC 7 (by omega)
   have c8 := hC 8 (by omega)
   have c9 := hC 9 (by omega)
   have c10 := hC 10 (by omega)
   have c11 := hC 11 (by omega)
   have c12 := hC 12 (by omega)
   simp only [listL, List.getElem?_cons_zero, List.getElem?_cons_succ, Nat.add_zero] at c0 c1 c2 c3 c4 c5 c6 c7 c8 c9 c10 c11 c12
   have hw := ht.size
   have hV1 := hV.keep ((Touch.refl (fun _ => False) wr).alloc (Obj.cells #[.string x.ent.name, .int .i64 (x.ent.method : Int), .int .u32 (x.ent.sum : Int), .int .i64 (x.ent.packed : Int), .int .i64 (x.ent.size : Int), .int .i64 (x.place : Int), .int .i64 (x.ent.maker : Int), .int .i64 (x.ent.flags : Int), .int .i64 (x.ent.disk : Int), .int .i64 (x.ent.outer : Int), .string x.ent.three, .int .i64 (x.ent.ahead : Int), .int .i64 (x.stop : Int)] 125)) (fun e => e)
   clear hC hlt' hL
   go_wp2_with fail
   refine (claim_c _ w.heap.size (61 * k) V x.ent.name hz (by omega) hV1).mono ?_
   rintro r w1 ⟨rfl, hc, t1⟩
   have T1 := (ht.alloc _).onNew t1 (Nat.le_refl _)
   clear t1 c0 c1 c2 c3 c4 c5 c6 c7 c8 c9 c10 c11 c12 hV1
   cases hR : claimOf V x.ent.name with
   | none =>
    rw [hR] at HX
    go_wp2
    go_ret
    exact ⟨by rw [HX.out]; rfl, T1⟩
   | some V' =>
    rw [hR] at HX
    have hV' := hc V' hR
    clear hc
    go_wp2
    exact ⟨⟨k + 1, by omega, by go_num, ⟨V', by rw [show 61 * (k + 1) = 61 * k + 61 by omega]; exact hV', HX⟩, T1⟩, by simp [intOf]; omega⟩
  ·obtain rfl : k = n := by omega
   go_wp2
   go_ret
   exact ⟨by rw [HV.out, List.drop_of_length_le (by have := hN'.out; omega)]; rfl, ht⟩
end Go.Proofs.YtnmkmmgaoplfiaaGreatDoor
