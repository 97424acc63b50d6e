/- Texts of this seat, joined. -/
import Derived.Test.YtnmkmmgaoplfiaaGreatDoorJ04
import Derived.Maps.OwnIn
set_option linter.unusedSimpArgs false
set_option linter.unusedVariables false
set_option maxRecDepth 100000
set_option maxHeartbeats 20000000
namespace Go.Proofs.YtnmkmmgaoplfiaaGreatDoor
open Go.RowKit
def emptyA : ByteArray := ⟨#[80, 75, 5, 6, 0, 0, 0, 0, 0, 0, 0, 0, 0, 0, 0, 0, 0, 0, 0, 0, 0, 0]⟩
theorem emptyA_end : endFrom emptyA 101 0 = some 0 := by decide +kernel
theorem emptyA_one : endOne emptyA 0 = true := by decide +kernel
theorem findDirectory_none (w : World) :
  Calls Tryz.prog 23 #[.string emptyA] w fun e w' =>
   e = .returned (.tuple #[.agg #[.int .i64 0, .int .i64 0, .int .i64 0, .int .i64 0], .int .i64 0]) ∧ Touch (fun _ => False) w w' :=
 findDirectory_plain w emptyA 0 emptyA_end (by decide) (by decide +kernel) emptyA_one (by decide)
theorem liesAsSaid_none (w : World) :
  Calls Tryz.prog 24 #[.agg #[.int .i64 0, .int .i64 0, .int .i64 0, .int .i64 0]] w fun e w' => e = .returned (.bool true) ∧ Touch (fun _ => False) w w' := by
 go_enter Tryz.func24, Tryz.ntmps24
 go_wp2
 try go_quiet (fail)
 try go_wp2
 go_ret
 exact ⟨rfl, (Touch.refl _ w).alloc _⟩
theorem takeAll_none (w : World) :
  Calls Tryz.prog 25 #[.agg #[.int .i64 0, .int .i64 0, .int .i64 0, .int .i64 0], .string emptyA] w fun e w' => e = .returned (.tuple #[.slice none 0 0, .int .i64 0]) ∧ Touch (fun _ => False) w w' := by
 have hz : emptyA.size = 22 := rfl
 have hx : emptyA.extract 0 0 = ⟨#[]⟩ := by decide +kernel
 go_enter Tryz.func25, Tryz.ntmps25
 go_wp2
 go_loopw [7, 20] (fun l i wr => l = .slice none 0 0 ∧ i = .int .i64 0 ∧ wr = (w.alloc (Obj.cells #[.int .i64 0, .int .i64 0, .int .i64 0, .int .i64 0] 66)).alloc (Obj.cells #[.string ByteArray.empty, .bool false] 121)) (fun _ _ _ => 0)
 case atStart => exact ⟨rfl, rfl, rfl⟩
 case round =>
  obtain ⟨rfl, rfl, rfl⟩ := hrel
  go_wp2
  go_ret2
  exact ⟨rfl, ((Touch.refl _ w).alloc _).alloc _⟩
theorem within_none (w : World) (f : Value) :
  Calls Tryz.prog 26 #[.int .i64 0, .slice none 0 0, f] w fun e w' => e = .returned (.bool true) ∧ w = w' := by
 go_enter Tryz.func26, Tryz.ntmps26
 go_wp2
 go_loop [0, 11] (fun a i => a = .int .i64 0 ∧ i = .int .i64 0) (fun _ _ => 0)
 case atStart => exact ⟨rfl, rfl⟩
 case round =>
  obtain ⟨rfl, rfl⟩ := hrel
  go_wp2
  go_ret
  exact ⟨rfl, rfl⟩
theorem anyTwice_none (w : World) :
  Calls Tryz.prog 28 #[.slice none 0 0] w fun e w' => e = .returned (.bool false) ∧ Touch (fun _ => False) w w' := by
 have hmm := @run_makeMap Tryz.prog
 go_enter Tryz.func28, Tryz.ntmps28
 go_wp2
 go_loop [9] (fun i => i = .int .i64 0) (fun _ => 0)
 case atStart => exact rfl
 case round =>
  obtain rfl := hrel
  go_wp2
  go_ret
  exact ⟨rfl, (Touch.refl _ w).alloc _⟩
theorem findSpans_none (w : World) (t : ByteArray) :
  Calls Tryz.prog 29 #[.slice none 0 0, .string t] w fun e w' => e = .returned (.bool true) ∧ w = w' := by
 go_enter Tryz.func29, Tryz.ntmps29
 go_wp2
 go_loop [8] (fun i => i = .int .i64 0) (fun _ => 0)
 case atStart => exact rfl
 case round =>
  obtain rfl := hrel
  go_wp2
  go_ret
  exact ⟨rfl, rfl⟩
theorem entriesOf_none (w : World) :
  Calls Tryz.prog 32 #[.slice none 0 0] w fun e w' => ∃ a, e = .returned (.slice a 0 0) ∧ Touch (fun _ => False) w w' := by
 have hmk : ∀ w : World, (Instr.makeSlice 31 (.int .i64 0) (.int .i64 0)).run Tryz.prog w = .ok (.slice (some ⟨w.heap.size, 0, none⟩) 0 0) (w.alloc (.cells #[] 44)) := fun _ => by kernel_rfl
 go_enter Tryz.func32, Tryz.ntmps32
 go_wp2
 go_loop [3, 11] (fun l i => l = .slice (some ⟨w.heap.size, 0, none⟩) 0 0 ∧ i = .int .i64 0) (fun _ _ => 0)
 case atStart => exact ⟨rfl, rfl⟩
 case round =>
  obtain ⟨rfl, rfl⟩ := hrel
  go_wp2
  go_ret
  exact ⟨⟨_, rfl⟩, (Touch.refl _ w).alloc _⟩
theorem len64_none (w : World) : Calls Tryz.prog 100 #[.int .u64 0] w fun e w' => e = .returned (.int .i64 0) ∧ w = w' := by
 go_enter Tryz.func100, Tryz.ntmps100
 go_wp2
 go_ret
 exact ⟨by kernel_rfl, rfl⟩
theorem len_none (w : World) : Calls Tryz.prog 75 #[.int .u64 0] w fun e w' => e = .returned (.int .i64 0) ∧ w = w' := by
 go_enter Tryz.func75, Tryz.ntmps75
 go_wp2_with (go_at_call 100; refine (len64_none _).mono ?_; rintro e w1 ⟨rfl, rfl⟩)
 go_ret
 exact ⟨rfl, rfl⟩
theorem insertion_none (w : World) (a f : Value) : Calls Tryz.prog 91 #[a, .int .i64 0, .int .i64 0, f] w fun e w' => e = .returned (.tuple #[]) ∧ w = w' := by
 go_enter Tryz.func91, Tryz.ntmps91
 go_wp2
 go_loopw [8] (fun i wr => i = .int .i64 1 ∧ wr = w) (fun _ _ => 0)
 case atStart => exact ⟨rfl, rfl⟩
 case round =>
  obtain ⟨rfl, rfl⟩ := hrel
  go_wp2
  go_end0
  exact ⟨rfl, rfl⟩
theorem pdq_none (w : World) (a f : Value) : Calls Tryz.prog 74 #[a, .int .i64 0, .int .i64 0, .int .i64 0, f] w fun e w' => e = .returned (.tuple #[]) ∧ w = w' := by
 go_enter Tryz.func74, Tryz.ntmps74
 go_wp2
 go_loopw [1, 2, 3, 10, 11] (fun x y z b c wr => x = .int .i64 0 ∧ y = .int .i64 0 ∧ wr = w) (fun _ _ _ _ _ _ => 0)
 case atStart => exact ⟨rfl, rfl, rfl⟩
 case round =>
  obtain ⟨rfl, rfl, rfl⟩ := hrel
  go_wp2_with (go_at_call 91; refine (insertion_none _ _ _).mono ?_; rintro e w1 ⟨rfl, rfl⟩)
  ((try simp only [Exit.inBlock, Exit.then]); refine bodyPost_ret (results_none rfl _ _ _) rfl ?_)
  exact ⟨rfl, rfl⟩
theorem sort_none (w : World) (b : Nat) (f : Value) : Calls Tryz.prog 52 #[.slice (some ⟨b, 0, none⟩) 0 0, f] w fun e w' => e = .returned (.tuple #[]) ∧ w = w' := by
 go_enter Tryz.func52, Tryz.ntmps52
 go_wp2_with (first | (go_at_call 75; refine (len_none _).mono ?_; rintro e w1 ⟨rfl, rfl⟩) | (go_at_call 74; refine (pdq_none _ _ _).mono ?_; rintro e w1 ⟨rfl, rfl⟩))
 go_end0
 exact ⟨rfl, rfl⟩
theorem anyOverlap_none (w : World) :
  Calls Tryz.prog 30 #[.slice none 0 0] w fun e w' => e = .returned (.bool false) ∧ Touch (fun _ => False) w w' := by
 have hmk : ∀ w : World, (Instr.makeSlice 131 (.int .i64 0) (.int .i64 0)).run Tryz.prog w = .ok (.slice (some ⟨w.heap.size, 0, none⟩) 0 0) (w.alloc (.cells #[] 123)) := fun _ => by kernel_rfl
 go_enter Tryz.func30, Tryz.ntmps30
 go_wp2
 go_loopw [3, 12] (fun l i wr => l = .slice (some ⟨w.heap.size, 0, none⟩) 0 0 ∧ i = .int .i64 0 ∧ wr = w.alloc (.cells #[] 123)) (fun _ _ _ => 0)
 case atStart => exact ⟨rfl, rfl, rfl⟩
 case round =>
  obtain ⟨rfl, rfl, rfl⟩ := hrel
  go_wp2_with (go_at_call 52; refine (sort_none _ _ _).mono ?_; rintro e w1 ⟨rfl, rfl⟩)
  go_loopw [6] (fun i wr => i = .int .i64 1 ∧ wr = w.alloc (.cells #[] 123)) (fun _ _ => 0)
  case atStart => exact ⟨rfl, rfl⟩
  case round =>
   obtain ⟨rfl, rfl⟩ := hrel
   go_wp2
   go_ret
   exact ⟨rfl, (Touch.refl _ w).alloc _⟩
theorem list_none (w : World) :
  Calls Tryz.prog 8 #[.string emptyA, .agg #[.int .i64 0, .int .i64 0, .int .i64 0]] w fun e w' => ∃ a, e = .returned (.tuple #[.slice a 0 0, .int .i64 0]) ∧ Touch (fun _ => False) w w' := by
 have hz : emptyA.size = 22 := rfl
 have W1 : Touch (fun _ => False) w (w.alloc (Obj.cells #[.int .i64 0, .int .i64 0, .int .i64 0] 29)) := (Touch.refl _ w).alloc _
 go_enter Tryz.func8, Tryz.ntmps8
 go_wp2_with fail
 refine (findDirectory_none _).mono ?_
 rintro e w1 ⟨rfl, t1⟩
 have b1 : w1.heap[w.heap.size]? = some (Obj.cells #[.int .i64 0, .int .i64 0, .int .i64 0] 29) := (t1.block _ (by simp) (fun e => e)).trans (heap_alloc_new w _)
 have z1 : w.heap.size < w1.heap.size := by have := t1.size; simp at this; omega
 have T1 := W1.trans t1
 have g1 : w1.cell? ⟨w.heap.size, 0, none⟩ = some (.int .i64 0) := by rw [row_cell b1 0]; rfl
 clear t1 W1
 go_wp2_with fail
 refine (liesAsSaid_none _).mono ?_
 rintro e w2 ⟨rfl, t2⟩
 have T2 := (T1.alloc _).trans t2
 have b2 := (t2.block w.heap.size (by simp; omega) (fun e => e)).trans ((Below.heap_alloc _ _ _ z1).trans b1)
 have d2 := (t2.block w1.heap.size (by simp) (fun e => e)).trans (heap_alloc_new w1 _)
 have z2 : w.heap.size < w2.heap.size := by have := t2.size; simp at this; omega
 have y2 : w1.heap.size < w2.heap.size := by have := t2.size; simp at this; omega
 have q0 : w2.cell? ⟨w1.heap.size, 0, none⟩ = some (.int .i64 0) := by rw [row_cell d2 0]; rfl
 have q1 : w2.cell? ⟨w1.heap.size, 1, none⟩ = some (.int .i64 0) := by rw [row_cell d2 1]; rfl
 have q2 : w2.cell? ⟨w1.heap.size, 2, none⟩ = some (.int .i64 0) := by rw [row_cell d2 2]; rfl
 have q3 : w2.cell? ⟨w1.heap.size, 3, none⟩ = some (.int .i64 0) := by rw [row_cell d2 3]; rfl
 clear t2 T1 b1 g1
 go_wp2_with fail
 refine (takeAll_none _).mono ?_
 rintro e w3 ⟨rfl, t3⟩
 have T3 := T2.trans t3
 have b3 := (t3.block w.heap.size z2 (fun e => e)).trans b2
 have d3 := (t3.block w1.heap.size y2 (fun e => e)).trans d2
 have g1 : w3.cell? ⟨w.heap.size, 1, none⟩ = some (.int .i64 0) := by rw [row_cell b3 1]; rfl
 have z3 : w.heap.size < w3.heap.size := by have := t3.size; omega
 have y3 : w1.heap.size < w3.heap.size := by have := t3.size; omega
 clear t3 T2 b2 d2 q0 q1 q2 q3
 go_wp2_with fail
 refine (within_none _ _).mono ?_
 rintro e w4 ⟨rfl, rfl⟩
 go_wp2_with fail
 refine (anyTwice_none _).mono ?_
 rintro e w5 ⟨rfl, t5⟩
 have T5 := T3.trans t5
 have b5 := (t5.block w.heap.size z3 (fun e => e)).trans b3
 have d5 := (t5.block w1.heap.size y3 (fun e => e)).trans d3
 have q2 : w5.cell? ⟨w1.heap.size, 2, none⟩ = some (.int .i64 0) := by rw [row_cell d5 2]; rfl
 have z5 : w.heap.size < w5.heap.size := by have := t5.size; omega
 clear t5 T3 b3 d3 g1
 go_wp2_with fail
 refine (findSpans_none _ _).mono ?_
 rintro e w6 ⟨rfl, rfl⟩
 go_wp2_with fail
 refine (anyOverlap_none _).mono ?_
 rintro e w7 ⟨rfl, t7⟩
 have T7 := T5.trans t7
 have b7 := (t7.block w.heap.size z5 (fun e => e)).trans b5
 have g2 : w7.cell? ⟨w.heap.size, 2, none⟩ = some (.int .i64 0) := by rw [row_cell b7 2]; rfl
 clear t7 T5 b5 d5 q2
 go_wp2_with fail
 refine (within_none _ _).mono ?_
 rintro e w8 ⟨rfl, rfl⟩
 go_wp2_with fail
 refine (entriesOf_none _).mono ?_
 rintro e w9 ⟨a, rfl, t9⟩
 have T9 := T7.trans t9
 go_wp2
 go_ret2
 exact ⟨a, rfl, T9⟩
end Go.Proofs.YtnmkmmgaoplfiaaGreatDoor
