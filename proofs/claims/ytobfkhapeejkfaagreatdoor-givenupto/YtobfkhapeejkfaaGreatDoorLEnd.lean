/- The program's look at an archive's end. -/
import Derived.Test.YtobfkhapeejkfaaGreatDoorLFld
namespace Go.Proofs.YtobfkhapeejkfaaGreatDoor
open Go.RowKit
set_option linter.unusedSimpArgs false
set_option linter.unusedVariables false

/-- PK and these two, at a place. -/
def markB (s : ByteArray) (i : Nat) (x y : UInt8) : Bool := decide ((s.extract i (i + 4)).toList = [80, 75, x, y])
/-- The end, with b bytes behind it, stands there. -/
def endOk (s : ByteArray) (b : Nat) : Bool := markB s (s.size - b - 22) 5 6 && decide (numIn s (s.size - b - 22 + 20) 2 = b)
/-- The nearest end, from b bytes behind it on. -/
def endFrom (s : ByteArray) : Nat → Nat → Option Nat
  | 0, _ => none
  | f + 1, b => if b + 22 ≤ s.size then (if endOk s b then some (s.size - b - 22) else endFrom s f (b + 1)) else none

theorem endFrom_step (s : ByteArray) (f b : Nat) (h : b + 22 ≤ s.size) (h' : endOk s b = false) : endFrom s (f + 1) b = endFrom s f (b + 1) := by simp [endFrom, h, h']
theorem endFrom_here (s : ByteArray) (f b : Nat) (h : b + 22 ≤ s.size) (h' : endOk s b = true) : endFrom s (f + 1) b = some (s.size - b - 22) := by simp [endFrom, h, h']
theorem endFrom_off (s : ByteArray) (f b : Nat) (h : ¬ b + 22 ≤ s.size) : endFrom s f b = none := by cases f <;> simp [endFrom, h]
theorem Touch.onNew {S : Nat → Prop} {w a c : World} {b : Nat} (h : Touch S w a) (t : Touch (fun k => k = b) a c) (hb : w.heap.size ≤ b) : Touch S w c :=
  ⟨t.os.trans h.os, t.tape.trans h.tape, t.output.trans h.output, Nat.le_trans h.size t.size, fun k hk hs => (t.block k (Nat.lt_of_lt_of_le hk h.size) (by show ¬ k = b; omega)).trans (h.block k hk hs)⟩
theorem FR.new (w : World) (s : ByteArray) (q : Nat) (hq : q ≤ s.size) (x : ByteArray) (hx : x = s.extract q s.size) : FR (w.alloc (.cells #[.string x, .bool false] 169)) w.heap.size s s.size (some q) := by
  subst hx
  have hb := heap_alloc_new w (.cells #[.string (s.extract q s.size), .bool false] 169)
  refine ⟨?_, ?_, ?_, ?_, ?_, Nat.le_refl _⟩
  · rw [row_cell hb 0]; rfl
  · rw [row_cell hb 1]; rfl
  · simp [go_sem]
  · simp [go_sem]
  · rintro _ ⟨⟩; exact hq

set_option maxRecDepth 100000 in
set_option maxHeartbeats 1000000 in
theorem findEnd_c (w : World) (s : ByteArray) (hs : s.size ≤ 140737488355328) :
    Calls Tryz.prog 79 #[.string s] w fun e w' => e = .returned (.tuple #[.int .i64 ((endFrom s 101 0).getD 0 : Nat), .bool (endFrom s 101 0).isSome]) ∧ Touch (fun _ => False) w w' := by
  go_enter Tryz.func79, Tryz.ntmps79
  go_wp2
  go_loopw [8] (fun i wr => ∃ b : Nat, b ≤ 101 ∧ i = .int .i64 (b : Int) ∧ Hid (endFrom s 101 0 = endFrom s (101 - b) b) ∧ Touch (fun _ => False) w wr) (fun i _ => 101 - (intOf i).toNat)
  case atStart => exact ⟨0, by omega, rfl, rfl, Touch.refl _ _⟩
  case round =>
    obtain ⟨b, hb, rfl, HE, ht⟩ := hrel
    by_cases hlt : b < 101
    · by_cases h22 : b + 22 ≤ s.size
      · have c1 : ¬ (s.size : Int) - (b : Int) - 22 < 0 := by omega
        have f0 := FR.new wr s (s.size - b - 22) (by omega) _ rfl
        have hsz := ht.size
        go_wp2_with fail
        refine (take_some _ _ s s.size (s.size - b - 22) 4 f0 (by omega) hs).mono ?_
        rintro e w1 ⟨rfl, f1, t1⟩
        have T1 := (ht.alloc _).onNew t1 hsz
        clear t1 f0
        go_wp2_with fail
        refine (take_some _ _ s s.size (s.size - b - 22 + 4) 16 f1 (by omega) hs).mono ?_
        rintro e w2 ⟨rfl, f2, t2⟩
        have T2 := T1.onNew t2 hsz
        clear t2 T1 f1 ht
        have HO : Hid (endOk s b = (markB s (s.size - b - 22) 5 6 && decide (numIn s (s.size - b - 22 + 20) 2 = b))) := rfl
        go_wp2_with fail
        · refine (fnum_some _ _ s s.size (s.size - b - 22 + 4 + 16) 2 f2 (by omega) (by omega) hs).mono ?_
          rintro e w3 ⟨rfl, f3, t3⟩
          have T3 := T2.onNew t3 hsz
          clear t3 T2 f2
          have hmk : (s.extract (s.size - b - 22) (s.size - b - 22 + 4)).toList = [80, 75, 5, 6] := by assumption
          have nl := numIn_le s (s.size - b - 22 + 4 + 16) 2
          obtain ⟨v, hv⟩ : ∃ v, v = numIn s (s.size - b - 22 + 4 + 16) 2 := ⟨_, rfl⟩
          have HV : Hid (v = numIn s (s.size - b - 22 + 20) 2) := by unfold Hid; rw [hv]
          rw [← hv]
          rw [← hv] at nl
          clear hv
          by_cases hvb : v = b
          · have HR : Hid (endFrom s 101 0 = some (s.size - b - 22)) := by
              unfold Hid; rw [HE.out, show 101 - b = (101 - b - 1) + 1 by omega, endFrom_here s _ b h22]
              rw [HO.out, ← HV.out, decide_eq_true hvb, Bool.and_true]; exact decide_eq_true hmk
            have q1 : ((v : Int) == (b : Int)) = true := by simp; omega
            clear hmk
            go_wp2
            go_ret2
            exact ⟨by rw [HR.out]; simp; omega, T3⟩
          · have HR : Hid (endFrom s 101 0 = endFrom s (101 - (b + 1)) (b + 1)) := by
              unfold Hid; rw [HE.out, show 101 - b = (101 - (b + 1)) + 1 by omega, endFrom_step s _ b h22]
              rw [HO.out, ← HV.out, decide_eq_false hvb, Bool.and_false]
            have q1 : ((v : Int) == (b : Int)) = false := by simp; omega
            go_wp2
            exact ⟨⟨b + 1, by omega, by go_num, HR.out, T3⟩, by simp [intOf]; omega⟩
        · have hmk : ¬ (s.extract (s.size - b - 22) (s.size - b - 22 + 4)).toList = [80, 75, 5, 6] := by assumption
          have HR : Hid (endFrom s 101 0 = endFrom s (101 - (b + 1)) (b + 1)) := by
            unfold Hid; rw [HE.out, show 101 - b = (101 - (b + 1)) + 1 by omega, endFrom_step s _ b h22]
            rw [HO.out, show markB s (s.size - b - 22) 5 6 = false from decide_eq_false hmk]; rfl
          exact ⟨⟨b + 1, by omega, by go_num, HR.out, T2⟩, by simp [intOf]; omega⟩
      · have HR : Hid (endFrom s 101 0 = none) := by unfold Hid; rw [HE.out, endFrom_off s _ b h22]
        have c1 : (s.size : Int) - (b : Int) - 22 < 0 := by omega
        go_wp2
        go_ret2
        exact ⟨by rw [HR.out]; rfl, ht⟩
    · have HR : Hid (endFrom s 101 0 = none) := by unfold Hid; rw [HE.out, show 101 - b = 0 by omega]; rfl
      go_wp2
      go_ret2
      exact ⟨by rw [HR.out]; rfl, ht⟩
end Go.Proofs.YtobfkhapeejkfaaGreatDoor
