/- Texts of this seat, joined. -/
import Derived.Test.YtpckiobjpikmlaaGreatDoorJ11
set_option linter.unusedSimpArgs false
set_option linter.unusedVariables false
set_option maxHeartbeats 20000000
namespace Go.Proofs.YtpckiobjpikmlaaGreatDoor
open Go.RowKit
def refEnd (s : ByteArray) (i : Nat) : Bool := markB s i 5 6 && (decide (numIn s (i + 20) 2 ≤ 100) && decide (i + 22 + numIn s (i + 20) 2 = s.size))
def lastEnd (s : ByteArray) : Nat → Option Nat
 | 0 => none
 | i + 1 => if refEnd s i then some i else lastEnd s i
theorem lastEnd_far (s : ByteArray) : ∀ i, i + 122 ≤ s.size + 0 → lastEnd s i = none
 | 0, _ => rfl
 | i + 1, h => by
  unfold lastEnd
  have : refEnd s i = false := by
   unfold refEnd
   by_cases h1 : numIn s (i + 20) 2 ≤ 100
   ·rw [decide_eq_false (p := i + 22 + numIn s (i + 20) 2 = s.size) (by omega)]; simp
   ·rw [decide_eq_false h1]; simp
  rw [this]
  simp only [Bool.false_eq_true, if_false]
  exact lastEnd_far s i (by omega)
theorem lastEnd_from (s : ByteArray) : ∀ f b, f + b = 101 → lastEnd s (s.size - b - 21) = endFrom s f b
 | 0, b, h => by
  rw [lastEnd_far' s b (by omega)]; rfl
 | f + 1, b, h => by
  by_cases hb : b + 22 ≤ s.size
  ·have e : s.size - b - 21 = (s.size - b - 22) + 1 := by omega
   rw [e]
   unfold lastEnd endFrom
   rw [if_pos hb]
   have ek : refEnd s (s.size - b - 22) = endOk s b := by
    unfold refEnd endOk
    congr 1
    rw [← Bool.decide_and]
    exact decide_eq_decide.2 ⟨fun h => by omega, fun h => by omega⟩
   rw [ek]
   have ih := lastEnd_from s f (b + 1) (by omega)
   rw [show s.size - (b + 1) - 21 = s.size - b - 22 by omega] at ih
   rw [ih]
  ·rw [endFrom_off s _ _ hb, show s.size - b - 21 = 0 by omega]; rfl
 where
 lastEnd_far' (s : ByteArray) (b : Nat) (h : b = 101) : lastEnd s (s.size - b - 21) = none := by
  by_cases hs : 122 ≤ s.size
  ·exact lastEnd_far s _ (by omega)
  ·rw [show s.size - b - 21 = 0 by omega]; rfl
theorem lastEnd_eq (s : ByteArray) : lastEnd s (s.size - 21) = endFrom s 101 0 := lastEnd_from s 101 0 rfl
end Go.Proofs.YtpckiobjpikmlaaGreatDoor
