/- Texts of this seat, joined. -/
import Derived.Test.YtnmkmmgaoplfiaaGreatDoorJ26
set_option linter.unusedSimpArgs false
set_option linter.unusedVariables false
set_option maxHeartbeats 20000000
namespace Go.Proofs.YtnmkmmgaoplfiaaGreatDoor
open Go.RowKit
def lexP : List (List UInt8) → List (List UInt8) → Bool
 | [], [] => false
 | [], _ :: _ => true
 | _ :: _, [] => false
 | x :: xs, y :: ys => if x = y then lexP xs ys else decide (x < y)
theorem ltL_pre (c : UInt8) (q : List UInt8) : ∀ p : List UInt8, p < p ++ c :: q
 | [] => List.nil_lt_cons ..
 | a :: p => by rw [List.cons_append, List.cons_lt_cons_iff]; exact .inr ⟨rfl, ltL_pre c q p⟩
theorem ltL_pre' (c : UInt8) (q : List UInt8) : ∀ p : List UInt8, ¬ p ++ c :: q < p
 | [] => List.not_lt_nil _
 | a :: p => by
  rw [List.cons_append, List.cons_lt_cons_iff]
  rintro (h | ⟨_, h⟩)
  ·exact UInt8.lt_irrefl _ h
  ·exact ltL_pre' c q p h
theorem ltL_at (a b : UInt8) (x y : List UInt8) (hab : a ≠ b) : ∀ p : List UInt8, (p ++ a :: x < p ++ b :: y) ↔ a < b
 | [] => by
  simp only [List.nil_append]
  rw [List.cons_lt_cons_iff]
  exact ⟨fun h => h.elim id (fun h => absurd h.1 hab), .inl⟩
 | c :: p => by
  rw [List.cons_append, List.cons_append, List.cons_lt_cons_iff, ltL_at a b x y hab p]
  exact ⟨fun h => h.elim (fun h => absurd h (UInt8.lt_irrefl _)) (·.2), fun h => .inr ⟨rfl, h⟩⟩
theorem partsGo_head : ∀ (u p : List UInt8), ∃ x xs, partsGo u p = (p ++ x) :: xs
 | [], p => ⟨[], [], by simp [partsGo]⟩
 | c :: u, p => by
  unfold partsGo
  split
  ·exact ⟨[], partsGo u [], by simp⟩
  ·obtain ⟨x, xs, h⟩ := partsGo_head u (p ++ [c])
   exact ⟨c :: x, xs, by rw [h]; simp⟩
theorem lexP_pos (p : List UInt8) (c : UInt8) (x : List UInt8) (r xs : List (List UInt8)) : lexP (p :: r) ((p ++ c :: x) :: xs) = true := by
 have hne : ¬ p = p ++ c :: x := fun e => by
  have := congrArg List.length e; simp at this
 simp only [lexP, if_neg hne]
 exact decide_eq_true (ltL_pre c x p)
theorem lexP_neg (p : List UInt8) (c : UInt8) (x : List UInt8) (r xs : List (List UInt8)) : lexP ((p ++ c :: x) :: xs) (p :: r) = false := by
 have hne : ¬ p ++ c :: x = p := fun e => by
  have := congrArg List.length e; simp at this
 simp only [lexP, if_neg hne]
 exact decide_eq_false (ltL_pre' c x p)
theorem rk_pos {c : UInt8} (h : c ≠ 0) (h47 : c ≠ 47) : 0 < rk c := by
 unfold rk; rw [if_neg h47]
 have : c.toNat ≠ 0 := fun e => h (UInt8.toNat_inj.1 (by simpa using e))
 omega
theorem lexP_eq : ∀ (u v p : List UInt8), NoNul u → NoNul v → lexP (partsGo u p) (partsGo v p) = decide (cmpP u v < 0)
 | [], [], p, _, _ => by simp [partsGo, lexP, cmpP]
 | [], c :: v, p, _, hv => by
  have e : decide (cmpP [] (c :: v) < 0) = true := by simp [cmpP]
  rw [e]
  by_cases h : c = 47
  ·obtain ⟨x, xs, hx⟩ := partsGo_head v []
   rw [partsGo, partsGo, if_pos h, lexP, if_pos rfl, hx]; rfl
  ·obtain ⟨x, xs, hx⟩ := partsGo_head v (p ++ [c])
   rw [partsGo, partsGo, if_neg h, hx, List.append_assoc]
   exact lexP_pos p c x [] xs
 | c :: u, [], p, hu, _ => by
  have e : decide (cmpP (c :: u) [] < 0) = false := by simp [cmpP]
  rw [e]
  by_cases h : c = 47
  ·obtain ⟨x, xs, hx⟩ := partsGo_head u []
   rw [partsGo, partsGo, if_pos h, lexP, if_pos rfl, hx]; rfl
  ·obtain ⟨x, xs, hx⟩ := partsGo_head u (p ++ [c])
   rw [partsGo, partsGo, if_neg h, hx, List.append_assoc]
   exact lexP_neg p c x [] xs
 | a :: u, b :: v, p, hu, hv => by
  have hu' : NoNul u := fun c hc => hu c (List.mem_cons_of_mem _ hc)
  have hv' : NoNul v := fun c hc => hv c (List.mem_cons_of_mem _ hc)
  have ha := hu a (List.mem_cons_self ..)
  have hb := hv b (List.mem_cons_self ..)
  by_cases e : a = b
  ·subst e
   simp only [cmpP, if_pos]
   by_cases h : a = 47
   ·rw [partsGo, partsGo, if_pos h, if_pos h, lexP, if_pos rfl]
    exact lexP_eq u v [] hu' hv'
   ·rw [partsGo, partsGo, if_neg h, if_neg h]
    exact lexP_eq u v (p ++ [a]) hu' hv'
  ·simp only [cmpP, if_neg e]
   rw [show decide (Lib.compareInt (rk a : Int) (rk b : Int) < 0) = decide ((rk a : Int) < (rk b : Int)) from decide_eq_decide.2 (compareInt_neg _ _)]
   by_cases h1 : a = 47
   ·have h2 : ¬ b = 47 := fun h => e (h1.trans h.symm)
    obtain ⟨y, ys, hy⟩ := partsGo_head v (p ++ [b])
    rw [partsGo, partsGo, if_pos h1, if_neg h2, hy, List.append_assoc]
    have := rk_pos hb h2
    have z : rk a = 0 := by unfold rk; rw [if_pos h1]
    rw [decide_eq_true (show (rk a : Int) < (rk b : Int) by omega)]
    exact lexP_pos p b y _ ys
   ·obtain ⟨x, xs, hx⟩ := partsGo_head u (p ++ [a])
    by_cases h2 : b = 47
    ·rw [partsGo, partsGo, if_neg h1, if_pos h2, hx, List.append_assoc]
     have z : rk b = 0 := by unfold rk; rw [if_pos h2]
     rw [decide_eq_false (show ¬ (rk a : Int) < (rk b : Int) by omega)]
     exact lexP_neg p a x _ xs
    ·obtain ⟨y, ys, hy⟩ := partsGo_head v (p ++ [b])
     rw [partsGo, partsGo, if_neg h1, if_neg h2, hx, hy, List.append_assoc, List.append_assoc]
     have hne : ¬ p ++ ([a] ++ x) = p ++ ([b] ++ y) := fun h => by
      have := List.append_cancel_left h
      simp at this; exact e this.1
     simp only [lexP, if_neg hne]
     refine decide_eq_decide.2 ?_
     have := ltL_at a b x y e p
     simp only [List.cons_append, List.nil_append]
     rw [this]
     have z1 : rk a = a.toNat := by unfold rk; rw [if_neg h1]
     have z2 : rk b = b.toNat := by unfold rk; rw [if_neg h2]
     rw [z1, z2, UInt8.lt_iff_toNat_lt]; omega
theorem cmpP_tail : ∀ (u v e f : List UInt8), u ≠ v → NoNul u → NoNul v → (e = [] ∨ e = [47]) → (f = [] ∨ f = [47]) → u.getLast? ≠ some 47 → v.getLast? ≠ some 47 → (cmpP (u ++ e) (v ++ f) < 0 ↔ cmpP u v < 0)
 | [], [], _, _, h, _, _, _, _, _, _ => absurd rfl h
 | [], c :: v, e, f, _, _, hv, he, hf, _, hl => by
  have hc := hv c (List.mem_cons_self ..)
  have r : cmpP [] (c :: v) < 0 := by simp [cmpP]
  refine ⟨fun _ => r, fun _ => ?_⟩
  rcases he with rfl | rfl
  ·simp [cmpP]
  ·simp only [List.nil_append, List.cons_append, cmpP]
   by_cases h47 : c = 47
   ·rw [if_pos h47.symm]
    cases v with
    | nil => rw [h47] at hl; simp at hl
    | cons d v => simp [cmpP]
   ·rw [if_neg (fun h => h47 h.symm), compareInt_neg]
    have := rk_pos hc h47
    have z : rk 47 = 0 := rfl
    omega
 | c :: u, [], e, f, _, hu, _, he, hf, hl, _ => by
  have hc := hu c (List.mem_cons_self ..)
  have r : ¬ cmpP (c :: u) [] < 0 := by simp [cmpP]
  refine ⟨fun h => ?_, fun h => absurd h r⟩
  rcases hf with rfl | rfl
  ·simp [cmpP] at h
  ·simp only [List.nil_append, List.cons_append, cmpP] at h
   by_cases h47 : c = 47
   ·rw [if_pos h47] at h
    cases u with
    | nil => rw [h47] at hl; simp at hl
    | cons d u => simp [cmpP] at h
   ·rw [if_neg h47, compareInt_neg] at h
    have := rk_pos hc h47
    have z : rk 47 = 0 := rfl
    omega
 | a :: u, b :: v, e, f, h, hu, hv, he, hf, hlu, hlv => by
  simp only [List.cons_append, cmpP]
  by_cases hab : a = b
  ·rw [if_pos hab, if_pos hab]
   have hne : u ≠ v := fun e => h (by rw [hab, e])
   refine cmpP_tail u v e f hne (fun c hc => hu c (List.mem_cons_of_mem _ hc)) (fun c hc => hv c (List.mem_cons_of_mem _ hc)) he hf ?_ ?_
   ·cases u with
    | nil => simp
    | cons d u => simpa using hlu
   ·cases v with
    | nil => simp
    | cons d v => simpa using hlv
  ·rw [if_neg hab, if_neg hab]
end Go.Proofs.YtnmkmmgaoplfiaaGreatDoor
