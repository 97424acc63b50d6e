/- Texts of this seat, joined. -/
import Derived.Test.YtnmkmmgaoplfiaaGreatDoorJ32
import Derived.Test.YtnmkmmgaoplfiaaGreatDoorJ14
import Derived.Test.YtnmkmmgaoplfiaaGreatDoorJ27
set_option linter.unusedSimpArgs false
set_option linter.unusedVariables false
set_option maxHeartbeats 20000000
namespace Go.Proofs.YtnmkmmgaoplfiaaGreatDoor
open Go.RowKit
abbrev Fil := ByteArray × List UInt8
def lessF (a b : ByteArray) : Bool := lexP (partsGo (bareL a) []) (partsGo (bareL b) [])
def putF : List Fil → Fil → List Fil
 | [], f => [f]
 | x :: l, f => if x.1 = f.1 then x :: l else if lessF f.1 x.1 then f :: x :: l else x :: putF l f
def putFolds (nm : List UInt8) : Nat → Nat → List Fil → List Fil
 | 0, _, out => out
 | f + 1, i, out => putFolds nm f (i + 1) (if nm[i]? = some 47 then putF out (folOf (nm.take (i + 1))) else out)
def refGo (s : ByteArray) : List Spanned → List Fil → Sum Nat (List Fil)
 | [], out => .inr out
 | x :: l, out => if folderB x.ent.name then refGo s l (putFolds x.ent.name.data.toList x.ent.name.size 0 out) else match dataOfE s x with
  | .inl k => .inl k
  | .inr d => refGo s l (putF (putFolds x.ent.name.data.toList x.ent.name.size 0 out) (x.ent.name, d))
@[reducible] def Srt (l : List Fil) : Prop := l.Pairwise fun a b => cmpP a.1.data.toList b.1.data.toList < 0
structure OrdOn (P : ByteArray → Prop) : Prop where
 less : ∀ a b, P a → P b → a ≠ b → lessF a b = decide (cmpP a.data.toList b.data.toList < 0)
 nul : ∀ a, P a → NoNul a.data.toList
theorem byte_ext {a b : ByteArray} (h : a.data.toList = b.data.toList) : a = b := by
 apply ByteArray.ext; exact Array.toList_inj.1 h
theorem cmpP_self : ∀ l : List UInt8, cmpP l l = 0
 | [] => rfl
 | a :: l => by simp [cmpP, cmpP_self l]
theorem OrdOn.tri {P : ByteArray → Prop} (h : OrdOn P) {a b : ByteArray} (ha : P a) (hb : P b) (hne : a ≠ b) (hn : ¬ cmpP a.data.toList b.data.toList < 0) : cmpP b.data.toList a.data.toList < 0 := by
 have h1 := cmpP_swap a.data.toList b.data.toList
 have h2 : cmpP a.data.toList b.data.toList ≠ 0 := fun e => hne (byte_ext (cmpP_zero _ _ (h.nul a ha) (h.nul b hb) e))
 omega
theorem putF_mem {P : ByteArray → Prop} (hP : OrdOn P) (f : Fil) (hf : P f.1) : ∀ l : List Fil, (∀ x ∈ l, P x.1) → Srt l → (∃ x ∈ l, x.1 = f.1) → putF l f = l
 | [], _, _, h => by obtain ⟨x, hx, _⟩ := h; cases hx
 | x :: l, hl, hs, h => by
  unfold putF
  by_cases e : x.1 = f.1
  ·rw [if_pos e]
  ·rw [if_neg e]
   obtain ⟨y, hy, hyf⟩ := h
   have hyl : y ∈ l := by
    rcases List.mem_cons.1 hy with rfl | hy
    ·exact absurd hyf e
    ·exact hy
   have hlt := (List.pairwise_cons.1 hs).1 y hyl
   rw [hyf] at hlt
   have hls : lessF f.1 x.1 = false := by
    rw [hP.less _ _ hf (hl x (List.mem_cons_self ..)) (fun h => e h.symm)]
    refine decide_eq_false (fun h => ?_)
    have := cmpP_swap x.1.data.toList f.1.data.toList
    omega
   rw [hls]
   simp only [Bool.false_eq_true, if_false]
   rw [putF_mem hP f hf l (fun x hx => hl x (List.mem_cons_of_mem _ hx)) (List.pairwise_cons.1 hs).2 ⟨y, hyl, hyf⟩]
theorem putF_new {P : ByteArray → Prop} (hP : OrdOn P) (f : Fil) (hf : P f.1) : ∀ l : List Fil, (∀ x ∈ l, P x.1) → Srt l → (∀ x ∈ l, x.1 ≠ f.1) → (putF l f).Perm (f :: l) ∧ Srt (putF l f)
 | [], _, _, _ => ⟨List.Perm.refl _, List.pairwise_singleton ..⟩
 | x :: l, hl, hs, h => by
  have hx := hl x (List.mem_cons_self ..)
  have hne := h x (List.mem_cons_self ..)
  have hs1 := (List.pairwise_cons.1 hs).1
  have hs2 := (List.pairwise_cons.1 hs).2
  unfold putF
  rw [if_neg hne, hP.less _ _ hf hx (fun e => hne e.symm)]
  by_cases hlt : cmpP f.1.data.toList x.1.data.toList < 0
  ·rw [decide_eq_true hlt]
   simp only [if_true]
   refine ⟨List.Perm.refl _, List.pairwise_cons.2 ⟨fun y hy => ?_, hs⟩⟩
   rcases List.mem_cons.1 hy with rfl | hy
   ·exact hlt
   ·exact cmpP_trans _ _ _ (hP.nul _ hf) (hP.nul _ hx) (hP.nul _ (hl y (List.mem_cons_of_mem _ hy))) hlt (hs1 y hy)
  ·rw [decide_eq_false hlt]
   simp only [Bool.false_eq_true, if_false]
   obtain ⟨i1, i2⟩ := putF_new hP f hf l (fun x hx => hl x (List.mem_cons_of_mem _ hx)) hs2 (fun x hx => h x (List.mem_cons_of_mem _ hx))
   refine ⟨(i1.cons x).trans (List.Perm.swap ..), List.pairwise_cons.2 ⟨fun y hy => ?_, i2⟩⟩
   rcases List.mem_cons.1 (i1.mem_iff.1 hy) with rfl | hy
   ·exact hP.tri hf hx (fun e => hne e.symm) hlt
   ·exact hs1 y hy
theorem sorted_one : ∀ (out d : List Fil), d.Perm out → Srt out → (d.Pairwise fun a b => cmpP a.1.data.toList b.1.data.toList ≤ 0) → d = out
 | [], d, h, _, _ => h.eq_nil
 | x :: o, [], h, _, _ => by have := h.length_eq; simp at this
 | x :: o, y :: e, h, h1, h2 => by
  have hx : x ∈ y :: e := h.mem_iff.2 (List.mem_cons_self ..)
  have hy : y ∈ x :: o := h.mem_iff.1 (List.mem_cons_self ..)
  have hxy : x = y := by
   rcases List.mem_cons.1 hx with h' | hx
   ·exact h'
   ·rcases List.mem_cons.1 hy with h' | hy
    ·exact h'.symm
    ·have a := (List.pairwise_cons.1 h1).1 y hy
     have b := (List.pairwise_cons.1 h2).1 x hx
     have c := cmpP_swap x.1.data.toList y.1.data.toList
     omega
  subst hxy
  rw [sorted_one o e ((List.perm_cons x).1 h) (List.pairwise_cons.1 h1).2 (List.pairwise_cons.1 h2).2]
theorem parts_apart : ∀ (t p : List UInt8), (∀ x ∈ partsGo t p, x ≠ []) → ∀ k, (t[k]? = some 47 ∨ k = t.length) → (k = 0 → p ≠ []) ∧ ∀ j, k = j + 1 → t[j]? ≠ some 47
 | [], p, h, k, hk => by
  have hk0 : k = 0 := by rcases hk with hk | hk <;> simp at hk; exact hk
  subst hk0
  exact ⟨fun _ => h p (by simp [partsGo]), fun j hj => by omega⟩
 | c :: t, p, h, k, hk => by
  by_cases hc : c = 47
  ·rw [partsGo, if_pos hc] at h
   cases k with
   | zero => exact ⟨fun _ => h p (List.mem_cons_self ..), fun j hj => by omega⟩
   | succ k =>
    have ih := parts_apart t [] (fun x hx => h x (List.mem_cons_of_mem _ hx)) k (by rcases hk with hk | hk <;> simp at hk <;> simp [hk])
    refine ⟨fun e => by omega, fun j hj => ?_⟩
    obtain rfl : k = j := by omega
    cases k with
    | zero => exact absurd rfl (ih.1 rfl)
    | succ k => rw [List.getElem?_cons_succ]; exact ih.2 k rfl
  ·rw [partsGo, if_neg hc] at h
   cases k with
   | zero => rcases hk with hk | hk <;> simp at hk; exact absurd hk hc
   | succ k =>
    have ih := parts_apart t (p ++ [c]) h k (by rcases hk with hk | hk <;> simp at hk <;> simp [hk])
    refine ⟨fun e => by omega, fun j hj => ?_⟩
    obtain rfl : k = j := by omega
    cases k with
    | zero => simp; exact hc
    | succ k => rw [List.getElem?_cons_succ]; exact ih.2 k rfl
end Go.Proofs.YtnmkmmgaoplfiaaGreatDoor
