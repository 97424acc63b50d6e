/- Texts of this seat, joined. -/
import Derived.Test.YtpckiobjpikmlaaGreatDoorJ05
import Derived.Test.YtpckiobjpikmlaaGreatDoorJ04
set_option linter.unusedSimpArgs false
set_option linter.unusedVariables false
set_option maxRecDepth 100000
set_option maxHeartbeats 20000000
namespace Go.Proofs.YtpckiobjpikmlaaGreatDoor
open Go.RowKit
structure Ref (w : World) (b : Nat) (s : ByteArray) (p : Nat) (out : List UInt8) (M : Int) : Prop where
 rb : RB w b s p
 gv : ∃ ao cap, w.cell? ⟨b, 2, none⟩ = some (.slice ao out.length cap) ∧ w.ownsRow (b + 1) 5 1 (.slice ao out.length cap) out.length (byteV out)
 ms : w.cell? ⟨b, 3, none⟩ = some (.int .i64 M)
 few : out.length ≤ 258 * p
theorem RB.lt {w : World} {b : Nat} {s : ByteArray} {p : Nat} (h : RB w b s p) : b < w.heap.size := World.block_lt_of_cell? w _ h.c0
theorem Ref.lt {w : World} {b : Nat} {s : ByteArray} {p : Nat} {out : List UInt8} {M : Int} (h : Ref w b s p out M) : b < w.heap.size := h.rb.lt
theorem IT.ofBT {b : Nat} {x y : World} (h : BT b x y) : IT b x y := h.t.mono (fun _ _ e => Or.inl e)
theorem Ref.read {w w' : World} {b : Nat} {s : ByteArray} {p q : Nat} {out : List UInt8} {M : Int} (h : Ref w b s p out M) (hr : RB w' b s q) (hn : BT b w w') (hq : p ≤ q) : Ref w' b s q out M := by
 obtain ⟨ao, cap, h2, ho⟩ := h.gv
 refine ⟨hr, ⟨ao, cap, (hn.keep 2 (by omega) (by omega)).trans h2, hn.t.owns ho (fun k hk (e : k = b) => ?_)⟩, (hn.keep 3 (by omega) (by omega)).trans h.ms, by have := h.few; omega⟩
 have := (ho.lt k hk).1
 omega
theorem Ref.given {w x w1 : World} {b : Nat} {s : ByteArray} {p : Nat} {out new : List UInt8} {M : Int} {ao : Option Addr} {cap : Nat} {v' : Value} (h : Ref w b s p out M) (h2 : w.cell? ⟨b, 2, none⟩ = some (.slice ao out.length cap)) (ho : w.ownsRow (b + 1) 5 1 (.slice ao out.length cap) out.length (byteV out))
  (hx : Touch (fun _ => False) w x) (hg : x.grownBy w1 (Value.slice ao out.length cap).ownBlock) (ho' : w1.ownsRow (b + 1) 5 1 v' (out.length + new.length) (byteV out ++ byteV new)) (hfew : out.length + new.length ≤ 258 * p) :
  (w1.cell? ⟨b, 2, none⟩ = some (.slice ao out.length cap) ∧ w1.frozen? ⟨b, 2, none⟩ = false) ∧ Ref (w1.setCell ⟨b, 2, none⟩ v') b s p (out ++ new) M ∧ IT b w (w1.setCell ⟨b, 2, none⟩ v') := by
 have hlt := h.lt
 have t1 : Touch (fun k => k = b ∨ (b < k ∧ Typed w k 5)) w w1 := (hx.mono (fun _ _ e => e.elim)).grown hg (fun k hk => Or.inr ⟨by have := (ho.lt k hk).1; omega, Typed.owned ho hk⟩)
 have hne : ∀ k, (Value.slice ao out.length cap).ownBlock = some k → k ≠ b := fun k hk => by have := (ho.lt k hk).1; omega
 have hbb : w1.heap[b]? = w.heap[b]? := (hg.block b (Nat.lt_of_lt_of_le hlt hx.size) (fun e => hne b e.symm rfl)).trans (hx.block b hlt (fun e => e))
 have hc : ∀ o, w1.cell? ⟨b, o, none⟩ = w.cell? ⟨b, o, none⟩ := fun o => World.cell?_of_block hbb
 have hfz : ∀ o, w1.frozen? ⟨b, o, none⟩ = w.frozen? ⟨b, o, none⟩ := fun o => World.frozen?_of_block hbb
 have it : IT b w (w1.setCell ⟨b, 2, none⟩ v') := Touch.setCell t1 (p := ⟨b, 2, none⟩) (Or.inl rfl) v'
 refine ⟨⟨(hc 2).trans h2, (hfz 2).trans (h.rb.fr 2)⟩, ⟨?_, ?_, ?_, ?_⟩, it⟩
 ·have r := h.rb
  refine ⟨?_, ?_, ?_, ?_⟩
  ·rw [cell_set_ne (by omega), hc]; exact r.c0
  ·rw [cell_set_ne (by omega), hc]; exact r.c1
  ·rw [cell_set_ne (by omega), hc]; exact r.c4
  ·intro o; rw [World.frozen?_setCell, hfz]; exact r.fr o
 ·have hsl : ∃ ao' cap', v' = .slice ao' (out ++ new).length cap' := by
   rw [List.length_append]
   rcases ho'.2 with ⟨e, h0⟩ | ⟨g, cap', cur, e, _⟩
   ·exact ⟨none, 0, by rw [e, h0]⟩
   ·exact ⟨_, _, e⟩
  obtain ⟨ao', cap', rfl⟩ := hsl
  refine ⟨ao', cap', ?_, ?_⟩
  ·simp [cell_set_if, hc, h2]
  ·rw [List.length_append] at *
   rw [byteV_app]
   exact ownsRow_setCell_below ho' (by show b < b + 1; omega) _
 ·rw [cell_set_ne (by omega), hc]; exact h.ms
 ·rw [List.length_append]; exact hfew
theorem give_full (b : Nat) (w : World) (s : ByteArray) (p : Nat) (out : List UInt8) (M c : Int) (h : Ref w b s p out M) (hp : p ≤ 8 * s.size) (hfull : M ≤ (out.length : Int)) :
  Calls Tryz.prog 139 #[.pointer (some ⟨b, 0, none⟩), .int .u8 c] w fun e w' => e = .returned (.tuple #[]) ∧ w'.cell? ⟨b, 4, none⟩ = some (.int .i64 2) ∧ IT b w w' := by
 obtain ⟨ao, cap, h2, ho⟩ := h.gv
 have h3 := h.ms
 have h4 := h.rb.c4
 rw [if_pos hp] at h4
 have h4' : w.cell? ⟨b, 4, none⟩ = some (.int .i64 0) := h4
 clear h4
 have f4 := h.rb.fr 4
 go_enter Tryz.func139, Tryz.ntmps139
 go_wp2
 go_quiet (fail)
 go_wp2_with (go_at_call 90; refine (fail_c (w.drewN nq) b 2 h4' f4).mono ?_; rintro e w' ⟨rfl, rfl⟩)
 go_end0
 refine ⟨rfl, ?_, ?_⟩
 ·simp [cell_set_if, cell_drewN, h4']
 ·exact IT.ofBT (((BT.refl b w).drewN _).set 4 (Or.inr rfl) _)
theorem give_ok (b : Nat) (w : World) (s : ByteArray) (p : Nat) (out : List UInt8) (M : Int) (c : UInt8) (h : Ref w b s p out M) (hp : p ≤ 8 * s.size) (hs : s.size ≤ 2147483648) (hroom : (out.length : Int) < M) (hfew : out.length + 1 ≤ 258 * p) :
  Calls Tryz.prog 139 #[.pointer (some ⟨b, 0, none⟩), .int .u8 (c.toNat : Int)] w fun e w' => e = .returned (.tuple #[]) ∧ Ref w' b s p (out ++ [c]) M ∧ IT b w w' := by
 obtain ⟨ao, cap, h2, ho⟩ := h.gv
 have h3 := h.ms
 have h4 := h.rb.c4
 rw [if_pos hp] at h4
 have h4' : w.cell? ⟨b, 4, none⟩ = some (.int .i64 0) := h4
 clear h4
 have hlt := h.lt
 obtain ⟨i0, hi, hz0, hz1, hz2⟩ := info_parts Tryz.infoByte
 have c3 : out.length + 1 ≤ maxLen := by unfold maxLen; omega
 have c4 : (out.length + 1) * 1 ≤ 140737488355328 := by omega
 have hod : ∀ k, (w.drewN k).ownsRow (b + 1) 5 1 (.slice ao out.length cap) out.length (byteV out) := fun _ => ho
 have hbd : ∀ k o, b + 1 ≤ ((w.drewN k).alloc o).heap.size := by intro k o; rw [World.size_alloc, size_drewN]; omega
 have nle : ¬ M ≤ (out.length : Int) := by omega
 go_enter Tryz.func139, Tryz.ntmps139
 go_wp2
 go_quiet (fail)
 go_wp2_with (at_builtin; refine wpList_append_own _ rfl _ _ 60 rfl (b + 1) 5 i0 (.int .u8 0) 1 1 Tryz.underlying60 hi hz0 hz1 hz2 rfl (by decide) _ _ _ rfl ((hod nq).alloc _) ⟨_, 0, none⟩ 1 1 [.int .u8 (c.toNat : Int)] rfl rfl (cell_one_new _ _ _) (by simp [Value.oneCell']) c3 c4 (hbd nq _) ?_; intro v' w1 hown' hgrow _; obtain ⟨⟨q5, q6⟩, _⟩ := h.given (new := [c]) h2 ho (((Touch.refl _ w).drewN nq).alloc _) hgrow hown' hfew; obtain ⟨g', cap', hv', _⟩ := owned_some hown' (by omega); rw [hv'] at hown' ⊢)
 go_end0
 have hin := h.given (new := [c]) h2 ho (((Touch.refl _ w).drewN nq).alloc _) hgrow hown' hfew
 exact ⟨rfl, hin.2.1, hin.2.2⟩
end Go.Proofs.YtpckiobjpikmlaaGreatDoor
