/- Texts of this seat, joined. -/
import Derived.Test.YtnmkmmgaoplfiaaGreatDoorJ16
import Derived.Deep.AppendSrc
set_option linter.unusedSimpArgs false
set_option linter.unusedVariables false
set_option maxRecDepth 100000
set_option maxHeartbeats 20000000
namespace Go.Proofs.YtnmkmmgaoplfiaaGreatDoor
open Go.RowKit
def byteV (l : List UInt8) : List Value := l.map fun c => Value.int .u8 (c.toNat : Int)
theorem byteV_len (l : List UInt8) : (byteV l).length = l.length := List.length_map ..
theorem byteV_app (a b : List UInt8) : byteV (a ++ b) = byteV a ++ byteV b := List.map_append ..
def IT (b : Nat) (w w' : World) : Prop := Touch (fun k => k = b ∨ (b < k ∧ Typed w k 5)) w w'
theorem IT.refl (b : Nat) (w : World) : IT b w w := Touch.refl _ _
theorem IT.trans {b : Nat} {x y z : World} (h : IT b x y) (k : IT b y z) : IT b x z := by
 refine ⟨k.os.trans h.os, k.tape.trans h.tape, k.output.trans h.output, Nat.le_trans h.size k.size, fun i hi hs => ?_⟩
 refine (k.block i (Nat.lt_of_lt_of_le hi h.size) ?_).trans (h.block i hi hs)
 rintro (rfl | ⟨hb, cs, fr, hc⟩)
 ·exact hs (Or.inl rfl)
 ·rw [h.block i hi hs] at hc
  exact hs (Or.inr ⟨hb, cs, fr, hc⟩)
theorem IT.ofRN {b : Nat} {x y : World} (h : RN b x y) : IT b x y := h.t.mono (fun _ _ e => Or.inl e)
theorem IT.ofRT {b : Nat} {x y : World} (h : RT b x y) : IT b x y := IT.ofRN h.rn
theorem IT.drewN {b : Nat} {x y : World} (h : IT b x y) (n : Nat) : IT b x (y.drewN n) := Touch.drewN h n
theorem IT.not {b k : Nat} {w : World} {t : TypeId} (h : Typed w k t) (hb : b < k) (ht : t ≠ 5) : ¬ (k = b ∨ (b < k ∧ Typed w k 5)) := by
 rintro (rfl | ⟨_, h'⟩)
 ·omega
 ·exact ht (h.ne h')
theorem Codes.keepS {w w' : World} {fb n1 c1 n2 c2 : Nat} {L D : List Nat} (h : Codes w fb n1 c1 n2 c2 L D) {S : Nat → Prop} (ht : Touch S w w') (h0 : ¬ S fb) (h1 : ¬ S n1) (h2 : ¬ S n2) : Codes w' fb n1 c1 n2 c2 L D :=
 ⟨h.lt.keep ht h0 h1, h.ds.keep ht h0 h2, h.tb.keep ht h0, h.t1.keep ht h1, h.t2.keep ht h2⟩
theorem Codes.keepI {w w' : World} {b fb n1 c1 n2 c2 : Nat} {L D : List Nat} (h : Codes w fb n1 c1 n2 c2 L D) (ht : IT b w w') (h0 : b < fb) (h1 : b < n1) (h2 : b < n2) : Codes w' fb n1 c1 n2 c2 L D :=
 h.keepS ht (IT.not h.tb h0 (by decide)) (IT.not h.t1 h1 (by decide)) (IT.not h.t2 h2 (by decide))
def Fix (w : World) (b : Nat) (v : Value) : Prop := v = .pointer none ∨ ∃ fb n1 c1 n2 c2, v = .pointer (some ⟨fb, 0, none⟩) ∧ Codes w fb n1 c1 n2 c2 fixLetters fixDist ∧ b < fb ∧ b < n1 ∧ b < n2
theorem Fix.keep {w w' : World} {b : Nat} {v : Value} (h : Fix w b v) (ht : IT b w w') : Fix w' b v := by
 rcases h with h | ⟨fb, n1, c1, n2, c2, e, hc, h0, h1, h2⟩
 ·exact Or.inl h
 ·exact Or.inr ⟨fb, n1, c1, n2, c2, e, hc.keepI ht h0 h1 h2, h0, h1, h2⟩
structure Inf (w : World) (b : Nat) (s : ByteArray) (p : Nat) (out : List UInt8) (most : Nat) : Prop where
 rd : Rd w b s p
 gv : ∃ ao cap, w.cell? ⟨b, 5, none⟩ = some (.slice ao out.length cap) ∧ w.ownsRow (b + 1) 5 1 (.slice ao out.length cap) out.length (byteV out)
 ms : w.cell? ⟨b, 6, none⟩ = some (.int .i64 (most : Int))
 fx : ∃ v, w.cell? ⟨b, 7, none⟩ = some v ∧ Fix w b v
 fit : out.length ≤ most
 few : out.length ≤ 258 * p
 top : most ≤ 9223372036854775807
theorem Inf.lt {w : World} {b : Nat} {s : ByteArray} {p : Nat} {out : List UInt8} {most : Nat} (h : Inf w b s p out most) : b < w.heap.size := h.rd.lt
theorem Inf.read {w w' : World} {b : Nat} {s : ByteArray} {p q : Nat} {out : List UInt8} {most : Nat} (h : Inf w b s p out most) (hr : Rd w' b s q) (hn : RN b w w') (hq : p ≤ q) : Inf w' b s q out most := by
 obtain ⟨ao, cap, h5, ho⟩ := h.gv
 obtain ⟨v, h7, hf⟩ := h.fx
 refine ⟨hr, ⟨ao, cap, (hn.keep 5 (by omega)).trans h5, hn.t.owns ho ?_⟩, (hn.keep 6 (by omega)).trans h.ms, ⟨v, (hn.keep 7 (by omega)).trans h7, hf.keep (IT.ofRN hn)⟩, h.fit, by have := h.few; omega, h.top⟩
 intro k hk e
 have := (ho.lt k hk).1
 omega
theorem room_c (b : Nat) (w : World) (ao : Option Addr) (n cap most : Nat) (hn : n ≤ most) (hm : most ≤ 9223372036854775807) (h5 : w.cell? ⟨b, 5, none⟩ = some (.slice ao n cap)) (h6 : w.cell? ⟨b, 6, none⟩ = some (.int .i64 (most : Int))) :
  Calls Tryz.prog 114 #[.pointer (some ⟨b, 0, none⟩)] w fun e w' => e = .returned (.int .i64 ((most - n : Nat) : Int)) ∧ ∃ k, w' = w.drewN k := by
 go_enter Tryz.func114, Tryz.ntmps114
 go_wp2
 go_quiet (fail)
 go_wp2
 go_ret
 exact ⟨ret_int (by omega), _, rfl⟩
theorem Tryz.infoByte : (Tryz.prog.info? 5).map (fun i => (i.zero, i.size, i.bytes)) = some (some (.int .u8 0), 1, 1) := by kernel_rfl
theorem Inf.given {w x w1 : World} {b : Nat} {s : ByteArray} {p q : Nat} {out new : List UInt8} {most : Nat} {ao : Option Addr} {cap : Nat} {v' : Value} (h : Inf w b s p out most) (h5 : w.cell? ⟨b, 5, none⟩ = some (.slice ao out.length cap)) (ho : w.ownsRow (b + 1) 5 1 (.slice ao out.length cap) out.length (byteV out))
  (hx : Touch (fun _ => False) w x) (hg : x.grownBy w1 (Value.slice ao out.length cap).ownBlock) (ho' : w1.ownsRow (b + 1) 5 1 v' (out.length + new.length) (byteV out ++ byteV new)) (hfit : out.length + new.length ≤ most) (hfew : out.length + new.length ≤ 258 * p) :
  Inf (w1.setCell ⟨b, 5, none⟩ v') b s p (out ++ new) most ∧ IT b w (w1.setCell ⟨b, 5, none⟩ v') := by
 have hlt := h.lt
 have t1 : Touch (fun k => k = b ∨ (b < k ∧ Typed w k 5)) w w1 := (hx.mono (fun _ _ e => e.elim)).grown hg (fun k hk => Or.inr ⟨by have := (ho.lt k hk).1; omega, Typed.owned ho hk⟩)
 have hne : ∀ k, (Value.slice ao out.length cap).ownBlock = some k → k ≠ b := fun k hk => by have := (ho.lt k hk).1; omega
 have hbb : w1.heap[b]? = w.heap[b]? := (hg.block b (Nat.lt_of_lt_of_le hlt hx.size) (fun e => hne b e.symm rfl)).trans (hx.block b hlt (fun e => e))
 have hc : ∀ o, w1.cell? ⟨b, o, none⟩ = w.cell? ⟨b, o, none⟩ := fun o => World.cell?_of_block hbb
 have hfz : ∀ o, w1.frozen? ⟨b, o, none⟩ = w.frozen? ⟨b, o, none⟩ := fun o => World.frozen?_of_block hbb
 have it : IT b w (w1.setCell ⟨b, 5, none⟩ v') := Touch.setCell t1 (p := ⟨b, 5, none⟩) (Or.inl rfl) v'
 refine ⟨⟨?_, ?_, ?_, ?_, ?_, ?_, h.top⟩, it⟩
 ·have r := h.rd
  refine ⟨?_, ?_, ?_, ?_, ?_, ?_⟩
  ·rw [cell_set_ne (by omega), hc]; exact r.c0
  ·rw [cell_set_ne (by omega), hc]; exact r.c1
  ·rw [cell_set_ne (by omega), hc]; exact r.c2
  ·rw [cell_set_ne (by omega), hc]; exact r.c3
  ·rw [cell_set_ne (by omega), hc]; exact r.c4
  ·intro o; rw [World.frozen?_setCell, hfz]; exact r.fr o
 ·have hsl : ∃ ao' cap', v' = .slice ao' (out ++ new).length cap' := by
   rw [List.length_append]
   rcases ho'.2 with ⟨e, h0⟩ | ⟨g, cap', cur, e, _⟩
   ·exact ⟨none, 0, by rw [e, h0]⟩
   ·exact ⟨_, _, e⟩
  obtain ⟨ao', cap', rfl⟩ := hsl
  refine ⟨ao', cap', ?_, ?_⟩
  ·simp [cell_set_if, hc, h5]
  ·rw [List.length_append] at *
   rw [byteV_app]
   exact ownsRow_setCell_below ho' (by show b < b + 1; omega) _
 ·rw [cell_set_ne (by omega), hc]; exact h.ms
 ·obtain ⟨v, h7, hf⟩ := h.fx
  exact ⟨v, by rw [cell_set_ne (by omega), hc]; exact h7, hf.keep it⟩
 ·rw [List.length_append]; exact hfit
 ·rw [List.length_append]; exact hfew
theorem Inf.cell5 {w x w1 : World} {b : Nat} {s : ByteArray} {p : Nat} {out : List UInt8} {most : Nat} {ao : Option Addr} {cap : Nat} (h : Inf w b s p out most) (h5 : w.cell? ⟨b, 5, none⟩ = some (.slice ao out.length cap)) (ho : w.ownsRow (b + 1) 5 1 (.slice ao out.length cap) out.length (byteV out))
  (hx : Touch (fun _ => False) w x) (hg : x.grownBy w1 (Value.slice ao out.length cap).ownBlock) : w1.cell? ⟨b, 5, none⟩ = some (.slice ao out.length cap) ∧ w1.frozen? ⟨b, 5, none⟩ = false := by
 have hlt := h.lt
 have hne : ∀ k, (Value.slice ao out.length cap).ownBlock = some k → k ≠ b := fun k hk => by have := (ho.lt k hk).1; omega
 have hbb : w1.heap[b]? = w.heap[b]? := (hg.block b (Nat.lt_of_lt_of_le hlt hx.size) (fun e => hne b e.symm rfl)).trans (hx.block b hlt (fun e => e))
 exact ⟨(World.cell?_of_block hbb).trans h5, (World.frozen?_of_block hbb).trans (h.rd.fr 5)⟩
theorem Inf.drewN {w : World} {b : Nat} {s : ByteArray} {p : Nat} {out : List UInt8} {most : Nat} (h : Inf w b s p out most) (n : Nat) : Inf (w.drewN n) b s p out most := by
 refine h.read (h.rd.drewN n) ⟨(Touch.refl _ w).drewN n, fun _ _ => rfl, fun _ => rfl⟩ (Nat.le_refl _)
theorem single_full (b : Nat) (w : World) (s : ByteArray) (p : Nat) (out : List UInt8) (most : Nat) (c : Int) (h : Inf w b s p out most) (hfull : out.length = most) :
  Calls Tryz.prog 119 #[.pointer (some ⟨b, 0, none⟩), .int .u8 c] w fun e w' => e = .returned (.int .i64 2) ∧ IT b w w' := by
 obtain ⟨ao, cap, h5, ho⟩ := h.gv
 have h6 := h.ms
 have ht := h.top
 go_enter Tryz.func119, Tryz.ntmps119
 go_wp2_with (go_at_call 114; refine (room_c b w ao out.length cap most h.fit ht h5 h6).mono ?_; rintro e w1 ⟨rfl, k, rfl⟩)
 go_ret
 exact ⟨rfl, (IT.refl b w).drewN k⟩
theorem single_ok (b : Nat) (w : World) (s : ByteArray) (p : Nat) (out : List UInt8) (most : Nat) (c : UInt8) (h : Inf w b s p out most) (hroom : out.length < most) (hfew : out.length + 1 ≤ 258 * p) (hp : p ≤ 17179869184) :
  Calls Tryz.prog 119 #[.pointer (some ⟨b, 0, none⟩), .int .u8 (c.toNat : Int)] w fun e w' => e = .returned (.int .i64 0) ∧ Inf w' b s p (out ++ [c]) most ∧ IT b w w' := by
 obtain ⟨ao, cap, h5, ho⟩ := h.gv
 have h6 := h.ms
 have ht := h.top
 have hlt := h.lt
 have f5 := h.rd.fr 5
 obtain ⟨i0, hi, hz0, hz1, hz2⟩ := info_parts Tryz.infoByte
 have c3 : out.length + 1 ≤ maxLen := by unfold maxLen; omega
 have c4 : (out.length + 1) * 1 ≤ 140737488355328 := by omega
 have hne : ¬ most - out.length = 0 := by omega
 have hod : ∀ k, (w.drewN k).ownsRow (b + 1) 5 1 (.slice ao out.length cap) out.length (byteV out) := fun _ => ho
 have hbd : ∀ k o, b + 1 ≤ ((w.drewN k).alloc o).heap.size := by intro k o; rw [World.size_alloc, size_drewN]; omega
 go_enter Tryz.func119, Tryz.ntmps119
 go_wp2_with (first | (go_at_call 114; refine (room_c b w ao out.length cap most h.fit ht h5 h6).mono ?_; rintro e w1 ⟨rfl, k, rfl⟩) | (at_builtin; refine wpList_append_own _ rfl _ _ 86 rfl (b + 1) 5 i0 (.int .u8 0) 1 1 Tryz.underlying86 hi hz0 hz1 hz2 rfl (by decide) _ _ _ rfl ((hod k).alloc _) ⟨_, 0, none⟩ 1 1 [.int .u8 (c.toNat : Int)] rfl rfl (cell_one_new _ _ _) (by simp [Value.oneCell']) c3 c4 (hbd k _) ?_; intro v' w1 hown' hgrow _; obtain ⟨q5, q6⟩ := h.cell5 h5 ho (((Touch.refl _ w).drewN k).alloc _) hgrow; obtain ⟨g', cap', hv', _⟩ := owned_some hown' (by omega); rw [hv'] at hown' ⊢))
 go_ret
 have hin := h.given (p := p) (q := p) (new := [c]) h5 ho (((Touch.refl _ w).drewN k).alloc _) hgrow hown' hroom hfew
 exact ⟨rfl, hin.1, hin.2⟩
end Go.Proofs.YtnmkmmgaoplfiaaGreatDoor
