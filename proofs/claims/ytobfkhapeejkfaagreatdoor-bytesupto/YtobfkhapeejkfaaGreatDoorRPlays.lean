/- A script of Sums and Inflates: 'plays'. -/
import Derived.Test.YtobfkhapeejkfaaGreatDoorRLaw
namespace Go.Proofs.YtobfkhapeejkfaaGreatDoor
open Go.RowKit
set_option linter.unusedSimpArgs false
set_option linter.unusedVariables false

/-- A step of a script, in memory: its nine cells; its text is not too great. -/
structure OpAt (w : World) (sb at_ : Nat) (K N : Int) (S : ByteArray) (v1 v4 v5 v6 v7 v8 : Value) : Prop where
  c0 : w.cell? ⟨sb, at_, none⟩ = some (.int .i64 K)
  c1 : w.cell? ⟨sb, at_ + 1, none⟩ = some v1
  c2 : w.cell? ⟨sb, at_ + 2, none⟩ = some (.int .i64 N)
  c3 : w.cell? ⟨sb, at_ + 3, none⟩ = some (.string S)
  c4 : w.cell? ⟨sb, at_ + 4, none⟩ = some v4
  c5 : w.cell? ⟨sb, at_ + 5, none⟩ = some v5
  c6 : w.cell? ⟨sb, at_ + 6, none⟩ = some v6
  c7 : w.cell? ⟨sb, at_ + 7, none⟩ = some v7
  c8 : w.cell? ⟨sb, at_ + 8, none⟩ = some v8
  lt : sb < w.heap.size
  hN : N ≤ 9223372036854775807
  hS : S.size ≤ 2147483648
theorem OpAt.below {w w' : World} {sb a : Nat} {K N : Int} {S : ByteArray} {v1 v4 v5 v6 v7 v8 : Value} (h : OpAt w sb a K N S v1 v4 v5 v6 v7 v8) (hb : Below w.heap.size w w') : OpAt w' sb a K N S v1 v4 v5 v6 v7 v8 := by
  have e : ∀ o, w'.cell? ⟨sb, o, none⟩ = w.cell? ⟨sb, o, none⟩ := fun o => hb.cell (p := ⟨sb, o, none⟩) h.lt
  exact ⟨(e _).trans h.c0, (e _).trans h.c1, (e _).trans h.c2, (e _).trans h.c3, (e _).trans h.c4, (e _).trans h.c5, (e _).trans h.c6, (e _).trans h.c7, (e _).trans h.c8, Nat.lt_of_lt_of_le h.lt hb.size, h.hN, h.hS⟩

set_option maxRecDepth 100000 in
set_option maxHeartbeats 4000000 in
theorem plays_bytes (w : World) (ao : Option Addr) (len cap : Nat) (ho : Ord w) (h0 : 0 < w.heap.size) (hlen : len ≤ 9223372036854775807)
    (hop : ∀ i, i < len → ∃ sb so K N S v1 v4 v5 v6 v7 v8, ao = some ⟨sb, so, none⟩ ∧ OpAt w sb (so + i * 9) K N S v1 v4 v5 v6 v7 v8) :
    Calls Tryz.prog 13 #[.slice ao len cap, .int .i64 1, .int .i64 2] w fun e w' => e = .returned (.bool true) ∧ Below w.heap.size w w' := by
  have HOP : Hid (∀ i, i < len → ∃ sb so K N S v1 v4 v5 v6 v7 v8, ao = some ⟨sb, so, none⟩ ∧ OpAt w sb (so + i * 9) K N S v1 v4 v5 v6 v7 v8) := hop
  clear hop
  have o1 : Ord (w.alloc (.cells #[.slice none 0 0, .slice none 0 0, .slice none 0 0, .slice none 0 0, .slice none 0 0, .slice none 0 0, .slice none 0 0, .int .i64 0] 82)) := ho.keep ((Touch.refl (fun _ => False) w).alloc _) (fun e => e)
  have z1 : 0 < (w.alloc (.cells #[.slice none 0 0, .slice none 0 0, .slice none 0 0, .slice none 0 0, .slice none 0 0, .slice none 0 0, .slice none 0 0, .int .i64 0] 82)).heap.size := by simp
  go_enter Tryz.func13, Tryz.ntmps13
  go_wp2_with fail
  refine (inflate_e _ _ 1 [97] 18 ⟨#[97]⟩ 3 ex_inf4 rfl rfl (by omega) (by decide) o1 z1).mono ?_
  rintro e w2 ⟨rfl, b2⟩
  have hc : ∀ j, j < 4 → w2.cell? ⟨w.heap.size, j, none⟩ = some (.slice none 0 0) := fun j hj => by
    rw [b2.cell (p := ⟨w.heap.size, j, none⟩) (by show w.heap.size < _; simp), row_cell (heap_alloc_new w _) j]
    rcases (by omega : j = 0 ∨ j = 1 ∨ j = 2 ∨ j = 3) with rfl | rfl | rfl | rfl <;> rfl
  have HC : Hid (∀ j, j < 4 → w2.cell? ⟨w.heap.size, j, none⟩ = some (.slice none 0 0)) := hc
  have c0 := hc 0 (by omega)
  have o2 := o1.below b2 z1
  have B2 : Below w.heap.size w w2 := ((Below.refl _ w).alloc (Nat.le_refl _) _).trans (b2.mono (by simp))
  have s2 : w.heap.size < w2.heap.size := by have := b2.size; simp at this; omega
  clear hc b2 o1 z1
  go_wp2
  go_loopw [15] (fun i wr => ∃ k : Nat, k ≤ len ∧ i = .int .i64 (k : Int) ∧ Below w2.heap.size w2 wr) (fun i _ => len - (intOf i).toNat)
  case atStart => exact ⟨0, by omega, rfl, Below.refl _ _⟩
  case round =>
    obtain ⟨k, hk, rfl, hb⟩ := hrel
    have d0 : wr.cell? ⟨w.heap.size, 0, none⟩ = some (.slice none 0 0) := (hb.cell (p := ⟨w.heap.size, 0, none⟩) s2).trans c0
    have d1 : wr.cell? ⟨w.heap.size, 1, none⟩ = some (.slice none 0 0) := (hb.cell (p := ⟨w.heap.size, 1, none⟩) s2).trans (HC.out 1 (by omega))
    have d2 : wr.cell? ⟨w.heap.size, 2, none⟩ = some (.slice none 0 0) := (hb.cell (p := ⟨w.heap.size, 2, none⟩) s2).trans (HC.out 2 (by omega))
    have d3 : wr.cell? ⟨w.heap.size, 3, none⟩ = some (.slice none 0 0) := (hb.cell (p := ⟨w.heap.size, 3, none⟩) s2).trans (HC.out 3 (by omega))
    have sr := hb.size
    by_cases hlt : k < len
    · obtain ⟨sb, so, K, N, S, v1, v4, v5, v6, v7, v8, rfl, op⟩ := HOP.out k hlt
      obtain ⟨p0, p1, p2, p3, p4, p5, p6, p7, p8, plt, pN, pS⟩ := (op.below B2).below hb
      by_cases hK : 1 ≤ K ∧ K ≤ 2
      · have K12 : K = 1 ∨ K = 2 := by omega
        go_wp2_with (first | (go_at_call 36; refine (step_bytes wr _ K N S v1 v4 v5 v6 v7 v8 K12 pN pS (o2.below hb (by omega)) (by omega)).mono ?_; rintro e w3 ⟨rfl, b3⟩; have q1 := (b3.cell (p := ⟨w.heap.size, 1, none⟩) (by show w.heap.size < _; omega)).trans d1; have q2 := (b3.cell (p := ⟨w.heap.size, 2, none⟩) (by show w.heap.size < _; omega)).trans d2; have q3 := (b3.cell (p := ⟨w.heap.size, 3, none⟩) (by show w.heap.size < _; omega)).trans d3) | (go_at_call 37; refine (kept_none w3 w.heap.size q1 q2 q3).mono ?_; rintro e w4 ⟨rfl, rfl⟩))
        go_roundw
        case rel => exact ⟨k + 1, by omega, by go_num, bNext hb b3⟩
        case measure => simp [intOf]; omega
      · by_cases hK1 : 1 ≤ K
        · have hK2 : ¬ K ≤ 2 := by omega
          go_wp2
          go_roundw
          case rel => exact ⟨k + 1, by omega, by go_num, hb⟩
          case measure => simp [intOf]; omega
        · go_wp2
          go_roundw
          case rel => exact ⟨k + 1, by omega, by go_num, hb⟩
          case measure => simp [intOf]; omega
    · obtain rfl : k = len := by omega
      go_wp2
      go_loopw [19] (fun i wr' => i = .int .i64 0 ∧ wr' = wr) (fun _ _ => 0)
      case atStart => exact ⟨rfl, rfl⟩
      case round =>
        obtain ⟨rfl, rfl⟩ := hrel
        go_wp2_with (go_at_call 37; refine (kept_none _ w.heap.size d1 d2 d3).mono ?_; rintro e w4 ⟨rfl, rfl⟩)
        go_ret
        exact ⟨rfl, B2.trans (hb.mono (by omega))⟩

set_option maxHeartbeats 400000 in
theorem lawBytes_c (w : World) (ao : Option Addr) (len cap : Nat) (ho : Ord w) (h0 : 0 < w.heap.size) (hlen : len ≤ 9223372036854775807)
    (hop : ∀ i, i < len → ∃ sb so K N S v1 v4 v5 v6 v7 v8, ao = some ⟨sb, so, none⟩ ∧ OpAt w sb (so + i * 9) K N S v1 v4 v5 v6 v7 v8) :
    Calls Tryz.prog 3 #[.slice ao len cap] w fun e w' => e = .returned (.bool true) ∧ Below w.heap.size w w' := by
  go_enter Tryz.func3, Tryz.ntmps3
  go_wp2_with fail
  refine (plays_bytes w ao len cap ho h0 hlen hop).mono ?_
  rintro e w1 ⟨rfl, b1⟩
  go_wp2
  go_ret
  exact ⟨rfl, b1⟩
end Go.Proofs.YtobfkhapeejkfaaGreatDoor
