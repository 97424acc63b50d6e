/- A script's step that is a Sum or an Inflate: the program's answer is the document's. -/
import Derived.Test.YtobfkhapeejkfaaGreatDoorWEx
import Derived.Test.YtobfkhapeejkfaaGreatDoorRInfl
namespace Go.Proofs.YtobfkhapeejkfaaGreatDoor
open Go.RowKit
set_option linter.unusedSimpArgs false
set_option linter.unusedVariables false

theorem num_c (w : World) (k : Int) (h0 : 0 ≤ k) (h1 : k ≤ 100) : Calls Tryz.prog 109 #[.int .i64 k] w fun e w' => e = .returned (.int .i64 k) ∧ w = w' := by
  go_enter Tryz.func109, Tryz.ntmps109
  go_wp2
  go_ret
  exact ⟨rfl, rfl⟩
theorem rsum_v (w : World) (s : ByteArray) (x : Nat) (hx : sumOf s = x) (hs : s.size ≤ maxLen) :
    Calls Tryz.prog 107 #[.string s] w fun e w' => e = .returned (.int .i64 (x : Int)) ∧ w = w' := by
  subst hx; exact (rsum_c w s hs).mono fun _ _ h => ⟨h.1, h.2.symm⟩
theorem sum_v (w : World) (s : ByteArray) (x : Nat) (hx : sumOf s = x) (hs : s.size ≤ maxLen) :
    Calls Tryz.prog 18 #[.string s] w fun e w' => e = .returned (.int .u32 (x : Int)) ∧ Below w.heap.size w w' := by
  subst hx; exact sum_c w s hs
theorem inflate_v (w : World) (s : ByteArray) (most : Int) (v : Value) (hv : inflateVal (inflateOf s most) = v) (hm : most ≤ 9223372036854775807) (hs : s.size ≤ 2147483648) (ho : Ord w) (hb : 0 < w.heap.size) :
    Calls Tryz.prog 16 #[.string s, .int .i64 most] w fun e w' => e = .returned v ∧ Below w.heap.size w w' := by
  subst hv; exact inflate_c w s most hm hs ho hb
theorem rinflate_v (w : World) (s : ByteArray) (most : Int) (v : Value) (hv : inflateVal (inflateOf s most) = v) (hs : s.size ≤ 2147483648) :
    Calls Tryz.prog 108 #[.string s, .int .i64 most] w fun e w' => e = .returned v ∧ Below w.heap.size w w' := by
  subst hv; exact (rinflate_c w s most hs).mono fun _ _ h => ⟨h.1, h.2.toBelow (Nat.le_refl _) (fun _ _ e => e)⟩
theorem sumOf_lt (s : ByteArray) : sumOf s < 4294967296 := by
  unfold sumOf; exact Nat.xor_lt_two_pow (n := 32) (by omega) (sumGo_lt _)

set_option maxRecDepth 100000 in
set_option maxHeartbeats 2000000 in
theorem bytes_c (w : World) (K N : Int) (S : ByteArray) (v1 v4 v5 v6 v7 v8 : Value) (hN : N ≤ 9223372036854775807) (hs : S.size ≤ 2147483648) (ho : Ord w) (h0 : 0 < w.heap.size) :
    Calls Tryz.prog 72 #[.agg #[.int .i64 K, v1, .int .i64 N, .string S, v4, v5, v6, v7, v8]] w fun e w' => e = .returned (.bool true) ∧ Below w.heap.size w w' := by
  have hsm : S.size ≤ maxLen := by unfold maxLen; omega
  by_cases hk : K = 1
  · subst hk
    obtain ⟨x, hx⟩ : ∃ x, sumOf S = x := ⟨_, rfl⟩
    have bx := sumOf_lt S
    rw [hx] at bx
    have HX : Hid (sumOf S = x) := hx
    clear hx
    go_enter Tryz.func72, Tryz.ntmps72
    go_wp2_with fail
    refine (sum_v _ S x HX.out hsm).mono ?_
    rintro e w1 ⟨rfl, b1⟩
    have c3 : w1.cell? ⟨w.heap.size, 3, none⟩ = some (.string S) := by
      rw [b1.cell (p := ⟨w.heap.size, 3, none⟩) (by show w.heap.size < _; simp), row_cell (heap_alloc_new w _) 3]; rfl
    have B1 : Below w.heap.size w w1 := ((Below.refl _ w).alloc (Nat.le_refl _) _).trans (b1.mono (by simp))
    go_wp2_with fail
    refine (rsum_v w1 S x HX.out hsm).mono ?_
    rintro e w2 ⟨rfl, rfl⟩
    go_wp2
    go_ret
    exact ⟨rfl, B1⟩
  · have hk' : (K == 1) = false := by simp; exact hk
    obtain ⟨R, hR⟩ : ∃ R, inflateOf S N = R := ⟨_, rfl⟩
    have o1 : Ord (w.alloc (.cells #[.int .i64 K, v1, .int .i64 N, .string S, v4, v5, v6, v7, v8] 86)) := ho.keep ((Touch.refl (fun _ => False) w).alloc _) (fun e => e)
    have z1 : 0 < (w.alloc (.cells #[.int .i64 K, v1, .int .i64 N, .string S, v4, v5, v6, v7, v8] 86)).heap.size := by simp
    cases R with
    | inl k =>
      have hk2 := blocksGo_inl _ _ _ _ _ _ (show blocksGo S (max N 0).toNat (8 * S.size + 1) 0 [] = .inl k from hR)
      have HV : Hid (inflateVal (inflateOf S N) = .tuple #[.string ⟨#[]⟩, .int .i64 0, .int .i64 (k : Int)]) := by unfold Hid; rw [hR]; rfl
      clear hR
      go_enter Tryz.func72, Tryz.ntmps72
      go_wp2_with fail
      refine (inflate_v _ S N _ HV.out hN hs o1 z1).mono ?_
      rintro e w1 ⟨rfl, b1⟩
      have c3 : w1.cell? ⟨w.heap.size, 3, none⟩ = some (.string S) := by
        rw [b1.cell (p := ⟨w.heap.size, 3, none⟩) (by show w.heap.size < _; simp), row_cell (heap_alloc_new w _) 3]; rfl
      have c2 : w1.cell? ⟨w.heap.size, 2, none⟩ = some (.int .i64 N) := by
        rw [b1.cell (p := ⟨w.heap.size, 2, none⟩) (by show w.heap.size < _; simp), row_cell (heap_alloc_new w _) 2]; rfl
      have B1 : Below w.heap.size w w1 := ((Below.refl _ w).alloc (Nat.le_refl _) _).trans (b1.mono (by simp))
      clear b1 o1 z1
      go_wp2_with fail
      refine (rinflate_v w1 S N _ HV.out hs).mono ?_
      rintro e w2 ⟨rfl, b2⟩
      have B2 := bNext B1 b2
      clear c2 c3
      go_wp2_with (go_at_call 109; refine (num_c w2 (k : Int) (by omega) (by omega)).mono ?_; rintro e w3 ⟨rfl, rfl⟩)
      go_ret
      exact ⟨rfl, B2⟩
    | inr oq =>
      obtain ⟨out, q⟩ := oq
      have hq := blocksGo_le _ _ _ _ _ _ _ (show blocksGo S (max N 0).toNat (8 * S.size + 1) 0 [] = .inr (out, q) from hR)
      obtain ⟨t, ht⟩ : ∃ t, t = (q + 7) / 8 := ⟨_, rfl⟩
      obtain ⟨B, hB⟩ : ∃ B : ByteArray, B = ⟨out.toArray⟩ := ⟨_, rfl⟩
      have HV : Hid (inflateVal (inflateOf S N) = .tuple #[.string B, .int .i64 (t : Int), .int .i64 0]) := by unfold Hid; rw [hR, ht, hB]; rfl
      clear hR ht hB hq
      go_enter Tryz.func72, Tryz.ntmps72
      go_wp2_with fail
      refine (inflate_v _ S N _ HV.out hN hs o1 z1).mono ?_
      rintro e w1 ⟨rfl, b1⟩
      have c3 : w1.cell? ⟨w.heap.size, 3, none⟩ = some (.string S) := by
        rw [b1.cell (p := ⟨w.heap.size, 3, none⟩) (by show w.heap.size < _; simp), row_cell (heap_alloc_new w _) 3]; rfl
      have c2 : w1.cell? ⟨w.heap.size, 2, none⟩ = some (.int .i64 N) := by
        rw [b1.cell (p := ⟨w.heap.size, 2, none⟩) (by show w.heap.size < _; simp), row_cell (heap_alloc_new w _) 2]; rfl
      have B1 : Below w.heap.size w w1 := ((Below.refl _ w).alloc (Nat.le_refl _) _).trans (b1.mono (by simp))
      clear b1 o1 z1
      go_wp2_with fail
      refine (rinflate_v w1 S N _ HV.out hs).mono ?_
      rintro e w2 ⟨rfl, b2⟩
      have B2 := bNext B1 b2
      clear c2 c3
      go_wp2_with (go_at_call 109; refine (num_c w2 0 (by omega) (by omega)).mono ?_; rintro e w3 ⟨rfl, rfl⟩)
      go_ret
      exact ⟨rfl, B2⟩

set_option maxRecDepth 100000 in
set_option maxHeartbeats 2000000 in
theorem step_bytes (w : World) (b : Value) (K N : Int) (S : ByteArray) (v1 v4 v5 v6 v7 v8 : Value) (hK : K = 1 ∨ K = 2) (hN : N ≤ 9223372036854775807) (hs : S.size ≤ 2147483648) (ho : Ord w) (h0 : 0 < w.heap.size) :
    Calls Tryz.prog 36 #[b, .agg #[.int .i64 K, v1, .int .i64 N, .string S, v4, v5, v6, v7, v8]] w fun e w' => e = .returned (.bool true) ∧ Below w.heap.size w w' := by
  have o1 : Ord (w.alloc (.cells #[.int .i64 K, v1, .int .i64 N, .string S, v4, v5, v6, v7, v8] 86)) := ho.keep ((Touch.refl (fun _ => False) w).alloc _) (fun e => e)
  have z1 : 0 < (w.alloc (.cells #[.int .i64 K, v1, .int .i64 N, .string S, v4, v5, v6, v7, v8] 86)).heap.size := by simp
  have B1 : Below w.heap.size w (w.alloc (.cells #[.int .i64 K, v1, .int .i64 N, .string S, v4, v5, v6, v7, v8] 86)) := (Below.refl _ w).alloc (Nat.le_refl _) _
  rcases hK with rfl | rfl
  all_goals
    go_enter Tryz.func36, Tryz.ntmps36
    go_wp2_with (go_at_call 72; refine (bytes_c _ _ N S v1 v4 v5 v6 v7 v8 hN hs o1 z1).mono ?_; rintro e w2 ⟨rfl, b2⟩)
    go_ret
    exact ⟨rfl, bNext B1 b2⟩

set_option maxRecDepth 100000 in
set_option maxHeartbeats 2000000 in
theorem kept_none (w : World) (b : Nat) (h1 : w.cell? ⟨b, 1, none⟩ = some (.slice none 0 0)) (h2 : w.cell? ⟨b, 2, none⟩ = some (.slice none 0 0)) (h3 : w.cell? ⟨b, 3, none⟩ = some (.slice none 0 0)) :
    Calls Tryz.prog 37 #[.pointer (some ⟨b, 0, none⟩)] w fun e w' => e = .returned (.bool true) ∧ w = w' := by
  go_enter Tryz.func37, Tryz.ntmps37
  go_wp2
  go_loopw [3] (fun i wr => i = .int .i64 0 ∧ wr = w) (fun _ _ => 0)
  case atStart => exact ⟨rfl, rfl⟩
  case round =>
    obtain ⟨rfl, rfl⟩ := hrel
    go_wp2
    go_loopw [5] (fun i wr' => i = .int .i64 0 ∧ wr' = wr) (fun _ _ => 0)
    case atStart => exact ⟨rfl, rfl⟩
    case round =>
      obtain ⟨rfl, rfl⟩ := hrel
      go_wp2
      go_loopw [7] (fun i wr' => i = .int .i64 0 ∧ wr' = wr) (fun _ _ => 0)
      case atStart => exact ⟨rfl, rfl⟩
      case round =>
        obtain ⟨rfl, rfl⟩ := hrel
        go_wp2
        go_ret
        exact ⟨rfl, rfl⟩
end Go.Proofs.YtobfkhapeejkfaaGreatDoor
