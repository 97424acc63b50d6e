/- The document's examples, as the statements of cratekeep ask them: 'awake'. -/
import Derived.Test.YtfbdjbifpplmmaaDoorWEx
namespace Go.Proofs.YtfbdjbifpplmmaaDoor
open Go.RowKit
set_option linter.unusedSimpArgs false
set_option linter.unusedVariables false

/-- A number's n lowest bytes, the lowest first. -/
def lowL (x n : Nat) : List UInt8 := (List.range n).map fun i => UInt8.ofNat (x / 256 ^ i % 256)
theorem lowL_snoc (x n : Nat) : lowL x (n + 1) = lowL x n ++ [UInt8.ofNat (x / 256 ^ n % 256)] := by simp [lowL, List.range_succ]
theorem lowL_len (x n : Nat) : (lowL x n).length = n := by simp [lowL]

set_option maxRecDepth 100000 in
set_option maxHeartbeats 1000000 in
theorem low_c (w : World) (x n : Nat) (hx : x ≤ 4294967296) (hn : n ≤ 100) :
    Calls Tryd.prog 16 #[.int .i64 (x : Int), .int .i64 (n : Int)] w fun e w' => e = .returned (.string ⟨(lowL x n).toArray⟩) ∧ Below w.heap.size w w' := by
  obtain ⟨i0, hi, hz0, hz1, hz2⟩ := info_parts Tryd.infoByte
  go_enter Tryd.func16, Tryd.ntmps16
  go_wp2
  go_loopw [0, 5, 6] (fun y v i wr => ∃ k m : Nat, k ≤ n ∧ i = .int .i64 (k : Int) ∧ y = .int .i64 (m : Int) ∧ m ≤ 4294967296 ∧ Hid (m = x / 256 ^ k) ∧ wr.ownsRow w.heap.size 5 1 v k (byteV (lowL x k)) ∧ Below w.heap.size w wr) (fun _ _ i _ => n - (intOf i).toNat)
  case atStart => exact ⟨0, x, by omega, rfl, rfl, hx, by unfold Hid; simp, World.ownsRow_nil _ _ _ _, Below.refl _ _⟩
  case round =>
    obtain ⟨k, m, hk, rfl, rfl, hm, HM, hown, hbl⟩ := hrel
    have hsz := hbl.size
    by_cases hlt : k < n
    · have c3 : k + 1 ≤ maxLen := by unfold maxLen; omega
      have c4 : (k + 1) * 1 ≤ 140737488355328 := by omega
      have hbs : ∀ o, w.heap.size ≤ (wr.alloc o).heap.size := by intro o; rw [World.size_alloc]; omega
      go_wp2_with (at_builtin; refine wpList_append_own _ rfl _ _ 34 rfl w.heap.size 5 i0 (.int .u8 0) 1 1 Tryd.underlying34 hi hz0 hz1 hz2 rfl (by decide) _ _ _ rfl (hown.alloc _) ⟨_, 0, none⟩ 1 1 [_] rfl rfl (cell_one_new _ _ _) (by simp [Value.oneCell']) c3 c4 (hbs _) ?_; intro v' w1 hown' hgrow _)
      go_roundw
      case rel =>
        refine ⟨k + 1, m / 256, by omega, by go_num, by go_num, by omega, ?_, ?_, (hbl.alloc hsz _).grown hgrow (hbs _) ?_⟩
        · unfold Hid; rw [HM.out, Nat.pow_succ, Nat.div_div_eq_div_mul]
        · rw [lowL_snoc, byteV_app, ← HM.out]
          have e : byteV [UInt8.ofNat (m % 256)] = [Value.int .u8 ((m : Int) % 256)] := by
            simp only [byteV, List.map_cons, List.map_nil]
            have := byte_of (m % 256) (by omega)
            rw [← this]
            simp
          rw [e]
          exact hown'
        · intro j hj; exact (hown.lt j hj).1
      case measure => simp [intOf]; omega
    · obtain rfl : k = n := by omega
      obtain ⟨ao, cap, hv⟩ := owned_form hown
      subst hv
      have cv := out_str (base := w.heap.size) hown (lowL_len x k).symm
      go_wp2
      go_ret
      exact ⟨rfl, hbl⟩

theorem list_c (w : World) (s : ByteArray) (q : Value) (a b c : Int) (hq : q = .agg #[.int .i64 a, .int .i64 b, .int .i64 c]) :
    Calls Tryd.prog 12 #[.string s, q] w fun e w' => e = .returned (.tuple #[.slice none 0 0, .int .i64 0]) ∧ Below w.heap.size w w' := by
  subst hq
  go_enter Tryd.func12, Tryd.ntmps12
  go_wp2
  go_ret2
  exact ⟨rfl, (Below.refl _ _).alloc (Nat.le_refl _) _⟩
theorem newStore_c (w : World) : Calls Tryd.prog 17 #[] w fun e w' => ∃ b, e = .returned (.pointer (some ⟨b, 0, none⟩)) ∧ Below w.heap.size w w' := by
  go_enter Tryd.func17, Tryd.ntmps17
  go_wp2
  go_ret
  exact ⟨_, rfl, (Below.refl _ _).alloc (Nat.le_refl _) _⟩
set_option maxRecDepth 100000 in
set_option maxHeartbeats 1000000 in
theorem awake_c (w : World) (ho : Ord w) (h0 : 0 < w.heap.size) :
    Calls Tryd.prog 7 #[] w fun e w' => e = .returned (.bool true) ∧ Below w.heap.size w w' := by
  go_enter Tryd.func7, Tryd.ntmps7
  go_wp2_with fail
  refine (sum_e w _ 3421780262 (by rw [ex_sum]; rfl) (by unfold maxLen; decide)).mono ?_
  rintro e w1 ⟨rfl, b1⟩
  have o1 := ho.below b1 h0
  have s1 := b1.size
  go_wp2_with fail
  refine (inflate_e w1 _ 0 [] 10 ⟨#[]⟩ 2 ex_inf1 rfl rfl (by omega) (by decide) o1 (by omega)).mono ?_
  rintro e w2 ⟨rfl, b2⟩
  have o2 := o1.below b2 (by omega)
  have s2 := b2.size
  go_wp2_with fail
  refine (inflate_e w2 _ 2 [97, 98] 56 ⟨#[97, 98]⟩ 7 ex_inf2 rfl rfl (by omega) (by decide) o2 (by omega)).mono ?_
  rintro e w3 ⟨rfl, b3⟩
  have o3 := o2.below b3 (by omega)
  have s3 := b3.size
  go_wp2_with fail
  refine (inflate_e w3 _ 5 [97] 18 ⟨#[97]⟩ 3 ex_inf3 rfl rfl (by omega) (by decide) o3 (by omega)).mono ?_
  rintro e w4 ⟨rfl, b4⟩
  have B4 := bNext (bNext (bNext b1 b2) b3) b4
  clear o1 o2 o3 b1 b2 b3 b4 s1 s2 s3
  go_wp2_with fail
  refine (low_c w4 0 18 (by omega) (by omega)).mono ?_
  rintro e w5 ⟨rfl, b5⟩
  have B5 := bNext B4 b5
  clear B4 b5
  go_wp2_with fail
  refine (list_c w5 _ _ 0 0 0 rfl).mono ?_
  rintro e w6 ⟨rfl, b6⟩
  have B6 := bNext B5 b6
  clear B5 b6
  go_wp2_with fail
  refine (newStore_c w6).mono ?_
  rintro e w7 ⟨nb, rfl, b7⟩
  have B7 := bNext B6 b7
  clear B6 b7
  go_wp2
  go_ret
  exact ⟨rfl, B7⟩
end Go.Proofs.YtfbdjbifpplmmaaDoor
