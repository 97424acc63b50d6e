/- Texts of this seat, joined. -/
import Derived.Test.YtnmkmmgaoplfiaaGreatDoorJ19
import Derived.Test.YtnmkmmgaoplfiaaGreatDoorJ04
set_option linter.unusedSimpArgs false
set_option linter.unusedVariables false
set_option maxRecDepth 100000
set_option maxHeartbeats 20000000
namespace Go.Proofs.YtnmkmmgaoplfiaaGreatDoor
open Go.RowKit
theorem ex_sum : sumOf ⟨#[49, 50, 51, 52, 53, 54, 55, 56, 57]⟩ = 3421780262 := by decide +kernel
theorem ex_inf1 : inflateOf ⟨#[3, 0]⟩ 0 = .inr ([], 10) := by decide +kernel
theorem ex_inf2 : inflateOf ⟨#[1, 2, 0, 253, 255, 97, 98, 120]⟩ 2 = .inr ([97, 98], 56) := by decide +kernel
theorem ex_inf3 : inflateOf ⟨#[75, 4, 0]⟩ 5 = .inr ([97], 18) := by decide +kernel
theorem Ord.below {w w' : World} (h : Ord w) (hb : Below w.heap.size w w') (h0 : 0 < w.heap.size) : Ord w' := fun j hj => (hb.cell (p := ⟨0, j, none⟩) h0).trans (h j hj)
theorem inflate_e (w : World) (s : ByteArray) (most : Int) (out : List UInt8) (q : Nat) (B : ByteArray) (T : Int) (hR : inflateOf s most = .inr (out, q)) (hB : B = ⟨out.toArray⟩) (hT : T = (((q + 7) / 8 : Nat) : Int)) (hm : most ≤ 9223372036854775807) (hs : s.size ≤ 2147483648) (ho : Ord w) (hb : 0 < w.heap.size) :
  Calls Tryz.prog 15 #[.string s, .int .i64 most] w fun e w' => e = .returned (.tuple #[.string B, .int .i64 T, .int .i64 0]) ∧ Below w.heap.size w w' := by
 subst hB hT
 refine (inflate_c w s most hm hs ho hb).mono ?_
 rintro e w' ⟨rfl, hb⟩
 rw [hR]; exact ⟨rfl, hb⟩
theorem sum_e (w : World) (s : ByteArray) (V : Int) (hV : V = ((sumOf s : Nat) : Int)) (hs : s.size ≤ maxLen) :
  Calls Tryz.prog 13 #[.string s] w fun e w' => e = .returned (.int .u32 V) ∧ Below w.heap.size w w' := by
 subst hV; exact sum_c w s hs
theorem bNext {x y z : World} (h : Below x.heap.size x y) (k : Below y.heap.size y z) : Below x.heap.size x z := h.trans (k.mono h.size)
end Go.Proofs.YtnmkmmgaoplfiaaGreatDoor
namespace Go.Proofs.YtnmkmmgaoplfiaaGreatDoor
open Go.RowKit
def lowL (x n : Nat) : List UInt8 := (List.range n).map fun i => UInt8.ofNat (x / 256 ^ i % 256)
theorem lowL_snoc (x n : Nat) : lowL x (n + 1) = lowL x n ++ [UInt8.ofNat (x / 256 ^ n % 256)] := by simp [lowL, List.range_succ]
theorem lowL_len (x n : Nat) : (lowL x n).length = n := by simp [lowL]
theorem low_c (w : World) (x n : Nat) (hx : x ≤ 4294967296) (hn : n ≤ 100) :
  Calls Tryz.prog 16 #[.int .i64 (x : Int), .int .i64 (n : Int)] w fun e w' => e = .returned (.string ⟨(lowL x n).toArray⟩) ∧ Below w.heap.size w w' := by
 obtain ⟨i0, hi, hz0, hz1, hz2⟩ := info_parts Tryz.infoByte
 go_enter Tryz.func16, Tryz.ntmps16
 go_wp2
 go_loopw [0, 5, 6] (fun y v i wr => ∃ k m : Nat, k ≤ n ∧ i = .int .i64 (k : Int) ∧ y = .int .i64 (m : Int) ∧ m ≤ 4294967296 ∧ Hid (m = x / 256 ^ k) ∧ wr.ownsRow w.heap.size 5 1 v k (byteV (lowL x k)) ∧ Below w.heap.size w wr) (fun _ _ i _ => n - (intOf i).toNat)
 case atStart => exact ⟨0, x, by omega, rfl, rfl, hx, by unfold Hid; simp, World.ownsRow_nil _ _ _ _, Below.refl _ _⟩
 case round =>
  obtain ⟨k, m, hk, rfl, rfl, hm, HM, hown, hbl⟩ := hrel
  have hsz := hbl.size
  by_cases hlt : k < n
  ·have c3 : k + 1 ≤ maxLen := by unfold maxLen; omega
   have c4 : (k + 1) * 1 ≤ 140737488355328 := by omega
   have hbs : ∀ o, w.heap.size ≤ (wr.alloc o).heap.size := by intro o; rw [World.size_alloc]; omega
   go_wp2_with (at_builtin; refine wpList_append_own _ rfl _ _ 86 rfl w.heap.size 5 i0 (.int .u8 0) 1 1 Tryz.underlying86 hi hz0 hz1 hz2 rfl (by decide) _ _ _ rfl (hown.alloc _) ⟨_, 0, none⟩ 1 1 [_] rfl rfl (cell_one_new _ _ _) (by simp [Value.oneCell']) c3 c4 (hbs _) ?_; intro v' w1 hown' hgrow _)
   go_roundw
   case rel =>
    refine ⟨k + 1, m / 256, by omega, by go_num, by go_num, by omega, ?_, ?_, (hbl.alloc hsz _).grown hgrow (hbs _) ?_⟩
    ·unfold Hid; rw [HM.out, Nat.pow_succ, Nat.div_div_eq_div_mul]
    ·rw [lowL_snoc, byteV_app, ← HM.out]
     have e : byteV [UInt8.ofNat (m % 256)] = [Value.int .u8 ((m : Int) % 256)] := by
      simp only [byteV, List.map_cons, List.map_nil]
      have := byte_of (m % 256) (by omega)
      rw [← this]
      simp
     rw [e]
     exact hown'
    ·intro j hj; exact (hown.lt j hj).1
   case measure => simp [intOf]; omega
  ·obtain rfl : k = n := by omega
   obtain ⟨ao, cap, hv⟩ := owned_form hown
   subst hv
   have cv := out_str (base := w.heap.size) hown (lowL_len x k).symm
   go_wp2
   go_ret
   exact ⟨rfl, hbl⟩
end Go.Proofs.YtnmkmmgaoplfiaaGreatDoor
