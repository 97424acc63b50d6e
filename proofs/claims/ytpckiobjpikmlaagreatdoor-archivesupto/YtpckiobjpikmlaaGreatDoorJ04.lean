/- Texts of this seat, joined. -/
import Derived.Test.YtpckiobjpikmlaaGreatDoorJ02
import Derived.BigRegion
import Derived.Deep.QuietTactic
import Derived.BigQuiet
set_option linter.unusedSimpArgs false
set_option linter.unusedVariables false
set_option maxRecDepth 100000
set_option maxHeartbeats 20000000
namespace Go.Proofs.YtpckiobjpikmlaaGreatDoor
open Go.RowKit
def crc1 (x : Nat) : Nat := if x % 2 = 1 then x / 2 ^^^ 3988292384 else x / 2
def crcN : Nat → Nat → Nat
 | 0, x => x
 | k + 1, x => crc1 (crcN k x)
def tab (i : Nat) : Nat := crcN 4 i
theorem crc1_lt (x : Nat) (h : x < 4294967296) : crc1 x < 4294967296 := by
 unfold crc1; split
 ·exact Nat.xor_lt_two_pow (n := 32) (by omega) (by omega)
 ·omega
theorem crcN_lt (k x : Nat) (h : x < 4294967296) : crcN k x < 4294967296 := by
 induction k with
 | zero => exact h
 | succ k ih => exact crc1_lt _ ih
def uArr (f : Nat → Nat) : Array Value :=
 #[.int .u32 (f 0 : Nat), .int .u32 (f 1 : Nat), .int .u32 (f 2 : Nat), .int .u32 (f 3 : Nat), .int .u32 (f 4 : Nat), .int .u32 (f 5 : Nat), .int .u32 (f 6 : Nat), .int .u32 (f 7 : Nat),
  .int .u32 (f 8 : Nat), .int .u32 (f 9 : Nat), .int .u32 (f 10 : Nat), .int .u32 (f 11 : Nat), .int .u32 (f 12 : Nat), .int .u32 (f 13 : Nat), .int .u32 (f 14 : Nat), .int .u32 (f 15 : Nat)]
theorem uArr_at (f : Nat → Nat) (x : Nat) (h : x < 16) : (uArr f)[x]? = some (.int .u32 (f x : Nat)) := by
 rcases lt16 h with rfl | rfl | rfl | rfl | rfl | rfl | rfl | rfl | rfl | rfl | rfl | rfl | rfl | rfl | rfl | rfl <;> rfl
theorem uArr_set (f : Nat → Nat) (x y : Nat) (h : x < 16) : (uArr f).setIfInBounds x (.int .u32 (y : Nat)) = uArr (upd f x y) := by
 rcases lt16 h with rfl | rfl | rfl | rfl | rfl | rfl | rfl | rfl | rfl | rfl | rfl | rfl | rfl | rfl | rfl | rfl <;> simp [uArr, upd]
theorem uArr_congr {f g : Nat → Nat} (h : ∀ j, j < 16 → f j = g j) : uArr f = uArr g := by
 simp only [uArr, h 0 (by omega), h 1 (by omega), h 2 (by omega), h 3 (by omega), h 4 (by omega), h 5 (by omega), h 6 (by omega), h 7 (by omega), h 8 (by omega), h 9 (by omega), h 10 (by omega), h 11 (by omega), h 12 (by omega), h 13 (by omega), h 14 (by omega), h 15 (by omega)]
theorem uArr_one (f : Nat → Nat) : (uArr f).all (fun x => x.oneCell') = true := by simp [uArr, Value.oneCell']
theorem half_c (w : World) :
  Calls Tryz.prog 83 #[] w fun e w' => e = .returned (.agg (uArr tab)) ∧ Below w.heap.size w w' := by
 go_enter Tryz.func83, Tryz.ntmps83
 go_wp2
 go_loopw [5] (fun i wr => ∃ k : Nat, k ≤ 16 ∧ i = .int .i64 (k : Int) ∧ wr.heap[w.heap.size]? = some (.cells (uArr (fun _ => 0)) 168 (0, 0)) ∧ wr.heap[w.heap.size + 1]? = some (.cells (uArr (fun j => if j < k then tab j else 0)) 168 (0, 0)) ∧ Below w.heap.size w wr) (fun i _ => 16 - (intOf i).toNat)
 case atStart => exact ⟨0, by omega, rfl, by rw [Below.heap_alloc _ _ _ (by simp)]; exact heap_alloc_new w _, heap_alloc2_new w _ _, ((Below.refl _ w).alloc (Nat.le_refl _) _).alloc (by simp) _⟩
 case round =>
  obtain ⟨k, hk, rfl, r0, r1, hbl⟩ := hrel
  by_cases hlt : k < 16
  ·have R0 : Hid (wr.heap[w.heap.size]? = some (.cells (uArr (fun _ => 0)) 168 (0, 0))) := r0
   have R1 : Hid (wr.heap[w.heap.size + 1]? = some (.cells (uArr (fun j => if j < k then tab j else 0)) 168 (0, 0))) := r1
   clear r0 r1
   go_wp2
   go_loop [3, 10] (fun t i => ∃ n : Nat, n ≤ 4 ∧ i = .int .i64 (n : Int) ∧ t = .int .u32 (crcN n k : Nat)) (fun _ i => 4 - (intOf i).toNat)
   case atStart => exact ⟨0, by omega, rfl, by simp [crcN]⟩
   case round =>
    obtain ⟨n, hn, rfl, rfl⟩ := hrel
    have bd := crcN_lt n k (by omega)
    obtain ⟨x, hx⟩ : ∃ x, x = crcN n k := ⟨_, rfl⟩
    have HX : Hid (x = crcN n k) := hx
    rw [← hx] at bd ⊢
    clear hx
    by_cases hn4 : n < 4
    ·have a1 : bits BinOp.and IntKind.u32 (x : Int) 1 = ((x % 2 : Nat) : Int) := by
      have := u32_and_nat x 1 bd (by omega)
      rw [Nat.and_one_is_mod] at this; exact this
     have a2 : bits BinOp.xor IntKind.u32 ((x : Int) / 2) 3988292384 = ((x / 2 ^^^ 3988292384 : Nat) : Int) := by
      have := u32_xor_nat (x / 2) 3988292384 (by omega) (by omega)
      have e : ((x : Int) / 2) = ((x / 2 : Nat) : Int) := by omega
      rw [e]; exact this
     by_cases hb : x % 2 = 1
     ·go_wp2
      go_round
      case rel => exact ⟨n + 1, by omega, by go_num, by rw [show crcN (n + 1) k = crc1 (crcN n k) from rfl, ← HX.out]; unfold crc1; rw [if_pos hb]⟩
      case measure => simp [intOf]; omega
     ·go_wp2
      go_round
      case rel => exact ⟨n + 1, by omega, by go_num, by rw [show crcN (n + 1) k = crc1 (crcN n k) from rfl, ← HX.out]; unfold crc1; rw [if_neg hb]; go_num⟩
      case measure => simp [intOf]; omega
    ·obtain rfl : n = 4 := by omega
     have r0 := R0.out
     have r1 := R1.out
     have q1 : wr.cell? ⟨w.heap.size + 1, k, none⟩ = some (.int .u32 0) := by rw [row_cell r1, uArr_at _ _ (by omega), if_neg (by omega)]; rfl
     have q2 := row_fr r1 k
     go_wp2
     go_roundw
     case rel =>
      refine ⟨k + 1, by omega, by go_num, by rw [row_ne (by omega)]; exact r0, ?_, hbl.setCell (by simp) _⟩
      rw [row_set r1, uArr_set _ _ _ hlt]
      congr 2
      refine uArr_congr fun j hj => ?_
      unfold upd
      by_cases e : j = k
      ·rw [if_pos e, if_pos (by omega), e, HX.out]; rfl
      ·rw [if_neg e]
       show (if j < k then tab j else 0) = _
       by_cases e2 : j < k
       ·rw [if_pos e2, if_pos (by omega)]
       ·rw [if_neg e2, if_neg (by omega)]
     case measure => simp [intOf]; omega
  ·obtain rfl : k = 16 := by omega
   go_wp2_with (first | (refine wpList_load_row rfl 168 (.tmp 1) rfl (w.heap.size + 1) rfl 168 _ (0, 0) _ r1 Tryz.underlying168 rfl (by kernel_rfl) ?_) | (refine wpList_store_row rfl 168 (.tmp 0) (.tmp 25) rfl w.heap.size _ rfl rfl 168 _ r0 (by kernel_rfl) rfl (uArr_one _) ?_))
   refine bodyPost_ret (v := .agg (uArr (fun j => if j < 16 then tab j else 0))) (results_cell_row Tryz.results83 _ _ w.heap.size 168 _ (0, 0) _ rfl (setRow_heap _ _ _ _ _ _ r0) Tryz.underlying168 rfl (by kernel_rfl)) rfl ⟨?_, ?_⟩
   ·rw [uArr_congr (g := tab) (fun j hj => by rw [if_pos hj])]
   ·exact hbl.trans ⟨rfl, rfl, rfl, by simp, fun k hk => setRow_other _ _ _ _ (by omega)⟩
def half1 (y : Nat) : Nat := y / 16 ^^^ tab (y % 16)
def stepB (x : Nat) (c : UInt8) : Nat := half1 (half1 (x ^^^ c.toNat))
def sumGo (l : List UInt8) : Nat := l.foldl stepB 4294967295
def sumOf (s : ByteArray) : Nat := 4294967295 ^^^ sumGo s.data.toList
theorem half1_lt (y : Nat) (h : y < 4294967296) : half1 y < 4294967296 := Nat.xor_lt_two_pow (n := 32) (by omega) (crcN_lt 4 _ (by omega))
theorem stepB_lt (x : Nat) (c : UInt8) (h : x < 4294967296) : stepB x c < 4294967296 := half1_lt _ (half1_lt _ (Nat.xor_lt_two_pow (n := 32) h (by have := c.toNat_lt; omega)))
theorem foldB_lt (l : List UInt8) (x : Nat) (h : x < 4294967296) : l.foldl stepB x < 4294967296 := by
 induction l generalizing x with
 | nil => exact h
 | cons c l ih => exact ih _ (stepB_lt x c h)
theorem sumGo_lt (l : List UInt8) : sumGo l < 4294967296 := foldB_lt l _ (by omega)
theorem take_snoc (s : ByteArray) (k : Nat) (h : k < s.size) : s.data.toList.take (k + 1) = s.data.toList.take k ++ [s[k]] := by
 rw [List.take_succ_eq_append_getElem (by simpa using h)]; rfl
theorem sumGo_snoc (l : List UInt8) (c : UInt8) : sumGo (l ++ [c]) = stepB (sumGo l) c := by simp [sumGo]
theorem u32_15 (y : Nat) (h : y < 4294967296) : bits BinOp.and IntKind.u32 (y : Int) 15 = ((y % 16 : Nat) : Int) := by
 have := u32_and_nat y 15 h (by omega)
 rw [show (15 : Nat) = 2 ^ 4 - 1 from rfl, Nat.and_two_pow_sub_one_eq_mod] at this
 exact this
theorem alloc_setRow2 (w : World) (a b : Array Value) (t : TypeId) : (w.alloc (.cells a t)).setRow w.heap.size b = w.alloc (.cells b t) := by
 simp only [World.setRow, World.alloc]
 congr 1
 apply Array.ext
 ·simp
 ·intro i h1 h2
  simp only [Array.getElem_modify]
  by_cases e : w.heap.size = i
  ·subst e; simp
  ·rw [if_neg e]
   simp at h1
   rw [Array.getElem_push_lt (by omega), Array.getElem_push_lt (by omega)]
theorem sum_c (w : World) (s : ByteArray) (hs : s.size ≤ maxLen) :
  Calls Tryz.prog 42 #[.string s] w fun e w' => e = .returned (.int .u32 (sumOf s : Nat)) ∧ Below w.heap.size w w' := by
 unfold maxLen at hs
 go_enter Tryz.func42, Tryz.ntmps42
 go_wp2_with fail
 refine (half_c w).mono ?_
 rintro e w1 ⟨rfl, b1⟩
 go_wp2_with (refine wpList_store_row rfl 168 (.tmp 3) (.tmp 6) rfl w1.heap.size _ rfl rfl 168 _ (heap_alloc_new w1 _) (by kernel_rfl) rfl (uArr_one _) ?_; rw [alloc_setRow2])
 have r1 := heap_alloc_new w1 (.cells (uArr tab) 168)
 have b2 : Below w.heap.size w (w1.alloc (.cells (uArr tab) 168)) := b1.alloc b1.size _
 obtain ⟨W, hW⟩ : ∃ W, W = w1.alloc (.cells (uArr tab) 168) := ⟨_, rfl⟩
 rw [← hW] at r1 b2 ⊢
 clear hW
 have hcell : ∀ j, j < 16 → W.cell? ⟨w1.heap.size, j, none⟩ = some (.int .u32 (tab j : Nat)) := fun j hj => by rw [row_cell r1, uArr_at _ _ hj]
 clear r1
 go_loop [4, 9] (fun t i => ∃ k : Nat, k ≤ s.size ∧ i = .int .i64 (k : Int) ∧ t = .int .u32 (sumGo (s.data.toList.take k) : Nat)) (fun _ i => s.size - (intOf i).toNat)
 case atStart => exact ⟨0, Nat.zero_le _, rfl, rfl⟩
 case round =>
  obtain ⟨k, hk, rfl, rfl⟩ := hrel
  have bd := sumGo_lt (s.data.toList.take k)
  obtain ⟨x, hx⟩ : ∃ x, x = sumGo (s.data.toList.take k) := ⟨_, rfl⟩
  have HX : Hid (x = sumGo (s.data.toList.take k)) := hx
  rw [← hx] at bd ⊢
  clear hx
  by_cases hlt : k < s.size
  ·have hc := s[k].toNat_lt
   obtain ⟨y, hy⟩ : ∃ y, y = x ^^^ s[k].toNat := ⟨_, rfl⟩
   have by1 : y < 4294967296 := by rw [hy]; exact Nat.xor_lt_two_pow (n := 32) bd (by omega)
   have a1 : bits BinOp.xor IntKind.u32 (x : Int) (s[k].toNat : Int) = (y : Int) := by rw [hy]; exact u32_xor_nat x s[k].toNat bd (by omega)
   have a2 := u32_15 y by1
   have t1 := hcell (y % 16) (by omega)
   have tl : tab (y % 16) < 4294967296 := crcN_lt 4 _ (by omega)
   obtain ⟨z, hz⟩ : ∃ z, z = half1 y := ⟨_, rfl⟩
   have bz : z < 4294967296 := by rw [hz]; exact half1_lt y by1
   have a3 : bits BinOp.xor IntKind.u32 ((y : Int) / 16) ((tab (y % 16) : Nat) : Int) = (z : Int) := by
    have e : ((y : Int) / 16) = ((y / 16 : Nat) : Int) := by omega
    rw [e, hz]; exact u32_xor_nat (y / 16) (tab (y % 16)) (by omega) tl
   have a4 := u32_15 z bz
   have t2 := hcell (z % 16) (by omega)
   have tl2 : tab (z % 16) < 4294967296 := crcN_lt 4 _ (by omega)
   obtain ⟨v, hv⟩ : ∃ v, v = half1 z := ⟨_, rfl⟩
   have a5 : bits BinOp.xor IntKind.u32 ((z : Int) / 16) ((tab (z % 16) : Nat) : Int) = (v : Int) := by
    have e : ((z : Int) / 16) = ((z / 16 : Nat) : Int) := by omega
    rw [e, hv]; exact u32_xor_nat (z / 16) (tab (z % 16)) (by omega) tl2
   have m1 : y % 16 < 16 := by omega
   have m2 : z % 16 < 16 := by omega
   have HS : Hid (sumGo (s.data.toList.take (k + 1)) = v) := by
    unfold Hid; rw [take_snoc s k hlt, sumGo_snoc, ← HX.out, hv, hz, hy]; rfl
   clear hy hz hv hcell
   go_wp2
   go_round
   case rel => exact ⟨k + 1, by omega, by go_num, by rw [HS.out]⟩
   case measure => simp [intOf]; omega
  ·obtain rfl : k = s.size := by omega
   have a1 : bits BinOp.xor IntKind.u32 IntKind.u32.max (x : Int) = ((4294967295 ^^^ x : Nat) : Int) := u32_xor_nat 4294967295 x (by omega) bd
   have HS : Hid (sumOf s = 4294967295 ^^^ x) := by
    unfold Hid sumOf; rw [HX.out, List.take_of_length_le (by simp)]
   go_wp2
   go_ret
   exact ⟨by rw [HS.out]; simp [a1], b2⟩
end Go.Proofs.YtpckiobjpikmlaaGreatDoor
namespace Go.Proofs.YtpckiobjpikmlaaGreatDoor
open Go.RowKit
theorem power_p (w : World) (n P : Nat) (HP : Hid (P = 2 ^ n)) (hn : n ≤ 60) : Calls Tryz.prog 138 #[.int .i64 (n : Int)] w fun e w' => e = .returned (.int .i64 (P : Int)) ∧ w' = w := by
 go_enter Tryz.func138, Tryz.ntmps138
 go_wp2
 go_loop [3, 4] (fun t i => ∃ k x : Nat, k ≤ n ∧ i = .int .i64 (k : Int) ∧ t = .int .i64 (x : Int) ∧ x ≤ 1152921504606846976 ∧ Hid (x = 2 ^ k)) (fun _ i => n - (intOf i).toNat)
 case atStart => exact ⟨0, 1, by omega, rfl, rfl, by omega, rfl⟩
 case round =>
  obtain ⟨k, x, hk, rfl, rfl, hx, HX⟩ := hrel
  by_cases hlt : k < n
  ·have hx2 : 2 * x ≤ 1152921504606846976 := by
    have : 2 ^ (k + 1) ≤ 2 ^ 60 := Nat.pow_le_pow_right (by omega) (by omega)
    rw [Nat.pow_succ, ← HX.out] at this; omega
   go_wp2
   go_round
   case rel => exact ⟨k + 1, 2 * x, by omega, by go_num, by go_num, hx2, by unfold Hid; rw [HX.out, Nat.pow_succ, Nat.mul_comm]⟩
   case measure => simp [intOf]; omega
  ·obtain rfl : k = n := by omega
   obtain rfl : x = P := by rw [HX.out, HP.out]
   go_wp2
   go_ret
   exact ⟨rfl, rfl⟩
theorem i64_xor (a b : Nat) (ha : a < 4294967296) (hb : b < 4294967296) : bits BinOp.xor IntKind.i64 (a : Int) (b : Int) = ((a ^^^ b : Nat) : Int) := by
 have hx : a ^^^ b < 2 ^ 32 := Nat.xor_lt_two_pow (by omega) (by omega)
 have h1 : (BitVec.ofInt 64 (a : Int)).toNat = a := by
  rw [BitVec.ofInt_natCast, BitVec.toNat_ofNat]; exact Nat.mod_eq_of_lt (by omega)
 have h2 : (BitVec.ofInt 64 (b : Int)).toNat = b := by
  rw [BitVec.ofInt_natCast, BitVec.toNat_ofNat]; exact Nat.mod_eq_of_lt (by omega)
 show IntKind.i64.wrap ((BitVec.ofInt 64 (a : Int) ^^^ BitVec.ofInt 64 (b : Int)).toNat : Int) = _
 rw [BitVec.toNat_xor, h1, h2]
 simp [IntKind.wrap, IntKind.bits, IntKind.signed]
 omega
theorem div2_xor (a b : Nat) : (a ^^^ b) / 2 = a / 2 ^^^ b / 2 := by
 have := Nat.shiftRight_xor_distrib (a := a) (b := b) (i := 1)
 simpa [Nat.shiftRight_eq_div_pow] using this
theorem mod2_xor (a b : Nat) : (a ^^^ b) % 2 = a % 2 ^^^ b % 2 := by
 have := Nat.xor_mod_two_pow (a := a) (b := b) (n := 1)
 simpa using this
theorem div16_xor (a b : Nat) : (a ^^^ b) / 16 = a / 16 ^^^ b / 16 := by
 have := Nat.shiftRight_xor_distrib (a := a) (b := b) (i := 4)
 simpa [Nat.shiftRight_eq_div_pow] using this
theorem mod16_xor (a b : Nat) : (a ^^^ b) % 16 = a % 16 ^^^ b % 16 := by
 have := Nat.xor_mod_two_pow (a := a) (b := b) (n := 4)
 simpa using this
theorem crc1_xor (a b : Nat) : crc1 (a ^^^ b) = crc1 a ^^^ crc1 b := by
 unfold crc1
 rw [div2_xor, mod2_xor]
 rcases Nat.mod_two_eq_zero_or_one a with ha | ha <;> rcases Nat.mod_two_eq_zero_or_one b with hb | hb
 ·rw [ha, hb]; simp
 ·rw [ha, hb, if_pos (by decide), if_neg (by decide), if_pos rfl]; ac_rfl
 ·rw [ha, hb, if_pos (by decide), if_pos rfl, if_neg (by decide)]; ac_rfl
 ·rw [ha, hb, if_neg (by decide), if_pos rfl, if_pos rfl]
  have : (a / 2 ^^^ 3988292384) ^^^ (b / 2 ^^^ 3988292384) = (3988292384 ^^^ 3988292384) ^^^ (a / 2 ^^^ b / 2) := by ac_rfl
  rw [this, Nat.xor_self, Nat.zero_xor]
theorem crcN_xor (k a b : Nat) : crcN k (a ^^^ b) = crcN k a ^^^ crcN k b := by
 induction k with
 | zero => rfl
 | succ k ih => simp only [crcN, ih, crc1_xor]
theorem split16 (x : Nat) : x = (16 * (x / 16)) ^^^ (x % 16) := by
 have h1 := div16_xor (16 * (x / 16)) (x % 16)
 have h2 := mod16_xor (16 * (x / 16)) (x % 16)
 rw [show 16 * (x / 16) / 16 = x / 16 by omega, show x % 16 / 16 = 0 by omega, Nat.xor_zero] at h1
 rw [show 16 * (x / 16) % 16 = 0 by omega, show x % 16 % 16 = x % 16 by omega, Nat.zero_xor] at h2
 omega
theorem crc_four (x : Nat) : crcN 4 x = half1 x := by
 unfold half1 tab
 conv => lhs; rw [split16 x, crcN_xor]
 congr 1
 generalize x / 16 = q
 have e : ∀ m, crc1 (2 * m) = m := fun m => by unfold crc1; rw [if_neg (by omega)]; omega
 show crc1 (crc1 (crc1 (crc1 (16 * q)))) = q
 rw [show 16 * q = 2 * (2 * (2 * (2 * q))) by omega, e, e, e, e]
theorem crcN_add (j k x : Nat) : crcN (j + k) x = crcN j (crcN k x) := by
 induction j with
 | zero => simp [crcN]
 | succ j ih => rw [show j + 1 + k = (j + k) + 1 by omega]; simp only [crcN, ih]
theorem crc_eight (x : Nat) (c : UInt8) : crcN 8 (x ^^^ c.toNat) = stepB x c := by
 unfold stepB
 rw [show (8 : Nat) = 4 + 4 from rfl, crcN_add, crc_four, crc_four]
theorem not32 (x : Nat) (h : x < 4294967296) : 4294967295 ^^^ x = 4294967295 - x := by
 have h1 : (BitVec.allOnes 32 ^^^ BitVec.ofNat 32 x).toNat = 4294967295 ^^^ x := by
  rw [BitVec.toNat_xor, BitVec.toNat_ofNat, Nat.mod_eq_of_lt (by omega)]; rfl
 rw [← h1, BitVec.allOnes_xor, BitVec.toNat_not, BitVec.toNat_ofNat, Nat.mod_eq_of_lt (by omega)]
theorem rsum_c (w : World) (s : ByteArray) (hs : s.size ≤ maxLen) :
  Calls Tryz.prog 43 #[.string s] w fun e w' => e = .returned (.int .i64 (sumOf s : Nat)) ∧ w' = w := by
 unfold maxLen at hs
 go_enter Tryz.func43, Tryz.ntmps43
 go_wp2
 go_loop [3, 4] (fun t i => ∃ k : Nat, k ≤ s.size ∧ i = .int .i64 (k : Int) ∧ t = .int .i64 (sumGo (s.data.toList.take k) : Nat)) (fun _ i => s.size - (intOf i).toNat)
 case atStart => exact ⟨0, Nat.zero_le _, rfl, rfl⟩
 case round =>
  obtain ⟨k, hk, rfl, rfl⟩ := hrel
  have bd := sumGo_lt (s.data.toList.take k)
  obtain ⟨x, hx⟩ : ∃ x, x = sumGo (s.data.toList.take k) := ⟨_, rfl⟩
  have HX : Hid (x = sumGo (s.data.toList.take k)) := hx
  rw [← hx] at bd ⊢
  clear hx
  by_cases hlt : k < s.size
  ·have hc := s[k].toNat_lt
   obtain ⟨y, hy⟩ : ∃ y, y = x ^^^ s[k].toNat := ⟨_, rfl⟩
   have by1 : y < 4294967296 := by rw [hy]; exact Nat.xor_lt_two_pow (n := 32) bd (by omega)
   have a1 : bits BinOp.xor IntKind.i64 (x : Int) (s[k].toNat : Int) = (y : Int) := by rw [hy]; exact i64_xor x s[k].toNat bd (by omega)
   have HY : Hid (y = x ^^^ s[k].toNat) := hy
   clear hy
   go_wp2
   go_loop [3, 5] (fun t i => ∃ n : Nat, n ≤ 8 ∧ i = .int .i64 (n : Int) ∧ t = .int .i64 (crcN n y : Nat)) (fun _ i => 8 - (intOf i).toNat)
   case atStart => exact ⟨0, by omega, rfl, rfl⟩
   case round =>
    obtain ⟨n, hn, rfl, rfl⟩ := hrel
    have bn := crcN_lt n y by1
    obtain ⟨z, hz⟩ : ∃ z, z = crcN n y := ⟨_, rfl⟩
    have HZ : Hid (z = crcN n y) := hz
    rw [← hz] at bn ⊢
    clear hz
    by_cases hn8 : n < 8
    ·have a2 : bits BinOp.xor IntKind.i64 ((z : Int) / 2) 3988292384 = ((z / 2 ^^^ 3988292384 : Nat) : Int) := by
      have := i64_xor (z / 2) 3988292384 (by omega) (by omega)
      have e : ((z : Int) / 2) = ((z / 2 : Nat) : Int) := by omega
      rw [e]; exact this
     by_cases hb : z % 2 = 1
     ·go_wp2
      go_round
      case rel => exact ⟨n + 1, by omega, by go_num, by rw [show crcN (n + 1) y = crc1 (crcN n y) from rfl, ← HZ.out]; unfold crc1; rw [if_pos hb]⟩
      case measure => simp [intOf]; omega
     ·go_wp2
      go_round
      case rel => exact ⟨n + 1, by omega, by go_num, by rw [show crcN (n + 1) y = crc1 (crcN n y) from rfl, ← HZ.out]; unfold crc1; rw [if_neg hb]; go_num⟩
      case measure => simp [intOf]; omega
    ·obtain rfl : n = 8 := by omega
     have HS : Hid (sumGo (s.data.toList.take (k + 1)) = z) := by
      unfold Hid; rw [take_snoc s k hlt, sumGo_snoc, ← HX.out, ← crc_eight, ← HY.out, ← HZ.out]
     go_wp2
     go_round
     case rel => exact ⟨k + 1, by omega, by go_num, by rw [HS.out]⟩
     case measure => simp [intOf]; omega
  ·obtain rfl : k = s.size := by omega
   have HS : Hid (sumOf s = 4294967295 - x) := by
    unfold Hid sumOf; rw [HX.out, List.take_of_length_le (by simp), not32 _ (sumGo_lt _)]
   go_wp2
   go_ret
   exact ⟨ret_int (by rw [HS.out]; omega), rfl⟩
theorem fail_c (w : World) (b : Nat) (k : Int) (h4 : w.cell? ⟨b, 4, none⟩ = some (.int .i64 0)) (f4 : w.frozen? ⟨b, 4, none⟩ = false) :
  Calls Tryz.prog 90 #[.pointer (some ⟨b, 0, none⟩), .int .i64 k] w fun e w' => e = .returned (.tuple #[]) ∧ w' = w.setCell ⟨b, 4, none⟩ (.int .i64 k) := by
 go_enter Tryz.func90, Tryz.ntmps90
 go_wp2
 go_end0
 exact ⟨rfl, rfl⟩
structure RB (w : World) (b : Nat) (s : ByteArray) (p : Nat) : Prop where
 c0 : w.cell? ⟨b, 0, none⟩ = some (.string s)
 c1 : w.cell? ⟨b, 1, none⟩ = some (.int .i64 ((min p (8 * s.size) : Nat) : Int))
 c4 : w.cell? ⟨b, 4, none⟩ = some (.int .i64 ((if p ≤ 8 * s.size then 0 else 1 : Nat) : Int))
 fr : ∀ o, w.frozen? ⟨b, o, none⟩ = false
structure BT (b : Nat) (w w' : World) : Prop where
 t : Touch (· = b) w w'
 keep : ∀ o, o ≠ 1 → o ≠ 4 → w'.cell? ⟨b, o, none⟩ = w.cell? ⟨b, o, none⟩
 fr : ∀ o, w'.frozen? ⟨b, o, none⟩ = w.frozen? ⟨b, o, none⟩
theorem BT.refl (b : Nat) (w : World) : BT b w w := ⟨Touch.refl _ _, fun _ _ _ => rfl, fun _ => rfl⟩
theorem BT.trans {b : Nat} {x y z : World} (h : BT b x y) (k : BT b y z) : BT b x z :=
 ⟨h.t.trans k.t, fun o h1 h4 => (k.keep o h1 h4).trans (h.keep o h1 h4), fun o => (k.fr o).trans (h.fr o)⟩
theorem BT.drewN {b : Nat} {x y : World} (h : BT b x y) (n : Nat) : BT b x (y.drewN n) := ⟨h.t.drewN n, h.keep, h.fr⟩
theorem BT.set {b : Nat} {x y : World} (h : BT b x y) (i : Nat) (hi : i = 1 ∨ i = 4) (v : Value) : BT b x (y.setCell ⟨b, i, none⟩ v) :=
 ⟨h.t.setCell rfl v, fun o h1 h4 => (cell_set_ne (by omega)).trans (h.keep o h1 h4), fun o => by rw [World.frozen?_setCell]; exact h.fr o⟩
theorem rbit_over (w : World) (b : Nat) (s : ByteArray) (h4 : w.cell? ⟨b, 4, none⟩ = some (.int .i64 1)) :
  Calls Tryz.prog 84 #[.pointer (some ⟨b, 0, none⟩)] w fun e w' => e = .returned (.int .i64 0) ∧ ∃ n, w' = w.drewN n := by
 go_enter Tryz.func84, Tryz.ntmps84
 go_wp2
 go_quiet (fail)
 go_wp2
 go_ret
 exact ⟨rfl, _, rfl⟩
theorem rbit_end (w : World) (b : Nat) (s : ByteArray) (hs : s.size ≤ 2147483648) (h0 : w.cell? ⟨b, 0, none⟩ = some (.string s)) (h1 : w.cell? ⟨b, 1, none⟩ = some (.int .i64 ((8 * s.size : Nat) : Int))) (h4 : w.cell? ⟨b, 4, none⟩ = some (.int .i64 0)) (f4 : w.frozen? ⟨b, 4, none⟩ = false) :
  Calls Tryz.prog 84 #[.pointer (some ⟨b, 0, none⟩)] w fun e w' => e = .returned (.int .i64 0) ∧ ∃ n, w' = (w.drewN n).setCell ⟨b, 4, none⟩ (.int .i64 1) := by
 go_enter Tryz.func84, Tryz.ntmps84
 go_wp2
 go_quiet (fail)
 go_wp2_with (go_at_call 90; refine (fail_c (w.drewN nq) b 1 h4 f4).mono ?_; rintro e w' ⟨rfl, rfl⟩)
 go_ret
 exact ⟨rfl, _, rfl⟩
theorem rbit_in (w : World) (b : Nat) (s : ByteArray) (p k j : Nat) (hp : p = 8 * k + j) (hj : j < 8) (hk : k < s.size) (hs : s.size ≤ 2147483648) (h0 : w.cell? ⟨b, 0, none⟩ = some (.string s)) (h1 : w.cell? ⟨b, 1, none⟩ = some (.int .i64 (p : Int))) (h4 : w.cell? ⟨b, 4, none⟩ = some (.int .i64 0)) (f1 : w.frozen? ⟨b, 1, none⟩ = false) (v : Nat) (HV : Hid (v = s[k].toNat / 2 ^ j % 2)) :
  Calls Tryz.prog 84 #[.pointer (some ⟨b, 0, none⟩)] w fun e w' => e = .returned (.int .i64 (v : Int)) ∧ ∃ n, w' = (w.drewN n).setCell ⟨b, 1, none⟩ (.int .i64 ((p + 1 : Nat) : Int)) := by
 obtain ⟨P, hP⟩ : ∃ P, P = 2 ^ j := ⟨_, rfl⟩
 have HP : Hid (P = 2 ^ j) := hP
 have P1 : 1 ≤ P := by rw [hP]; exact Nat.one_le_two_pow
 have e1 : (p : Int) / 8 = (k : Int) := by omega
 have e2 : (p : Int) % 8 = (j : Int) := by omega
 have hc := s[k].toNat_lt
 have e3 : (s[k].toNat : Int) / (P : Int) % 2 = (v : Int) := by rw [HV.out, ← hP]; push_cast; rfl
 have vb : v ≤ 1 := by rw [HV.out]; omega
 have lt : ¬ 8 * (s.size : Int) ≤ (p : Int) := by omega
 have pl : p ≤ 17179869184 := by omega
 have HPP : Hid (p = 8 * k + j) := hp
 have kk : (k : Int) < (s.size : Int) := by omega
 have P2 : ¬ (P : Int) = 0 := by omega
 have P3 : ((P : Int) == 0) = false := by simp; omega
 have P4 : (1 : Int) ≤ (P : Int) := by omega
 have k0 : (0 : Int) ≤ (k : Int) := by omega
 have wr1 : ∀ n : Int, 0 ≤ n → n < 4611686018427387904 → IntKind.i64.wrap n = n := by intro n h0 h1; simp [IntKind.wrap, IntKind.bits, IntKind.signed]; omega
 have q1 : IntKind.i64.wrap (k : Int) = (k : Int) := wr1 _ (by omega) (by omega)
 have q0 : IntKind.i64.wrap (s[k].toNat : Int) = (s[k].toNat : Int) := wr1 _ (by omega) (by omega)
 have q2 : IntKind.i64.wrap (j : Int) = (j : Int) := wr1 _ (by omega) (by omega)
 have d0 : (0 : Int) ≤ (s[k].toNat : Int) / (P : Int) := Int.ediv_nonneg (by omega) (by omega)
 have d1 : (s[k].toNat : Int) / (P : Int) ≤ (s[k].toNat : Int) := Int.ediv_le_self _ (by omega)
 have q3 : IntKind.i64.wrap ((s[k].toNat : Int) / (P : Int)) = (s[k].toNat : Int) / (P : Int) := wr1 _ d0 (by omega)
 have q4 : IntKind.i64.wrap (v : Int) = (v : Int) := wr1 _ (by omega) (by omega)
 have q5 : (s[k].toNat : Int).tdiv (P : Int) = (s[k].toNat : Int) / (P : Int) := Int.tdiv_eq_ediv_of_nonneg (by omega)
 have q6 : ((s[k].toNat : Int) / (P : Int)).tmod 2 = (v : Int) := by rw [Int.tmod_eq_emod_of_nonneg d0]; exact e3
 have q7 : (p : Int).tdiv 8 = (k : Int) := by rw [Int.tdiv_eq_ediv_of_nonneg (by omega)]; exact e1
 have q8 : (p : Int).tmod 8 = (j : Int) := by rw [Int.tmod_eq_emod_of_nonneg (by omega)]; exact e2
 clear wr1
 clear hP hp HV
 go_enter Tryz.func84, Tryz.ntmps84
 go_wp2
 go_quiet (fail)
 go_wp2
 go_quiet ((go_at_call 138; exact (power_p _ j P HP (by omega)).mono fun _ _ hh => ⟨hh.1, _, hh.2⟩))
 go_wp2
 go_ret
 exact ⟨rfl, _, by push_cast; rfl⟩
theorem rbit_c (w : World) (b : Nat) (s : ByteArray) (p : Nat) (hs : s.size ≤ 2147483648) (h : RB w b s p) :
  Calls Tryz.prog 84 #[.pointer (some ⟨b, 0, none⟩)] w fun e w' => e = .returned (.int .i64 (bitOf s p : Nat)) ∧ RB w' b s (p + 1) ∧ BT b w w' := by
 obtain ⟨c0, c1, c4, fr⟩ := h
 by_cases h1 : 8 * s.size < p
 ·rw [if_neg (by omega)] at c4
  refine (rbit_over w b s c4).mono ?_
  rintro e w' ⟨rfl, n, rfl⟩
  refine ⟨by rw [bitOf_end s p (by omega)]; rfl, ⟨c0, ?_, ?_, fr⟩, (BT.refl b w).drewN n⟩
  ·rw [show min (p + 1) (8 * s.size) = min p (8 * s.size) by omega]; exact c1
  ·rw [if_neg (by omega)]; exact c4
 ·rw [if_pos (by omega)] at c4
  by_cases h2 : p = 8 * s.size
  ·rw [show min p (8 * s.size) = 8 * s.size by omega] at c1
   refine (rbit_end w b s hs c0 c1 c4 (fr 4)).mono ?_
   rintro e w' ⟨rfl, n, rfl⟩
   refine ⟨by rw [bitOf_end s p (by omega)]; rfl, ⟨?_, ?_, ?_, ?_⟩, ((BT.refl b w).drewN n).set 4 (Or.inr rfl) _⟩
   ·simp [cell_set_if, cell_drewN, c0]
   ·rw [show min (p + 1) (8 * s.size) = 8 * s.size by omega]; simp [cell_set_if, cell_drewN, c1]
   ·rw [if_neg (by omega)]; simp [cell_set_if, cell_drewN, c4]
   ·intro o; rw [World.frozen?_setCell]; exact fr o
  ·rw [show min p (8 * s.size) = p by omega] at c1
   have hk : p / 8 < s.size := by omega
   refine (rbit_in w b s p (p / 8) (p % 8) (by omega) (by omega) hk hs c0 c1 c4 (fr 1) (bitOf s p) (by unfold Hid bitOf; rw [dif_pos hk])).mono ?_
   rintro e w' ⟨rfl, n, rfl⟩
   refine ⟨rfl, ⟨?_, ?_, ?_, ?_⟩, ((BT.refl b w).drewN n).set 1 (Or.inl rfl) _⟩
   ·simp [cell_set_if, cell_drewN, c0]
   ·rw [show min (p + 1) (8 * s.size) = p + 1 by omega]; simp [cell_set_if, cell_drewN, c1]
   ·rw [if_pos (by omega)]; simp [cell_set_if, cell_drewN, c4]
   ·intro o; rw [World.frozen?_setCell]; exact fr o
theorem rbit_v (w : World) (b : Nat) (s : ByteArray) (p v : Nat) (hv : bitOf s p = v) (hs : s.size ≤ 2147483648) (h : RB w b s p) :
  Calls Tryz.prog 84 #[.pointer (some ⟨b, 0, none⟩)] w fun e w' => e = .returned (.int .i64 (v : Int)) ∧ RB w' b s (p + 1) ∧ BT b w w' := by
 subst hv; exact rbit_c w b s p hs h
theorem power_v (w : World) (n P : Nat) (HP : Hid (P = 2 ^ n)) (hn : n ≤ 60) : Calls Tryz.prog 138 #[.int .i64 (n : Int)] w fun e w' => e = .returned (.int .i64 (P : Int)) ∧ w = w' :=
 (power_p w n P HP hn).mono fun _ _ h => ⟨h.1, h.2.symm⟩
theorem rnumber_c (w : World) (b : Nat) (s : ByteArray) (p n : Nat) (hn : n ≤ 16) (hs : s.size ≤ 2147483648) (h : RB w b s p) :
  Calls Tryz.prog 85 #[.pointer (some ⟨b, 0, none⟩), .int .i64 (n : Int)] w fun e w' => e = .returned (.int .i64 (numAt s p n : Nat)) ∧ RB w' b s (p + n) ∧ BT b w w' := by
 go_enter Tryz.func85, Tryz.ntmps85
 go_wp2
 go_loopw [5, 6] (fun t i wr => ∃ k : Nat, k ≤ n ∧ i = .int .i64 (k : Int) ∧ t = .int .i64 (numAt s p k : Nat) ∧ RB wr b s (p + k) ∧ BT b w wr) (fun _ i _ => n - (intOf i).toNat)
 case atStart => exact ⟨0, by omega, rfl, rfl, h, BT.refl _ _⟩
 case round =>
  obtain ⟨k, hk, rfl, rfl, hrb, hbt⟩ := hrel
  by_cases hlt : k < n
  ·obtain ⟨P, hP⟩ : ∃ P, P = 2 ^ k := ⟨_, rfl⟩
   have HP : Hid (P = 2 ^ k) := hP
   have P2 : P ≤ 65536 := by rw [hP]; exact Nat.le_trans (Nat.pow_le_pow_right (by omega) (show k ≤ 16 by omega)) (by decide)
   obtain ⟨x, hx⟩ : ∃ x, x = numAt s p k := ⟨_, rfl⟩
   have bx := numAt_lt s p k
   rw [← hx, ← hP] at bx
   obtain ⟨v, hv⟩ : ∃ v, v = bitOf s (p + k) := ⟨_, rfl⟩
   have bv := bitOf_lt s (p + k)
   rw [← hv] at bv
   obtain ⟨z, hz⟩ : ∃ z, z = v * P := ⟨_, rfl⟩
   have bz : z ≤ 65536 := by rw [hz]; have : v * P ≤ 1 * P := Nat.mul_le_mul_right _ (by omega); omega
   have e1 : (v : Int) * (P : Int) = (z : Int) := by rw [hz]; push_cast; rfl
   have HN : Hid (numAt s p (k + 1) = x + z) := by unfold Hid; rw [hz, hx, hv, hP]; rfl
   have HV : Hid (bitOf s (p + k) = v) := hv.symm
   rw [← hx]
   clear hP hx hv hz
   go_wp2_with (first | (go_at_call 84; refine (rbit_v _ b s (p + k) v HV.out hs hrb).mono ?_; rintro e w1 ⟨rfl, r1, t1⟩) | (go_at_call 138; refine (power_v _ k P HP (by omega)).mono ?_; rintro e w2 ⟨rfl, rfl⟩))
   go_roundw
   case rel => exact ⟨k + 1, by omega, by go_num, by rw [HN.out]; go_num, r1, hbt.trans t1⟩
   case measure => simp [intOf]; omega
  ·obtain rfl : k = n := by omega
   go_wp2
   go_ret
   exact ⟨by simp, hrb, hbt⟩
end Go.Proofs.YtpckiobjpikmlaaGreatDoor
namespace Go.Proofs.YtpckiobjpikmlaaGreatDoor
open Go.RowKit
def byteAt (s : ByteArray) (i : Nat) : Nat := if h : i < s.size then s[i].toNat else 0
def leAt (s : ByteArray) (a : Nat) : Nat → Nat
 | 0 => 0
 | m + 1 => byteAt s a + 256 * leAt s (a + 1) m
theorem byteAt_lt (s : ByteArray) (i : Nat) : byteAt s i < 256 := by
 unfold byteAt; split
 ·exact s[i].toNat_lt
 ·omega
theorem leAt_lt (s : ByteArray) : ∀ (m a : Nat), leAt s a m < 256 ^ m
 | 0, a => by simp [leAt]
 | m + 1, a => by
  have := leAt_lt s m (a + 1)
  have := byteAt_lt s a
  simp only [leAt, Nat.pow_succ]; omega
theorem leAt_ge (s : ByteArray) : ∀ (k a m : Nat), k ≤ m → leAt s (a + k) (m - k) * 256 ^ k ≤ leAt s a m
 | 0, a, m, _ => by simp
 | k + 1, a, m, h => by
  obtain ⟨m', rfl⟩ : ∃ m', m = m' + 1 := ⟨m - 1, by omega⟩
  have ih := leAt_ge s k (a + 1) m' (by omega)
  rw [show a + (k + 1) = a + 1 + k by omega, show m' + 1 - (k + 1) = m' - k by omega, Nat.pow_succ, ← Nat.mul_assoc]
  simp only [leAt]
  have : leAt s (a + 1 + k) (m' - k) * 256 ^ k * 256 ≤ leAt s (a + 1) m' * 256 := Nat.mul_le_mul_right _ ih
  omega
def numIn (s : ByteArray) (a n : Nat) : Nat := min (leAt s a n) 9223372036854775807
theorem rnum_none (w : World) (s : ByteArray) (A N : Int) (hs : s.size ≤ 140737488355328) (h : A < 0 ∨ (s.size : Int) < A + N) (hA : -4611686018427387904 ≤ A ∧ A ≤ 4611686018427387904) (hN : 0 ≤ N ∧ N ≤ 8) :
  Calls Tryz.prog 145 #[.string s, .int .i64 A, .int .i64 N] w fun e w' => e = .returned (.int .i64 (-1)) ∧ w = w' := by
 by_cases h1 : A < 0
 ·go_enter Tryz.func145, Tryz.ntmps145
  go_wp2
  go_ret
  exact ⟨rfl, rfl⟩
 ·have h2 : (s.size : Int) < A + N := by omega
  go_enter Tryz.func145, Tryz.ntmps145
  go_wp2
  go_ret
  exact ⟨rfl, rfl⟩
theorem rnum_some (w : World) (s : ByteArray) (a n : Nat) (A N : Int) (hA : A = (a : Int)) (hN : N = (n : Int)) (hs : s.size ≤ 140737488355328) (h : a + n ≤ s.size) (hn : n ≤ 8) (h1 : 1 ≤ n) :
  Calls Tryz.prog 145 #[.string s, .int .i64 A, .int .i64 N] w fun e w' => e = .returned (.int .i64 (numIn s a n : Nat)) ∧ w = w' := by
 subst hA hN
 have a1 : ¬ (a : Int) < 0 := by omega
 have a2 : ¬ (s.size : Int) < (a : Int) + (n : Int) := by omega
 have a3 : ¬ (s.size : Int) < (a : Int) := by omega
 obtain ⟨V, hV⟩ : ∃ V, V = numIn s a n := ⟨_, rfl⟩
 have HV : Hid (V = numIn s a n) := hV
 rw [← hV]
 clear hV
 go_enter Tryz.func145, Tryz.ntmps145
 go_wp2
 go_loop [7, 8] (fun t i => ∃ k x : Nat, k ≤ n ∧ i = .int .i64 ((k : Int) - 1) ∧ t = .int .i64 (x : Int) ∧ x ≤ 9223372036854775807 ∧ Hid (x = leAt s (a + k) (n - k))) (fun _ i => (intOf i + 1).toNat)
 case atStart => exact ⟨n, 0, Nat.le_refl _, rfl, rfl, by omega, by unfold Hid; rw [Nat.sub_self]; rfl⟩
 case round =>
  obtain ⟨k, x, hk, rfl, rfl, hx, HX⟩ := hrel
  by_cases hk0 : k = 0
  ·subst hk0
   have HE : Hid (V = x) := by unfold Hid; rw [HV.out]; unfold numIn; have := HX.out; simp at this; rw [← this]; omega
   go_wp2
   go_ret
   exact ⟨by rw [HE.out]; rfl, rfl⟩
  ·obtain ⟨i, rfl⟩ : ∃ i, k = i + 1 := ⟨k - 1, by omega⟩
   have ei : ((i + 1 : Nat) : Int) - 1 = (i : Int) := by omega
   rw [ei]
   have hi : a + i < s.size := by omega
   have c := s[a + i].toNat_lt
   have HC : Hid (byteAt s (a + i) = s[a + i].toNat) := by unfold Hid byteAt; rw [dif_pos hi]
   have HL : Hid (leAt s (a + i) (n - i) = byteAt s (a + i) + 256 * x) := by
    unfold Hid; rw [show n - i = (n - (i + 1)) + 1 by omega]; simp only [leAt]; rw [HX.out]; rfl
   have i0 : (0 : Int) ≤ (i : Int) := by omega
   have ai : (a : Int) + (i : Int) < (s.size : Int) := by omega
   have ain : ((a : Int) + (i : Int)).toNat = a + i := by omega
   clear ei
   have ge := leAt_ge s (i + 1) a n hk
   rw [← HX.out] at ge
   have step : ∀ (h' : 256 * x + s[a + i].toNat ≤ 9223372036854775807), ∃ k' x' : Nat, k' ≤ n ∧ (Value.int IntKind.i64 ((i : Int) - 1)) = .int .i64 ((k' : Int) - 1) ∧ Value.int IntKind.i64 (256 * (x : Int) + (s[a + i].toNat : Int)) = .int .i64 (x' : Int) ∧ x' ≤ 9223372036854775807 ∧ Hid (x' = leAt s (a + k') (n - k')) := fun h' =>
    ⟨i, 256 * x + s[a + i].toNat, by omega, rfl, by push_cast; rfl, h', by unfold Hid; rw [HL.out, HC.out]; omega⟩
   have HST : Hid (∀ (h' : 256 * x + s[a + i].toNat ≤ 9223372036854775807), ∃ k' x' : Nat, k' ≤ n ∧ (Value.int IntKind.i64 ((i : Int) - 1)) = .int .i64 ((k' : Int) - 1) ∧ Value.int IntKind.i64 (256 * (x : Int) + (s[a + i].toNat : Int)) = .int .i64 (x' : Int) ∧ x' ≤ 9223372036854775807 ∧ Hid (x' = leAt s (a + k') (n - k'))) := step
   clear step
   by_cases big : 36028797018963967 < x
   ·have HE : Hid (V = 9223372036854775807) := by
     unfold Hid; rw [HV.out]; unfold numIn
     have p1 : 256 ^ 1 ≤ 256 ^ (i + 1) := Nat.pow_le_pow_right (by omega) (by omega)
     have p2 : x * 256 ^ 1 ≤ x * 256 ^ (i + 1) := Nat.mul_le_mul_left _ p1
     rw [Nat.min_eq_right]; omega
    clear ge
    have bi : (36028797018963967 : Int) < (x : Int) := by omega
    go_wp2
    go_ret
    exact ⟨by rw [HE.out]; rfl, rfl⟩
   ·have bi : ¬ (36028797018963967 : Int) < (x : Int) := by omega
    clear ge
    by_cases i00 : i = 0
    ·have i0b : ((i : Int) == 0) = true := by simp; omega
     have i0i : (i : Int) = 0 := by omega
     have d0 : (0 : Int) ≤ 9223372036854775807 - (s[a + i].toNat : Int) := by omega
     have dv : ((9223372036854775807 : Int) - (s[a + i].toNat : Int)).tdiv 256 = ((9223372036854775807 : Int) - (s[a + i].toNat : Int)) / 256 := Int.tdiv_eq_ediv_of_nonneg d0
     have e := HL.out
     rw [HC.out] at e
     have e0 : leAt s (a + i) (n - i) = leAt s a n := by rw [i00]; rfl
     rw [e0] at e
     by_cases top : (9223372036854775807 - s[a + i].toNat) / 256 < x
     ·exfalso; omega
     ·have ti : ¬ ((9223372036854775807 : Int) - (s[a + i].toNat : Int)) / 256 < (x : Int) := by omega
      have le : 256 * x + s[a + i].toNat ≤ 9223372036854775807 := by omega
      have r := HST.out le
      have HR : Hid (∃ k' x' : Nat, k' ≤ n ∧ (Value.int IntKind.i64 ((i : Int) - 1)) = .int .i64 ((k' : Int) - 1) ∧ Value.int IntKind.i64 (256 * (x : Int) + (s[a + i].toNat : Int)) = .int .i64 (x' : Int) ∧ x' ≤ 9223372036854775807 ∧ Hid (x' = leAt s (a + k') (n - k'))) := r
      clear r HST HL HC e e0 i00 i0i
      go_wp2
      exact ⟨HR.out, by simp [intOf]⟩
    ·have i0b : ((i : Int) == 0) = false := by simp; omega
     have le : 256 * x + s[a + i].toNat ≤ 9223372036854775807 := by omega
     have r := HST.out le
     have HR : Hid (∃ k' x' : Nat, k' ≤ n ∧ (Value.int IntKind.i64 ((i : Int) - 1)) = .int .i64 ((k' : Int) - 1) ∧ Value.int IntKind.i64 (256 * (x : Int) + (s[a + i].toNat : Int)) = .int .i64 (x' : Int) ∧ x' ≤ 9223372036854775807 ∧ Hid (x' = leAt s (a + k') (n - k'))) := r
     clear r HST HL HC
     go_wp2
     exact ⟨HR.out, by simp [intOf]⟩
end Go.Proofs.YtpckiobjpikmlaaGreatDoor
