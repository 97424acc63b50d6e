/- The sum of bytes: 'halfByteSums' and 'Sum'. -/
import Derived.Test.YtobfkhapeejkfaaGreatDoorWNew
namespace Go.Proofs.YtobfkhapeejkfaaGreatDoor
open Go.RowKit
set_option linter.unusedSimpArgs false
set_option linter.unusedVariables false

/-- One bit goes out of a sum. -/
def crc1 (x : Nat) : Nat := if x % 2 = 1 then x / 2 ^^^ 3988292384 else x / 2
def crcN : Nat → Nat → Nat
  | 0, x => x
  | k + 1, x => crc1 (crcN k x)
def tab (i : Nat) : Nat := crcN 4 i
theorem crc1_lt (x : Nat) (h : x < 4294967296) : crc1 x < 4294967296 := by
  unfold crc1; split
  · exact Nat.xor_lt_two_pow (n := 32) (by omega) (by omega)
  · omega
theorem crcN_lt (k x : Nat) (h : x < 4294967296) : crcN k x < 4294967296 := by
  induction k with
  | zero => exact h
  | succ k ih => exact crc1_lt _ ih

/-- 16 cells of 32 bits. -/
def uArr (f : Nat → Nat) : Array Value :=
  #[.int .u32 (f 0 : Nat), .int .u32 (f 1 : Nat), .int .u32 (f 2 : Nat), .int .u32 (f 3 : Nat), .int .u32 (f 4 : Nat), .int .u32 (f 5 : Nat), .int .u32 (f 6 : Nat), .int .u32 (f 7 : Nat),
    .int .u32 (f 8 : Nat), .int .u32 (f 9 : Nat), .int .u32 (f 10 : Nat), .int .u32 (f 11 : Nat), .int .u32 (f 12 : Nat), .int .u32 (f 13 : Nat), .int .u32 (f 14 : Nat), .int .u32 (f 15 : Nat)]
theorem uArr_at (f : Nat → Nat) (x : Nat) (h : x < 16) : (uArr f)[x]? = some (.int .u32 (f x : Nat)) := by
  rcases lt16 h with rfl | rfl | rfl | rfl | rfl | rfl | rfl | rfl | rfl | rfl | rfl | rfl | rfl | rfl | rfl | rfl <;> rfl
theorem uArr_set (f : Nat → Nat) (x y : Nat) (h : x < 16) : (uArr f).setIfInBounds x (.int .u32 (y : Nat)) = uArr (upd f x y) := by
  rcases lt16 h with rfl | rfl | rfl | rfl | rfl | rfl | rfl | rfl | rfl | rfl | rfl | rfl | rfl | rfl | rfl | rfl <;> simp [uArr, upd]
theorem uArr_congr {f g : Nat → Nat} (h : ∀ j, j < 16 → f j = g j) : uArr f = uArr g := by
  simp only [uArr, h 0 (by omega), h 1 (by omega), h 2 (by omega), h 3 (by omega), h 4 (by omega), h 5 (by omega), h 6 (by omega), h 7 (by omega), h 8 (by omega), h 9 (by omega), h 10 (by omega), h 11 (by omega), h 12 (by omega), h 13 (by omega), h 14 (by omega), h 15 (by omega)]
theorem uArr_one (f : Nat → Nat) : (uArr f).all (fun x => x.oneCell') = true := by simp [uArr, Value.oneCell']

set_option maxRecDepth 100000 in
set_option maxHeartbeats 1000000 in
theorem half_c (w : World) :
    Calls Tryz.prog 47 #[] w fun e w' => e = .returned (.agg (uArr tab)) ∧ Below w.heap.size w w' := by
  go_enter Tryz.func47, Tryz.ntmps47
  go_wp2
  go_loopw [5] (fun i wr => ∃ k : Nat, k ≤ 16 ∧ i = .int .i64 (k : Int) ∧ wr.heap[w.heap.size]? = some (.cells (uArr (fun _ => 0)) 114 (0, 0)) ∧ wr.heap[w.heap.size + 1]? = some (.cells (uArr (fun j => if j < k then tab j else 0)) 114 (0, 0)) ∧ Below w.heap.size w wr) (fun i _ => 16 - (intOf i).toNat)
  case atStart => exact ⟨0, by omega, rfl, by rw [Below.heap_alloc _ _ _ (by simp)]; exact heap_alloc_new w _, heap_alloc2_new w _ _, ((Below.refl _ w).alloc (Nat.le_refl _) _).alloc (by simp) _⟩
  case round =>
    obtain ⟨k, hk, rfl, r0, r1, hbl⟩ := hrel
    by_cases hlt : k < 16
    · have R0 : Hid (wr.heap[w.heap.size]? = some (.cells (uArr (fun _ => 0)) 114 (0, 0))) := r0
      have R1 : Hid (wr.heap[w.heap.size + 1]? = some (.cells (uArr (fun j => if j < k then tab j else 0)) 114 (0, 0))) := r1
      clear r0 r1
      go_wp2
      go_loop [3, 10] (fun t i => ∃ n : Nat, n ≤ 4 ∧ i = .int .i64 (n : Int) ∧ t = .int .u32 (crcN n k : Nat)) (fun _ i => 4 - (intOf i).toNat)
      case atStart => exact ⟨0, by omega, rfl, by simp [crcN]⟩
      case round =>
        obtain ⟨n, hn, rfl, rfl⟩ := hrel
        have bd := crcN_lt n k (by omega)
        obtain ⟨x, hx⟩ : ∃ x, x = crcN n k := ⟨_, rfl⟩
        have HX : Hid (x = crcN n k) := hx
        rw [← hx] at bd ⊢
        clear hx
        by_cases hn4 : n < 4
        · have a1 : bits BinOp.and IntKind.u32 (x : Int) 1 = ((x % 2 : Nat) : Int) := by
            have := u32_and_nat x 1 bd (by omega)
            rw [Nat.and_one_is_mod] at this; exact this
          have a2 : bits BinOp.xor IntKind.u32 ((x : Int) / 2) 3988292384 = ((x / 2 ^^^ 3988292384 : Nat) : Int) := by
            have := u32_xor_nat (x / 2) 3988292384 (by omega) (by omega)
            have e : ((x : Int) / 2) = ((x / 2 : Nat) : Int) := by omega
            rw [e]; exact this
          by_cases hb : x % 2 = 1
          · go_wp2
            go_round
            case rel => exact ⟨n + 1, by omega, by go_num, by rw [show crcN (n + 1) k = crc1 (crcN n k) from rfl, ← HX.out]; unfold crc1; rw [if_pos hb]⟩
            case measure => simp [intOf]; omega
          · go_wp2
            go_round
            case rel => exact ⟨n + 1, by omega, by go_num, by rw [show crcN (n + 1) k = crc1 (crcN n k) from rfl, ← HX.out]; unfold crc1; rw [if_neg hb]; go_num⟩
            case measure => simp [intOf]; omega
        · obtain rfl : n = 4 := by omega
          have r0 := R0.out
          have r1 := R1.out
          have q1 : wr.cell? ⟨w.heap.size + 1, k, none⟩ = some (.int .u32 0) := by rw [row_cell r1, uArr_at _ _ (by omega), if_neg (by omega)]; rfl
          have q2 := row_fr r1 k
          go_wp2
          go_roundw
          case rel =>
            refine ⟨k + 1, by omega, by go_num, by rw [row_ne (by omega)]; exact r0, ?_, hbl.setCell (by simp) _⟩
            rw [row_set r1, uArr_set _ _ _ hlt]
            congr 2
            refine uArr_congr fun j hj => ?_
            unfold upd
            by_cases e : j = k
            · rw [if_pos e, if_pos (by omega), e, HX.out]; rfl
            · rw [if_neg e]
              show (if j < k then tab j else 0) = _
              by_cases e2 : j < k
              · rw [if_pos e2, if_pos (by omega)]
              · rw [if_neg e2, if_neg (by omega)]
          case measure => simp [intOf]; omega
    · obtain rfl : k = 16 := by omega
      go_wp2_with (first | (refine wpList_load_row rfl 114 (.tmp 1) rfl (w.heap.size + 1) rfl 114 _ (0, 0) _ r1 Tryz.underlying114 rfl (by kernel_rfl) ?_) | (refine wpList_store_row rfl 114 (.tmp 0) (.tmp 25) rfl w.heap.size _ rfl rfl 114 _ r0 (by kernel_rfl) rfl (uArr_one _) ?_))
      refine bodyPost_ret (v := .agg (uArr (fun j => if j < 16 then tab j else 0))) (results_cell_row Tryz.results47 _ _ w.heap.size 114 _ (0, 0) _ rfl (setRow_heap _ _ _ _ _ _ r0) Tryz.underlying114 rfl (by kernel_rfl)) rfl ⟨?_, ?_⟩
      · rw [uArr_congr (g := tab) (fun j hj => by rw [if_pos hj])]
      · exact hbl.trans ⟨rfl, rfl, rfl, by simp, fun k hk => setRow_other _ _ _ _ (by omega)⟩

/-- Four bits go out of a sum. -/
def half1 (y : Nat) : Nat := y / 16 ^^^ tab (y % 16)
def stepB (x : Nat) (c : UInt8) : Nat := half1 (half1 (x ^^^ c.toNat))
def sumGo (l : List UInt8) : Nat := l.foldl stepB 4294967295
def sumOf (s : ByteArray) : Nat := 4294967295 ^^^ sumGo s.data.toList
theorem half1_lt (y : Nat) (h : y < 4294967296) : half1 y < 4294967296 := Nat.xor_lt_two_pow (n := 32) (by omega) (crcN_lt 4 _ (by omega))
theorem stepB_lt (x : Nat) (c : UInt8) (h : x < 4294967296) : stepB x c < 4294967296 := half1_lt _ (half1_lt _ (Nat.xor_lt_two_pow (n := 32) h (by have := c.toNat_lt; omega)))
theorem foldB_lt (l : List UInt8) (x : Nat) (h : x < 4294967296) : l.foldl stepB x < 4294967296 := by
  induction l generalizing x with
  | nil => exact h
  | cons c l ih => exact ih _ (stepB_lt x c h)
theorem sumGo_lt (l : List UInt8) : sumGo l < 4294967296 := foldB_lt l _ (by omega)
theorem take_snoc (s : ByteArray) (k : Nat) (h : k < s.size) : s.data.toList.take (k + 1) = s.data.toList.take k ++ [s[k]] := by
  rw [List.take_succ_eq_append_getElem (by simpa using h)]; rfl
theorem sumGo_snoc (l : List UInt8) (c : UInt8) : sumGo (l ++ [c]) = stepB (sumGo l) c := by simp [sumGo]
theorem u32_15 (y : Nat) (h : y < 4294967296) : bits BinOp.and IntKind.u32 (y : Int) 15 = ((y % 16 : Nat) : Int) := by
  have := u32_and_nat y 15 h (by omega)
  rw [show (15 : Nat) = 2 ^ 4 - 1 from rfl, Nat.and_two_pow_sub_one_eq_mod] at this
  exact this

theorem alloc_setRow2 (w : World) (a b : Array Value) (t : TypeId) : (w.alloc (.cells a t)).setRow w.heap.size b = w.alloc (.cells b t) := by
  simp only [World.setRow, World.alloc]
  congr 1
  apply Array.ext
  · simp
  · intro i h1 h2
    simp only [Array.getElem_modify]
    by_cases e : w.heap.size = i
    · subst e; simp
    · rw [if_neg e]
      simp at h1
      rw [Array.getElem_push_lt (by omega), Array.getElem_push_lt (by omega)]

set_option maxRecDepth 100000 in
set_option maxHeartbeats 1000000 in
theorem sum_c (w : World) (s : ByteArray) (hs : s.size ≤ maxLen) :
    Calls Tryz.prog 18 #[.string s] w fun e w' => e = .returned (.int .u32 (sumOf s : Nat)) ∧ Below w.heap.size w w' := by
  unfold maxLen at hs
  go_enter Tryz.func18, Tryz.ntmps18
  go_wp2_with fail
  refine (half_c w).mono ?_
  rintro e w1 ⟨rfl, b1⟩
  go_wp2_with (refine wpList_store_row rfl 114 (.tmp 3) (.tmp 6) rfl w1.heap.size _ rfl rfl 114 _ (heap_alloc_new w1 _) (by kernel_rfl) rfl (uArr_one _) ?_; rw [alloc_setRow2])
  have r1 := heap_alloc_new w1 (.cells (uArr tab) 114)
  have b2 : Below w.heap.size w (w1.alloc (.cells (uArr tab) 114)) := b1.alloc b1.size _
  obtain ⟨W, hW⟩ : ∃ W, W = w1.alloc (.cells (uArr tab) 114) := ⟨_, rfl⟩
  rw [← hW] at r1 b2 ⊢
  clear hW
  have hcell : ∀ j, j < 16 → W.cell? ⟨w1.heap.size, j, none⟩ = some (.int .u32 (tab j : Nat)) := fun j hj => by rw [row_cell r1, uArr_at _ _ hj]
  clear r1
  go_loop [4, 9] (fun t i => ∃ k : Nat, k ≤ s.size ∧ i = .int .i64 (k : Int) ∧ t = .int .u32 (sumGo (s.data.toList.take k) : Nat)) (fun _ i => s.size - (intOf i).toNat)
  case atStart => exact ⟨0, Nat.zero_le _, rfl, rfl⟩
  case round =>
    obtain ⟨k, hk, rfl, rfl⟩ := hrel
    have bd := sumGo_lt (s.data.toList.take k)
    obtain ⟨x, hx⟩ : ∃ x, x = sumGo (s.data.toList.take k) := ⟨_, rfl⟩
    have HX : Hid (x = sumGo (s.data.toList.take k)) := hx
    rw [← hx] at bd ⊢
    clear hx
    by_cases hlt : k < s.size
    · have hc := s[k].toNat_lt
      obtain ⟨y, hy⟩ : ∃ y, y = x ^^^ s[k].toNat := ⟨_, rfl⟩
      have by1 : y < 4294967296 := by rw [hy]; exact Nat.xor_lt_two_pow (n := 32) bd (by omega)
      have a1 : bits BinOp.xor IntKind.u32 (x : Int) (s[k].toNat : Int) = (y : Int) := by rw [hy]; exact u32_xor_nat x s[k].toNat bd (by omega)
      have a2 := u32_15 y by1
      have t1 := hcell (y % 16) (by omega)
      have tl : tab (y % 16) < 4294967296 := crcN_lt 4 _ (by omega)
      obtain ⟨z, hz⟩ : ∃ z, z = half1 y := ⟨_, rfl⟩
      have bz : z < 4294967296 := by rw [hz]; exact half1_lt y by1
      have a3 : bits BinOp.xor IntKind.u32 ((y : Int) / 16) ((tab (y % 16) : Nat) : Int) = (z : Int) := by
        have e : ((y : Int) / 16) = ((y / 16 : Nat) : Int) := by omega
        rw [e, hz]; exact u32_xor_nat (y / 16) (tab (y % 16)) (by omega) tl
      have a4 := u32_15 z bz
      have t2 := hcell (z % 16) (by omega)
      have tl2 : tab (z % 16) < 4294967296 := crcN_lt 4 _ (by omega)
      obtain ⟨v, hv⟩ : ∃ v, v = half1 z := ⟨_, rfl⟩
      have a5 : bits BinOp.xor IntKind.u32 ((z : Int) / 16) ((tab (z % 16) : Nat) : Int) = (v : Int) := by
        have e : ((z : Int) / 16) = ((z / 16 : Nat) : Int) := by omega
        rw [e, hv]; exact u32_xor_nat (z / 16) (tab (z % 16)) (by omega) tl2
      have m1 : y % 16 < 16 := by omega
      have m2 : z % 16 < 16 := by omega
      have HS : Hid (sumGo (s.data.toList.take (k + 1)) = v) := by
        unfold Hid; rw [take_snoc s k hlt, sumGo_snoc, ← HX.out, hv, hz, hy]; rfl
      clear hy hz hv hcell
      go_wp2
      go_round
      case rel => exact ⟨k + 1, by omega, by go_num, by rw [HS.out]⟩
      case measure => simp [intOf]; omega
    · obtain rfl : k = s.size := by omega
      have a1 : bits BinOp.xor IntKind.u32 IntKind.u32.max (x : Int) = ((4294967295 ^^^ x : Nat) : Int) := u32_xor_nat 4294967295 x (by omega) bd
      have HS : Hid (sumOf s = 4294967295 ^^^ x) := by
        unfold Hid sumOf; rw [HX.out, List.take_of_length_le (by simp)]
      go_wp2
      go_ret
      exact ⟨by rw [HS.out]; simp [a1], b2⟩
end Go.Proofs.YtobfkhapeejkfaaGreatDoor
