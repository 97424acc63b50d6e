/- Texts of this seat, joined. -/
import Derived.Test.YtnmkmmgaoplfiaaGreatDoorJ02
import Derived.BigRegion
import Derived.Deep.QuietTactic
import Derived.BigQuiet
set_option linter.unusedSimpArgs false
set_option linter.unusedVariables false
set_option maxRecDepth 100000
set_option maxHeartbeats 20000000
namespace Go.Proofs.YtnmkmmgaoplfiaaGreatDoor
open Go.RowKit
def crc1 (x : Nat) : Nat := if x % 2 = 1 then x / 2 ^^^ 3988292384 else x / 2
def crcN : Nat → Nat → Nat
 | 0, x => x
 | k + 1, x => crc1 (crcN k x)
def tab (i : Nat) : Nat := crcN 4 i
theorem crc1_lt (x : Nat) (h : x < 4294967296) : crc1 x < 4294967296 := by
 unfold crc1; split
 ·exact Nat.xor_lt_two_pow (n := 32) (by omega) (by omega)
 ·omega
theorem crcN_lt (k x : Nat) (h : x < 4294967296) : crcN k x < 4294967296 := by
 induction k with
 | zero => exact h
 | succ k ih => exact crc1_lt _ ih
def uArr (f : Nat → Nat) : Array Value :=
 #[.int .u32 (f 0 : Nat), .int .u32 (f 1 : Nat), .int .u32 (f 2 : Nat), .int .u32 (f 3 : Nat), .int .u32 (f 4 : Nat), .int .u32 (f 5 : Nat), .int .u32 (f 6 : Nat), .int .u32 (f 7 : Nat),
  .int .u32 (f 8 : Nat), .int .u32 (f 9 : Nat), .int .u32 (f 10 : Nat), .int .u32 (f 11 : Nat), .int .u32 (f 12 : Nat), .int .u32 (f 13 : Nat), .int .u32 (f 14 : Nat), .int .u32 (f 15 : Nat)]
theorem uArr_at (f : Nat → Nat) (x : Nat) (h : x < 16) : (uArr f)[x]? = some (.int .u32 (f x : Nat)) := by
 rcases lt16 h with rfl | rfl | rfl | rfl | rfl | rfl | rfl | rfl | rfl | rfl | rfl | rfl | rfl | rfl | rfl | rfl <;> rfl
theorem uArr_set (f : Nat → Nat) (x y : Nat) (h : x < 16) : (uArr f).setIfInBounds x (.int .u32 (y : Nat)) = uArr (upd f x y) := by
 rcases lt16 h with rfl | rfl | rfl | rfl | rfl | rfl | rfl | rfl | rfl | rfl | rfl | rfl | rfl | rfl | rfl | rfl <;> simp [uArr, upd]
theorem uArr_congr {f g : Nat → Nat} (h : ∀ j, j < 16 → f j = g j) : uArr f = uArr g := by
 simp only [uArr, h 0 (by omega), h 1 (by omega), h 2 (by omega), h 3 (by omega), h 4 (by omega), h 5 (by omega), h 6 (by omega), h 7 (by omega), h 8 (by omega), h 9 (by omega), h 10 (by omega), h 11 (by omega), h 12 (by omega), h 13 (by omega), h 14 (by omega), h 15 (by omega)]
theorem uArr_one (f : Nat → Nat) : (uArr f).all (fun x => x.oneCell') = true := by simp [uArr, Value.oneCell']
theorem half_c (w : World) :
  Calls Tryz.prog 36 #[] w fun e w' => e = .returned (.agg (uArr tab)) ∧ Below w.heap.size w w' := by
 go_enter Tryz.func36, Tryz.ntmps36
 go_wp2
 go_loopw [5] (fun i wr => ∃ k : Nat, k ≤ 16 ∧ i = .int .i64 (k : Int) ∧ wr.heap[w.heap.size]? = some (.cells (uArr (fun _ => 0)) 80 (0, 0)) ∧ wr.heap[w.heap.size + 1]? = some (.cells (uArr (fun j => if j < k then tab j else 0)) 80 (0, 0)) ∧ Below w.heap.size w wr) (fun i _ => 16 - (intOf i).toNat)
 case atStart => exact ⟨0, by omega, rfl, by rw [Below.heap_alloc _ _ _ (by simp)]; exact heap_alloc_new w _, heap_alloc2_new w _ _, ((Below.refl _ w).alloc (Nat.le_refl _) _).alloc (by simp) _⟩
 case round =>
  obtain ⟨k, hk, rfl, r0, r1, hbl⟩ := hrel
  by_cases hlt : k < 16
  ·have R0 : Hid (wr.heap[w.heap.size]? = some (.cells (uArr (fun _ => 0)) 80 (0, 0))) := r0
   have R1 : Hid (wr.heap[w.heap.size + 1]? = some (.cells (uArr (fun j => if j < k then tab j else 0)) 80 (0, 0))) := r1
   clear r0 r1
   go_wp2
   go_loop [3, 10] (fun t i => ∃ n : Nat, n ≤ 4 ∧ i = .int .i64 (n : Int) ∧ t = .int .u32 (crcN n k : Nat)) (fun _ i => 4 - (intOf i).toNat)
   case atStart => exact ⟨0, by omega, rfl, by simp [crcN]⟩
   case round =>
    obtain ⟨n, hn, rfl, rfl⟩ := hrel
    have bd := crcN_lt n k (by omega)
    obtain ⟨x, hx⟩ : ∃ x, x = crcN n k := ⟨_, rfl⟩
    have HX : Hid (x = crcN n k) := hx
    rw [← hx] at bd ⊢
    clear hx
    by_cases hn4 : n < 4
    ·have a1 : bits BinOp.and IntKind.u32 (x : Int) 1 = ((x % 2 : Nat) : Int) := by
      have := u32_and_nat x 1 bd (by omega)
      rw [Nat.and_one_is_mod] at this; exact this
     have a2 : bits BinOp.xor IntKind.u32 ((x : Int) / 2) 3988292384 = ((x / 2 ^^^ 3988292384 : Nat) : Int) := by
      have := u32_xor_nat (x / 2) 3988292384 (by omega) (by omega)
      have e : ((x : Int) / 2) = ((x / 2 : Nat) : Int) := by omega
      rw [e]; exact this
     by_cases hb : x % 2 = 1
     ·go_wp2
      go_round
      case rel => exact ⟨n + 1, by omega, by go_num, by rw [show crcN (n + 1) k = crc1 (crcN n k) from rfl, ← HX.out]; unfold crc1; rw [if_pos hb]⟩
      case measure => simp [intOf]; omega
     ·go_wp2
      go_round
      case rel => exact ⟨n + 1, by omega, by go_num, by rw [show crcN (n + 1) k = crc1 (crcN n k) from rfl, ← HX.out]; unfold crc1; rw [if_neg hb]; go_num⟩
      case measure => simp [intOf]; omega
    ·obtain rfl : n = 4 := by omega
     have r0 := R0.out
     have r1 := R1.out
     have q1 : wr.cell? ⟨w.heap.size + 1, k, none⟩ = some (.int .u32 0) := by rw [row_cell r1, uArr_at _ _ (by omega), if_neg (by omega)]; rfl
     have q2 := row_fr r1 k
     go_wp2
     go_roundw
     case rel =>
      refine ⟨k + 1, by omega, by go_num, by rw [row_ne (by omega)]; exact r0, ?_, hbl.setCell (by simp) _⟩
      rw [row_set r1, uArr_set _ _ _ hlt]
      congr 2
      refine uArr_congr fun j hj => ?_
      unfold upd
      by_cases e : j = k
      ·rw [if_pos e, if_pos (by omega), e, HX.out]; rfl
      ·rw [if_neg e]
       show (if j < k then tab j else 0) = _
       by_cases e2 : j < k
       ·rw [if_pos e2, if_pos (by omega)]
       ·rw [if_neg e2, if_neg (by omega)]
     case measure => simp [intOf]; omega
  ·obtain rfl : k = 16 := by omega
   go_wp2_with (first | (refine wpList_load_row rfl 80 (.tmp 1) rfl (w.heap.size + 1) rfl 80 _ (0, 0) _ r1 Tryz.underlying80 rfl (by kernel_rfl) ?_) | (refine wpList_store_row rfl 80 (.tmp 0) (.tmp 25) rfl w.heap.size _ rfl rfl 80 _ r0 (by kernel_rfl) rfl (uArr_one _) ?_))
   refine bodyPost_ret (v := .agg (uArr (fun j => if j < 16 then tab j else 0))) (results_cell_row Tryz.results36 _ _ w.heap.size 80 _ (0, 0) _ rfl (setRow_heap _ _ _ _ _ _ r0) Tryz.underlying80 rfl (by kernel_rfl)) rfl ⟨?_, ?_⟩
   ·rw [uArr_congr (g := tab) (fun j hj => by rw [if_pos hj])]
   ·exact hbl.trans ⟨rfl, rfl, rfl, by simp, fun k hk => setRow_other _ _ _ _ (by omega)⟩
def half1 (y : Nat) : Nat := y / 16 ^^^ tab (y % 16)
def stepB (x : Nat) (c : UInt8) : Nat := half1 (half1 (x ^^^ c.toNat))
def sumGo (l : List UInt8) : Nat := l.foldl stepB 4294967295
def sumOf (s : ByteArray) : Nat := 4294967295 ^^^ sumGo s.data.toList
theorem half1_lt (y : Nat) (h : y < 4294967296) : half1 y < 4294967296 := Nat.xor_lt_two_pow (n := 32) (by omega) (crcN_lt 4 _ (by omega))
theorem stepB_lt (x : Nat) (c : UInt8) (h : x < 4294967296) : stepB x c < 4294967296 := half1_lt _ (half1_lt _ (Nat.xor_lt_two_pow (n := 32) h (by have := c.toNat_lt; omega)))
theorem foldB_lt (l : List UInt8) (x : Nat) (h : x < 4294967296) : l.foldl stepB x < 4294967296 := by
 induction l generalizing x with
 | nil => exact h
 | cons c l ih => exact ih _ (stepB_lt x c h)
theorem sumGo_lt (l : List UInt8) : sumGo l < 4294967296 := foldB_lt l _ (by omega)
theorem take_snoc (s : ByteArray) (k : Nat) (h : k < s.size) : s.data.toList.take (k + 1) = s.data.toList.take k ++ [s[k]] := by
 rw [List.take_succ_eq_append_getElem (by simpa using h)]; rfl
theorem sumGo_snoc (l : List UInt8) (c : UInt8) : sumGo (l ++ [c]) = stepB (sumGo l) c := by simp [sumGo]
theorem u32_15 (y : Nat) (h : y < 4294967296) : bits BinOp.and IntKind.u32 (y : Int) 15 = ((y % 16 : Nat) : Int) := by
 have := u32_and_nat y 15 h (by omega)
 rw [show (15 : Nat) = 2 ^ 4 - 1 from rfl, Nat.and_two_pow_sub_one_eq_mod] at this
 exact this
theorem alloc_setRow2 (w : World) (a b : Array Value) (t : TypeId) : (w.alloc (.cells a t)).setRow w.heap.size b = w.alloc (.cells b t) := by
 simp only [World.setRow, World.alloc]
 congr 1
 apply Array.ext
 ·simp
 ·intro i h1 h2
  simp only [Array.getElem_modify]
  by_cases e : w.heap.size = i
  ·subst e; simp
  ·rw [if_neg e]
   simp at h1
   rw [Array.getElem_push_lt (by omega), Array.getElem_push_lt (by omega)]
theorem sum_c (w : World) (s : ByteArray) (hs : s.size ≤ maxLen) :
  Calls Tryz.prog 13 #[.string s] w fun e w' => e = .returned (.int .u32 (sumOf s : Nat)) ∧ Below w.heap.size w w' := by
 unfold maxLen at hs
 go_enter Tryz.func13, Tryz.ntmps13
 go_wp2_with fail
 refine (half_c w).mono ?_
 rintro e w1 ⟨rfl, b1⟩
 go_wp2_with (refine wpList_store_row rfl 80 (.tmp 3) (.tmp 6) rfl w1.heap.size _ rfl rfl 80 _ (heap_alloc_new w1 _) (by kernel_rfl) rfl (uArr_one _) ?_; rw [alloc_setRow2])
 have r1 := heap_alloc_new w1 (.cells (uArr tab) 80)
 have b2 : Below w.heap.size w (w1.alloc (.cells (uArr tab) 80)) := b1.alloc b1.size _
 obtain ⟨W, hW⟩ : ∃ W, W = w1.alloc (.cells (uArr tab) 80) := ⟨_, rfl⟩
 rw [← hW] at r1 b2 ⊢
 clear hW
 have hcell : ∀ j, j < 16 → W.cell? ⟨w1.heap.size, j, none⟩ = some (.int .u32 (tab j : Nat)) := fun j hj => by rw [row_cell r1, uArr_at _ _ hj]
 clear r1
 go_loop [4, 9] (fun t i => ∃ k : Nat, k ≤ s.size ∧ i = .int .i64 (k : Int) ∧ t = .int .u32 (sumGo (s.data.toList.take k) : Nat)) (fun _ i => s.size - (intOf i).toNat)
 case atStart => exact ⟨0, Nat.zero_le _, rfl, rfl⟩
 case round =>
  obtain ⟨k, hk, rfl, rfl⟩ := hrel
  have bd := sumGo_lt (s.data.toList.take k)
  obtain ⟨x, hx⟩ : ∃ x, x = sumGo (s.data.toList.take k) := ⟨_, rfl⟩
  have HX : Hid (x = sumGo (s.data.toList.take k)) := hx
  rw [← hx] at bd ⊢
  clear hx
  by_cases hlt : k < s.size
  ·have hc := s[k].toNat_lt
   obtain ⟨y, hy⟩ : ∃ y, y = x ^^^ s[k].toNat := ⟨_, rfl⟩
   have by1 : y < 4294967296 := by rw [hy]; exact Nat.xor_lt_two_pow (n := 32) bd (by omega)
   have a1 : bits BinOp.xor IntKind.u32 (x : Int) (s[k].toNat : Int) = (y : Int) := by rw [hy]; exact u32_xor_nat x s[k].toNat bd (by omega)
   have a2 := u32_15 y by1
   have t1 := hcell (y % 16) (by omega)
   have tl : tab (y % 16) < 4294967296 := crcN_lt 4 _ (by omega)
   obtain ⟨z, hz⟩ : ∃ z, z = half1 y := ⟨_, rfl⟩
   have bz : z < 4294967296 := by rw [hz]; exact half1_lt y by1
   have a3 : bits BinOp.xor IntKind.u32 ((y : Int) / 16) ((tab (y % 16) : Nat) : Int) = (z : Int) := by
    have e : ((y : Int) / 16) = ((y / 16 : Nat) : Int) := by omega
    rw [e, hz]; exact u32_xor_nat (y / 16) (tab (y % 16)) (by omega) tl
   have a4 := u32_15 z bz
   have t2 := hcell (z % 16) (by omega)
   have tl2 : tab (z % 16) < 4294967296 := crcN_lt 4 _ (by omega)
   obtain ⟨v, hv⟩ : ∃ v, v = half1 z := ⟨_, rfl⟩
   have a5 : bits BinOp.xor IntKind.u32 ((z : Int) / 16) ((tab (z % 16) : Nat) : Int) = (v : Int) := by
    have e : ((z : Int) / 16) = ((z / 16 : Nat) : Int) := by omega
    rw [e, hv]; exact u32_xor_nat (z / 16) (tab (z % 16)) (by omega) tl2
   have m1 : y % 16 < 16 := by omega
   have m2 : z % 16 < 16 := by omega
   have HS : Hid (sumGo (s.data.toList.take (k + 1)) = v) := by
    unfold Hid; rw [take_snoc s k hlt, sumGo_snoc, ← HX.out, hv, hz, hy]; rfl
   clear hy hz hv hcell
   go_wp2
   go_round
   case rel => exact ⟨k + 1, by omega, by go_num, by rw [HS.out]⟩
   case measure => simp [intOf]; omega
  ·obtain rfl : k = s.size := by omega
   have a1 : bits BinOp.xor IntKind.u32 IntKind.u32.max (x : Int) = ((4294967295 ^^^ x : Nat) : Int) := u32_xor_nat 4294967295 x (by omega) bd
   have HS : Hid (sumOf s = 4294967295 ^^^ x) := by
    unfold Hid sumOf; rw [HX.out, List.take_of_length_le (by simp)]
   go_wp2
   go_ret
   exact ⟨by rw [HS.out]; simp [a1], b2⟩
end Go.Proofs.YtnmkmmgaoplfiaaGreatDoor
namespace Go.Proofs.YtnmkmmgaoplfiaaGreatDoor
open Go.RowKit
structure RB (w : World) (b : Nat) (s : ByteArray) (p : Nat) : Prop where
 c0 : w.cell? ⟨b, 0, none⟩ = some (.string s)
 c1 : w.cell? ⟨b, 1, none⟩ = some (.int .i64 ((min p (8 * s.size) : Nat) : Int))
 c4 : w.cell? ⟨b, 4, none⟩ = some (.int .i64 ((if p ≤ 8 * s.size then 0 else 1 : Nat) : Int))
 fr : ∀ o, w.frozen? ⟨b, o, none⟩ = false
structure BT (b : Nat) (w w' : World) : Prop where
 t : Touch (· = b) w w'
 keep : ∀ o, o ≠ 1 → o ≠ 4 → w'.cell? ⟨b, o, none⟩ = w.cell? ⟨b, o, none⟩
 fr : ∀ o, w'.frozen? ⟨b, o, none⟩ = w.frozen? ⟨b, o, none⟩
theorem BT.refl (b : Nat) (w : World) : BT b w w := ⟨Touch.refl _ _, fun _ _ _ => rfl, fun _ => rfl⟩
theorem BT.trans {b : Nat} {x y z : World} (h : BT b x y) (k : BT b y z) : BT b x z :=
 ⟨h.t.trans k.t, fun o h1 h4 => (k.keep o h1 h4).trans (h.keep o h1 h4), fun o => (k.fr o).trans (h.fr o)⟩
theorem BT.drewN {b : Nat} {x y : World} (h : BT b x y) (n : Nat) : BT b x (y.drewN n) := ⟨h.t.drewN n, h.keep, h.fr⟩
theorem BT.set {b : Nat} {x y : World} (h : BT b x y) (i : Nat) (hi : i = 1 ∨ i = 4) (v : Value) : BT b x (y.setCell ⟨b, i, none⟩ v) :=
 ⟨h.t.setCell rfl v, fun o h1 h4 => (cell_set_ne (by omega)).trans (h.keep o h1 h4), fun o => by rw [World.frozen?_setCell]; exact h.fr o⟩
end Go.Proofs.YtnmkmmgaoplfiaaGreatDoor
namespace Go.Proofs.YtnmkmmgaoplfiaaGreatDoor
open Go.RowKit
def byteAt (s : ByteArray) (i : Nat) : Nat := if h : i < s.size then s[i].toNat else 0
def leAt (s : ByteArray) (a : Nat) : Nat → Nat
 | 0 => 0
 | m + 1 => byteAt s a + 256 * leAt s (a + 1) m
theorem byteAt_lt (s : ByteArray) (i : Nat) : byteAt s i < 256 := by
 unfold byteAt; split
 ·exact s[i].toNat_lt
 ·omega
theorem leAt_lt (s : ByteArray) : ∀ (m a : Nat), leAt s a m < 256 ^ m
 | 0, a => by simp [leAt]
 | m + 1, a => by
  have := leAt_lt s m (a + 1)
  have := byteAt_lt s a
  simp only [leAt, Nat.pow_succ]; omega
def numIn (s : ByteArray) (a n : Nat) : Nat := min (leAt s a n) 9223372036854775807
end Go.Proofs.YtnmkmmgaoplfiaaGreatDoor
namespace Go.Proofs.YtnmkmmgaoplfiaaGreatDoor
open Go.RowKit
def restOf (s : ByteArray) (E : Nat) : Option Nat → ByteArray
 | some p => s.extract p E
 | none => ⟨#[]⟩
def fldTo (E : Nat) (p : Option Nat) (n : Nat) : Option Nat := p.bind fun p => if p + n ≤ E then some (p + n) else none
def fldOf (s : ByteArray) (E : Nat) (p : Option Nat) (n : Nat) : ByteArray := match fldTo E p n with
 | some q => s.extract (q - n) q
 | none => ⟨#[]⟩
def fldNum (s : ByteArray) (E : Nat) (p : Option Nat) (n : Nat) : Nat := numIn (fldOf s E p n) 0 (fldOf s E p n).size
structure FR (w : World) (b : Nat) (s : ByteArray) (E : Nat) (p : Option Nat) : Prop where
 rest : w.cell? ⟨b, 0, none⟩ = some (.string (restOf s E p))
 short : w.cell? ⟨b, 1, none⟩ = some (.bool p.isNone)
 fr0 : w.frozen? ⟨b, 0, none⟩ = false
 fr1 : w.frozen? ⟨b, 1, none⟩ = false
 le : ∀ q, p = some q → q ≤ E
 size : E ≤ s.size
theorem FR.keep {S : Nat → Prop} {w w' : World} {b : Nat} {s : ByteArray} {E : Nat} {p : Option Nat} (h : FR w b s E p) (ht : Touch S w w') (hs : ¬ S b) : FR w' b s E p :=
 have hl := World.block_lt_of_cell? w _ h.rest
 ⟨ht.at h.rest hs, ht.at h.short hs, (ht.frozen (p := ⟨b, 0, none⟩) hl hs).trans h.fr0, (ht.frozen (p := ⟨b, 1, none⟩) hl hs).trans h.fr1, h.le, h.size⟩
theorem extract_extract (s : ByteArray) (a b c d : Nat) (hb : b ≤ s.size) (h : a + d ≤ b) : (s.extract a b).extract c d = s.extract (a + c) (a + d) := by
 apply ByteArray.ext
 simp only [ByteArray.data_extract, Array.extract_extract]
 congr 1; omega
theorem extract_end (s : ByteArray) (a b c d : Nat) (hb : b ≤ s.size) (h : b ≤ a + d) : (s.extract a b).extract c d = s.extract (a + c) b := by
 apply ByteArray.ext
 simp only [ByteArray.data_extract, Array.extract_extract]
 congr 1; omega
theorem touch_set (w : World) (b o : Nat) (v : Value) : Touch (fun k => k = b) w (w.setCell ⟨b, o, none⟩ v) := (Touch.refl (fun k => k = b) w).setCell (p := ⟨b, o, none⟩) rfl v
theorem take_c (w : World) (b : Nat) (s : ByteArray) (E : Nat) (p : Option Nat) (n : Nat) (N : Int) (hN : N = (n : Int)) (hn : n ≤ 4611686018427387904) (hs : s.size ≤ 140737488355328) (h : FR w b s E p) :
  Calls Tryz.prog 64 #[.pointer (some ⟨b, 0, none⟩), .int .i64 N] w fun e w' => e = .returned (.string (fldOf s E p n)) ∧ FR w' b s E (fldTo E p n) ∧ Touch (fun k => k = b) w w' := by
 subst hN
 have h1 := h.rest
 have h2 := h.short
 have f1 := h.fr0
 have f2 := h.fr1
 have hE := h.size
 cases p with
 | some q =>
  have hq := h.le q rfl
  have hz : (s.extract q E).size = E - q := by rw [ByteArray.size_extract]; omega
  by_cases hf : q + n ≤ E
  ·have e1 : fldTo E (some q) n = some (q + n) := by simp [fldTo, hf]
   have e2 : fldOf s E (some q) n = s.extract q (q + n) := by simp [fldOf, e1]
   rw [e1, e2]
   simp only [restOf] at h1
   have c1 : ¬ ((E - q : Nat) : Int) < (n : Int) := by omega
   have c2 : (n : Int) ≤ ((E - q : Nat) : Int) := by omega
   go_enter Tryz.func64, Tryz.ntmps64
   go_wp2
   go_ret
   refine ⟨by rw [extract_extract s q E 0 n hE hf]; rfl, ⟨?_, ?_, ?_, ?_, ?_, hE⟩, touch_set w b 0 _⟩
   ·rw [World.cell?_setCell_same' _ _ _ (by rw [h1]; rfl), extract_end s q E n (E - q) hE (by omega)]; rfl
   ·rw [cell_set_ne (by omega), h2]; rfl
   ·rw [World.frozen?_setCell]; exact f1
   ·rw [World.frozen?_setCell]; exact f2
   ·rintro _ ⟨⟩; exact hf
  ·have e1 : fldTo E (some q) n = none := by simp [fldTo, hf]
   have e2 : fldOf s E (some q) n = ⟨#[]⟩ := by simp [fldOf, e1]
   rw [e1, e2]
   simp only [restOf] at h1
   have c1 : ((E - q : Nat) : Int) < (n : Int) := by omega
   go_enter Tryz.func64, Tryz.ntmps64
   go_wp2
   go_ret
   refine ⟨rfl, ⟨?_, ?_, ?_, ?_, ?_, hE⟩, (touch_set w b 0 _).trans (touch_set _ b 1 _)⟩
   ·rw [cell_set_ne (by omega), World.cell?_setCell_same' _ _ _ (by rw [h1]; rfl)]; rfl
   ·rw [World.cell?_setCell_same' _ _ _ (by rw [cell_set_ne (by omega), h2]; rfl)]; rfl
   ·rw [World.frozen?_setCell, World.frozen?_setCell]; exact f1
   ·rw [World.frozen?_setCell, World.frozen?_setCell]; exact f2
   ·rintro _ ⟨⟩
 | none =>
  have e1 : fldTo E none n = none := rfl
  have e2 : fldOf s E none n = ⟨#[]⟩ := rfl
  rw [e1, e2]
  simp only [restOf] at h1
  by_cases hf : n = 0
  ·subst hf
   go_enter Tryz.func64, Tryz.ntmps64
   go_wp2
   go_ret
   refine ⟨rfl, ⟨?_, ?_, ?_, ?_, ?_, hE⟩, touch_set w b 0 _⟩
   ·rw [World.cell?_setCell_same' _ _ _ (by rw [h1]; rfl)]; rfl
   ·rw [cell_set_ne (by omega), h2]
   ·rw [World.frozen?_setCell]; exact f1
   ·rw [World.frozen?_setCell]; exact f2
   ·rintro _ ⟨⟩
  ·have c1 : (0 : Int) < (n : Int) := by omega
   go_enter Tryz.func64, Tryz.ntmps64
   go_wp2
   go_ret
   refine ⟨rfl, ⟨?_, ?_, ?_, ?_, ?_, hE⟩, (touch_set w b 0 _).trans (touch_set _ b 1 _)⟩
   ·rw [cell_set_ne (by omega), World.cell?_setCell_same' _ _ _ (by rw [h1]; rfl)]; rfl
   ·rw [World.cell?_setCell_same' _ _ _ (by rw [cell_set_ne (by omega), h2]; rfl)]; rfl
   ·rw [World.frozen?_setCell, World.frozen?_setCell]; exact f1
   ·rw [World.frozen?_setCell, World.frozen?_setCell]; exact f2
   ·rintro _ ⟨⟩
theorem leAt_snoc (s : ByteArray) : ∀ (k a : Nat), leAt s a (k + 1) = leAt s a k + byteAt s (a + k) * 256 ^ k
 | 0, a => by simp [leAt]
 | k + 1, a => by
  rw [leAt, leAt_snoc s k (a + 1), leAt, show a + 1 + k = a + (k + 1) by omega, Nat.pow_succ]
  generalize byteAt s (a + (k + 1)) = z
  rw [Nat.mul_add]
  have : 256 * (z * 256 ^ k) = z * (256 ^ k * 256) := by rw [Nat.mul_comm 256, Nat.mul_assoc]
  omega
theorem or_snoc (x y k : Nat) (hx : x < 256 ^ k) : x ||| (y * 256 ^ k) = x + y * 256 ^ k := by
 have e : 256 ^ k = 2 ^ (8 * k) := by rw [Nat.pow_mul]
 rw [e] at hx ⊢
 have := Nat.two_pow_add_eq_or_of_lt hx y
 rw [Nat.or_comm, Nat.mul_comm y, ← this, Nat.add_comm]
theorem u64step (F : ByteArray) (k x : Nat) (h : k < F.size) (k8 : k ≤ 7) (hx : x = leAt F 0 k) : bits BinOp.or IntKind.u64 (x : Int) (IntKind.u64.wrap (IntKind.u64.wrap (F[k].toNat : Int) * 2 ^ (8 * k))) = (leAt F 0 (k + 1) : Nat) := by
 have hb := F[k].toNat_lt
 have e : byteAt F (0 + k) = F[k].toNat := by rw [Nat.zero_add]; unfold byteAt; rw [dif_pos h]
 have hl := leAt_lt F k 0
 rw [← hx] at hl
 have hw : ∀ n : Int, 0 ≤ n → n < 2 ^ 64 → IntKind.u64.wrap n = n := by intro n h0 h1; simp [IntKind.wrap, IntKind.bits, IntKind.signed]; omega
 have hp : 256 ^ k ≤ 256 ^ 7 := Nat.pow_le_pow_right (by omega) k8
 have hm : F[k].toNat * 256 ^ k ≤ 255 * 256 ^ 7 := Nat.mul_le_mul (by omega) hp
 have e2 : (2 : Int) ^ (8 * k) = ((256 ^ k : Nat) : Int) := by rw [Int.pow_mul, Int.natCast_pow]; rfl
 rw [hw (F[k].toNat : Int) (by omega) (by omega), e2, show (F[k].toNat : Int) * ((256 ^ k : Nat) : Int) = ((F[k].toNat * 256 ^ k : Nat) : Int) by rw [Int.natCast_mul], hw _ (by omega) (by omega)]
 have hh := bits_nat .u64 64 (by decide) hw x (F[k].toNat * 256 ^ k) (by omega) (by omega)
 rw [hh.2, or_snoc _ _ _ hl, leAt_snoc, e, ← hx]
theorem numIn_min (F : ByteArray) (a n : Nat) : numIn F a n = if 9223372036854775807 < leAt F a n then 9223372036854775807 else leAt F a n := by
 unfold numIn; split <;> omega
theorem fnumber_c (w : World) (b : Nat) (s : ByteArray) (E : Nat) (p : Option Nat) (n : Nat) (N : Int) (hN : N = (n : Int)) (hn : n ≤ 8) (hs : s.size ≤ 140737488355328) (h : FR w b s E p) :
  Calls Tryz.prog 65 #[.pointer (some ⟨b, 0, none⟩), .int .i64 N] w fun e w' => e = .returned (.int .i64 (fldNum s E p n : Nat)) ∧ FR w' b s E (fldTo E p n) ∧ Touch (fun k => k = b) w w' := by
 subst hN
 have hF : (fldOf s E p n).size ≤ n := by
  unfold fldOf; split
  ·rw [ByteArray.size_extract]; omega
  ·exact Nat.zero_le _
 have HV : Hid (fldNum s E p n = numIn (fldOf s E p n) 0 (fldOf s E p n).size) := rfl
 obtain ⟨V, eV⟩ : ∃ V, V = fldNum s E p n := ⟨_, rfl⟩
 obtain ⟨F, eF⟩ : ∃ F, F = fldOf s E p n := ⟨_, rfl⟩
 rw [← eF] at hF
 rw [← eV]
 rw [← eV, ← eF] at HV
 have HC : Hid (∀ (e : Ending) (w' : World), (e = .returned (.string (fldOf s E p n)) ∧ FR w' b s E (fldTo E p n) ∧ Touch (fun k => k = b) w w') → (e = .returned (.string F) ∧ Hid (FR w' b s E (fldTo E p n) ∧ Touch (fun k => k = b) w w'))) := by
 --', (e = .returned (.string (fldOf s E p n)) ∧ FR w' b s E (fldTo E p n) ∧ Touch (fun k => k = b) w w') → (e = .returned (.string F) ∧ Hid (FR w' b s E (fldTo E p n) ∧ Touch (fun k => k = b) w w'))) := by
  rintro e w' ⟨h1, h2⟩; exact ⟨by rw [h1, eF], h2⟩
 clear eF eV
 go_enter Tryz.func65, Tryz.ntmps65
 go_wp2_with fail
 refine ((take_c w b s E p n _ rfl (by omega) hs h).mono HC.out).mono ?_
 rintro e w1 ⟨rfl, F1⟩
 clear HC h
 go_wp2
 go_loop [6, 7, 13] (fun t i j => ∃ k x : Nat, k ≤ F.size ∧ j = .int .i64 (k : Int) ∧ t = .int .u64 (x : Int) ∧ Hid (x = leAt F 0 k)) (fun _ _ j => F.size - (intOf j).toNat)
 case atStart => exact ⟨0, 0, by omega, rfl, rfl, rfl⟩
 case round =>
  obtain ⟨k, x, hk, rfl, rfl, HX⟩ := hrel
  by_cases hlt : k < F.size
  ·have k8 : k ≤ 7 := by omega
   have e8 : (0 : Int) ≤ 8 * (k : Int) := by omega
   have e9 : 8 * (k : Int) < 64 := by omega
   have HS : Hid (bits BinOp.or IntKind.u64 (x : Int) (IntKind.u64.wrap (IntKind.u64.wrap (F[k].toNat : Int) * 2 ^ (8 * k))) = (leAt F 0 (k + 1) : Nat)) := u64step F k x hlt k8 HX.out
   go_wp2
   exact ⟨⟨k + 1, _, by omega, by go_num, by rw [HS.out], rfl⟩, by simp [intOf]; omega⟩
  ·obtain rfl : k = F.size := by omega
   have HM := numIn_min F 0 F.size
   rw [← HX.out, ← HV.out] at HM
   have HE : Hid (V = if 9223372036854775807 < x then 9223372036854775807 else x) := HM
   clear HM
   go_wp2
   ·go_ret
    exact ⟨ret_int (by rw [HE.out, if_pos (by omega)]; rfl), F1.out⟩
   ·go_ret
    exact ⟨ret_int (by rw [HE.out, if_neg (by omega)]), F1.out⟩
theorem fldNum_some (s : ByteArray) (E q n : Nat) (hE : E ≤ s.size) (h : q + n ≤ E) : fldNum s E (some q) n = numIn s q n := by
 have e1 : fldTo E (some q) n = some (q + n) := by simp [fldTo, h]
 have e2 : fldOf s E (some q) n = s.extract q (q + n) := by simp [fldOf, e1]
 have hz : (s.extract q (q + n)).size = n := by rw [ByteArray.size_extract]; omega
 unfold fldNum; rw [e2, hz]
 have hb : ∀ i, i < n → byteAt (s.extract q (q + n)) i = byteAt s (q + i) := by
  intro i hi
  unfold byteAt
  rw [dif_pos (by omega), dif_pos (by omega)]
  congr 1
  exact ByteArray.getElem_extract _
 have hl : ∀ m a, a + m ≤ n → leAt (s.extract q (q + n)) a m = leAt s (q + a) m := by
  intro m
  induction m with
  | zero => intro a _; rfl
  | succ m ih => intro a ha; rw [leAt, leAt, hb a (by omega), ih (a + 1) (by omega)]; rfl
 unfold numIn; rw [hl n 0 (by omega)]; rfl
theorem fldNum_none (s : ByteArray) (E : Nat) (p : Option Nat) (n : Nat) (h : fldTo E p n = none) : fldNum s E p n = 0 := by
 unfold fldNum fldOf; rw [h]; rfl
theorem take_some (w : World) (b : Nat) (s : ByteArray) (E q n : Nat) (h : FR w b s E (some q)) (hf : q + n ≤ E) (hs : s.size ≤ 140737488355328) :
  Calls Tryz.prog 64 #[.pointer (some ⟨b, 0, none⟩), .int .i64 (n : Int)] w fun e w' => e = .returned (.string (s.extract q (q + n))) ∧ FR w' b s E (some (q + n)) ∧ Touch (fun k => k = b) w w' := by
 have e1 : fldTo E (some q) n = some (q + n) := by simp [fldTo, hf]
 have e2 : fldOf s E (some q) n = s.extract q (q + n) := by simp [fldOf, e1]
 have hz := h.size
 have := take_c w b s E (some q) n _ rfl (by omega) hs h
 rw [e1, e2] at this; exact this
theorem fnum_some (w : World) (b : Nat) (s : ByteArray) (E q n : Nat) (h : FR w b s E (some q)) (hf : q + n ≤ E) (hn : n ≤ 8) (hs : s.size ≤ 140737488355328) :
  Calls Tryz.prog 65 #[.pointer (some ⟨b, 0, none⟩), .int .i64 (n : Int)] w fun e w' => e = .returned (.int .i64 (numIn s q n : Nat)) ∧ FR w' b s E (some (q + n)) ∧ Touch (fun k => k = b) w w' := by
 have e1 : fldTo E (some q) n = some (q + n) := by simp [fldTo, hf]
 have := fnumber_c w b s E (some q) n _ rfl hn hs h
 rw [e1, fldNum_some s E q n h.size hf] at this; exact this
theorem numIn_lt (s : ByteArray) (a n : Nat) : numIn s a n ≤ 9223372036854775807 := by unfold numIn; omega
theorem numIn_le (s : ByteArray) (a n : Nat) : numIn s a n < 256 ^ n := by have := leAt_lt s n a; unfold numIn; omega
end Go.Proofs.YtnmkmmgaoplfiaaGreatDoor
namespace Go.Proofs.YtnmkmmgaoplfiaaGreatDoor
open Go.RowKit
def markB (s : ByteArray) (i : Nat) (x y : UInt8) : Bool := decide ((s.extract i (i + 4)).toList = [80, 75, x, y])
def endOk (s : ByteArray) (b : Nat) : Bool := markB s (s.size - b - 22) 5 6 && decide (numIn s (s.size - b - 22 + 20) 2 = b)
def endFrom (s : ByteArray) : Nat → Nat → Option Nat
 | 0, _ => none
 | f + 1, b => if b + 22 ≤ s.size then (if endOk s b then some (s.size - b - 22) else endFrom s f (b + 1)) else none
theorem endFrom_step (s : ByteArray) (f b : Nat) (h : b + 22 ≤ s.size) (h' : endOk s b = false) : endFrom s (f + 1) b = endFrom s f (b + 1) := by simp [endFrom, h, h']
theorem endFrom_here (s : ByteArray) (f b : Nat) (h : b + 22 ≤ s.size) (h' : endOk s b = true) : endFrom s (f + 1) b = some (s.size - b - 22) := by simp [endFrom, h, h']
theorem endFrom_off (s : ByteArray) (f b : Nat) (h : ¬ b + 22 ≤ s.size) : endFrom s f b = none := by cases f <;> simp [endFrom, h]
theorem Touch.onNew {S : Nat → Prop} {w a c : World} {b : Nat} (h : Touch S w a) (t : Touch (fun k => k = b) a c) (hb : w.heap.size ≤ b) : Touch S w c :=
 ⟨t.os.trans h.os, t.tape.trans h.tape, t.output.trans h.output, Nat.le_trans h.size t.size, fun k hk hs => (t.block k (Nat.lt_of_lt_of_le hk h.size) (by show ¬ k = b; omega)).trans (h.block k hk hs)⟩
theorem FR.new (w : World) (s : ByteArray) (q : Nat) (hq : q ≤ s.size) (x : ByteArray) (hx : x = s.extract q s.size) : FR (w.alloc (.cells #[.string x, .bool false] 121)) w.heap.size s s.size (some q) := by
 subst hx
 have hb := heap_alloc_new w (.cells #[.string (s.extract q s.size), .bool false] 121)
 refine ⟨?_, ?_, ?_, ?_, ?_, Nat.le_refl _⟩
 ·rw [row_cell hb 0]; rfl
 ·rw [row_cell hb 1]; rfl
 ·simp [go_sem]
 ·simp [go_sem]
 ·rintro _ ⟨⟩; exact hq
theorem findEnd_c (w : World) (s : ByteArray) (hs : s.size ≤ 140737488355328) :
  Calls Tryz.prog 44 #[.string s] w fun e w' => e = .returned (.tuple #[.int .i64 ((endFrom s 101 0).getD 0 : Nat), .bool (endFrom s 101 0).isSome]) ∧ Touch (fun _ => False) w w' := by
 go_enter Tryz.func44, Tryz.ntmps44
 go_wp2
 go_loopw [8] (fun i wr => ∃ b : Nat, b ≤ 101 ∧ i = .int .i64 (b : Int) ∧ Hid (endFrom s 101 0 = endFrom s (101 - b) b) ∧ Touch (fun _ => False) w wr) (fun i _ => 101 - (intOf i).toNat)
 case atStart => exact ⟨0, by omega, rfl, rfl, Touch.refl _ _⟩
 case round =>
  obtain ⟨b, hb, rfl, HE, ht⟩ := hrel
  by_cases hlt : b < 101
  ·by_cases h22 : b + 22 ≤ s.size
   ·have c1 : ¬ (s.size : Int) - (b : Int) - 22 < 0 := by omega
    have f0 := FR.new wr s (s.size - b - 22) (by omega) _ rfl
    have hsz := ht.size
    go_wp2_with fail
    refine (take_some _ _ s s.size (s.size - b - 22) 4 f0 (by omega) hs).mono ?_
    rintro e w1 ⟨rfl, f1, t1⟩
    have T1 := (ht.alloc _).onNew t1 hsz
    clear t1 f0
    go_wp2_with fail
    refine (take_some _ _ s s.size (s.size - b - 22 + 4) 16 f1 (by omega) hs).mono ?_
    rintro e w2 ⟨rfl, f2, t2⟩
    have T2 := T1.onNew t2 hsz
    clear t2 T1 f1 ht
    have HO : Hid (endOk s b = (markB s (s.size - b - 22) 5 6 && decide (numIn s (s.size - b - 22 + 20) 2 = b))) := rfl
    go_wp2_with fail
    ·refine (fnum_some _ _ s s.size (s.size - b - 22 + 4 + 16) 2 f2 (by omega) (by omega) hs).mono ?_
     rintro e w3 ⟨rfl, f3, t3⟩
     have T3 := T2.onNew t3 hsz
     clear t3 T2 f2
     have hmk : (s.extract (s.size - b - 22) (s.size - b - 22 + 4)).toList = [80, 75, 5, 6] := by assumption
     have nl := numIn_le s (s.size - b - 22 + 4 + 16) 2
     obtain ⟨v, hv⟩ : ∃ v, v = numIn s (s.size - b - 22 + 4 + 16) 2 := ⟨_, rfl⟩
     have HV : Hid (v = numIn s (s.size - b - 22 + 20) 2) := by unfold Hid; rw [hv]
     rw [← hv]
     rw [← hv] at nl
     clear hv
     by_cases hvb : v = b
     ·have HR : Hid (endFrom s 101 0 = some (s.size - b - 22)) := by
       unfold Hid; rw [HE.out, show 101 - b = (101 - b - 1) + 1 by omega, endFrom_here s _ b h22]
       rw [HO.out, ← HV.out, decide_eq_true hvb, Bool.and_true]; exact decide_eq_true hmk
      have q1 : ((v : Int) == (b : Int)) = true := by simp; omega
      clear hmk
      go_wp2
      go_ret2
      exact ⟨by rw [HR.out]; simp; omega, T3⟩
     ·have HR : Hid (endFrom s 101 0 = endFrom s (101 - (b + 1)) (b + 1)) := by
       unfold Hid; rw [HE.out, show 101 - b = (101 - (b + 1)) + 1 by omega, endFrom_step s _ b h22]
       rw [HO.out, ← HV.out, decide_eq_false hvb, Bool.and_false]
      have q1 : ((v : Int) == (b : Int)) = false := by simp; omega
      go_wp2
      exact ⟨⟨b + 1, by omega, by go_num, HR.out, T3⟩, by simp [intOf]; omega⟩
    ·have hmk : ¬ (s.extract (s.size - b - 22) (s.size - b - 22 + 4)).toList = [80, 75, 5, 6] := by assumption
     have HR : Hid (endFrom s 101 0 = endFrom s (101 - (b + 1)) (b + 1)) := by
      unfold Hid; rw [HE.out, show 101 - b = (101 - (b + 1)) + 1 by omega, endFrom_step s _ b h22]
      rw [HO.out, show markB s (s.size - b - 22) 5 6 = false from decide_eq_false hmk]; rfl
     exact ⟨⟨b + 1, by omega, by go_num, HR.out, T2⟩, by simp [intOf]; omega⟩
   ·have HR : Hid (endFrom s 101 0 = none) := by unfold Hid; rw [HE.out, endFrom_off s _ b h22]
    have c1 : (s.size : Int) - (b : Int) - 22 < 0 := by omega
    go_wp2
    go_ret2
    exact ⟨by rw [HR.out]; rfl, ht⟩
  ·have HR : Hid (endFrom s 101 0 = none) := by unfold Hid; rw [HE.out, show 101 - b = 0 by omega]; rfl
   go_wp2
   go_ret2
   exact ⟨by rw [HR.out]; rfl, ht⟩
end Go.Proofs.YtnmkmmgaoplfiaaGreatDoor
namespace Go.Proofs.YtnmkmmgaoplfiaaGreatDoor
open Go.RowKit
def oneB (d1 d2 c1 c2 : Nat) : Bool := decide (d1 = 0) && decide (d2 = 0) && decide (c2 = c1)
theorem takeEnding_c (w : World) (b : Nat) (s : ByteArray) (E q d c z : Nat) (hd : d ≤ 8) (hc : c ≤ 8) (hz : z ≤ 8) (h : FR w b s E (some q)) (hf : q + d + d + c + c + z + z ≤ E) (hs : s.size ≤ 140737488355328) :
  Calls Tryz.prog 66 #[.pointer (some ⟨b, 0, none⟩), .int .i64 (d : Int), .int .i64 (c : Int), .int .i64 (z : Int)] w fun e w' =>
   e = .returned (.agg #[.int .i64 (numIn s (q + d + d + c) c : Nat), .int .i64 (numIn s (q + d + d + c + c) z : Nat), .int .i64 (numIn s (q + d + d + c + c + z) z : Nat), .int .i64 0, .bool (oneB (numIn s q d) (numIn s (q + d) d) (numIn s (q + d + d) c) (numIn s (q + d + d + c) c))]) ∧ FR w' b s E (some (q + d + d + c + c + z + z)) ∧ Touch (fun k => k = b) w w' := by
 have hb := World.block_lt_of_cell? w _ h.rest
 go_enter Tryz.func66, Tryz.ntmps66
 have h0 : FR (w.alloc (Obj.cells #[.int .i64 0, .int .i64 0, .int .i64 0, .int .i64 0, .bool false] 116)) b s E (some q) := h.keep ((Touch.refl (fun _ => False) w).alloc _) (fun e => e)
 go_wp2_with fail
 refine (fnum_some _ _ s E (q) d h0 (by omega) (by omega) hs).mono ?_
 rintro e w1 ⟨rfl, f1, t1⟩
 have T1 := t1
 clear t1 h0
 go_wp2_with fail
 refine (fnum_some _ _ s E (q + d) d f1 (by omega) (by omega) hs).mono ?_
 rintro e w2 ⟨rfl, f2, t2⟩
 have T2 := T1.trans t2
 clear t2 T1 f1
 go_wp2_with fail
 refine (fnum_some _ _ s E (q + d + d) c f2 (by omega) (by omega) hs).mono ?_
 rintro e w3 ⟨rfl, f3, t3⟩
 have T3 := T2.trans t3
 clear t3 T2 f2
 go_wp2_with fail
 refine (fnum_some _ _ s E (q + d + d + c) c f3 (by omega) (by omega) hs).mono ?_
 rintro e w4 ⟨rfl, f4, t4⟩
 have T4 := T3.trans t4
 clear t4 T3 f3
 go_wp2_with fail
 refine (fnum_some _ _ s E (q + d + d + c + c) z f4 (by omega) (by omega) hs).mono ?_
 rintro e w5 ⟨rfl, f5, t5⟩
 have T5 := T4.trans t5
 clear t5 T4 f4
 go_wp2_with fail
 refine (fnum_some _ _ s E (q + d + d + c + c + z) z f5 (by omega) (by omega) hs).mono ?_
 rintro e w6 ⟨rfl, f6, t6⟩
 have T6 := T5.trans t6
 clear t6 T5 f5
 have hne : ¬ w.heap.size = b := by omega
 have nb := heap_alloc_new w (Obj.cells #[.int .i64 0, .int .i64 0, .int .i64 0, .int .i64 0, .bool false] 116)
 have nb6 : w6.heap[w.heap.size]? = some (Obj.cells #[.int .i64 0, .int .i64 0, .int .i64 0, .int .i64 0, .bool false] 116) := (T6.block w.heap.size (by simp) hne).trans nb
 obtain ⟨n1, e1⟩ : ∃ n, n = numIn s q d := ⟨_, rfl⟩
 obtain ⟨n2, e2⟩ : ∃ n, n = numIn s (q + d) d := ⟨_, rfl⟩
 obtain ⟨n3, e3⟩ : ∃ n, n = numIn s (q + d + d) c := ⟨_, rfl⟩
 obtain ⟨n4, e4⟩ : ∃ n, n = numIn s (q + d + d + c) c := ⟨_, rfl⟩
 obtain ⟨n5, e5⟩ : ∃ n, n = numIn s (q + d + d + c + c) z := ⟨_, rfl⟩
 obtain ⟨n6, e6⟩ : ∃ n, n = numIn s (q + d + d + c + c + z) z := ⟨_, rfl⟩
 rw [← e1, ← e2, ← e3, ← e4, ← e5, ← e6]
 have HN : Hid (n1 = numIn s q d ∧ n2 = numIn s (q + d) d ∧ n3 = numIn s (q + d + d) c ∧ n4 = numIn s (q + d + d + c) c ∧ n5 = numIn s (q + d + d + c + c) z ∧ n6 = numIn s (q + d + d + c + c + z) z) := ⟨e1, e2, e3, e4, e5, e6⟩
 clear e1 e2 e3 e4 e5 e6 nb
 have g0 : w6.cell? ⟨w.heap.size, 0, none⟩ = some (.int .i64 0) := by rw [row_cell nb6 0]; rfl
 have g1 : w6.cell? ⟨w.heap.size, 1, none⟩ = some (.int .i64 0) := by rw [row_cell nb6 1]; rfl
 have g2 : w6.cell? ⟨w.heap.size, 2, none⟩ = some (.int .i64 0) := by rw [row_cell nb6 2]; rfl
 have g3 : w6.cell? ⟨w.heap.size, 3, none⟩ = some (.int .i64 0) := by rw [row_cell nb6 3]; rfl
 have g4 : w6.cell? ⟨w.heap.size, 4, none⟩ = some (.bool false) := by rw [row_cell nb6 4]; rfl
 have fz : ∀ o, w6.frozen? ⟨w.heap.size, o, none⟩ = false := fun o => by rw [T6.frozen (p := ⟨w.heap.size, o, none⟩) (by simp) hne]; simp [go_sem]
 have TB : Touch (fun k => k = b) w w6 := ((Touch.refl (fun k => k = b) w).alloc _).trans T6
 have hsz : w.heap.size ≤ w6.heap.size := TB.size
 clear T6 nb6 h hne
 have FIN : Hid (∀ x : Bool, FR (((((w6.setCell ⟨w.heap.size, 0, none⟩ (.int .i64 n4)).setCell ⟨w.heap.size, 1, none⟩ (.int .i64 n5)).setCell ⟨w.heap.size, 2, none⟩ (.int .i64 n6)).setCell ⟨w.heap.size, 3, none⟩ (.int .i64 0)).setCell ⟨w.heap.size, 4, none⟩ (.bool x)) b s E (some (q + d + d + c + c + z + z)) ∧ Touch (fun k => k = b) w (((((w6.setCell ⟨w.heap.size, 0, none⟩ (.int .i64 n4)).setCell ⟨w.heap.size, 1, none⟩ (.int .i64 n5)).setCell ⟨w.heap.size, 2, none⟩ (.int .i64 n6)).setCell ⟨w.heap.size, 3, none⟩ (.int .i64 0)).setCell ⟨w.heap.size, 4, none⟩ (.bool x))) := by
  intro x
  have ne : ∀ o v, ∀ W : World, FR W b s E (some (q + d + d + c + c + z + z)) → FR (W.setCell ⟨w.heap.size, o, none⟩ v) b s E (some (q + d + d + c + c + z + z)) := fun o v W hW => hW.keep (S := fun k => k = w.heap.size) (touch_set W w.heap.size o v) (by show ¬ b = w.heap.size; omega)
  exact ⟨ne _ _ _ (ne _ _ _ (ne _ _ _ (ne _ _ _ (ne _ _ _ f6)))), ((((TB.setNew (Nat.le_refl _) _).setNew (Nat.le_refl _) _).setNew (Nat.le_refl _) _).setNew (Nat.le_refl _) _).setNew (Nat.le_refl _) _⟩
 by_cases z1 : n1 = 0
 ·have b1 : ((n1 : Int) == 0) = true := by simp; exact z1
  by_cases z2 : n2 = 0
  ·have b2 : ((n2 : Int) == 0) = true := by simp; exact z2
   by_cases z3 : n4 = n3
   ·have b3 : ((n4 : Int) == (n3 : Int)) = true := by simp; omega
    have HO : Hid (oneB n1 n2 n3 n4 = true) := by unfold Hid oneB; simp [z1, z2, z3]
    clear z1 z2 z3
    go_wp2
    refine bodyPost_ret (v := .agg #[.int .i64 n4, .int .i64 n5, .int .i64 n6, .int .i64 0, .bool true]) (by simp [results, Tryz.results66, go_sem, cell_set_if, g0, g1, g2, g3, g4]) rfl ⟨?_, FIN.out _⟩
    obtain ⟨e1, e2, e3, e4, e5, e6⟩ := HN.out
    rw [← e1, ← e2, ← e3, ← e4, ← e5, ← e6, HO.out]
   ·have b3 : ((n4 : Int) == (n3 : Int)) = false := by simp; omega
    have HO : Hid (oneB n1 n2 n3 n4 = false) := by unfold Hid oneB; simp [z1, z2, z3]
    clear z1 z2 z3
    go_wp2
    refine bodyPost_ret (v := .agg #[.int .i64 n4, .int .i64 n5, .int .i64 n6, .int .i64 0, .bool false]) (by simp [results, Tryz.results66, go_sem, cell_set_if, g0, g1, g2, g3, g4]) rfl ⟨?_, FIN.out _⟩
    obtain ⟨e1, e2, e3, e4, e5, e6⟩ := HN.out
    rw [← e1, ← e2, ← e3, ← e4, ← e5, ← e6, HO.out]
  ·have b2 : ((n2 : Int) == 0) = false := by simp; exact z2
   have HO : Hid (oneB n1 n2 n3 n4 = false) := by unfold Hid oneB; simp [z1, z2]
   clear z1 z2
   go_wp2
   refine bodyPost_ret (v := .agg #[.int .i64 n4, .int .i64 n5, .int .i64 n6, .int .i64 0, .bool false]) (by simp [results, Tryz.results66, go_sem, cell_set_if, g0, g1, g2, g3, g4]) rfl ⟨?_, FIN.out _⟩
   obtain ⟨e1, e2, e3, e4, e5, e6⟩ := HN.out
   rw [← e1, ← e2, ← e3, ← e4, ← e5, ← e6, HO.out]
 ·have b1 : ((n1 : Int) == 0) = false := by simp; exact z1
  have HO : Hid (oneB n1 n2 n3 n4 = false) := by unfold Hid oneB; simp [z1]
  clear z1
  go_wp2
  refine bodyPost_ret (v := .agg #[.int .i64 n4, .int .i64 n5, .int .i64 n6, .int .i64 0, .bool false]) (by simp [results, Tryz.results66, go_sem, cell_set_if, g0, g1, g2, g3, g4]) rfl ⟨?_, FIN.out _⟩
  obtain ⟨e1, e2, e3, e4, e5, e6⟩ := HN.out
  rw [← e1, ← e2, ← e3, ← e4, ← e5, ← e6, HO.out]
end Go.Proofs.YtnmkmmgaoplfiaaGreatDoor
namespace Go.Proofs.YtnmkmmgaoplfiaaGreatDoor
open Go.RowKit
theorem frozen_row {w : World} {b : Nat} {cs : Array Value} {t : TypeId} (h : w.heap[b]? = some (Obj.cells cs t)) (o : Nat) : w.frozen? ⟨b, o, none⟩ = false := by
 unfold World.frozen?; rw [h]; simp [go_sem]
def endOne (s : ByteArray) (p : Nat) : Bool := oneB (numIn s (p + 4) 2) (numIn s (p + 6) 2) (numIn s (p + 8) 2) (numIn s (p + 10) 2)
theorem readEnd_c (w : World) (s : ByteArray) (p : Nat) (hp : p + 22 ≤ s.size) (hs : s.size ≤ 140737488355328) :
  Calls Tryz.prog 45 #[.string s, .int .i64 (p : Int)] w fun e w' =>
   e = .returned (.agg #[.int .i64 (numIn s (p + 10) 2 : Nat), .int .i64 (numIn s (p + 12) 4 : Nat), .int .i64 (numIn s (p + 16) 4 : Nat), .int .i64 (p : Int), .bool (endOne s p)]) ∧ Touch (fun _ => False) w w' := by
 have c1 : (p : Int) + 4 ≤ (s.size : Int) := by omega
 have W1 : Touch (fun _ => False) w (w.alloc (Obj.cells #[.int .i64 0, .int .i64 0, .int .i64 0, .int .i64 0, .bool false] 116)) := (Touch.refl _ w).alloc _
 have f0 := FR.new (w.alloc (Obj.cells #[.int .i64 0, .int .i64 0, .int .i64 0, .int .i64 0, .bool false] 116)) s (p + 4) (by omega) _ rfl
 rw [World.size_alloc] at f0
 go_enter Tryz.func45, Tryz.ntmps45
 go_wp2_with fail
 refine (takeEnding_c _ _ s s.size (p + 4) 2 2 4 (by omega) (by omega) (by omega) f0 (by omega) hs).mono ?_
 rintro e w1 ⟨rfl, f1, t1⟩
 have T1 : Touch (fun _ => False) w w1 := (W1.alloc _).onNew t1 (by simp)
 have nb : w1.heap[w.heap.size]? = some (Obj.cells #[.int .i64 0, .int .i64 0, .int .i64 0, .int .i64 0, .bool false] 116) := by
  rw [t1.block w.heap.size (by simp; omega) (by simp)]
  exact (Below.heap_alloc _ _ _ (by simp)).trans (heap_alloc_new w _)
 have g0 : w1.cell? ⟨w.heap.size, 0, none⟩ = some (.int .i64 0) := by rw [row_cell nb 0]; rfl
 have g1 : w1.cell? ⟨w.heap.size, 1, none⟩ = some (.int .i64 0) := by rw [row_cell nb 1]; rfl
 have g2 : w1.cell? ⟨w.heap.size, 2, none⟩ = some (.int .i64 0) := by rw [row_cell nb 2]; rfl
 have g3 : w1.cell? ⟨w.heap.size, 3, none⟩ = some (.int .i64 0) := by rw [row_cell nb 3]; rfl
 have g4 : w1.cell? ⟨w.heap.size, 4, none⟩ = some (.bool false) := by rw [row_cell nb 4]; rfl
 have fz : ∀ o, w1.frozen? ⟨w.heap.size, o, none⟩ = false := fun o => by rw [t1.frozen (p := ⟨w.heap.size, o, none⟩) (by simp; omega) (by simp)]; simp [go_sem]
 have hsz : w.heap.size + 1 < w1.heap.size := World.block_lt_of_cell? w1 _ f1.rest
 have hs0 : w.heap.size < w1.heap.size := by omega
 clear hsz
 obtain ⟨n1, e1⟩ : ∃ n, n = numIn s (p + 4 + 2 + 2 + 2) 2 := ⟨_, rfl⟩
 obtain ⟨n2, e2⟩ : ∃ n, n = numIn s (p + 4 + 2 + 2 + 2 + 2) 4 := ⟨_, rfl⟩
 obtain ⟨n3, e3⟩ : ∃ n, n = numIn s (p + 4 + 2 + 2 + 2 + 2 + 4) 4 := ⟨_, rfl⟩
 obtain ⟨x, e4⟩ : ∃ x, x = oneB (numIn s (p + 4) 2) (numIn s (p + 4 + 2) 2) (numIn s (p + 4 + 2 + 2) 2) (numIn s (p + 4 + 2 + 2 + 2) 2) := ⟨_, rfl⟩
 have HN : Hid (n1 = numIn s (p + 10) 2 ∧ n2 = numIn s (p + 12) 4 ∧ n3 = numIn s (p + 16) 4 ∧ x = endOne s p) := ⟨e1, e2, e3, e4⟩
 rw [← e4, ← e1, ← e2, ← e3]
 clear e1 e2 e3 e4 nb t1 f0 f1 W1
 go_wp2
 refine bodyPost_ret (v := .agg #[.int .i64 n1, .int .i64 n2, .int .i64 n3, .int .i64 p, .bool x]) (by simp [results, Tryz.results45, go_sem, cell_set_if, size_setCell, hs0, g0, g1, g2, g3, g4]) rfl ⟨?_, ?_⟩
 ·obtain ⟨e1, e2, e3, e4⟩ := HN.out; rw [← e1, ← e2, ← e3, ← e4]
 ·exact (((((T1.setNew (Nat.le_refl _) _).setNew (Nat.le_refl _) _).setNew (Nat.le_refl _) _).setNew (Nat.le_refl _) _).setNew (Nat.le_refl _) _).alloc _
theorem isElsewhere_c (w : World) (n1 n2 n3 n4 : Nat) (x : Bool) :
  Calls Tryz.prog 46 #[.agg #[.int .i64 (n1 : Int), .int .i64 (n2 : Int), .int .i64 (n3 : Int), .int .i64 (n4 : Int), .bool x]] w fun e w' =>
   e = .returned (.bool (decide (n1 = 65535) || decide (n2 = 4294967295) || decide (n3 = 4294967295))) ∧ Touch (fun _ => False) w w' := by
 have T1 : Touch (fun _ => False) w (w.alloc (Obj.cells #[.int .i64 (n1 : Int), .int .i64 (n2 : Int), .int .i64 (n3 : Int), .int .i64 (n4 : Int), .bool x] 116)) := (Touch.refl _ w).alloc _
 by_cases h1 : n1 = 65535
 ·have b1 : ((n1 : Int) == 65535) = true := by simp; omega
  have HE : Hid ((decide (n1 = 65535) || decide (n2 = 4294967295) || decide (n3 = 4294967295)) = true) := by unfold Hid; rw [decide_eq_true h1]; rfl
  clear h1
  go_enter Tryz.func46, Tryz.ntmps46
  go_wp2
  go_ret
  exact ⟨by rw [HE.out]; rfl, T1⟩
 ·have b1 : ((n1 : Int) == 65535) = false := by simp; omega
  by_cases h2 : n2 = 4294967295
  ·have b2 : ((n2 : Int) == 4294967295) = true := by simp; omega
   have HE : Hid ((decide (n1 = 65535) || decide (n2 = 4294967295) || decide (n3 = 4294967295)) = true) := by unfold Hid; rw [decide_eq_true h2, Bool.or_true]; rfl
   clear h1 h2
   go_enter Tryz.func46, Tryz.ntmps46
   go_wp2
   go_ret
   exact ⟨by rw [HE.out]; rfl, T1⟩
  ·have b2 : ((n2 : Int) == 4294967295) = false := by simp; omega
   have HE : Hid ((decide (n1 = 65535) || decide (n2 = 4294967295) || decide (n3 = 4294967295)) = ((n3 : Int) == 4294967295)) := by
    unfold Hid; rw [decide_eq_false h1, decide_eq_false h2]; by_cases h3 : n3 = 4294967295 <;> simp [h3] <;> omega
   clear h1 h2
   go_enter Tryz.func46, Tryz.ntmps46
   go_wp2
   go_ret
   exact ⟨by rw [HE.out]; rfl, T1⟩
theorem findDirectory_plain (w : World) (s : ByteArray) (p : Nat) (hp : endFrom s 101 0 = some p) (hp22 : p + 22 ≤ s.size) (he : (decide (numIn s (p + 10) 2 = 65535) || decide (numIn s (p + 12) 4 = 4294967295) || decide (numIn s (p + 16) 4 = 4294967295)) = false) (ho : endOne s p = true) (hs : s.size ≤ 140737488355328) :
  Calls Tryz.prog 23 #[.string s] w fun e w' =>
   e = .returned (.tuple #[.agg #[.int .i64 (numIn s (p + 10) 2 : Nat), .int .i64 (numIn s (p + 12) 4 : Nat), .int .i64 (numIn s (p + 16) 4 : Nat), .int .i64 (p : Int)], .int .i64 0]) ∧ Touch (fun _ => False) w w' := by
 have hc := fun W => findEnd_c W s hs
 rw [hp] at hc
 have HC : Hid (∀ W, Calls Tryz.prog 44 #[.string s] W fun e w' => e = .returned (.tuple #[.int .i64 (p : Int), .bool true]) ∧ Touch (fun _ => False) W w') := hc
 clear hc hp
 have W1 : Touch (fun _ => False) w (w.alloc (Obj.cells #[.int .i64 0, .int .i64 0, .int .i64 0, .int .i64 0] 66)) := (Touch.refl _ w).alloc _
 have HN := fun W => readEnd_c W s p hp22 hs
 rw [ho] at HN
 have HI := fun W => isElsewhere_c W (numIn s (p + 10) 2) (numIn s (p + 12) 4) (numIn s (p + 16) 4) p true
 rw [he] at HI
 revert HN HI
 generalize numIn s (p + 10) 2 = n1
 generalize numIn s (p + 12) 4 = n2
 generalize numIn s (p + 16) 4 = n3
 intro HN HI
 have HN' : Hid (∀ W, Calls Tryz.prog 45 #[.string s, .int .i64 (p : Int)] W fun e w' => e = .returned (.agg #[.int .i64 (n1 : Int), .int .i64 (n2 : Int), .int .i64 (n3 : Int), .int .i64 (p : Int), .bool true]) ∧ Touch (fun _ => False) W w') := HN
 have HI' : Hid (∀ W, Calls Tryz.prog 46 #[.agg #[.int .i64 (n1 : Int), .int .i64 (n2 : Int), .int .i64 (n3 : Int), .int .i64 (p : Int), .bool true]] W fun e w' => e = .returned (.bool false) ∧ Touch (fun _ => False) W w') := HI
 clear HN HI he ho
 go_enter Tryz.func23, Tryz.ntmps23
 go_wp2_with fail
 refine (HC.out _).mono ?_
 rintro e w1 ⟨rfl, t1⟩
 have b1 : w1.heap[w.heap.size]? = some (Obj.cells #[.int .i64 0, .int .i64 0, .int .i64 0, .int .i64 0] 66) := (t1.block _ (by simp) (fun e => e)).trans (heap_alloc_new w _)
 have z1 : w.heap.size < w1.heap.size := by have := t1.size; simp at this; omega
 have T1 := W1.trans t1
 clear t1 W1
 go_wp2_with fail
 refine (HN'.out _).mono ?_
 rintro e w2 ⟨rfl, t2⟩
 have b2 := (t2.block _ z1 (fun e => e)).trans b1
 have z2 : w.heap.size < w2.heap.size := by have := t2.size; omega
 have T2 := T1.trans t2
 clear t2 T1 b1
 go_wp2_with fail
 refine (HI'.out _).mono ?_
 rintro e w3 ⟨rfl, t3⟩
 have T3 := (T2.alloc _).trans t3
 have z3 : w2.heap.size < w3.heap.size := by have := t3.size; simp at this; omega
 have z4 : w.heap.size < w3.heap.size := by omega
 have b3 := (t3.block w.heap.size (by simp; omega) (fun e => e)).trans ((Below.heap_alloc _ _ _ z2).trans b2)
 have b4 := (t3.block w2.heap.size (by simp) (fun e => e)).trans (heap_alloc_new w2 _)
 have g0 : w3.cell? ⟨w.heap.size, 0, none⟩ = some (.int .i64 0) := by rw [row_cell b3 0]; rfl
 have g1 : w3.cell? ⟨w.heap.size, 1, none⟩ = some (.int .i64 0) := by rw [row_cell b3 1]; rfl
 have g2 : w3.cell? ⟨w.heap.size, 2, none⟩ = some (.int .i64 0) := by rw [row_cell b3 2]; rfl
 have g3 : w3.cell? ⟨w.heap.size, 3, none⟩ = some (.int .i64 0) := by rw [row_cell b3 3]; rfl
 have q0 : w3.cell? ⟨w2.heap.size, 0, none⟩ = some (.int .i64 n1) := by rw [row_cell b4 0]; rfl
 have q1 : w3.cell? ⟨w2.heap.size, 1, none⟩ = some (.int .i64 n2) := by rw [row_cell b4 1]; rfl
 have q2 : w3.cell? ⟨w2.heap.size, 2, none⟩ = some (.int .i64 n3) := by rw [row_cell b4 2]; rfl
 have q3 : w3.cell? ⟨w2.heap.size, 3, none⟩ = some (.int .i64 p) := by rw [row_cell b4 3]; rfl
 have q4 : w3.cell? ⟨w2.heap.size, 4, none⟩ = some (.bool true) := by rw [row_cell b4 4]; rfl
 have fz : ∀ o, w3.frozen? ⟨w.heap.size, o, none⟩ = false := fun o => frozen_row b3 o
 clear t3 T2 b2 b3 b4 z3 z2 z1
 go_wp2
 refine bodyPost_ret (v := .tuple #[.agg #[.int .i64 n1, .int .i64 n2, .int .i64 n3, .int .i64 p], .int .i64 0]) (by simp [results, Tryz.results23, go_sem, cell_set_if, g0, g1, g2, g3]) rfl ⟨rfl, ?_⟩
 exact (((T3.setNew (Nat.le_refl _) _).setNew (Nat.le_refl _) _).setNew (Nat.le_refl _) _).setNew (Nat.le_refl _) _
end Go.Proofs.YtnmkmmgaoplfiaaGreatDoor
namespace Go.Proofs.YtnmkmmgaoplfiaaGreatDoor
open Go.RowKit
structure Dir where
 count : Nat
 size : Nat
 place : Nat
 stop : Nat
def elseB (s : ByteArray) (p : Nat) : Bool := decide (numIn s (p + 10) 2 = 65535) || decide (numIn s (p + 12) 4 = 4294967295) || decide (numIn s (p + 16) 4 = 4294967295)
def wideOk (s : ByteArray) (p : Nat) : Bool := decide (76 ≤ p) && (markB s (p - 76) 6 6 && decide (numIn s (p - 76 + 4) 8 = 44) && markB s (p - 76 + 56) 6 7 && decide (numIn s (p - 76 + 64) 8 = p - 76))
def wideOne (s : ByteArray) (p : Nat) : Bool := oneB (numIn s (p - 76 + 16) 4) (numIn s (p - 76 + 20) 4) (numIn s (p - 76 + 24) 8) (numIn s (p - 76 + 32) 8) && decide (numIn s (p - 76 + 60) 4 = 0) && decide (numIn s (p - 76 + 72) 4 = 1)
def dirOf (s : ByteArray) : Except Nat Dir := match endFrom s 101 0 with
 | none => .error 3
 | some p =>
  if elseB s p then
   if wideOk s p then
    if endOne s p && wideOne s p then .ok ⟨numIn s (p - 76 + 32) 8, numIn s (p - 76 + 40) 8, numIn s (p - 76 + 48) 8, p - 76⟩ else .error 4
   else .error 3
  else if endOne s p then .ok ⟨numIn s (p + 10) 2, numIn s (p + 12) 4, numIn s (p + 16) 4, p⟩ else .error 4
structure Ent where
 name : ByteArray
 method : Nat
 sum : Nat
 packed : Nat
 size : Nat
 ahead : Nat
 maker : Nat
 flags : Nat
 disk : Nat
 outer : Nat
 three : ByteArray
def wideGo (s : ByteArray) (stop : Nat) : Nat → Nat → Option (Nat × Nat) → Option (Option (Nat × Nat))
 | 0, p, found => if p < stop then none else some found
 | f + 1, p, found => if p < stop then
   (if p + 4 + numIn s (p + 2) 2 ≤ stop ∧ p + 4 ≤ stop then wideGo s stop f (p + 4 + numIn s (p + 2) 2) (if numIn s p 2 = 1 ∧ found = none then some (p + 4, p + 4 + numIn s (p + 2) 2) else found) else none)
  else some found
def meant (s : ByteArray) (stop : Nat) (c v : Nat) : Option (Nat × Nat) :=
 if v = 4294967295 then (if c + 8 ≤ stop ∧ numIn s c 8 ≤ 1099511627776 then some (numIn s c 8, c + 8) else none) else some (v, c)
def meantAll (s : ByteArray) (c stop z k a : Nat) : Option (Nat × Nat × Nat) :=
 (meant s stop c z).bind fun z => (meant s stop z.2 k).bind fun k => (meant s stop k.2 a).bind fun a => some (z.1, k.1, a.1)
def entAt (s : ByteArray) (E at_ : Nat) : Option (Ent × Nat) :=
 let n := numIn s (at_ + 28) 2
 let x := numIn s (at_ + 30) 2
 let c := numIn s (at_ + 32) 2
 if at_ + 46 ≤ E ∧ at_ + 46 + n + x + c ≤ E ∧ markB s at_ 1 2 = true then
  (wideGo s (at_ + 46 + n + x) (x + 1) (at_ + 46 + n) none).bind fun found =>
   (meantAll s (found.getD (0, 0)).1 (found.getD (0, 0)).2 (numIn s (at_ + 24) 4) (numIn s (at_ + 20) 4) (numIn s (at_ + 42) 4)).bind fun m =>
    some (⟨s.extract (at_ + 46) (at_ + 46 + n), numIn s (at_ + 10) 2, numIn s (at_ + 16) 4, m.2.1, m.1, m.2.2, numIn s (at_ + 4) 2, numIn s (at_ + 8) 2, numIn s (at_ + 34) 2, numIn s (at_ + 38) 4, s.extract (at_ + 16) (at_ + 28)⟩, at_ + 46 + n + x + c)
 else none
def partsGo : List UInt8 → List UInt8 → List (List UInt8)
 | [], part => [part]
 | c :: l, part => if c = 47 then part :: partsGo l [] else partsGo l (part ++ [c])
def folderB (s : ByteArray) : Bool := decide (s.toList.getLast? = some 47)
def bareL (s : ByteArray) : List UInt8 := if folderB s then s.toList.dropLast else s.toList
def byteOk (c : UInt8) : Bool := decide (32 ≤ c) && decide (c ≤ 126) && decide (c ≠ 92) && decide (c ≠ 58) && decide (c ≠ 34)
def partOk (p : List UInt8) : Bool := decide (p ≠ []) && decide (p ≠ [46]) && decide (p ≠ [46, 46])
def nameOk (s : ByteArray) : Bool := decide (s.size ≤ 60) && s.toList.all byteOk && (partsGo (bareL s) []).all partOk
def oddF (f : Nat) : Bool := decide (f &&& 63473 ≠ 0)
def linkB (e : Ent) : Bool := decide (e.maker / 256 = 3) && decide (e.outer / 268435456 = 10)
def faultOf (e : Ent) : Nat :=
 if e.disk ≠ 0 then 4
 else if oddF e.flags || (decide (e.method ≠ 0) && decide (e.method ≠ 8)) || linkB e then 6
 else if nameOk e.name = false then 7
 else if (folderB e.name && (decide (e.size ≠ 0) || decide (e.packed ≠ 0))) || (decide (e.method = 0) && decide (e.size ≠ e.packed)) then 11
 else 0
def entsGo (s : ByteArray) (E : Nat) : Nat → Nat → List Ent → Except Nat (List Ent)
 | 0, p, l => if p = E then .ok l else .error 5
 | f + 1, p, l => match entAt s E p with
  | none => .error 5
  | some (e, q) => if faultOf e = 0 then entsGo s E f q (l ++ [e]) else .error (faultOf e)
def leadsB (a b : List UInt8) : Bool := (a ++ [47]).isPrefixOf b
def clashB (a b : ByteArray) : Bool := decide (bareL a = bareL b) || (leadsB (bareL a) (bareL b) && !folderB a) || (leadsB (bareL b) (bareL a) && !folderB b)
def anyPair {α : Type} (r : α → α → Bool) : List α → Bool
 | [] => false
 | a :: l => l.any (r a) || anyPair r l
def laterB (e : Ent) : Bool := decide (e.flags / 8 % 2 = 1)
def spanAt (s : ByteArray) (P : Nat) (e : Ent) : Option (Nat × Nat) :=
 let a := e.ahead
 let n := numIn s (a + 26) 2
 let x := numIn s (a + 28) 2
 let b := a + 30 + n + x
 let t := b + e.packed + (if laterB e then 16 else 0)
 if a + 30 ≤ P ∧ t ≤ P ∧ markB s a 3 4 = true ∧ numIn s (a + 6) 2 = e.flags ∧ numIn s (a + 8) 2 = e.method ∧ s.extract (a + 30) (a + 30 + n) = e.name
   ∧ (s.extract (a + 14) (a + 26) = e.three ∨ (laterB e = true ∧ s.extract (a + 14) (a + 26) = ⟨#[0, 0, 0, 0, 0, 0, 0, 0, 0, 0, 0, 0]⟩))
   ∧ (laterB e = true → markB s (b + e.packed) 7 8 = true ∧ numIn s (b + e.packed + 4) 4 = e.sum ∧ numIn s (b + e.packed + 8) 4 = e.packed % 4294967296 ∧ numIn s (b + e.packed + 12) 4 = e.size % 4294967296) then
  some (b, t)
 else none
structure Spanned where
 ent : Ent
 place : Nat
 stop : Nat
def spansOf (s : ByteArray) (P : Nat) : List Ent → Option (List Spanned)
 | [] => some []
 | e :: l => (spanAt s P e).bind fun p => (spansOf s P l).bind fun r => some (⟨e, p.1, p.2⟩ :: r)
def overB (a b : Spanned) : Bool := decide (a.ent.ahead < b.stop) && decide (b.ent.ahead < a.stop)
def namesSum (l : List Ent) : Nat := (l.map fun e => e.name.size).sum
def sizesSum (l : List Ent) : Nat := (l.map fun e => e.size).sum
def listOf (s : ByteArray) (qe qn qb : Int) : Except Nat (List Spanned) := match dirOf s with
 | .error e => .error e
 | .ok d =>
  if qe < (d.count : Int) then .error 13
  else if ¬ (d.place ≤ d.stop ∧ d.size = d.stop - d.place) then .error 5
  else match entsGo s d.stop d.count d.place [] with
   | .error e => .error e
   | .ok l =>
    if qn < (namesSum l : Int) then .error 13
    else if anyPair (fun a b => clashB a.name b.name) l then .error 8
    else match spansOf s d.place l with
     | none => .error 9
     | some r =>
      if anyPair overB r then .error 10
      else if qb < (sizesSum l : Int) then .error 13
      else .ok r
end Go.Proofs.YtnmkmmgaoplfiaaGreatDoor
