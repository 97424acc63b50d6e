/- Sums of texts that are joined byte by byte are joined: the walk of 'Summed'. -/
import Derived.Test.YtobfkhapeejkfaaGreatDoorWAwake
namespace Go.Proofs.YtobfkhapeejkfaaGreatDoor
open Go.RowKit
set_option linter.unusedSimpArgs false
set_option linter.unusedVariables false

theorem tab_lin : ∀ a : Fin 16, ∀ b : Fin 16, tab (a.val ^^^ b.val) = tab a.val ^^^ tab b.val := by decide +kernel
theorem half1_xor (x y : Nat) : half1 (x ^^^ y) = half1 x ^^^ half1 y := by
  unfold half1
  have h1 : (x ^^^ y) / 16 = x / 16 ^^^ y / 16 := by
    have := Nat.shiftRight_xor_distrib (a := x) (b := y) (i := 4)
    simpa [Nat.shiftRight_eq_div_pow] using this
  have h2 : (x ^^^ y) % 16 = x % 16 ^^^ y % 16 := by
    have := Nat.xor_mod_two_pow (a := x) (b := y) (n := 4)
    simpa using this
  have h3 := tab_lin ⟨x % 16, by omega⟩ ⟨y % 16, by omega⟩
  simp only at h3
  rw [h1, h2, h3]
  ac_rfl
theorem stepB_xor (x y z : Nat) (p q r : UInt8) : stepB (x ^^^ y ^^^ z) (p ^^^ q ^^^ r) = stepB x p ^^^ stepB y q ^^^ stepB z r := by
  unfold stepB
  have e : (x ^^^ y ^^^ z) ^^^ (p ^^^ q ^^^ r).toNat = (x ^^^ p.toNat) ^^^ (y ^^^ q.toNat) ^^^ (z ^^^ r.toNat) := by
    rw [UInt8.toNat_xor, UInt8.toNat_xor]; ac_rfl
  rw [e]
  simp only [half1_xor]
/-- Three texts, joined byte by byte. -/
def join3 : List UInt8 → List UInt8 → List UInt8 → List UInt8
  | p :: a, q :: b, r :: c => (p ^^^ q ^^^ r) :: join3 a b c
  | _, _, _ => []
theorem fold3 : ∀ (a b c : List UInt8) (x y z : Nat), a.length = b.length → b.length = c.length → (join3 a b c).foldl stepB (x ^^^ y ^^^ z) = a.foldl stepB x ^^^ b.foldl stepB y ^^^ c.foldl stepB z
  | [], [], [], x, y, z, _, _ => rfl
  | p :: a, q :: b, r :: c, x, y, z, h1, h2 => by
    simp only [join3, List.foldl_cons, stepB_xor]
    exact fold3 a b c _ _ _ (by simpa using h1) (by simpa using h2)
  | [], q :: b, _, _, _, _, h1, _ => by simp at h1
  | p :: a, [], _, _, _, _, h1, _ => by simp at h1
  | _, [], r :: c, _, _, _, _, h2 => by simp at h2
  | _, q :: b, [], _, _, _, _, h2 => by simp at h2
theorem sum3 (a b c : List UInt8) (h1 : a.length = b.length) (h2 : b.length = c.length) : 4294967295 ^^^ sumGo (join3 a b c) = (4294967295 ^^^ sumGo a) ^^^ (4294967295 ^^^ sumGo b) ^^^ (4294967295 ^^^ sumGo c) := by
  have h := fold3 a b c 4294967295 4294967295 4294967295 h1 h2
  rw [Nat.xor_self, Nat.zero_xor] at h
  unfold sumGo
  rw [h]
  generalize a.foldl stepB 4294967295 = A
  generalize b.foldl stepB 4294967295 = B
  generalize c.foldl stepB 4294967295 = C
  have : (4294967295 ^^^ A) ^^^ (4294967295 ^^^ B) ^^^ (4294967295 ^^^ C) = (4294967295 ^^^ 4294967295) ^^^ (4294967295 ^^^ (A ^^^ B ^^^ C)) := by ac_rfl
  rw [this, Nat.xor_self, Nat.zero_xor]
theorem join3_snoc : ∀ (a b c : List UInt8) (p q r : UInt8), a.length = b.length → b.length = c.length → join3 (a ++ [p]) (b ++ [q]) (c ++ [r]) = join3 a b c ++ [p ^^^ q ^^^ r]
  | [], [], [], p, q, r, _, _ => rfl
  | _ :: a, _ :: b, _ :: c, p, q, r, h1, h2 => by
    simp only [List.cons_append, join3]
    rw [join3_snoc a b c p q r (by simpa using h1) (by simpa using h2)]
  | [], q :: b, _, _, _, _, h1, _ => by simp at h1
  | p :: a, [], _, _, _, _, h1, _ => by simp at h1
  | _, [], r :: c, _, _, _, _, h2 => by simp at h2
  | _, q :: b, [], _, _, _, _, h2 => by simp at h2
theorem join3_len : ∀ (a b c : List UInt8), a.length = b.length → b.length = c.length → (join3 a b c).length = a.length
  | [], [], [], _, _ => rfl
  | _ :: a, _ :: b, _ :: c, h1, h2 => by
    simp only [join3, List.length_cons]
    rw [join3_len a b c (by simpa using h1) (by simpa using h2)]
  | [], q :: b, _, h1, _ => by simp at h1
  | p :: a, [], _, h1, _ => by simp at h1
  | _, [], r :: c, _, h2 => by simp at h2
  | _, q :: b, [], _, h2 => by simp at h2

theorem len_take {a b : ByteArray} {k : Nat} (ha : k < a.size) (hb : k < b.size) : (a.data.toList.take k).length = (b.data.toList.take k).length := by
  have e1 : a.data.toList.length = a.size := Array.length_toList
  have e2 : b.data.toList.length = b.size := Array.length_toList
  rw [List.length_take, List.length_take]; omega

theorem str_snoc (D : List UInt8) (z : UInt8) : (ByteArray.mk D.toArray ++ ByteArray.mk #[z]) = ByteArray.mk (D ++ [z]).toArray := by
  apply ByteArray.ext
  simp
theorem part_data (a : ByteArray) (k : Nat) : (a.extract 0 k).data.toList = a.data.toList.take k := by
  rw [Lib.extract_data]; simp
theorem len_part (a : ByteArray) (k : Nat) (h : k ≤ a.size) : (a.data.toList.take k).length = k := by
  have e1 : a.data.toList.length = a.size := Array.length_toList
  rw [List.length_take]; omega
theorem sumOf_lt (s : ByteArray) : sumOf s < 4294967296 := Nat.xor_lt_two_pow (n := 32) (by omega) (sumGo_lt _)

set_option maxRecDepth 100000 in
set_option maxHeartbeats 2000000 in
theorem summed_c (w : World) (a b c : ByteArray) (ha : a.size ≤ 9223372036854775807) (hb : b.size ≤ 9223372036854775807) (hc : c.size ≤ 9223372036854775807) (ho : Ord w) (h0 : 0 < w.heap.size) :
    Calls Tryz.prog 5 #[.string a, .string b, .string c] w fun e w' => e = .returned (.bool true) ∧ Below w.heap.size w w' := by
  go_enter Tryz.func5, Tryz.ntmps5
  go_wp2_with fail
  refine (awake_c w ho h0).mono ?_
  rintro e w1 ⟨rfl, b1⟩
  by_cases h1 : b.size < a.size
  · by_cases h2 : c.size < b.size
    · go_wp2
      obtain ⟨N, hN⟩ : ∃ N, N = c.size := ⟨_, rfl⟩
      have na : N ≤ a.size := by omega
      have nb : N ≤ b.size := by omega
      have nc : N ≤ c.size := by omega
      have n0 : N ≤ 9223372036854775807 := by omega
      rw [← hN]
      clear hN h1 h2
      go_loopw [9, 10] (fun d i wr => ∃ k : Nat, k ≤ N ∧ i = .int .i64 (k : Int) ∧ d = .string ⟨(join3 (a.data.toList.take k) (b.data.toList.take k) (c.data.toList.take k)).toArray⟩ ∧ Below w.heap.size w wr) (fun _ i _ => N - (intOf i).toNat)
      case atStart => exact ⟨0, Nat.zero_le _, rfl, rfl, b1⟩
      case round =>
        clear b1
        obtain ⟨k, hk, rfl, rfl, hbl⟩ := hrel
        by_cases hlt : k < N
        · have ka : k < a.size := by omega
          have kb : k < b.size := by omega
          have kc : k < c.size := by omega
          obtain ⟨D, hD⟩ : ∃ D, D = join3 (a.data.toList.take k) (b.data.toList.take k) (c.data.toList.take k) := ⟨_, rfl⟩
          have HD : Hid (join3 (a.data.toList.take (k + 1)) (b.data.toList.take (k + 1)) (c.data.toList.take (k + 1)) = D ++ [a[k] ^^^ b[k] ^^^ c[k]]) := by
            unfold Hid; rw [take_snoc a k ka, take_snoc b k kb, take_snoc c k kc, join3_snoc _ _ _ _ _ _ (len_take ka kb) (len_take kb kc), hD]
          have dl : D.length ≤ k := by rw [hD, join3_len _ _ _ (len_take ka kb) (len_take kb kc)]; exact List.length_take_le _ _
          have dx : ¬ 9223372036854775807 < D.length + 1 := by omega
          rw [← hD]
          clear hD
          obtain ⟨u, hu⟩ : ∃ u : UInt8, u = a[k] ^^^ b[k] := ⟨_, rfl⟩
          obtain ⟨z, hz⟩ : ∃ z : UInt8, z = u ^^^ c[k] := ⟨_, rfl⟩
          have a1 : bits BinOp.xor IntKind.u8 (a[k].toNat : Int) (b[k].toNat : Int) = (u.toNat : Int) := by
            rw [hu, UInt8.toNat_xor]; exact u8_xor_nat _ _ (by have := a[k].toNat_lt; omega) (by have := b[k].toNat_lt; omega)
          have a2 : bits BinOp.xor IntKind.u8 (u.toNat : Int) (c[k].toNat : Int) = (z.toNat : Int) := by
            rw [hz, UInt8.toNat_xor]; exact u8_xor_nat _ _ (by have := u.toNat_lt; omega) (by have := c[k].toNat_lt; omega)
          have HZ : Hid (a[k] ^^^ b[k] ^^^ c[k] = z) := by unfold Hid; rw [hz, hu]
          clear hu hz
          have cv : (convert 34 9 (.slice (some ⟨wr.heap.size, 0, none⟩) 1 1)).run Tryz.prog ((wr.alloc (.cells #[.int .u8 (z.toNat : Int)] 5)).drew) = .ok (.string ⟨#[z]⟩) ((wr.alloc (.cells #[.int .u8 (z.toNat : Int)] 5)).drew) :=
            out_str (base := wr.heap.size) (out := [z]) (W := (wr.alloc (.cells #[.int .u8 (z.toNat : Int)] 5)).drew) ⟨rfl, .inr ⟨wr.heap.size, 1, _, rfl, Nat.le_refl _, heap_alloc_new wr _, Nat.le_refl _, by unfold maxLen; omega, rfl, rfl⟩⟩ rfl
          go_wp2
          go_region
          all_goals go_wp2
          all_goals
            go_roundw
            case rel => exact ⟨k + 1, by omega, by go_num, by rw [HD.out, HZ.out, str_snoc], (hbl.alloc hbl.size _).drew⟩
            case measure => simp [intOf]; omega
        · obtain rfl : k = N := by omega
          have la := len_part a k na
          have lb := len_part b k nb
          have lc := len_part c k nc
          obtain ⟨D, hD⟩ : ∃ D : ByteArray, D = ⟨(join3 (a.data.toList.take k) (b.data.toList.take k) (c.data.toList.take k)).toArray⟩ := ⟨_, rfl⟩
          have Dl : D.size ≤ maxLen := by
            rw [hD]
            show (join3 _ _ _).toArray.size ≤ maxLen
            rw [List.size_toArray, join3_len _ _ _ (by rw [la, lb]) (by rw [lb, lc]), la]; unfold maxLen; omega
          have HS : Hid (sumOf D = sumOf (a.extract 0 k) ^^^ sumOf (b.extract 0 k) ^^^ sumOf (c.extract 0 k)) := by
            unfold Hid sumOf
            rw [hD, part_data a k, part_data b k, part_data c k]
            exact sum3 _ _ _ (by rw [la, lb]) (by rw [lb, lc])
          rw [← hD]
          clear hD la lb lc
          have ea : (a.extract 0 k).size ≤ maxLen := by simp; unfold maxLen; omega
          have eb : (b.extract 0 k).size ≤ maxLen := by simp; unfold maxLen; omega
          have ec : (c.extract 0 k).size ≤ maxLen := by simp; unfold maxLen; omega
          obtain ⟨X, hX⟩ : ∃ X, X = sumOf (a.extract 0 k) := ⟨_, rfl⟩
          obtain ⟨Y, hY⟩ : ∃ Y, Y = sumOf (b.extract 0 k) := ⟨_, rfl⟩
          obtain ⟨Z, hZ⟩ : ∃ Z, Z = sumOf (c.extract 0 k) := ⟨_, rfl⟩
          have lx : X < 4294967296 := by rw [hX]; exact sumOf_lt _
          have ly : Y < 4294967296 := by rw [hY]; exact sumOf_lt _
          have lz : Z < 4294967296 := by rw [hZ]; exact sumOf_lt _
          have HX : Hid ((X : Int) = ((sumOf (a.extract 0 k) : Nat) : Int)) := by unfold Hid; rw [hX]
          have HY : Hid ((Y : Int) = ((sumOf (b.extract 0 k) : Nat) : Int)) := by unfold Hid; rw [hY]
          have HZ : Hid ((Z : Int) = ((sumOf (c.extract 0 k) : Nat) : Int)) := by unfold Hid; rw [hZ]
          have HT : Hid (((X ^^^ Y ^^^ Z : Nat) : Int) = ((sumOf D : Nat) : Int)) := by unfold Hid; rw [HS.out, hX, hY, hZ]
          clear hX hY hZ HS
          obtain ⟨U, hU⟩ : ∃ U, U = X ^^^ Y := ⟨_, rfl⟩
          obtain ⟨V, hV⟩ : ∃ V, V = U ^^^ Z := ⟨_, rfl⟩
          have lu : U < 4294967296 := by rw [hU]; exact Nat.xor_lt_two_pow (n := 32) lx ly
          have x1 : bits BinOp.xor IntKind.u32 (X : Int) (Y : Int) = (U : Int) := by rw [hU]; exact u32_xor_nat X Y lx ly
          have x2 : bits BinOp.xor IntKind.u32 (U : Int) (Z : Int) = (V : Int) := by rw [hV]; exact u32_xor_nat U Z lu lz
          have HV : Hid ((V : Int) = ((sumOf D : Nat) : Int)) := by unfold Hid; rw [hV, hU]; exact HT.out
          clear hU hV HT
          go_wp2_with fail
          refine (sum_e wr _ (X : Int) HX.out ea).mono ?_
          rintro e w2 ⟨rfl, b2⟩
          have B2 := bNext hbl b2
          go_wp2_with fail
          refine (sum_e w2 _ (Y : Int) HY.out eb).mono ?_
          rintro e w3 ⟨rfl, b3⟩
          have B3 := bNext B2 b3
          go_wp2_with fail
          refine (sum_e w3 _ (Z : Int) HZ.out ec).mono ?_
          rintro e w4 ⟨rfl, b4⟩
          have B4 := bNext B3 b4
          go_wp2_with fail
          refine (sum_e w4 _ (V : Int) HV.out Dl).mono ?_
          rintro e w5 ⟨rfl, b5⟩
          have B5 := bNext B4 b5
          clear B2 B3 B4 b2 b3 b4 b5 hbl
          go_wp2
          go_ret
          exact ⟨by simp, B5⟩
    · go_wp2
      obtain ⟨N, hN⟩ : ∃ N, N = b.size := ⟨_, rfl⟩
      have na : N ≤ a.size := by omega
      have nb : N ≤ b.size := by omega
      have nc : N ≤ c.size := by omega
      have n0 : N ≤ 9223372036854775807 := by omega
      rw [← hN]
      clear hN h1 h2
      go_loopw [9, 10] (fun d i wr => ∃ k : Nat, k ≤ N ∧ i = .int .i64 (k : Int) ∧ d = .string ⟨(join3 (a.data.toList.take k) (b.data.toList.take k) (c.data.toList.take k)).toArray⟩ ∧ Below w.heap.size w wr) (fun _ i _ => N - (intOf i).toNat)
      case atStart => exact ⟨0, Nat.zero_le _, rfl, rfl, b1⟩
      case round =>
        clear b1
        obtain ⟨k, hk, rfl, rfl, hbl⟩ := hrel
        by_cases hlt : k < N
        · have ka : k < a.size := by omega
          have kb : k < b.size := by omega
          have kc : k < c.size := by omega
          obtain ⟨D, hD⟩ : ∃ D, D = join3 (a.data.toList.take k) (b.data.toList.take k) (c.data.toList.take k) := ⟨_, rfl⟩
          have HD : Hid (join3 (a.data.toList.take (k + 1)) (b.data.toList.take (k + 1)) (c.data.toList.take (k + 1)) = D ++ [a[k] ^^^ b[k] ^^^ c[k]]) := by
            unfold Hid; rw [take_snoc a k ka, take_snoc b k kb, take_snoc c k kc, join3_snoc _ _ _ _ _ _ (len_take ka kb) (len_take kb kc), hD]
          have dl : D.length ≤ k := by rw [hD, join3_len _ _ _ (len_take ka kb) (len_take kb kc)]; exact List.length_take_le _ _
          have dx : ¬ 9223372036854775807 < D.length + 1 := by omega
          rw [← hD]
          clear hD
          obtain ⟨u, hu⟩ : ∃ u : UInt8, u = a[k] ^^^ b[k] := ⟨_, rfl⟩
          obtain ⟨z, hz⟩ : ∃ z : UInt8, z = u ^^^ c[k] := ⟨_, rfl⟩
          have a1 : bits BinOp.xor IntKind.u8 (a[k].toNat : Int) (b[k].toNat : Int) = (u.toNat : Int) := by
            rw [hu, UInt8.toNat_xor]; exact u8_xor_nat _ _ (by have := a[k].toNat_lt; omega) (by have := b[k].toNat_lt; omega)
          have a2 : bits BinOp.xor IntKind.u8 (u.toNat : Int) (c[k].toNat : Int) = (z.toNat : Int) := by
            rw [hz, UInt8.toNat_xor]; exact u8_xor_nat _ _ (by have := u.toNat_lt; omega) (by have := c[k].toNat_lt; omega)
          have HZ : Hid (a[k] ^^^ b[k] ^^^ c[k] = z) := by unfold Hid; rw [hz, hu]
          clear hu hz
          have cv : (convert 34 9 (.slice (some ⟨wr.heap.size, 0, none⟩) 1 1)).run Tryz.prog ((wr.alloc (.cells #[.int .u8 (z.toNat : Int)] 5)).drew) = .ok (.string ⟨#[z]⟩) ((wr.alloc (.cells #[.int .u8 (z.toNat : Int)] 5)).drew) :=
            out_str (base := wr.heap.size) (out := [z]) (W := (wr.alloc (.cells #[.int .u8 (z.toNat : Int)] 5)).drew) ⟨rfl, .inr ⟨wr.heap.size, 1, _, rfl, Nat.le_refl _, heap_alloc_new wr _, Nat.le_refl _, by unfold maxLen; omega, rfl, rfl⟩⟩ rfl
          go_wp2
          go_region
          all_goals go_wp2
          all_goals
            go_roundw
            case rel => exact ⟨k + 1, by omega, by go_num, by rw [HD.out, HZ.out, str_snoc], (hbl.alloc hbl.size _).drew⟩
            case measure => simp [intOf]; omega
        · obtain rfl : k = N := by omega
          have la := len_part a k na
          have lb := len_part b k nb
          have lc := len_part c k nc
          obtain ⟨D, hD⟩ : ∃ D : ByteArray, D = ⟨(join3 (a.data.toList.take k) (b.data.toList.take k) (c.data.toList.take k)).toArray⟩ := ⟨_, rfl⟩
          have Dl : D.size ≤ maxLen := by
            rw [hD]
            show (join3 _ _ _).toArray.size ≤ maxLen
            rw [List.size_toArray, join3_len _ _ _ (by rw [la, lb]) (by rw [lb, lc]), la]; unfold maxLen; omega
          have HS : Hid (sumOf D = sumOf (a.extract 0 k) ^^^ sumOf (b.extract 0 k) ^^^ sumOf (c.extract 0 k)) := by
            unfold Hid sumOf
            rw [hD, part_data a k, part_data b k, part_data c k]
            exact sum3 _ _ _ (by rw [la, lb]) (by rw [lb, lc])
          rw [← hD]
          clear hD la lb lc
          have ea : (a.extract 0 k).size ≤ maxLen := by simp; unfold maxLen; omega
          have eb : (b.extract 0 k).size ≤ maxLen := by simp; unfold maxLen; omega
          have ec : (c.extract 0 k).size ≤ maxLen := by simp; unfold maxLen; omega
          obtain ⟨X, hX⟩ : ∃ X, X = sumOf (a.extract 0 k) := ⟨_, rfl⟩
          obtain ⟨Y, hY⟩ : ∃ Y, Y = sumOf (b.extract 0 k) := ⟨_, rfl⟩
          obtain ⟨Z, hZ⟩ : ∃ Z, Z = sumOf (c.extract 0 k) := ⟨_, rfl⟩
          have lx : X < 4294967296 := by rw [hX]; exact sumOf_lt _
          have ly : Y < 4294967296 := by rw [hY]; exact sumOf_lt _
          have lz : Z < 4294967296 := by rw [hZ]; exact sumOf_lt _
          have HX : Hid ((X : Int) = ((sumOf (a.extract 0 k) : Nat) : Int)) := by unfold Hid; rw [hX]
          have HY : Hid ((Y : Int) = ((sumOf (b.extract 0 k) : Nat) : Int)) := by unfold Hid; rw [hY]
          have HZ : Hid ((Z : Int) = ((sumOf (c.extract 0 k) : Nat) : Int)) := by unfold Hid; rw [hZ]
          have HT : Hid (((X ^^^ Y ^^^ Z : Nat) : Int) = ((sumOf D : Nat) : Int)) := by unfold Hid; rw [HS.out, hX, hY, hZ]
          clear hX hY hZ HS
          obtain ⟨U, hU⟩ : ∃ U, U = X ^^^ Y := ⟨_, rfl⟩
          obtain ⟨V, hV⟩ : ∃ V, V = U ^^^ Z := ⟨_, rfl⟩
          have lu : U < 4294967296 := by rw [hU]; exact Nat.xor_lt_two_pow (n := 32) lx ly
          have x1 : bits BinOp.xor IntKind.u32 (X : Int) (Y : Int) = (U : Int) := by rw [hU]; exact u32_xor_nat X Y lx ly
          have x2 : bits BinOp.xor IntKind.u32 (U : Int) (Z : Int) = (V : Int) := by rw [hV]; exact u32_xor_nat U Z lu lz
          have HV : Hid ((V : Int) = ((sumOf D : Nat) : Int)) := by unfold Hid; rw [hV, hU]; exact HT.out
          clear hU hV HT
          go_wp2_with fail
          refine (sum_e wr _ (X : Int) HX.out ea).mono ?_
          rintro e w2 ⟨rfl, b2⟩
          have B2 := bNext hbl b2
          go_wp2_with fail
          refine (sum_e w2 _ (Y : Int) HY.out eb).mono ?_
          rintro e w3 ⟨rfl, b3⟩
          have B3 := bNext B2 b3
          go_wp2_with fail
          refine (sum_e w3 _ (Z : Int) HZ.out ec).mono ?_
          rintro e w4 ⟨rfl, b4⟩
          have B4 := bNext B3 b4
          go_wp2_with fail
          refine (sum_e w4 _ (V : Int) HV.out Dl).mono ?_
          rintro e w5 ⟨rfl, b5⟩
          have B5 := bNext B4 b5
          clear B2 B3 B4 b2 b3 b4 b5 hbl
          go_wp2
          go_ret
          exact ⟨by simp, B5⟩
  · by_cases h2 : c.size < a.size
    · go_wp2
      obtain ⟨N, hN⟩ : ∃ N, N = c.size := ⟨_, rfl⟩
      have na : N ≤ a.size := by omega
      have nb : N ≤ b.size := by omega
      have nc : N ≤ c.size := by omega
      have n0 : N ≤ 9223372036854775807 := by omega
      rw [← hN]
      clear hN h1 h2
      go_loopw [9, 10] (fun d i wr => ∃ k : Nat, k ≤ N ∧ i = .int .i64 (k : Int) ∧ d = .string ⟨(join3 (a.data.toList.take k) (b.data.toList.take k) (c.data.toList.take k)).toArray⟩ ∧ Below w.heap.size w wr) (fun _ i _ => N - (intOf i).toNat)
      case atStart => exact ⟨0, Nat.zero_le _, rfl, rfl, b1⟩
      case round =>
        clear b1
        obtain ⟨k, hk, rfl, rfl, hbl⟩ := hrel
        by_cases hlt : k < N
        · have ka : k < a.size := by omega
          have kb : k < b.size := by omega
          have kc : k < c.size := by omega
          obtain ⟨D, hD⟩ : ∃ D, D = join3 (a.data.toList.take k) (b.data.toList.take k) (c.data.toList.take k) := ⟨_, rfl⟩
          have HD : Hid (join3 (a.data.toList.take (k + 1)) (b.data.toList.take (k + 1)) (c.data.toList.take (k + 1)) = D ++ [a[k] ^^^ b[k] ^^^ c[k]]) := by
            unfold Hid; rw [take_snoc a k ka, take_snoc b k kb, take_snoc c k kc, join3_snoc _ _ _ _ _ _ (len_take ka kb) (len_take kb kc), hD]
          have dl : D.length ≤ k := by rw [hD, join3_len _ _ _ (len_take ka kb) (len_take kb kc)]; exact List.length_take_le _ _
          have dx : ¬ 9223372036854775807 < D.length + 1 := by omega
          rw [← hD]
          clear hD
          obtain ⟨u, hu⟩ : ∃ u : UInt8, u = a[k] ^^^ b[k] := ⟨_, rfl⟩
          obtain ⟨z, hz⟩ : ∃ z : UInt8, z = u ^^^ c[k] := ⟨_, rfl⟩
          have a1 : bits BinOp.xor IntKind.u8 (a[k].toNat : Int) (b[k].toNat : Int) = (u.toNat : Int) := by
            rw [hu, UInt8.toNat_xor]; exact u8_xor_nat _ _ (by have := a[k].toNat_lt; omega) (by have := b[k].toNat_lt; omega)
          have a2 : bits BinOp.xor IntKind.u8 (u.toNat : Int) (c[k].toNat : Int) = (z.toNat : Int) := by
            rw [hz, UInt8.toNat_xor]; exact u8_xor_nat _ _ (by have := u.toNat_lt; omega) (by have := c[k].toNat_lt; omega)
          have HZ : Hid (a[k] ^^^ b[k] ^^^ c[k] = z) := by unfold Hid; rw [hz, hu]
          clear hu hz
          have cv : (convert 34 9 (.slice (some ⟨wr.heap.size, 0, none⟩) 1 1)).run Tryz.prog ((wr.alloc (.cells #[.int .u8 (z.toNat : Int)] 5)).drew) = .ok (.string ⟨#[z]⟩) ((wr.alloc (.cells #[.int .u8 (z.toNat : Int)] 5)).drew) :=
            out_str (base := wr.heap.size) (out := [z]) (W := (wr.alloc (.cells #[.int .u8 (z.toNat : Int)] 5)).drew) ⟨rfl, .inr ⟨wr.heap.size, 1, _, rfl, Nat.le_refl _, heap_alloc_new wr _, Nat.le_refl _, by unfold maxLen; omega, rfl, rfl⟩⟩ rfl
          go_wp2
          go_region
          all_goals go_wp2
          all_goals
            go_roundw
            case rel => exact ⟨k + 1, by omega, by go_num, by rw [HD.out, HZ.out, str_snoc], (hbl.alloc hbl.size _).drew⟩
            case measure => simp [intOf]; omega
        · obtain rfl : k = N := by omega
          have la := len_part a k na
          have lb := len_part b k nb
          have lc := len_part c k nc
          obtain ⟨D, hD⟩ : ∃ D : ByteArray, D = ⟨(join3 (a.data.toList.take k) (b.data.toList.take k) (c.data.toList.take k)).toArray⟩ := ⟨_, rfl⟩
          have Dl : D.size ≤ maxLen := by
            rw [hD]
            show (join3 _ _ _).toArray.size ≤ maxLen
            rw [List.size_toArray, join3_len _ _ _ (by rw [la, lb]) (by rw [lb, lc]), la]; unfold maxLen; omega
          have HS : Hid (sumOf D = sumOf (a.extract 0 k) ^^^ sumOf (b.extract 0 k) ^^^ sumOf (c.extract 0 k)) := by
            unfold Hid sumOf
            rw [hD, part_data a k, part_data b k, part_data c k]
            exact sum3 _ _ _ (by rw [la, lb]) (by rw [lb, lc])
          rw [← hD]
          clear hD la lb lc
          have ea : (a.extract 0 k).size ≤ maxLen := by simp; unfold maxLen; omega
          have eb : (b.extract 0 k).size ≤ maxLen := by simp; unfold maxLen; omega
          have ec : (c.extract 0 k).size ≤ maxLen := by simp; unfold maxLen; omega
          obtain ⟨X, hX⟩ : ∃ X, X = sumOf (a.extract 0 k) := ⟨_, rfl⟩
          obtain ⟨Y, hY⟩ : ∃ Y, Y = sumOf (b.extract 0 k) := ⟨_, rfl⟩
          obtain ⟨Z, hZ⟩ : ∃ Z, Z = sumOf (c.extract 0 k) := ⟨_, rfl⟩
          have lx : X < 4294967296 := by rw [hX]; exact sumOf_lt _
          have ly : Y < 4294967296 := by rw [hY]; exact sumOf_lt _
          have lz : Z < 4294967296 := by rw [hZ]; exact sumOf_lt _
          have HX : Hid ((X : Int) = ((sumOf (a.extract 0 k) : Nat) : Int)) := by unfold Hid; rw [hX]
          have HY : Hid ((Y : Int) = ((sumOf (b.extract 0 k) : Nat) : Int)) := by unfold Hid; rw [hY]
          have HZ : Hid ((Z : Int) = ((sumOf (c.extract 0 k) : Nat) : Int)) := by unfold Hid; rw [hZ]
          have HT : Hid (((X ^^^ Y ^^^ Z : Nat) : Int) = ((sumOf D : Nat) : Int)) := by unfold Hid; rw [HS.out, hX, hY, hZ]
          clear hX hY hZ HS
          obtain ⟨U, hU⟩ : ∃ U, U = X ^^^ Y := ⟨_, rfl⟩
          obtain ⟨V, hV⟩ : ∃ V, V = U ^^^ Z := ⟨_, rfl⟩
          have lu : U < 4294967296 := by rw [hU]; exact Nat.xor_lt_two_pow (n := 32) lx ly
          have x1 : bits BinOp.xor IntKind.u32 (X : Int) (Y : Int) = (U : Int) := by rw [hU]; exact u32_xor_nat X Y lx ly
          have x2 : bits BinOp.xor IntKind.u32 (U : Int) (Z : Int) = (V : Int) := by rw [hV]; exact u32_xor_nat U Z lu lz
          have HV : Hid ((V : Int) = ((sumOf D : Nat) : Int)) := by unfold Hid; rw [hV, hU]; exact HT.out
          clear hU hV HT
          go_wp2_with fail
          refine (sum_e wr _ (X : Int) HX.out ea).mono ?_
          rintro e w2 ⟨rfl, b2⟩
          have B2 := bNext hbl b2
          go_wp2_with fail
          refine (sum_e w2 _ (Y : Int) HY.out eb).mono ?_
          rintro e w3 ⟨rfl, b3⟩
          have B3 := bNext B2 b3
          go_wp2_with fail
          refine (sum_e w3 _ (Z : Int) HZ.out ec).mono ?_
          rintro e w4 ⟨rfl, b4⟩
          have B4 := bNext B3 b4
          go_wp2_with fail
          refine (sum_e w4 _ (V : Int) HV.out Dl).mono ?_
          rintro e w5 ⟨rfl, b5⟩
          have B5 := bNext B4 b5
          clear B2 B3 B4 b2 b3 b4 b5 hbl
          go_wp2
          go_ret
          exact ⟨by simp, B5⟩
    · go_wp2
      obtain ⟨N, hN⟩ : ∃ N, N = a.size := ⟨_, rfl⟩
      have na : N ≤ a.size := by omega
      have nb : N ≤ b.size := by omega
      have nc : N ≤ c.size := by omega
      have n0 : N ≤ 9223372036854775807 := by omega
      rw [← hN]
      clear hN h1 h2
      go_loopw [9, 10] (fun d i wr => ∃ k : Nat, k ≤ N ∧ i = .int .i64 (k : Int) ∧ d = .string ⟨(join3 (a.data.toList.take k) (b.data.toList.take k) (c.data.toList.take k)).toArray⟩ ∧ Below w.heap.size w wr) (fun _ i _ => N - (intOf i).toNat)
      case atStart => exact ⟨0, Nat.zero_le _, rfl, rfl, b1⟩
      case round =>
        clear b1
        obtain ⟨k, hk, rfl, rfl, hbl⟩ := hrel
        by_cases hlt : k < N
        · have ka : k < a.size := by omega
          have kb : k < b.size := by omega
          have kc : k < c.size := by omega
          obtain ⟨D, hD⟩ : ∃ D, D = join3 (a.data.toList.take k) (b.data.toList.take k) (c.data.toList.take k) := ⟨_, rfl⟩
          have HD : Hid (join3 (a.data.toList.take (k + 1)) (b.data.toList.take (k + 1)) (c.data.toList.take (k + 1)) = D ++ [a[k] ^^^ b[k] ^^^ c[k]]) := by
            unfold Hid; rw [take_snoc a k ka, take_snoc b k kb, take_snoc c k kc, join3_snoc _ _ _ _ _ _ (len_take ka kb) (len_take kb kc), hD]
          have dl : D.length ≤ k := by rw [hD, join3_len _ _ _ (len_take ka kb) (len_take kb kc)]; exact List.length_take_le _ _
          have dx : ¬ 9223372036854775807 < D.length + 1 := by omega
          rw [← hD]
          clear hD
          obtain ⟨u, hu⟩ : ∃ u : UInt8, u = a[k] ^^^ b[k] := ⟨_, rfl⟩
          obtain ⟨z, hz⟩ : ∃ z : UInt8, z = u ^^^ c[k] := ⟨_, rfl⟩
          have a1 : bits BinOp.xor IntKind.u8 (a[k].toNat : Int) (b[k].toNat : Int) = (u.toNat : Int) := by
            rw [hu, UInt8.toNat_xor]; exact u8_xor_nat _ _ (by have := a[k].toNat_lt; omega) (by have := b[k].toNat_lt; omega)
          have a2 : bits BinOp.xor IntKind.u8 (u.toNat : Int) (c[k].toNat : Int) = (z.toNat : Int) := by
            rw [hz, UInt8.toNat_xor]; exact u8_xor_nat _ _ (by have := u.toNat_lt; omega) (by have := c[k].toNat_lt; omega)
          have HZ : Hid (a[k] ^^^ b[k] ^^^ c[k] = z) := by unfold Hid; rw [hz, hu]
          clear hu hz
          have cv : (convert 34 9 (.slice (some ⟨wr.heap.size, 0, none⟩) 1 1)).run Tryz.prog ((wr.alloc (.cells #[.int .u8 (z.toNat : Int)] 5)).drew) = .ok (.string ⟨#[z]⟩) ((wr.alloc (.cells #[.int .u8 (z.toNat : Int)] 5)).drew) :=
            out_str (base := wr.heap.size) (out := [z]) (W := (wr.alloc (.cells #[.int .u8 (z.toNat : Int)] 5)).drew) ⟨rfl, .inr ⟨wr.heap.size, 1, _, rfl, Nat.le_refl _, heap_alloc_new wr _, Nat.le_refl _, by unfold maxLen; omega, rfl, rfl⟩⟩ rfl
          go_wp2
          go_region
          all_goals go_wp2
          all_goals
            go_roundw
            case rel => exact ⟨k + 1, by omega, by go_num, by rw [HD.out, HZ.out, str_snoc], (hbl.alloc hbl.size _).drew⟩
            case measure => simp [intOf]; omega
        · obtain rfl : k = N := by omega
          have la := len_part a k na
          have lb := len_part b k nb
          have lc := len_part c k nc
          obtain ⟨D, hD⟩ : ∃ D : ByteArray, D = ⟨(join3 (a.data.toList.take k) (b.data.toList.take k) (c.data.toList.take k)).toArray⟩ := ⟨_, rfl⟩
          have Dl : D.size ≤ maxLen := by
            rw [hD]
            show (join3 _ _ _).toArray.size ≤ maxLen
            rw [List.size_toArray, join3_len _ _ _ (by rw [la, lb]) (by rw [lb, lc]), la]; unfold maxLen; omega
          have HS : Hid (sumOf D = sumOf (a.extract 0 k) ^^^ sumOf (b.extract 0 k) ^^^ sumOf (c.extract 0 k)) := by
            unfold Hid sumOf
            rw [hD, part_data a k, part_data b k, part_data c k]
            exact sum3 _ _ _ (by rw [la, lb]) (by rw [lb, lc])
          rw [← hD]
          clear hD la lb lc
          have ea : (a.extract 0 k).size ≤ maxLen := by simp; unfold maxLen; omega
          have eb : (b.extract 0 k).size ≤ maxLen := by simp; unfold maxLen; omega
          have ec : (c.extract 0 k).size ≤ maxLen := by simp; unfold maxLen; omega
          obtain ⟨X, hX⟩ : ∃ X, X = sumOf (a.extract 0 k) := ⟨_, rfl⟩
          obtain ⟨Y, hY⟩ : ∃ Y, Y = sumOf (b.extract 0 k) := ⟨_, rfl⟩
          obtain ⟨Z, hZ⟩ : ∃ Z, Z = sumOf (c.extract 0 k) := ⟨_, rfl⟩
          have lx : X < 4294967296 := by rw [hX]; exact sumOf_lt _
          have ly : Y < 4294967296 := by rw [hY]; exact sumOf_lt _
          have lz : Z < 4294967296 := by rw [hZ]; exact sumOf_lt _
          have HX : Hid ((X : Int) = ((sumOf (a.extract 0 k) : Nat) : Int)) := by unfold Hid; rw [hX]
          have HY : Hid ((Y : Int) = ((sumOf (b.extract 0 k) : Nat) : Int)) := by unfold Hid; rw [hY]
          have HZ : Hid ((Z : Int) = ((sumOf (c.extract 0 k) : Nat) : Int)) := by unfold Hid; rw [hZ]
          have HT : Hid (((X ^^^ Y ^^^ Z : Nat) : Int) = ((sumOf D : Nat) : Int)) := by unfold Hid; rw [HS.out, hX, hY, hZ]
          clear hX hY hZ HS
          obtain ⟨U, hU⟩ : ∃ U, U = X ^^^ Y := ⟨_, rfl⟩
          obtain ⟨V, hV⟩ : ∃ V, V = U ^^^ Z := ⟨_, rfl⟩
          have lu : U < 4294967296 := by rw [hU]; exact Nat.xor_lt_two_pow (n := 32) lx ly
          have x1 : bits BinOp.xor IntKind.u32 (X : Int) (Y : Int) = (U : Int) := by rw [hU]; exact u32_xor_nat X Y lx ly
          have x2 : bits BinOp.xor IntKind.u32 (U : Int) (Z : Int) = (V : Int) := by rw [hV]; exact u32_xor_nat U Z lu lz
          have HV : Hid ((V : Int) = ((sumOf D : Nat) : Int)) := by unfold Hid; rw [hV, hU]; exact HT.out
          clear hU hV HT
          go_wp2_with fail
          refine (sum_e wr _ (X : Int) HX.out ea).mono ?_
          rintro e w2 ⟨rfl, b2⟩
          have B2 := bNext hbl b2
          go_wp2_with fail
          refine (sum_e w2 _ (Y : Int) HY.out eb).mono ?_
          rintro e w3 ⟨rfl, b3⟩
          have B3 := bNext B2 b3
          go_wp2_with fail
          refine (sum_e w3 _ (Z : Int) HZ.out ec).mono ?_
          rintro e w4 ⟨rfl, b4⟩
          have B4 := bNext B3 b4
          go_wp2_with fail
          refine (sum_e w4 _ (V : Int) HV.out Dl).mono ?_
          rintro e w5 ⟨rfl, b5⟩
          have B5 := bNext B4 b5
          clear B2 B3 B4 b2 b3 b4 b5 hbl
          go_wp2
          go_ret
          exact ⟨by simp, B5⟩
end Go.Proofs.YtobfkhapeejkfaaGreatDoor
