/- The program's reader of fields in an archive. -/
import Derived.Test.YtobfkhapeejkfaaGreatDoorANum
namespace Go.Proofs.YtobfkhapeejkfaaGreatDoor
open Go.RowKit
set_option linter.unusedSimpArgs false
set_option linter.unusedVariables false

/-- What is left of the bytes s up to the place E, from p on (none: it has run short). -/
def restOf (s : ByteArray) (E : Nat) : Option Nat → ByteArray
  | some p => s.extract p E
  | none => ⟨#[]⟩
/-- Where a reader is behind n bytes more. -/
def fldTo (E : Nat) (p : Option Nat) (n : Nat) : Option Nat := p.bind fun p => if p + n ≤ E then some (p + n) else none
/-- The bytes that are taken. -/
def fldOf (s : ByteArray) (E : Nat) (p : Option Nat) (n : Nat) : ByteArray := match fldTo E p n with
  | some q => s.extract (q - n) q
  | none => ⟨#[]⟩
/-- The number that is taken. -/
def fldNum (s : ByteArray) (E : Nat) (p : Option Nat) (n : Nat) : Nat := numIn (fldOf s E p n) 0 (fldOf s E p n).size
/-- A reader of fields in memory. -/
structure FR (w : World) (b : Nat) (s : ByteArray) (E : Nat) (p : Option Nat) : Prop where
  rest : w.cell? ⟨b, 0, none⟩ = some (.string (restOf s E p))
  short : w.cell? ⟨b, 1, none⟩ = some (.bool p.isNone)
  fr0 : w.frozen? ⟨b, 0, none⟩ = false
  fr1 : w.frozen? ⟨b, 1, none⟩ = false
  le : ∀ q, p = some q → q ≤ E
  size : E ≤ s.size
theorem FR.keep {S : Nat → Prop} {w w' : World} {b : Nat} {s : ByteArray} {E : Nat} {p : Option Nat} (h : FR w b s E p) (ht : Touch S w w') (hs : ¬ S b) : FR w' b s E p :=
  have hl := World.block_lt_of_cell? w _ h.rest
  ⟨ht.at h.rest hs, ht.at h.short hs, (ht.frozen (p := ⟨b, 0, none⟩) hl hs).trans h.fr0, (ht.frozen (p := ⟨b, 1, none⟩) hl hs).trans h.fr1, h.le, h.size⟩
theorem extract_extract (s : ByteArray) (a b c d : Nat) (hb : b ≤ s.size) (h : a + d ≤ b) : (s.extract a b).extract c d = s.extract (a + c) (a + d) := by
  apply ByteArray.ext
  simp only [ByteArray.data_extract, Array.extract_extract]
  congr 1; omega
theorem extract_end (s : ByteArray) (a b c d : Nat) (hb : b ≤ s.size) (h : b ≤ a + d) : (s.extract a b).extract c d = s.extract (a + c) b := by
  apply ByteArray.ext
  simp only [ByteArray.data_extract, Array.extract_extract]
  congr 1; omega

theorem touch_set (w : World) (b o : Nat) (v : Value) : Touch (fun k => k = b) w (w.setCell ⟨b, o, none⟩ v) := (Touch.refl (fun k => k = b) w).setCell (p := ⟨b, o, none⟩) rfl v

set_option maxRecDepth 100000 in
set_option maxHeartbeats 1000000 in
theorem take_c (w : World) (b : Nat) (s : ByteArray) (E : Nat) (p : Option Nat) (n : Nat) (N : Int) (hN : N = (n : Int)) (hn : n ≤ 4611686018427387904) (hs : s.size ≤ 140737488355328) (h : FR w b s E p) :
    Calls Tryz.prog 126 #[.pointer (some ⟨b, 0, none⟩), .int .i64 N] w fun e w' => e = .returned (.string (fldOf s E p n)) ∧ FR w' b s E (fldTo E p n) ∧ Touch (fun k => k = b) w w' := by
  subst hN
  have h1 := h.rest
  have h2 := h.short
  have f1 := h.fr0
  have f2 := h.fr1
  have hE := h.size
  cases p with
  | some q =>
    have hq := h.le q rfl
    have hz : (s.extract q E).size = E - q := by rw [ByteArray.size_extract]; omega
    by_cases hf : q + n ≤ E
    · have e1 : fldTo E (some q) n = some (q + n) := by simp [fldTo, hf]
      have e2 : fldOf s E (some q) n = s.extract q (q + n) := by simp [fldOf, e1]
      rw [e1, e2]
      simp only [restOf] at h1
      have c1 : ¬ ((E - q : Nat) : Int) < (n : Int) := by omega
      have c2 : (n : Int) ≤ ((E - q : Nat) : Int) := by omega
      go_enter Tryz.func126, Tryz.ntmps126
      go_wp2
      go_ret
      refine ⟨by rw [extract_extract s q E 0 n hE hf]; rfl, ⟨?_, ?_, ?_, ?_, ?_, hE⟩, touch_set w b 0 _⟩
      · rw [World.cell?_setCell_same' _ _ _ (by rw [h1]; rfl), extract_end s q E n (E - q) hE (by omega)]; rfl
      · rw [cell_set_ne (by omega), h2]; rfl
      · rw [World.frozen?_setCell]; exact f1
      · rw [World.frozen?_setCell]; exact f2
      · rintro _ ⟨⟩; exact hf
    · have e1 : fldTo E (some q) n = none := by simp [fldTo, hf]
      have e2 : fldOf s E (some q) n = ⟨#[]⟩ := by simp [fldOf, e1]
      rw [e1, e2]
      simp only [restOf] at h1
      have c1 : ((E - q : Nat) : Int) < (n : Int) := by omega
      go_enter Tryz.func126, Tryz.ntmps126
      go_wp2
      go_ret
      refine ⟨rfl, ⟨?_, ?_, ?_, ?_, ?_, hE⟩, (touch_set w b 0 _).trans (touch_set _ b 1 _)⟩
      · rw [cell_set_ne (by omega), World.cell?_setCell_same' _ _ _ (by rw [h1]; rfl)]; rfl
      · rw [World.cell?_setCell_same' _ _ _ (by rw [cell_set_ne (by omega), h2]; rfl)]; rfl
      · rw [World.frozen?_setCell, World.frozen?_setCell]; exact f1
      · rw [World.frozen?_setCell, World.frozen?_setCell]; exact f2
      · rintro _ ⟨⟩
  | none =>
    have e1 : fldTo E none n = none := rfl
    have e2 : fldOf s E none n = ⟨#[]⟩ := rfl
    rw [e1, e2]
    simp only [restOf] at h1
    by_cases hf : n = 0
    · subst hf
      go_enter Tryz.func126, Tryz.ntmps126
      go_wp2
      go_ret
      refine ⟨rfl, ⟨?_, ?_, ?_, ?_, ?_, hE⟩, touch_set w b 0 _⟩
      · rw [World.cell?_setCell_same' _ _ _ (by rw [h1]; rfl)]; rfl
      · rw [cell_set_ne (by omega), h2]
      · rw [World.frozen?_setCell]; exact f1
      · rw [World.frozen?_setCell]; exact f2
      · rintro _ ⟨⟩
    · have c1 : (0 : Int) < (n : Int) := by omega
      go_enter Tryz.func126, Tryz.ntmps126
      go_wp2
      go_ret
      refine ⟨rfl, ⟨?_, ?_, ?_, ?_, ?_, hE⟩, (touch_set w b 0 _).trans (touch_set _ b 1 _)⟩
      · rw [cell_set_ne (by omega), World.cell?_setCell_same' _ _ _ (by rw [h1]; rfl)]; rfl
      · rw [World.cell?_setCell_same' _ _ _ (by rw [cell_set_ne (by omega), h2]; rfl)]; rfl
      · rw [World.frozen?_setCell, World.frozen?_setCell]; exact f1
      · rw [World.frozen?_setCell, World.frozen?_setCell]; exact f2
      · rintro _ ⟨⟩

/-- Of bytes that are numbers in u64: no wrap as long as there are at most 8. -/
theorem leAt_snoc (s : ByteArray) : ∀ (k a : Nat), leAt s a (k + 1) = leAt s a k + byteAt s (a + k) * 256 ^ k
  | 0, a => by simp [leAt]
  | k + 1, a => by
    rw [leAt, leAt_snoc s k (a + 1), leAt, show a + 1 + k = a + (k + 1) by omega, Nat.pow_succ]
    generalize byteAt s (a + (k + 1)) = z
    rw [Nat.mul_add]
    have : 256 * (z * 256 ^ k) = z * (256 ^ k * 256) := by rw [Nat.mul_comm 256, Nat.mul_assoc]
    omega
theorem or_snoc (x y k : Nat) (hx : x < 256 ^ k) : x ||| (y * 256 ^ k) = x + y * 256 ^ k := by
  have e : 256 ^ k = 2 ^ (8 * k) := by rw [Nat.pow_mul]
  rw [e] at hx ⊢
  have := Nat.two_pow_add_eq_or_of_lt hx y
  rw [Nat.or_comm, Nat.mul_comm y, ← this, Nat.add_comm]

theorem u64step (F : ByteArray) (k x : Nat) (h : k < F.size) (k8 : k ≤ 7) (hx : x = leAt F 0 k) : bits BinOp.or IntKind.u64 (x : Int) (IntKind.u64.wrap (IntKind.u64.wrap (F[k].toNat : Int) * 2 ^ (8 * k))) = (leAt F 0 (k + 1) : Nat) := by
  have hb := F[k].toNat_lt
  have e : byteAt F (0 + k) = F[k].toNat := by rw [Nat.zero_add]; unfold byteAt; rw [dif_pos h]
  have hl := leAt_lt F k 0
  rw [← hx] at hl
  have hw : ∀ n : Int, 0 ≤ n → n < 2 ^ 64 → IntKind.u64.wrap n = n := by intro n h0 h1; simp [IntKind.wrap, IntKind.bits, IntKind.signed]; omega
  have hp : 256 ^ k ≤ 256 ^ 7 := Nat.pow_le_pow_right (by omega) k8
  have hm : F[k].toNat * 256 ^ k ≤ 255 * 256 ^ 7 := Nat.mul_le_mul (by omega) hp
  have e2 : (2 : Int) ^ (8 * k) = ((256 ^ k : Nat) : Int) := by rw [Int.pow_mul, Int.natCast_pow]; rfl
  rw [hw (F[k].toNat : Int) (by omega) (by omega), e2, show (F[k].toNat : Int) * ((256 ^ k : Nat) : Int) = ((F[k].toNat * 256 ^ k : Nat) : Int) by rw [Int.natCast_mul], hw _ (by omega) (by omega)]
  have hh := bits_nat .u64 64 (by decide) hw x (F[k].toNat * 256 ^ k) (by omega) (by omega)
  rw [hh.2, or_snoc _ _ _ hl, leAt_snoc, e, ← hx]
theorem numIn_min (F : ByteArray) (a n : Nat) : numIn F a n = if 9223372036854775807 < leAt F a n then 9223372036854775807 else leAt F a n := by
  unfold numIn; split <;> omega

set_option maxRecDepth 100000 in
set_option maxHeartbeats 1000000 in
theorem fnumber_c (w : World) (b : Nat) (s : ByteArray) (E : Nat) (p : Option Nat) (n : Nat) (N : Int) (hN : N = (n : Int)) (hn : n ≤ 8) (hs : s.size ≤ 140737488355328) (h : FR w b s E p) :
    Calls Tryz.prog 127 #[.pointer (some ⟨b, 0, none⟩), .int .i64 N] w fun e w' => e = .returned (.int .i64 (fldNum s E p n : Nat)) ∧ FR w' b s E (fldTo E p n) ∧ Touch (fun k => k = b) w w' := by
  subst hN
  have hF : (fldOf s E p n).size ≤ n := by
    unfold fldOf; split
    · rw [ByteArray.size_extract]; omega
    · exact Nat.zero_le _
  have HV : Hid (fldNum s E p n = numIn (fldOf s E p n) 0 (fldOf s E p n).size) := rfl
  obtain ⟨V, eV⟩ : ∃ V, V = fldNum s E p n := ⟨_, rfl⟩
  obtain ⟨F, eF⟩ : ∃ F, F = fldOf s E p n := ⟨_, rfl⟩
  rw [← eF] at hF
  rw [← eV]
  rw [← eV, ← eF] at HV
  have HC : Hid (∀ (e : Ending) (w' : World), (e = .returned (.string (fldOf s E p n)) ∧ FR w' b s E (fldTo E p n) ∧ Touch (fun k => k = b) w w') → (e = .returned (.string F) ∧ Hid (FR w' b s E (fldTo E p n) ∧ Touch (fun k => k = b) w w'))) := by
  --', (e = .returned (.string (fldOf s E p n)) ∧ FR w' b s E (fldTo E p n) ∧ Touch (fun k => k = b) w w') → (e = .returned (.string F) ∧ Hid (FR w' b s E (fldTo E p n) ∧ Touch (fun k => k = b) w w'))) := by
    rintro e w' ⟨h1, h2⟩; exact ⟨by rw [h1, eF], h2⟩
  clear eF eV
  go_enter Tryz.func127, Tryz.ntmps127
  go_wp2_with fail
  refine ((take_c w b s E p n _ rfl (by omega) hs h).mono HC.out).mono ?_
  rintro e w1 ⟨rfl, F1⟩
  clear HC h
  go_wp2
  go_loop [6, 7, 13] (fun t i j => ∃ k x : Nat, k ≤ F.size ∧ j = .int .i64 (k : Int) ∧ t = .int .u64 (x : Int) ∧ Hid (x = leAt F 0 k)) (fun _ _ j => F.size - (intOf j).toNat)
  case atStart => exact ⟨0, 0, by omega, rfl, rfl, rfl⟩
  case round =>
    obtain ⟨k, x, hk, rfl, rfl, HX⟩ := hrel
    by_cases hlt : k < F.size
    · have k8 : k ≤ 7 := by omega
      have e8 : (0 : Int) ≤ 8 * (k : Int) := by omega
      have e9 : 8 * (k : Int) < 64 := by omega
      have HS : Hid (bits BinOp.or IntKind.u64 (x : Int) (IntKind.u64.wrap (IntKind.u64.wrap (F[k].toNat : Int) * 2 ^ (8 * k))) = (leAt F 0 (k + 1) : Nat)) := u64step F k x hlt k8 HX.out
      go_wp2
      exact ⟨⟨k + 1, _, by omega, by go_num, by rw [HS.out], rfl⟩, by simp [intOf]; omega⟩
    · obtain rfl : k = F.size := by omega
      have HM := numIn_min F 0 F.size
      rw [← HX.out, ← HV.out] at HM
      have HE : Hid (V = if 9223372036854775807 < x then 9223372036854775807 else x) := HM
      clear HM
      go_wp2
      · go_ret
        exact ⟨ret_int (by rw [HE.out, if_pos (by omega)]; rfl), F1.out⟩
      · go_ret
        exact ⟨ret_int (by rw [HE.out, if_neg (by omega)]), F1.out⟩

theorem fldNum_some (s : ByteArray) (E q n : Nat) (hE : E ≤ s.size) (h : q + n ≤ E) : fldNum s E (some q) n = numIn s q n := by
  have e1 : fldTo E (some q) n = some (q + n) := by simp [fldTo, h]
  have e2 : fldOf s E (some q) n = s.extract q (q + n) := by simp [fldOf, e1]
  have hz : (s.extract q (q + n)).size = n := by rw [ByteArray.size_extract]; omega
  unfold fldNum; rw [e2, hz]
  have hb : ∀ i, i < n → byteAt (s.extract q (q + n)) i = byteAt s (q + i) := by
    intro i hi
    unfold byteAt
    rw [dif_pos (by omega), dif_pos (by omega)]
    congr 1
    exact ByteArray.getElem_extract _
  have hl : ∀ m a, a + m ≤ n → leAt (s.extract q (q + n)) a m = leAt s (q + a) m := by
    intro m
    induction m with
    | zero => intro a _; rfl
    | succ m ih => intro a ha; rw [leAt, leAt, hb a (by omega), ih (a + 1) (by omega)]; rfl
  unfold numIn; rw [hl n 0 (by omega)]; rfl
theorem fldNum_none (s : ByteArray) (E : Nat) (p : Option Nat) (n : Nat) (h : fldTo E p n = none) : fldNum s E p n = 0 := by
  unfold fldNum fldOf; rw [h]; rfl
theorem take_some (w : World) (b : Nat) (s : ByteArray) (E q n : Nat) (h : FR w b s E (some q)) (hf : q + n ≤ E) (hs : s.size ≤ 140737488355328) :
    Calls Tryz.prog 126 #[.pointer (some ⟨b, 0, none⟩), .int .i64 (n : Int)] w fun e w' => e = .returned (.string (s.extract q (q + n))) ∧ FR w' b s E (some (q + n)) ∧ Touch (fun k => k = b) w w' := by
  have e1 : fldTo E (some q) n = some (q + n) := by simp [fldTo, hf]
  have e2 : fldOf s E (some q) n = s.extract q (q + n) := by simp [fldOf, e1]
  have hz := h.size
  have := take_c w b s E (some q) n _ rfl (by omega) hs h
  rw [e1, e2] at this; exact this
theorem fnum_some (w : World) (b : Nat) (s : ByteArray) (E q n : Nat) (h : FR w b s E (some q)) (hf : q + n ≤ E) (hn : n ≤ 8) (hs : s.size ≤ 140737488355328) :
    Calls Tryz.prog 127 #[.pointer (some ⟨b, 0, none⟩), .int .i64 (n : Int)] w fun e w' => e = .returned (.int .i64 (numIn s q n : Nat)) ∧ FR w' b s E (some (q + n)) ∧ Touch (fun k => k = b) w w' := by
  have e1 : fldTo E (some q) n = some (q + n) := by simp [fldTo, hf]
  have := fnumber_c w b s E (some q) n _ rfl hn hs h
  rw [e1, fldNum_some s E q n h.size hf] at this; exact this
theorem numIn_lt (s : ByteArray) (a n : Nat) : numIn s a n ≤ 9223372036854775807 := by unfold numIn; omega
theorem numIn_le (s : ByteArray) (a n : Nat) : numIn s a n < 256 ^ n := by have := leAt_lt s n a; unfold numIn; omega
end Go.Proofs.YtobfkhapeejkfaaGreatDoor
