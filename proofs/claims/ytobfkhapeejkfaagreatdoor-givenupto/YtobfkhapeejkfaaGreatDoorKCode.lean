/- The statements' own writer: numbers, codes, letters, bytes. -/
import Derived.Test.YtobfkhapeejkfaaGreatDoorKBits
namespace Go.Proofs.YtobfkhapeejkfaaGreatDoor
open Go.RowKit
set_option linter.unusedSimpArgs false
set_option linter.unusedVariables false

theorem BWs.lt {w : World} {b : Nat} {bs : List Nat} (h : BWs w b bs) : b < w.heap.size := h.bw.lt
theorem numBits_snoc (x n : Nat) : numBits x (n + 1) = numBits x n ++ [x / 2 ^ n % 2] := by simp [numBits, List.range_succ]
theorem numBits_len (x n : Nat) : (numBits x n).length = n := by simp [numBits]
theorem codeBits_len (x n : Nat) : (codeBits x n).length = n := by simp [codeBits]

set_option maxRecDepth 100000 in
set_option maxHeartbeats 1000000 in
theorem knumber_c (w : World) (b : Nat) (bs : List Nat) (x n : Nat) (X N : Int) (hX : X = (x : Int)) (hN : N = (n : Int)) (hx : x ≤ 1099511627776) (hn : n ≤ 64) (h : BWs w b bs) (hl : bs.length ≤ 1099511620000) :
    Calls Tryz.prog 41 #[.pointer (some ⟨b, 0, none⟩), .int .i64 X, .int .i64 N] w fun e w' => e = .returned (.tuple #[]) ∧ BWs w' b (bs ++ numBits x n) ∧ IT b w w' := by
  subst hX hN
  go_enter Tryz.func41, Tryz.ntmps41
  go_wp2
  go_loopw [1, 6] (fun t i wr => ∃ k y : Nat, k ≤ n ∧ i = .int .i64 (k : Int) ∧ t = .int .i64 (y : Int) ∧ y ≤ 1099511627776 ∧ Hid (y = x / 2 ^ k) ∧ BWs wr b (bs ++ numBits x k) ∧ IT b w wr) (fun _ i _ => n - (intOf i).toNat)
  case atStart => exact ⟨0, x, by omega, rfl, rfl, hx, by unfold Hid; simp, by simpa [numBits] using h, IT.refl _ _⟩
  case round =>
    obtain ⟨k, y, hk, rfl, rfl, hy, HY, hb, hit⟩ := hrel
    by_cases hlt : k < n
    · have len : (bs ++ numBits x k).length ≤ 1099511627776 := by rw [List.length_append, numBits_len]; omega
      go_wp2_with (go_at_call 40; refine (kbit_c wr b (bs ++ numBits x k) (y % 2) _ (by omega) (by omega) hb len).mono ?_; rintro e w2 ⟨rfl, b2, t2⟩)
      go_roundw
      case rel =>
        refine ⟨k + 1, y / 2, by omega, by go_num, by go_num, by omega, ?_, ?_, hit.trans t2⟩
        · unfold Hid; rw [HY.out, Nat.pow_succ, Nat.div_div_eq_div_mul]
        · rw [numBits_snoc, ← HY.out, ← List.append_assoc]; exact b2
      case measure => simp [intOf]; omega
    · obtain rfl : k = n := by omega
      go_wp2
      go_end0
      exact ⟨rfl, hb, hit⟩

def codePart (x n i : Nat) : List Nat := (List.range i).map fun j => x / 2 ^ (n - 1 - j) % 2
theorem codePart_snoc (x n i : Nat) : codePart x n (i + 1) = codePart x n i ++ [x / 2 ^ (n - 1 - i) % 2] := by simp [codePart, List.range_succ]
theorem codePart_len (x n i : Nat) : (codePart x n i).length = i := by simp [codePart]

set_option maxRecDepth 100000 in
set_option maxHeartbeats 2000000 in
theorem kcode_c (w : World) (b : Nat) (bs : List Nat) (x n : Nat) (X N : Int) (hX : X = (x : Int)) (hN : N = (n : Int)) (hx : x ≤ 65536) (h1 : 1 ≤ n) (hn : n ≤ 15) (h : BWs w b bs) (hl : bs.length ≤ 1099511620000) :
    Calls Tryz.prog 44 #[.pointer (some ⟨b, 0, none⟩), .int .i64 X, .int .i64 N] w fun e w' => e = .returned (.tuple #[]) ∧ BWs w' b (bs ++ codeBits x n) ∧ IT b w w' := by
  subst hX hN
  go_enter Tryz.func44, Tryz.ntmps44
  go_wp2
  go_loop [6, 7] (fun t i => ∃ k q : Nat, 1 ≤ k ∧ k ≤ n ∧ i = .int .i64 (k : Int) ∧ t = .int .i64 (q : Int) ∧ q ≤ 32768 ∧ Hid (q = 2 ^ (k - 1))) (fun _ i => n - (intOf i).toNat)
  case atStart => exact ⟨1, 1, by omega, h1, rfl, rfl, by omega, rfl⟩
  case round =>
    obtain ⟨k, q, k1, hk, rfl, rfl, hq, HQ⟩ := hrel
    by_cases hlt : k < n
    · have hq2 : 2 * q ≤ 32768 := by
        have : 2 ^ k ≤ 2 ^ 15 := Nat.pow_le_pow_right (by omega) (by omega)
        obtain ⟨j, rfl⟩ : ∃ j, k = j + 1 := ⟨k - 1, by omega⟩
        have e := HQ.out
        rw [Nat.add_sub_cancel] at e
        rw [Nat.pow_succ, ← e] at this; omega
      go_wp2
      go_round
      case rel =>
        refine ⟨k + 1, 2 * q, by omega, by omega, by go_num, by go_num, hq2, ?_⟩
        obtain ⟨j, rfl⟩ : ∃ j, k = j + 1 := ⟨k - 1, by omega⟩
        unfold Hid; rw [HQ.out]; simp only [Nat.add_sub_cancel]; rw [Nat.pow_succ, Nat.mul_comm]
      case measure => simp [intOf]; omega
    · obtain rfl : k = n := by omega
      have lt0 : ¬ (k : Int) < (k : Int) := by omega
      go_wp2
      go_loopw [6, 8] (fun t i wr => ∃ j q : Nat, j ≤ k ∧ i = .int .i64 (j : Int) ∧ t = .int .i64 (q : Int) ∧ 1 ≤ q ∧ q ≤ 32768 ∧ Hid (q = 2 ^ (k - 1 - j)) ∧ BWs wr b (bs ++ codePart x k j) ∧ IT b w wr) (fun _ i _ => k - (intOf i).toNat)
      case atStart => exact ⟨0, q, by omega, rfl, rfl, by rw [HQ.out]; exact Nat.one_le_two_pow, hq, by unfold Hid; rw [HQ.out]; rfl, by simpa [codePart] using h, IT.refl _ _⟩
      case round =>
        clear hq HQ
        obtain ⟨j, q, hj, rfl, rfl, q1, hq, HQ, hb, hit⟩ := hrel
        by_cases hlt2 : j < k
        · have len : (bs ++ codePart x k j).length ≤ 1099511627776 := by rw [List.length_append, codePart_len]; omega
          obtain ⟨y, hy⟩ : ∃ y, y = x / q % 2 := ⟨_, rfl⟩
          have y1 : y ≤ 1 := by omega
          have d0 : (0 : Int) ≤ (x : Int) / (q : Int) := Int.ediv_nonneg (by omega) (by omega)
          have d1 : (x : Int) / (q : Int) ≤ (x : Int) := Int.ediv_le_self _ (by omega)
          have e3 : (x : Int) / (q : Int) % 2 = (y : Int) := by rw [hy]; push_cast; rfl
          have t1 : (x : Int).tdiv (q : Int) = (x : Int) / (q : Int) := Int.tdiv_eq_ediv_of_nonneg (by omega)
          have t2 : ((x : Int) / (q : Int)).tmod 2 = (y : Int) := by rw [Int.tmod_eq_emod_of_nonneg d0]; exact e3
          have wr1 : IntKind.i64.wrap ((x : Int) / (q : Int)) = (x : Int) / (q : Int) := by simp [IntKind.wrap, IntKind.bits, IntKind.signed]; omega
          have q0 : ((q : Int) == 0) = false := by simp; omega
          have q0' : ¬ (q : Int) = 0 := by omega
          have HY : Hid (y = x / 2 ^ (k - 1 - j) % 2) := by unfold Hid; rw [hy, HQ.out]
          clear hy
          by_cases qq : 1 < q
          · have HQ2 : Hid (q / 2 = 2 ^ (k - 1 - (j + 1))) := by
              have e := HQ.out
              by_cases hz : k - 1 - j = 0
              · rw [hz] at e; omega
              · obtain ⟨d, hd⟩ : ∃ d, k - 1 - j = d + 1 := ⟨k - 1 - j - 1, by omega⟩
                unfold Hid; rw [e, hd, show k - 1 - (j + 1) = d by omega, Nat.pow_succ]; omega
            go_wp2_with (go_at_call 40; refine (kbit_c wr b (bs ++ codePart x k j) y _ rfl y1 hb len).mono ?_; rintro e w2 ⟨rfl, b2, t2⟩)
            go_roundw
            case rel => exact ⟨j + 1, q / 2, by omega, by go_num, by go_num, by omega, by omega, HQ2, by rw [codePart_snoc, ← HY.out, ← List.append_assoc]; exact b2, hit.trans t2⟩
            case measure => simp [intOf]; omega
          · obtain rfl : q = 1 := by omega
            have HQ2 : Hid (1 = 2 ^ (k - 1 - (j + 1))) := by
              have e := HQ.out
              by_cases hz : k - 1 - j = 0
              · unfold Hid; rw [show k - 1 - (j + 1) = 0 by omega]
              · obtain ⟨d, hd⟩ : ∃ d, k - 1 - j = d + 1 := ⟨k - 1 - j - 1, by omega⟩
                rw [hd, Nat.pow_succ] at e; omega
            go_wp2_with (go_at_call 40; refine (kbit_c wr b (bs ++ codePart x k j) y _ (by omega) y1 hb len).mono ?_; rintro e w2 ⟨rfl, b2, t2⟩)
            go_roundw
            case rel => exact ⟨j + 1, 1, by omega, by go_num, by go_num, by omega, by omega, HQ2, by rw [codePart_snoc, ← HY.out, ← List.append_assoc]; exact b2, hit.trans t2⟩
            case measure => simp [intOf]; omega
        · obtain rfl : j = k := by omega
          go_wp2
          go_end0
          exact ⟨rfl, hb, hit⟩

set_option maxRecDepth 100000 in
set_option maxHeartbeats 1000000 in
theorem kletter_c (w : World) (b : Nat) (bs : List Nat) (x : Nat) (X : Int) (hX : X = (x : Int)) (hx : x ≤ 287) (h : BWs w b bs) (hl : bs.length ≤ 1099511620000) :
    Calls Tryz.prog 43 #[.pointer (some ⟨b, 0, none⟩), .int .i64 X] w fun e w' => e = .returned (.tuple #[]) ∧ BWs w' b (bs ++ letterBits x) ∧ IT b w w' := by
  subst hX
  by_cases c1 : x < 144
  · have HE : Hid (letterBits x = codeBits (48 + x) 8) := by unfold Hid letterBits; rw [if_pos c1]
    go_enter Tryz.func43, Tryz.ntmps43
    go_wp2_with (go_at_call 44; refine (kcode_c w b bs (48 + x) 8 _ _ (by omega) rfl (by omega) (by omega) (by omega) h hl).mono ?_; rintro e w2 ⟨rfl, b2, t2⟩)
    go_end0
    exact ⟨rfl, by rw [HE.out]; exact b2, t2⟩
  · by_cases c2 : x < 256
    · have HE : Hid (letterBits x = codeBits (400 + x - 144) 9) := by unfold Hid letterBits; rw [if_neg c1, if_pos c2]
      go_enter Tryz.func43, Tryz.ntmps43
      go_wp2_with (go_at_call 44; refine (kcode_c w b bs (400 + x - 144) 9 _ _ (by omega) rfl (by omega) (by omega) (by omega) h hl).mono ?_; rintro e w2 ⟨rfl, b2, t2⟩)
      go_end0
      exact ⟨rfl, by rw [HE.out]; exact b2, t2⟩
    · by_cases c3 : x < 280
      · have HE : Hid (letterBits x = codeBits (x - 256) 7) := by unfold Hid letterBits; rw [if_neg c1, if_neg c2, if_pos c3]
        go_enter Tryz.func43, Tryz.ntmps43
        go_wp2_with (go_at_call 44; refine (kcode_c w b bs (x - 256) 7 _ _ (by omega) rfl (by omega) (by omega) (by omega) h hl).mono ?_; rintro e w2 ⟨rfl, b2, t2⟩)
        go_end0
        exact ⟨rfl, by rw [HE.out]; exact b2, t2⟩
      · have HE : Hid (letterBits x = codeBits (192 + x - 280) 8) := by unfold Hid letterBits; rw [if_neg c1, if_neg c2, if_neg c3]
        go_enter Tryz.func43, Tryz.ntmps43
        go_wp2_with (go_at_call 44; refine (kcode_c w b bs (192 + x - 280) 8 _ _ (by omega) rfl (by omega) (by omega) (by omega) h hl).mono ?_; rintro e w2 ⟨rfl, b2, t2⟩)
        go_end0
        exact ⟨rfl, by rw [HE.out]; exact b2, t2⟩

/-- The bits up to a byte's end; the bits of bytes. -/
def padBits (n : Nat) : List Nat := List.replicate ((8 - n % 8) % 8) 0
def strBits (s : List UInt8) : List Nat := s.flatMap fun c => numBits c.toNat 8
theorem strBits_len (s : List UInt8) : (strBits s).length = 8 * s.length := by
  induction s with
  | nil => rfl
  | cons c s ih => rw [show strBits (c :: s) = numBits c.toNat 8 ++ strBits s from rfl, List.length_append, ih, numBits_len, List.length_cons]; omega
theorem strBits_le (s : List UInt8) : ∀ x ∈ strBits s, x ≤ 1 := by
  intro x hx
  simp only [strBits, List.mem_flatMap] at hx
  obtain ⟨c, _, hc⟩ := hx
  exact numBits_le _ _ x hc
theorem set_same (B : List UInt8) (i m : Nat) (h : i < B.length) : B.set i (UInt8.ofNat ((B.getD i 0).toNat + 0 * 2 ^ m)) = B := by
  have e : (B.getD i 0) = B[i] := by rw [List.getD_eq_getElem?_getD, List.getElem?_eq_getElem h]; rfl
  rw [e]
  have : UInt8.ofNat (B[i].toNat + 0 * 2 ^ m) = B[i] := by simp
  rw [this]
  exact List.set_getElem_self h
theorem bytes_zeros (bs : List Nat) (h : ∀ x ∈ bs, x ≤ 1) : ∀ k, k ≤ (8 - bs.length % 8) % 8 → bytesOf (bs ++ List.replicate k 0) = bytesOf bs
  | 0, _ => by simp
  | k + 1, hk => by
    have ih := bytes_zeros bs h k (by omega)
    have hl := (bitsIn bs h).len
    rw [List.replicate_succ', ← List.append_assoc, bytesOf_snoc, ih, List.length_append, List.length_replicate]
    unfold putBit
    rw [if_neg (by omega)]
    exact set_same (bytesOf bs) ((bytesOf bs).length - 1) _ (by omega)
theorem bytes_pad (bs : List Nat) (h : ∀ x ∈ bs, x ≤ 1) : bytesOf (bs ++ padBits bs.length) = bytesOf bs := bytes_zeros bs h _ (Nat.le_refl _)
theorem mod_step (c k : Nat) : c % 2 ^ (k + 1) = c % 2 ^ k + c / 2 ^ k % 2 * 2 ^ k := by
  rw [Nat.pow_succ, Nat.mod_mul, Nat.mul_comm (2 ^ k)]
theorem bytes_part (bs : List Nat) (h : ∀ x ∈ bs, x ≤ 1) (h8 : bs.length % 8 = 0) (c : Nat) : ∀ k, k + 1 ≤ 8 → bytesOf (bs ++ numBits c (k + 1)) = bytesOf bs ++ [UInt8.ofNat (c % 2 ^ (k + 1))]
  | 0, _ => by
    rw [numBits_snoc, ← List.append_assoc, bytesOf_snoc]
    simp only [numBits, List.range_zero, List.map_nil, List.append_nil]
    unfold putBit
    rw [if_pos h8]; simp
  | k + 1, hk => by
    have ih := bytes_part bs h h8 c k (by omega)
    rw [numBits_snoc, ← List.append_assoc, bytesOf_snoc, ih, List.length_append, numBits_len]
    unfold putBit
    rw [if_neg (by omega), show (bs.length + (k + 1)) % 8 = k + 1 by omega, List.length_append]
    simp only [List.length_singleton, Nat.add_sub_cancel]
    have e : ((bytesOf bs ++ [UInt8.ofNat (c % 2 ^ (k + 1))]).getD (bytesOf bs).length 0) = UInt8.ofNat (c % 2 ^ (k + 1)) := by
      rw [List.getD_eq_getElem?_getD, List.getElem?_append_right (Nat.le_refl _)]; simp
    have lt1 : c % 2 ^ (k + 1) < 2 ^ (k + 1) := Nat.mod_lt _ (Nat.two_pow_pos _)
    have lt2 : 2 ^ (k + 1) ≤ 2 ^ 8 := Nat.pow_le_pow_right (by omega) (by omega)
    rw [e, u8_of _ (by omega), ← mod_step]
    rw [List.set_append_right _ _ (Nat.le_refl _)]
    simp
theorem bytes_str (bs : List Nat) : ∀ (s : List UInt8) (bs : List Nat), (∀ x ∈ bs, x ≤ 1) → bs.length % 8 = 0 → bytesOf (bs ++ strBits s) = bytesOf bs ++ s
  | [], bs, h, h8 => by simp [strBits]
  | c :: s, bs, h, h8 => by
    have e : strBits (c :: s) = numBits c.toNat 8 ++ strBits s := rfl
    have b1 := bytes_part bs h h8 c.toNat 7 (by omega)
    have lt := c.toNat_lt
    rw [Nat.mod_eq_of_lt (by simpa using lt)] at b1
    have h2 : ∀ x ∈ bs ++ numBits c.toNat 8, x ≤ 1 := fun x hx => (List.mem_append.1 hx).elim (h x) (numBits_le _ _ x)
    rw [e, ← List.append_assoc, bytes_str bs s (bs ++ numBits c.toNat 8) h2 (by rw [List.length_append, numBits_len]; omega), b1]
    simp

/-- A string onto an owned row. -/
theorem wpList_append_src {P : Program} {ops : Array Oper} {rest : List Oper} {o : Oper} {a : Act} {w : World} {Q : Exit → Act → World → Prop} (hgd : o.guard = none) (s x : Operand) (t tx : TypeId)
    (hop : o.op = .call { callee := .builtin .append, args := #[s, x], argTypes := #[t, tx] })
    (base : Nat) (e : TypeId) (i : TypeInfo) (z : Value) (bytes : Nat) (h1 : P.underlying t = some (.slice e)) (h2 : P.info? e = some i) (h3 : i.zero = some z) (h4 : i.size = 1) (h5 : i.bytes = bytes) (h6 : z.cells.size = 1)
    (v : Value) (n : Nat) (xs : List Value) (hv : a.eval s = v) (hown : w.ownsRow base e 1 v n xs) (y : Value) (m : Nat) (news : List Value) (hy : a.eval x = y) (hs : Src P 1 tx y m news w)
    (b1 : n + m ≤ maxLen) (b2 : (n + m) * bytes ≤ 140737488355328) (b3 : base ≤ w.heap.size)
    (h : ∀ v' w', w'.ownsRow base e 1 v' (n + m) (xs ++ news) → w.grownBy w' v.ownBlock → wpList P ops Q rest (a.put o.dst v') w') : wpList P ops Q (o :: rest) a w :=
  wpList_plain hgd fun _ hK => by
    obtain ⟨v', w', hrun, r1, r2⟩ := run_append_own_src (P := P) w base t tx o.type e i z bytes h1 h2 h3 h4 h5 h6 v n xs hown y m news hs b1 b2 b3
    unfold Oper.wp
    simp [execOp, hop, resolve, invoke, builtin, hv, hy, hrun, Result.andThen]
    exact hK _ _ (h v' w' r1 r2)

theorem IT.set1 {b : Nat} {x y : World} (h : IT b x y) (v : Value) : IT b x (y.setCell ⟨b, 1, none⟩ v) := Touch.setCell h (p := ⟨b, 1, none⟩) (Or.inl rfl) v
theorem byteCells_V (s : List UInt8) : byteCells ⟨s.toArray⟩ = byteV s := by simp [byteCells, byteV]

set_option maxRecDepth 100000 in
set_option maxHeartbeats 1000000 in
theorem kbytes_c (w : World) (b : Nat) (bs : List Nat) (s : List UInt8) (S : ByteArray) (hS : S = ⟨s.toArray⟩) (h : BWs w b bs) (hl : bs.length ≤ 1099511620000) (hs : s.length ≤ 1000000) :
    Calls Tryz.prog 42 #[.pointer (some ⟨b, 0, none⟩), .string S] w fun e w' => e = .returned (.tuple #[]) ∧ BWs w' b (bs ++ padBits bs.length ++ strBits s) ∧ IT b w w' := by
  have hlen := (bitsIn bs h.le).len
  have e0 := bytes_pad bs h.le
  have le1 : ∀ x ∈ bs ++ padBits bs.length, x ≤ 1 := fun x hx => (List.mem_append.1 hx).elim (h.le x) (fun hx => by simp only [padBits, List.mem_replicate] at hx; omega)
  have l8 : (bs ++ padBits bs.length).length = 8 * (bytesOf bs).length := by rw [List.length_append, padBits, List.length_replicate]; omega
  have e1 := bytes_str [] s (bs ++ padBits bs.length) le1 (by omega)
  rw [e0] at e1
  have le2 : ∀ x ∈ bs ++ padBits bs.length ++ strBits s, x ≤ 1 := fun x hx => (List.mem_append.1 hx).elim (le1 x) (strBits_le s x)
  have l9 : (bs ++ padBits bs.length ++ strBits s).length = 8 * ((bytesOf bs).length + s.length) := by rw [List.length_append, l8, strBits_len]; omega
  obtain ⟨B, hB⟩ : ∃ B, B = bytesOf bs := ⟨_, rfl⟩
  have hbw := h.bw
  rw [← hB] at e1 l9 hlen hbw
  have HE : Hid (bytesOf (bs ++ padBits bs.length ++ strBits s) = B ++ s) := e1
  have HL : Hid ((bs ++ padBits bs.length ++ strBits s).length = 8 * (B.length + s.length)) := l9
  clear hB e0 l8 e1 l9
  obtain ⟨ao, cap, h0, ho⟩ := hbw.gv
  have h1 := hbw.cn
  obtain ⟨i0, hi, hz0, hz1, hz2⟩ := info_parts Tryz.infoByte
  have hlt := hbw.lt
  have ssz : Hid (S.size = s.length) := by unfold Hid; rw [hS]; show s.toArray.size = _; simp
  have cellS : Hid (byteCells S = byteV s) := by unfold Hid; rw [hS]; exact byteCells_V s
  have sle : S.size ≤ 1000000 := by rw [ssz.out]; exact hs
  have f1 := hbw.fr 1
  have hl2 : B.length ≤ 1099511627776 := by omega
  clear hlen hS
  go_enter Tryz.func42, Tryz.ntmps42
  go_wp2_with (at_builtin; refine wpList_append_src rfl (.tmp 8) (.tmp 9) 34 9 rfl (b + 1) 5 i0 (.int .u8 0) 1 Tryz.underlying34 hi hz0 hz1 hz2 rfl _ _ _ rfl ho _ _ _ rfl (Src.ofString _ Tryz.underlying9 S) (by unfold maxLen; omega) (by omega) (by omega) ?_; intro v' w1 hown' hgrow; rw [cellS.out, ssz.out] at hown'; obtain ⟨⟨q5, q6⟩, bw2, it2⟩ := hbw.given (new := s) h0 ho (Touch.refl _ w) hgrow hown'; have r1 := bw2.cn; rw [cell_set_ne (by omega)] at r1; have r2 := bw2.fr 1; rw [World.frozen?_setCell] at r2; obtain ⟨ao', cap', hv'⟩ := owned_slice' hown'; rw [hv'] at hown' bw2 it2 ⊢)
  go_end0
  refine ⟨rfl, ⟨?_, le2⟩, it2.set1 _⟩
  rw [HE.out, HL.out]
  obtain ⟨ao2, cap2, g0, gO⟩ := bw2.gv
  refine ⟨⟨ao2, cap2, ?_, ownsRow_setCell_below gO (by show b < b + 1; omega) _⟩, ?_, ?_⟩
  · rw [cell_set_ne (by omega)]; exact g0
  · have := bw2.cn
    simp [cell_set_if, q5, r1]
  · intro o; rw [World.frozen?_setCell]; exact bw2.fr o
end Go.Proofs.YtobfkhapeejkfaaGreatDoor
