/- Texts of this seat, joined. -/
import Derived.Test.YtnmkmmgaoplfiaaGreatDoorJ16
import Derived.Lib.Strings
set_option linter.unusedSimpArgs false
set_option linter.unusedVariables false
set_option maxRecDepth 100000
set_option maxHeartbeats 20000000
namespace Go.Proofs.YtnmkmmgaoplfiaaGreatDoor
open Go.RowKit
def plainOf (s : ByteArray) (p : Nat) (out : List UInt8) (most : Nat) : Sum Nat (List UInt8 × Nat) :=
 if 8 * s.size < 8 * ((p + 7) / 8) + 32 ∨ numAt s (8 * ((p + 7) / 8) + 16) 16 ≠ 65535 - numAt s (8 * ((p + 7) / 8)) 16 then .inl 1
 else if numAt s (8 * ((p + 7) / 8)) 16 ≤ s.size - ((p + 7) / 8 + 4) ∧ numAt s (8 * ((p + 7) / 8)) 16 ≤ most - out.length then .inr (out ++ (s.data.toList.drop ((p + 7) / 8 + 4)).take (numAt s (8 * ((p + 7) / 8)) 16), 8 * ((p + 7) / 8 + 4 + numAt s (8 * ((p + 7) / 8)) 16))
 else if s.size - ((p + 7) / 8 + 4) ≤ most - out.length then .inl 1 else .inl 2
theorem Rd.pass {w : World} {b : Nat} {s : ByteArray} {p : Nat} (h : Rd w b s p) (hp : p ≤ 8 * s.size) : Rd (w.setCell ⟨b, 3, none⟩ (.int .i64 0)) b s (8 * ((p + 7) / 8)) := by
 obtain ⟨c0, c1, ⟨r, hr, c2, _⟩, c3, c4, fr⟩ := h
 refine ⟨?_, ?_, ⟨r, hr, ?_, ?_⟩, ?_, ?_, ?_⟩
 ·simp [cell_set_if, c0]
 ·rw [show min s.size ((8 * ((p + 7) / 8) + 7) / 8) = min s.size ((p + 7) / 8) by omega]; simp [cell_set_if, c1]
 ·simp [cell_set_if, c2]
 ·intro _ hn; omega
 ·rw [show (if 8 * ((p + 7) / 8) ≤ 8 * s.size then (8 - 8 * ((p + 7) / 8) % 8) % 8 else 0) = 0 by split <;> omega]; simp [cell_set_if, c3]
 ·rw [show decide (8 * s.size < 8 * ((p + 7) / 8)) = decide (8 * s.size < p) by rw [decide_eq_false (by omega), decide_eq_false (by omega)]]; simp [cell_set_if, c4]
 ·intro o; rw [World.frozen?_setCell]; exact fr o
theorem Rd.whole {w : World} {b : Nat} {s : ByteArray} {k n : Nat} (h : Rd w b s (8 * k)) (hk : k + n ≤ s.size) (m : Nat) : Rd ((w.setCell ⟨b, 1, none⟩ (.int .i64 ((k + n : Nat) : Int))).drewN m) b s (8 * (k + n)) := by
 obtain ⟨c0, c1, ⟨r, hr, c2, _⟩, c3, c4, fr⟩ := h
 refine ⟨?_, ?_, ⟨r, hr, ?_, ?_⟩, ?_, ?_, ?_⟩
 ·simp [cell_drewN, cell_set_if, c0]
 ·rw [show min s.size ((8 * (k + n) + 7) / 8) = k + n by omega]; simp [cell_drewN, cell_set_if, c1]
 ·simp [cell_drewN, cell_set_if, c2]
 ·intro _ hn; omega
 ·rw [show (if 8 * (k + n) ≤ 8 * s.size then (8 - 8 * (k + n) % 8) % 8 else 0) = (if 8 * k ≤ 8 * s.size then (8 - 8 * k % 8) % 8 else 0) by rw [if_pos (by omega), if_pos (by omega)]; omega]; simp [cell_drewN, cell_set_if, c3]
 ·rw [show decide (8 * s.size < 8 * (k + n)) = decide (8 * s.size < 8 * k) by rw [decide_eq_false (by omega), decide_eq_false (by omega)]]; simp [cell_drewN, cell_set_if, c4]
 ·intro o; rw [frozen_drewN, World.frozen?_setCell]; exact fr o
theorem extract_list (s : ByteArray) (k n : Nat) (h : k + n ≤ s.size) : (s.extract k (k + n)).data.toList = (s.data.toList.drop k).take n := by
 rw [Lib.extract_data, Nat.add_sub_cancel_left]
theorem src_str {W : World} (s : ByteArray) (k n : Nat) (h : k + n ≤ s.size) : Src Tryz.prog 1 9 (.string (s.extract k (k + n))) n (byteV ((s.data.toList.drop k).take n)) W := by
 have hz : (s.extract k (k + n)).size = n := by simp; omega
 have := Src.ofString (P := Tryz.prog) (w := W) Tryz.underlying9 (s.extract k (k + n))
 rw [hz] at this
 have e : byteCells (s.extract k (k + n)) = byteV ((s.data.toList.drop k).take n) := by
  unfold byteCells byteV; rw [extract_list s k n h]
 rw [e] at this
 exact this
theorem take_len (s : ByteArray) (k c : Nat) (h : k + c ≤ s.size) : ((s.data.toList.drop k).take c).length = c := by
 have e : s.data.toList.length = s.size := Array.length_toList
 rw [List.length_take, List.length_drop]; omega
theorem owned_form {w : World} {base : Nat} {e : TypeId} {size n : Nat} {v : Value} {xs : List Value} (h : w.ownsRow base e size v n xs) : ∃ ao cap, v = .slice ao n cap := by
 rcases h.2 with ⟨e, h0⟩ | ⟨g, cap, cur, e, _⟩
 ·exact ⟨none, 0, by rw [e, h0]⟩
 ·exact ⟨_, _, e⟩
theorem bytesLeft_i (b : Nat) (w : World) (s : ByteArray) (p k l : Nat) (hl : l = s.size - k) (hs : s.size ≤ maxLen) (hk : k ≤ s.size) (hp : p = 8 * k) (h : Rd w b s p) :
  Calls Tryz.prog 113 #[.pointer (some ⟨b, 0, none⟩)] w fun e w' => e = .returned (.int .i64 (l : Int)) ∧ ∃ n, w' = w.drewN n := by
 subst hl hp
 have c1 := h.c1
 rw [show min s.size ((8 * k + 7) / 8) = k by omega] at c1
 exact bytesLeft_c b w s k hs hk h.c0 c1
theorem wholeBytes_r (b : Nat) (w : World) (s : ByteArray) (k n : Nat) (hs : s.size ≤ maxLen) (hk : k + n ≤ s.size) (h : Rd w b s (8 * k)) :
  Calls Tryz.prog 115 #[.pointer (some ⟨b, 0, none⟩), .int .i64 (n : Int)] w fun e w' => e = .returned (.string (s.extract k (k + n))) ∧ Rd w' b s (8 * (k + n)) ∧ RT b w w' := by
 have c1 := h.c1
 rw [show min s.size ((8 * k + 7) / 8) = k by omega] at c1
 refine (wholeBytes_c b w s k n hs hk h.c0 c1 (h.fr 1)).mono ?_
 rintro e w' ⟨rfl, m, rfl⟩
 exact ⟨rfl, h.whole hk m, ((RT.refl b w).set 1 (by omega) _).drewN m⟩
theorem wpList_append_srcP {P : Program} {ops : Array Oper} {rest : List Oper} {o : Oper} {a : Act} {w : World} {Q : Exit → Act → World → Prop} (hgd : o.guard = none) (s x : Operand) (t tx : TypeId)
  (hop : o.op = .call { callee := .builtin .append, args := #[s, x], argTypes := #[t, tx] })
  (base : Nat) (e : TypeId) (i : TypeInfo) (z : Value) (bytes : Nat) (h1 : P.underlying t = some (.slice e)) (h2 : P.info? e = some i) (h3 : i.zero = some z) (h4 : i.size = 1) (h5 : i.bytes = bytes) (h6 : z.cells.size = 1)
  (v : Value) (n : Nat) (xs : List Value) (hv : a.eval s = v) (hown : w.ownsRow base e 1 v n xs) (y : Value) (m : Nat) (news : List Value) (hy : a.eval x = y) (hs : Src P 1 tx y m news w)
  (b1 : n + m ≤ maxLen) (b2 : (n + m) * bytes ≤ 140737488355328) (b3 : base ≤ w.heap.size)
  (h : ∀ v' w', w'.ownsRow base e 1 v' (n + m) (xs ++ news) → w.grownBy w' v.ownBlock → wpList P ops Q rest (a.put o.dst v') w') : wpList P ops Q (o :: rest) a w :=
 wpList_plain hgd fun _ hK => by
  obtain ⟨v', w', hrun, r1, r2⟩ := run_append_own_src (P := P) w base t tx o.type e i z bytes h1 h2 h3 h4 h5 h6 v n xs hown y m news hs b1 b2 b3
  unfold Oper.wp
  simp [execOp, hop, resolve, invoke, builtin, hv, hy, hrun, Result.andThen]
  exact hK _ _ (h v' w' r1 r2)
theorem plain_c (b : Nat) (w : World) (s : ByteArray) (p : Nat) (out : List UInt8) (most : Nat) (hs : s.size ≤ 2147483648) (h : Inf w b s p out most) (hp : p ≤ 8 * s.size) :
  Calls Tryz.prog 83 #[.pointer (some ⟨b, 0, none⟩)] w (infPost b s most w (plainOf s p out most)) := by
 have hsm : s.size ≤ maxLen := by unfold maxLen; omega
 obtain ⟨R, hR⟩ : ∃ R, R = plainOf s p out most := ⟨_, rfl⟩
 have HR : Hid (R = plainOf s p out most) := hR
 rw [← hR]
 clear hR
 unfold plainOf at HR
 obtain ⟨k0, hk0⟩ : ∃ k0, k0 = (p + 7) / 8 := ⟨_, rfl⟩
 obtain ⟨n, hn⟩ : ∃ n, n = numAt s (8 * k0) 16 := ⟨_, rfl⟩
 obtain ⟨m, hm⟩ : ∃ m, m = numAt s (8 * k0 + 16) 16 := ⟨_, rfl⟩
 have bn := numAt_lt s (8 * k0) 16
 have bm := numAt_lt s (8 * k0 + 16) 16
 rw [← hk0, ← hn, ← hm] at HR
 rw [← hn] at bn; rw [← hm] at bm
 have pk : p ≤ 8 * k0 := by omega
 have rp := h.rd.pass hp
 rw [← hk0] at rp
 have HN : Hid (n = numAt s (8 * k0) 16) := hn
 have HM : Hid (m = numAt s (8 * k0 + 16) 16) := hm
 clear hn hm hk0
 have tp : RN b w (w.setCell ⟨b, 3, none⟩ (.int .i64 0)) := ((RT.refl b w).set 3 (by omega) _).rn
 go_enter Tryz.func83, Tryz.ntmps83
 go_wp2_with fail
 refine (passOver_c b w s p h.rd).mono ?_
 rintro e w1 ⟨rfl, hw1⟩
 rw [← hw1] at rp tp
 clear hw1
 go_wp2_with fail
 refine (number_i b w1 s (8 * k0) 16 _ rfl (by omega) hsm rp).mono ?_
 rintro e w2 ⟨rfl, r2, t2⟩
 rw [← HN.out]
 go_wp2_with fail
 refine (number_i b w2 s (8 * k0 + 16) 16 _ rfl (by omega) hsm r2).mono ?_
 rintro e w3 ⟨rfl, r3, t3⟩
 rw [← HM.out]
 have RN3 := (tp.trans t2.rn).trans t3.rn
 have z4 := r3.c4
 by_cases c1 : 8 * s.size < 8 * k0 + 32 ∨ m ≠ 65535 - n
 ·have HE : Hid (R = .inl 1) := by unfold Hid; rw [HR.out, if_pos c1]
  by_cases c2 : 8 * s.size < 8 * k0 + 32
  ·have c2' : 8 * s.size < 8 * k0 + 16 + 16 := by omega
   go_wp2
   go_ret
   exact ⟨IT.ofRN RN3, by rw [HE.out]; rfl⟩
  ·have c2' : ¬ 8 * s.size < 8 * k0 + 16 + 16 := by omega
   have c3 : ¬ (m : Int) = 65535 - (n : Int) := by omega
   go_wp2
   go_ret
   exact ⟨IT.ofRN RN3, by rw [HE.out]; rfl⟩
 ·have c2' : ¬ 8 * s.size < 8 * k0 + 16 + 16 := by omega
  have c3 : (m : Int) = 65535 - (n : Int) := by omega
  have hh := HR.out
  rw [if_neg c1] at hh
  have HR' : Hid (R = _) := hh
  clear HR hh
  obtain ⟨k, hk⟩ : ∃ k, k = k0 + 4 := ⟨_, rfl⟩
  have kle : k ≤ s.size := by omega
  rw [show 8 * k0 + 16 + 16 = 8 * k by omega] at r3
  have hh := HR'.out
  rw [← hk] at hh
  obtain ⟨l, hl⟩ : ∃ l, l = s.size - k := ⟨_, rfl⟩
  obtain ⟨rm, hrm⟩ : ∃ rm, rm = most - out.length := ⟨_, rfl⟩
  rw [← hl, ← hrm] at hh
  have HR : Hid (R = _) := hh
  have HL : Hid (l = s.size - k) := hl
  have HRM : Hid (rm = most - out.length) := hrm
  have b1 : l ≤ 2147483648 := by omega
  have b2 : k + l ≤ s.size := by omega
  have hft := h.fit
  have b3 : out.length + rm ≤ most := by omega
  have ht := h.top
  have b4 : rm ≤ 9223372036854775807 := by omega
  have hin := h.read r3 RN3 (by omega)
  clear HR' hh hk hl hrm
  obtain ⟨ao, cap, h5, ho⟩ := hin.gv
  have h6 := hin.ms
  obtain ⟨i0, hi, hz0, hz1, hz2⟩ := info_parts Tryz.infoByte
  have hfew := hin.few
  have c8 : ∀ c, c ≤ 65536 → out.length + c ≤ maxLen := by intro c _; unfold maxLen; omega
  have c9 : ∀ c, c ≤ 65536 → (out.length + c) * 1 ≤ 140737488355328 := by intro c _; omega
  by_cases c4 : n ≤ l ∧ n ≤ rm
  ·have HE : Hid (R = .inr (out ++ (s.data.toList.drop k).take n, 8 * (k + n))) := by unfold Hid; rw [HR.out, if_pos c4]
   obtain ⟨c5, c6⟩ := c4
   go_wp2_with (first | (go_at_call 113; refine (bytesLeft_i b w3 s _ k l HL.out hsm kle rfl r3).mono ?_; rintro e w4 ⟨rfl, d4, rfl⟩) | (go_at_call 114; refine (room_a b (w3.drewN d4) ao out.length cap most rm HRM.out hft ht h5 h6).mono ?_; rintro e w4 ⟨rfl, d5, rfl⟩))
   obtain ⟨W, hW⟩ : ∃ W, W = w3.drewN (d4 + d5) := ⟨_, rfl⟩
   have iW : Inf W b s (8 * k) out most := by rw [hW]; exact (hin.drewN (d4 + d5)).read (r3.drewN _) (RN.refl b _) (Nat.le_refl _)
   have tW : RN b w3 W := by rw [hW]; exact ⟨(Touch.refl _ w3).drewN _, fun _ _ => rfl, fun _ => rfl⟩
   have g5 : W.cell? ⟨b, 5, none⟩ = some (.slice ao out.length cap) := by rw [hW]; exact h5
   have gO : W.ownsRow (b + 1) 5 1 (.slice ao out.length cap) out.length (byteV out) := by rw [hW]; exact ho
   have hneb : ∀ j, (Value.slice ao out.length cap).ownBlock = some j → ¬ j = b := fun j hj => by have := (gO.lt j hj).1; omega
   rw [← hW]
   clear hW
   refine (wholeBytes_r b W s k n hsm (by omega) iW.rd).mono ?_
   rintro e w5 ⟨rfl, r5, t5⟩
   have y5 := (t5.keep 5 (by omega)).trans g5
   have yO := t5.t.owns gO hneb
   have i5 := iW.read r5 t5.rn (by omega)
   have bs5 : b + 1 ≤ w5.heap.size := i5.lt
   go_wp2_with (at_builtin; refine wpList_append_srcP rfl _ _ 86 9 rfl (b + 1) 5 i0 (.int .u8 0) 1 Tryz.underlying86 hi hz0 hz1 hz2 rfl _ _ _ rfl yO _ _ _ rfl (src_str s k n (by omega)) (c8 n (by omega)) (c9 n (by omega)) bs5 ?_; intro v' w6 hown' hgrow; obtain ⟨q5, q6⟩ := i5.cell5 y5 yO (Touch.refl _ w5) hgrow; obtain ⟨ao', cap', hv'⟩ := owned_form hown'; rw [hv'] at hown' ⊢)
   all_goals
    have nl := take_len s k n (by omega)
    have gi := i5.given (p := 8 * (k + n)) (q := 8 * (k + n)) (new := (s.data.toList.drop k).take n) y5 yO (Touch.refl _ w5) hgrow (by rw [nl]; exact hown') (by rw [nl]; omega) (by rw [nl]; have := hin.few; omega)
    have I6 := ((IT.ofRN ((RN3.trans tW).trans t5.rn)).trans gi.2)
    go_wp2
    go_ret
    exact ⟨I6, by rw [HE.out]; exact ⟨rfl, gi.1⟩⟩
  ·by_cases c5 : l ≤ rm
   ·have HE : Hid (R = .inl 1) := by unfold Hid; rw [HR.out, if_neg c4, if_pos c5]
    have c6 : l < n := by omega
    have c7 : ¬ (l : Int) = (n : Int) := by omega
    go_wp2_with (first | (go_at_call 113; refine (bytesLeft_i b w3 s _ k l HL.out hsm kle rfl r3).mono ?_; rintro e w4 ⟨rfl, d4, rfl⟩) | (go_at_call 114; refine (room_a b (w3.drewN d4) ao out.length cap most rm HRM.out hft ht h5 h6).mono ?_; rintro e w4 ⟨rfl, d5, rfl⟩))
    obtain ⟨W, hW⟩ : ∃ W, W = w3.drewN (d4 + d5) := ⟨_, rfl⟩
    have iW : Inf W b s (8 * k) out most := by rw [hW]; exact (hin.drewN (d4 + d5)).read (r3.drewN _) (RN.refl b _) (Nat.le_refl _)
    have tW : RN b w3 W := by rw [hW]; exact ⟨(Touch.refl _ w3).drewN _, fun _ _ => rfl, fun _ => rfl⟩
    have g5 : W.cell? ⟨b, 5, none⟩ = some (.slice ao out.length cap) := by rw [hW]; exact h5
    have gO : W.ownsRow (b + 1) 5 1 (.slice ao out.length cap) out.length (byteV out) := by rw [hW]; exact ho
    have hneb : ∀ j, (Value.slice ao out.length cap).ownBlock = some j → ¬ j = b := fun j hj => by have := (gO.lt j hj).1; omega
    rw [← hW]
    clear hW
    refine (wholeBytes_r b W s k l hsm (by omega) iW.rd).mono ?_
    rintro e w5 ⟨rfl, r5, t5⟩
    have y5 := (t5.keep 5 (by omega)).trans g5
    have yO := t5.t.owns gO hneb
    have i5 := iW.read r5 t5.rn (by omega)
    have bs5 : b + 1 ≤ w5.heap.size := i5.lt
    go_wp2_with (at_builtin; refine wpList_append_srcP rfl _ _ 86 9 rfl (b + 1) 5 i0 (.int .u8 0) 1 Tryz.underlying86 hi hz0 hz1 hz2 rfl _ _ _ rfl yO _ _ _ rfl (src_str s k l (by omega)) (c8 l (by omega)) (c9 l (by omega)) bs5 ?_; intro v' w6 hown' hgrow; obtain ⟨q5, q6⟩ := i5.cell5 y5 yO (Touch.refl _ w5) hgrow; obtain ⟨ao', cap', hv'⟩ := owned_form hown'; rw [hv'] at hown' ⊢)
    all_goals
     have nl := take_len s k l (by omega)
     have gi := i5.given (p := 8 * (k + l)) (q := 8 * (k + l)) (new := (s.data.toList.drop k).take l) y5 yO (Touch.refl _ w5) hgrow (by rw [nl]; exact hown') (by rw [nl]; omega) (by rw [nl]; have := hin.few; omega)
     have I6 := ((IT.ofRN ((RN3.trans tW).trans t5.rn)).trans gi.2)
     have Z6 := gi.1.rd
     have kl : k + l ≤ s.size := by omega
     have HZ : Hid ((0 : Nat) = s.size - (k + l)) := by unfold Hid; rw [HL.out]; omega
     go_wp2_with (go_at_call 113; refine (bytesLeft_i b _ s _ (k + l) 0 HZ.out hsm kl rfl Z6).mono ?_; rintro e w7 ⟨rfl, d7, rfl⟩)
     go_ret
     exact ⟨I6.drewN d7, by rw [HE.out]; rfl⟩
   ·have HE : Hid (R = .inl 2) := by unfold Hid; rw [HR.out, if_neg c4, if_neg c5]
    have c6 : rm < n := by omega
    have c7 : ¬ (rm : Int) = (n : Int) := by omega
    go_wp2_with (first | (go_at_call 113; refine (bytesLeft_i b w3 s _ k l HL.out hsm kle rfl r3).mono ?_; rintro e w4 ⟨rfl, d4, rfl⟩) | (go_at_call 114; refine (room_a b (w3.drewN d4) ao out.length cap most rm HRM.out hft ht h5 h6).mono ?_; rintro e w4 ⟨rfl, d5, rfl⟩))
    obtain ⟨W, hW⟩ : ∃ W, W = w3.drewN (d4 + d5) := ⟨_, rfl⟩
    have iW : Inf W b s (8 * k) out most := by rw [hW]; exact (hin.drewN (d4 + d5)).read (r3.drewN _) (RN.refl b _) (Nat.le_refl _)
    have tW : RN b w3 W := by rw [hW]; exact ⟨(Touch.refl _ w3).drewN _, fun _ _ => rfl, fun _ => rfl⟩
    have g5 : W.cell? ⟨b, 5, none⟩ = some (.slice ao out.length cap) := by rw [hW]; exact h5
    have gO : W.ownsRow (b + 1) 5 1 (.slice ao out.length cap) out.length (byteV out) := by rw [hW]; exact ho
    have hneb : ∀ j, (Value.slice ao out.length cap).ownBlock = some j → ¬ j = b := fun j hj => by have := (gO.lt j hj).1; omega
    rw [← hW]
    clear hW
    refine (wholeBytes_r b W s k rm hsm (by omega) iW.rd).mono ?_
    rintro e w5 ⟨rfl, r5, t5⟩
    have y5 := (t5.keep 5 (by omega)).trans g5
    have yO := t5.t.owns gO hneb
    have i5 := iW.read r5 t5.rn (by omega)
    have bs5 : b + 1 ≤ w5.heap.size := i5.lt
    go_wp2_with (at_builtin; refine wpList_append_srcP rfl _ _ 86 9 rfl (b + 1) 5 i0 (.int .u8 0) 1 Tryz.underlying86 hi hz0 hz1 hz2 rfl _ _ _ rfl yO _ _ _ rfl (src_str s k rm (by omega)) (c8 rm (by omega)) (c9 rm (by omega)) bs5 ?_; intro v' w6 hown' hgrow; obtain ⟨q5, q6⟩ := i5.cell5 y5 yO (Touch.refl _ w5) hgrow; obtain ⟨ao', cap', hv'⟩ := owned_form hown'; rw [hv'] at hown' ⊢)
    all_goals
     have nl := take_len s k rm (by omega)
     have gi := i5.given (p := 8 * (k + rm)) (q := 8 * (k + rm)) (new := (s.data.toList.drop k).take rm) y5 yO (Touch.refl _ w5) hgrow (by rw [nl]; exact hown') (by rw [nl]; omega) (by rw [nl]; have := hin.few; omega)
     have I6 := ((IT.ofRN ((RN3.trans tW).trans t5.rn)).trans gi.2)
     have Z6 := gi.1.rd
     obtain ⟨l7, hl7⟩ : ∃ l7, l7 = s.size - (k + rm) := ⟨_, rfl⟩
     have HZ : Hid (l7 = s.size - (k + rm)) := hl7
     have l70 : ¬ l7 = 0 := by rw [hl7]; have := HL.out; omega
     have kl : k + rm ≤ s.size := by omega
     clear hl7
     go_wp2_with (go_at_call 113; refine (bytesLeft_i b _ s _ (k + rm) l7 HZ.out hsm kl rfl Z6).mono ?_; rintro e w7 ⟨rfl, d7, rfl⟩)
     go_ret
     exact ⟨I6.drewN d7, by rw [HE.out]; rfl⟩
end Go.Proofs.YtnmkmmgaoplfiaaGreatDoor
