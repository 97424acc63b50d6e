/- Texts of this seat, joined. -/
import Derived.Test.YtmhlkdlcpicekaaGreatDoorJ15
import Derived.Test.YtmhlkdlcpicekaaGreatDoorJ07
import Derived.Lib.Strings
import Derived.Laws.BytesArg
set_option linter.unusedSimpArgs false
set_option linter.unusedVariables false
set_option maxRecDepth 100000
set_option maxHeartbeats 20000000
namespace Go.Proofs.YtmhlkdlcpicekaaGreatDoor
open Go.RowKit
def plainOf (s : ByteArray) (p : Nat) (out : List UInt8) (most : Nat) : Sum Nat (List UInt8 × Nat) :=
 if 8 * s.size < 8 * ((p + 7) / 8) + 32 ∨ numAt s (8 * ((p + 7) / 8) + 16) 16 ≠ 65535 - numAt s (8 * ((p + 7) / 8)) 16 then .inl 1
 else if numAt s (8 * ((p + 7) / 8)) 16 ≤ s.size - ((p + 7) / 8 + 4) ∧ numAt s (8 * ((p + 7) / 8)) 16 ≤ most - out.length then .inr (out ++ (s.data.toList.drop ((p + 7) / 8 + 4)).take (numAt s (8 * ((p + 7) / 8)) 16), 8 * ((p + 7) / 8 + 4 + numAt s (8 * ((p + 7) / 8)) 16))
 else if s.size - ((p + 7) / 8 + 4) ≤ most - out.length then .inl 1 else .inl 2
theorem Rd.pass {w : World} {b : Nat} {s : ByteArray} {p : Nat} (h : Rd w b s p) (hp : p ≤ 8 * s.size) : Rd (w.setCell ⟨b, 3, none⟩ (.int .i64 0)) b s (8 * ((p + 7) / 8)) := by
 obtain ⟨c0, c1, ⟨r, hr, c2, _⟩, c3, c4, fr⟩ := h
 refine ⟨?_, ?_, ⟨r, hr, ?_, ?_⟩, ?_, ?_, ?_⟩
 ·simp [cell_set_if, c0]
 ·rw [show min s.size ((8 * ((p + 7) / 8) + 7) / 8) = min s.size ((p + 7) / 8) by omega]; simp [cell_set_if, c1]
 ·simp [cell_set_if, c2]
 ·intro _ hn; omega
 ·rw [show (if 8 * ((p + 7) / 8) ≤ 8 * s.size then (8 - 8 * ((p + 7) / 8) % 8) % 8 else 0) = 0 by split <;> omega]; simp [cell_set_if, c3]
 ·rw [show decide (8 * s.size < 8 * ((p + 7) / 8)) = decide (8 * s.size < p) by rw [decide_eq_false (by omega), decide_eq_false (by omega)]]; simp [cell_set_if, c4]
 ·intro o; rw [World.frozen?_setCell]; exact fr o
theorem Rd.whole {w : World} {b : Nat} {s : ByteArray} {k n : Nat} (h : Rd w b s (8 * k)) (hk : k + n ≤ s.size) (m : Nat) : Rd ((w.setCell ⟨b, 1, none⟩ (.int .i64 ((k + n : Nat) : Int))).drewN m) b s (8 * (k + n)) := by
 obtain ⟨c0, c1, ⟨r, hr, c2, _⟩, c3, c4, fr⟩ := h
 refine ⟨?_, ?_, ⟨r, hr, ?_, ?_⟩, ?_, ?_, ?_⟩
 ·simp [cell_drewN, cell_set_if, c0]
 ·rw [show min s.size ((8 * (k + n) + 7) / 8) = k + n by omega]; simp [cell_drewN, cell_set_if, c1]
 ·simp [cell_drewN, cell_set_if, c2]
 ·intro _ hn; omega
 ·rw [show (if 8 * (k + n) ≤ 8 * s.size then (8 - 8 * (k + n) % 8) % 8 else 0) = (if 8 * k ≤ 8 * s.size then (8 - 8 * k % 8) % 8 else 0) by rw [if_pos (by omega), if_pos (by omega)]; omega]; simp [cell_drewN, cell_set_if, c3]
 ·rw [show decide (8 * s.size < 8 * (k + n)) = decide (8 * s.size < 8 * k) by rw [decide_eq_false (by omega), decide_eq_false (by omega)]]; simp [cell_drewN, cell_set_if, c4]
 ·intro o; rw [frozen_drewN, World.frozen?_setCell]; exact fr o
theorem extract_list (s : ByteArray) (k n : Nat) (h : k + n ≤ s.size) : (s.extract k (k + n)).data.toList = (s.data.toList.drop k).take n := by
 rw [Lib.extract_data, Nat.add_sub_cancel_left]
theorem src_str {W : World} (s : ByteArray) (k n : Nat) (h : k + n ≤ s.size) : Src Tryz.prog 1 9 (.string (s.extract k (k + n))) n (byteV ((s.data.toList.drop k).take n)) W := by
 have hz : (s.extract k (k + n)).size = n := by simp; omega
 have := Src.ofString (P := Tryz.prog) (w := W) Tryz.underlying9 (s.extract k (k + n))
 rw [hz] at this
 have e : byteCells (s.extract k (k + n)) = byteV ((s.data.toList.drop k).take n) := by
  unfold byteCells byteV; rw [extract_list s k n h]
 rw [e] at this
 exact this
theorem take_len (s : ByteArray) (k c : Nat) (h : k + c ≤ s.size) : ((s.data.toList.drop k).take c).length = c := by
 have e : s.data.toList.length = s.size := Array.length_toList
 rw [List.length_take, List.length_drop]; omega
theorem owned_form {w : World} {base : Nat} {e : TypeId} {size n : Nat} {v : Value} {xs : List Value} (h : w.ownsRow base e size v n xs) : ∃ ao cap, v = .slice ao n cap := by
 rcases h.2 with ⟨e, h0⟩ | ⟨g, cap, cur, e, _⟩
 ·exact ⟨none, 0, by rw [e, h0]⟩
 ·exact ⟨_, _, e⟩
theorem bytesLeft_i (b : Nat) (w : World) (s : ByteArray) (p k l : Nat) (hl : l = s.size - k) (hs : s.size ≤ maxLen) (hk : k ≤ s.size) (hp : p = 8 * k) (h : Rd w b s p) :
  Calls Tryz.prog 196 #[.pointer (some ⟨b, 0, none⟩)] w fun e w' => e = .returned (.int .i64 (l : Int)) ∧ ∃ n, w' = w.drewN n := by
 subst hl hp
 have c1 := h.c1
 rw [show min s.size ((8 * k + 7) / 8) = k by omega] at c1
 exact bytesLeft_c b w s k hs hk h.c0 c1
theorem wholeBytes_r (b : Nat) (w : World) (s : ByteArray) (k n : Nat) (hs : s.size ≤ maxLen) (hk : k + n ≤ s.size) (h : Rd w b s (8 * k)) :
  Calls Tryz.prog 198 #[.pointer (some ⟨b, 0, none⟩), .int .i64 (n : Int)] w fun e w' => e = .returned (.string (s.extract k (k + n))) ∧ Rd w' b s (8 * (k + n)) ∧ RT b w w' := by
 have c1 := h.c1
 rw [show min s.size ((8 * k + 7) / 8) = k by omega] at c1
 refine (wholeBytes_c b w s k n hs hk h.c0 c1 (h.fr 1)).mono ?_
 rintro e w' ⟨rfl, m, rfl⟩
 exact ⟨rfl, h.whole hk m, ((RT.refl b w).set 1 (by omega) _).drewN m⟩
theorem wpList_append_srcP {P : Program} {ops : Array Oper} {rest : List Oper} {o : Oper} {a : Act} {w : World} {Q : Exit → Act → World → Prop} (hgd : o.guard = none) (s x : Operand) (t tx : TypeId)
  (hop : o.op = .call { callee := .builtin .append, args := #[s, x], argTypes := #[t, tx] })
  (base : Nat) (e : TypeId) (i : TypeInfo) (z : Value) (bytes : Nat) (h1 : P.underlying t = some (.slice e)) (h2 : P.info? e = some i) (h3 : i.zero = some z) (h4 : i.size = 1) (h5 : i.bytes = bytes) (h6 : z.cells.size = 1)
  (v : Value) (n : Nat) (xs : List Value) (hv : a.eval s = v) (hown : w.ownsRow base e 1 v n xs) (y : Value) (m : Nat) (news : List Value) (hy : a.eval x = y) (hs : Src P 1 tx y m news w)
  (b1 : n + m ≤ maxLen) (b2 : (n + m) * bytes ≤ 140737488355328) (b3 : base ≤ w.heap.size)
  (h : ∀ v' w', w'.ownsRow base e 1 v' (n + m) (xs ++ news) → w.grownBy w' v.ownBlock → wpList P ops Q rest (a.put o.dst v') w') : wpList P ops Q (o :: rest) a w :=
 wpList_plain hgd fun _ hK => by
  obtain ⟨v', w', hrun, r1, r2⟩ := run_append_own_src (P := P) w base t tx o.type e i z bytes h1 h2 h3 h4 h5 h6 v n xs hown y m news hs b1 b2 b3
  unfold Oper.wp
  simp [execOp, hop, resolve, invoke, builtin, hv, hy, hrun, Result.andThen]
  exact hK _ _ (h v' w' r1 r2)
theorem plain_c (b : Nat) (w : World) (s : ByteArray) (p : Nat) (out : List UInt8) (most : Nat) (hs : s.size ≤ 2147483648) (h : Inf w b s p out most) (hp : p ≤ 8 * s.size) :
  Calls Tryz.prog 133 #[.pointer (some ⟨b, 0, none⟩)] w (infPost b s most w (plainOf s p out most)) := by
 have hsm : s.size ≤ maxLen := by unfold maxLen; omega
 obtain ⟨R, hR⟩ : ∃ R, R = plainOf s p out most := ⟨_, rfl⟩
 have HR : Hid (R = plainOf s p out most) := hR
 rw [← hR]
 clear hR
 unfold plainOf at HR
 obtain ⟨k0, hk0⟩ : ∃ k0, k0 = (p + 7) / 8 := ⟨_, rfl⟩
 obtain ⟨n, hn⟩ : ∃ n, n = numAt s (8 * k0) 16 := ⟨_, rfl⟩
 obtain ⟨m, hm⟩ : ∃ m, m = numAt s (8 * k0 + 16) 16 := ⟨_, rfl⟩
 have bn := numAt_lt s (8 * k0) 16
 have bm := numAt_lt s (8 * k0 + 16) 16
 rw [← hk0, ← hn, ← hm] at HR
 rw [← hn] at bn; rw [← hm] at bm
 have pk : p ≤ 8 * k0 := by omega
 have rp := h.rd.pass hp
 rw [← hk0] at rp
 have HN : Hid (n = numAt s (8 * k0) 16) := hn
 have HM : Hid (m = numAt s (8 * k0 + 16) 16) := hm
 clear hn hm hk0
 have tp : RN b w (w.setCell ⟨b, 3, none⟩ (.int .i64 0)) := ((RT.refl b w).set 3 (by omega) _).rn
 go_enter Tryz.func133, Tryz.ntmps133
 go_wp2_with fail
 refine (passOver_c b w s p h.rd).mono ?_
 rintro e w1 ⟨rfl, hw1⟩
 rw [← hw1] at rp tp
 clear hw1
 go_wp2_with fail
 refine (number_i b w1 s (8 * k0) 16 _ rfl (by omega) hsm rp).mono ?_
 rintro e w2 ⟨rfl, r2, t2⟩
 rw [← HN.out]
 go_wp2_with fail
 refine (number_i b w2 s (8 * k0 + 16) 16 _ rfl (by omega) hsm r2).mono ?_
 rintro e w3 ⟨rfl, r3, t3⟩
 rw [← HM.out]
 have RN3 := (tp.trans t2.rn).trans t3.rn
 have z4 := r3.c4
 by_cases c1 : 8 * s.size < 8 * k0 + 32 ∨ m ≠ 65535 - n
 ·have HE : Hid (R = .inl 1) := by unfold Hid; rw [HR.out, if_pos c1]
  by_cases c2 : 8 * s.size < 8 * k0 + 32
  ·have c2' : 8 * s.size < 8 * k0 + 16 + 16 := by omega
   go_wp2
   go_ret
   exact ⟨IT.ofRN RN3, by rw [HE.out]; rfl⟩
  ·have c2' : ¬ 8 * s.size < 8 * k0 + 16 + 16 := by omega
   have c3 : ¬ (m : Int) = 65535 - (n : Int) := by omega
   go_wp2
   go_ret
   exact ⟨IT.ofRN RN3, by rw [HE.out]; rfl⟩
 ·have c2' : ¬ 8 * s.size < 8 * k0 + 16 + 16 := by omega
  have c3 : (m : Int) = 65535 - (n : Int) := by omega
  have hh := HR.out
  rw [if_neg c1] at hh
  have HR' : Hid (R = _) := hh
  clear HR hh
  obtain ⟨k, hk⟩ : ∃ k, k = k0 + 4 := ⟨_, rfl⟩
  have kle : k ≤ s.size := by omega
  rw [show 8 * k0 + 16 + 16 = 8 * k by omega] at r3
  have hh := HR'.out
  rw [← hk] at hh
  obtain ⟨l, hl⟩ : ∃ l, l = s.size - k := ⟨_, rfl⟩
  obtain ⟨rm, hrm⟩ : ∃ rm, rm = most - out.length := ⟨_, rfl⟩
  rw [← hl, ← hrm] at hh
  have HR : Hid (R = _) := hh
  have HL : Hid (l = s.size - k) := hl
  have HRM : Hid (rm = most - out.length) := hrm
  have b1 : l ≤ 2147483648 := by omega
  have b2 : k + l ≤ s.size := by omega
  have hft := h.fit
  have b3 : out.length + rm ≤ most := by omega
  have ht := h.top
  have b4 : rm ≤ 9223372036854775807 := by omega
  have hin := h.read r3 RN3 (by omega)
  clear HR' hh hk hl hrm
  obtain ⟨ao, cap, h5, ho⟩ := hin.gv
  have h6 := hin.ms
  obtain ⟨i0, hi, hz0, hz1, hz2⟩ := info_parts Tryz.infoByte
  have hfew := hin.few
  have c8 : ∀ c, c ≤ 65536 → out.length + c ≤ maxLen := by intro c _; unfold maxLen; omega
  have c9 : ∀ c, c ≤ 65536 → (out.length + c) * 1 ≤ 140737488355328 := by intro c _; omega
  by_cases c4 : n ≤ l ∧ n ≤ rm
  ·have HE : Hid (R = .inr (out ++ (s.data.toList.drop k).take n, 8 * (k + n))) := by unfold Hid; rw [HR.out, if_pos c4]
   obtain ⟨c5, c6⟩ := c4
   go_wp2_with (first | (go_at_call 196; refine (bytesLeft_i b w3 s _ k l HL.out hsm kle rfl r3).mono ?_; rintro e w4 ⟨rfl, d4, rfl⟩) | (go_at_call 197; refine (room_a b (w3.drewN d4) ao out.length cap most rm HRM.out hft ht h5 h6).mono ?_; rintro e w4 ⟨rfl, d5, rfl⟩))
   obtain ⟨W, hW⟩ : ∃ W, W = w3.drewN (d4 + d5) := ⟨_, rfl⟩
   have iW : Inf W b s (8 * k) out most := by rw [hW]; exact (hin.drewN (d4 + d5)).read (r3.drewN _) (RN.refl b _) (Nat.le_refl _)
   have tW : RN b w3 W := by rw [hW]; exact ⟨(Touch.refl _ w3).drewN _, fun _ _ => rfl, fun _ => rfl⟩
   have g5 : W.cell? ⟨b, 5, none⟩ = some (.slice ao out.length cap) := by rw [hW]; exact h5
   have gO : W.ownsRow (b + 1) 5 1 (.slice ao out.length cap) out.length (byteV out) := by rw [hW]; exact ho
   have hneb : ∀ j, (Value.slice ao out.length cap).ownBlock = some j → ¬ j = b := fun j hj => by have := (gO.lt j hj).1; omega
   rw [← hW]
   clear hW
   refine (wholeBytes_r b W s k n hsm (by omega) iW.rd).mono ?_
   rintro e w5 ⟨rfl, r5, t5⟩
   have y5 := (t5.keep 5 (by omega)).trans g5
   have yO := t5.t.owns gO hneb
   have i5 := iW.read r5 t5.rn (by omega)
   have bs5 : b + 1 ≤ w5.heap.size := i5.lt
   go_wp2_with (at_builtin; refine wpList_append_srcP rfl _ _ 114 9 rfl (b + 1) 5 i0 (.int .u8 0) 1 Tryz.underlying114 hi hz0 hz1 hz2 rfl _ _ _ rfl yO _ _ _ rfl (src_str s k n (by omega)) (c8 n (by omega)) (c9 n (by omega)) bs5 ?_; intro v' w6 hown' hgrow; obtain ⟨q5, q6⟩ := i5.cell5 y5 yO (Touch.refl _ w5) hgrow; obtain ⟨ao', cap', hv'⟩ := owned_form hown'; rw [hv'] at hown' ⊢)
   all_goals
    have nl := take_len s k n (by omega)
    have gi := i5.given (p := 8 * (k + n)) (q := 8 * (k + n)) (new := (s.data.toList.drop k).take n) y5 yO (Touch.refl _ w5) hgrow (by rw [nl]; exact hown') (by rw [nl]; omega) (by rw [nl]; have := hin.few; omega)
    have I6 := ((IT.ofRN ((RN3.trans tW).trans t5.rn)).trans gi.2)
    go_wp2
    go_ret
    exact ⟨I6, by rw [HE.out]; exact ⟨rfl, gi.1⟩⟩
  ·by_cases c5 : l ≤ rm
   ·have HE : Hid (R = .inl 1) := by unfold Hid; rw [HR.out, if_neg c4, if_pos c5]
    have c6 : l < n := by omega
    have c7 : ¬ (l : Int) = (n : Int) := by omega
    go_wp2_with (first | (go_at_call 196; refine (bytesLeft_i b w3 s _ k l HL.out hsm kle rfl r3).mono ?_; rintro e w4 ⟨rfl, d4, rfl⟩) | (go_at_call 197; refine (room_a b (w3.drewN d4) ao out.length cap most rm HRM.out hft ht h5 h6).mono ?_; rintro e w4 ⟨rfl, d5, rfl⟩))
    obtain ⟨W, hW⟩ : ∃ W, W = w3.drewN (d4 + d5) := ⟨_, rfl⟩
    have iW : Inf W b s (8 * k) out most := by rw [hW]; exact (hin.drewN (d4 + d5)).read (r3.drewN _) (RN.refl b _) (Nat.le_refl _)
    have tW : RN b w3 W := by rw [hW]; exact ⟨(Touch.refl _ w3).drewN _, fun _ _ => rfl, fun _ => rfl⟩
    have g5 : W.cell? ⟨b, 5, none⟩ = some (.slice ao out.length cap) := by rw [hW]; exact h5
    have gO : W.ownsRow (b + 1) 5 1 (.slice ao out.length cap) out.length (byteV out) := by rw [hW]; exact ho
    have hneb : ∀ j, (Value.slice ao out.length cap).ownBlock = some j → ¬ j = b := fun j hj => by have := (gO.lt j hj).1; omega
    rw [← hW]
    clear hW
    refine (wholeBytes_r b W s k l hsm (by omega) iW.rd).mono ?_
    rintro e w5 ⟨rfl, r5, t5⟩
    have y5 := (t5.keep 5 (by omega)).trans g5
    have yO := t5.t.owns gO hneb
    have i5 := iW.read r5 t5.rn (by omega)
    have bs5 : b + 1 ≤ w5.heap.size := i5.lt
    go_wp2_with (at_builtin; refine wpList_append_srcP rfl _ _ 114 9 rfl (b + 1) 5 i0 (.int .u8 0) 1 Tryz.underlying114 hi hz0 hz1 hz2 rfl _ _ _ rfl yO _ _ _ rfl (src_str s k l (by omega)) (c8 l (by omega)) (c9 l (by omega)) bs5 ?_; intro v' w6 hown' hgrow; obtain ⟨q5, q6⟩ := i5.cell5 y5 yO (Touch.refl _ w5) hgrow; obtain ⟨ao', cap', hv'⟩ := owned_form hown'; rw [hv'] at hown' ⊢)
    all_goals
     have nl := take_len s k l (by omega)
     have gi := i5.given (p := 8 * (k + l)) (q := 8 * (k + l)) (new := (s.data.toList.drop k).take l) y5 yO (Touch.refl _ w5) hgrow (by rw [nl]; exact hown') (by rw [nl]; omega) (by rw [nl]; have := hin.few; omega)
     have I6 := ((IT.ofRN ((RN3.trans tW).trans t5.rn)).trans gi.2)
     have Z6 := gi.1.rd
     have kl : k + l ≤ s.size := by omega
     have HZ : Hid ((0 : Nat) = s.size - (k + l)) := by unfold Hid; rw [HL.out]; omega
     go_wp2_with (go_at_call 196; refine (bytesLeft_i b _ s _ (k + l) 0 HZ.out hsm kl rfl Z6).mono ?_; rintro e w7 ⟨rfl, d7, rfl⟩)
     go_ret
     exact ⟨I6.drewN d7, by rw [HE.out]; rfl⟩
   ·have HE : Hid (R = .inl 2) := by unfold Hid; rw [HR.out, if_neg c4, if_neg c5]
    have c6 : rm < n := by omega
    have c7 : ¬ (rm : Int) = (n : Int) := by omega
    go_wp2_with (first | (go_at_call 196; refine (bytesLeft_i b w3 s _ k l HL.out hsm kle rfl r3).mono ?_; rintro e w4 ⟨rfl, d4, rfl⟩) | (go_at_call 197; refine (room_a b (w3.drewN d4) ao out.length cap most rm HRM.out hft ht h5 h6).mono ?_; rintro e w4 ⟨rfl, d5, rfl⟩))
    obtain ⟨W, hW⟩ : ∃ W, W = w3.drewN (d4 + d5) := ⟨_, rfl⟩
    have iW : Inf W b s (8 * k) out most := by rw [hW]; exact (hin.drewN (d4 + d5)).read (r3.drewN _) (RN.refl b _) (Nat.le_refl _)
    have tW : RN b w3 W := by rw [hW]; exact ⟨(Touch.refl _ w3).drewN _, fun _ _ => rfl, fun _ => rfl⟩
    have g5 : W.cell? ⟨b, 5, none⟩ = some (.slice ao out.length cap) := by rw [hW]; exact h5
    have gO : W.ownsRow (b + 1) 5 1 (.slice ao out.length cap) out.length (byteV out) := by rw [hW]; exact ho
    have hneb : ∀ j, (Value.slice ao out.length cap).ownBlock = some j → ¬ j = b := fun j hj => by have := (gO.lt j hj).1; omega
    rw [← hW]
    clear hW
    refine (wholeBytes_r b W s k rm hsm (by omega) iW.rd).mono ?_
    rintro e w5 ⟨rfl, r5, t5⟩
    have y5 := (t5.keep 5 (by omega)).trans g5
    have yO := t5.t.owns gO hneb
    have i5 := iW.read r5 t5.rn (by omega)
    have bs5 : b + 1 ≤ w5.heap.size := i5.lt
    go_wp2_with (at_builtin; refine wpList_append_srcP rfl _ _ 114 9 rfl (b + 1) 5 i0 (.int .u8 0) 1 Tryz.underlying114 hi hz0 hz1 hz2 rfl _ _ _ rfl yO _ _ _ rfl (src_str s k rm (by omega)) (c8 rm (by omega)) (c9 rm (by omega)) bs5 ?_; intro v' w6 hown' hgrow; obtain ⟨q5, q6⟩ := i5.cell5 y5 yO (Touch.refl _ w5) hgrow; obtain ⟨ao', cap', hv'⟩ := owned_form hown'; rw [hv'] at hown' ⊢)
    all_goals
     have nl := take_len s k rm (by omega)
     have gi := i5.given (p := 8 * (k + rm)) (q := 8 * (k + rm)) (new := (s.data.toList.drop k).take rm) y5 yO (Touch.refl _ w5) hgrow (by rw [nl]; exact hown') (by rw [nl]; omega) (by rw [nl]; have := hin.few; omega)
     have I6 := ((IT.ofRN ((RN3.trans tW).trans t5.rn)).trans gi.2)
     have Z6 := gi.1.rd
     obtain ⟨l7, hl7⟩ : ∃ l7, l7 = s.size - (k + rm) := ⟨_, rfl⟩
     have HZ : Hid (l7 = s.size - (k + rm)) := hl7
     have l70 : ¬ l7 = 0 := by rw [hl7]; have := HL.out; omega
     have kl : k + rm ≤ s.size := by omega
     clear hl7
     go_wp2_with (go_at_call 196; refine (bytesLeft_i b _ s _ (k + rm) l7 HZ.out hsm kl rfl Z6).mono ?_; rintro e w7 ⟨rfl, d7, rfl⟩)
     go_ret
     exact ⟨I6.drewN d7, by rw [HE.out]; rfl⟩
end Go.Proofs.YtmhlkdlcpicekaaGreatDoor
namespace Go.Proofs.YtmhlkdlcpicekaaGreatDoor
open Go.RowKit
def fine (L D : List Nat) : Bool := freeOf L 15 == 0 && (placeOf D 16 == 0 || (placeOf D 16 == 1 && cnt D 1 == 1) || freeOf D 15 == 0)
def ownOf (s : ByteArray) (p : Nat) : Option (List Nat × List Nat × Nat) :=
 if 286 < numAt s p 5 + 257 ∨ 30 < numAt s (p + 5) 5 + 1 then none
 else if 8 * s.size < p + 14 + 3 * (numAt s (p + 10) 4 + 4) ∨ freeOf (lens3 s (p + 14) (numAt s (p + 10) 4 + 4)) 15 ≠ 0 then none
 else match lensGo (lens3 s (p + 14) (numAt s (p + 10) 4 + 4)) s (numAt s p 5 + 257 + (numAt s (p + 5) 5 + 1)) (numAt s p 5 + 257 + (numAt s (p + 5) 5 + 1)) (p + 14 + 3 * (numAt s (p + 10) 4 + 4)) [] with
  | none => none
  | some (l, q) =>
   if l.getD 256 0 = 0 then none
   else if fine (l.take (numAt s p 5 + 257)) (l.drop (numAt s p 5 + 257)) = true then some (l.take (numAt s p 5 + 257), l.drop (numAt s p 5 + 257), q) else none
theorem lensGo_ok (C : List Nat) (s : ByteArray) (want : Nat) (hC : C.length = 19) : ∀ f p acc l q, acc.length ≤ want → (∀ x ∈ acc, x ≤ 15) → lensGo C s want f p acc = some (l, q) → l.length = want ∧ ∀ x ∈ l, x ≤ 15
 | 0, p, acc, l, q, h1, h2, h => by
  simp only [lensGo] at h
  by_cases hw : want ≤ acc.length
  ·rw [if_pos hw] at h; cases h; exact ⟨by omega, h2⟩
  ·rw [if_neg hw] at h; cases h
 | f + 1, p, acc, l, q, h1, h2, h => by
  by_cases hw : want ≤ acc.length
  ·rw [lensGo_done _ _ _ _ _ _ hw] at h; cases h; exact ⟨by omega, h2⟩
  ·cases hd : dec C s p with
   | none => rw [lensGo_none _ _ _ _ _ _ (by omega) hd] at h; cases h
   | some kq =>
    obtain ⟨kind, q1⟩ := kq
    rw [lensGo_some _ _ _ _ _ kind q1 _ (by omega) hd] at h
    by_cases c1 : kind = 16 ∧ acc.length = 0
    ·rw [if_pos c1] at h; cases h
    ·rw [if_neg c1] at h
     by_cases c2 : 8 * s.size < (lenOf s kind q1 acc).2.2
     ·rw [if_pos c2] at h; cases h
     ·rw [if_neg c2] at h
      by_cases c3 : want < acc.length + (lenOf s kind q1 acc).2.1
      ·rw [if_pos c3] at h; cases h
      ·rw [if_neg c3] at h
       refine lensGo_ok C s want hC f _ _ l q ?_ ?_ h
       ·rw [List.length_append, List.length_replicate]; omega
       ·intro x hx
        rcases List.mem_append.1 hx with hx | hx
        ·exact h2 x hx
        ·rw [(List.mem_replicate.1 hx).2]
         have hk := (dec_lt hd).1
         unfold lenOf
         by_cases k1 : kind = 16
         ·rw [if_pos k1]
          have hlt : acc.length - 1 < acc.length := by omega
          show acc.getD (acc.length - 1) 0 ≤ 15
          rw [List.getD_eq_getElem?_getD, List.getElem?_eq_getElem hlt]
          exact h2 _ (List.getElem_mem hlt)
         ·rw [if_neg k1]
          by_cases k2 : kind = 17
          ·rw [if_pos k2]; exact Nat.zero_le _
          ·rw [if_neg k2]
           by_cases k3 : kind = 18
           ·rw [if_pos k3]; exact Nat.zero_le _
           ·rw [if_neg k3]; show kind ≤ 15; omega
theorem at_store {P : Program} {ops : Array Oper} {rest : List Oper} {d : Option Tmp} {t ty : TypeId} {x y : Operand} {ps : String} {af : Array Edge} {g : Option (Nat × Bool)} {a : Act} {w : World} {Q : Exit → Act → World → Prop} (h : wpList P ops Q (⟨d, .store t x y, ty, ps, af, g⟩ :: rest) a w) : wpList P ops Q (⟨d, .store t x y, ty, ps, af, g⟩ :: rest) a w := h
theorem alloc_setRow (w : World) (a b : Array Value) (t : TypeId) : (w.alloc (.cells a t)).setRow w.heap.size b = w.alloc (.cells b t) := by
 simp only [World.setRow, World.alloc]
 congr 1
 apply Array.ext
 ·simp
 ·intro i h1 h2
  simp only [Array.getElem_modify]
  by_cases e : w.heap.size = i
  ·subst e; simp
  ·rw [if_neg e]
   simp at h1
   rw [Array.getElem_push_lt (by omega), Array.getElem_push_lt (by omega)]
def ownPost (b : Nat) (s : ByteArray) (w : World) (r : Option (List Nat × List Nat × Nat)) (e : Ending) (w' : World) : Prop :=
 RN b w w' ∧ match r with
 | none => ∃ v, e = .returned (.tuple #[v, .bool false])
 | some (L, D, q) => ∃ fb n1 c1 n2 c2, e = .returned (.tuple #[.pointer (some ⟨fb, 0, none⟩), .bool true]) ∧ Codes w' fb n1 c1 n2 c2 L D ∧ w.heap.size ≤ fb ∧ w.heap.size ≤ n1 ∧ w.heap.size ≤ n2 ∧ Rd w' b s q
theorem isFull_v (w : World) (b off nb cap : Nat) (L : List Nat) (h : IsCode w b off nb cap L) :
  Calls Tryz.prog 205 #[.pointer (some ⟨b, off, none⟩)] w fun e w' => e = .returned (.bool (freeOf L 15 == 0)) ∧ w = w' := (isFull_c w b off nb cap L h).mono fun _ _ h => ⟨h.1, h.2.symm⟩
theorem serves_v (w : World) (b off nb cap : Nat) (L : List Nat) (h : IsCode w b off nb cap L) :
  Calls Tryz.prog 207 #[.pointer (some ⟨b, off, none⟩)] w fun e w' => e = .returned (.bool (placeOf L 16 == 0 || (placeOf L 16 == 1 && cnt L 1 == 1) || freeOf L 15 == 0)) ∧ w = w' := (serves_c w b off nb cap L h).mono fun _ _ h => ⟨h.1, h.2.symm⟩
theorem newCode_l (w : World) (lb lo n cap : Nat) (L : List Nat) (hlen : L.length = n) (hn : n ≤ 400) (hL : ∀ x ∈ L, x ≤ 15) (hcells : ∀ j (h : j < L.length), w.cell? ⟨lb, lo + j, none⟩ = some (.int .i64 (L[j] : Nat))) :
  Calls Tryz.prog 200 #[.slice (some ⟨lb, lo, none⟩) n cap] w fun e w' => ∃ nb cap', e = .returned (.agg #[.int .i64 (cnt L 0 : Nat), .int .i64 (cnt L 1 : Nat), .int .i64 (cnt L 2 : Nat), .int .i64 (cnt L 3 : Nat), .int .i64 (cnt L 4 : Nat), .int .i64 (cnt L 5 : Nat), .int .i64 (cnt L 6 : Nat), .int .i64 (cnt L 7 : Nat), .int .i64 (cnt L 8 : Nat), .int .i64 (cnt L 9 : Nat), .int .i64 (cnt L 10 : Nat), .int .i64 (cnt L 11 : Nat), .int .i64 (cnt L 12 : Nat), .int .i64 (cnt L 13 : Nat), .int .i64 (cnt L 14 : Nat), .int .i64 (cnt L 15 : Nat), .slice (some ⟨nb, 0, none⟩) (placeOf L 16) cap']) ∧ w.heap.size ≤ nb ∧ nb < w'.heap.size ∧
   (∀ n r, 1 ≤ n → n < 16 → r < cnt L n → w'.cell? ⟨nb, placeOf L n + r, none⟩ = some (.int .i64 (nth L n r : Nat))) ∧ Typed w' nb 3 ∧ Touch (fun _ => False) w w' := newCode_c w lb lo n cap L hlen hn hL hcells
theorem takeLengths_i (w : World) (b cb off nb cap : Nat) (C : List Nat) (s : ByteArray) (p want : Nat) (N : Int) (hN : N = (want : Int)) (R : Option (List Nat × Nat)) (hR : lensGo C s want want p [] = R) (hw : want ≤ 400) (hC : C.length = 19) (hs : s.size ≤ maxLen) (hr : Rd w b s p) (hc : IsCode w cb off nb cap C) (h1 : cb ≠ b) (h2 : nb ≠ b) (h3 : cb < w.heap.size) (h4 : nb < w.heap.size) :
  Calls Tryz.prog 206 #[.pointer (some ⟨b, 0, none⟩), .pointer (some ⟨cb, off, none⟩), .int .i64 N] w (lensPost b s w R) := by
 subst hN hR; exact takeLengths_c w b cb off nb cap C s p want hw hC hs hr hc h1 h2 h3 h4
theorem part_cells {w : World} {base g cap : Nat} {l : List Nat} (h : w.ownsRow base 3 1 (.slice (some ⟨g, 0, none⟩) l.length cap) l.length (ints l)) (m : Nat) :
  (∀ j (hj : j < (l.take m).length), w.cell? ⟨g, 0 + j, none⟩ = some (.int .i64 ((l.take m)[j] : Nat))) ∧ (∀ j (hj : j < (l.drop m).length), w.cell? ⟨g, m + j, none⟩ = some (.int .i64 ((l.drop m)[j] : Nat))) := by
 constructor
 ·intro j hj
  rw [List.length_take] at hj
  rw [owned_ints h j (by omega), List.getElem_take]
 ·intro j hj
  rw [List.length_drop] at hj
  have := owned_ints h (m + j) (by omega)
  rw [Nat.zero_add] at this
  rw [this, List.getElem_drop]
theorem ownCodes_c (w : World) (b : Nat) (s : ByteArray) (p : Nat) (hs : s.size ≤ maxLen) (hr : Rd w b s p) (ho : Ord w) (hb : 1 < b) :
  Calls Tryz.prog 136 #[.pointer (some ⟨b, 0, none⟩)] w (ownPost b s w (ownOf s p)) := by
 have hlt := hr.lt
 obtain ⟨R, hR⟩ : ∃ R, R = ownOf s p := ⟨_, rfl⟩
 have HR : Hid (R = ownOf s p) := hR
 rw [← hR]
 clear hR
 unfold ownOf at HR
 obtain ⟨x, hx⟩ : ∃ x, x = numAt s p 5 := ⟨_, rfl⟩
 obtain ⟨y, hy⟩ : ∃ y, y = numAt s (p + 5) 5 := ⟨_, rfl⟩
 obtain ⟨z, hz⟩ : ∃ z, z = numAt s (p + 10) 4 := ⟨_, rfl⟩
 have bx := numAt_lt s p 5
 have bY := numAt_lt s (p + 5) 5
 have bz := numAt_lt s (p + 10) 4
 rw [← hx, ← hy, ← hz] at HR
 rw [← hx] at bx; rw [← hy] at bY; rw [← hz] at bz
 have HX : Hid (x = numAt s p 5) := hx
 have HY : Hid (y = numAt s (p + 5) 5) := hy
 have HZ : Hid (z = numAt s (p + 10) 4) := hz
 clear hx hy hz
 by_cases c1 : 286 < x + 257 ∨ 30 < y + 1
 ·have HE : Hid (R = none) := by unfold Hid; rw [HR.out, if_pos c1]
  go_enter Tryz.func136, Tryz.ntmps136
  go_wp2_with fail
  refine (number_i b w s p 5 _ rfl (by omega) hs hr).mono ?_
  rintro e w1 ⟨rfl, r1, t1⟩
  rw [← HX.out]
  go_wp2_with fail
  refine (number_i b w1 s (p + 5) 5 _ rfl (by omega) hs r1).mono ?_
  rintro e w2 ⟨rfl, r2, t2⟩
  rw [← HY.out]
  go_wp2_with fail
  refine (number_i b w2 s (p + 10) 4 _ rfl (by omega) hs r2).mono ?_
  rintro e w3 ⟨rfl, r3, t3⟩
  rw [← HZ.out]
  by_cases c2 : 286 < x + 257
  ·go_wp2
   go_ret2
   exact ⟨((t1.trans t2).trans t3).rn, by rw [HE.out]; exact ⟨_, rfl⟩⟩
  ·have c3 : 30 < y + 1 := by omega
   go_wp2
   go_ret2
   exact ⟨((t1.trans t2).trans t3).rn, by rw [HE.out]; exact ⟨_, rfl⟩⟩
 ·have cx : x + 257 ≤ 286 := by omega
  have cy : y + 1 ≤ 30 := by omega
  have hh := HR.out
  rw [if_neg c1] at hh
  have HR' : Hid (R = _) := hh
  clear HR hh
  clear c1
  go_enter Tryz.func136, Tryz.ntmps136
  go_wp2_with fail
  refine (number_i b w s p 5 _ rfl (by omega) hs hr).mono ?_
  rintro e w1 ⟨rfl, r1, t1⟩
  rw [← HX.out]
  go_wp2_with fail
  refine (number_i b w1 s (p + 5) 5 _ rfl (by omega) hs r1).mono ?_
  rintro e w2 ⟨rfl, r2, t2⟩
  rw [← HY.out]
  go_wp2_with fail
  refine (number_i b w2 s (p + 10) 4 _ rfl (by omega) hs r2).mono ?_
  rintro e w3 ⟨rfl, r3, t3⟩
  rw [← HZ.out]
  have T3 : RN b w w3 := ((t1.trans t2).trans t3).rn
  have lt3 := T3.t.size
  have o3 : Ord w3 := ho.keep T3.t (by show ¬ 1 = b; omega)
  clear t1 t2 t3 r1 r2 hr ho
  go_wp2_with fail
  refine (takeLengthCode_c w3 b s (p + 14) (z + 4) (by omega) hs r3 o3 hb).mono ?_
  rintro e w4 ⟨nb, cp, rfl, hnb, hnum, tnb, r4, rn4⟩
  obtain ⟨C, hC⟩ : ∃ C, C = lens3 s (p + 14) (z + 4) := ⟨_, rfl⟩
  have hCl : C.length = 19 := by rw [hC]; exact lens3_len _ _ _
  have hh := HR'.out
  rw [← hC] at hnum hh ⊢
  have HR : Hid (R = _) := hh
  clear HR' hh hC
  have ltn := tnb.lt
  have lt4 := rn4.t.size
  have alen : C.length ≤ 400 := by omega
  have hc5 : IsCode (w4.alloc (.cells (codeCells C (.slice (some ⟨nb, 0, none⟩) (placeOf C 16) cp)) 283)) w4.heap.size 0 nb cp C := by
   refine ⟨fun i hi => ?_, ?_, fun m r h1 h2 h3 => ?_, alen⟩
   ·rw [Nat.zero_add, row_cell (heap_alloc_new w4 _)]; exact cArr_at _ _ _ hi
   ·rw [row_cell (heap_alloc_new w4 _)]; exact cArr_16 _ _
   ·rw [World.cell?_alloc_past _ _ _ ltn]; exact hnum m r h1 h2 h3
  have t5 : Touch (fun _ => False) w4 (w4.alloc (.cells (codeCells C (.slice (some ⟨nb, 0, none⟩) (placeOf C 16) cp)) 283)) := (Touch.refl _ _).alloc _
  have r5 : Rd (w4.alloc (.cells (codeCells C (.slice (some ⟨nb, 0, none⟩) (placeOf C 16) cp)) 283)) b s (p + 14 + 3 * (z + 4)) := r4.new t5 (fun h => h)
  have q4 := r5.c4
  by_cases c2 : 8 * s.size < p + 14 + 3 * (z + 4) ∨ freeOf C 15 ≠ 0
  ·have HE : Hid (R = none) := by unfold Hid; rw [HR.out, if_pos c2]
   have RN5 := (T3.trans rn4).trans (RN.new t5 (by omega))
   by_cases c3 : 8 * s.size < p + 14 + 3 * (z + 4)
   ·go_wp2_with ((with_reducible refine at_store ?_); refine wpList_store_row rfl 283 (.tmp 7) (.tmp 28) rfl w4.heap.size _ rfl rfl 283 _ (heap_alloc_new w4 _) (by kernel_rfl) rfl (cArr_one _ _ _ _) ?_; rw [alloc_setRow])
    go_ret2
    exact ⟨RN5, by rw [HE.out]; exact ⟨_, rfl⟩⟩
   ·have c4 : (freeOf C 15 == 0) = false := by simp; omega
    go_wp2_with (first | ((with_reducible refine at_store ?_); refine wpList_store_row rfl 283 (.tmp 7) (.tmp 28) rfl w4.heap.size _ rfl rfl 283 _ (heap_alloc_new w4 _) (by kernel_rfl) rfl (cArr_one _ _ _ _) ?_; rw [alloc_setRow]) | (go_at_call 205; refine (isFull_v _ _ _ _ _ _ hc5).mono ?_; rintro e w' ⟨rfl, rfl⟩))
    go_ret2
    exact ⟨RN5, by rw [HE.out]; exact ⟨_, rfl⟩⟩
  ·have c3 : ¬ 8 * s.size < p + 14 + 3 * (z + 4) := by omega
   have c4 : (freeOf C 15 == 0) = true := by simp; omega
   have hh := HR.out
   rw [if_neg c2] at hh
   have HR' : Hid (R = _) := hh
   clear HR hh c2
   obtain ⟨W5, hW5⟩ : ∃ W, W = w4.alloc (.cells (codeCells C (.slice (some ⟨nb, 0, none⟩) (placeOf C 16) cp)) 283) := ⟨_, rfl⟩
   have HW : Hid (W5 = w4.alloc (.cells (codeCells C (.slice (some ⟨nb, 0, none⟩) (placeOf C 16) cp)) 283)) := hW5
   have sz5 : W5.heap.size = w4.heap.size + 1 := by rw [hW5]; simp
   rw [← hW5] at hc5 t5 r5 q4
   clear hW5
   have RN5 := (T3.trans rn4).trans (RN.new t5 (by omega))
   go_wp2_with (first | ((with_reducible refine at_store ?_); refine wpList_store_row rfl 283 (.tmp 7) (.tmp 28) rfl w4.heap.size _ rfl rfl 283 _ (heap_alloc_new w4 _) (by kernel_rfl) rfl (cArr_one _ _ _ _) ?_; rw [alloc_setRow, ← HW.out]) | (go_at_call 205; refine (isFull_v _ _ _ _ _ _ hc5).mono ?_; rintro e w' ⟨rfl, rfl⟩) | (go_at_call 206; fail))
   cases hZ : lensGo C s (x + 257 + (y + 1)) (x + 257 + (y + 1)) (p + 14 + 3 * (z + 4)) [] with
   | none =>
    have HE : Hid (R = none) := by unfold Hid; rw [HR'.out, hZ]
    refine (takeLengths_i W5 b w4.heap.size 0 nb cp C s (p + 14 + 3 * (z + 4)) (x + 257 + (y + 1)) _ (by omega) _ hZ (by omega) hCl hs r5 hc5 (by omega) (by omega) (by omega) (by omega)).mono ?_
    rintro e w6 ⟨rn6, rfl⟩
    have RN6 := RN5.trans rn6
    clear HR' hZ
    go_wp2
    go_ret2
    exact ⟨RN6, by rw [HE.out]; exact ⟨_, rfl⟩⟩
   | some lq =>
    obtain ⟨l, q⟩ := lq
    obtain ⟨hl, hl15⟩ := lensGo_ok C s _ hCl _ _ [] l q (by simp) (by simp) hZ
    have hh := HR'.out
    rw [hZ] at hh
    have HR : Hid (R = _) := hh
    refine (takeLengths_i W5 b w4.heap.size 0 nb cp C s (p + 14 + 3 * (z + 4)) (x + 257 + (y + 1)) _ (by omega) _ hZ (by omega) hCl hs r5 hc5 (by omega) (by omega) (by omega) (by omega)).mono ?_
    clear hZ HR' hh
    rintro e w6 ⟨rn6, g, cap, rfl, own6, r6⟩
    have RN6 := RN5.trans rn6
    have hi256 : 256 < l.length := by omega
    have c256 : w6.cell? ⟨g, 256, none⟩ = some (.int .i64 ((l.getD 256 0 : Nat) : Int)) := by
     have := owned_ints own6 256 hi256
     simpa [hi256] using this
    have HL : Hid (l.length = x + 257 + (y + 1)) := hl
    have hl2 : 256 < l.length := hi256
    clear hl
    by_cases c5 : l.getD 256 0 = 0
    ·have HE : Hid (R = none) := by unfold Hid; rw [HR.out]; show (if l.getD 256 0 = 0 then _ else _) = _; rw [if_pos c5]
     rw [c5] at c256
     go_wp2
     go_ret2
     exact ⟨RN6, by rw [HE.out]; exact ⟨_, rfl⟩⟩
    ·have hh := HR.out
     change R = (if l.getD 256 0 = 0 then _ else _) at hh
     rw [if_neg c5] at hh
     have HR' : Hid (R = _) := hh
     clear HR hh
     obtain ⟨v256, h256⟩ : ∃ v, v = l.getD 256 0 := ⟨_, rfl⟩
     rw [← h256] at c256 c5
     clear h256
     have hcap : l.length ≤ cap := by
      rcases own6.2 with ⟨h, _⟩ | ⟨g', cap', cur, h, _, _, h5, _⟩
      ·cases h
      ·cases h; exact h5
     have hll := HL.out
     obtain ⟨L, hL⟩ : ∃ L, L = l.take (x + 257) := ⟨_, rfl⟩
     obtain ⟨D, hD⟩ : ∃ D, D = l.drop (x + 257) := ⟨_, rfl⟩
     have hLl : L.length = x + 257 := by rw [hL, List.length_take]; omega
     have hDl : D.length = y + 1 := by rw [hD, List.length_drop]; omega
     have hL15 : ∀ u ∈ L, u ≤ 15 := fun u hu => hl15 u (List.mem_of_mem_take (hL ▸ hu))
     have hD15 : ∀ u ∈ D, u ≤ 15 := fun u hu => hl15 u (List.mem_of_mem_drop (hD ▸ hu))
     obtain ⟨pc1, pc2⟩ := part_cells own6 (x + 257)
     rw [← hL] at pc1; rw [← hD] at pc2
     have hh := HR'.out
     rw [← hL, ← hD] at hh
     have HR : Hid (R = _) := hh
     clear HR' hh hL hD
     obtain ⟨n, hn⟩ : ∃ n, n = l.length := ⟨_, rfl⟩
     have hnn : n = x + 257 + (y + 1) := by omega
     rw [← hn] at own6 hcap ⊢
     clear hn hll HL hl2 hi256 hl15
     obtain ⟨M, hM⟩ : ∃ M, M = x + 257 := ⟨_, rfl⟩
     have s0 : (x : Int) + 257 = (M : Int) := by omega
     have s1 : (M : Int) ≤ (cap : Int) := by omega
     have s2 : (M : Int) ≤ (n : Int) := by omega
     have s3 : M ≤ n := by omega
     have s4 : M ≤ cap := by omega
     have s5 : ¬ M = cap := by omega
     have s6 : ¬ (M : Int) = (cap : Int) := by omega
     have s7 : ¬ cap = M := by omega
     have s8 : M < cap := by omega
     have hDn : D.length = n - M := by omega
     rw [← hM] at hLl pc2 hnn cx
     have HM : Hid (M = x + 257) := hM
     have HN : Hid (n = M + (y + 1)) := hnn
     clear hM hnn
     have lt6 := RN6.t.size
     have dl1 : ∀ j (h : j < L.length), w6.drew.cell? ⟨g, 0 + j, none⟩ = some (.int .i64 (L[j] : Nat)) := pc1
     have dl2 : ∀ j (h : j < D.length), w6.drew.cell? ⟨g, M + j, none⟩ = some (.int .i64 (D[j] : Nat)) := pc2
     clear pc1 pc2
     go_wp2
     go_region_held3 (fun _ => True) (trivial) (first | (go_at_call_of 200 (Value.slice (some { block := g, off := 0 }) M cap); refine (newCode_l w6.drew g 0 _ _ L hLl (by omega) hL15 dl1).mono ?_; rintro e w7 ⟨b1, c1, rfl, hb1, hs1, hn1, t1, ht7⟩) | (go_at_call_of 200 (Value.slice (some { block := g, off := M }) (n - M) (cap - M)); refine (newCode_l w7 g M _ _ D hDn (by omega) hD15 (fun j h => ht7.at (dl2 j h) (fun e => e))).mono ?_; rintro e w8 ⟨b2, c2, rfl, hb2, hs2, hn2, t2, ht8⟩))
     all_goals
      have lt7 := ht7.size
      have lt8 := ht8.size
      have hcd := codes_new (w := w8) (c1 := c1) (c2 := c2) (L := L) (D := D) (by omega) (by omega) (fun n r a b c => ht8.at (hn1 n r a b c) (fun h => h)) (t1.keep ht8 (fun h => h)) hn2 t2
      rw [show two L D (.slice (some ⟨b1, 0, none⟩) (placeOf L 16) c1) (.slice (some ⟨b2, 0, none⟩) (placeOf D 16) c2) = #[Value.int .i64 (cnt L 0 : Nat), Value.int .i64 (cnt L 1 : Nat), Value.int .i64 (cnt L 2 : Nat), Value.int .i64 (cnt L 3 : Nat), Value.int .i64 (cnt L 4 : Nat), Value.int .i64 (cnt L 5 : Nat), Value.int .i64 (cnt L 6 : Nat), Value.int .i64 (cnt L 7 : Nat), Value.int .i64 (cnt L 8 : Nat), Value.int .i64 (cnt L 9 : Nat), Value.int .i64 (cnt L 10 : Nat), Value.int .i64 (cnt L 11 : Nat), Value.int .i64 (cnt L 12 : Nat), Value.int .i64 (cnt L 13 : Nat), Value.int .i64 (cnt L 14 : Nat), Value.int .i64 (cnt L 15 : Nat), Value.slice (some ⟨b1, 0, none⟩) (placeOf L 16) c1, Value.int .i64 (cnt D 0 : Nat), Value.int .i64 (cnt D 1 : Nat), Value.int .i64 (cnt D 2 : Nat), Value.int .i64 (cnt D 3 : Nat), Value.int .i64 (cnt D 4 : Nat), Value.int .i64 (cnt D 5 : Nat), Value.int .i64 (cnt D 6 : Nat), Value.int .i64 (cnt D 7 : Nat), Value.int .i64 (cnt D 8 : Nat), Value.int .i64 (cnt D 9 : Nat), Value.int .i64 (cnt D 10 : Nat), Value.int .i64 (cnt D 11 : Nat), Value.int .i64 (cnt D 12 : Nat), Value.int .i64 (cnt D 13 : Nat), Value.int .i64 (cnt D 14 : Nat), Value.int .i64 (cnt D 15 : Nat), Value.slice (some ⟨b2, 0, none⟩) (placeOf D 16) c2] from rfl] at hcd
      have t9 : Touch (fun _ => False) w6.drew (w8.alloc (.cells #[Value.int .i64 (cnt L 0 : Nat), Value.int .i64 (cnt L 1 : Nat), Value.int .i64 (cnt L 2 : Nat), Value.int .i64 (cnt L 3 : Nat), Value.int .i64 (cnt L 4 : Nat), Value.int .i64 (cnt L 5 : Nat), Value.int .i64 (cnt L 6 : Nat), Value.int .i64 (cnt L 7 : Nat), Value.int .i64 (cnt L 8 : Nat), Value.int .i64 (cnt L 9 : Nat), Value.int .i64 (cnt L 10 : Nat), Value.int .i64 (cnt L 11 : Nat), Value.int .i64 (cnt L 12 : Nat), Value.int .i64 (cnt L 13 : Nat), Value.int .i64 (cnt L 14 : Nat), Value.int .i64 (cnt L 15 : Nat), Value.slice (some ⟨b1, 0, none⟩) (placeOf L 16) c1, Value.int .i64 (cnt D 0 : Nat), Value.int .i64 (cnt D 1 : Nat), Value.int .i64 (cnt D 2 : Nat), Value.int .i64 (cnt D 3 : Nat), Value.int .i64 (cnt D 4 : Nat), Value.int .i64 (cnt D 5 : Nat), Value.int .i64 (cnt D 6 : Nat), Value.int .i64 (cnt D 7 : Nat), Value.int .i64 (cnt D 8 : Nat), Value.int .i64 (cnt D 9 : Nat), Value.int .i64 (cnt D 10 : Nat), Value.int .i64 (cnt D 11 : Nat), Value.int .i64 (cnt D 12 : Nat), Value.int .i64 (cnt D 13 : Nat), Value.int .i64 (cnt D 14 : Nat), Value.int .i64 (cnt D 15 : Nat), Value.slice (some ⟨b2, 0, none⟩) (placeOf D 16) c2] 286)) := (ht7.trans ht8).alloc _
      obtain ⟨W9, hW9⟩ : ∃ W, W = w8.alloc (.cells #[Value.int .i64 (cnt L 0 : Nat), Value.int .i64 (cnt L 1 : Nat), Value.int .i64 (cnt L 2 : Nat), Value.int .i64 (cnt L 3 : Nat), Value.int .i64 (cnt L 4 : Nat), Value.int .i64 (cnt L 5 : Nat), Value.int .i64 (cnt L 6 : Nat), Value.int .i64 (cnt L 7 : Nat), Value.int .i64 (cnt L 8 : Nat), Value.int .i64 (cnt L 9 : Nat), Value.int .i64 (cnt L 10 : Nat), Value.int .i64 (cnt L 11 : Nat), Value.int .i64 (cnt L 12 : Nat), Value.int .i64 (cnt L 13 : Nat), Value.int .i64 (cnt L 14 : Nat), Value.int .i64 (cnt L 15 : Nat), Value.slice (some ⟨b1, 0, none⟩) (placeOf L 16) c1, Value.int .i64 (cnt D 0 : Nat), Value.int .i64 (cnt D 1 : Nat), Value.int .i64 (cnt D 2 : Nat), Value.int .i64 (cnt D 3 : Nat), Value.int .i64 (cnt D 4 : Nat), Value.int .i64 (cnt D 5 : Nat), Value.int .i64 (cnt D 6 : Nat), Value.int .i64 (cnt D 7 : Nat), Value.int .i64 (cnt D 8 : Nat), Value.int .i64 (cnt D 9 : Nat), Value.int .i64 (cnt D 10 : Nat), Value.int .i64 (cnt D 11 : Nat), Value.int .i64 (cnt D 12 : Nat), Value.int .i64 (cnt D 13 : Nat), Value.int .i64 (cnt D 14 : Nat), Value.int .i64 (cnt D 15 : Nat), Value.slice (some ⟨b2, 0, none⟩) (placeOf D 16) c2] 286) := ⟨_, rfl⟩
      rw [← hW9] at hcd t9 ⊢
      clear hW9
      have RN9 : RN b w W9 := (RN6.drew).trans (RN.new t9 (by show b < w6.heap.size; omega))
      have rd9 : Rd W9 b s q := (r6.drew).new t9 (fun h => h)
      have lt6' : w6.drew.heap.size = w6.heap.size := rfl
      by_cases f1 : (freeOf L 15 == 0) = true
      ·by_cases f2 : (placeOf D 16 == 0 || (placeOf D 16 == 1 && cnt D 1 == 1) || freeOf D 15 == 0) = true
       ·have HE : Hid (R = some (L, D, q)) := by unfold Hid; rw [HR.out, if_pos]; unfold fine; rw [f1, f2]; rfl
        go_wp2_with (first | (go_at_call 205; refine (isFull_v _ _ _ _ _ _ hcd.lt).mono ?_; rintro e w' ⟨rfl, rfl⟩) | (go_at_call 207; refine (serves_v _ _ _ _ _ _ hcd.ds).mono ?_; rw [f2]; rintro e w' ⟨rfl, rfl⟩))
        go_ret2
        exact ⟨RN9, by rw [HE.out]; exact ⟨w8.heap.size, b1, c1, b2, c2, rfl, hcd, by omega, by omega, by omega, rd9⟩⟩
       ·have f2' := Bool.eq_false_iff.2 f2
        have HE : Hid (R = none) := by unfold Hid; rw [HR.out, if_neg]; unfold fine; rw [f1, f2']; decide
        go_wp2_with (first | (go_at_call 205; refine (isFull_v _ _ _ _ _ _ hcd.lt).mono ?_; rintro e w' ⟨rfl, rfl⟩) | (go_at_call 207; refine (serves_v _ _ _ _ _ _ hcd.ds).mono ?_; rw [f2']; rintro e w' ⟨rfl, rfl⟩))
        go_ret2
        exact ⟨RN9, by rw [HE.out]; exact ⟨_, rfl⟩⟩
      ·have f1' := Bool.eq_false_iff.2 f1
       have HE : Hid (R = none) := by unfold Hid; rw [HR.out, if_neg]; unfold fine; rw [f1']; simp
       go_wp2_with (go_at_call 205; refine (isFull_v _ _ _ _ _ _ hcd.lt).mono ?_; rintro e w' ⟨rfl, rfl⟩)
       go_ret2
       exact ⟨RN9, by rw [HE.out]; exact ⟨_, rfl⟩⟩
end Go.Proofs.YtmhlkdlcpicekaaGreatDoor
namespace Go.Proofs.YtmhlkdlcpicekaaGreatDoor
open Go.RowKit
def blockOf (s : ByteArray) (kind p : Nat) (out : List UInt8) (most : Nat) : Sum Nat (List UInt8 × Nat) :=
 if kind = 0 then plainOf s p out most
 else if kind = 1 then codedGo fixLetters fixDist s most (8 * s.size + 1) p out
 else if kind = 2 then (match ownOf s p with
  | none => .inl 1
  | some (L, D, q) => codedGo L D s most (8 * s.size + 1) q out)
 else .inl 1
def blocksGo (s : ByteArray) (most : Nat) : Nat → Nat → List UInt8 → Sum Nat (List UInt8 × Nat)
 | 0, _, _ => .inl 1
 | f + 1, p, out =>
  if 8 * s.size < p + 3 then .inl 1
  else match blockOf s (numAt s (p + 1) 2) (p + 3) out most with
   | .inl e => .inl e
   | .inr (o, q) => if bitOf s p = 1 then .inr (o, q) else blocksGo s most f q o
theorem codedGo_le (L D : List Nat) (s : ByteArray) (most : Nat) : ∀ f p out o q, codedGo L D s most f p out = .inr (o, q) → p ≤ q ∧ q ≤ 8 * s.size
 | 0, p, out, o, q, h => by simp [codedGo] at h
 | f + 1, p, out, o, q, h => by
  cases hd : dec L s p with
  | none => rw [codedGo_none _ _ _ _ _ _ _ hd] at h; cases h
  | some xq =>
   obtain ⟨x, q1⟩ := xq
   have hx := dec_lt hd
   rw [codedGo_some _ _ _ _ _ _ _ _ _ hd] at h
   by_cases x1 : x = 256
   ·rw [if_pos x1] at h
    simp only [Sum.inr.injEq, Prod.mk.injEq] at h
    obtain ⟨_, rfl⟩ := h
    omega
   ·rw [if_neg x1] at h
    by_cases x2 : x < 256
    ·rw [if_pos x2] at h
     by_cases x3 : most ≤ out.length
     ·rw [if_pos x3] at h; cases h
     ·rw [if_neg x3] at h
      have := codedGo_le L D s most f _ _ o q h
      omega
    ·rw [if_neg x2] at h
     cases hq : copyStep D s q1 out most x with
     | inl k => rw [hq] at h; cases h
     | inr oq =>
      obtain ⟨o1, q2⟩ := oq
      rw [hq] at h
      have h2 := copyStep_le _ _ _ _ _ _ _ _ hq
      have := codedGo_le L D s most f _ _ o q h
      omega
theorem codedGo_inl (L D : List Nat) (s : ByteArray) (most : Nat) : ∀ f p out k, codedGo L D s most f p out = .inl k → k = 1 ∨ k = 2
 | 0, p, out, k, h => by simp only [codedGo, Sum.inl.injEq] at h; omega
 | f + 1, p, out, k, h => by
  cases hd : dec L s p with
  | none => rw [codedGo_none _ _ _ _ _ _ _ hd] at h; simp only [Sum.inl.injEq] at h; omega
  | some xq =>
   obtain ⟨x, q1⟩ := xq
   rw [codedGo_some _ _ _ _ _ _ _ _ _ hd] at h
   by_cases x1 : x = 256
   ·rw [if_pos x1] at h; cases h
   ·rw [if_neg x1] at h
    by_cases x2 : x < 256
    ·rw [if_pos x2] at h
     by_cases x3 : most ≤ out.length
     ·rw [if_pos x3] at h; simp only [Sum.inl.injEq] at h; omega
     ·rw [if_neg x3] at h; exact codedGo_inl L D s most f _ _ k h
    ·rw [if_neg x2] at h
     cases hq : copyStep D s q1 out most x with
     | inl k' => rw [hq] at h; simp only [Sum.inl.injEq] at h; subst h; exact copyStep_inl _ _ _ _ _ _ _ hq
     | inr oq =>
      obtain ⟨o1, q2⟩ := oq
      rw [hq] at h
      exact codedGo_inl L D s most f _ _ k h
theorem lensGo_le (C : List Nat) (s : ByteArray) (want : Nat) : ∀ f p acc l q, p ≤ 8 * s.size → lensGo C s want f p acc = some (l, q) → p ≤ q ∧ q ≤ 8 * s.size
 | 0, p, acc, l, q, hp, h => by
  simp only [lensGo] at h
  by_cases hw : want ≤ acc.length
  ·rw [if_pos hw] at h; cases h; omega
  ·rw [if_neg hw] at h; cases h
 | f + 1, p, acc, l, q, hp, h => by
  by_cases hw : want ≤ acc.length
  ·rw [lensGo_done _ _ _ _ _ _ hw] at h; cases h; omega
  ·cases hd : dec C s p with
   | none => rw [lensGo_none _ _ _ _ _ _ (by omega) hd] at h; cases h
   | some kq =>
    obtain ⟨kind, q1⟩ := kq
    have hk := dec_lt hd
    rw [lensGo_some _ _ _ _ _ kind q1 _ (by omega) hd] at h
    by_cases c1 : kind = 16 ∧ acc.length = 0
    ·rw [if_pos c1] at h; cases h
    ·rw [if_neg c1] at h
     by_cases c2 : 8 * s.size < (lenOf s kind q1 acc).2.2
     ·rw [if_pos c2] at h; cases h
     ·rw [if_neg c2] at h
      by_cases c3 : want < acc.length + (lenOf s kind q1 acc).2.1
      ·rw [if_pos c3] at h; cases h
      ·rw [if_neg c3] at h
       have h1 := lensGo_le C s want f _ _ l q (by omega) h
       have h2 : q1 ≤ (lenOf s kind q1 acc).2.2 := by
        unfold lenOf
        by_cases k1 : kind = 16
        ·rw [if_pos k1]; show q1 ≤ q1 + 2; omega
        ·rw [if_neg k1]
         by_cases k2 : kind = 17
         ·rw [if_pos k2]; show q1 ≤ q1 + 3; omega
         ·rw [if_neg k2]
          by_cases k3 : kind = 18
          ·rw [if_pos k3]; show q1 ≤ q1 + 7; omega
          ·rw [if_neg k3]; exact Nat.le_refl _
       omega
theorem ownOf_le (s : ByteArray) (p : Nat) (L D : List Nat) (q : Nat) (h : ownOf s p = some (L, D, q)) : p ≤ q ∧ q ≤ 8 * s.size ∧ L.length ≤ 288 := by
 unfold ownOf at h
 generalize numAt s p 5 = x at h
 generalize numAt s (p + 5) 5 = y at h
 generalize numAt s (p + 10) 4 = z at h
 by_cases c1 : 286 < x + 257 ∨ 30 < y + 1
 ·rw [if_pos c1] at h; cases h
 ·rw [if_neg c1] at h
  generalize lens3 s (p + 14) (z + 4) = C at h
  by_cases c2 : 8 * s.size < p + 14 + 3 * (z + 4) ∨ freeOf C 15 ≠ 0
  ·rw [if_pos c2] at h; cases h
  ·rw [if_neg c2] at h
   cases hz : lensGo C s (x + 257 + (y + 1)) (x + 257 + (y + 1)) (p + 14 + 3 * (z + 4)) [] with
   | none => rw [hz] at h; cases h
   | some lq =>
    obtain ⟨l, q'⟩ := lq
    have hl := lensGo_le C s _ _ _ _ l q' (by omega) hz
    rw [hz] at h
    change (if l.getD 256 0 = 0 then _ else _) = _ at h
    by_cases c3 : l.getD 256 0 = 0
    ·rw [if_pos c3] at h; cases h
    ·rw [if_neg c3] at h
     by_cases c4 : fine (l.take (x + 257)) (l.drop (x + 257)) = true
     ·rw [if_pos c4] at h
      simp only [Option.some.injEq, Prod.mk.injEq] at h
      obtain ⟨rfl, _, rfl⟩ := h
      refine ⟨by omega, hl.2, ?_⟩
      rw [List.length_take]; omega
     ·rw [if_neg c4] at h; cases h
theorem plainOf_le (s : ByteArray) (p : Nat) (out : List UInt8) (most : Nat) (o : List UInt8) (q : Nat) (h : plainOf s p out most = .inr (o, q)) : p ≤ q ∧ q ≤ 8 * s.size := by
 unfold plainOf at h
 generalize numAt s (8 * ((p + 7) / 8)) 16 = n at h
 generalize numAt s (8 * ((p + 7) / 8) + 16) 16 = m at h
 by_cases c1 : 8 * s.size < 8 * ((p + 7) / 8) + 32 ∨ m ≠ 65535 - n
 ·rw [if_pos c1] at h; cases h
 ·rw [if_neg c1] at h
  by_cases c2 : n ≤ s.size - ((p + 7) / 8 + 4) ∧ n ≤ most - out.length
  ·rw [if_pos c2] at h
   simp only [Sum.inr.injEq, Prod.mk.injEq] at h
   obtain ⟨_, rfl⟩ := h
   omega
  ·rw [if_neg c2] at h
   by_cases c3 : s.size - ((p + 7) / 8 + 4) ≤ most - out.length
   ·rw [if_pos c3] at h; cases h
   ·rw [if_neg c3] at h; cases h
theorem plainOf_inl (s : ByteArray) (p : Nat) (out : List UInt8) (most k : Nat) (h : plainOf s p out most = .inl k) : k = 1 ∨ k = 2 := by
 unfold plainOf at h
 split at h
 ·simp only [Sum.inl.injEq] at h; omega
 ·split at h
  ·cases h
  ·split at h <;> (simp only [Sum.inl.injEq] at h; omega)
theorem blockOf_le (s : ByteArray) (kind p : Nat) (out : List UInt8) (most : Nat) (o : List UInt8) (q : Nat) (h : blockOf s kind p out most = .inr (o, q)) : p ≤ q ∧ q ≤ 8 * s.size := by
 unfold blockOf at h
 by_cases k0 : kind = 0
 ·rw [if_pos k0] at h; exact plainOf_le _ _ _ _ _ _ h
 ·rw [if_neg k0] at h
  by_cases k1 : kind = 1
  ·rw [if_pos k1] at h; exact codedGo_le _ _ _ _ _ _ _ _ _ h
  ·rw [if_neg k1] at h
   by_cases k2 : kind = 2
   ·rw [if_pos k2] at h
    cases ho : ownOf s p with
    | none => rw [ho] at h; cases h
    | some ldq =>
     obtain ⟨L, D, q'⟩ := ldq
     rw [ho] at h
     have := ownOf_le s p L D q' ho
     have h2 := codedGo_le _ _ _ _ _ _ _ _ _ h
     omega
   ·rw [if_neg k2] at h; cases h
theorem blockOf_inl (s : ByteArray) (kind p : Nat) (out : List UInt8) (most k : Nat) (h : blockOf s kind p out most = .inl k) : k = 1 ∨ k = 2 := by
 unfold blockOf at h
 by_cases k0 : kind = 0
 ·rw [if_pos k0] at h; exact plainOf_inl _ _ _ _ _ h
 ·rw [if_neg k0] at h
  by_cases k1 : kind = 1
  ·rw [if_pos k1] at h; exact codedGo_inl _ _ _ _ _ _ _ _ h
  ·rw [if_neg k1] at h
   by_cases k2 : kind = 2
   ·rw [if_pos k2] at h
    cases ho : ownOf s p with
    | none => rw [ho] at h; simp only [Sum.inl.injEq] at h; omega
    | some ldq =>
     obtain ⟨L, D, q'⟩ := ldq
     rw [ho] at h
     exact codedGo_inl _ _ _ _ _ _ _ _ h
   ·rw [if_neg k2] at h; simp only [Sum.inl.injEq] at h; omega
theorem Inf.fix {w w1 : World} {b : Nat} {s : ByteArray} {p : Nat} {out : List UInt8} {most fb n1 c1 n2 c2 : Nat} (h : Inf w b s p out most) (ht : Touch (fun _ => False) w w1) (hc : Codes w1 fb n1 c1 n2 c2 fixLetters fixDist) (h0 : b < fb) (h1 : b < n1) (h2 : b < n2) :
  Inf (w1.setCell ⟨b, 7, none⟩ (.pointer (some ⟨fb, 0, none⟩))) b s p out most ∧ IT b w (w1.setCell ⟨b, 7, none⟩ (.pointer (some ⟨fb, 0, none⟩))) ∧ Codes (w1.setCell ⟨b, 7, none⟩ (.pointer (some ⟨fb, 0, none⟩))) fb n1 c1 n2 c2 fixLetters fixDist := by
 have hlt := h.lt
 have cc : ∀ o, w1.cell? ⟨b, o, none⟩ = w.cell? ⟨b, o, none⟩ := fun o => ht.cell hlt (fun e => e)
 have ff : ∀ o, w1.frozen? ⟨b, o, none⟩ = w.frozen? ⟨b, o, none⟩ := fun o => ht.frozen hlt (fun e => e)
 have t2 : Touch (· = b) w1 (w1.setCell ⟨b, 7, none⟩ (.pointer (some ⟨fb, 0, none⟩))) := Touch.setCell (S := (· = b)) (Touch.refl _ w1) (p := ⟨b, 7, none⟩) rfl _
 have hc2 := hc.keepS t2 (by show ¬ fb = b; omega) (by show ¬ n1 = b; omega) (by show ¬ n2 = b; omega)
 have it : IT b w (w1.setCell ⟨b, 7, none⟩ (.pointer (some ⟨fb, 0, none⟩))) := Touch.setCell (ht.mono (fun _ _ e => e.elim)) (p := ⟨b, 7, none⟩) (Or.inl rfl) _
 obtain ⟨ao, cap, g5, go⟩ := h.gv
 obtain ⟨v7, g7, _⟩ := h.fx
 have r := h.rd
 refine ⟨⟨⟨?_, ?_, ?_, ?_, ?_, ?_⟩, ⟨ao, cap, ?_, ?_⟩, ?_, ⟨_, ?_, Or.inr ⟨fb, n1, c1, n2, c2, rfl, hc2, h0, h1, h2⟩⟩, h.fit, h.few, h.top⟩, it, hc2⟩
 ·rw [cell_set_ne (by omega), cc]; exact r.c0
 ·rw [cell_set_ne (by omega), cc]; exact r.c1
 ·rw [cell_set_ne (by omega), cc]; exact r.c2
 ·rw [cell_set_ne (by omega), cc]; exact r.c3
 ·rw [cell_set_ne (by omega), cc]; exact r.c4
 ·intro o; rw [World.frozen?_setCell, ff]; exact r.fr o
 ·rw [cell_set_ne (by omega), cc]; exact g5
 ·exact t2.owns (ht.owns go (fun _ _ e => e)) (fun k hk (e : k = b) => by have := (go.lt k hk).1; omega)
 ·rw [cell_set_ne (by omega), cc]; exact h.ms
 ·simp [cell_set_if, cc, g7]
theorem plain_r (b : Nat) (w : World) (s : ByteArray) (p : Nat) (out : List UInt8) (most : Nat) (R : Sum Nat (List UInt8 × Nat)) (hR : plainOf s p out most = R) (hs : s.size ≤ 2147483648) (h : Inf w b s p out most) (hp : p ≤ 8 * s.size) :
  Calls Tryz.prog 133 #[.pointer (some ⟨b, 0, none⟩)] w (infPost b s most w R) := by
 subst hR; exact plain_c b w s p out most hs h hp
theorem coded_r (b : Nat) (w : World) (s : ByteArray) (p : Nat) (out : List UInt8) (most cb n1 c1 n2 c2 : Nat) (L D : List Nat) (R : Sum Nat (List UInt8 × Nat)) (hR : codedGo L D s most (8 * s.size + 1) p out = R) (hs : s.size ≤ 2147483648) (h : Inf w b s p out most) (hp : p ≤ 8 * s.size) (hc : Codes w cb n1 c1 n2 c2 L D) (h0 : b < cb) (h1 : b < n1) (h2 : b < n2) (hL : L.length ≤ 288) :
  Calls Tryz.prog 135 #[.pointer (some ⟨b, 0, none⟩), .pointer (some ⟨cb, 0, none⟩)] w (infPost b s most w R) := by
 subst hR; exact coded_c b w s p out most cb n1 c1 n2 c2 L D hs h hp hc h0 h1 h2 hL _ (by omega)
theorem own_none (w : World) (b : Nat) (s : ByteArray) (p : Nat) (hR : ownOf s p = none) (hs : s.size ≤ maxLen) (hr : Rd w b s p) (ho : Ord w) (hb : 1 < b) :
  Calls Tryz.prog 136 #[.pointer (some ⟨b, 0, none⟩)] w fun e w' => ∃ v, e = .returned (.tuple #[v, .bool false]) ∧ RN b w w' := by
 refine (ownCodes_c w b s p hs hr ho hb).mono ?_
 rintro e w' ⟨rn, he⟩
 rw [hR] at he
 obtain ⟨v, rfl⟩ := he
 exact ⟨v, rfl, rn⟩
theorem own_some (w : World) (b : Nat) (s : ByteArray) (p : Nat) (L D : List Nat) (q : Nat) (hR : ownOf s p = some (L, D, q)) (hs : s.size ≤ maxLen) (hr : Rd w b s p) (ho : Ord w) (hb : 1 < b) :
  Calls Tryz.prog 136 #[.pointer (some ⟨b, 0, none⟩)] w fun e w' => ∃ fb n1 c1 n2 c2, e = .returned (.tuple #[.pointer (some ⟨fb, 0, none⟩), .bool true]) ∧ Codes w' fb n1 c1 n2 c2 L D ∧ w.heap.size ≤ fb ∧ w.heap.size ≤ n1 ∧ w.heap.size ≤ n2 ∧ Rd w' b s q ∧ RN b w w' := by
 refine (ownCodes_c w b s p hs hr ho hb).mono ?_
 rintro e w' ⟨rn, he⟩
 rw [hR] at he
 obtain ⟨fb, n1, c1, n2, c2, rfl, h1, h2, h3, h4, h5⟩ := he
 exact ⟨fb, n1, c1, n2, c2, rfl, h1, h2, h3, h4, h5, rn⟩
theorem fix_len : fixLetters.length ≤ 288 := by
 unfold fixLetters
 simp only [List.length_append, List.length_replicate, List.length_nil]; omega
theorem infPost.val {b : Nat} {s : ByteArray} {most : Nat} {w w' : World} {r : Sum Nat (List UInt8 × Nat)} {e : Ending} (h : infPost b s most w r e w') : ∃ k : Nat, e = .returned (.int .i64 (k : Int)) ∧ IT b w w' ∧ infPost b s most w r (.returned (.int .i64 (k : Int))) w' := by
 obtain ⟨it, h⟩ := h
 cases r with
 | inl k => exact ⟨k, h, it, it, rfl⟩
 | inr oq => obtain ⟨rfl, hi⟩ := h; exact ⟨0, rfl, it, it, rfl, hi⟩
theorem infPost.from {b : Nat} {s : ByteArray} {most : Nat} {w0 w w' : World} {r : Sum Nat (List UInt8 × Nat)} {e : Ending} (h : infPost b s most w r e w') (h0 : IT b w0 w) : infPost b s most w0 r e w' := ⟨h0.trans h.1, h.2⟩
theorem block_c (b : Nat) (w : World) (s : ByteArray) (kind p : Nat) (out : List UInt8) (most : Nat) (hs : s.size ≤ 2147483648) (h : Inf w b s p out most) (hp : p ≤ 8 * s.size) (ho : Ord w) (hb : 1 < b) (hk : kind ≤ 3) :
  Calls Tryz.prog 83 #[.pointer (some ⟨b, 0, none⟩), .int .i64 (kind : Int)] w (infPost b s most w (blockOf s kind p out most)) := by
 have hsm : s.size ≤ maxLen := by unfold maxLen; omega
 have hlt := h.lt
 obtain ⟨R, hR⟩ : ∃ R, R = blockOf s kind p out most := ⟨_, rfl⟩
 have HR : Hid (R = blockOf s kind p out most) := hR
 rw [← hR]
 clear hR
 unfold blockOf at HR
 by_cases k0 : kind = 0
 ·have HE : Hid (plainOf s p out most = R) := by unfold Hid; rw [HR.out, if_pos k0]
  subst k0
  go_enter Tryz.func83, Tryz.ntmps83
  go_wp2_with fail
  refine (plain_r b w s p out most R HE.out hs h hp).mono ?_
  rintro e w1 hpost
  obtain ⟨v, rfl, it, hpost⟩ := hpost.val
  go_wp2
  go_ret
  exact hpost
 ·by_cases k1 : kind = 1
  ·have HE : Hid (codedGo fixLetters fixDist s most (8 * s.size + 1) p out = R) := by unfold Hid; rw [HR.out, if_neg k0, if_pos k1]
   subst k1
   obtain ⟨v7, h7, hf⟩ := h.fx
   have f7 := h.rd.fr 7
   rcases hf with rfl | ⟨fb, n1, c1, n2, c2, rfl, hc, g0, g1, g2⟩
   ·go_enter Tryz.func83, Tryz.ntmps83
    go_wp2_with fail
    refine (fixedCodes_c w).mono ?_
    rintro e w1 ⟨fb, n1, c1, n2, c2, rfl, hc, g0, g1, g2, t1⟩
    obtain ⟨hin, it, hc2⟩ := h.fix t1 hc (by omega) (by omega) (by omega)
    have q7 : w1.cell? ⟨b, 7, none⟩ = some (.pointer none) := t1.at h7 (fun e => e)
    have p7 : w1.frozen? ⟨b, 7, none⟩ = false := (t1.frozen (p := ⟨b, 7, none⟩) hlt (fun e => e)).trans f7
    go_wp2_with fail
    refine (coded_r b _ s p out most fb n1 c1 n2 c2 _ _ R HE.out hs hin hp hc2 (by omega) (by omega) (by omega) fix_len).mono ?_
    rintro e w2 hpost
    obtain ⟨v, rfl, it2, hpost⟩ := (hpost.from it).val
    go_wp2
    go_ret
    exact hpost
   ·go_enter Tryz.func83, Tryz.ntmps83
    go_wp2_with fail
    refine (coded_r b _ s p out most fb n1 c1 n2 c2 _ _ R HE.out hs h hp hc g0 g1 g2 fix_len).mono ?_
    rintro e w2 hpost
    obtain ⟨v, rfl, it2, hpost⟩ := hpost.val
    go_wp2
    go_ret
    exact hpost
  ·by_cases k2 : kind = 2
   ·have hh := HR.out
    rw [if_neg k0, if_neg k1, if_pos k2] at hh
    subst k2
    cases hO : ownOf s p with
    | none =>
     rw [hO] at hh
     have HE : Hid (R = .inl 1) := hh
     have HO : Hid (ownOf s p = none) := hO
     clear hh hO HR
     go_enter Tryz.func83, Tryz.ntmps83
     go_wp2_with fail
     refine (own_none w b s p HO.out hsm h.rd ho hb).mono ?_
     rintro e w1 ⟨v, rfl, rn⟩
     go_wp2
     go_ret
     exact ⟨IT.ofRN rn, by rw [HE.out]; rfl⟩
    | some ldq =>
     obtain ⟨L, D, q⟩ := ldq
     have hle := ownOf_le s p L D q hO
     rw [hO] at hh
     have HE : Hid (codedGo L D s most (8 * s.size + 1) q out = R) := hh.symm
     have HO : Hid (ownOf s p = some (L, D, q)) := hO
     clear hh hO HR
     go_enter Tryz.func83, Tryz.ntmps83
     go_wp2_with fail
     refine (own_some w b s p L D q HO.out hsm h.rd ho hb).mono ?_
     rintro e w1 ⟨fb, n1, c1, n2, c2, rfl, hc, g0, g1, g2, r1, rn⟩
     have hin := h.read r1 rn hle.1
     go_wp2_with fail
     refine (coded_r b w1 s q out most fb n1 c1 n2 c2 L D R HE.out hs hin hle.2.1 hc (by omega) (by omega) (by omega) hle.2.2).mono ?_
     rintro e w2 hpost
     obtain ⟨v, rfl, it2, hpost⟩ := (hpost.from (IT.ofRN rn)).val
     go_wp2
     go_ret
     exact hpost
   ·have HE : Hid (R = .inl 1) := by unfold Hid; rw [HR.out, if_neg k0, if_neg k1, if_neg k2]
    obtain rfl : kind = 3 := by omega
    go_enter Tryz.func83, Tryz.ntmps83
    go_wp2
    go_ret
    exact ⟨IT.refl _ _, by rw [HE.out]; rfl⟩
end Go.Proofs.YtmhlkdlcpicekaaGreatDoor
namespace Go.Proofs.YtmhlkdlcpicekaaGreatDoor
open Go.RowKit
theorem Ord.keepI {b : Nat} {w w' : World} (h : Ord w) (ht : IT b w w') (hb : 1 < b) : Ord w' := h.keep ht (by rintro (e | ⟨e, _⟩) <;> omega)
theorem bit_r (b : Nat) (w : World) (s : ByteArray) (p v : Nat) (hv : bitOf s p = v) (hs : s.size ≤ maxLen) (h : Rd w b s p) :
  Calls Tryz.prog 81 #[.pointer (some ⟨b, 0, none⟩)] w fun e w' => e = .returned (.int .i64 (v : Int)) ∧ Rd w' b s (p + 1) ∧ RT b w w' := by
 subst hv; exact bit_c b w s p hs h
theorem block_r (b : Nat) (w : World) (s : ByteArray) (kind p : Nat) (out : List UInt8) (most : Nat) (R : Sum Nat (List UInt8 × Nat)) (hR : blockOf s kind p out most = R) (hs : s.size ≤ 2147483648) (h : Inf w b s p out most) (hp : p ≤ 8 * s.size) (ho : Ord w) (hb : 1 < b) (hk : kind ≤ 3) :
  Calls Tryz.prog 83 #[.pointer (some ⟨b, 0, none⟩), .int .i64 (kind : Int)] w (infPost b s most w R) := by
 subst hR; exact block_c b w s kind p out most hs h hp ho hb hk
theorem blocks_c (b : Nat) (w : World) (s : ByteArray) (p : Nat) (out : List UInt8) (most : Nat) (hs : s.size ≤ 2147483648) (h : Inf w b s p out most) (hp : p ≤ 8 * s.size) (ho : Ord w) (hb : 1 < b) (f : Nat) (hf : 8 * s.size + 1 ≤ p + f) :
  Calls Tryz.prog 41 #[.pointer (some ⟨b, 0, none⟩)] w (infPost b s most w (blocksGo s most f p out)) := by
 have hsm : s.size ≤ maxLen := by unfold maxLen; omega
 obtain ⟨R, hR⟩ : ∃ R, R = blocksGo s most f p out := ⟨_, rfl⟩
 have HR0 : Hid (R = blocksGo s most f p out) := hR
 rw [← hR]
 clear hR
 go_enter Tryz.func41, Tryz.ntmps41
 go_wp2
 go_loopg [] f (fun g wr => ∃ p out, Inf wr b s p out most ∧ p ≤ 8 * s.size ∧ 8 * s.size + 1 ≤ p + g ∧ IT b w wr ∧ Hid (R = blocksGo s most g p out))
 case atStart => exact ⟨p, out, h, hp, hf, IT.refl _ _, HR0⟩
 case round =>
  clear HR0 h hp hf
  obtain ⟨p, out, hin, hp, hf, hit, HR⟩ := hrel
  obtain ⟨g, rfl⟩ : ∃ g, gk = g + 1 := ⟨gk - 1, by omega⟩
  have hh := HR.out
  unfold blocksGo at hh
  obtain ⟨v, hv⟩ : ∃ v, bitOf s p = v := ⟨_, rfl⟩
  obtain ⟨kd, hkd⟩ : ∃ kd, kd = numAt s (p + 1) 2 := ⟨_, rfl⟩
  have bk := numAt_lt s (p + 1) 2
  rw [hv, ← hkd] at hh
  rw [← hkd] at bk
  have HR' : Hid (R = _) := hh
  have HV : Hid (bitOf s p = v) := hv
  have HK : Hid (kd = numAt s (p + 1) 2) := hkd
  clear hh HR hv hkd
  go_wp2_with fail
  refine (bit_r b wr s p v HV.out hsm hin.rd).mono ?_
  rintro e w1 ⟨rfl, r1, t1⟩
  go_wp2_with fail
  refine (number_i b w1 s (p + 1) 2 _ rfl (by omega) hsm r1).mono ?_
  rintro e w2 ⟨rfl, r2, t2⟩
  rw [← HK.out]
  have z4 := r2.c4
  have RN2 := t1.rn.trans t2.rn
  have IT2 := hit.trans (IT.ofRN RN2)
  rw [show p + 1 + 2 = p + 3 by omega] at z4 r2
  by_cases c1 : 8 * s.size < p + 3
  ·have HE : Hid (R = .inl 1) := by unfold Hid; rw [HR'.out, if_pos c1]
   go_wp2
   go_ret
   exact ⟨IT2, by rw [HE.out]; rfl⟩
  ·have hh := HR'.out
   rw [if_neg c1] at hh
   have i2 := hin.read r2 RN2 (by omega)
   have o2 := ho.keepI IT2 hb
   cases hB : blockOf s kd (p + 3) out most with
   | inl k =>
    have hk0 := blockOf_inl s kd (p + 3) out most k hB
    rw [hB] at hh
    have HE : Hid (R = .inl k) := hh
    have HB : Hid (blockOf s kd (p + 3) out most = .inl k) := hB
    have hk1 : ¬ k = 0 := by omega
    clear hh hB HR'
    go_wp2_with fail
    refine (block_r b w2 s kd (p + 3) out most _ HB.out hs i2 (by omega) o2 hb (by omega)).mono ?_
    rintro e w3 ⟨t3, rfl⟩
    go_wp2
    go_ret
    exact ⟨IT2.trans t3, by rw [HE.out]; rfl⟩
   | inr oq =>
    obtain ⟨o, q⟩ := oq
    have hle := blockOf_le s kd (p + 3) out most o q hB
    rw [hB] at hh
    have HR : Hid (R = if v = 1 then .inr (o, q) else blocksGo s most g q o) := hh
    have HB : Hid (blockOf s kd (p + 3) out most = .inr (o, q)) := hB
    clear hh hB HR'
    by_cases c2 : v = 1
    ·have HE : Hid (R = .inr (o, q)) := by unfold Hid; rw [HR.out, if_pos c2]
     go_wp2_with fail
     refine (block_r b w2 s kd (p + 3) out most _ HB.out hs i2 (by omega) o2 hb (by omega)).mono ?_
     rintro e w3 ⟨t3, rfl, i3⟩
     go_wp2
     go_ret
     exact ⟨IT2.trans t3, by rw [HE.out]; exact ⟨rfl, i3⟩⟩
    ·have HE : Hid (R = blocksGo s most g q o) := by unfold Hid; rw [HR.out, if_neg c2]
     go_wp2_with fail
     refine (block_r b w2 s kd (p + 3) out most _ HB.out hs i2 (by omega) o2 hb (by omega)).mono ?_
     rintro e w3 ⟨t3, rfl, i3⟩
     go_wp2
     go_roundg g
     case measure => omega
     case rel => exact ⟨q, o, i3, hle.2, by omega, IT2.trans t3, HE⟩
theorem out_str {W : World} {base cap n : Nat} {ao : Option Addr} {out : List UInt8} (ho : W.ownsRow base 5 1 (.slice ao n cap) n (byteV out)) (hn : n = out.length) : (convert 114 9 (.slice ao n cap)).run Tryz.prog W = .ok (.string ⟨out.toArray⟩) W := by
 subst hn
 rcases ho.2 with ⟨e, h0⟩ | ⟨g, cap', cur, e, _, _⟩
 ·have he : out = [] := List.eq_nil_of_length_eq_zero h0
  subst he
  cases e
  exact run_convert_bytes_nil W 114 5 Tryz.underlying114 Tryz.underlying5 _ _ 9 Tryz.underlying9
 ·cases e
  have := run_convert_bytes_arg (P := Tryz.prog) W 114 5 Tryz.underlying114 Tryz.underlying5 g 0 out.length cap (out.map fun c => (c.toNat : Int)) (by simp) (by
   intro i hi
   rw [Nat.zero_add, ho.cellAt i (by omega)]
   simp [byteV, hi]) 9 Tryz.underlying9
  have e2 : strOfNums (out.map fun c => (c.toNat : Int)) = ⟨out.toArray⟩ := by
   unfold strOfNums
   have e3 : (out.map fun c => (c.toNat : Int)).map (fun n : Int => UInt8.ofNat n.toNat) = out := by
    rw [List.map_map]
    have : ((fun n : Int => UInt8.ofNat n.toNat) ∘ fun c : UInt8 => (c.toNat : Int)) = id := by funext c; simp
    rw [this, List.map_id]
   rw [e3]
  rw [this, e2]
def inflateOf (s : ByteArray) (most : Int) : Sum Nat (List UInt8 × Nat) := blocksGo s (max most 0).toNat (8 * s.size + 1) 0 []
def inflateVal (r : Sum Nat (List UInt8 × Nat)) : Value :=
 match r with
 | .inl k => .tuple #[.string ⟨#[]⟩, .int .i64 0, .int .i64 (k : Int)]
 | .inr (out, q) => .tuple #[.string ⟨out.toArray⟩, .int .i64 (((q + 7) / 8 : Nat) : Int), .int .i64 0]
theorem blocksGo_le (s : ByteArray) (most : Nat) : ∀ f p out o q, blocksGo s most f p out = .inr (o, q) → q ≤ 8 * s.size
 | 0, p, out, o, q, h => by simp [blocksGo] at h
 | f + 1, p, out, o, q, h => by
  unfold blocksGo at h
  by_cases c1 : 8 * s.size < p + 3
  ·rw [if_pos c1] at h; cases h
  ·rw [if_neg c1] at h
   cases hB : blockOf s (numAt s (p + 1) 2) (p + 3) out most with
   | inl k => rw [hB] at h; cases h
   | inr oq =>
    obtain ⟨o1, q1⟩ := oq
    rw [hB] at h
    have hle := blockOf_le _ _ _ _ _ _ _ hB
    change (if bitOf s p = 1 then _ else _) = _ at h
    by_cases c2 : bitOf s p = 1
    ·rw [if_pos c2] at h
     simp only [Sum.inr.injEq, Prod.mk.injEq] at h
     omega
    ·rw [if_neg c2] at h
     exact blocksGo_le s most f _ _ o q h
theorem blocksGo_inl (s : ByteArray) (most : Nat) : ∀ f p out k, blocksGo s most f p out = .inl k → k = 1 ∨ k = 2
 | 0, p, out, k, h => by simp only [blocksGo, Sum.inl.injEq] at h; omega
 | f + 1, p, out, k, h => by
  unfold blocksGo at h
  by_cases c1 : 8 * s.size < p + 3
  ·rw [if_pos c1] at h; simp only [Sum.inl.injEq] at h; omega
  ·rw [if_neg c1] at h
   cases hB : blockOf s (numAt s (p + 1) 2) (p + 3) out most with
   | inl k' => rw [hB] at h; simp only [Sum.inl.injEq] at h; subst h; exact blockOf_inl _ _ _ _ _ _ hB
   | inr oq =>
    obtain ⟨o1, q1⟩ := oq
    rw [hB] at h
    change (if bitOf s p = 1 then _ else _) = _ at h
    by_cases c2 : bitOf s p = 1
    ·rw [if_pos c2] at h; cases h
    ·rw [if_neg c2] at h
     exact blocksGo_inl s most f _ _ k h
theorem inf_new (w : World) (s : ByteArray) (M : Nat) (hM : M ≤ 9223372036854775807) : Inf (w.alloc (.cells #[.string s, .int .i64 0, .int .u8 0, .int .i64 0, .bool false, .slice none 0 0, .int .i64 (M : Int), .pointer none] 117)) w.heap.size s 0 [] M := by
 have hc : ∀ j, (w.alloc (.cells #[.string s, .int .i64 0, .int .u8 0, .int .i64 0, .bool false, .slice none 0 0, .int .i64 (M : Int), .pointer none] 117)).cell? ⟨w.heap.size, j, none⟩ = #[Value.string s, .int .i64 0, .int .u8 0, .int .i64 0, .bool false, .slice none 0 0, .int .i64 (M : Int), .pointer none][j]? := fun j => row_cell (heap_alloc_new w _) j
 refine ⟨⟨?_, ?_, ⟨0, by omega, ?_, ?_⟩, ?_, ?_, ?_⟩, ⟨none, 0, ?_, World.ownsRow_nil _ _ _ _⟩, ?_, ⟨_, ?_, Or.inl rfl⟩, Nat.zero_le _, Nat.zero_le _, hM⟩
 ·rw [hc]; rfl
 ·rw [hc]; simp
 ·rw [hc]; rfl
 ·intro _ h; omega
 ·rw [hc]; simp
 ·rw [hc]; simp
 ·intro o; exact row_fr (heap_alloc_new w _) o
 ·rw [hc]; rfl
 ·rw [hc]; rfl
 ·rw [hc]; rfl
theorem blocks_r (b : Nat) (w : World) (s : ByteArray) (p : Nat) (out : List UInt8) (most : Nat) (R : Sum Nat (List UInt8 × Nat)) (hR : blocksGo s most (8 * s.size + 1) p out = R) (hs : s.size ≤ 2147483648) (h : Inf w b s p out most) (hp : p ≤ 8 * s.size) (ho : Ord w) (hb : 1 < b) :
  Calls Tryz.prog 41 #[.pointer (some ⟨b, 0, none⟩)] w (infPost b s most w R) := by
 subst hR; exact blocks_c b w s p out most hs h hp ho hb _ (by omega)
theorem inflate_c (w : World) (s : ByteArray) (most : Int) (hm : most ≤ 9223372036854775807) (hs : s.size ≤ 2147483648) (ho : Ord w) (hb : 1 < w.heap.size) :
  Calls Tryz.prog 19 #[.string s, .int .i64 most] w fun e w' => e = .returned (inflateVal (inflateOf s most)) ∧ Below w.heap.size w w' := by
 obtain ⟨M, hM⟩ : ∃ M : Nat, (max most 0) = (M : Int) := ⟨(max most 0).toNat, by omega⟩
 have hM2 : M ≤ 9223372036854775807 := by omega
 have hmm : (max most 0).toNat = M := by omega
 have hin := inf_new w s M hM2
 have hdo : Touch (fun _ => False) w (w.alloc (.cells #[.string s, .int .i64 0, .int .u8 0, .int .i64 0, .bool false, .slice none 0 0, .int .i64 (M : Int), .pointer none] 117)) := (Touch.refl _ w).alloc _
 obtain ⟨R, hR⟩ : ∃ R, R = inflateOf s most := ⟨_, rfl⟩
 have HB : Hid (R = blocksGo s M (8 * s.size + 1) 0 []) := by unfold Hid; rw [hR]; unfold inflateOf; rw [hmm]
 rw [← hR]
 clear hR hmm
 have fin : ∀ w', IT w.heap.size (w.alloc (.cells #[.string s, .int .i64 0, .int .u8 0, .int .i64 0, .bool false, .slice none 0 0, .int .i64 (M : Int), .pointer none] 117)) w' → Below w.heap.size w w' := fun w' it =>
  ((Below.refl _ w).alloc (Nat.le_refl _) _).trans (it.toBelow (by simp) (fun k hk e => by rcases e with e | ⟨e, _⟩ <;> omega))
 have o1 : Ord (w.alloc (.cells #[.string s, .int .i64 0, .int .u8 0, .int .i64 0, .bool false, .slice none 0 0, .int .i64 (M : Int), .pointer none] 117)) := ho.keep hdo (fun e => e)
 by_cases h0 : 0 ≤ most
 ·have hx : most = (M : Int) := by omega
  subst hx
  clear hM
  cases hRR : R with
  | inl k =>
   have HE : Hid (blocksGo s M (8 * s.size + 1) 0 [] = .inl k) := by unfold Hid; rw [← HB.out, hRR]
   have hk := blocksGo_inl _ _ _ _ _ _ HE.out
   have hk0 : ¬ k = 0 := by omega
   clear hRR
   go_enter Tryz.func19, Tryz.ntmps19
   go_wp2_with fail
   refine (blocks_r w.heap.size _ s 0 [] M _ HE.out hs hin (Nat.zero_le _) o1 hb).mono ?_
   rintro e w1 ⟨it, rfl⟩
   have F1 := fin w1 it
   go_wp2
   go_ret3
   exact ⟨rfl, F1⟩
  | inr oq =>
   obtain ⟨out, q⟩ := oq
   have HE : Hid (blocksGo s M (8 * s.size + 1) 0 [] = .inr (out, q)) := by unfold Hid; rw [← HB.out, hRR]
   have hq := blocksGo_le _ _ _ _ _ _ _ HE.out
   clear hRR
   go_enter Tryz.func19, Tryz.ntmps19
   go_wp2_with fail
   refine (blocks_r w.heap.size _ s 0 [] M _ HE.out hs hin (Nat.zero_le _) o1 hb).mono ?_
   rintro e w1 ⟨it, rfl, i1⟩
   have F1 := fin w1 it
   obtain ⟨ao, cap, g5, gO⟩ := i1.gv
   have g1 := i1.rd.c1
   rw [show min s.size ((q + 7) / 8) = (q + 7) / 8 by omega] at g1
   have cv : ∀ W : World, W.heap = w1.heap → (convert 114 9 (.slice ao out.length cap)).run Tryz.prog W = .ok (.string ⟨out.toArray⟩) W := fun W hW => out_str (base := w.heap.size + 1) (by unfold World.ownsRow at gO ⊢; rw [hW]; exact gO) rfl
   have cv1 := cv w1 rfl
   have cv2 := cv w1.drew rfl
   clear it i1
   obtain ⟨t, ht⟩ : ∃ t, t = (q + 7) / 8 := ⟨_, rfl⟩
   rw [← ht] at g1
   have HT : Hid (t = (q + 7) / 8) := ht
   clear ht hq
   go_wp2
   go_region
   all_goals go_wp2
   all_goals go_ret3
   all_goals
    have e1 : inflateVal (.inr (out, q)) = .tuple #[.string ⟨out.toArray⟩, .int .i64 (t : Int), .int .i64 0] := by rw [HT.out]; rfl
    rw [e1]
    exact ⟨rfl, F1.drew⟩
 ·obtain rfl : M = 0 := by omega
  clear hM
  cases hRR : R with
  | inl k =>
   have HE : Hid (blocksGo s 0 (8 * s.size + 1) 0 [] = .inl k) := by unfold Hid; rw [← HB.out, hRR]
   have hk := blocksGo_inl _ _ _ _ _ _ HE.out
   have hk0 : ¬ k = 0 := by omega
   clear hRR
   go_enter Tryz.func19, Tryz.ntmps19
   go_wp2_with fail
   refine (blocks_r w.heap.size _ s 0 [] 0 _ HE.out hs hin (Nat.zero_le _) o1 hb).mono ?_
   rintro e w1 ⟨it, rfl⟩
   have F1 := fin w1 it
   go_wp2
   go_ret3
   exact ⟨rfl, F1⟩
  | inr oq =>
   obtain ⟨out, q⟩ := oq
   have HE : Hid (blocksGo s 0 (8 * s.size + 1) 0 [] = .inr (out, q)) := by unfold Hid; rw [← HB.out, hRR]
   have hq := blocksGo_le _ _ _ _ _ _ _ HE.out
   clear hRR
   go_enter Tryz.func19, Tryz.ntmps19
   go_wp2_with fail
   refine (blocks_r w.heap.size _ s 0 [] 0 _ HE.out hs hin (Nat.zero_le _) o1 hb).mono ?_
   rintro e w1 ⟨it, rfl, i1⟩
   have F1 := fin w1 it
   obtain ⟨ao, cap, g5, gO⟩ := i1.gv
   have g1 := i1.rd.c1
   rw [show min s.size ((q + 7) / 8) = (q + 7) / 8 by omega] at g1
   have cv : ∀ W : World, W.heap = w1.heap → (convert 114 9 (.slice ao out.length cap)).run Tryz.prog W = .ok (.string ⟨out.toArray⟩) W := fun W hW => out_str (base := w.heap.size + 1) (by unfold World.ownsRow at gO ⊢; rw [hW]; exact gO) rfl
   have cv1 := cv w1 rfl
   have cv2 := cv w1.drew rfl
   clear it i1
   obtain ⟨t, ht⟩ : ∃ t, t = (q + 7) / 8 := ⟨_, rfl⟩
   rw [← ht] at g1
   have HT : Hid (t = (q + 7) / 8) := ht
   clear ht hq
   go_wp2
   go_region
   all_goals go_wp2
   all_goals go_ret3
   all_goals
    have e1 : inflateVal (.inr (out, q)) = .tuple #[.string ⟨out.toArray⟩, .int .i64 (t : Int), .int .i64 0] := by rw [HT.out]; rfl
    rw [e1]
    exact ⟨rfl, F1.drew⟩
end Go.Proofs.YtmhlkdlcpicekaaGreatDoor
