/- Texts of this seat, joined. -/
import Derived.Test.YtnmkmmgaoplfiaaGreatDoorJ05
import Derived.Test.YtnmkmmgaoplfiaaGreatDoorJ06
import Derived.Laws.BitsLemmas
set_option linter.unusedSimpArgs false
set_option linter.unusedVariables false
set_option maxRecDepth 100000
set_option maxHeartbeats 20000000
namespace Go.Proofs.YtnmkmmgaoplfiaaGreatDoor
open Go.RowKit Go.Shelf
theorem fldTo_add (E : Nat) (p : Option Nat) (a b : Nat) : fldTo E (fldTo E p a) b = fldTo E p (a + b) := by
 cases p with
 | none => rfl
 | some q =>
  unfold fldTo
  simp only [Option.bind_some]
  by_cases h : q + a ≤ E
  ·rw [if_pos h]
   simp only [Option.bind_some]
   rw [Nat.add_assoc]
  ·rw [if_neg h, if_neg (by omega)]; rfl
theorem fldNum_lt (s : ByteArray) (E : Nat) (p : Option Nat) (n : Nat) (hs : E ≤ s.size) : fldNum s E p n < 256 ^ n := by
 cases h : fldTo E p n with
 | none => rw [fldNum_none s E p n h]; exact Nat.pow_pos (by omega)
 | some q =>
  cases p with
  | none => cases h
  | some r =>
   unfold fldTo at h
   simp only [Option.bind_some] at h
   by_cases hr : r + n ≤ E
   ·rw [fldNum_some s E r n hs hr]; exact numIn_le s r n
   ·rw [if_neg hr] at h; cases h
theorem and_flags (f : Nat) (h : f < 65536) : bits .and .i64 (f : Int) 8 = ((f &&& 8 : Nat) : Int) := by
 have hw : ∀ n : Int, 0 ≤ n → n < 2 ^ 16 → IntKind.i64.wrap n = n := by intro n h0 h1; simp [IntKind.wrap, IntKind.bits, IntKind.signed]; omega
 exact (bits_nat .i64 16 (by decide) hw f 8 (by omega) (by omega)).1
theorem and_eight (f : Nat) : (decide (f &&& 8 ≠ 0)) = decide (f / 8 % 2 = 1) := by
 have h : f &&& 8 = (f / 8 % 2) * 8 := by
  apply Nat.eq_of_testBit_eq
  intro i
  rw [Nat.testBit_and, show (8 : Nat) = 2 ^ 3 by rfl, Nat.testBit_two_pow, Nat.mul_comm, Nat.testBit_two_pow_mul]
  by_cases hi : 3 = i
  ·subst hi
   simp [Nat.testBit_eq_decide_div_mod_eq]
  ·simp only [hi, decide_false, Bool.and_false]
   by_cases h3 : 3 ≤ i
   ·have h2 : f / 2 ^ 3 % 2 < 2 ^ 1 := Nat.mod_lt _ (by omega)
    rw [Nat.testBit_lt_two_pow (Nat.lt_of_lt_of_le h2 (Nat.pow_le_pow_right (by omega) (by omega)))]; simp
   ·simp [h3]
 rw [h]
 have : f / 8 % 2 < 2 := Nat.mod_lt _ (by omega)
 by_cases hh : f / 8 % 2 = 1
 ·simp [hh]
 ·have : f / 8 % 2 = 0 := by omega
  simp [this]
theorem isLater_c (w : World) (b o : Nat) (e : Ent) (p t : Nat) (h : ListAt w b o e p t) (hf : e.flags < 65536) :
  Calls Tryz.prog 72 #[.pointer (some ⟨b, o, none⟩)] w fun r w' => r = .returned (.bool (laterB e)) ∧ w = w' := by
 have h7 : w.cell? ⟨b, o + 7, none⟩ = some (.int .i64 (e.flags : Int)) := h 7 (by omega)
 have HA := and_flags e.flags hf
 have HB : Hid (laterB e = decide (e.flags &&& 8 ≠ 0)) := by unfold Hid laterB; rw [and_eight]
 revert HA HB
 generalize e.flags &&& 8 = g
 intro HA HB
 go_enter Tryz.func72, Tryz.ntmps72
 go_wp2
 go_ret
 refine ⟨?_, rfl⟩
 rw [HB.out]
 refine congrArg Ending.returned (congrArg Value.bool ?_)
 rw [Bool.eq_iff_iff]; simp
def hdB (s : ByteArray) (E : Nat) (p : Option Nat) (e : Ent) : Bool :=
 decide ((fldOf s E p 4).toList = [80, 75, 3, 4]) && decide (fldNum s E (fldTo E p 6) 2 = e.flags) && decide (fldNum s E (fldTo E p 8) 2 = e.method)
  && decide ((fldOf s E (fldTo E p 30) (fldNum s E (fldTo E p 26) 2)).toList = e.name.toList)
  && (decide ((fldOf s E (fldTo E p 14) 12).toList = e.three.toList) || (laterB e && decide ((fldOf s E (fldTo E p 14) 12).toList = [0, 0, 0, 0, 0, 0, 0, 0, 0, 0, 0, 0])))
theorem takeHeader_c (w : World) (b o rb : Nat) (e : Ent) (pl st : Nat) (s : ByteArray) (E : Nat) (p : Option Nat) (h : ListAt w b o e pl st) (hf : e.flags < 65536) (hr : FR w rb s E p) (hne : b ≠ rb) (hs : s.size ≤ 140737488355328) :
  Calls Tryz.prog 71 #[.pointer (some ⟨b, o, none⟩), .pointer (some ⟨rb, 0, none⟩)] w fun r w' => r = .returned (.bool (hdB s E p e)) ∧ FR w' rb s E (fldTo E p (30 + fldNum s E (fldTo E p 26) 2 + fldNum s E (fldTo E p 28) 2)) ∧ Touch (fun k => k = rb) w w' := by
 have HLA : Hid (ListAt w b o e pl st) := h
 have hE := hr.size
 clear h
 go_enter Tryz.func71, Tryz.ntmps71
 go_wp2_with fail
 refine (take_c _ _ s E p 4 4 rfl (by omega) hs hr).mono ?_
 rintro r w1 ⟨rfl, f1, t1⟩
 have T1 := t1
 clear t1 hr
 go_wp2_with fail
 refine (take_c _ _ s E _ 2 2 rfl (by omega) hs f1).mono ?_
 rintro r w2 ⟨rfl, f2, t2⟩
 rw [fldTo_add] at f2
 have T2 := T1.trans t2
 clear t2 T1 f1
 go_wp2_with fail
 refine (fnumber_c _ _ s E _ 2 2 rfl (by omega) hs f2).mono ?_
 rintro r w3 ⟨rfl, f3, t3⟩
 rw [fldTo_add] at f3
 have T3 := T2.trans t3
 clear t3 T2 f2
 go_wp2_with fail
 refine (fnumber_c _ _ s E _ 2 2 rfl (by omega) hs f3).mono ?_
 rintro r w4 ⟨rfl, f4, t4⟩
 rw [fldTo_add] at f4
 have T4 := T3.trans t4
 clear t4 T3 f3
 go_wp2_with fail
 refine (take_c _ _ s E _ 4 4 rfl (by omega) hs f4).mono ?_
 rintro r w5 ⟨rfl, f5, t5⟩
 rw [fldTo_add] at f5
 have T5 := T4.trans t5
 clear t5 T4 f4
 go_wp2_with fail
 refine (take_c _ _ s E _ 12 12 rfl (by omega) hs f5).mono ?_
 rintro r w6 ⟨rfl, f6, t6⟩
 rw [fldTo_add] at f6
 have T6 := T5.trans t6
 clear t6 T5 f5
 go_wp2_with fail
 refine (fnumber_c _ _ s E _ 2 2 rfl (by omega) hs f6).mono ?_
 rintro r w7 ⟨rfl, f7, t7⟩
 rw [fldTo_add] at f7
 have T7 := T6.trans t7
 clear t7 T6 f6
 go_wp2_with fail
 refine (fnumber_c _ _ s E _ 2 2 rfl (by omega) hs f7).mono ?_
 rintro r w8 ⟨rfl, f8, t8⟩
 rw [fldTo_add] at f8
 have T8 := T7.trans t8
 clear t8 T7 f7
 have n1 := fldNum_lt s E (fldTo E p 26) 2 hE
 have n2 := fldNum_lt s E (fldTo E p 28) 2 hE
 go_wp2_with fail
 refine (take_c _ _ s E _ _ _ rfl (by omega) hs f8).mono ?_
 rintro r w9 ⟨rfl, f9, t9⟩
 rw [fldTo_add] at f9
 have T9 := T8.trans t9
 clear t9 T8 f8
 go_wp2_with fail
 refine (take_c _ _ s E _ _ _ rfl (by omega) hs f9).mono ?_
 rintro r w10 ⟨rfl, f10, t10⟩
 rw [fldTo_add] at f10
 have T10 := T9.trans t10
 clear t10 T9 f9
 have L10 := HLA.out.keep T10 hne
 have k0 : w10.cell? ⟨b, o, none⟩ = some (.string e.name) := L10 0 (by omega)
 have k1 : w10.cell? ⟨b, o + 1, none⟩ = some (.int .i64 (e.method : Int)) := L10 1 (by omega)
 have k7 : w10.cell? ⟨b, o + 7, none⟩ = some (.int .i64 (e.flags : Int)) := L10 7 (by omega)
 have k10 : w10.cell? ⟨b, o + 10, none⟩ = some (.string e.three) := L10 10 (by omega)
 have HLt : Hid (∀ W, ListAt W b o e pl st → Calls Tryz.prog 72 #[.pointer (some ⟨b, o, none⟩)] W fun r w' => r = .returned (.bool (laterB e)) ∧ W = w') := fun W hW => isLater_c W b o e pl st hW hf
 have HL10 : Hid (ListAt w10 b o e pl st) := L10
 have f10' : FR w10 rb s E (fldTo E p (30 + fldNum s E (fldTo E p 26) 2 + fldNum s E (fldTo E p 28) 2)) := f10
 obtain ⟨hd, hhd⟩ : ∃ hd, hd = hdB s E p e := ⟨_, rfl⟩
 have FIN : Hid (∀ v : Bool, v = hd → Ending.returned (.bool v) = Ending.returned (.bool (hdB s E p e)) ∧ FR w10 rb s E (fldTo E p (30 + fldNum s E (fldTo E p 26) 2 + fldNum s E (fldTo E p 28) 2)) ∧ Touch (fun k => k = rb) w w10) := fun v hv => ⟨by rw [hv, hhd], f10', T10⟩
 have HB : Hid (hd = (decide ((fldOf s E p 4).toList = [80, 75, 3, 4]) && decide (fldNum s E (fldTo E p 6) 2 = e.flags) && decide (fldNum s E (fldTo E p 8) 2 = e.method)
  && decide ((fldOf s E (fldTo E p 30) (fldNum s E (fldTo E p 26) 2)).toList = e.name.toList)
  && (decide ((fldOf s E (fldTo E p 14) 12).toList = e.three.toList) || (laterB e && decide ((fldOf s E (fldTo E p 14) 12).toList = [0, 0, 0, 0, 0, 0, 0, 0, 0, 0, 0, 0]))))) := hhd
 clear f10 f10' T10 L10 n1 n2 hE hne HLA hhd
 generalize fldOf s E (fldTo E p 30) (fldNum s E (fldTo E p 26) 2) = nm at HB ⊢
 generalize fldOf s E (fldTo E p 14) 12 = th at HB ⊢
 generalize fldNum s E (fldTo E p 6) 2 = fl at HB ⊢
 generalize fldNum s E (fldTo E p 8) 2 = me at HB ⊢
 generalize fldOf s E p 4 = m1 at HB ⊢
 by_cases y1 : m1.toList = [80, 75, 3, 4]
 ·have y1' : (m1.toList != [80, 75, 3, 4]) = false := by simpa using y1
  by_cases y2 : (fl : Int) = (e.flags : Int)
  ·have y2' : ((fl : Int) != (e.flags : Int)) = false := by simpa using y2
   by_cases y3 : (me : Int) = (e.method : Int)
   ·have y3' : ((me : Int) != (e.method : Int)) = false := by simpa using y3
    by_cases y4 : nm.toList = e.name.toList
    ·have y4' : (nm.toList != e.name.toList) = false := by simpa using y4
     by_cases y5 : th.toList = e.three.toList
     ·have y5' : (th.toList == e.three.toList) = true := by simpa using y5
      have HE : Hid (hd = true) := by unfold Hid; rw [HB.out]; simp [y1, y4, y5]; omega
      clear HB
      go_wp2
      go_ret
      exact FIN.out true HE.out.symm
     ·have y5' : (th.toList == e.three.toList) = false := by simpa using y5
      have HE : Hid (hd = (laterB e && decide (th.toList = [0, 0, 0, 0, 0, 0, 0, 0, 0, 0, 0, 0]))) := by
       unfold Hid; rw [HB.out, decide_eq_true y1, decide_eq_true (by omega : fl = e.flags), decide_eq_true (by omega : me = e.method), decide_eq_true y4, decide_eq_false y5]; simp
      clear HB
      go_wp2_with fail
      refine (HLt.out _ HL10.out).mono ?_
      rintro r w' ⟨rfl, rfl⟩
      cases hl : laterB e with
      | false =>
       go_wp2
       go_ret
       exact FIN.out false (by rw [HE.out, hl]; rfl)
      | true =>
       go_wp2
       go_ret
       exact FIN.out _ (by rw [HE.out, hl, Bool.true_and, Bool.eq_iff_iff]; simp)
    ·have y4' : (nm.toList == e.name.toList) = false := by simpa using y4
     have HE : Hid (hd = false) := by unfold Hid; rw [HB.out]; simp [y4]
     clear HB
     go_wp2
     go_ret
     exact FIN.out false HE.out.symm
   ·have y3' : ((me : Int) != (e.method : Int)) = true := by simpa using y3
    have HE : Hid (hd = false) := by unfold Hid; rw [HB.out, decide_eq_false (by omega : ¬ me = e.method)]; simp
    clear HB
    go_wp2
    go_ret
    exact FIN.out false HE.out.symm
  ·have y2' : ((fl : Int) != (e.flags : Int)) = true := by simpa using y2
   have HE : Hid (hd = false) := by unfold Hid; rw [HB.out, decide_eq_false (by omega : ¬ fl = e.flags)]; simp
   clear HB
   go_wp2
   go_ret
   exact FIN.out false HE.out.symm
 ·have y1' : (m1.toList != [80, 75, 3, 4]) = true := by simpa using y1
  have HE : Hid (hd = false) := by unfold Hid; rw [HB.out]; simp [y1]
  clear HB
  go_wp2
  go_ret
  exact FIN.out false HE.out.symm
end Go.Proofs.YtnmkmmgaoplfiaaGreatDoor
namespace Go.Proofs.YtnmkmmgaoplfiaaGreatDoor
open Go.RowKit Go.Shelf
def ltB (s : ByteArray) (E : Nat) (p : Option Nat) (e : Ent) : Bool :=
 decide ((fldOf s E p 4).toList = [80, 75, 7, 8]) && decide (fldNum s E (fldTo E p 4) 4 = e.sum) && decide (fldNum s E (fldTo E p 8) 4 = e.packed % 4294967296) && decide (fldNum s E (fldTo E p 12) 4 = e.size % 4294967296)
theorem wrap32_small (n : Nat) (h : n < 4294967296) : (n : Int) % 4294967296 = (n : Int) := by omega
theorem wrap32_mod (n : Nat) : (n : Int) % 4294967296 = ((n % 4294967296 : Nat) : Int) := by omega
theorem takeLater_c (w : World) (b o rb : Nat) (e : Ent) (pl st : Nat) (s : ByteArray) (E : Nat) (p : Option Nat) (h : ListAt w b o e pl st) (hr : FR w rb s E p) (hne : b ≠ rb) (hs : s.size ≤ 140737488355328) :
  Calls Tryz.prog 73 #[.pointer (some ⟨b, o, none⟩), .pointer (some ⟨rb, 0, none⟩)] w fun r w' => r = .returned (.bool (ltB s E p e)) ∧ FR w' rb s E (fldTo E p 16) ∧ Touch (fun k => k = rb) w w' := by
 have HLA : Hid (ListAt w b o e pl st) := h
 have hE := hr.size
 clear h
 go_enter Tryz.func73, Tryz.ntmps73
 go_wp2_with fail
 refine (take_c _ _ s E p 4 4 rfl (by omega) hs hr).mono ?_
 rintro r w1 ⟨rfl, f1, t1⟩
 have T1 := t1
 clear t1 hr
 go_wp2_with fail
 refine (fnumber_c _ _ s E _ 4 4 rfl (by omega) hs f1).mono ?_
 rintro r w2 ⟨rfl, f2, t2⟩
 rw [fldTo_add] at f2
 have T2 := T1.trans t2
 clear t2 T1 f1
 go_wp2_with fail
 refine (fnumber_c _ _ s E _ 4 4 rfl (by omega) hs f2).mono ?_
 rintro r w3 ⟨rfl, f3, t3⟩
 rw [fldTo_add] at f3
 have T3 := T2.trans t3
 clear t3 T2 f2
 go_wp2_with fail
 refine (fnumber_c _ _ s E _ 4 4 rfl (by omega) hs f3).mono ?_
 rintro r w4 ⟨rfl, f4, t4⟩
 rw [fldTo_add] at f4
 have T4 := T3.trans t4
 clear t4 T3 f3
 have L4 := HLA.out.keep T4 hne
 have k2 : w4.cell? ⟨b, o + 2, none⟩ = some (.int .u32 (e.sum : Int)) := L4 2 (by omega)
 have k3 : w4.cell? ⟨b, o + 3, none⟩ = some (.int .i64 (e.packed : Int)) := L4 3 (by omega)
 have k4 : w4.cell? ⟨b, o + 4, none⟩ = some (.int .i64 (e.size : Int)) := L4 4 (by omega)
 have a1 := wrap32_small (fldNum s E (fldTo E p 4) 4) (by have := fldNum_lt s E (fldTo E p 4) 4 hE; omega)
 have a2 := wrap32_small (fldNum s E (fldTo E p 8) 4) (by have := fldNum_lt s E (fldTo E p 8) 4 hE; omega)
 have a3 := wrap32_small (fldNum s E (fldTo E p 12) 4) (by have := fldNum_lt s E (fldTo E p 12) 4 hE; omega)
 have a4 := wrap32_mod e.packed
 have a5 := wrap32_mod e.size
 obtain ⟨hd, hhd⟩ : ∃ hd, hd = ltB s E p e := ⟨_, rfl⟩
 have f4' : FR w4 rb s E (fldTo E p 16) := f4
 have FIN : Hid (∀ v : Bool, v = hd → Ending.returned (.bool v) = Ending.returned (.bool (ltB s E p e)) ∧ FR w4 rb s E (fldTo E p 16) ∧ Touch (fun k => k = rb) w w4) := fun v hv => ⟨by rw [hv, hhd], f4', T4⟩
 have HB : Hid (hd = (decide ((fldOf s E p 4).toList = [80, 75, 7, 8]) && decide (fldNum s E (fldTo E p 4) 4 = e.sum) && decide (fldNum s E (fldTo E p 8) 4 = e.packed % 4294967296) && decide (fldNum s E (fldTo E p 12) 4 = e.size % 4294967296))) := hhd
 clear f4 f4' T4 L4 hE hne HLA hhd
 revert a1 a2 a3 a4 a5 HB
 generalize e.packed % 4294967296 = pk
 generalize e.size % 4294967296 = sz
 generalize fldNum s E (fldTo E p 4) 4 = x1
 generalize fldNum s E (fldTo E p 8) 4 = x2
 generalize fldNum s E (fldTo E p 12) 4 = x3
 generalize fldOf s E p 4 = m1
 intro a1 a2 a3 a4 a5 HB
 by_cases y1 : m1.toList = [80, 75, 7, 8]
 ·by_cases y2 : (x1 : Int) = (e.sum : Int)
  ·have y2' : ((x1 : Int) == (e.sum : Int)) = true := by simpa using y2
   by_cases y3 : (x2 : Int) = (pk : Int)
   ·have y3' : ((x2 : Int) == (pk : Int)) = true := by simpa using y3
    have HE : Hid (hd = decide (x3 = sz)) := by
     unfold Hid; rw [HB.out, decide_eq_true y1, decide_eq_true (by omega : x1 = e.sum), decide_eq_true (by omega : x2 = pk)]; rfl
    clear HB y2 y3
    go_wp2
    go_ret
    exact FIN.out _ (by rw [HE.out, Bool.eq_iff_iff]; simp; omega)
   ·have y3' : ((x2 : Int) == (pk : Int)) = false := by simpa using y3
    have HE : Hid (hd = false) := by unfold Hid; rw [HB.out, decide_eq_false (by omega : ¬ x2 = pk)]; simp
    clear HB y2 y3
    go_wp2
    go_ret
    exact FIN.out false HE.out.symm
  ·have y2' : ((x1 : Int) == (e.sum : Int)) = false := by simpa using y2
   have HE : Hid (hd = false) := by unfold Hid; rw [HB.out, decide_eq_false (by omega : ¬ x1 = e.sum)]; simp
   clear HB y2
   go_wp2
   go_ret
   exact FIN.out false HE.out.symm
 ·have HE : Hid (hd = false) := by unfold Hid; rw [HB.out]; simp [y1]
  clear HB
  go_wp2
  go_ret
  exact FIN.out false HE.out.symm
def plOf (E : Nat) (p : Option Nat) : Nat := p.getD E
theorem plOf_rest (s : ByteArray) (E : Nat) (p : Option Nat) (hE : E ≤ s.size) (hp : ∀ q, p = some q → q ≤ E) : (E : Int) - ((restOf s E p).size : Int) = (plOf E p : Int) := by
 cases p with
 | none => show (E : Int) - ((0 : Nat) : Int) = _; simp [plOf]
 | some q =>
  have := hp q rfl
  simp only [restOf, plOf, ByteArray.size_extract, Option.getD_some]
  omega
theorem ListAt.setPlace {w : World} {b o : Nat} {e : Ent} {p t : Nat} (h : ListAt w b o e p t) (q : Nat) : ListAt (w.setCell ⟨b, o + 5, none⟩ (.int .i64 (q : Int))) b o e q t := by
 intro i hi
 rw [cell_set_if]
 by_cases h5 : i = 5
 ·subst h5
  rw [if_pos ⟨rfl, rfl⟩, h 5 (by omega)]; rfl
 ·rw [if_neg (by omega), h i hi]
  rcases (by omega : i = 0 ∨ i = 1 ∨ i = 2 ∨ i = 3 ∨ i = 4 ∨ i = 6 ∨ i = 7 ∨ i = 8 ∨ i = 9 ∨ i = 10 ∨ i = 11 ∨ i = 12) with rfl | rfl | rfl | rfl | rfl | rfl | rfl | rfl | rfl | rfl | rfl | rfl <;> rfl
theorem ListAt.setStop {w : World} {b o : Nat} {e : Ent} {p t : Nat} (h : ListAt w b o e p t) (q : Nat) : ListAt (w.setCell ⟨b, o + 12, none⟩ (.int .i64 (q : Int))) b o e p q := by
 intro i hi
 rw [cell_set_if]
 by_cases h5 : i = 12
 ·subst h5
  rw [if_pos ⟨rfl, rfl⟩, h 12 (by omega)]; rfl
 ·rw [if_neg (by omega), h i hi]
  rcases (by omega : i = 0 ∨ i = 1 ∨ i = 2 ∨ i = 3 ∨ i = 4 ∨ i = 5 ∨ i = 6 ∨ i = 7 ∨ i = 8 ∨ i = 9 ∨ i = 10 ∨ i = 11) with rfl | rfl | rfl | rfl | rfl | rfl | rfl | rfl | rfl | rfl | rfl | rfl <;> rfl
def spB (E : Nat) (s : ByteArray) (e : Ent) : Option Nat := fldTo E (fldTo E (some 0) e.ahead) (30 + fldNum s E (fldTo E (fldTo E (some 0) e.ahead) 26) 2 + fldNum s E (fldTo E (fldTo E (some 0) e.ahead) 28) 2)
def spT (E : Nat) (s : ByteArray) (e : Ent) : Option Nat := if laterB e then fldTo E (fldTo E (spB E s e) e.packed) 16 else fldTo E (spB E s e) e.packed
def spOk (E : Nat) (s : ByteArray) (e : Ent) : Bool := (hdB s E (fldTo E (some 0) e.ahead) e && (!laterB e || ltB s E (fldTo E (spB E s e) e.packed) e)) && (spT E s e).isSome
theorem bytes_eq (a b : ByteArray) : (a.toList = b.toList) ↔ a = b := by
 rw [ByteArray.toList_eq, ByteArray.toList_eq]
 exact ⟨fun h => by cases a; cases b; simp at h; rw [ByteArray.mk.injEq]; exact h, fun h => by rw [h]⟩
theorem bytes_lit (a : ByteArray) (l : List UInt8) : (a.toList = l) ↔ a = ⟨l.toArray⟩ := by
 rw [← bytes_eq, ByteArray.toList_eq ⟨l.toArray⟩]
theorem ite_two {α : Type} {p q : Prop} [Decidable p] [Decidable q] {a b c : α} (h : p ↔ q) (hab : a = b) : (if p then a else c) = if q then b else c := by
 by_cases hp : p
 ·rw [if_pos hp, if_pos (h.1 hp), hab]
 ·rw [if_neg hp, if_neg (fun hq => hp (h.2 hq))]
theorem spanAt_eq (s : ByteArray) (E : Nat) (e : Ent) (hE : E ≤ s.size) : spanAt s E e = if spOk E s e then some (plOf E (spB E s e), plOf E (spT E s e)) else none := by
 by_cases h30 : e.ahead + 30 ≤ E
 ·have p0 : fldTo E (some 0) e.ahead = some e.ahead := by simp [fldTo]; omega
  have r26 : fldNum s E (some (e.ahead + 26)) 2 = numIn s (e.ahead + 26) 2 := fldNum_some s E _ 2 hE (by omega)
  have r28 : fldNum s E (some (e.ahead + 28)) 2 = numIn s (e.ahead + 28) 2 := fldNum_some s E _ 2 hE (by omega)
  have q : ∀ k, e.ahead + k ≤ E → fldTo E (some e.ahead) k = some (e.ahead + k) := fun k hk => by simp [fldTo, hk]
  have q' : ∀ k, ¬ e.ahead + k ≤ E → fldTo E (some e.ahead) k = none := fun k hk => by simp [fldTo, hk]
  obtain ⟨n, hn⟩ : ∃ n, n = numIn s (e.ahead + 26) 2 := ⟨_, rfl⟩
  obtain ⟨x, hx⟩ : ∃ x, x = numIn s (e.ahead + 28) 2 := ⟨_, rfl⟩
  have eB : spB E s e = fldTo E (some e.ahead) (30 + n + x) := by unfold spB; rw [p0, q 26 (by omega), q 28 (by omega), r26, r28, ← hn, ← hx]
  obtain ⟨lt, hlt⟩ : ∃ b, b = laterB e := ⟨_, rfl⟩
  have eT : spT E s e = fldTo E (some e.ahead) (30 + n + x + e.packed + (if lt then 16 else 0)) := by
   unfold spT; rw [eB, ← hlt]
   cases lt
   ·simp only [Bool.false_eq_true, if_false, Nat.add_zero]; rw [fldTo_add]
   ·simp only [if_true]; rw [fldTo_add, fldTo_add]; congr 1
  by_cases ht : e.ahead + 30 + n + x + e.packed + (if lt then 16 else 0) ≤ E
  ·have eT' : spT E s e = some (e.ahead + (30 + n + x + e.packed + (if lt then 16 else 0))) := by rw [eT]; exact q _ (by omega)
   have eB' : spB E s e = some (e.ahead + (30 + n + x)) := by rw [eB]; exact q _ (by omega)
   have eP : fldTo E (spB E s e) e.packed = some (e.ahead + 30 + n + x + e.packed) := by rw [eB, fldTo_add, q _ (by omega)]; congr 1; omega
   have o1 : ∀ k m, e.ahead + k + m ≤ E → fldOf s E (fldTo E (some e.ahead) k) m = s.extract (e.ahead + k) (e.ahead + k + m) := fun k m hk => by
    unfold fldOf; rw [fldTo_add, q (k + m) (by omega)]; simp only; congr 1 <;> omega
   have o2 : ∀ k m, e.ahead + k + m ≤ E → fldNum s E (fldTo E (some e.ahead) k) m = numIn s (e.ahead + k) m := fun k m hk => by
    rw [q k (by omega)]; exact fldNum_some s E _ m hE hk
   have eH : hdB s E (fldTo E (some 0) e.ahead) e = (markB s e.ahead 3 4 && decide (numIn s (e.ahead + 6) 2 = e.flags) && decide (numIn s (e.ahead + 8) 2 = e.method) && decide (s.extract (e.ahead + 30) (e.ahead + 30 + n) = e.name)
     && (decide (s.extract (e.ahead + 14) (e.ahead + 26) = e.three) || (lt && decide (s.extract (e.ahead + 14) (e.ahead + 26) = ⟨#[0, 0, 0, 0, 0, 0, 0, 0, 0, 0, 0, 0]⟩)))) := by
    unfold hdB markB
    rw [p0, o2 6 2 (by omega), o2 8 2 (by omega), o2 26 2 (by omega), ← hn, o1 30 n (by omega), o1 14 12 (by omega), ← hlt]
    have o3 : fldOf s E (some e.ahead) 4 = s.extract e.ahead (e.ahead + 4) := by
     have := o1 0 4 (by omega)
     rw [q 0 (by omega)] at this; exact this
    have z1 : ∀ a : ByteArray, (a.toList = [0, 0, 0, 0, 0, 0, 0, 0, 0, 0, 0, 0]) ↔ a = ⟨#[0, 0, 0, 0, 0, 0, 0, 0, 0, 0, 0, 0]⟩ := fun a => bytes_lit a _
    rw [o3]
    simp only [bytes_eq, z1]
   have eL : lt = true → ltB s E (fldTo E (spB E s e) e.packed) e = (markB s (e.ahead + 30 + n + x + e.packed) 7 8 && decide (numIn s (e.ahead + 30 + n + x + e.packed + 4) 4 = e.sum) && decide (numIn s (e.ahead + 30 + n + x + e.packed + 8) 4 = e.packed % 4294967296) && decide (numIn s (e.ahead + 30 + n + x + e.packed + 12) 4 = e.size % 4294967296)) := by
    intro hl
    rw [hl] at ht
    simp only [if_true] at ht
    unfold ltB markB
    rw [eP]
    have z : ∀ k, k ≤ 16 → fldTo E (some (e.ahead + 30 + n + x + e.packed)) k = some (e.ahead + 30 + n + x + e.packed + k) := fun k hk => by simp [fldTo]; omega
    rw [z 4 (by omega), z 8 (by omega), z 12 (by omega), fldNum_some s E _ 4 hE (by omega), fldNum_some s E _ 4 hE (by omega), fldNum_some s E _ 4 hE (by omega)]
    have o3 : fldOf s E (some (e.ahead + 30 + n + x + e.packed)) 4 = s.extract (e.ahead + 30 + n + x + e.packed) (e.ahead + 30 + n + x + e.packed + 4) := by
     unfold fldOf; rw [z 4 (by omega)]; simp only; congr 1
    rw [o3]
   have eO : spOk E s e = ((markB s e.ahead 3 4 && decide (numIn s (e.ahead + 6) 2 = e.flags) && decide (numIn s (e.ahead + 8) 2 = e.method) && decide (s.extract (e.ahead + 30) (e.ahead + 30 + n) = e.name)
     && (decide (s.extract (e.ahead + 14) (e.ahead + 26) = e.three) || (lt && decide (s.extract (e.ahead + 14) (e.ahead + 26) = ⟨#[0, 0, 0, 0, 0, 0, 0, 0, 0, 0, 0, 0]⟩))))
     && (!lt || (markB s (e.ahead + 30 + n + x + e.packed) 7 8 && decide (numIn s (e.ahead + 30 + n + x + e.packed + 4) 4 = e.sum) && decide (numIn s (e.ahead + 30 + n + x + e.packed + 8) 4 = e.packed % 4294967296) && decide (numIn s (e.ahead + 30 + n + x + e.packed + 12) 4 = e.size % 4294967296)))) := by
    unfold spOk
    rw [eT', eH, ← hlt]
    cases lt with
    | false => simp
    | true => rw [eL rfl]; simp
   rw [eO, eB', eT']
   unfold spanAt
   simp only [← hn, ← hx, ← hlt, plOf, Option.getD_some]
   refine ite_two ?_ (by congr 2 <;> omega)
   simp only [Bool.and_eq_true, Bool.or_eq_true, Bool.not_eq_true', decide_eq_true_eq]
   refine ⟨fun h => ?_, fun h => ?_⟩
   ·obtain ⟨_, _, a1, a2, a3, a4, a5, a6⟩ := h
    refine ⟨⟨⟨⟨⟨a1, a2⟩, a3⟩, a4⟩, a5⟩, ?_⟩
    cases lt
    ·exact .inl rfl
    ·obtain ⟨b1, b2, b3, b4⟩ := a6 rfl
     exact .inr ⟨⟨⟨b1, b2⟩, b3⟩, b4⟩
   ·obtain ⟨⟨⟨⟨⟨a1, a2⟩, a3⟩, a4⟩, a5⟩, a6⟩ := h
    refine ⟨h30, ht, a1, a2, a3, a4, a5, fun hl => ?_⟩
    rcases a6 with a6 | ⟨⟨⟨b1, b2⟩, b3⟩, b4⟩
    ·rw [hl] at a6; cases a6
    ·exact ⟨b1, b2, b3, b4⟩
  ·have eT' : spT E s e = none := by rw [eT]; exact q' _ (by omega)
   have eO : spOk E s e = false := by unfold spOk; rw [eT']; simp
   rw [eO]
   unfold spanAt
   simp only [← hn, ← hx, ← hlt]
   rw [if_neg (by intro h; exact ht h.2.1)]; rfl
 ·have eO : spOk E s e = false := by
   have p0 : ∀ k, 30 ≤ k → fldTo E (fldTo E (some 0) e.ahead) k = none := by
    intro k hk
    rw [fldTo_add]; simp [fldTo]; omega
   have eB : spB E s e = none := by unfold spB; exact p0 _ (by omega)
   have eT : spT E s e = none := by unfold spT; rw [eB]; cases laterB e <;> rfl
   unfold spOk; rw [eT]; simp
  rw [eO]
  unfold spanAt
  rw [if_neg (by intro h; exact h30 h.1)]; rfl
end Go.Proofs.YtnmkmmgaoplfiaaGreatDoor
