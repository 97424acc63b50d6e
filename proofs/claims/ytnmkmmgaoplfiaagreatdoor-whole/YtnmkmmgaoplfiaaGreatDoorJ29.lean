/- Texts of this seat, joined. -/
import Derived.Test.YtnmkmmgaoplfiaaGreatDoorJ25
import Derived.Test.YtnmkmmgaoplfiaaGreatDoorJ27
import Derived.Test.YtnmkmmgaoplfiaaGreatDoorJ28
import Derived.Test.YtnmkmmgaoplfiaaGreatDoorJ21
set_option linter.unusedSimpArgs false
set_option linter.unusedVariables false
set_option maxRecDepth 100000
set_option maxHeartbeats 20000000
namespace Go.Proofs.YtnmkmmgaoplfiaaGreatDoor
open Go.RowKit Go.Shelf Go.Lib
structure LB (w : World) (lb : Nat) (e : Ent) : Prop where
 lst : ListAt w lb 0 e 0 0
 frozen : ∀ i, w.frozen? ⟨lb, i, none⟩ = false
 lt : lb < w.heap.size
theorem LB.keep {S : Nat → Prop} {w w' : World} {lb : Nat} {e : Ent} (h : LB w lb e) (ht : Touch S w w') (hs : ¬ S lb) : LB w' lb e :=
 ⟨h.lst.keep ht hs, fun i => (ht.frozen (p := ⟨lb, i, none⟩) h.lt hs).trans (h.frozen i), Nat.lt_of_lt_of_le h.lt ht.size⟩
theorem LB.set {w : World} {lb : Nat} {e : Ent} (h : LB w lb e) (k : Nat) (v : Value) (e' : Ent) (hk : k < 13) (hl : listL e' 0 0 = (listL e 0 0).set k v) : LB (w.setCell ⟨lb, k, none⟩ v) lb e' := by
 refine ⟨fun i hi => ?_, fun i => by rw [World.frozen?_setCell]; exact h.frozen i, by simpa using h.lt⟩
 have h1 := h.lst i hi
 have h2 := h.lst k hk
 rw [Nat.zero_add] at h1 h2 ⊢
 have hlen : (listL e 0 0).length = 13 := rfl
 rw [cell_set_if, hl, List.getElem?_set]
 by_cases hik : i = k
 ·subst hik
  have hex : (w.cell? ⟨lb, i, none⟩).isSome = true := by
   rw [h2, List.getElem?_eq_getElem (by omega)]; rfl
  have hex' := Option.isSome_iff_exists.1 hex
  simp [hlen, hi, hex']
 ·have hik' : ¬ k = i := fun e => hik e.symm
  simp [hik, hik', h1]
def ent0 : Ent := ⟨⟨#[]⟩, 0, 0, 0, 0, 0, 0, 0, 0, 0, ⟨#[]⟩⟩
theorem LB.new (w : World) : LB (w.alloc (Obj.cells #[.string ⟨#[]⟩, .int .i64 0, .int .u32 0, .int .i64 0, .int .i64 0, .int .i64 0, .int .i64 0, .int .i64 0, .int .i64 0, .int .i64 0, .string ⟨#[]⟩, .int .i64 0, .int .i64 0] 125)) w.heap.size ent0 := by
 have hb := heap_alloc_new w (Obj.cells #[.string ⟨#[]⟩, .int .i64 0, .int .u32 0, .int .i64 0, .int .i64 0, .int .i64 0, .int .i64 0, .int .i64 0, .int .i64 0, .int .i64 0, .string ⟨#[]⟩, .int .i64 0, .int .i64 0] 125)
 refine ⟨fun i hi => ?_, fun i => frozen_row hb i, by simp⟩
 rw [Nat.zero_add, row_cell hb i]; simp [listL, ent0]
def fitB (s : ByteArray) (E : Nat) (p : Option Nat) : Bool := (fldTo E p (46 + fldNum s E (fldTo E p 28) 2 + fldNum s E (fldTo E p 30) 2 + fldNum s E (fldTo E p 32) 2)).isSome && decide ((fldOf s E p 4).toList = [80, 75, 1, 2])
theorem takeListed_bad (w : World) (rb : Nat) (s : ByteArray) (E : Nat) (p : Option Nat) (hr : FR w rb s E p) (hs : s.size ≤ 140737488355328) (hbad : fitB s E p = false) :
  Calls Tryz.prog 48 #[.pointer (some ⟨rb, 0, none⟩)] w fun r w' => Touch (fun k => k = rb) w w' ∧ r = .returned (.tuple #[.agg #[.string ⟨#[]⟩, .int .i64 0, .int .u32 0, .int .i64 0, .int .i64 0, .int .i64 0, .int .i64 0, .int .i64 0, .int .i64 0, .int .i64 0, .string ⟨#[]⟩, .int .i64 0, .int .i64 0], .bool false]) := by
 have hE := hr.size
 have hrl := World.block_lt_of_cell? w _ hr.rest
 have hne : ¬ w.heap.size + 1 = rb := fun e => by have : rb < w.heap.size := hrl; omega
 have hne0 : ¬ w.heap.size = rb := fun e => by have : rb < w.heap.size := hrl; omega
 have HB : Hid (fitB s E p = false) := hbad
 have A0 := LB.new w
 have A1 := A0.keep ((Touch.refl (fun _ => False) _).alloc (Obj.cells #[.string ⟨#[]⟩, .int .i64 0, .int .u32 0, .int .i64 0, .int .i64 0, .int .i64 0, .int .i64 0, .int .i64 0, .int .i64 0, .int .i64 0, .string ⟨#[]⟩, .int .i64 0, .int .i64 0] 125)) (fun e => e)
 have B0 := LB.new (w.alloc (Obj.cells #[.string ⟨#[]⟩, .int .i64 0, .int .u32 0, .int .i64 0, .int .i64 0, .int .i64 0, .int .i64 0, .int .i64 0, .int .i64 0, .int .i64 0, .string ⟨#[]⟩, .int .i64 0, .int .i64 0] 125))
 rw [World.size_alloc] at B0
 have U0 : Touch (fun k => k = rb ∨ k = w.heap.size + 1) ((w.alloc (Obj.cells #[.string ⟨#[]⟩, .int .i64 0, .int .u32 0, .int .i64 0, .int .i64 0, .int .i64 0, .int .i64 0, .int .i64 0, .int .i64 0, .int .i64 0, .string ⟨#[]⟩, .int .i64 0, .int .i64 0] 125)).alloc (Obj.cells #[.string ⟨#[]⟩, .int .i64 0, .int .u32 0, .int .i64 0, .int .i64 0, .int .i64 0, .int .i64 0, .int .i64 0, .int .i64 0, .int .i64 0, .string ⟨#[]⟩, .int .i64 0, .int .i64 0] 125)) ((w.alloc (Obj.cells #[.string ⟨#[]⟩, .int .i64 0, .int .u32 0, .int .i64 0, .int .i64 0, .int .i64 0, .int .i64 0, .int .i64 0, .int .i64 0, .int .i64 0, .string ⟨#[]⟩, .int .i64 0, .int .i64 0] 125)).alloc (Obj.cells #[.string ⟨#[]⟩, .int .i64 0, .int .u32 0, .int .i64 0, .int .i64 0, .int .i64 0, .int .i64 0, .int .i64 0, .int .i64 0, .int .i64 0, .string ⟨#[]⟩, .int .i64 0, .int .i64 0] 125)) := Touch.refl _ _
 have HA : Hid (LB ((w.alloc (Obj.cells #[.string ⟨#[]⟩, .int .i64 0, .int .u32 0, .int .i64 0, .int .i64 0, .int .i64 0, .int .i64 0, .int .i64 0, .int .i64 0, .int .i64 0, .string ⟨#[]⟩, .int .i64 0, .int .i64 0] 125)).alloc (Obj.cells #[.string ⟨#[]⟩, .int .i64 0, .int .u32 0, .int .i64 0, .int .i64 0, .int .i64 0, .int .i64 0, .int .i64 0, .int .i64 0, .int .i64 0, .string ⟨#[]⟩, .int .i64 0, .int .i64 0] 125)) w.heap.size ent0) := A1
 have T0 : Touch (fun k => k = rb) w ((w.alloc (Obj.cells #[.string ⟨#[]⟩, .int .i64 0, .int .u32 0, .int .i64 0, .int .i64 0, .int .i64 0, .int .i64 0, .int .i64 0, .int .i64 0, .int .i64 0, .string ⟨#[]⟩, .int .i64 0, .int .i64 0] 125)).alloc (Obj.cells #[.string ⟨#[]⟩, .int .i64 0, .int .u32 0, .int .i64 0, .int .i64 0, .int .i64 0, .int .i64 0, .int .i64 0, .int .i64 0, .int .i64 0, .string ⟨#[]⟩, .int .i64 0, .int .i64 0] 125)) := ((Touch.refl _ w).alloc _).alloc _
 have f0 := (hr.keep ((Touch.refl (fun _ => False) w).alloc (Obj.cells #[.string ⟨#[]⟩, .int .i64 0, .int .u32 0, .int .i64 0, .int .i64 0, .int .i64 0, .int .i64 0, .int .i64 0, .int .i64 0, .int .i64 0, .string ⟨#[]⟩, .int .i64 0, .int .i64 0] 125)) (fun e => e)).keep ((Touch.refl (fun _ => False) _).alloc (Obj.cells #[.string ⟨#[]⟩, .int .i64 0, .int .u32 0, .int .i64 0, .int .i64 0, .int .i64 0, .int .i64 0, .int .i64 0, .int .i64 0, .int .i64 0, .string ⟨#[]⟩, .int .i64 0, .int .i64 0] 125)) (fun e => e)
 clear A0 A1
 have n1 := fldNum_lt s E (fldTo E p 28) 2 hE
 have n2 := fldNum_lt s E (fldTo E p 30) 2 hE
 have n3 := fldNum_lt s E (fldTo E p 32) 2 hE
 have hlb : w.heap.size ≤ w.heap.size + 1 := by omega
 clear hbad hr
 go_enter Tryz.func48, Tryz.ntmps48
 go_wp2_with fail
 refine (take_c _ _ s E _ 4 4 rfl (by omega) hs f0).mono ?_
 rintro r w1 ⟨rfl, f1, t1⟩
 have T1 := T0.trans t1
 have B1 := B0.keep t1 hne
 have U1 := U0.trans (t1.mono (fun k _ e => Or.inl e))
 clear t1 T0 f0 B0 U0
 go_wp2_with fail
 refine (fnumber_c _ _ s E _ 2 2 rfl (by omega) hs f1).mono ?_
 rintro r w2 ⟨rfl, f2, t2⟩
 rw [fldTo_add] at f2
 have T2 := T1.trans t2
 have B2 := B1.keep t2 hne
 have U2 := U1.trans (t2.mono (fun k _ e => Or.inl e))
 clear t2 T1 f1 B1 U1
 have c2_6 : w2.cell? ⟨w.heap.size + 1, 6, none⟩ = some (.int .i64 ((0 : Nat) : Int)) := B2.lst 6 (by omega)
 have z2_6 := B2.frozen 6
 have B2s := (B2.set 6 (.int .i64 (fldNum s E (fldTo E p 4) 2 : Nat)) { ent0 with maker := fldNum s E (fldTo E p 4) 2 } (by omega) rfl)
 have f2s := (f2.other (o := 6) (.int .i64 (fldNum s E (fldTo E p 4) 2 : Nat)) (fun e => hne e.symm))
 have T2s := (T2.setNew (p := ⟨w.heap.size + 1, 6, none⟩) hlb (.int .i64 (fldNum s E (fldTo E p 4) 2 : Nat)))
 have U2s := (U2.setCell (p := ⟨w.heap.size + 1, 6, none⟩) (Or.inr rfl) (.int .i64 (fldNum s E (fldTo E p 4) 2 : Nat)))
 clear B2 f2 T2 U2
 have B2 := B2s
 have f2 := f2s
 have T2 := T2s
 have U2 := U2s
 clear B2s f2s T2s U2s
 go_wp2_with fail
 refine (take_c _ _ s E _ 2 2 rfl (by omega) hs f2).mono ?_
 rintro r w3 ⟨rfl, f3, t3⟩
 rw [fldTo_add] at f3
 have T3 := T2.trans t3
 have B3 := B2.keep t3 hne
 have U3 := U2.trans (t3.mono (fun k _ e => Or.inl e))
 clear t3 T2 f2 B2 U2
 clear c2_6 z2_6
 go_wp2_with fail
 refine (fnumber_c _ _ s E _ 2 2 rfl (by omega) hs f3).mono ?_
 rintro r w4 ⟨rfl, f4, t4⟩
 rw [fldTo_add] at f4
 have T4 := T3.trans t4
 have B4 := B3.keep t4 hne
 have U4 := U3.trans (t4.mono (fun k _ e => Or.inl e))
 clear t4 T3 f3 B3 U3
 go_wp2_with fail
 refine (fnumber_c _ _ s E _ 2 2 rfl (by omega) hs f4).mono ?_
 rintro r w5 ⟨rfl, f5, t5⟩
 rw [fldTo_add] at f5
 have T5 := T4.trans t5
 have B5 := B4.keep t5 hne
 have U5 := U4.trans (t5.mono (fun k _ e => Or.inl e))
 clear t5 T4 f4 B4 U4
 have c5_7 : w5.cell? ⟨w.heap.size + 1, 7, none⟩ = some (.int .i64 ((0 : Nat) : Int)) := B5.lst 7 (by omega)
 have z5_7 := B5.frozen 7
 have c5_1 : w5.cell? ⟨w.heap.size + 1, 1, none⟩ = some (.int .i64 ((0 : Nat) : Int)) := B5.lst 1 (by omega)
 have z5_1 := B5.frozen 1
 have B5s := ((B5.set 7 (.int .i64 (fldNum s E (fldTo E p 8) 2 : Nat)) { { ent0 with maker := fldNum s E (fldTo E p 4) 2 } with flags := fldNum s E (fldTo E p 8) 2 } (by omega) rfl).set 1 (.int .i64 (fldNum s E (fldTo E p 10) 2 : Nat)) { { { ent0 with maker := fldNum s E (fldTo E p 4) 2 } with flags := fldNum s E (fldTo E p 8) 2 } with method := fldNum s E (fldTo E p 10) 2 } (by omega) rfl)
 have f5s := ((f5.other (o := 7) (.int .i64 (fldNum s E (fldTo E p 8) 2 : Nat)) (fun e => hne e.symm)).other (o := 1) (.int .i64 (fldNum s E (fldTo E p 10) 2 : Nat)) (fun e => hne e.symm))
 have T5s := ((T5.setNew (p := ⟨w.heap.size + 1, 7, none⟩) hlb (.int .i64 (fldNum s E (fldTo E p 8) 2 : Nat))).setNew (p := ⟨w.heap.size + 1, 1, none⟩) hlb (.int .i64 (fldNum s E (fldTo E p 10) 2 : Nat)))
 have U5s := ((U5.setCell (p := ⟨w.heap.size + 1, 7, none⟩) (Or.inr rfl) (.int .i64 (fldNum s E (fldTo E p 8) 2 : Nat))).setCell (p := ⟨w.heap.size + 1, 1, none⟩) (Or.inr rfl) (.int .i64 (fldNum s E (fldTo E p 10) 2 : Nat)))
 clear B5 f5 T5 U5
 have B5 := B5s
 have f5 := f5s
 have T5 := T5s
 have U5 := U5s
 clear B5s f5s T5s U5s
 go_wp2_with fail
 refine (take_c _ _ s E _ 4 4 rfl (by omega) hs f5).mono ?_
 rintro r w6 ⟨rfl, f6, t6⟩
 rw [fldTo_add] at f6
 have T6 := T5.trans t6
 have B6 := B5.keep t6 hne
 have U6 := U5.trans (t6.mono (fun k _ e => Or.inl e))
 clear t6 T5 f5 B5 U5
 clear c5_7 z5_7
 clear c5_1 z5_1
 go_wp2_with fail
 refine (take_c _ _ s E _ 12 12 rfl (by omega) hs f6).mono ?_
 rintro r w7 ⟨rfl, f7, t7⟩
 rw [fldTo_add] at f7
 have T7 := T6.trans t7
 have B7 := B6.keep t7 hne
 have U7 := U6.trans (t7.mono (fun k _ e => Or.inl e))
 clear t7 T6 f6 B6 U6
 have c7_10 : w7.cell? ⟨w.heap.size + 1, 10, none⟩ = some (.string ⟨#[]⟩) := B7.lst 10 (by omega)
 have z7_10 := B7.frozen 10
 have B7s := (B7.set 10 (.string (fldOf s E (fldTo E p 16) 12)) { { { { ent0 with maker := fldNum s E (fldTo E p 4) 2 } with flags := fldNum s E (fldTo E p 8) 2 } with method := fldNum s E (fldTo E p 10) 2 } with three := fldOf s E (fldTo E p 16) 12 } (by omega) rfl)
 have f7s := (f7.other (o := 10) (.string (fldOf s E (fldTo E p 16) 12)) (fun e => hne e.symm))
 have T7s := (T7.setNew (p := ⟨w.heap.size + 1, 10, none⟩) hlb (.string (fldOf s E (fldTo E p 16) 12)))
 have U7s := (U7.setCell (p := ⟨w.heap.size + 1, 10, none⟩) (Or.inr rfl) (.string (fldOf s E (fldTo E p 16) 12)))
 clear B7 f7 T7 U7
 have B7 := B7s
 have f7 := f7s
 have T7 := T7s
 have U7 := U7s
 clear B7s f7s T7s U7s
 go_wp2_with fail
 refine (fnumber_c _ _ s E _ 2 2 rfl (by omega) hs f7).mono ?_
 rintro r w8 ⟨rfl, f8, t8⟩
 rw [fldTo_add] at f8
 have T8 := T7.trans t8
 have B8 := B7.keep t8 hne
 have U8 := U7.trans (t8.mono (fun k _ e => Or.inl e))
 clear t8 T7 f7 B7 U7
 clear c7_10 z7_10
 go_wp2_with fail
 refine (fnumber_c _ _ s E _ 2 2 rfl (by omega) hs f8).mono ?_
 rintro r w9 ⟨rfl, f9, t9⟩
 rw [fldTo_add] at f9
 have T9 := T8.trans t9
 have B9 := B8.keep t9 hne
 have U9 := U8.trans (t9.mono (fun k _ e => Or.inl e))
 clear t9 T8 f8 B8 U8
 go_wp2_with fail
 refine (fnumber_c _ _ s E _ 2 2 rfl (by omega) hs f9).mono ?_
 rintro r w10 ⟨rfl, f10, t10⟩
 rw [fldTo_add] at f10
 have T10 := T9.trans t10
 have B10 := B9.keep t10 hne
 have U10 := U9.trans (t10.mono (fun k _ e => Or.inl e))
 clear t10 T9 f9 B9 U9
 go_wp2_with fail
 refine (fnumber_c _ _ s E _ 2 2 rfl (by omega) hs f10).mono ?_
 rintro r w11 ⟨rfl, f11, t11⟩
 rw [fldTo_add] at f11
 have T11 := T10.trans t11
 have B11 := B10.keep t11 hne
 have U11 := U10.trans (t11.mono (fun k _ e => Or.inl e))
 clear t11 T10 f10 B10 U10
 have c11_8 : w11.cell? ⟨w.heap.size + 1, 8, none⟩ = some (.int .i64 ((0 : Nat) : Int)) := B11.lst 8 (by omega)
 have z11_8 := B11.frozen 8
 have B11s := (B11.set 8 (.int .i64 (fldNum s E (fldTo E p 34) 2 : Nat)) { { { { { ent0 with maker := fldNum s E (fldTo E p 4) 2 } with flags := fldNum s E (fldTo E p 8) 2 } with method := fldNum s E (fldTo E p 10) 2 } with three := fldOf s E (fldTo E p 16) 12 } with disk := fldNum s E (fldTo E p 34) 2 } (by omega) rfl)
 have f11s := (f11.other (o := 8) (.int .i64 (fldNum s E (fldTo E p 34) 2 : Nat)) (fun e => hne e.symm))
 have T11s := (T11.setNew (p := ⟨w.heap.size + 1, 8, none⟩) hlb (.int .i64 (fldNum s E (fldTo E p 34) 2 : Nat)))
 have U11s := (U11.setCell (p := ⟨w.heap.size + 1, 8, none⟩) (Or.inr rfl) (.int .i64 (fldNum s E (fldTo E p 34) 2 : Nat)))
 clear B11 f11 T11 U11
 have B11 := B11s
 have f11 := f11s
 have T11 := T11s
 have U11 := U11s
 clear B11s f11s T11s U11s
 go_wp2_with fail
 refine (take_c _ _ s E _ 2 2 rfl (by omega) hs f11).mono ?_
 rintro r w12 ⟨rfl, f12, t12⟩
 rw [fldTo_add] at f12
 have T12 := T11.trans t12
 have B12 := B11.keep t12 hne
 have U12 := U11.trans (t12.mono (fun k _ e => Or.inl e))
 clear t12 T11 f11 B11 U11
 clear c11_8 z11_8
 go_wp2_with fail
 refine (fnumber_c _ _ s E _ 4 4 rfl (by omega) hs f12).mono ?_
 rintro r w13 ⟨rfl, f13, t13⟩
 rw [fldTo_add] at f13
 have T13 := T12.trans t13
 have B13 := B12.keep t13 hne
 have U13 := U12.trans (t13.mono (fun k _ e => Or.inl e))
 clear t13 T12 f12 B12 U12
 go_wp2_with fail
 refine (fnumber_c _ _ s E _ 4 4 rfl (by omega) hs f13).mono ?_
 rintro r w14 ⟨rfl, f14, t14⟩
 rw [fldTo_add] at f14
 have T14 := T13.trans t14
 have B14 := B13.keep t14 hne
 have U14 := U13.trans (t14.mono (fun k _ e => Or.inl e))
 clear t14 T13 f13 B13 U13
 have c14_9 : w14.cell? ⟨w.heap.size + 1, 9, none⟩ = some (.int .i64 ((0 : Nat) : Int)) := B14.lst 9 (by omega)
 have z14_9 := B14.frozen 9
 have c14_11 : w14.cell? ⟨w.heap.size + 1, 11, none⟩ = some (.int .i64 ((0 : Nat) : Int)) := B14.lst 11 (by omega)
 have z14_11 := B14.frozen 11
 have B14s := ((B14.set 9 (.int .i64 (fldNum s E (fldTo E p 38) 4 : Nat)) { { { { { { ent0 with maker := fldNum s E (fldTo E p 4) 2 } with flags := fldNum s E (fldTo E p 8) 2 } with method := fldNum s E (fldTo E p 10) 2 } with three := fldOf s E (fldTo E p 16) 12 } with disk := fldNum s E (fldTo E p 34) 2 } with outer := fldNum s E (fldTo E p 38) 4 } (by omega) rfl).set 11 (.int .i64 (fldNum s E (fldTo E p 42) 4 : Nat)) { { { { { { { ent0 with maker := fldNum s E (fldTo E p 4) 2 } with flags := fldNum s E (fldTo E p 8) 2 } with method := fldNum s E (fldTo E p 10) 2 } with three := fldOf s E (fldTo E p 16) 12 } with disk := fldNum s E (fldTo E p 34) 2 } with outer := fldNum s E (fldTo E p 38) 4 } with ahead := fldNum s E (fldTo E p 42) 4 } (by omega) rfl)
 have f14s := ((f14.other (o := 9) (.int .i64 (fldNum s E (fldTo E p 38) 4 : Nat)) (fun e => hne e.symm)).other (o := 11) (.int .i64 (fldNum s E (fldTo E p 42) 4 : Nat)) (fun e => hne e.symm))
 have T14s := ((T14.setNew (p := ⟨w.heap.size + 1, 9, none⟩) hlb (.int .i64 (fldNum s E (fldTo E p 38) 4 : Nat))).setNew (p := ⟨w.heap.size + 1, 11, none⟩) hlb (.int .i64 (fldNum s E (fldTo E p 42) 4 : Nat)))
 have U14s := ((U14.setCell (p := ⟨w.heap.size + 1, 9, none⟩) (Or.inr rfl) (.int .i64 (fldNum s E (fldTo E p 38) 4 : Nat))).setCell (p := ⟨w.heap.size + 1, 11, none⟩) (Or.inr rfl) (.int .i64 (fldNum s E (fldTo E p 42) 4 : Nat)))
 clear B14 f14 T14 U14
 have B14 := B14s
 have f14 := f14s
 have T14 := T14s
 have U14 := U14s
 clear B14s f14s T14s U14s
 go_wp2_with fail
 refine (take_c _ _ s E _ _ _ rfl (by omega) hs f14).mono ?_
 rintro r w15 ⟨rfl, f15, t15⟩
 rw [fldTo_add] at f15
 have T15 := T14.trans t15
 have B15 := B14.keep t15 hne
 have U15 := U14.trans (t15.mono (fun k _ e => Or.inl e))
 clear t15 T14 f14 B14 U14
 clear c14_9 z14_9
 clear c14_11 z14_11
 have c15_0 : w15.cell? ⟨w.heap.size + 1, 0, none⟩ = some (.string ⟨#[]⟩) := B15.lst 0 (by omega)
 have z15_0 := B15.frozen 0
 have B15s := (B15.set 0 (.string (fldOf s E (fldTo E p 46) (fldNum s E (fldTo E p 28) 2))) { { { { { { { { ent0 with maker := fldNum s E (fldTo E p 4) 2 } with flags := fldNum s E (fldTo E p 8) 2 } with method := fldNum s E (fldTo E p 10) 2 } with three := fldOf s E (fldTo E p 16) 12 } with disk := fldNum s E (fldTo E p 34) 2 } with outer := fldNum s E (fldTo E p 38) 4 } with ahead := fldNum s E (fldTo E p 42) 4 } with name := fldOf s E (fldTo E p 46) (fldNum s E (fldTo E p 28) 2) } (by omega) rfl)
 have f15s := (f15.other (o := 0) (.string (fldOf s E (fldTo E p 46) (fldNum s E (fldTo E p 28) 2))) (fun e => hne e.symm))
 have T15s := (T15.setNew (p := ⟨w.heap.size + 1, 0, none⟩) hlb (.string (fldOf s E (fldTo E p 46) (fldNum s E (fldTo E p 28) 2))))
 have U15s := (U15.setCell (p := ⟨w.heap.size + 1, 0, none⟩) (Or.inr rfl) (.string (fldOf s E (fldTo E p 46) (fldNum s E (fldTo E p 28) 2))))
 clear B15 f15 T15 U15
 have B15 := B15s
 have f15 := f15s
 have T15 := T15s
 have U15 := U15s
 clear B15s f15s T15s U15s
 go_wp2_with fail
 refine (take_c _ _ s E _ _ _ rfl (by omega) hs f15).mono ?_
 rintro r w16 ⟨rfl, f16, t16⟩
 rw [fldTo_add] at f16
 have T16 := T15.trans t16
 have B16 := B15.keep t16 hne
 have U16 := U15.trans (t16.mono (fun k _ e => Or.inl e))
 clear t16 T15 f15 B15 U15
 clear c15_0 z15_0
 go_wp2_with fail
 refine (take_c _ _ s E _ _ _ rfl (by omega) hs f16).mono ?_
 rintro r w17 ⟨rfl, f17, t17⟩
 rw [fldTo_add] at f17
 have T17 := T16.trans t17
 have B17 := B16.keep t17 hne
 have U17 := U16.trans (t17.mono (fun k _ e => Or.inl e))
 clear t17 T16 f16 B16 U16
 have AW := HA.out.keep U17 (fun e => by rcases e with e | e <;> omega)
 have r1 := f17.short
 have a0 : w17.cell? ⟨w.heap.size, 0, none⟩ = some (.string ⟨#[]⟩) := AW.lst 0 (by omega)
 have y0 := AW.frozen 0
 have es0 := setCell_self w17 w.heap.size 0 _ a0
 have a1 : w17.cell? ⟨w.heap.size, 1, none⟩ = some (.int .i64 0) := AW.lst 1 (by omega)
 have y1 := AW.frozen 1
 have es1 := setCell_self w17 w.heap.size 1 _ a1
 have a2 : w17.cell? ⟨w.heap.size, 2, none⟩ = some (.int .u32 0) := AW.lst 2 (by omega)
 have y2 := AW.frozen 2
 have es2 := setCell_self w17 w.heap.size 2 _ a2
 have a3 : w17.cell? ⟨w.heap.size, 3, none⟩ = some (.int .i64 0) := AW.lst 3 (by omega)
 have y3 := AW.frozen 3
 have es3 := setCell_self w17 w.heap.size 3 _ a3
 have a4 : w17.cell? ⟨w.heap.size, 4, none⟩ = some (.int .i64 0) := AW.lst 4 (by omega)
 have y4 := AW.frozen 4
 have es4 := setCell_self w17 w.heap.size 4 _ a4
 have a5 : w17.cell? ⟨w.heap.size, 5, none⟩ = some (.int .i64 0) := AW.lst 5 (by omega)
 have y5 := AW.frozen 5
 have es5 := setCell_self w17 w.heap.size 5 _ a5
 have a6 : w17.cell? ⟨w.heap.size, 6, none⟩ = some (.int .i64 0) := AW.lst 6 (by omega)
 have y6 := AW.frozen 6
 have es6 := setCell_self w17 w.heap.size 6 _ a6
 have a7 : w17.cell? ⟨w.heap.size, 7, none⟩ = some (.int .i64 0) := AW.lst 7 (by omega)
 have y7 := AW.frozen 7
 have es7 := setCell_self w17 w.heap.size 7 _ a7
 have a8 : w17.cell? ⟨w.heap.size, 8, none⟩ = some (.int .i64 0) := AW.lst 8 (by omega)
 have y8 := AW.frozen 8
 have es8 := setCell_self w17 w.heap.size 8 _ a8
 have a9 : w17.cell? ⟨w.heap.size, 9, none⟩ = some (.int .i64 0) := AW.lst 9 (by omega)
 have y9 := AW.frozen 9
 have es9 := setCell_self w17 w.heap.size 9 _ a9
 have a10 : w17.cell? ⟨w.heap.size, 10, none⟩ = some (.string ⟨#[]⟩) := AW.lst 10 (by omega)
 have y10 := AW.frozen 10
 have es10 := setCell_self w17 w.heap.size 10 _ a10
 have a11 : w17.cell? ⟨w.heap.size, 11, none⟩ = some (.int .i64 0) := AW.lst 11 (by omega)
 have y11 := AW.frozen 11
 have es11 := setCell_self w17 w.heap.size 11 _ a11
 have a12 : w17.cell? ⟨w.heap.size, 12, none⟩ = some (.int .i64 0) := AW.lst 12 (by omega)
 have y12 := AW.frozen 12
 have es12 := setCell_self w17 w.heap.size 12 _ a12
 have HS : Hid ((fldTo E p (46 + fldNum s E (fldTo E p 28) 2 + fldNum s E (fldTo E p 30) 2 + fldNum s E (fldTo E p 32) 2)).isNone = true ∨ ((fldTo E p (46 + fldNum s E (fldTo E p 28) 2 + fldNum s E (fldTo E p 30) 2 + fldNum s E (fldTo E p 32) 2)).isNone = false ∧ ((fldOf s E p 4).toList == [80, 75, 1, 2]) = false)) := by
  have := HB.out
  unfold fitB at this
  cases hh : fldTo E p (46 + fldNum s E (fldTo E p 28) 2 + fldNum s E (fldTo E p 30) 2 + fldNum s E (fldTo E p 32) 2) with
  | none => exact .inl rfl
  | some q => rw [hh] at this; exact .inr ⟨rfl, by simpa using this⟩
 clear HB HA AW f17 B17 U17
 rcases HS.out with h1 | ⟨h1, h2⟩
 ·rw [h1] at r1
  clear HS
  go_wp2
  refine bodyPost_ret (v := .tuple #[.agg #[.string ⟨#[]⟩, .int .i64 0, .int .u32 0, .int .i64 0, .int .i64 0, .int .i64 0, .int .i64 0, .int .i64 0, .int .i64 0, .int .i64 0, .string ⟨#[]⟩, .int .i64 0, .int .i64 0], .bool false]) (by simp [results, Tryz.results48, go_sem, a0, a1, a2, a3, a4, a5, a6, a7, a8, a9, a10, a11, a12]) rfl ⟨T17, rfl⟩
 ·rw [h1] at r1
  clear HS
  go_wp2
  refine bodyPost_ret (v := .tuple #[.agg #[.string ⟨#[]⟩, .int .i64 0, .int .u32 0, .int .i64 0, .int .i64 0, .int .i64 0, .int .i64 0, .int .i64 0, .int .i64 0, .int .i64 0, .string ⟨#[]⟩, .int .i64 0, .int .i64 0], .bool false]) (by simp [results, Tryz.results48, go_sem, a0, a1, a2, a3, a4, a5, a6, a7, a8, a9, a10, a11, a12]) rfl ⟨T17, rfl⟩
end Go.Proofs.YtnmkmmgaoplfiaaGreatDoor
namespace Go.Proofs.YtnmkmmgaoplfiaaGreatDoor
open Go.RowKit
theorem fldTo_in (E p k : Nat) (h : p + k ≤ E) : fldTo E (some p) k = some (p + k) := by simp [fldTo, h]
theorem fldTo_out (E p k : Nat) (h : ¬ p + k ≤ E) : fldTo E (some p) k = none := by simp [fldTo, h]
theorem fldOf_in (s : ByteArray) (E p k m : Nat) (h : p + k + m ≤ E) : fldOf s E (fldTo E (some p) k) m = s.extract (p + k) (p + k + m) := by
 unfold fldOf; rw [fldTo_add, fldTo_in E p (k + m) (by omega)]; simp only; congr 1 <;> omega
theorem fldNum_in (s : ByteArray) (E p k m : Nat) (hE : E ≤ s.size) (h : p + k + m ≤ E) : fldNum s E (fldTo E (some p) k) m = numIn s (p + k) m := by
 rw [fldTo_in E p k (by omega)]; exact fldNum_some s E _ m hE h
theorem fldOf_zero (s : ByteArray) (E p m : Nat) (h : p + m ≤ E) : fldOf s E (some p) m = s.extract p (p + m) := by
 have := fldOf_in s E p 0 m (by omega)
 rw [fldTo_in E p 0 (by omega)] at this; exact this
@[reducible] def FitP (s : ByteArray) (E p : Nat) : Prop := p + 46 ≤ E ∧ p + 46 + numIn s (p + 28) 2 + numIn s (p + 30) 2 + numIn s (p + 32) 2 ≤ E ∧ markB s p 1 2 = true
theorem fit_iff (s : ByteArray) (E p : Nat) (hE : E ≤ s.size) : fitB s E (some p) = true ↔ FitP s E p := by
 unfold fitB FitP
 by_cases h46 : p + 46 ≤ E
 ·rw [fldNum_in s E p 28 2 hE (by omega), fldNum_in s E p 30 2 hE (by omega), fldNum_in s E p 32 2 hE (by omega), fldOf_zero s E p 4 (by omega)]
  have e : (decide ((s.extract p (p + 4)).toList = [80, 75, 1, 2])) = markB s p 1 2 := rfl
  rw [e]
  by_cases hf : p + 46 + numIn s (p + 28) 2 + numIn s (p + 30) 2 + numIn s (p + 32) 2 ≤ E
  ·rw [fldTo_in E p _ (by omega)]
   simp [h46, hf]
  ·rw [fldTo_out E p _ (by omega)]
   simp [hf]
 ·rw [fldTo_out E p _ (by omega)]
  simp [h46]
theorem entAt_none (s : ByteArray) (E p : Nat) (h : ¬ FitP s E p) : entAt s E p = none := by
 unfold entAt
 simp only
 rw [if_neg (show ¬ (_ ∧ _ ∧ _) from h)]
theorem entAt_fit (s : ByteArray) (E p : Nat) (h : FitP s E p) (cur : Nat → Nat) (h0 : cur 0 = numIn s (p + 24) 4) (h1 : cur 1 = numIn s (p + 20) 4) (h2 : cur 2 = numIn s (p + 42) 4) :
  entAt s E p = ((wideGo s (p + 46 + numIn s (p + 28) 2 + numIn s (p + 30) 2) (numIn s (p + 30) 2 + 1) (p + 46 + numIn s (p + 28) 2) none).bind fun fo => mGo s (fo.getD (0, 0)).2 3 0 (fo.getD (0, 0)).1 cur).map fun d =>
   (⟨s.extract (p + 46) (p + 46 + numIn s (p + 28) 2), numIn s (p + 10) 2, numIn s (p + 16) 4, d 1, d 0, d 2, numIn s (p + 4) 2, numIn s (p + 8) 2, numIn s (p + 34) 2, numIn s (p + 38) 4, s.extract (p + 16) (p + 28)⟩, p + 46 + numIn s (p + 28) 2 + numIn s (p + 30) 2 + numIn s (p + 32) 2) := by
 unfold entAt
 simp only
 rw [if_pos (show _ ∧ _ ∧ _ from h)]
 cases wideGo s (p + 46 + numIn s (p + 28) 2 + numIn s (p + 30) 2) (numIn s (p + 30) 2 + 1) (p + 46 + numIn s (p + 28) 2) none with
 | none => rfl
 | some fo =>
  simp only [Option.bind_some]
  rw [mGo_all s (fo.getD (0, 0)).1 (fo.getD (0, 0)).2 _ _ _ cur h0 h1 h2]
  cases mGo s (fo.getD (0, 0)).2 3 0 (fo.getD (0, 0)).1 cur with
  | none => rfl
  | some d => rfl
theorem fields_fit (s : ByteArray) (E p : Nat) (hE : E ≤ s.size) (h : FitP s E p) :
  fldNum s E (fldTo E (some p) 4) 2 = numIn s (p + 4) 2 ∧ fldNum s E (fldTo E (some p) 8) 2 = numIn s (p + 8) 2 ∧ fldNum s E (fldTo E (some p) 10) 2 = numIn s (p + 10) 2
   ∧ fldOf s E (fldTo E (some p) 16) 12 = s.extract (p + 16) (p + 28) ∧ fldNum s E (fldTo E (some p) 28) 2 = numIn s (p + 28) 2 ∧ fldNum s E (fldTo E (some p) 30) 2 = numIn s (p + 30) 2
   ∧ fldNum s E (fldTo E (some p) 32) 2 = numIn s (p + 32) 2 ∧ fldNum s E (fldTo E (some p) 34) 2 = numIn s (p + 34) 2 ∧ fldNum s E (fldTo E (some p) 38) 4 = numIn s (p + 38) 4
   ∧ fldNum s E (fldTo E (some p) 42) 4 = numIn s (p + 42) 4 ∧ fldOf s E (fldTo E (some p) 46) (numIn s (p + 28) 2) = s.extract (p + 46) (p + 46 + numIn s (p + 28) 2)
   ∧ fldOf s E (fldTo E (some p) (46 + numIn s (p + 28) 2)) (numIn s (p + 30) 2) = s.extract (p + 46 + numIn s (p + 28) 2) (p + 46 + numIn s (p + 28) 2 + numIn s (p + 30) 2)
   ∧ fldTo E (some p) (46 + numIn s (p + 28) 2 + numIn s (p + 30) 2 + numIn s (p + 32) 2) = some (p + 46 + numIn s (p + 28) 2 + numIn s (p + 30) 2 + numIn s (p + 32) 2)
   ∧ (fldOf s E (some p) 4).toList = [80, 75, 1, 2] := by
 obtain ⟨a, b, c⟩ := h
 refine ⟨fldNum_in s E p 4 2 hE (by omega), fldNum_in s E p 8 2 hE (by omega), fldNum_in s E p 10 2 hE (by omega), fldOf_in s E p 16 12 (by omega), fldNum_in s E p 28 2 hE (by omega), fldNum_in s E p 30 2 hE (by omega), fldNum_in s E p 32 2 hE (by omega), fldNum_in s E p 34 2 hE (by omega), fldNum_in s E p 38 4 hE (by omega), fldNum_in s E p 42 4 hE (by omega), fldOf_in s E p 46 _ (by omega), ?_, ?_, ?_⟩
 ·rw [fldOf_in s E p (46 + numIn s (p + 28) 2) _ (by omega)]; congr 1 <;> omega
 ·rw [fldTo_in E p _ (by omega)]; congr 1; omega
 ·rw [fldOf_zero s E p 4 (by omega)]; unfold markB at c; simpa using c
theorem listed_bad (s : ByteArray) (E rb p : Nat) (hE : E ≤ s.size) (h : fitB s E (some p) = false) (w' : World) : listedPost s E rb p (.returned (.tuple #[.agg #[.string ⟨#[]⟩, .int .i64 0, .int .u32 0, .int .i64 0, .int .i64 0, .int .i64 0, .int .i64 0, .int .i64 0, .int .i64 0, .int .i64 0, .string ⟨#[]⟩, .int .i64 0, .int .i64 0], .bool false])) w' := by
 unfold listedPost
 rw [entAt_none s E p (fun hf => by rw [(fit_iff s E p hE).2 hf] at h; cases h)]
 exact ⟨ent0, 0, 0, rfl⟩
end Go.Proofs.YtnmkmmgaoplfiaaGreatDoor
namespace Go.Proofs.YtnmkmmgaoplfiaaGreatDoor
open Go.RowKit
end Go.Proofs.YtnmkmmgaoplfiaaGreatDoor
namespace Go.Proofs.YtnmkmmgaoplfiaaGreatDoor
open Go.RowKit Go.Shelf Go.Lib
end Go.Proofs.YtnmkmmgaoplfiaaGreatDoor
namespace Go.Proofs.YtnmkmmgaoplfiaaGreatDoor
open Go.RowKit Go.Shelf Go.Lib
end Go.Proofs.YtnmkmmgaoplfiaaGreatDoor
namespace Go.Proofs.YtnmkmmgaoplfiaaGreatDoor
open Go.RowKit Go.Shelf Go.Lib
end Go.Proofs.YtnmkmmgaoplfiaaGreatDoor
