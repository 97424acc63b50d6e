/- Texts of this seat, joined. -/
import Derived.Test.YtnmkmmgaoplfiaaGreatDoorJ43
import Derived.Test.YtnmkmmgaoplfiaaGreatDoorJ29
import Derived.Test.YtnmkmmgaoplfiaaGreatDoorJ23
import Derived.Test.YtnmkmmgaoplfiaaGreatDoorJ21
set_option linter.unusedSimpArgs false
set_option linter.unusedVariables false
set_option maxRecDepth 100000
set_option maxHeartbeats 20000000
namespace Go.Proofs.YtnmkmmgaoplfiaaGreatDoor
open Go.RowKit Go.Shelf
theorem partsGo_split : ∀ (u v q : List UInt8), partsGo (u ++ 47 :: v) q = partsGo u q ++ partsGo v []
 | [], v, q => by simp [partsGo]
 | c :: u, v, q => by
  rw [List.cons_append]
  by_cases h : c = 47
  ·rw [partsGo, if_pos h, partsGo, if_pos h, partsGo_split u v []]; rfl
  ·rw [partsGo, if_neg h, partsGo, if_neg h]; exact partsGo_split u v (q ++ [c])
theorem allp_parts {L : List Spanned} (hn : ∀ x ∈ L, nameOk x.ent.name = true) {p : ByteArray} (h : AllP L p) : ∀ x ∈ partsGo (bareL p) [], partOk x = true := by
 obtain ⟨y, hy, ⟨_, rfl⟩ | ⟨k, hk, rfl⟩⟩ := h
 ·have h1 := hn y hy
  unfold nameOk at h1
  simp only [Bool.and_eq_true, List.all_eq_true] at h1
  exact h1.2
 ·have h1 := hn y hy
  unfold nameOk at h1
  simp only [Bool.and_eq_true, List.all_eq_true] at h1
  have h2 := (fol_folder y.ent.name.data.toList k hk).2
  rw [h2]
  obtain ⟨h3, h4⟩ := bare_at y.ent.name k hk
  rw [h4]
  intro x hx
  refine h1.2 x ?_
  rcases h3 with h3 | h3
  ·have hlt : k < (bareL y.ent.name).length := (List.getElem?_eq_some_iff.1 h3).1
   have e : bareL y.ent.name = (bareL y.ent.name).take k ++ 47 :: (bareL y.ent.name).drop (k + 1) := by
    have e1 := List.drop_eq_getElem_cons hlt
    rw [List.getElem?_eq_getElem hlt] at h3
    rw [Option.some.inj h3] at e1
    rw [← e1, List.take_append_drop]
   rw [e, partsGo_split]
   exact List.mem_append_left _ hx
  ·rw [List.take_of_length_le (by omega)] at hx
   exact hx
end Go.Proofs.YtnmkmmgaoplfiaaGreatDoor
namespace Go.Proofs.YtnmkmmgaoplfiaaGreatDoor
open Go.RowKit
theorem quiet_draw {P : Program} {f : FuncId} {args : Array Value} {w : World} {n : Nat} {v : Value} (h : Calls P f args (w.drewN n) fun e w' => e = .returned v ∧ ∃ z, w' = (w.drewN n).drewN z) : Calls P f args (w.drewN n) fun e w'' => e = .returned v ∧ ∃ m, w'' = w.drewN m :=
 h.mono fun _ _ ⟨a, z, b⟩ => ⟨a, n + z, by rw [b, World.drewN_drewN]⟩
theorem quota_new (w : World) (x y z : Value) (t : TypeId) : (w.alloc (Obj.cells #[x, y, z] t)).cell? ⟨w.heap.size, 0, none⟩ = some x ∧ (w.alloc (Obj.cells #[x, y, z] t)).cell? ⟨w.heap.size, 1, none⟩ = some y ∧ (w.alloc (Obj.cells #[x, y, z] t)).cell? ⟨w.heap.size, 2, none⟩ = some z := by
 have hb := heap_alloc_new w (Obj.cells #[x, y, z] t)
 refine ⟨?_, ?_, ?_⟩ <;> rw [row_cell hb] <;> rfl
theorem cells_new (w : World) (l : List Value) (t : TypeId) : ∀ (j : Nat) (v : Value), l[j]? = some v → (w.alloc (Obj.cells l.toArray t)).cell? ⟨w.heap.size, j, none⟩ = some v := fun j v h => by
 rw [row_cell (heap_alloc_new w _)]; simpa using h
theorem filesAt_kept {w w' : World} {g : Nat} {o : List Fil} (h : FilesAt w g o) (t : Touch (fun _ => False) w w') : FilesAt w' g o := fun i hi => ⟨t.at (h i hi).1 (fun e => e), t.at (h i hi).2 (fun e => e)⟩
theorem cmpP_take : ∀ (l : List UInt8) (n : Nat), n < l.length → cmpP (l.take n) l < 0
 | [], n, h => by simp at h
 | c :: l, 0, _ => by simp [cmpP]
 | c :: l, n + 1, h => by
  rw [List.take_succ_cons, cmpP, if_pos rfl]
  exact cmpP_take l n (by simpa using h)
theorem told_up {s : ByteArray} {L : List Spanned} {o : List Fil} (h : ToldOk s L o) (i : Nat) (hi : i < o.length) (k : Nat) (hk : o[i].1.data.toList[k]? = some 47) (hlt : k + 1 < o[i].1.size) : ∃ d, findOf (o.take i) (o[i].1.extract 0 (k + 1)) = some d := by
 obtain ⟨g, hg, e⟩ := h.fols o[i] (List.getElem_mem hi) k hk
 obtain ⟨j, hj, rfl⟩ := List.getElem_of_mem hg
 have hl : o[i].1.data.toList.length = o[i].1.size := Array.length_toList
 have hc : cmpP o[j].1.data.toList o[i].1.data.toList < 0 := by rw [e]; exact cmpP_take _ _ (by omega)
 have hji : j < i := by
  apply Classical.byContradiction
  intro hn
  rcases Nat.lt_or_ge i j with hh | hh
  ·have h1 := List.pairwise_iff_getElem.1 h.srt i j hi hj hh
   have h2 := cmpP_swap o[i].1.data.toList o[j].1.data.toList
   omega
  ·obtain rfl : i = j := by omega
   rw [cmpP_self] at hc; omega
 have hm : o[j] ∈ o.take i := by
  rw [List.mem_take_iff_getElem]
  exact ⟨j, by omega, rfl⟩
 obtain ⟨d, hd⟩ := findOf_mem (o.take i) o[j] hm
 have e2 : o[j].1 = o[i].1.extract 0 (k + 1) := byte_ext (by
  rw [e, ByteArray.data_extract, Array.toList_extract, List.extract_eq_take_drop]
  simp)
 exact ⟨d, by rw [← e2]; exact hd⟩
theorem allp_size {L : List Spanned} (hn : ∀ x ∈ L, NoNul x.ent.name.data.toList ∧ x.ent.name.size ≤ 60) {p : ByteArray} (h : AllP L p) : NoNul p.data.toList ∧ p.size ≤ 60 := by
 obtain ⟨y, hy, ⟨_, rfl⟩ | ⟨k, hk, rfl⟩⟩ := h
 ·exact hn y hy
 ·obtain ⟨h1, h2⟩ := hn y hy
  have hl : (folOf (y.ent.name.data.toList.take (k + 1))).1.data.toList.length = (folOf (y.ent.name.data.toList.take (k + 1))).1.size := Array.length_toList
  have hl2 : y.ent.name.data.toList.length = y.ent.name.size := Array.length_toList
  rw [fol_list] at hl ⊢
  rw [List.length_take] at hl
  exact ⟨fun c hc => h1 c (List.mem_of_mem_take hc), by omega⟩
structure UpOk (o : List Fil) : Prop where
 small : ∀ i (h : i < o.length), NoNul o[i].1.data.toList ∧ o[i].1.size ≤ 60
 parts : ∀ i (h : i < o.length), ∀ x ∈ partsGo (bareL o[i].1) [], partOk x = true
 up : ∀ i (h : i < o.length), ∀ k (hk : k + 1 < o[i].1.size), o[i].1[k] = 47 → ∃ d, findOf (o.take i) (o[i].1.extract 0 (k + 1)) = some d
 srt : ∀ i (h : i + 1 < o.length), cmpP o[i].1.data.toList o[i + 1].1.data.toList < 0
theorem up_ok {s : ByteArray} {L : List Spanned} {o : List Fil} (h : ToldOk s L o) (hn : ∀ x ∈ L, nameOk x.ent.name = true) (hs : ∀ x ∈ L, NoNul x.ent.name.data.toList ∧ x.ent.name.size ≤ 60) : UpOk o := by
 refine ⟨fun i hi => allp_size hs (h.all _ (List.getElem_mem hi)), fun i hi => allp_parts hn (h.all _ (List.getElem_mem hi)), fun i hi k hk hc => told_up h i hi k ?_ hk, fun i hi => List.pairwise_iff_getElem.1 h.srt i (i + 1) (by omega) hi (by omega)⟩
 have hl : o[i].1.data.toList.length = o[i].1.size := Array.length_toList
 rw [List.getElem?_eq_getElem (by omega)]
 exact congrArg some hc
end Go.Proofs.YtnmkmmgaoplfiaaGreatDoor
namespace Go.Proofs.YtnmkmmgaoplfiaaGreatDoor
open Go.RowKit Go.Shelf Go.Lib
def cur3 (z k a : Nat) (j : Nat) : Nat := if j = 0 then z else if j = 1 then k else a
theorem takeListed_good (w : World) (rb : Nat) (s : ByteArray) (E p0 : Nat) (p : Option Nat) (hp : p = some p0) (hr : FR w rb s E p) (hs : s.size ≤ 140737488355328) (hfit : FitP s E p0) :
  Calls Tryz.prog 48 #[.pointer (some ⟨rb, 0, none⟩)] w fun r w' => Touch (fun k => k = rb) w w' ∧ listedPost s E rb p0 r w' := by
 have hE := hr.size
 have hrl := World.block_lt_of_cell? w _ hr.rest
 have hne : ¬ w.heap.size + 1 = rb := fun e => by have : rb < w.heap.size := hrl; omega
 have hne0 : ¬ w.heap.size = rb := fun e => by have : rb < w.heap.size := hrl; omega
 have HB : Hid (p = some p0 ∧ FitP s E p0) := ⟨hp, hfit⟩
 have A0 := LB.new w
 have A1 := A0.keep ((Touch.refl (fun _ => False) _).alloc (Obj.cells #[.string ⟨#[]⟩, .int .i64 0, .int .u32 0, .int .i64 0, .int .i64 0, .int .i64 0, .int .i64 0, .int .i64 0, .int .i64 0, .int .i64 0, .string ⟨#[]⟩, .int .i64 0, .int .i64 0] 125)) (fun e => e)
 have B0 := LB.new (w.alloc (Obj.cells #[.string ⟨#[]⟩, .int .i64 0, .int .u32 0, .int .i64 0, .int .i64 0, .int .i64 0, .int .i64 0, .int .i64 0, .int .i64 0, .int .i64 0, .string ⟨#[]⟩, .int .i64 0, .int .i64 0] 125))
 rw [World.size_alloc] at B0
 have U0 : Touch (fun k => k = rb ∨ k = w.heap.size + 1) ((w.alloc (Obj.cells #[.string ⟨#[]⟩, .int .i64 0, .int .u32 0, .int .i64 0, .int .i64 0, .int .i64 0, .int .i64 0, .int .i64 0, .int .i64 0, .int .i64 0, .string ⟨#[]⟩, .int .i64 0, .int .i64 0] 125)).alloc (Obj.cells #[.string ⟨#[]⟩, .int .i64 0, .int .u32 0, .int .i64 0, .int .i64 0, .int .i64 0, .int .i64 0, .int .i64 0, .int .i64 0, .int .i64 0, .string ⟨#[]⟩, .int .i64 0, .int .i64 0] 125)) ((w.alloc (Obj.cells #[.string ⟨#[]⟩, .int .i64 0, .int .u32 0, .int .i64 0, .int .i64 0, .int .i64 0, .int .i64 0, .int .i64 0, .int .i64 0, .int .i64 0, .string ⟨#[]⟩, .int .i64 0, .int .i64 0] 125)).alloc (Obj.cells #[.string ⟨#[]⟩, .int .i64 0, .int .u32 0, .int .i64 0, .int .i64 0, .int .i64 0, .int .i64 0, .int .i64 0, .int .i64 0, .int .i64 0, .string ⟨#[]⟩, .int .i64 0, .int .i64 0] 125)) := Touch.refl _ _
 have HA : Hid (LB ((w.alloc (Obj.cells #[.string ⟨#[]⟩, .int .i64 0, .int .u32 0, .int .i64 0, .int .i64 0, .int .i64 0, .int .i64 0, .int .i64 0, .int .i64 0, .int .i64 0, .string ⟨#[]⟩, .int .i64 0, .int .i64 0] 125)).alloc (Obj.cells #[.string ⟨#[]⟩, .int .i64 0, .int .u32 0, .int .i64 0, .int .i64 0, .int .i64 0, .int .i64 0, .int .i64 0, .int .i64 0, .int .i64 0, .string ⟨#[]⟩, .int .i64 0, .int .i64 0] 125)) w.heap.size ent0) := A1
 have T0 : Touch (fun k => k = rb) w ((w.alloc (Obj.cells #[.string ⟨#[]⟩, .int .i64 0, .int .u32 0, .int .i64 0, .int .i64 0, .int .i64 0, .int .i64 0, .int .i64 0, .int .i64 0, .int .i64 0, .string ⟨#[]⟩, .int .i64 0, .int .i64 0] 125)).alloc (Obj.cells #[.string ⟨#[]⟩, .int .i64 0, .int .u32 0, .int .i64 0, .int .i64 0, .int .i64 0, .int .i64 0, .int .i64 0, .int .i64 0, .int .i64 0, .string ⟨#[]⟩, .int .i64 0, .int .i64 0] 125)) := ((Touch.refl _ w).alloc _).alloc _
 have f0 := (hr.keep ((Touch.refl (fun _ => False) w).alloc (Obj.cells #[.string ⟨#[]⟩, .int .i64 0, .int .u32 0, .int .i64 0, .int .i64 0, .int .i64 0, .int .i64 0, .int .i64 0, .int .i64 0, .int .i64 0, .string ⟨#[]⟩, .int .i64 0, .int .i64 0] 125)) (fun e => e)).keep ((Touch.refl (fun _ => False) _).alloc (Obj.cells #[.string ⟨#[]⟩, .int .i64 0, .int .u32 0, .int .i64 0, .int .i64 0, .int .i64 0, .int .i64 0, .int .i64 0, .int .i64 0, .int .i64 0, .string ⟨#[]⟩, .int .i64 0, .int .i64 0] 125)) (fun e => e)
 clear A0 A1
 have n1 := fldNum_lt s E (fldTo E p 28) 2 hE
 have n2 := fldNum_lt s E (fldTo E p 30) 2 hE
 have n3 := fldNum_lt s E (fldTo E p 32) 2 hE
 have hlb : w.heap.size ≤ w.heap.size + 1 := by omega
 clear hfit hp hr
 go_enter Tryz.func48, Tryz.ntmps48
 go_wp2_with fail
 refine (take_c _ _ s E _ 4 4 rfl (by omega) hs f0).mono ?_
 rintro r w1 ⟨rfl, f1, t1⟩
 have T1 := T0.trans t1
 have B1 := B0.keep t1 hne
 have U1 := U0.trans (t1.mono (fun k _ e => Or.inl e))
 clear t1 T0 f0 B0 U0
 go_wp2_with fail
 refine (fnumber_c _ _ s E _ 2 2 rfl (by omega) hs f1).mono ?_
 rintro r w2 ⟨rfl, f2, t2⟩
 rw [fldTo_add] at f2
 have T2 := T1.trans t2
 have B2 := B1.keep t2 hne
 have U2 := U1.trans (t2.mono (fun k _ e => Or.inl e))
 clear t2 T1 f1 B1 U1
 have c2_6 : w2.cell? ⟨w.heap.size + 1, 6, none⟩ = some (.int .i64 ((0 : Nat) : Int)) := B2.lst 6 (by omega)
 have z2_6 := B2.frozen 6
 have B2s := (B2.set 6 (.int .i64 (fldNum s E (fldTo E p 4) 2 : Nat)) { ent0 with maker := fldNum s E (fldTo E p 4) 2 } (by omega) rfl)
 have f2s := (f2.other (o := 6) (.int .i64 (fldNum s E (fldTo E p 4) 2 : Nat)) (fun e => hne e.symm))
 have T2s := (T2.setNew (p := ⟨w.heap.size + 1, 6, none⟩) hlb (.int .i64 (fldNum s E (fldTo E p 4) 2 : Nat)))
 have U2s := (U2.setCell (p := ⟨w.heap.size + 1, 6, none⟩) (Or.inr rfl) (.int .i64 (fldNum s E (fldTo E p 4) 2 : Nat)))
 clear B2 f2 T2 U2
 have B2 := B2s
 have f2 := f2s
 have T2 := T2s
 have U2 := U2s
 clear B2s f2s T2s U2s
 go_wp2_with fail
 refine (take_c _ _ s E _ 2 2 rfl (by omega) hs f2).mono ?_
 rintro r w3 ⟨rfl, f3, t3⟩
 rw [fldTo_add] at f3
 have T3 := T2.trans t3
 have B3 := B2.keep t3 hne
 have U3 := U2.trans (t3.mono (fun k _ e => Or.inl e))
 clear t3 T2 f2 B2 U2
 clear c2_6 z2_6
 go_wp2_with fail
 refine (fnumber_c _ _ s E _ 2 2 rfl (by omega) hs f3).mono ?_
 rintro r w4 ⟨rfl, f4, t4⟩
 rw [fldTo_add] at f4
 have T4 := T3.trans t4
 have B4 := B3.keep t4 hne
 have U4 := U3.trans (t4.mono (fun k _ e => Or.inl e))
 clear t4 T3 f3 B3 U3
 go_wp2_with fail
 refine (fnumber_c _ _ s E _ 2 2 rfl (by omega) hs f4).mono ?_
 rintro r w5 ⟨rfl, f5, t5⟩
 rw [fldTo_add] at f5
 have T5 := T4.trans t5
 have B5 := B4.keep t5 hne
 have U5 := U4.trans (t5.mono (fun k _ e => Or.inl e))
 clear t5 T4 f4 B4 U4
 have c5_7 : w5.cell? ⟨w.heap.size + 1, 7, none⟩ = some (.int .i64 ((0 : Nat) : Int)) := B5.lst 7 (by omega)
 have z5_7 := B5.frozen 7
 have c5_1 : w5.cell? ⟨w.heap.size + 1, 1, none⟩ = some (.int .i64 ((0 : Nat) : Int)) := B5.lst 1 (by omega)
 have z5_1 := B5.frozen 1
 have B5s := ((B5.set 7 (.int .i64 (fldNum s E (fldTo E p 8) 2 : Nat)) { { ent0 with maker := fldNum s E (fldTo E p 4) 2 } with flags := fldNum s E (fldTo E p 8) 2 } (by omega) rfl).set 1 (.int .i64 (fldNum s E (fldTo E p 10) 2 : Nat)) { { { ent0 with maker := fldNum s E (fldTo E p 4) 2 } with flags := fldNum s E (fldTo E p 8) 2 } with method := fldNum s E (fldTo E p 10) 2 } (by omega) rfl)
 have f5s := ((f5.other (o := 7) (.int .i64 (fldNum s E (fldTo E p 8) 2 : Nat)) (fun e => hne e.symm)).other (o := 1) (.int .i64 (fldNum s E (fldTo E p 10) 2 : Nat)) (fun e => hne e.symm))
 have T5s := ((T5.setNew (p := ⟨w.heap.size + 1, 7, none⟩) hlb (.int .i64 (fldNum s E (fldTo E p 8) 2 : Nat))).setNew (p := ⟨w.heap.size + 1, 1, none⟩) hlb (.int .i64 (fldNum s E (fldTo E p 10) 2 : Nat)))
 have U5s := ((U5.setCell (p := ⟨w.heap.size + 1, 7, none⟩) (Or.inr rfl) (.int .i64 (fldNum s E (fldTo E p 8) 2 : Nat))).setCell (p := ⟨w.heap.size + 1, 1, none⟩) (Or.inr rfl) (.int .i64 (fldNum s E (fldTo E p 10) 2 : Nat)))
 clear B5 f5 T5 U5
 have B5 := B5s
 have f5 := f5s
 have T5 := T5s
 have U5 := U5s
 clear B5s f5s T5s U5s
 go_wp2_with fail
 refine (take_c _ _ s E _ 4 4 rfl (by omega) hs f5).mono ?_
 rintro r w6 ⟨rfl, f6, t6⟩
 rw [fldTo_add] at f6
 have T6 := T5.trans t6
 have B6 := B5.keep t6 hne
 have U6 := U5.trans (t6.mono (fun k _ e => Or.inl e))
 clear t6 T5 f5 B5 U5
 clear c5_7 z5_7
 clear c5_1 z5_1
 go_wp2_with fail
 refine (take_c _ _ s E _ 12 12 rfl (by omega) hs f6).mono ?_
 rintro r w7 ⟨rfl, f7, t7⟩
 rw [fldTo_add] at f7
 have T7 := T6.trans t7
 have B7 := B6.keep t7 hne
 have U7 := U6.trans (t7.mono (fun k _ e => Or.inl e))
 clear t7 T6 f6 B6 U6
 have c7_10 : w7.cell? ⟨w.heap.size + 1, 10, none⟩ = some (.string ⟨#[]⟩) := B7.lst 10 (by omega)
 have z7_10 := B7.frozen 10
 have B7s := (B7.set 10 (.string (fldOf s E (fldTo E p 16) 12)) { { { { ent0 with maker := fldNum s E (fldTo E p 4) 2 } with flags := fldNum s E (fldTo E p 8) 2 } with method := fldNum s E (fldTo E p 10) 2 } with three := fldOf s E (fldTo E p 16) 12 } (by omega) rfl)
 have f7s := (f7.other (o := 10) (.string (fldOf s E (fldTo E p 16) 12)) (fun e => hne e.symm))
 have T7s := (T7.setNew (p := ⟨w.heap.size + 1, 10, none⟩) hlb (.string (fldOf s E (fldTo E p 16) 12)))
 have U7s := (U7.setCell (p := ⟨w.heap.size + 1, 10, none⟩) (Or.inr rfl) (.string (fldOf s E (fldTo E p 16) 12)))
 clear B7 f7 T7 U7
 have B7 := B7s
 have f7 := f7s
 have T7 := T7s
 have U7 := U7s
 clear B7s f7s T7s U7s
 go_wp2_with fail
 refine (fnumber_c _ _ s E _ 2 2 rfl (by omega) hs f7).mono ?_
 rintro r w8 ⟨rfl, f8, t8⟩
 rw [fldTo_add] at f8
 have T8 := T7.trans t8
 have B8 := B7.keep t8 hne
 have U8 := U7.trans (t8.mono (fun k _ e => Or.inl e))
 clear t8 T7 f7 B7 U7
 clear c7_10 z7_10
 go_wp2_with fail
 refine (fnumber_c _ _ s E _ 2 2 rfl (by omega) hs f8).mono ?_
 rintro r w9 ⟨rfl, f9, t9⟩
 rw [fldTo_add] at f9
 have T9 := T8.trans t9
 have B9 := B8.keep t9 hne
 have U9 := U8.trans (t9.mono (fun k _ e => Or.inl e))
 clear t9 T8 f8 B8 U8
 go_wp2_with fail
 refine (fnumber_c _ _ s E _ 2 2 rfl (by omega) hs f9).mono ?_
 rintro r w10 ⟨rfl, f10, t10⟩
 rw [fldTo_add] at f10
 have T10 := T9.trans t10
 have B10 := B9.keep t10 hne
 have U10 := U9.trans (t10.mono (fun k _ e => Or.inl e))
 clear t10 T9 f9 B9 U9
 go_wp2_with fail
 refine (fnumber_c _ _ s E _ 2 2 rfl (by omega) hs f10).mono ?_
 rintro r w11 ⟨rfl, f11, t11⟩
 rw [fldTo_add] at f11
 have T11 := T10.trans t11
 have B11 := B10.keep t11 hne
 have U11 := U10.trans (t11.mono (fun k _ e => Or.inl e))
 clear t11 T10 f10 B10 U10
 have c11_8 : w11.cell? ⟨w.heap.size + 1, 8, none⟩ = some (.int .i64 ((0 : Nat) : Int)) := B11.lst 8 (by omega)
 have z11_8 := B11.frozen 8
 have B11s := (B11.set 8 (.int .i64 (fldNum s E (fldTo E p 34) 2 : Nat)) { { { { { ent0 with maker := fldNum s E (fldTo E p 4) 2 } with flags := fldNum s E (fldTo E p 8) 2 } with method := fldNum s E (fldTo E p 10) 2 } with three := fldOf s E (fldTo E p 16) 12 } with disk := fldNum s E (fldTo E p 34) 2 } (by omega) rfl)
 have f11s := (f11.other (o := 8) (.int .i64 (fldNum s E (fldTo E p 34) 2 : Nat)) (fun e => hne e.symm))
 have T11s := (T11.setNew (p := ⟨w.heap.size + 1, 8, none⟩) hlb (.int .i64 (fldNum s E (fldTo E p 34) 2 : Nat)))
 have U11s := (U11.setCell (p := ⟨w.heap.size + 1, 8, none⟩) (Or.inr rfl) (.int .i64 (fldNum s E (fldTo E p 34) 2 : Nat)))
 clear B11 f11 T11 U11
 have B11 := B11s
 have f11 := f11s
 have T11 := T11s
 have U11 := U11s
 clear B11s f11s T11s U11s
 go_wp2_with fail
 refine (take_c _ _ s E _ 2 2 rfl (by omega) hs f11).mono ?_
 rintro r w12 ⟨rfl, f12, t12⟩
 rw [fldTo_add] at f12
 have T12 := T11.trans t12
 have B12 := B11.keep t12 hne
 have U12 := U11.trans (t12.mono (fun k _ e => Or.inl e))
 clear t12 T11 f11 B11 U11
 clear c11_8 z11_8
 go_wp2_with fail
 refine (fnumber_c _ _ s E _ 4 4 rfl (by omega) hs f12).mono ?_
 rintro r w13 ⟨rfl, f13, t13⟩
 rw [fldTo_add] at f13
 have T13 := T12.trans t13
 have B13 := B12.keep t13 hne
 have U13 := U12.trans (t13.mono (fun k _ e => Or.inl e))
 clear t13 T12 f12 B12 U12
 go_wp2_with fail
 refine (fnumber_c _ _ s E _ 4 4 rfl (by omega) hs f13).mono ?_
 rintro r w14 ⟨rfl, f14, t14⟩
 rw [fldTo_add] at f14
 have T14 := T13.trans t14
 have B14 := B13.keep t14 hne
 have U14 := U13.trans (t14.mono (fun k _ e => Or.inl e))
 clear t14 T13 f13 B13 U13
 have c14_9 : w14.cell? ⟨w.heap.size + 1, 9, none⟩ = some (.int .i64 ((0 : Nat) : Int)) := B14.lst 9 (by omega)
 have z14_9 := B14.frozen 9
 have c14_11 : w14.cell? ⟨w.heap.size + 1, 11, none⟩ = some (.int .i64 ((0 : Nat) : Int)) := B14.lst 11 (by omega)
 have z14_11 := B14.frozen 11
 have B14s := ((B14.set 9 (.int .i64 (fldNum s E (fldTo E p 38) 4 : Nat)) { { { { { { ent0 with maker := fldNum s E (fldTo E p 4) 2 } with flags := fldNum s E (fldTo E p 8) 2 } with method := fldNum s E (fldTo E p 10) 2 } with three := fldOf s E (fldTo E p 16) 12 } with disk := fldNum s E (fldTo E p 34) 2 } with outer := fldNum s E (fldTo E p 38) 4 } (by omega) rfl).set 11 (.int .i64 (fldNum s E (fldTo E p 42) 4 : Nat)) { { { { { { { ent0 with maker := fldNum s E (fldTo E p 4) 2 } with flags := fldNum s E (fldTo E p 8) 2 } with method := fldNum s E (fldTo E p 10) 2 } with three := fldOf s E (fldTo E p 16) 12 } with disk := fldNum s E (fldTo E p 34) 2 } with outer := fldNum s E (fldTo E p 38) 4 } with ahead := fldNum s E (fldTo E p 42) 4 } (by omega) rfl)
 have f14s := ((f14.other (o := 9) (.int .i64 (fldNum s E (fldTo E p 38) 4 : Nat)) (fun e => hne e.symm)).other (o := 11) (.int .i64 (fldNum s E (fldTo E p 42) 4 : Nat)) (fun e => hne e.symm))
 have T14s := ((T14.setNew (p := ⟨w.heap.size + 1, 9, none⟩) hlb (.int .i64 (fldNum s E (fldTo E p 38) 4 : Nat))).setNew (p := ⟨w.heap.size + 1, 11, none⟩) hlb (.int .i64 (fldNum s E (fldTo E p 42) 4 : Nat)))
 have U14s := ((U14.setCell (p := ⟨w.heap.size + 1, 9, none⟩) (Or.inr rfl) (.int .i64 (fldNum s E (fldTo E p 38) 4 : Nat))).setCell (p := ⟨w.heap.size + 1, 11, none⟩) (Or.inr rfl) (.int .i64 (fldNum s E (fldTo E p 42) 4 : Nat)))
 clear B14 f14 T14 U14
 have B14 := B14s
 have f14 := f14s
 have T14 := T14s
 have U14 := U14s
 clear B14s f14s T14s U14s
 go_wp2_with fail
 refine (take_c _ _ s E _ _ _ rfl (by omega) hs f14).mono ?_
 rintro r w15 ⟨rfl, f15, t15⟩
 rw [fldTo_add] at f15
 have T15 := T14.trans t15
 have B15 := B14.keep t15 hne
 have U15 := U14.trans (t15.mono (fun k _ e => Or.inl e))
 clear t15 T14 f14 B14 U14
 clear c14_9 z14_9
 clear c14_11 z14_11
 have c15_0 : w15.cell? ⟨w.heap.size + 1, 0, none⟩ = some (.string ⟨#[]⟩) := B15.lst 0 (by omega)
 have z15_0 := B15.frozen 0
 have B15s := (B15.set 0 (.string (fldOf s E (fldTo E p 46) (fldNum s E (fldTo E p 28) 2))) { { { { { { { { ent0 with maker := fldNum s E (fldTo E p 4) 2 } with flags := fldNum s E (fldTo E p 8) 2 } with method := fldNum s E (fldTo E p 10) 2 } with three := fldOf s E (fldTo E p 16) 12 } with disk := fldNum s E (fldTo E p 34) 2 } with outer := fldNum s E (fldTo E p 38) 4 } with ahead := fldNum s E (fldTo E p 42) 4 } with name := fldOf s E (fldTo E p 46) (fldNum s E (fldTo E p 28) 2) } (by omega) rfl)
 have f15s := (f15.other (o := 0) (.string (fldOf s E (fldTo E p 46) (fldNum s E (fldTo E p 28) 2))) (fun e => hne e.symm))
 have T15s := (T15.setNew (p := ⟨w.heap.size + 1, 0, none⟩) hlb (.string (fldOf s E (fldTo E p 46) (fldNum s E (fldTo E p 28) 2))))
 have U15s := (U15.setCell (p := ⟨w.heap.size + 1, 0, none⟩) (Or.inr rfl) (.string (fldOf s E (fldTo E p 46) (fldNum s E (fldTo E p 28) 2))))
 clear B15 f15 T15 U15
 have B15 := B15s
 have f15 := f15s
 have T15 := T15s
 have U15 := U15s
 clear B15s f15s T15s U15s
 go_wp2_with fail
 refine (take_c _ _ s E _ _ _ rfl (by omega) hs f15).mono ?_
 rintro r w16 ⟨rfl, f16, t16⟩
 rw [fldTo_add] at f16
 have T16 := T15.trans t16
 have B16 := B15.keep t16 hne
 have U16 := U15.trans (t16.mono (fun k _ e => Or.inl e))
 clear t16 T15 f15 B15 U15
 clear c15_0 z15_0
 go_wp2_with fail
 refine (take_c _ _ s E _ _ _ rfl (by omega) hs f16).mono ?_
 rintro r w17 ⟨rfl, f17, t17⟩
 rw [fldTo_add] at f17
 have T17 := T16.trans t17
 have B17 := B16.keep t17 hne
 have U17 := U16.trans (t17.mono (fun k _ e => Or.inl e))
 clear t17 T16 f16 B16 U16
 have A17 := HA.out.keep U17 (fun e => by rcases e with e | e <;> omega)
 clear HA U17
 obtain ⟨rfl, hfit⟩ := HB.out
 obtain ⟨e4, e8, e10, e16, e28, e30, e32, e34, e38, e42, e46, e46x, eq, emark⟩ := fields_fit s E p0 hE hfit
 simp only [e28, e30, e32, e4, e8, e10, e16, e34, e38, e42, e46, e46x, eq] at B17 f17 ⊢
 have HB2 : Hid (FitP s E p0) := hfit
 obtain ⟨k1, k2, k3⟩ := hfit
 have hmk : ((fldOf s E (some p0) 4).toList == [80, 75, 1, 2]) = true := by simpa using emark
 have r1 := f17.short
 simp only [Option.isNone_some] at r1
 have c10 : w17.cell? ⟨w.heap.size + 1, 10, none⟩ = some (.string (s.extract (p0 + 16) (p0 + 28))) := B17.lst 10 (by omega)
 have g0 := FR.newE w17 s (p0 + 16) (p0 + 28) (by omega) (by omega) _ rfl
 have tn := (Touch.refl (fun _ => False) w17).alloc (.cells #[.string (s.extract (p0 + 16) (p0 + 28)), .bool false] 121)
 have x17 := B17.lt
 have neB : ¬ w.heap.size + 1 = w17.heap.size := by omega
 have neA : ¬ w.heap.size = w17.heap.size := by omega
 have neR : ¬ rb = w17.heap.size := by have : rb < w.heap.size := hrl; omega
 have hz17 : w.heap.size ≤ w17.heap.size := by omega
 clear HB e4 e8 e10 e16 e28 e30 e32 e34 e38 e42 e46 e46x eq emark n1 n2 n3 k3
 go_wp2_with fail
 refine (fnum_some _ _ s (p0 + 28) (p0 + 16) 4 g0 (by omega) (by omega) hs).mono ?_
 rintro r w18 ⟨rfl, g1, t18⟩
 have B18 := (B17.keep tn (fun e => e)).keep t18 neB
 have A18 := (A17.keep tn (fun e => e)).keep t18 neA
 have f18 := (f17.keep tn (fun e => e)).keep t18 neR
 have T18 := (T17.alloc _).onNew t18 hz17
 clear t18 B17 A17 f17 T17 tn g0 c10 r1 hmk
 go_wp2_with fail
 refine (fnum_some _ _ s (p0 + 28) (p0 + 16 + 4) 4 g1 (by omega) (by omega) hs).mono ?_
 rintro r w19 ⟨rfl, g2, t19⟩
 have B19 := B18.keep t19 neB
 have A19 := A18.keep t19 neA
 have f19 := f18.keep t19 neR
 have T19 := T18.onNew t19 hz17
 clear t19 B18 A18 f18 T18 g1
 go_wp2_with fail
 refine (fnum_some _ _ s (p0 + 28) (p0 + 16 + 4 + 4) 4 g2 (by omega) (by omega) hs).mono ?_
 rintro r w20 ⟨rfl, g3, t20⟩
 have B20 := B19.keep t20 neB
 have A20 := A19.keep t20 neA
 have f20 := f19.keep t20 neR
 have T20 := T19.onNew t20 hz17
 clear t20 B19 A19 f19 T19 g2 g3 neB neA neR
 have s16 := numIn_le s (p0 + 16) 4
 have e20 : numIn s (p0 + 16 + 4) 4 = numIn s (p0 + 20) 4 := rfl
 have e24 : numIn s (p0 + 16 + 4 + 4) 4 = numIn s (p0 + 24) 4 := rfl
 rw [e20, e24]
 have u1 : IntKind.u32.wrap ((numIn s (p0 + 16) 4 : Nat) : Int) = ((numIn s (p0 + 16) 4 : Nat) : Int) := by simp [IntKind.wrap, IntKind.bits, IntKind.signed]; omega
 have u2 : ((numIn s (p0 + 16) 4 : Nat) : Int) % 4294967296 = ((numIn s (p0 + 16) 4 : Nat) : Int) := by omega
 have c2 : w20.cell? ⟨w.heap.size + 1, 2, none⟩ = some (.int .u32 ((0 : Nat) : Int)) := B20.lst 2 (by omega)
 have c3 : w20.cell? ⟨w.heap.size + 1, 3, none⟩ = some (.int .i64 ((0 : Nat) : Int)) := B20.lst 3 (by omega)
 have c4 : w20.cell? ⟨w.heap.size + 1, 4, none⟩ = some (.int .i64 ((0 : Nat) : Int)) := B20.lst 4 (by omega)
 have z2 := B20.frozen 2
 have z3 := B20.frozen 3
 have z4 := B20.frozen 4
 clear e20 e24
 have B21a : LB w20 (w.heap.size + 1) ⟨s.extract (p0 + 46) (p0 + 46 + numIn s (p0 + 28) 2), numIn s (p0 + 10) 2, 0, 0, 0, numIn s (p0 + 42) 4, numIn s (p0 + 4) 2, numIn s (p0 + 8) 2, numIn s (p0 + 34) 2, numIn s (p0 + 38) 4, s.extract (p0 + 16) (p0 + 28)⟩ := B20
 have B21 := ((B21a.set 2 (.int .u32 (numIn s (p0 + 16) 4 : Nat)) ⟨s.extract (p0 + 46) (p0 + 46 + numIn s (p0 + 28) 2), numIn s (p0 + 10) 2, numIn s (p0 + 16) 4, 0, 0, numIn s (p0 + 42) 4, numIn s (p0 + 4) 2, numIn s (p0 + 8) 2, numIn s (p0 + 34) 2, numIn s (p0 + 38) 4, s.extract (p0 + 16) (p0 + 28)⟩ (by omega) rfl).set 3 (.int .i64 (numIn s (p0 + 20) 4 : Nat)) ⟨s.extract (p0 + 46) (p0 + 46 + numIn s (p0 + 28) 2), numIn s (p0 + 10) 2, numIn s (p0 + 16) 4, numIn s (p0 + 20) 4, 0, numIn s (p0 + 42) 4, numIn s (p0 + 4) 2, numIn s (p0 + 8) 2, numIn s (p0 + 34) 2, numIn s (p0 + 38) 4, s.extract (p0 + 16) (p0 + 28)⟩ (by omega) rfl).set 4 (.int .i64 (numIn s (p0 + 24) 4 : Nat)) ⟨s.extract (p0 + 46) (p0 + 46 + numIn s (p0 + 28) 2), numIn s (p0 + 10) 2, numIn s (p0 + 16) 4, numIn s (p0 + 20) 4, numIn s (p0 + 24) 4, numIn s (p0 + 42) 4, numIn s (p0 + 4) 2, numIn s (p0 + 8) 2, numIn s (p0 + 34) 2, numIn s (p0 + 38) 4, s.extract (p0 + 16) (p0 + 28)⟩ (by omega) rfl
 have t3 : Touch (fun k => k = w.heap.size + 1) w20 (((w20.setCell ⟨w.heap.size + 1, 2, none⟩ (.int .u32 (numIn s (p0 + 16) 4 : Nat))).setCell ⟨w.heap.size + 1, 3, none⟩ (.int .i64 (numIn s (p0 + 20) 4 : Nat))).setCell ⟨w.heap.size + 1, 4, none⟩ (.int .i64 (numIn s (p0 + 24) 4 : Nat))) := ((touch_set w20 (w.heap.size + 1) 2 _).trans (touch_set _ (w.heap.size + 1) 3 _)).trans (touch_set _ (w.heap.size + 1) 4 _)
 have hsz3 : (((w20.setCell ⟨w.heap.size + 1, 2, none⟩ (.int .u32 (numIn s (p0 + 16) 4 : Nat))).setCell ⟨w.heap.size + 1, 3, none⟩ (.int .i64 (numIn s (p0 + 20) 4 : Nat))).setCell ⟨w.heap.size + 1, 4, none⟩ (.int .i64 (numIn s (p0 + 24) 4 : Nat))).heap.size = w20.heap.size := by simp [size_setCell]
 have x20 := B20.lt
 have neN : w20.heap.size ≠ w.heap.size + 1 := by omega
 have A21a := A20.keep t3 (by show ¬ w.heap.size = w.heap.size + 1; omega)
 have f21a := f20.keep t3 (by show ¬ rb = w.heap.size + 1; exact fun e => hne e.symm)
 have T21a := T20.onNew t3 hlb
 have bn := heap_alloc_new (((w20.setCell ⟨w.heap.size + 1, 2, none⟩ (.int .u32 (numIn s (p0 + 16) 4 : Nat))).setCell ⟨w.heap.size + 1, 3, none⟩ (.int .i64 (numIn s (p0 + 20) 4 : Nat))).setCell ⟨w.heap.size + 1, 4, none⟩ (.int .i64 (numIn s (p0 + 24) 4 : Nat))) (Obj.cells #[.pointer (some ⟨w.heap.size + 1, 4, none⟩), .pointer (some ⟨w.heap.size + 1, 3, none⟩), .pointer (some ⟨w.heap.size + 1, 11, none⟩)] 148)
 rw [hsz3] at bn
 have tr := (Touch.refl (fun _ => False) (((w20.setCell ⟨w.heap.size + 1, 2, none⟩ (.int .u32 (numIn s (p0 + 16) 4 : Nat))).setCell ⟨w.heap.size + 1, 3, none⟩ (.int .i64 (numIn s (p0 + 20) 4 : Nat))).setCell ⟨w.heap.size + 1, 4, none⟩ (.int .i64 (numIn s (p0 + 24) 4 : Nat)))).alloc (Obj.cells #[.pointer (some ⟨w.heap.size + 1, 4, none⟩), .pointer (some ⟨w.heap.size + 1, 3, none⟩), .pointer (some ⟨w.heap.size + 1, 11, none⟩)] 148)
 have B21r := B21.keep tr (fun e => e)
 have A21r := A21a.keep tr (fun e => e)
 have f21r := f21a.keep tr (fun e => e)
 have T21r := T21a.alloc (Obj.cells #[.pointer (some ⟨w.heap.size + 1, 4, none⟩), .pointer (some ⟨w.heap.size + 1, 3, none⟩), .pointer (some ⟨w.heap.size + 1, 11, none⟩)] 148)
 clear B20 B21a A20 f20 T20 t3 tr B21 A21a f21a T21a hsz3
 go_wp2_with fail
 have hN : Nums ((((w20.setCell ⟨w.heap.size + 1, 2, none⟩ (.int .u32 (numIn s (p0 + 16) 4 : Nat))).setCell ⟨w.heap.size + 1, 3, none⟩ (.int .i64 (numIn s (p0 + 20) 4 : Nat))).setCell ⟨w.heap.size + 1, 4, none⟩ (.int .i64 (numIn s (p0 + 24) 4 : Nat))).alloc (Obj.cells #[.pointer (some ⟨w.heap.size + 1, 4, none⟩), .pointer (some ⟨w.heap.size + 1, 3, none⟩), .pointer (some ⟨w.heap.size + 1, 11, none⟩)] 148)) (w.heap.size + 1) (cur3 (numIn s (p0 + 24) 4) (numIn s (p0 + 20) 4) (numIn s (p0 + 42) 4)) := by
  refine ⟨fun j hj => ?_, fun j => B21r.frozen j⟩
  rcases (by omega : j = 0 ∨ j = 1 ∨ j = 2) with rfl | rfl | rfl
  ·exact B21r.lst 4 (by omega)
  ·exact B21r.lst 3 (by omega)
  ·exact B21r.lst 11 (by omega)
 have hnb : ∀ j, j < 3 → ((((w20.setCell ⟨w.heap.size + 1, 2, none⟩ (.int .u32 (numIn s (p0 + 16) 4 : Nat))).setCell ⟨w.heap.size + 1, 3, none⟩ (.int .i64 (numIn s (p0 + 20) 4 : Nat))).setCell ⟨w.heap.size + 1, 4, none⟩ (.int .i64 (numIn s (p0 + 24) 4 : Nat))).alloc (Obj.cells #[.pointer (some ⟨w.heap.size + 1, 4, none⟩), .pointer (some ⟨w.heap.size + 1, 3, none⟩), .pointer (some ⟨w.heap.size + 1, 11, none⟩)] 148)).cell? ⟨w20.heap.size, j, none⟩ = some (.pointer (some ⟨w.heap.size + 1, offOf j, none⟩)) := by
  intro j hj
  rw [row_cell bn j]
  rcases (by omega : j = 0 ∨ j = 1 ∨ j = 2) with rfl | rfl | rfl <;> rfl
 refine (takeMeant_c _ s (p0 + 46 + numIn s (p0 + 28) 2) (p0 + 46 + numIn s (p0 + 28) 2 + numIn s (p0 + 30) 2) (numIn s (p0 + 30) 2 + 1) (w.heap.size + 1) w20.heap.size _ (by omega) (by omega) hs (by omega) hN hnb neN).mono ?_
 rintro r w21 ⟨rfl, ⟨d, hN', hR⟩, hoth, t21⟩
 have A21 := A21r.keep t21 (by show ¬ w.heap.size = w.heap.size + 1; omega)
 have f21 := f21r.keep t21 (by show ¬ rb = w.heap.size + 1; exact fun e => hne e.symm)
 have T21 := T21r.onNew t21 hlb
 have B22 : LB w21 (w.heap.size + 1) ⟨s.extract (p0 + 46) (p0 + 46 + numIn s (p0 + 28) 2), numIn s (p0 + 10) 2, numIn s (p0 + 16) 4, d 1, d 0, d 2, numIn s (p0 + 4) 2, numIn s (p0 + 8) 2, numIn s (p0 + 34) 2, numIn s (p0 + 38) 4, s.extract (p0 + 16) (p0 + 28)⟩ := by
  refine ⟨fun i hi => ?_, hN'.frozen, Nat.lt_of_lt_of_le B21r.lt t21.size⟩
  rw [Nat.zero_add]
  by_cases h4 : i = 4
  ·subst h4; exact hN'.cell 0 (by omega)
  ·by_cases h3 : i = 3
   ·subst h3; exact hN'.cell 1 (by omega)
   ·by_cases h11 : i = 11
    ·subst h11; exact hN'.cell 2 (by omega)
    ·rw [hoth i h4 h3 h11]
     have := B21r.lst i hi
     rw [Nat.zero_add] at this
     rw [this]
     rcases (by omega : i = 0 ∨ i = 1 ∨ i = 2 ∨ i = 5 ∨ i = 6 ∨ i = 7 ∨ i = 8 ∨ i = 9 ∨ i = 10 ∨ i = 12) with rfl | rfl | rfl | rfl | rfl | rfl | rfl | rfl | rfl | rfl <;> rfl
 have FIN : Hid (∀ w', FR w' rb s E (some (p0 + 46 + numIn s (p0 + 28) 2 + numIn s (p0 + 30) 2 + numIn s (p0 + 32) 2)) → listedPost s E rb p0 (.returned (.tuple #[.agg (listL ⟨s.extract (p0 + 46) (p0 + 46 + numIn s (p0 + 28) 2), numIn s (p0 + 10) 2, numIn s (p0 + 16) 4, d 1, d 0, d 2, numIn s (p0 + 4) 2, numIn s (p0 + 8) 2, numIn s (p0 + 34) 2, numIn s (p0 + 38) 4, s.extract (p0 + 16) (p0 + 28)⟩ 0 0).toArray, .bool ((wideGo s (p0 + 46 + numIn s (p0 + 28) 2 + numIn s (p0 + 30) 2) (numIn s (p0 + 30) 2 + 1) (p0 + 46 + numIn s (p0 + 28) 2) none).bind fun fo => mGo s (fo.getD (0, 0)).2 3 0 (fo.getD (0, 0)).1 (cur3 (numIn s (p0 + 24) 4) (numIn s (p0 + 20) 4) (numIn s (p0 + 42) 4))).isSome])) w') := by
  intro w' hf
  unfold listedPost
  rw [entAt_fit s E p0 HB2.out (cur3 (numIn s (p0 + 24) 4) (numIn s (p0 + 20) 4) (numIn s (p0 + 42) 4)) rfl rfl rfl]
  rcases hR with hR | hR
  ·rw [hR]; exact ⟨⟨s.extract (p0 + 46) (p0 + 46 + numIn s (p0 + 28) 2), numIn s (p0 + 10) 2, numIn s (p0 + 16) 4, d 1, d 0, d 2, numIn s (p0 + 4) 2, numIn s (p0 + 8) 2, numIn s (p0 + 34) 2, numIn s (p0 + 38) 4, s.extract (p0 + 16) (p0 + 28)⟩, 0, 0, rfl⟩
  ·rw [hR]; exact ⟨rfl, hf⟩
 clear hN hnb hR hoth t21 hN' A21r f21r T21r B21r bn HB2
 revert FIN B22
 generalize (⟨s.extract (p0 + 46) (p0 + 46 + numIn s (p0 + 28) 2), numIn s (p0 + 10) 2, numIn s (p0 + 16) 4, d 1, d 0, d 2, numIn s (p0 + 4) 2, numIn s (p0 + 8) 2, numIn s (p0 + 34) 2, numIn s (p0 + 38) 4, s.extract (p0 + 16) (p0 + 28)⟩ : Ent) = ef
 obtain ⟨nm, me, su, pa, si, ah, ma, fl, di, ou, th⟩ := ef
 generalize ((wideGo s (p0 + 46 + numIn s (p0 + 28) 2 + numIn s (p0 + 30) 2) (numIn s (p0 + 30) 2 + 1) (p0 + 46 + numIn s (p0 + 28) 2) none).bind fun fo => mGo s (fo.getD (0, 0)).2 3 0 (fo.getD (0, 0)).1 (cur3 (numIn s (p0 + 24) 4) (numIn s (p0 + 20) 4) (numIn s (p0 + 42) 4))).isSome = ok
 intro B22 FIN
 have c0 : w21.cell? ⟨w.heap.size + 1, 0, none⟩ = some (.string nm) := B22.lst 0 (by omega)
 have a0 : w21.cell? ⟨w.heap.size, 0, none⟩ = some (.string ⟨#[]⟩) := A21.lst 0 (by omega)
 have y0 := A21.frozen 0
 have c1 : w21.cell? ⟨w.heap.size + 1, 1, none⟩ = some (.int .i64 (me : Int)) := B22.lst 1 (by omega)
 have a1 : w21.cell? ⟨w.heap.size, 1, none⟩ = some (.int .i64 0) := A21.lst 1 (by omega)
 have y1 := A21.frozen 1
 have c2 : w21.cell? ⟨w.heap.size + 1, 2, none⟩ = some (.int .u32 (su : Int)) := B22.lst 2 (by omega)
 have a2 : w21.cell? ⟨w.heap.size, 2, none⟩ = some (.int .u32 0) := A21.lst 2 (by omega)
 have y2 := A21.frozen 2
 have c3 : w21.cell? ⟨w.heap.size + 1, 3, none⟩ = some (.int .i64 (pa : Int)) := B22.lst 3 (by omega)
 have a3 : w21.cell? ⟨w.heap.size, 3, none⟩ = some (.int .i64 0) := A21.lst 3 (by omega)
 have y3 := A21.frozen 3
 have c4 : w21.cell? ⟨w.heap.size + 1, 4, none⟩ = some (.int .i64 (si : Int)) := B22.lst 4 (by omega)
 have a4 : w21.cell? ⟨w.heap.size, 4, none⟩ = some (.int .i64 0) := A21.lst 4 (by omega)
 have y4 := A21.frozen 4
 have c5 : w21.cell? ⟨w.heap.size + 1, 5, none⟩ = some (.int .i64 ((0 : Nat) : Int)) := B22.lst 5 (by omega)
 have a5 : w21.cell? ⟨w.heap.size, 5, none⟩ = some (.int .i64 0) := A21.lst 5 (by omega)
 have y5 := A21.frozen 5
 have c6 : w21.cell? ⟨w.heap.size + 1, 6, none⟩ = some (.int .i64 (ma : Int)) := B22.lst 6 (by omega)
 have a6 : w21.cell? ⟨w.heap.size, 6, none⟩ = some (.int .i64 0) := A21.lst 6 (by omega)
 have y6 := A21.frozen 6
 have c7 : w21.cell? ⟨w.heap.size + 1, 7, none⟩ = some (.int .i64 (fl : Int)) := B22.lst 7 (by omega)
 have a7 : w21.cell? ⟨w.heap.size, 7, none⟩ = some (.int .i64 0) := A21.lst 7 (by omega)
 have y7 := A21.frozen 7
 have c8 : w21.cell? ⟨w.heap.size + 1, 8, none⟩ = some (.int .i64 (di : Int)) := B22.lst 8 (by omega)
 have a8 : w21.cell? ⟨w.heap.size, 8, none⟩ = some (.int .i64 0) := A21.lst 8 (by omega)
 have y8 := A21.frozen 8
 have c9 : w21.cell? ⟨w.heap.size + 1, 9, none⟩ = some (.int .i64 (ou : Int)) := B22.lst 9 (by omega)
 have a9 : w21.cell? ⟨w.heap.size, 9, none⟩ = some (.int .i64 0) := A21.lst 9 (by omega)
 have y9 := A21.frozen 9
 have c10 : w21.cell? ⟨w.heap.size + 1, 10, none⟩ = some (.string th) := B22.lst 10 (by omega)
 have a10 : w21.cell? ⟨w.heap.size, 10, none⟩ = some (.string ⟨#[]⟩) := A21.lst 10 (by omega)
 have y10 := A21.frozen 10
 have c11 : w21.cell? ⟨w.heap.size + 1, 11, none⟩ = some (.int .i64 (ah : Int)) := B22.lst 11 (by omega)
 have a11 : w21.cell? ⟨w.heap.size, 11, none⟩ = some (.int .i64 0) := A21.lst 11 (by omega)
 have y11 := A21.frozen 11
 have c12 : w21.cell? ⟨w.heap.size + 1, 12, none⟩ = some (.int .i64 ((0 : Nat) : Int)) := B22.lst 12 (by omega)
 have a12 : w21.cell? ⟨w.heap.size, 12, none⟩ = some (.int .i64 0) := A21.lst 12 (by omega)
 have y12 := A21.frozen 12
 clear B22 A21
 go_wp2
 refine bodyPost_ret (v := .tuple #[.agg #[.string nm, .int .i64 (me : Int), .int .u32 (su : Int), .int .i64 (pa : Int), .int .i64 (si : Int), .int .i64 0, .int .i64 (ma : Int), .int .i64 (fl : Int), .int .i64 (di : Int), .int .i64 (ou : Int), .string th, .int .i64 (ah : Int), .int .i64 0], .bool ok]) (by simp [results, Tryz.results48, go_sem, cell_set_if, a0, a1, a2, a3, a4, a5, a6, a7, a8, a9, a10, a11, a12]) rfl ⟨?_, FIN.out _ ?_⟩
 ·exact (((((((((((((T21.setNew (Nat.le_refl _) _).setNew (Nat.le_refl _) _).setNew (Nat.le_refl _) _).setNew (Nat.le_refl _) _).setNew (Nat.le_refl _) _).setNew (Nat.le_refl _) _).setNew (Nat.le_refl _) _).setNew (Nat.le_refl _) _).setNew (Nat.le_refl _) _).setNew (Nat.le_refl _) _).setNew (Nat.le_refl _) _).setNew (Nat.le_refl _) _).setNew (Nat.le_refl _) _)
 ·exact (((((((((((((f21.other _ (fun e => hne0 e.symm)).other _ (fun e => hne0 e.symm)).other _ (fun e => hne0 e.symm)).other _ (fun e => hne0 e.symm)).other _ (fun e => hne0 e.symm)).other _ (fun e => hne0 e.symm)).other _ (fun e => hne0 e.symm)).other _ (fun e => hne0 e.symm)).other _ (fun e => hne0 e.symm)).other _ (fun e => hne0 e.symm)).other _ (fun e => hne0 e.symm)).other _ (fun e => hne0 e.symm)).other _ (fun e => hne0 e.symm))
theorem takeListed_c (w : World) (rb : Nat) (s : ByteArray) (E p : Nat) (hr : FR w rb s E (some p)) (hs : s.size ≤ 140737488355328) :
  Calls Tryz.prog 48 #[.pointer (some ⟨rb, 0, none⟩)] w fun r w' => Touch (fun k => k = rb) w w' ∧ listedPost s E rb p r w' := by
 cases hf : fitB s E (some p) with
 | true => exact takeListed_good w rb s E p _ rfl hr hs ((fit_iff s E p hr.size).1 hf)
 | false =>
  refine (takeListed_bad w rb s E (some p) hr hs hf).mono ?_
  rintro r w' ⟨h1, rfl⟩
  exact ⟨h1, listed_bad s E rb p hr.size hf w'⟩
end Go.Proofs.YtnmkmmgaoplfiaaGreatDoor
namespace Go.Proofs.YtnmkmmgaoplfiaaGreatDoor
open Go.RowKit
theorem list_c (w : World) (s : ByteArray) (qe qn qb : Int) (hn : -9223372036854775808 ≤ qn ∧ qn ≤ 9223372036854775807) (hb : -9223372036854775808 ≤ qb ∧ qb ≤ 9223372036854775807) (hs : s.size ≤ 2147483648) :
  Calls Tryz.prog 8 #[.string s, .agg #[.int .i64 qe, .int .i64 qn, .int .i64 qb]] w fun r w' => Touch (fun _ => False) w w' ∧ listPost w.heap.size (listOf s qe qn qb) r w' := by
 refine list_of w s qe qn qb hn hb hs (fun d hd h1 h2 W => ?_)
 obtain ⟨d1, d2, d3, d4⟩ := dirOf_ok s d hd
 exact takeAll_of W s d h1 d1 d2 hs (fun W rb p hF => takeListed_c W rb s d.stop p hF (by omega))
theorem unpack_c (w : World) (s : ByteArray) (qe qn qb : Int) (hn : -9223372036854775808 ≤ qn ∧ qn ≤ 9223372036854775807) (hb : -9223372036854775808 ≤ qb ∧ qb ≤ 9223372036854775807) (hs : s.size ≤ 2147483648) (ho : Ord w) (h0 : 0 < w.heap.size) :
  Calls Tryz.prog 9 #[.string s, .agg #[.int .i64 qe, .int .i64 qn, .int .i64 qb]] w fun r w' => Touch (fun _ => False) w w' ∧ unpackPost w.heap.size s (listOf s qe qn qb) r w' :=
 unpack_of w s qe qn qb _ (fun W _ => list_c W s qe qn qb hn hb hs) (fun L h => listOf_ok s qe qn qb L h hs) hs ho h0
end Go.Proofs.YtnmkmmgaoplfiaaGreatDoor
