/- Texts of this seat, joined. -/
import Derived.Test.YtpckiobjpikmlaaGreatDoorJ26
import Derived.Test.YtpckiobjpikmlaaGreatDoorJ28
import Derived.Test.YtpckiobjpikmlaaGreatDoorJ25
set_option linter.unusedSimpArgs false
set_option linter.unusedVariables false
set_option maxRecDepth 100000
set_option maxHeartbeats 20000000
namespace Go.Proofs.YtpckiobjpikmlaaGreatDoor
open Go.RowKit Go.Shelf Go.Lib
theorem Tryz.infoRefEntry : (Tryz.prog.info? 185).map (fun i => (i.zero, i.size, i.bytes)) = some (some (.agg #[.string ⟨#[]⟩, .int .i64 0, .int .i64 0, .int .i64 0, .int .i64 0, .int .i64 0, .int .i64 0, .int .i64 0, .int .i64 0, .int .i64 0, .int .i64 0, .int .i64 0, .int .i64 0]), 13, 112) := by kernel_rfl
structure CB (w : World) (b : Nat) (l : List Value) : Prop where
 cells : ∀ i, i < l.length → w.cell? ⟨b, i, none⟩ = l[i]?
 lt : b < w.heap.size
theorem CB.keep {S : Nat → Prop} {w w' : World} {b : Nat} {l : List Value} (h : CB w b l) (ht : Touch S w w') (hs : ¬ S b) : CB w' b l :=
 ⟨fun i hi => (ht.cell (p := ⟨b, i, none⟩) h.lt hs).trans (h.cells i hi), Nat.lt_of_lt_of_le h.lt ht.size⟩
theorem CB.drewN {w : World} {b : Nat} {l : List Value} (h : CB w b l) (n : Nat) : CB (w.drewN n) b l := h.keep ((Touch.refl (fun _ => False) w).drewN n) (fun e => e)
theorem CB.new (w : World) (l : List Value) (t : TypeId) : CB (w.alloc (Obj.cells l.toArray t)) w.heap.size l := by
 have hb := heap_alloc_new w (Obj.cells l.toArray t)
 refine ⟨fun i hi => ?_, by simp⟩
 rw [row_cell hb i]; simp
theorem CB.three {w : World} {b : Nat} {x y z : Value} (h0 : w.cell? ⟨b, 0, none⟩ = some x) (h1 : w.cell? ⟨b, 1, none⟩ = some y) (h2 : w.cell? ⟨b, 2, none⟩ = some z) (hl : b < w.heap.size) : CB w b [x, y, z] := by
 refine ⟨fun i hi => ?_, hl⟩
 have : i < 3 := hi
 rcases i with _ | _ | _ | i
 ·exact h0
 ·exact h1
 ·exact h2
 ·omega
theorem Refs.owned {w : World} {base : Nat} {v : Value} {l : List Ent} (h : w.ownsRow base 185 13 v l.length (refV l)) : ∃ a cap g, v = .slice a l.length cap ∧ base ≤ g ∧ Refs w a g (l.map rawE) := by
 obtain ⟨q1, ⟨q2, q3⟩ | ⟨g', cap', cur, rfl, hrest⟩⟩ := id h
 ·refine ⟨none, 0, base, by rw [q2, q3], Nat.le_refl _, ⟨fun h => ?_, fun h => ?_⟩⟩
  ·rw [List.length_map] at h; omega
  ·rw [List.length_map] at h; omega
 ·obtain ⟨z1, z2⟩ := RefAt.owned h
  exact ⟨some ⟨g', 0, none⟩, cap', g', rfl, z1, ⟨fun _ => rfl, fun _ => z2⟩⟩
def listRest (s : ByteArray) (P : Nat) (qn qb : Int) (l : List Ent) : Except Nat (List Spanned) :=
 if qn < (namesSum l : Int) then .error 13
 else if anyPair (fun a b => clashB a.name b.name) l then .error 8
 else match spansOf s P l with
  | none => .error 9
  | some r =>
   if anyPair overB r then .error 10
   else if qb < (sizesSum l : Int) then .error 13
   else .ok r
theorem listOf_rest (s : ByteArray) (qe qn qb : Int) (d : Dir) (l : List Ent) (h0 : dirOf s = .ok d) (h1 : ¬ qe < (d.count : Int)) (h2 : d.place ≤ d.stop ∧ d.size = d.stop - d.place) (h3 : entsGo s d.stop d.count d.place [] = .ok l) : listOf s qe qn qb = listRest s d.place qn qb l := by
 unfold listOf
 rw [h0]
 simp only
 rw [if_neg h1, if_neg (fun h => h h2), h3]
 rfl
theorem listOf_ents (s : ByteArray) (qe qn qb : Int) (d : Dir) (k : Nat) (h0 : dirOf s = .ok d) (h1 : ¬ qe < (d.count : Int)) (h2 : d.place ≤ d.stop ∧ d.size = d.stop - d.place) (h3 : entsGo s d.stop d.count d.place [] = .error k) : listOf s qe qn qb = .error k := by
 unfold listOf
 rw [h0]
 simp only
 rw [if_neg h1, if_neg (fun h => h h2), h3]
theorem rlist_err (base : Nat) (R : Except Nat (List Spanned)) (k : Nat) (h : R = .error k) (w' : World) : rlistPost base R (.returned (.tuple #[.slice none 0 0, .int .i64 (k : Int)])) w' := by
 rw [h]; rfl
theorem rlist_e (w : World) (s : ByteArray) (qe qn qb : Int) (hs : s.size ≤ 2147483648)
  (hno : ∀ d, dirOf s = .ok d → ¬ qe < (d.count : Int) → ¬ (d.place ≤ d.stop ∧ d.size = d.stop - d.place)) :
  Calls Tryz.prog 47 #[.string s, .agg #[.int .i64 qe, .int .i64 qn, .int .i64 qb]] w fun r w' => Touch (fun _ => False) w w' ∧ rlistPost w.heap.size (listOf s qe qn qb) r w' := by
 have T0 : Touch (fun _ => False) w (w.alloc (Obj.cells #[.int .i64 qe, .int .i64 qn, .int .i64 qb] 44)) := (Touch.refl _ w).alloc _
 have bq0 := heap_alloc_new w (Obj.cells #[.int .i64 qe, .int .i64 qn, .int .i64 qb] 44)
 have HD : Hid (∀ W, Calls Tryz.prog 91 #[.string s] W fun e w' => e = .returned (dirV (dirOf s)) ∧ Touch (fun _ => False) W w') := fun W => rEnd_c W s (by omega)
 obtain ⟨R, hR⟩ : ∃ R, R = listOf s qe qn qb := ⟨_, rfl⟩
 rw [← hR]
 unfold listOf at hR
 cases hd : dirOf s with
 | error k =>
  rw [hd] at HD hR
  have FIN : Hid (∀ w', rlistPost w.heap.size R (.returned (.tuple #[.slice none 0 0, .int .i64 (k : Int)])) w') := rlist_err _ _ k hR
  have hk := dirOf_err s k hd
  have hk' : ¬ (k : Int) = 0 := by omega
  clear hno hR hd
  go_enter Tryz.func47, Tryz.ntmps47
  go_wp2_with fail
  refine (HD.out _).mono ?_
  rintro e w1 ⟨he, t1⟩
  obtain rfl := (show e = .returned (.tuple #[.agg #[.int .i64 0, .int .i64 0, .int .i64 0, .int .i64 0], .int .i64 (k : Int)]) from he)
  have T1 := T0.trans t1
  have bq1 := (t1.block _ (by simp) (fun e => e)).trans bq0
  have q0 : w1.cell? ⟨w.heap.size, 0, none⟩ = some (.int .i64 qe) := by rw [row_cell bq1 0]; rfl
  have q1 : w1.cell? ⟨w.heap.size, 1, none⟩ = some (.int .i64 qn) := by rw [row_cell bq1 1]; rfl
  have q2 : w1.cell? ⟨w.heap.size, 2, none⟩ = some (.int .i64 qb) := by rw [row_cell bq1 2]; rfl
  have lq1 : w.heap.size < w1.heap.size := (Array.getElem?_eq_some_iff.1 bq1).1
  clear he t1 HD bq0 bq1 T0
  go_wp2
  go_ret2
  exact ⟨T1.alloc _, FIN.out _⟩
 | ok d =>
  rw [hd] at HD hR
  have hno' := hno d hd
  have d1 := dirOf_ok s d hd
  obtain ⟨cn, sz, pl, st⟩ := d
  simp only at hR hno' d1
  clear hno hd
  by_cases hq : qe < (cn : Int)
  ·rw [if_pos hq] at hR
   have FIN : Hid (∀ w', rlistPost w.heap.size R (.returned (.tuple #[.slice none 0 0, .int .i64 13])) w') := rlist_err _ _ 13 hR
   clear hR hno'
   go_enter Tryz.func47, Tryz.ntmps47
   go_wp2_with fail
   refine (HD.out _).mono ?_
   rintro e w1 ⟨he, t1⟩
   obtain rfl := (show e = .returned (.tuple #[.agg #[.int .i64 (cn : Int), .int .i64 (sz : Int), .int .i64 (pl : Int), .int .i64 (st : Int)], .int .i64 0]) from he)
   have T1 := T0.trans t1
   have bq1 := (t1.block _ (by simp) (fun e => e)).trans bq0
   have q0 : w1.cell? ⟨w.heap.size, 0, none⟩ = some (.int .i64 qe) := by rw [row_cell bq1 0]; rfl
   have q1 : w1.cell? ⟨w.heap.size, 1, none⟩ = some (.int .i64 qn) := by rw [row_cell bq1 1]; rfl
   have q2 : w1.cell? ⟨w.heap.size, 2, none⟩ = some (.int .i64 qb) := by rw [row_cell bq1 2]; rfl
   have lq1 : w.heap.size < w1.heap.size := (Array.getElem?_eq_some_iff.1 bq1).1
   clear he t1 HD bq0 bq1 T0
   go_wp2
   go_ret2
   exact ⟨T1.alloc _, FIN.out _⟩
  ·have hl := hno' hq
   rw [if_neg hq, if_pos hl] at hR
   have FIN : Hid (∀ w', rlistPost w.heap.size R (.returned (.tuple #[.slice none 0 0, .int .i64 5])) w') := rlist_err _ _ 5 hR
   clear hR hno'
   by_cases hp : pl ≤ st
   ·have g1 : ¬ (st : Int) < (pl : Int) := by omega
    have g2 : ((sz : Int) != (st : Int) - (pl : Int)) = true := by
     have : ¬ sz = st - pl := fun h => hl ⟨hp, h⟩
     simp; omega
    have g3 : ¬ (sz : Int) = (st : Int) - (pl : Int) := by simpa using g2
    clear hl
    go_enter Tryz.func47, Tryz.ntmps47
    go_wp2_with fail
    refine (HD.out _).mono ?_
    rintro e w1 ⟨he, t1⟩
    obtain rfl := (show e = .returned (.tuple #[.agg #[.int .i64 (cn : Int), .int .i64 (sz : Int), .int .i64 (pl : Int), .int .i64 (st : Int)], .int .i64 0]) from he)
    have T1 := T0.trans t1
    have bq1 := (t1.block _ (by simp) (fun e => e)).trans bq0
    have q0 : w1.cell? ⟨w.heap.size, 0, none⟩ = some (.int .i64 qe) := by rw [row_cell bq1 0]; rfl
    have q1 : w1.cell? ⟨w.heap.size, 1, none⟩ = some (.int .i64 qn) := by rw [row_cell bq1 1]; rfl
    have q2 : w1.cell? ⟨w.heap.size, 2, none⟩ = some (.int .i64 qb) := by rw [row_cell bq1 2]; rfl
    have lq1 : w.heap.size < w1.heap.size := (Array.getElem?_eq_some_iff.1 bq1).1
    clear he t1 HD bq0 bq1 T0
    go_wp2
    go_ret2
    exact ⟨T1.alloc _, FIN.out _⟩
   ·have g1 : (st : Int) < (pl : Int) := by omega
    clear hl
    go_enter Tryz.func47, Tryz.ntmps47
    go_wp2_with fail
    refine (HD.out _).mono ?_
    rintro e w1 ⟨he, t1⟩
    obtain rfl := (show e = .returned (.tuple #[.agg #[.int .i64 (cn : Int), .int .i64 (sz : Int), .int .i64 (pl : Int), .int .i64 (st : Int)], .int .i64 0]) from he)
    have T1 := T0.trans t1
    have bq1 := (t1.block _ (by simp) (fun e => e)).trans bq0
    have q0 : w1.cell? ⟨w.heap.size, 0, none⟩ = some (.int .i64 qe) := by rw [row_cell bq1 0]; rfl
    have q1 : w1.cell? ⟨w.heap.size, 1, none⟩ = some (.int .i64 qn) := by rw [row_cell bq1 1]; rfl
    have q2 : w1.cell? ⟨w.heap.size, 2, none⟩ = some (.int .i64 qb) := by rw [row_cell bq1 2]; rfl
    have lq1 : w.heap.size < w1.heap.size := (Array.getElem?_eq_some_iff.1 bq1).1
    clear he t1 HD bq0 bq1 T0
    go_wp2
    go_ret2
    exact ⟨T1.alloc _, FIN.out _⟩
end Go.Proofs.YtpckiobjpikmlaaGreatDoor
namespace Go.Proofs.YtpckiobjpikmlaaGreatDoor
open Go.RowKit
def markS (n : Nat) : ByteArray := ⟨([109, 105, 110, 101] ++ List.replicate n (33 : UInt8) : List UInt8).toArray⟩
theorem markS_size (n : Nat) : (markS n).size = n + 4 := by
 show ([109, 105, 110, 101] ++ List.replicate n 33 : List UInt8).toArray.size = _
 simp
theorem markS_succ (n : Nat) : markS n ++ (⟨#[33]⟩ : ByteArray) = markS (n + 1) := by
 apply ByteArray.ext
 rw [ByteArray.data_append]
 apply Array.toList_inj.1
 rw [Array.toList_append]
 show ([109, 105, 110, 101] ++ List.replicate n 33 : List UInt8) ++ [33] = [109, 105, 110, 101] ++ List.replicate (n + 1) 33
 rw [List.replicate_succ', List.append_assoc]
theorem mark_c (w : World) (wb m : Nat) (h7 : w.cell? ⟨wb, 7, none⟩ = some (.int .i64 (m : Int))) (hf : w.frozen? ⟨wb, 7, none⟩ = false) (hm : m ≤ 1073741824) :
  Calls Tryz.prog 100 #[.pointer (some ⟨wb, 0, none⟩)] w fun r w' => r = .returned (.string (markS (m + 1))) ∧ w' = w.setCell ⟨wb, 7, none⟩ (.int .i64 ((m : Int) + 1)) := by
 have c7 : (w.setCell ⟨wb, 7, none⟩ (.int .i64 ((m : Int) + 1))).cell? ⟨wb, 7, none⟩ = some (.int .i64 ((m : Int) + 1)) := by
  rw [cell_set_if, if_pos ⟨rfl, rfl⟩, h7]; rfl
 have HS : Hid (∀ k, markS k ++ (⟨#[33]⟩ : ByteArray) = markS (k + 1)) := markS_succ
 have H0 : Hid (markS 0 = ⟨#[109, 105, 110, 101]⟩) := rfl
 go_enter Tryz.func100, Tryz.ntmps100
 go_wp2
 obtain ⟨W, hW⟩ : ∃ W, W = w.setCell ⟨wb, 7, none⟩ (.int .i64 ((m : Int) + 1)) := ⟨_, rfl⟩
 rw [← hW] at c7
 have HW : Hid (W = w.setCell ⟨wb, 7, none⟩ (.int .i64 ((m : Int) + 1))) := hW
 rw [← hW]
 clear hW
 go_loop [3, 4] (fun s i => ∃ k : Nat, k ≤ m + 1 ∧ i = .int .i64 (k : Int) ∧ s = .string (markS k)) (fun s i => m + 1 - (intOf i).toNat)
 case atStart => exact ⟨0, Nat.zero_le _, rfl, by rw [H0.out]⟩
 case round =>
  obtain ⟨k, hk, rfl, rfl⟩ := hrel
  have hz := markS_size k
  have hz2 : (⟨#[33]⟩ : ByteArray).size = 1 := rfl
  by_cases hlt : k < m + 1
  ·have i1 : (k : Int) < (m : Int) + 1 := by omega
   have e := HS.out k
   have HE : Hid (markS k ++ (⟨#[33]⟩ : ByteArray) = markS (k + 1)) := e
   clear e
   generalize markS k = M at hz HE ⊢
   go_wp2
   exact ⟨⟨k + 1, by omega, by go_num, by rw [HE.out]⟩, by simp [intOf]; omega⟩
  ·obtain rfl : k = m + 1 := by omega
   have i1 : ¬ ((m + 1 : Nat) : Int) < (m : Int) + 1 := by omega
   go_wp2
   go_ret
   exact ⟨rfl, HW.out⟩
end Go.Proofs.YtpckiobjpikmlaaGreatDoor
