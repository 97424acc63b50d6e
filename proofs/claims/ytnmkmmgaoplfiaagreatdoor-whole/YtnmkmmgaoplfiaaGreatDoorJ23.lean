/- Texts of this seat, joined. -/
import Derived.Test.YtnmkmmgaoplfiaaGreatDoorJ21
set_option linter.unusedSimpArgs false
set_option linter.unusedVariables false
set_option maxRecDepth 100000
set_option maxHeartbeats 20000000
namespace Go.Proofs.YtnmkmmgaoplfiaaGreatDoor
open Go.RowKit Go.Shelf Go.Lib
def liesB (d : Dir) : Bool := decide (d.place ≤ d.stop) && decide (d.size = d.stop - d.place)
theorem liesAsSaid_c (w : World) (d : Dir) (h1 : d.stop ≤ 140737488355328) (h2 : d.place ≤ 9223372036854775807) :
  Calls Tryz.prog 24 #[.agg #[.int .i64 (d.count : Int), .int .i64 (d.size : Int), .int .i64 (d.place : Int), .int .i64 (d.stop : Int)]] w fun r w' => r = .returned (.bool (liesB d)) ∧ Touch (fun _ => False) w w' := by
 have T := (Touch.refl (fun _ => False) w).alloc (Obj.cells #[.int .i64 (d.count : Int), .int .i64 (d.size : Int), .int .i64 (d.place : Int), .int .i64 (d.stop : Int)] 66)
 go_enter Tryz.func24, Tryz.ntmps24
 by_cases h3 : d.place ≤ d.stop
 ·have h3' : (d.place : Int) ≤ (d.stop : Int) := by omega
  have hw : IntKind.i64.wrap ((d.stop : Int) - (d.place : Int)) = (d.stop : Int) - (d.place : Int) := by simp [IntKind.wrap, IntKind.bits, IntKind.signed]; omega
  have FIN : Hid (((d.size : Int) == (d.stop : Int) - (d.place : Int)) = liesB d) := by
   unfold Hid liesB; rw [decide_eq_true h3, Bool.true_and]
   exact decide_eq_decide.2 (by omega)
  go_wp2
  go_ret
  exact ⟨congrArg (fun b => Ending.returned (.bool b)) FIN.out, T⟩
 ·have h3' : ¬ (d.place : Int) ≤ (d.stop : Int) := by omega
  have FIN : Hid (false = liesB d) := by
   unfold Hid liesB; rw [decide_eq_false h3, Bool.false_and]
  go_wp2
  go_ret
  exact ⟨congrArg (fun b => Ending.returned (.bool b)) FIN.out, T⟩
def bareE (e : Ent) : Spanned := ⟨e, 0, 0⟩
theorem bareE_ent (l : List Ent) : (l.map bareE).map (·.ent) = l := by rw [List.map_map]; exact List.map_id _
def takePost (base : Nat) (R : Except Nat (List Ent)) (r : Ending) (w' : World) : Prop := match R with
 | .error k => r = .returned (.tuple #[.slice none 0 0, .int .i64 (k : Int)])
 | .ok l => ∃ a cap g, r = .returned (.tuple #[.slice a (l.map bareE).length cap, .int .i64 0]) ∧ (0 < (l.map bareE).length → a = some ⟨g, 0, none⟩) ∧ base ≤ g ∧ (0 < (l.map bareE).length → LstAt w' g (l.map bareE) ∧ ∀ i, w'.frozen? ⟨g, i, none⟩ = false)
theorem listPost_err (base : Nat) (R : Except Nat (List Spanned)) (k : Nat) (h : R = .error k) (hk : 0 < k) (w' : World) : listPost base R (.returned (.tuple #[.slice none 0 0, .int .i64 (k : Int)])) w' := by
 rw [h]; exact ⟨rfl, hk⟩
theorem list_of (w : World) (s : ByteArray) (qe qn qb : Int) (hn : -9223372036854775808 ≤ qn ∧ qn ≤ 9223372036854775807) (hb : -9223372036854775808 ≤ qb ∧ qb ≤ 9223372036854775807) (hs : s.size ≤ 2147483648)
  (hT : ∀ d, dirOf s = .ok d → d.place ≤ d.stop → d.size = d.stop - d.place → ∀ W, Calls Tryz.prog 25 #[.agg #[.int .i64 (d.count : Int), .int .i64 (d.size : Int), .int .i64 (d.place : Int), .int .i64 (d.stop : Int)], .string s] W fun r w' => Touch (fun _ => False) W w' ∧ takePost W.heap.size (entsGo s d.stop d.count d.place []) r w') :
  Calls Tryz.prog 8 #[.string s, .agg #[.int .i64 qe, .int .i64 qn, .int .i64 qb]] w fun r w' => Touch (fun _ => False) w w' ∧ listPost w.heap.size (listOf s qe qn qb) r w' := by
 have T0 : Touch (fun _ => False) w (w.alloc (Obj.cells #[.int .i64 qe, .int .i64 qn, .int .i64 qb] 29)) := (Touch.refl _ w).alloc _
 have bq0 := heap_alloc_new w (Obj.cells #[.int .i64 qe, .int .i64 qn, .int .i64 qb] 29)
 have HT : Hid (∀ d, dirOf s = .ok d → d.place ≤ d.stop → d.size = d.stop - d.place → ∀ W, Calls Tryz.prog 25 #[.agg #[.int .i64 (d.count : Int), .int .i64 (d.size : Int), .int .i64 (d.place : Int), .int .i64 (d.stop : Int)], .string s] W fun r w' => Touch (fun _ => False) W w' ∧ takePost W.heap.size (entsGo s d.stop d.count d.place []) r w') := hT
 have HD : Hid (∀ W, Calls Tryz.prog 23 #[.string s] W fun e w' => e = .returned (dirV (dirOf s)) ∧ Touch (fun _ => False) W w') := fun W => findDirectory_c W s (by omega)
 obtain ⟨R, hR⟩ : ∃ R, R = listOf s qe qn qb := ⟨_, rfl⟩
 rw [← hR]
 unfold listOf at hR
 cases hd : dirOf s with
 | error k =>
  rw [hd] at HD hR
  have FIN : Hid (∀ w', listPost w.heap.size R (.returned (.tuple #[.slice none 0 0, .int .i64 (k : Int)])) w') := listPost_err _ _ k hR (dirOf_err s k hd)
  have hk := dirOf_err s k hd
  have hk' : ¬ (k : Int) = 0 := by omega
  clear HT hT hR hd
  go_enter Tryz.func8, Tryz.ntmps8
  go_wp2_with fail
  refine (HD.out _).mono ?_
  rintro e w1 ⟨he, t1⟩
  obtain rfl := (show e = .returned (.tuple #[.agg #[.int .i64 0, .int .i64 0, .int .i64 0, .int .i64 0], .int .i64 (k : Int)]) from he)
  have T1 := T0.trans t1
  clear he t1
  go_wp2
  go_ret2
  exact ⟨T1.alloc _, FIN.out _⟩
 | ok d =>
  rw [hd] at HD hR
  obtain ⟨d1, d2, d3, d4⟩ := dirOf_ok s d hd
  have HT' := HT.out d hd
  simp only at hR
  clear HT hT
  go_enter Tryz.func8, Tryz.ntmps8
  go_wp2_with fail
  refine (HD.out _).mono ?_
  rintro e w1 ⟨he, t1⟩
  obtain rfl := (show e = .returned (.tuple #[.agg #[.int .i64 (d.count : Int), .int .i64 (d.size : Int), .int .i64 (d.place : Int), .int .i64 (d.stop : Int)], .int .i64 0]) from he)
  have T1 := T0.trans t1
  have bq1 := (t1.block _ (by simp) (fun e => e)).trans bq0
  have q0 : w1.cell? ⟨w.heap.size, 0, none⟩ = some (.int .i64 qe) := by rw [row_cell bq1 0]; rfl
  have lq1 : w.heap.size < w1.heap.size := (Array.getElem?_eq_some_iff.1 bq1).1
  clear he t1 HD
  by_cases hq : qe < (d.count : Int)
  ·rw [if_pos hq] at hR
   have FIN : Hid (∀ w', listPost w.heap.size R (.returned (.tuple #[.slice none 0 0, .int .i64 13])) w') := listPost_err _ _ 13 hR (by omega)
   clear HT' hR hd
   go_wp2
   go_ret2
   exact ⟨T1.alloc _, FIN.out _⟩
  rw [if_neg hq] at hR
  have HLs : Hid (∀ W, Calls Tryz.prog 24 #[.agg #[.int .i64 (d.count : Int), .int .i64 (d.size : Int), .int .i64 (d.place : Int), .int .i64 (d.stop : Int)]] W fun r w' => r = .returned (.bool (liesB d)) ∧ Touch (fun _ => False) W w') := fun W => liesAsSaid_c W d (by omega) d4
  have HR : Hid (R = if ¬ (d.place ≤ d.stop ∧ d.size = d.stop - d.place) then .error 5 else match entsGo s d.stop d.count d.place [] with
   | .error e => .error e
   | .ok l =>
    if qn < (namesSum l : Int) then .error 13
    else if anyPair (fun a b => clashB a.name b.name) l then .error 8
    else match spansOf s d.place l with
     | none => .error 9
     | some r =>
      if anyPair overB r then .error 10
      else if qb < (sizesSum l : Int) then .error 13
      else .ok r) := hR
  have HTT : Hid (d.place ≤ d.stop → d.size = d.stop - d.place → ∀ W, Calls Tryz.prog 25 #[.agg #[.int .i64 (d.count : Int), .int .i64 (d.size : Int), .int .i64 (d.place : Int), .int .i64 (d.stop : Int)], .string s] W fun r w' => Touch (fun _ => False) W w' ∧ takePost W.heap.size (entsGo s d.stop d.count d.place []) r w') := HT'
  have HDD : Hid (d.stop ≤ s.size) := d1
  clear hR HT' hd d1 d2 d3 d4
  go_wp2_with fail
  refine (HLs.out _).mono ?_
  rintro e w2 ⟨rfl, t2⟩
  have b1 := heap_alloc_new w1 (Obj.cells #[.int .i64 (d.count : Int), .int .i64 (d.size : Int), .int .i64 (d.place : Int), .int .i64 (d.stop : Int)] 66)
  have bd2 := (t2.block _ (by simp) (fun e => e)).trans b1
  have bq2 := (t2.block _ (by have := (Array.getElem?_eq_some_iff.1 bq1).1; simp; omega) (fun e => e)).trans ((Below.heap_alloc _ _ _ (Array.getElem?_eq_some_iff.1 bq1).1).trans bq1)
  have T2 := (T1.alloc _).trans t2
  clear t2 b1 HLs q0 bq1 bq0 T0
  cases hlb : liesB d with
  | false =>
   have hr : R = .error 5 := by
    rw [HR.out, if_pos]
    intro hh
    unfold liesB at hlb
    rw [decide_eq_true hh.1, decide_eq_true hh.2] at hlb; cases hlb
   have FIN : Hid (∀ w', listPost w.heap.size R (.returned (.tuple #[.slice none 0 0, .int .i64 5])) w') := listPost_err _ _ 5 hr (by omega)
   clear HR HTT hr
   go_wp2
   go_ret2
   exact ⟨T2, FIN.out _⟩
  | true =>
   obtain ⟨l1, l2⟩ : d.place ≤ d.stop ∧ d.size = d.stop - d.place := by
    unfold liesB at hlb
    simpa using hlb
   have HTA := HTT.out l1 l2
   have HTB : Hid (∀ W, Calls Tryz.prog 25 #[.agg #[.int .i64 (d.count : Int), .int .i64 (d.size : Int), .int .i64 (d.place : Int), .int .i64 (d.stop : Int)], .string s] W fun r w' => Touch (fun _ => False) W w' ∧ takePost W.heap.size (entsGo s d.stop d.count d.place []) r w') := HTA
   have hr := HR.out
   rw [if_neg (fun h => h ⟨l1, l2⟩)] at hr
   have hpl : d.place ≤ s.size := by have := HDD.out; omega
   have HEL : Hid (d.place ≤ d.stop ∧ d.stop ≤ s.size) := ⟨l1, HDD.out⟩
   have HR2 : Hid _ := hr
   have e0 : w2.cell? ⟨w1.heap.size, 0, none⟩ = some (.int .i64 (d.count : Int)) := by rw [row_cell bd2 0]; rfl
   have e1 : w2.cell? ⟨w1.heap.size, 1, none⟩ = some (.int .i64 (d.size : Int)) := by rw [row_cell bd2 1]; rfl
   have e2 : w2.cell? ⟨w1.heap.size, 2, none⟩ = some (.int .i64 (d.place : Int)) := by rw [row_cell bd2 2]; rfl
   have e3 : w2.cell? ⟨w1.heap.size, 3, none⟩ = some (.int .i64 (d.stop : Int)) := by rw [row_cell bd2 3]; rfl
   clear HTA HTT HR hlb l2 hr HDD l1
   go_wp2_with fail
   refine (HTB.out _).mono ?_
   rintro e w3 ⟨t3, h3⟩
   have T3 := T2.trans t3
   have hz2 := T2.size
   have bd3 := (t3.block _ (Array.getElem?_eq_some_iff.1 bd2).1 (fun e => e)).trans bd2
   have bq3 := (t3.block _ (Array.getElem?_eq_some_iff.1 bq2).1 (fun e => e)).trans bq2
   have lq := (Array.getElem?_eq_some_iff.1 bq2).1
   have ld := (Array.getElem?_eq_some_iff.1 bd2).1
   clear HTB e0 e1 e2 e3 t3 bd2 bq2
   cases he : entsGo s d.stop d.count d.place [] with
   | error k =>
    rw [he] at h3 HR2
    obtain rfl := (show e = .returned (.tuple #[.slice none 0 0, .int .i64 (k : Int)]) from h3)
    have hk := entsGo_err _ _ _ _ _ _ he
    have hk' : ¬ (k : Int) = 0 := by omega
    have FIN : Hid (∀ w', listPost w.heap.size R (.returned (.tuple #[.slice none 0 0, .int .i64 (k : Int)])) w') := listPost_err _ _ k HR2.out hk
    clear HR2 he h3
    go_wp2
    go_ret2
    exact ⟨T3, FIN.out _⟩
   | ok l =>
    rw [he] at h3 HR2
    obtain ⟨a, cap, g, rfl, ha, hbase, hla⟩ := (show ∃ a cap g, e = .returned (.tuple #[.slice a (l.map bareE).length cap, .int .i64 0]) ∧ (0 < (l.map bareE).length → a = some ⟨g, 0, none⟩) ∧ w2.heap.size ≤ g ∧ (0 < (l.map bareE).length → LstAt w3 g (l.map bareE) ∧ ∀ i, w3.frozen? ⟨g, i, none⟩ = false) from h3)
    obtain ⟨f1, f2, f3⟩ := entsGo_ok s _ _ _ _ _ he
    simp only [List.length_nil] at f2
    have hEl := HEL.out
    obtain ⟨L, hL⟩ : ∃ L, L = l.map bareE := ⟨_, rfl⟩
    have hLe : L.map (·.ent) = l := by rw [hL, bareE_ent]
    have hLl : L.length = l.length := by rw [hL, List.length_map]
    have g1 : ∀ x ∈ L, EntOk x.ent ∧ x.ent.name.size ≤ 60 := by
     intro x hx
     have : x.ent ∈ l := by rw [← hLe]; exact List.mem_map_of_mem hx
     rcases f3 _ this with h | ⟨h1, h2⟩
     ·cases h
     ·exact ⟨h1, (nameOk_size _ (faultOf_name _ h2)).1⟩
    have hcnt : L.length ≤ 50000000 := by omega
    rw [← hL] at ha hla
    rw [← hL]
    rw [← hLe] at HR2
    clear h3 f1 f2 f3 he hEl hL hLe hLl
    have HLA : Hid (0 < L.length → LstAt w3 g L ∧ ∀ i, w3.frozen? ⟨g, i, none⟩ = false) := hla
    have HA : Hid (0 < L.length → a = some ⟨g, 0, none⟩) := ha
    have HG : Hid (∀ x ∈ L, EntOk x.ent ∧ x.ent.name.size ≤ 60) := g1
    have HWN : Hid (∀ W, Touch (fun _ => False) w3 W → Calls Tryz.prog 26 #[.int .i64 qn, .slice a L.length cap, .func (.func 27) #[] #[]] W fun r w' => r = .returned (.bool (decide ((sumTo L (fun e => e.name.size) L.length : Int) ≤ qn))) ∧ Touch (fun _ => False) W w') :=
     fun W tW => withinN_c W qn hn a g cap L ha (fun h => (hla h).1.keep tW (fun e => e)) (by omega) (fun x hx => (g1 x hx).1)
    have HTW : Hid (∀ W, Touch (fun _ => False) w3 W → Calls Tryz.prog 28 #[.slice a L.length cap] W fun r w' => r = .returned (.bool (twiceGo L (fun _ => 0))) ∧ Touch (fun _ => False) W w') :=
     fun W tW => anyTwice_c W a g cap L ha (fun h => (hla h).1.keep tW (fun e => e)) (by omega) (fun x hx => (g1 x hx).2)
    have HFS : Hid (∀ W, Touch (fun _ => False) w3 W → Calls Tryz.prog 29 #[.slice a L.length cap, .string (s.extract 0 d.place)] W fun r w' => r = .returned (.bool (L.all fun x => spOk d.place s x.ent)) ∧ ((L.all fun x => spOk d.place s x.ent) = true → 0 < L.length → LstAt w' g (L.map (spun d.place s))) ∧ Touch (fun k => k = g) W w') :=
     fun W tW => findSpans_c W a g cap L s d.place ha (fun h => ⟨(hla h).1.keep tW (fun e => e), fun i => (tW.frozen (p := ⟨g, i, none⟩) (hla h).1.lt (fun e => e)).trans ((hla h).2 i)⟩) (by omega) (fun x hx => (g1 x hx).1) hpl (by omega)
    clear ha hla g1
    have k1 : w3.cell? ⟨w.heap.size, 1, none⟩ = some (.int .i64 qn) := by rw [row_cell bq3 1]; rfl
    go_wp2_with fail
    refine (HWN.out _ (Touch.refl _ _)).mono ?_
    rintro e w4 ⟨rfl, t4⟩
    have T4 := T3.trans t4
    have bd4 := (t4.block _ (Array.getElem?_eq_some_iff.1 bd3).1 (fun e => e)).trans bd3
    have bq4 := (t4.block _ (Array.getElem?_eq_some_iff.1 bq3).1 (fun e => e)).trans bq3
    clear k1 HWN
    by_cases hwn : (sumTo L (fun e => e.name.size) L.length : Int) ≤ qn
    case neg =>
     have hr : R = .error 13 := by
      rw [HR2.out]
      rw [if_pos]
      unfold namesSum; rw [← sumTo_all]; omega
     have FIN : Hid (∀ w', listPost w.heap.size R (.returned (.tuple #[.slice none 0 0, .int .i64 13])) w') := listPost_err _ _ 13 hr (by omega)
     rw [decide_eq_false hwn]
     clear HR2 hr
     go_wp2
     go_ret2
     exact ⟨T4, FIN.out _⟩
    rw [decide_eq_true hwn]
    have hr3 := HR2.out
    rw [if_neg (by unfold namesSum; rw [← sumTo_all]; omega), ← twice_eq] at hr3
    have HR3 : Hid _ := hr3
    clear hr3 HR2 hwn
    go_wp2_with fail
    refine (HTW.out _ t4).mono ?_
    rintro e w5 ⟨rfl, t5'⟩
    have t5 := t4.trans t5'
    have T5 := T3.trans t5
    have bd5 := (t5'.block _ (Array.getElem?_eq_some_iff.1 bd4).1 (fun e => e)).trans bd4
    have bq5 := (t5'.block _ (Array.getElem?_eq_some_iff.1 bq4).1 (fun e => e)).trans bq4
    clear t5' t4 HTW bd4 bq4
    cases htw : twiceGo L (fun _ => 0) with
    | true =>
     have hr : R = .error 8 := by rw [HR3.out, htw]; rfl
     have FIN : Hid (∀ w', listPost w.heap.size R (.returned (.tuple #[.slice none 0 0, .int .i64 8])) w') := listPost_err _ _ 8 hr (by omega)
     clear HR3 hr
     go_wp2
     go_ret2
     exact ⟨T5, FIN.out _⟩
    | false =>
     have hr4 := HR3.out
     rw [htw, if_neg (by simp), spansOf_eq s d.place hpl L] at hr4
     have HR4 : Hid _ := hr4
     clear hr4 HR3 htw
     have k2 : w5.cell? ⟨w1.heap.size, 2, none⟩ = some (.int .i64 (d.place : Int)) := by rw [row_cell bd5 2]; rfl
     have hpi : (d.place : Int) ≤ (s.size : Int) := by omega
     go_wp2_with fail
     refine (HFS.out _ t5).mono ?_
     rintro e w6 ⟨rfl, hls, t6⟩
     have hwg : w.heap.size ≤ g := by omega
     have T6 := T5.onNew t6 hwg
     have bq6 := (t6.block _ (Array.getElem?_eq_some_iff.1 bq5).1 (by show ¬ w.heap.size = g; omega)).trans bq5
     have l6 := (Array.getElem?_eq_some_iff.1 bq6).1
     clear HFS k2 bd5 bq5 bd3 bq3 t5 t6
     cases hall : (L.all fun x => spOk d.place s x.ent) with
     | false =>
      have hr : R = .error 9 := by rw [HR4.out, hall]; rfl
      have FIN : Hid (∀ w', listPost w.heap.size R (.returned (.tuple #[.slice none 0 0, .int .i64 9])) w') := listPost_err _ _ 9 hr (by omega)
      clear HR4 hr hls
      go_wp2
      go_ret2
      exact ⟨T6, FIN.out _⟩
     | true =>
      have hr5 := HR4.out
      rw [hall] at hr5
      have hr6 : R = if anyPair overB (L.map (spun d.place s)) then .error 10 else if qb < (sizesSum (L.map (·.ent)) : Int) then .error 13 else .ok (L.map (spun d.place s)) := hr5
      obtain ⟨M, hM⟩ : ∃ M, M = L.map (spun d.place s) := ⟨_, rfl⟩
      have hMl : L.length = M.length := by rw [hM, List.length_map]
      have hMe : M.map (·.ent) = L.map (·.ent) := by rw [hM, List.map_map]; rfl
      have hMs : ∀ x ∈ M, EntOk x.ent ∧ x.ent.name.size ≤ 60 ∧ x.ent.ahead < x.stop := by
       intro x hx
       rw [hM, List.mem_map] at hx
       obtain ⟨y, hy, rfl⟩ := hx
       have h1 := List.all_eq_true.1 hall y hy
       have h2 := spanAt_eq s d.place y.ent hpl
       rw [if_pos h1] at h2
       obtain ⟨s1, s2, s3⟩ := spanAt_ok _ _ _ _ _ h2
       exact ⟨(HG.out y hy).1, (HG.out y hy).2, by show y.ent.ahead < plOf d.place (spT d.place s y.ent); omega⟩
      have hLM := hls hall
      have HA2 := HA.out
      rw [← hM, ← hMe, ← over_eq] at hr6
      rw [← hM, hMl] at hLM
      rw [hMl] at HA2 hcnt
      have HAO : Hid (∀ W, Touch (fun _ => False) w6 W → Calls Tryz.prog 30 #[.slice a M.length cap] W fun r w' => r = .returned (.bool (anyPair meetB (M.map spanOf))) ∧ Touch (fun _ => False) W w') :=
       fun W tW => anyOverlap_c W a g cap M HA2 (fun h => (hLM h).keep tW (fun e => e)) (by omega) (fun x hx => (hMs x hx).2.2)
      have HWF : Hid (∀ W, Touch (fun _ => False) w6 W → Calls Tryz.prog 26 #[.int .i64 qb, .slice a M.length cap, .func (.func 31) #[] #[]] W fun r w' => r = .returned (.bool (decide ((sumTo M (fun e => e.size) M.length : Int) ≤ qb))) ∧ Touch (fun _ => False) W w') :=
       fun W tW => withinF_c W qb hb a g cap M HA2 (fun h => (hLM h).keep tW (fun e => e)) (by omega) (fun x hx => (hMs x hx).1)
      have HEO : Hid (∀ W, Touch (fun _ => False) w6 W → Calls Tryz.prog 32 #[.slice a M.length cap] W fun r w' => ∃ v, r = .returned v ∧ v ≠ .slice none 0 0 ∧ w'.ownsRow W.heap.size 44 6 v M.length (entV M) ∧ Touch (fun _ => False) W w') :=
       fun W tW => entriesOf_c W a g cap M HA2 (fun h => (hLM h).keep tW (fun e => e)) (by omega) (fun x hx => by have := (hMs x hx).2.1; omega)
      rw [hMl]
      have HR6 : Hid (R = if anyPair meetB (M.map spanOf) then .error 10 else if qb < (sizesSum (M.map (·.ent)) : Int) then .error 13 else .ok M) := hr6
      clear HR4 hr5 hr6 hM hMl hMe hMs hLM HA2 hall hls HG HA HLA
      go_wp2_with fail
      refine (HAO.out _ (Touch.refl _ _)).mono ?_
      rintro e w7 ⟨rfl, t7⟩
      have T7 := T6.trans t7
      have bq7 := (t7.block _ l6 (fun e => e)).trans bq6
      clear HAO bq6
      cases hov : anyPair meetB (M.map spanOf) with
      | true =>
       have hr : R = .error 10 := by rw [HR6.out, hov]; rfl
       have FIN : Hid (∀ w', listPost w.heap.size R (.returned (.tuple #[.slice none 0 0, .int .i64 10])) w') := listPost_err _ _ 10 hr (by omega)
       clear HR6 hr
       go_wp2
       go_ret2
       exact ⟨T7, FIN.out _⟩
      | false =>
       have hr7 := HR6.out
       rw [hov, if_neg (by simp)] at hr7
       have HR7 : Hid (R = if qb < (sizesSum (M.map (·.ent)) : Int) then .error 13 else .ok M) := hr7
       have k3 : w7.cell? ⟨w.heap.size, 2, none⟩ = some (.int .i64 qb) := by rw [row_cell bq7 2]; rfl
       clear HR6 hr7 hov
       go_wp2_with fail
       refine (HWF.out _ t7).mono ?_
       rintro e w8 ⟨rfl, t8'⟩
       have t8 := t7.trans t8'
       have T8 := T6.trans t8
       clear HWF k3 bq7 t7 t8'
       by_cases hwf : (sumTo M (fun e => e.size) M.length : Int) ≤ qb
       case neg =>
        have hr : R = .error 13 := by
         rw [HR7.out, if_pos]
         unfold sizesSum; rw [← sumTo_all]; omega
        have FIN : Hid (∀ w', listPost w.heap.size R (.returned (.tuple #[.slice none 0 0, .int .i64 13])) w') := listPost_err _ _ 13 hr (by omega)
        rw [decide_eq_false hwf]
        clear HR7 hr
        go_wp2
        go_ret2
        exact ⟨T8, FIN.out _⟩
       rw [decide_eq_true hwf]
       have HR8 : Hid (R = .ok M) := by
        unfold Hid; rw [HR7.out, if_neg]
        unfold sizesSum; rw [← sumTo_all]; omega
       clear HR7 hwf
       go_wp2_with fail
       refine (HEO.out _ t8).mono ?_
       rintro e w9 ⟨v, rfl, hv, ho9, t9⟩
       have T9 := T8.trans t9
       have hz8 := T8.size
       have FIN : Hid (listPost w.heap.size R (.returned (.tuple #[v, .int .i64 0])) w9) := by
        unfold Hid
        rw [HR8.out]
        obtain ⟨h1, ⟨h2, _⟩ | ⟨g', cap', cur, rfl, hb', hg, hrest⟩⟩ := ho9
        ·exact absurd h2 hv
        ·exact ⟨g', cap', rfl, h1, .inr ⟨g', cap', cur, rfl, by omega, hg, hrest⟩⟩
       clear HEO HR8 ho9 hv
       go_wp2
       go_ret2
       exact ⟨T9, FIN.out⟩
end Go.Proofs.YtnmkmmgaoplfiaaGreatDoor
