/- Texts of this seat, joined. -/
import Derived.Test.YtpckiobjpikmlaaGreatDoorJ37
import Derived.Test.YtpckiobjpikmlaaGreatDoorJ38
import Derived.Deep.RegionHeld3
import Derived.BigQuiet
set_option linter.unusedSimpArgs false
set_option linter.unusedVariables false
set_option maxRecDepth 100000
set_option maxHeartbeats 20000000
namespace Go.Proofs.YtpckiobjpikmlaaGreatDoor
open Go.RowKit Go.Shelf Go.Lib
theorem rlist_g3 (w : World) (s : ByteArray) (qe qn qb : Int) (hs : s.size ≤ 1048576) (d : Dir) (l : List Ent) (h3 : entsGo s d.stop d.count d.place [] = .ok l) (hnames : ¬ qn < (namesSum l : Int)) (hclash : anyPair (fun a b => clashB a.name b.name) l = false) (rr : List Spanned) (hspans : spansOf s d.place l = some rr) (h0 : dirOf s = .ok d) (h1 : ¬ qe < (d.count : Int)) (h2 : d.place ≤ d.stop ∧ d.size = d.stop - d.place) :
  Calls Tryz.prog 47 #[.string s, .agg #[.int .i64 qe, .int .i64 qn, .int .i64 qb]] w fun r w' => Touch (fun _ => False) w w' ∧ rlistPost w.heap.size (listOf s qe qn qb) r w' := by
 obtain ⟨i0, hi, hz0, hz1, hz2⟩ := info_parts Tryz.infoRefEntry
 have T0 : Touch (fun _ => False) w (w.alloc (Obj.cells #[.int .i64 qe, .int .i64 qn, .int .i64 qb] 44)) := (Touch.refl _ w).alloc _
 have bq0 := heap_alloc_new w (Obj.cells #[.int .i64 qe, .int .i64 qn, .int .i64 qb] 44)
 have HD : Hid (∀ W, Calls Tryz.prog 91 #[.string s] W fun e w' => e = .returned (dirV (dirOf s)) ∧ Touch (fun _ => False) W w') := fun W => rEnd_c W s (by omega)
 have hRR := listOf_rest s qe qn qb d l h0 h1 h2 h3
 have hall := entsGo_each s d.stop (dirOf_ok s d h0).1 _ _ _ _ h3 (fun e he => by cases he)
 obtain ⟨R, hR⟩ : ∃ R, R = listOf s qe qn qb := ⟨_, rfl⟩
 rw [← hR]
 rw [← hR] at hRR
 have hds := (dirOf_ok s d h0).1
 rw [h0] at HD
 obtain ⟨cn, sz, pl, st⟩ := d
 obtain ⟨hp, hz⟩ := h2
 simp only at *
 obtain ⟨Rs, hRs⟩ : ∃ Rs, Rs = entsGo s st cn pl [] := ⟨_, rfl⟩
 have hst : st ≤ s.size := hds
 have g0 : ¬ qe < (cn : Int) := h1
 have gq : decide (qe < (cn : Int)) = false := decide_eq_false h1
 have gd : decide (st < pl) = false := decide_eq_false (by omega)
 have g1 : ¬ (st : Int) < (pl : Int) := by omega
 have g2 : ((sz : Int) != (st : Int) - (pl : Int)) = false := by simp; omega
 have HRS : Hid (Rs = entsGo s st (cn - 0) pl []) := hRs
 have hRl : Rs = .ok l := hRs.trans h3
 have HRR : Hid (R = listRest s pl qn qb l) := hRR
 clear hR hRR hRs h0 h1 hds hz
 go_enter Tryz.func47, Tryz.ntmps47
 go_wp2_with fail
 refine (HD.out _).mono ?_
 rintro e w1 ⟨he, t1⟩
 obtain rfl := (show e = .returned (.tuple #[.agg #[.int .i64 (cn : Int), .int .i64 (sz : Int), .int .i64 (pl : Int), .int .i64 (st : Int)], .int .i64 0]) from he)
 have T1 := T0.trans t1
 have bq1 := (t1.block _ (by simp) (fun e => e)).trans bq0
 have q0 : w1.cell? ⟨w.heap.size, 0, none⟩ = some (.int .i64 qe) := by rw [row_cell bq1 0]; rfl
 have q1 : w1.cell? ⟨w.heap.size, 1, none⟩ = some (.int .i64 qn) := by rw [row_cell bq1 1]; rfl
 have q2 : w1.cell? ⟨w.heap.size, 2, none⟩ = some (.int .i64 qb) := by rw [row_cell bq1 2]; rfl
 have lq1 : w.heap.size < w1.heap.size := (Array.getElem?_eq_some_iff.1 bq1).1
 clear he t1 HD bq0 bq1 T0
 have C1 := CB.three q0 q1 q2 lq1
 have B1 := CB.new w1 [.int .i64 (cn : Int), .int .i64 (sz : Int), .int .i64 (pl : Int), .int .i64 (st : Int)] 180
 have A1 := C1.keep ((Touch.refl (fun _ => False) w1).alloc (Obj.cells #[.int .i64 (cn : Int), .int .i64 (sz : Int), .int .i64 (pl : Int), .int .i64 (st : Int)] 180)) (fun e => e)
 have T2 := T1.alloc (Obj.cells #[.int .i64 (cn : Int), .int .i64 (sz : Int), .int .i64 (pl : Int), .int .i64 (st : Int)] 180)
 have hS0 : w1.heap.size + 1 ≤ (w1.alloc (Obj.cells #[.int .i64 (cn : Int), .int .i64 (sz : Int), .int .i64 (pl : Int), .int .i64 (st : Int)] 180)).heap.size := by simp
 go_wp2
 go_loopw [8, 9, 10] (fun v p' i wr => ∃ (k p : Nat) (acc : List Ent), k ≤ cn ∧ acc.length = k ∧ i = .int .i64 (k : Int) ∧ p' = .int .i64 (p : Int) ∧ wr.ownsRow (w1.heap.size + 1) 185 13 v acc.length (refV acc) ∧ CB wr w.heap.size [.int .i64 qe, .int .i64 qn, .int .i64 qb] ∧ CB wr w1.heap.size [.int .i64 (cn : Int), .int .i64 (sz : Int), .int .i64 (pl : Int), .int .i64 (st : Int)] ∧ k * 46 + pl ≤ p ∧ p ≤ st ∧ Hid (Rs = entsGo s st (cn - k) p acc) ∧ Touch (fun _ => False) w wr ∧ w1.heap.size + 1 ≤ wr.heap.size) (fun v p' i wr => cn - (intOf i).toNat)
 case atStart => exact ⟨0, pl, [], Nat.zero_le _, rfl, rfl, rfl, World.ownsRow_nil _ _ _ _, A1, B1, by omega, hp, HRS, T2, hS0⟩
 case round =>
  obtain ⟨k, p, acc, hk, hacc, rfl, rfl, hro, hC, hB, hp46, hpst, HK, ht, hsz⟩ := hrel
  clear A1 B1 C1 T2 hS0 HRS T1 q0 q1 q2
  have b0 : wr.cell? ⟨w1.heap.size, 0, none⟩ = some (.int .i64 (cn : Int)) := hB.cells 0 (by simp)
  have b2 : wr.cell? ⟨w1.heap.size, 2, none⟩ = some (.int .i64 (pl : Int)) := hB.cells 2 (by simp)
  have b3 : wr.cell? ⟨w1.heap.size, 3, none⟩ = some (.int .i64 (st : Int)) := hB.cells 3 (by simp)
  by_cases hlt : k < cn
  ·have hlt' : (k : Int) < (cn : Int) := by omega
   have HX : Hid (Rs = match entAt s st p with
     | none => .error 5
     | some (e, q) => if faultOf e = 0 then entsGo s st (cn - (k + 1)) q (acc ++ [e]) else .error (faultOf e)) := by
    unfold Hid; rw [HK.out, show cn - k = (cn - (k + 1)) + 1 by omega]; rfl
   clear HK
   go_wp2_with fail
   refine (rEntry_c _ s st p hst (by omega) (by omega)).mono ?_
   rintro r w2 ⟨hr, t2⟩
   unfold rentPost at hr
   have T2 : Touch (fun _ => False) w w2 := ht.trans t2
   have hsz2 := t2.size
   have hro2 := t2.owns hro (fun _ _ h => h)
   have hC2 := hC.keep t2 (fun e => e)
   have hB2 := hB.keep t2 (fun e => e)
   clear t2 hro hC hB b0 b2 b3 ht
   cases hea : entAt s st p with
   | none =>
    rw [hea] at hr HX
    exfalso
    have hx : Rs = .error 5 := HX.out
    rw [hRl] at hx; cases hx
   | some eq =>
    obtain ⟨e, q⟩ := eq
    rw [hea] at hr HX
    obtain ⟨p1, p2, hok⟩ := entAt_ok s _ _ _ _ hea
    have HX' : Hid (Rs = if faultOf e = 0 then entsGo s st (cn - (k + 1)) q (acc ++ [e]) else .error (faultOf e)) := HX
    have hr' : if faultOf e = 0 then r = .returned (.tuple #[.agg (refL e (fourOf e) 0 0 0).toArray, .int .i64 (q : Int), .int .i64 0]) else anyE r (faultOf e) := hr
    clear HX hea hr
    by_cases hfa : faultOf e = 0
    ·have hx := HX'.out
     rw [if_pos hfa] at hx
     have HN : Hid (Rs = entsGo s st (cn - (k + 1)) q (acc ++ [e])) := hx
     rw [if_pos hfa] at hr'
     obtain rfl := (show r = .returned (.tuple #[.agg #[.string e.name, .int .i64 (e.method : Int), .int .i64 (e.sum : Int), .int .i64 (e.packed : Int), .int .i64 (e.size : Int), .int .i64 0, .int .i64 (e.flags : Int), .int .i64 (e.ahead : Int), .int .i64 ((fourOf e).1 : Int), .int .i64 ((fourOf e).2.1 : Int), .int .i64 ((fourOf e).2.2 : Int), .int .i64 0, .int .i64 0], .int .i64 (q : Int), .int .i64 0]) from hr')
     have HQ : Hid (∀ (j : Nat) (y : Value), (refC (rawE e))[j]? = some y → ((w2.alloc (Obj.cells #[.string e.name, .int .i64 (e.method : Int), .int .i64 (e.sum : Int), .int .i64 (e.packed : Int), .int .i64 (e.size : Int), .int .i64 0, .int .i64 (e.flags : Int), .int .i64 (e.ahead : Int), .int .i64 ((fourOf e).1 : Int), .int .i64 ((fourOf e).2.1 : Int), .int .i64 ((fourOf e).2.2 : Int), .int .i64 0, .int .i64 0] 185)).alloc (Obj.cells #[.string e.name, .int .i64 (e.method : Int), .int .i64 (e.sum : Int), .int .i64 (e.packed : Int), .int .i64 (e.size : Int), .int .i64 0, .int .i64 (e.flags : Int), .int .i64 (e.ahead : Int), .int .i64 ((fourOf e).1 : Int), .int .i64 ((fourOf e).2.1 : Int), .int .i64 ((fourOf e).2.2 : Int), .int .i64 0, .int .i64 0] 185)).cell? ((⟨w2.heap.size + 1, 0, none⟩ : Addr).add j) = some y) := by
      have := cell_list_new (w2.alloc (Obj.cells #[.string e.name, .int .i64 (e.method : Int), .int .i64 (e.sum : Int), .int .i64 (e.packed : Int), .int .i64 (e.size : Int), .int .i64 0, .int .i64 (e.flags : Int), .int .i64 (e.ahead : Int), .int .i64 ((fourOf e).1 : Int), .int .i64 ((fourOf e).2.1 : Int), .int .i64 ((fourOf e).2.2 : Int), .int .i64 0, .int .i64 0] 185)) (refC (rawE e)) 185
      rw [World.size_alloc] at this
      exact this
     have b3 : acc.length + 1 ≤ maxLen := by unfold maxLen; omega
     have b4 : (acc.length + 1) * 112 ≤ 140737488355328 := by omega
     have hro3 := (hro2.alloc (Obj.cells #[.string e.name, .int .i64 (e.method : Int), .int .i64 (e.sum : Int), .int .i64 (e.packed : Int), .int .i64 (e.size : Int), .int .i64 0, .int .i64 (e.flags : Int), .int .i64 (e.ahead : Int), .int .i64 ((fourOf e).1 : Int), .int .i64 ((fourOf e).2.1 : Int), .int .i64 ((fourOf e).2.2 : Int), .int .i64 0, .int .i64 0] 185)).alloc (Obj.cells #[.string e.name, .int .i64 (e.method : Int), .int .i64 (e.sum : Int), .int .i64 (e.packed : Int), .int .i64 (e.size : Int), .int .i64 0, .int .i64 (e.flags : Int), .int .i64 (e.ahead : Int), .int .i64 ((fourOf e).1 : Int), .int .i64 ((fourOf e).2.1 : Int), .int .i64 ((fourOf e).2.2 : Int), .int .i64 0, .int .i64 0] 185)
     clear hx HX' hr'
     revert HQ HN hok hro3
     obtain ⟨f1, hf1⟩ : ∃ f, f = (fourOf e).1 := ⟨_, rfl⟩
     obtain ⟨f2, hf2⟩ : ∃ f, f = (fourOf e).2.1 := ⟨_, rfl⟩
     obtain ⟨f3, hf3⟩ : ∃ f, f = (fourOf e).2.2 := ⟨_, rfl⟩
     rw [← hf1, ← hf2, ← hf3]
     clear hf1 hf2 hf3
     intro hok HN HQ hro3
     go_wp2_with (at_builtin; refine wpList_append_own _ rfl _ _ 133 rfl (w1.heap.size + 1) 185 i0 (.agg #[.string ⟨#[]⟩, .int .i64 0, .int .i64 0, .int .i64 0, .int .i64 0, .int .i64 0, .int .i64 0, .int .i64 0, .int .i64 0, .int .i64 0, .int .i64 0, .int .i64 0, .int .i64 0]) 13 112 Tryz.underlying133 hi hz0 hz1 hz2 rfl (by decide) _ _ _ rfl hro3 ⟨w2.heap.size + 1, 0, none⟩ 1 1 (refC (rawE e)) rfl rfl HQ.out (by simp [refC, refL, rawE, Value.oneCell']) b3 b4 (by simp; omega) ?_; intro v' w3 hown' hgrow hnil)
     have hrowB : ∀ q, u8.ownBlock = some q → w1.heap.size + 1 ≤ q := fun q hq => (hro2.lt q hq).1
     have TB : Touch (fun q => u8.ownBlock = some q) w2 w3 := (((Touch.refl (fun q => u8.ownBlock = some q) w2).alloc _).alloc _).grown hgrow (fun q hq => hq)
     have hsz3 := TB.size
     go_roundw
     case rel =>
      refine ⟨k + 1, q, acc ++ [e], by omega, by simp; omega, by go_num, rfl, ?_, ?_, ?_, by omega, by omega, HN, ?_, by omega⟩
      ·rw [refV_snoc, List.length_append]; exact hown'
      ·refine hC2.keep TB (fun e => ?_)
       have := hrowB _ e; omega
      ·refine hB2.keep TB (fun e => ?_)
       have := hrowB _ e; omega
      ·exact ((T2.alloc _).alloc _).grownNew hgrow (fun q hq => by have := hrowB q hq; omega)
     case measure => simp [intOf]; omega
    ·have hx := HX'.out
     rw [if_neg hfa] at hx
     exfalso
     rw [hRl] at hx; cases hx
  ·obtain rfl : cn = k := by omega
   have hx := HK.out
   rw [Nat.sub_self] at hx
   have hx' : Rs = if p = st then .ok acc else .error 5 := hx
   by_cases hpe : p = st
   case neg => exfalso; rw [if_neg hpe] at hx'; rw [hRl] at hx'; cases hx'
   rw [if_pos hpe, hRl] at hx'
   cases hx'
   subst hpe
   have hln := (entsGo_ok s p _ _ _ _ h3).2.1
   simp only [List.length_nil] at hln
   obtain ⟨a, cap, g, rfl, hge, hRf⟩ := Refs.owned hro
   have q1 : wr.cell? ⟨w.heap.size, 1, none⟩ = some (.int .i64 qn) := hC.cells 1 (by simp)
   have g4 : ((p : Int) != (p : Int)) = false := by simp
   obtain ⟨n, hn⟩ : ∃ n, n = l.length := ⟨_, rfl⟩
   have HNN : Hid (n = l.length) := hn
   have hn2 : n ≤ 22796 := by omega
   rw [← hn]
   obtain ⟨e0, he0⟩ : ∃ e, e = w1.heap.size := ⟨_, rfl⟩
   rw [← he0] at hB hge hsz b0 b2 b3
   have hg1 : w.heap.size ≤ g := by omega
   have hg2 : w.heap.size ≠ g := by omega
   have hge0 : e0 ≠ g := by omega
   rw [← he0]
   clear he0
   obtain ⟨SN, hSN⟩ : ∃ f, f = sumE l (fun e => e.name.size) := ⟨_, rfl⟩
   obtain ⟨SZ, hSZ⟩ : ∃ f, f = sumE l (fun e => e.size) := ⟨_, rfl⟩
   have HS1 : Hid (∀ k (h : k < l.length), SN (k + 1) = SN k + l[k].name.size) := fun k h => by rw [hSN]; exact sumE_succ l _ k h
   have HS2 : Hid (∀ k (h : k < l.length), SZ (k + 1) = SZ k + l[k].size) := fun k h => by rw [hSZ]; exact sumE_succ l _ k h
   have HS3 : Hid (∀ k, k ≤ l.length → SN k ≤ k * 65536) := fun k h => by rw [hSN]; exact sumE_le l _ _ (fun e he => Nat.le_of_lt (hall e he).1.name) k h
   have HS4 : Hid (∀ k, k ≤ l.length → SZ k ≤ k * 1099511627776) := fun k h => by rw [hSZ]; exact sumE_le l _ _ (fun e he => (hall e he).1.size) k h
   have HS0 : Hid (SN 0 = 0 ∧ SZ 0 = 0) := by rw [hSN, hSZ]; exact ⟨rfl, rfl⟩
   have HSN : Hid (SN n = namesSum l) := by rw [hSN, hn]; exact sumE_all l _
   have HSZ : Hid (SZ n = sizesSum l) := by rw [hSZ, hn]; exact sumE_all l _
   have HALL : Hid (∀ e ∈ l, EntOk e ∧ faultOf e = 0 ∧ e.three.size = 12) := hall
   clear hSN hSZ hn hro hx HK hp46 hpst hlt hall h3 hRl
   go_wp2
   go_loop [14, 15, 16] (fun x y i => ∃ k : Nat, k ≤ n ∧ i = .int .i64 (k : Int) ∧ x = .int .i64 (SN k : Int) ∧ y = .int .i64 (SZ k : Int)) (fun x y i => n - (intOf i).toNat)
   case atStart => exact ⟨0, Nat.zero_le _, rfl, by rw [HS0.out.1]; rfl, by rw [HS0.out.2]; rfl⟩
   case round =>
    obtain ⟨k, hk, rfl, rfl, rfl⟩ := hrel
    by_cases hlt : k < n
    ·have hlt' : k < l.length := by have := HNN.out; omega
     obtain rfl := hRf.ptr (by rw [List.length_map]; omega)
     have hcl := (hRf.at_ (by rw [List.length_map]; omega)).cells k (by rw [List.length_map]; omega)
     rw [List.getElem_map] at hcl
     have c0 : wr.cell? ⟨g, k * 13, none⟩ = some (.string l[k].name) := hcl 0 (by omega)
     have c4 : wr.cell? ⟨g, k * 13 + 4, none⟩ = some (.int .i64 (l[k].size : Int)) := hcl 4 (by omega)
     have s1 := HS1.out k hlt'
     have s2 := HS2.out k hlt'
     have s3 := HS3.out (k + 1) (by omega)
     have s4 := HS4.out (k + 1) (by omega)
     have H1 : Hid (SN (k + 1) = SN k + l[k].name.size) := s1
     have H2 : Hid (SZ (k + 1) = SZ k + l[k].size) := s2
     have d1 : SN k + l[k].name.size ≤ 4611686018427387904 := by omega
     have d2 : SZ k + l[k].size ≤ 4611686018427387904 := by omega
     clear hcl s1 s2 s3 s4
     revert c0 c4 H1 H2 d1 d2
     generalize l[k] = x
     intro c0 c4 H1 H2 d1 d2
     go_wp2
     exact ⟨⟨k + 1, by omega, by go_num, by rw [H1.out]; push_cast; rfl, by rw [H2.out]; push_cast; rfl⟩, by simp [intOf]; omega⟩
    ·obtain rfl : k = n := by omega
     have s3 := HS3.out k (by have := HNN.out; omega)
     have s4 := HS4.out k (by have := HNN.out; omega)
     have u3 : SN k ≤ 4611686018427387904 := by omega
     have u4 : SZ k ≤ 4611686018427387904 := by omega
     clear HS0 HS1 HS2 HS3 HS4 s3 s4 hk hlt
     by_cases hq : qn < (SN k : Int)
     ·exfalso; rw [HSN.out] at hq; omega
     have HNQ : Hid ((namesSum l : Int) ≤ qn) := by unfold Hid; rw [← HSN.out]; omega
     have HNP : Hid (NoPair (fun a b => clashB a.name b.name) l 0) := by intro a b ha hb h1 h2; omega
     go_wp2
     go_loopw [17] (fun i wr => ∃ m : Nat, m ≤ k ∧ i = .int .i64 (m : Int) ∧ Hid (NoPair (fun a b => clashB a.name b.name) l m) ∧ Refs wr a g (l.map rawE) ∧ CB wr w.heap.size [.int .i64 qe, .int .i64 qn, .int .i64 qb] ∧ CB wr e0 [.int .i64 (cn : Int), .int .i64 (sz : Int), .int .i64 (pl : Int), .int .i64 (p : Int)] ∧ Touch (fun _ => False) w wr) (fun i wr => k - (intOf i).toNat)
     case atStart => exact ⟨0, Nat.zero_le _, rfl, HNP, hRf, hC, hB, ht⟩
     case round =>
      clear hRf hC hB ht b0 b2 b3 HNP q1 hsz
      obtain ⟨m, hm, rfl, HM, hRf, hC, hB, ht⟩ := hrel
      by_cases hmk : m < k
      ·have hm' : m < l.length := by have := HNN.out; omega
       go_wp2
       go_loopw [18] (fun i wr => ∃ j : Nat, j ≤ m ∧ i = .int .i64 (j : Int) ∧ Hid (∀ i' (hi : i' < m), i' < j → clashB (l[i']'(Nat.lt_trans hi hm')).name l[m].name = false) ∧ Refs wr a g (l.map rawE) ∧ CB wr w.heap.size [.int .i64 qe, .int .i64 qn, .int .i64 qb] ∧ CB wr e0 [.int .i64 (cn : Int), .int .i64 (sz : Int), .int .i64 (pl : Int), .int .i64 (p : Int)] ∧ Touch (fun _ => False) w wr) (fun i wr => m - (intOf i).toNat)
       case atStart => exact ⟨0, Nat.zero_le _, rfl, by intro i' h h'; omega, hRf, hC, hB, ht⟩
       case round =>
        clear hRf hC hB ht
        obtain ⟨j, hj, rfl, HJ, hRf, hC, hB, ht⟩ := hrel
        by_cases hjm : j < m
        ·obtain rfl := hRf.ptr (by rw [List.length_map]; omega)
         have hRa := hRf.at_ (by rw [List.length_map]; omega)
         have ccl := hRa.cells j (by rw [List.length_map]; omega)
         have dcl := hRa.cells m (by rw [List.length_map]; omega)
         rw [List.getElem_map] at ccl dcl
         have c0 : wr.cell? ⟨g, j * 13, none⟩ = some (.string l[j].name) := ccl 0 (by omega)
         have c1 : wr.cell? ⟨g, j * 13 + 1, none⟩ = some (.int .i64 (l[j].method : Int)) := ccl 1 (by omega)
         have c2 : wr.cell? ⟨g, j * 13 + 2, none⟩ = some (.int .i64 (l[j].sum : Int)) := ccl 2 (by omega)
         have c3 : wr.cell? ⟨g, j * 13 + 3, none⟩ = some (.int .i64 (l[j].packed : Int)) := ccl 3 (by omega)
         have c4 : wr.cell? ⟨g, j * 13 + 4, none⟩ = some (.int .i64 (l[j].size : Int)) := ccl 4 (by omega)
         have c5 : wr.cell? ⟨g, j * 13 + 5, none⟩ = some (.int .i64 0) := ccl 5 (by omega)
         have c6 : wr.cell? ⟨g, j * 13 + 6, none⟩ = some (.int .i64 (l[j].flags : Int)) := ccl 6 (by omega)
         have c7 : wr.cell? ⟨g, j * 13 + 7, none⟩ = some (.int .i64 (l[j].ahead : Int)) := ccl 7 (by omega)
         have c8 : wr.cell? ⟨g, j * 13 + 8, none⟩ = some (.int .i64 ((fourOf l[j]).1 : Int)) := ccl 8 (by omega)
         have c9 : wr.cell? ⟨g, j * 13 + 9, none⟩ = some (.int .i64 ((fourOf l[j]).2.1 : Int)) := ccl 9 (by omega)
         have c10 : wr.cell? ⟨g, j * 13 + 10, none⟩ = some (.int .i64 ((fourOf l[j]).2.2 : Int)) := ccl 10 (by omega)
         have c11 : wr.cell? ⟨g, j * 13 + 11, none⟩ = some (.int .i64 0) := ccl 11 (by omega)
         have c12 : wr.cell? ⟨g, j * 13 + 12, none⟩ = some (.int .i64 0) := ccl 12 (by omega)
         have d0 : wr.cell? ⟨g, m * 13, none⟩ = some (.string l[m].name) := dcl 0 (by omega)
         have d1 : wr.cell? ⟨g, m * 13 + 1, none⟩ = some (.int .i64 (l[m].method : Int)) := dcl 1 (by omega)
         have d2 : wr.cell? ⟨g, m * 13 + 2, none⟩ = some (.int .i64 (l[m].sum : Int)) := dcl 2 (by omega)
         have d3 : wr.cell? ⟨g, m * 13 + 3, none⟩ = some (.int .i64 (l[m].packed : Int)) := dcl 3 (by omega)
         have d4 : wr.cell? ⟨g, m * 13 + 4, none⟩ = some (.int .i64 (l[m].size : Int)) := dcl 4 (by omega)
         have d5 : wr.cell? ⟨g, m * 13 + 5, none⟩ = some (.int .i64 0) := dcl 5 (by omega)
         have d6 : wr.cell? ⟨g, m * 13 + 6, none⟩ = some (.int .i64 (l[m].flags : Int)) := dcl 6 (by omega)
         have d7 : wr.cell? ⟨g, m * 13 + 7, none⟩ = some (.int .i64 (l[m].ahead : Int)) := dcl 7 (by omega)
         have d8 : wr.cell? ⟨g, m * 13 + 8, none⟩ = some (.int .i64 ((fourOf l[m]).1 : Int)) := dcl 8 (by omega)
         have d9 : wr.cell? ⟨g, m * 13 + 9, none⟩ = some (.int .i64 ((fourOf l[m]).2.1 : Int)) := dcl 9 (by omega)
         have d10 : wr.cell? ⟨g, m * 13 + 10, none⟩ = some (.int .i64 ((fourOf l[m]).2.2 : Int)) := dcl 10 (by omega)
         have d11 : wr.cell? ⟨g, m * 13 + 11, none⟩ = some (.int .i64 0) := dcl 11 (by omega)
         have d12 : wr.cell? ⟨g, m * 13 + 12, none⟩ = some (.int .i64 0) := dcl 12 (by omega)
         have o1 := HALL.out l[j] (List.getElem_mem _)
         have o2 := HALL.out l[m] (List.getElem_mem _)
         have p1 := name_pos _ (faultOf_name _ o1.2.1)
         have p2 := name_pos _ (faultOf_name _ o2.2.1)
         have p3 := (nameOk_size _ (faultOf_name _ o1.2.1)).1
         have p4 := (nameOk_size _ (faultOf_name _ o2.2.1)).1
         have HT8 : Hid (clashB l[j].name l[m].name = true → anyPair (fun a b => clashB a.name b.name) l = true) := fun h => anyPair_true j m (by omega) hm' hjm h
         have HST : Hid (clashB l[j].name l[m].name = false → ∀ i' (hi : i' < m), i' < j + 1 → clashB (l[i']'(Nat.lt_trans hi hm')).name l[m].name = false) := fun h i' hi h' => by
          by_cases e : i' = j
          ·subst e; exact h
          ·exact HJ.out i' hi (by omega)
         clear ccl dcl o1 o2 hRa HJ
         have KEEP : Hid (∀ W, Touch (fun _ => False) wr W → Refs W (some ⟨g, 0, none⟩) g (l.map rawE) ∧ CB W w.heap.size [.int .i64 qe, .int .i64 qn, .int .i64 qb] ∧ CB W e0 [.int .i64 (cn : Int), .int .i64 (sz : Int), .int .i64 (pl : Int), .int .i64 (p : Int)] ∧ Touch (fun _ => False) w W) := fun W T => ⟨hRf.keep T (fun e => e), hC.keep T (fun e => e), hB.keep T (fun e => e), ht.trans T⟩
         have HCL : Hid (∀ W, Calls Tryz.prog 93 #[.agg #[.string l[j].name, .int .i64 (l[j].method : Int), .int .i64 (l[j].sum : Int), .int .i64 (l[j].packed : Int), .int .i64 (l[j].size : Int), .int .i64 0, .int .i64 (l[j].flags : Int), .int .i64 (l[j].ahead : Int), .int .i64 ((fourOf l[j]).1 : Int), .int .i64 ((fourOf l[j]).2.1 : Int), .int .i64 ((fourOf l[j]).2.2 : Int), .int .i64 0, .int .i64 0], .agg #[.string l[m].name, .int .i64 (l[m].method : Int), .int .i64 (l[m].sum : Int), .int .i64 (l[m].packed : Int), .int .i64 (l[m].size : Int), .int .i64 0, .int .i64 (l[m].flags : Int), .int .i64 (l[m].ahead : Int), .int .i64 ((fourOf l[m]).1 : Int), .int .i64 ((fourOf l[m]).2.1 : Int), .int .i64 ((fourOf l[m]).2.2 : Int), .int .i64 0, .int .i64 0]] W fun e w' => e = .returned (.bool (clashB l[j].name l[m].name)) ∧ Touch (fun _ => False) W w') := fun W => rclash_c W _ _ p1 p2 (by omega) (by omega) _ _ _ _ _ _ _ _ _ _ _ _ _ _ _ _ _ _ _ _ _ _ _ _
         clear p1 p2 p3 p4 hRf hC hB ht
         revert c0 c1 c2 c3 c4 c5 c6 c7 c8 c9 c10 c11 c12 d0 d1 d2 d3 d4 d5 d6 d7 d8 d9 d10 d11 d12 HT8 HST HCL
         generalize l[j] = x
         generalize l[m] = y
         obtain ⟨xf1, hx1⟩ : ∃ f, f = (fourOf x).1 := ⟨_, rfl⟩
         obtain ⟨xf2, hx2⟩ : ∃ f, f = (fourOf x).2.1 := ⟨_, rfl⟩
         obtain ⟨xf3, hx3⟩ : ∃ f, f = (fourOf x).2.2 := ⟨_, rfl⟩
         obtain ⟨yf1, hy1⟩ : ∃ f, f = (fourOf y).1 := ⟨_, rfl⟩
         obtain ⟨yf2, hy2⟩ : ∃ f, f = (fourOf y).2.1 := ⟨_, rfl⟩
         obtain ⟨yf3, hy3⟩ : ∃ f, f = (fourOf y).2.2 := ⟨_, rfl⟩
         rw [← hx1, ← hx2, ← hx3, ← hy1, ← hy2, ← hy3]
         clear hx1 hx2 hx3 hy1 hy2 hy3
         generalize clashB x.name y.name = cb
         intro c0 c1 c2 c3 c4 c5 c6 c7 c8 c9 c10 c11 c12 d0 d1 d2 d3 d4 d5 d6 d7 d8 d9 d10 d11 d12 HT8 HST HCL
         have i1 : (j : Int) < (k : Int) := by omega
         have i2 : (m : Int) < (k : Int) := by omega
         go_wp2
         go_region_held3 (fun X => X.cell? ⟨g, j * 13, none⟩ = some (.string x.name) ∧ X.cell? ⟨g, j * 13 + 1, none⟩ = some (.int .i64 (x.method : Int)) ∧ X.cell? ⟨g, j * 13 + 2, none⟩ = some (.int .i64 (x.sum : Int)) ∧ X.cell? ⟨g, j * 13 + 3, none⟩ = some (.int .i64 (x.packed : Int)) ∧ X.cell? ⟨g, j * 13 + 4, none⟩ = some (.int .i64 (x.size : Int)) ∧ X.cell? ⟨g, j * 13 + 5, none⟩ = some (.int .i64 0) ∧ X.cell? ⟨g, j * 13 + 6, none⟩ = some (.int .i64 (x.flags : Int)) ∧ X.cell? ⟨g, j * 13 + 7, none⟩ = some (.int .i64 (x.ahead : Int)) ∧ X.cell? ⟨g, j * 13 + 8, none⟩ = some (.int .i64 (xf1 : Int)) ∧ X.cell? ⟨g, j * 13 + 9, none⟩ = some (.int .i64 (xf2 : Int)) ∧ X.cell? ⟨g, j * 13 + 10, none⟩ = some (.int .i64 (xf3 : Int)) ∧ X.cell? ⟨g, j * 13 + 11, none⟩ = some (.int .i64 0) ∧ X.cell? ⟨g, j * 13 + 12, none⟩ = some (.int .i64 0) ∧ X.cell? ⟨g, m * 13, none⟩ = some (.string y.name) ∧ X.cell? ⟨g, m * 13 + 1, none⟩ = some (.int .i64 (y.method : Int)) ∧ X.cell? ⟨g, m * 13 + 2, none⟩ = some (.int .i64 (y.sum : Int)) ∧ X.cell? ⟨g, m * 13 + 3, none⟩ = some (.int .i64 (y.packed : Int)) ∧ X.cell? ⟨g, m * 13 + 4, none⟩ = some (.int .i64 (y.size : Int)) ∧ X.cell? ⟨g, m * 13 + 5, none⟩ = some (.int .i64 0) ∧ X.cell? ⟨g, m * 13 + 6, none⟩ = some (.int .i64 (y.flags : Int)) ∧ X.cell? ⟨g, m * 13 + 7, none⟩ = some (.int .i64 (y.ahead : Int)) ∧ X.cell? ⟨g, m * 13 + 8, none⟩ = some (.int .i64 (yf1 : Int)) ∧ X.cell? ⟨g, m * 13 + 9, none⟩ = some (.int .i64 (yf2 : Int)) ∧ X.cell? ⟨g, m * 13 + 10, none⟩ = some (.int .i64 (yf3 : Int)) ∧ X.cell? ⟨g, m * 13 + 11, none⟩ = some (.int .i64 0) ∧ X.cell? ⟨g, m * 13 + 12, none⟩ = some (.int .i64 0)) (first | exact ⟨c0, c1, c2, c3, c4, c5, c6, c7, c8, c9, c10, c11, c12, d0, d1, d2, d3, d4, d5, d6, d7, d8, d9, d10, d11, d12⟩ | exact ⟨t3.at c0 (fun e => e), t3.at c1 (fun e => e), t3.at c2 (fun e => e), t3.at c3 (fun e => e), t3.at c4 (fun e => e), t3.at c5 (fun e => e), t3.at c6 (fun e => e), t3.at c7 (fun e => e), t3.at c8 (fun e => e), t3.at c9 (fun e => e), t3.at c10 (fun e => e), t3.at c11 (fun e => e), t3.at c12 (fun e => e), t3.at d0 (fun e => e), t3.at d1 (fun e => e), t3.at d2 (fun e => e), t3.at d3 (fun e => e), t3.at d4 (fun e => e), t3.at d5 (fun e => e), t3.at d6 (fun e => e), t3.at d7 (fun e => e), t3.at d8 (fun e => e), t3.at d9 (fun e => e), t3.at d10 (fun e => e), t3.at d11 (fun e => e), t3.at d12 (fun e => e)⟩ | assumption | go_keep) (first | (go_at_call 93; refine (HCL.out _).mono ?_; rintro e w3 ⟨rfl, t3⟩))
         all_goals
          obtain ⟨hRf, hC, hB, T3⟩ := KEEP.out w3 (((Touch.refl (fun _ => False) wr).drew).trans t3)
          clear c0 c1 c2 c3 c4 c5 c6 c7 c8 c9 c10 c11 c12 d0 d1 d2 d3 d4 d5 d6 d7 d8 d9 d10 d11 d12 HCL KEEP
          cases hc : cb with
          | true =>
           exfalso; have := HT8.out hc; rw [hclash] at this; cases this
          | false =>
           have HSS := HST.out hc
           have HS5 : Hid _ := HSS
           clear HSS HST HT8
           go_wp2
           exact ⟨⟨j + 1, by omega, by go_num, HS5, hRf, hC, hB, T3⟩, by simp [intOf]; omega⟩
        ·obtain rfl : j = m := by omega
         have HM2 : Hid (NoPair (fun a b => clashB a.name b.name) l (j + 1)) := HM.out.step hm' (fun i' hi => HJ.out i' hi hi)
         clear HJ HM
         go_wp2
         exact ⟨⟨j + 1, by omega, by go_num, HM2, hRf, hC, hB, ht⟩, by simp [intOf]; omega⟩
      ·obtain rfl : k = m := by omega
       have HM0 : Hid (∀ i' (hi : i' < l.length), i' < 0 → spanAt s pl l[i'] ≠ none) := by intro i' hi h; omega
       clear HM
       rw [← putTo_zero (fun e => spnE (spnOf s pl e)) l] at hRf
       go_wp2
       go_loopw [20] (fun i wr => ∃ m : Nat, m ≤ k ∧ i = .int .i64 (m : Int) ∧ Hid (∀ i' (hi : i' < l.length), i' < m → spanAt s pl l[i'] ≠ none) ∧ Refs wr a g (putTo (fun e => spnE (spnOf s pl e)) l m) ∧ CB wr w.heap.size [.int .i64 qe, .int .i64 qn, .int .i64 qb] ∧ CB wr e0 [.int .i64 (cn : Int), .int .i64 (sz : Int), .int .i64 (pl : Int), .int .i64 (p : Int)] ∧ Touch (fun _ => False) w wr) (fun i wr => k - (intOf i).toNat)
       case atStart => exact ⟨0, Nat.zero_le _, rfl, HM0, hRf, hC, hB, ht⟩
       case round =>
        clear hRf hC hB ht HM0
        obtain ⟨m, hm, rfl, HM, hRf, hC, hB, ht⟩ := hrel
        by_cases hmk : m < k
        ·have hm' : m < l.length := by have := HNN.out; omega
         obtain rfl := hRf.ptr (by rw [putTo_len]; omega)
         have hRa := hRf.at_ (by rw [putTo_len]; omega)
         have ccl := hRa.cells m (by rw [putTo_len]; omega)
         rw [putTo_get _ l m m hm', if_neg (Nat.lt_irrefl _)] at ccl
         have c0 : wr.cell? ⟨g, m * 13, none⟩ = some (.string l[m].name) := ccl 0 (by omega)
         have c1 : wr.cell? ⟨g, m * 13 + 1, none⟩ = some (.int .i64 (l[m].method : Int)) := ccl 1 (by omega)
         have c2 : wr.cell? ⟨g, m * 13 + 2, none⟩ = some (.int .i64 (l[m].sum : Int)) := ccl 2 (by omega)
         have c3 : wr.cell? ⟨g, m * 13 + 3, none⟩ = some (.int .i64 (l[m].packed : Int)) := ccl 3 (by omega)
         have c4 : wr.cell? ⟨g, m * 13 + 4, none⟩ = some (.int .i64 (l[m].size : Int)) := ccl 4 (by omega)
         have c5 : wr.cell? ⟨g, m * 13 + 5, none⟩ = some (.int .i64 0) := ccl 5 (by omega)
         have c6 : wr.cell? ⟨g, m * 13 + 6, none⟩ = some (.int .i64 (l[m].flags : Int)) := ccl 6 (by omega)
         have c7 : wr.cell? ⟨g, m * 13 + 7, none⟩ = some (.int .i64 (l[m].ahead : Int)) := ccl 7 (by omega)
         have c8 : wr.cell? ⟨g, m * 13 + 8, none⟩ = some (.int .i64 ((fourOf l[m]).1 : Int)) := ccl 8 (by omega)
         have c9 : wr.cell? ⟨g, m * 13 + 9, none⟩ = some (.int .i64 ((fourOf l[m]).2.1 : Int)) := ccl 9 (by omega)
         have c10 : wr.cell? ⟨g, m * 13 + 10, none⟩ = some (.int .i64 ((fourOf l[m]).2.2 : Int)) := ccl 10 (by omega)
         have c11 : wr.cell? ⟨g, m * 13 + 11, none⟩ = some (.int .i64 0) := ccl 11 (by omega)
         have c12 : wr.cell? ⟨g, m * 13 + 12, none⟩ = some (.int .i64 0) := ccl 12 (by omega)
         have b2 : wr.cell? ⟨e0, 2, none⟩ = some (.int .i64 (pl : Int)) := hB.cells 2 (by simp)
         have o1 := HALL.out l[m] (List.getElem_mem _)
         have HMEM : Hid (l[m] ∈ l) := List.getElem_mem _
         have HSTP : Hid (spanAt s pl l[m] ≠ none → ∀ i' (hi : i' < l.length), i' < m + 1 → spanAt s pl l[i'] ≠ none) := fun h i' hi h' => by
          by_cases e : i' = m
          ·subst e; exact h
          ·exact HM.out i' hi (by omega)
         have HPUT : Hid (∀ W (sb stp : Nat), spanAt s pl l[m] = some (sb, stp) → Touch (fun _ => False) wr W → Refs (((W.setCell ⟨g, m * 13 + 5, none⟩ (.int .i64 (sb : Int))).setCell ⟨g, m * 13 + 11, none⟩ (.int .i64 (l[m].ahead : Int))).setCell ⟨g, m * 13 + 12, none⟩ (.int .i64 (stp : Int))) (some ⟨g, 0, none⟩) g (putTo (fun e => spnE (spnOf s pl e)) l (m + 1))) := fun W sb stp h T => hRa.putIn hm' h T
         have HAH : Hid (∀ W, Calls Tryz.prog 94 #[.string s, .agg #[.string l[m].name, .int .i64 (l[m].method : Int), .int .i64 (l[m].sum : Int), .int .i64 (l[m].packed : Int), .int .i64 (l[m].size : Int), .int .i64 0, .int .i64 (l[m].flags : Int), .int .i64 (l[m].ahead : Int), .int .i64 ((fourOf l[m]).1 : Int), .int .i64 ((fourOf l[m]).2.1 : Int), .int .i64 ((fourOf l[m]).2.2 : Int), .int .i64 0, .int .i64 0], .int .i64 (pl : Int)] W fun e w' => e = .returned (spanV (spanAt s pl l[m])) ∧ Touch (fun _ => False) W w') := fun W => rAhead_c W s pl l[m] (by omega) (by omega) o1.1 o1.2.2
         have fz : ∀ i, wr.frozen? ⟨g, i, none⟩ = false := hRa.frozen
         have glt := hRa.lt
         clear ccl o1 hRa hRf HM
         revert c0 c1 c2 c3 c4 c5 c6 c7 c8 c9 c10 c11 c12 HMEM HSTP HPUT HAH
         generalize l[m] = x
         obtain ⟨xf1, hx1⟩ : ∃ f, f = (fourOf x).1 := ⟨_, rfl⟩
         obtain ⟨xf2, hx2⟩ : ∃ f, f = (fourOf x).2.1 := ⟨_, rfl⟩
         obtain ⟨xf3, hx3⟩ : ∃ f, f = (fourOf x).2.2 := ⟨_, rfl⟩
         rw [← hx1, ← hx2, ← hx3]
         clear hx1 hx2 hx3
         intro c0 c1 c2 c3 c4 c5 c6 c7 c8 c9 c10 c11 c12 HMEM HSTP HPUT HAH
         have i2 : (m : Int) < (k : Int) := by omega
         cases hsp : spanAt s pl x with
         | none =>
          rw [hsp] at HAH
          simp only [spanV] at HAH
          exfalso; have := spansOf_none_of s pl l _ HMEM.out hsp; rw [hspans] at this; cases this
         | some bt =>
          obtain ⟨sb, stp⟩ := bt
          rw [hsp] at HAH
          simp only [spanV] at HAH
          have HS6 := HSTP.out (by rw [hsp]; simp)
          have HS7 : Hid _ := HS6
          have HP7 := fun W => HPUT.out W sb stp hsp
          have HP8 : Hid _ := HP7
          clear HS6 HSTP HPUT HP7 hsp HMEM
          go_wp2
          go_region_held3 (fun X => X.cell? ⟨g, m * 13, none⟩ = some (.string x.name) ∧ X.cell? ⟨g, m * 13 + 1, none⟩ = some (.int .i64 (x.method : Int)) ∧ X.cell? ⟨g, m * 13 + 2, none⟩ = some (.int .i64 (x.sum : Int)) ∧ X.cell? ⟨g, m * 13 + 3, none⟩ = some (.int .i64 (x.packed : Int)) ∧ X.cell? ⟨g, m * 13 + 4, none⟩ = some (.int .i64 (x.size : Int)) ∧ X.cell? ⟨g, m * 13 + 5, none⟩ = some (.int .i64 0) ∧ X.cell? ⟨g, m * 13 + 6, none⟩ = some (.int .i64 (x.flags : Int)) ∧ X.cell? ⟨g, m * 13 + 7, none⟩ = some (.int .i64 (x.ahead : Int)) ∧ X.cell? ⟨g, m * 13 + 8, none⟩ = some (.int .i64 (xf1 : Int)) ∧ X.cell? ⟨g, m * 13 + 9, none⟩ = some (.int .i64 (xf2 : Int)) ∧ X.cell? ⟨g, m * 13 + 10, none⟩ = some (.int .i64 (xf3 : Int)) ∧ X.cell? ⟨g, m * 13 + 11, none⟩ = some (.int .i64 0) ∧ X.cell? ⟨g, m * 13 + 12, none⟩ = some (.int .i64 0) ∧ X.cell? ⟨e0, 2, none⟩ = some (.int .i64 (pl : Int))) (first | exact ⟨c0, c1, c2, c3, c4, c5, c6, c7, c8, c9, c10, c11, c12, b2⟩ | exact ⟨t3.at c0 (fun e => e), t3.at c1 (fun e => e), t3.at c2 (fun e => e), t3.at c3 (fun e => e), t3.at c4 (fun e => e), t3.at c5 (fun e => e), t3.at c6 (fun e => e), t3.at c7 (fun e => e), t3.at c8 (fun e => e), t3.at c9 (fun e => e), t3.at c10 (fun e => e), t3.at c11 (fun e => e), t3.at c12 (fun e => e), t3.at b2 (fun e => e)⟩ | assumption | go_keep) (first | (go_at_call 94; refine (HAH.out _).mono ?_; rintro e w3 ⟨rfl, t3⟩))
          all_goals
           have t3' : Touch (fun _ => False) wr w3 := (((Touch.refl (fun _ => False) wr).drew).trans t3)
           have hR3 := HP8.out w3 t3'
           have HR4 : Hid _ := hR3
           have hC3 := hC.keep t3' (fun e => e)
           have hB3 := hB.keep t3' (fun e => e)
           have T3 := ht.trans t3'
           have e7 := t3'.at c7 (fun e => e)
           have k5 : w3.frozen? ⟨g, m * 13 + 5, none⟩ = false := (t3'.frozen (p := ⟨g, m * 13 + 5, none⟩) glt (fun e => e)).trans (fz _)
           have k11 : w3.frozen? ⟨g, m * 13 + 11, none⟩ = false := (t3'.frozen (p := ⟨g, m * 13 + 11, none⟩) glt (fun e => e)).trans (fz _)
           have k12 : w3.frozen? ⟨g, m * 13 + 12, none⟩ = false := (t3'.frozen (p := ⟨g, m * 13 + 12, none⟩) glt (fun e => e)).trans (fz _)
           have e5 := t3'.at c5 (fun e => e)
           have e11 := t3'.at c11 (fun e => e)
           have e12 := t3'.at c12 (fun e => e)
           clear c0 c1 c2 c3 c4 c5 c6 c7 c8 c9 c10 c11 c12 b2 HAH hR3 HP8 fz t3 t3' hC hB ht
           go_wp2
           have K1 := touch_set w3 g (m * 13 + 5) (.int .i64 (sb : Int))
           have K2 := touch_set (w3.setCell ⟨g, m * 13 + 5, none⟩ (.int .i64 (sb : Int))) g (m * 13 + 11) (.int .i64 (x.ahead : Int))
           have K3 := touch_set ((w3.setCell ⟨g, m * 13 + 5, none⟩ (.int .i64 (sb : Int))).setCell ⟨g, m * 13 + 11, none⟩ (.int .i64 (x.ahead : Int))) g (m * 13 + 12) (.int .i64 (stp : Int))
           exact ⟨⟨m + 1, by omega, by go_num, HS7, HR4.out, ((hC3.keep K1 hg2).keep K2 hg2).keep K3 hg2, ((hB3.keep K1 hge0).keep K2 hge0).keep K3 hge0, ((T3.setNew hg1 _).setNew hg1 _).setNew hg1 _⟩, by simp [intOf]; omega⟩
        ·obtain rfl : k = m := by omega
         have hso := spansOf_all s pl l (fun e he => by
          obtain ⟨i', hi', rfl⟩ := List.getElem_of_mem he
          exact HM.out i' hi' (by have := HNN.out; omega))
         obtain ⟨L, hL⟩ : ∃ L, L = l.map (spnOf s pl) := ⟨_, rfl⟩
         rw [← hL] at hso
         have HLL : Hid (k = L.length) := by rw [hL]; unfold Hid; rw [List.length_map]; exact HNN.out
         have HR5 : Hid (R = if anyPair overB L then .error 10 else if qb < (sizesSum l : Int) then .error 13 else .ok L) := by
          unfold Hid; rw [HRR.out]; unfold listRest; rw [if_neg (Int.not_lt.2 HNQ.out), if_neg (by rw [hclash]; simp), hso]
         have hRf2 : Refs wr a g (L.map spnE) := by
          have h := hRf
          rw [show putTo (fun e => spnE (spnOf s pl e)) l k = L.map spnE by rw [HNN.out, putTo_all, hL, List.map_map]; rfl] at h
          exact h
         have HO0 : Hid (NoPair overB L 0) := by intro a b ha hb h1 h2; omega
         clear hRf HM hso hL HRR hspans hclash HALL
         go_wp2
         go_loopw [24] (fun i wr => ∃ m : Nat, m ≤ k ∧ i = .int .i64 (m : Int) ∧ Hid (NoPair overB L m) ∧ Refs wr a g (L.map spnE) ∧ CB wr w.heap.size [.int .i64 qe, .int .i64 qn, .int .i64 qb] ∧ CB wr e0 [.int .i64 (cn : Int), .int .i64 (sz : Int), .int .i64 (pl : Int), .int .i64 (p : Int)] ∧ Touch (fun _ => False) w wr) (fun i wr => k - (intOf i).toNat)
         case atStart => exact ⟨0, Nat.zero_le _, rfl, HO0, hRf2, hC, hB, ht⟩
         case round =>
          clear hRf2 hC hB ht HO0
          obtain ⟨m, hm, rfl, HM, hRf, hC, hB, ht⟩ := hrel
          by_cases hmk : m < k
          ·have hm' : m < L.length := by have := HLL.out; omega
           go_wp2
           go_loopw [25] (fun i wr => ∃ j : Nat, j ≤ m ∧ i = .int .i64 (j : Int) ∧ Hid (∀ i' (hi : i' < m), i' < j → overB (L[i']'(Nat.lt_trans hi hm')) L[m] = false) ∧ Refs wr a g (L.map spnE) ∧ CB wr w.heap.size [.int .i64 qe, .int .i64 qn, .int .i64 qb] ∧ CB wr e0 [.int .i64 (cn : Int), .int .i64 (sz : Int), .int .i64 (pl : Int), .int .i64 (p : Int)] ∧ Touch (fun _ => False) w wr) (fun i wr => m - (intOf i).toNat)
           case atStart => exact ⟨0, Nat.zero_le _, rfl, by intro i' h h'; omega, hRf, hC, hB, ht⟩
           case round =>
            clear hRf hC hB ht
            obtain ⟨j, hj, rfl, HJ, hRf, hC, hB, ht⟩ := hrel
            by_cases hjm : j < m
            ·obtain rfl := hRf.ptr (by rw [List.length_map]; omega)
             have hRa := hRf.at_ (by rw [List.length_map]; omega)
             have ccl := hRa.cells j (by rw [List.length_map]; omega)
             have dcl := hRa.cells m (by rw [List.length_map]; omega)
             rw [List.getElem_map] at ccl dcl
             have c11 : wr.cell? ⟨g, j * 13 + 11, none⟩ = some (.int .i64 (L[j].ent.ahead : Int)) := ccl 11 (by omega)
             have c12 : wr.cell? ⟨g, j * 13 + 12, none⟩ = some (.int .i64 (L[j].stop : Int)) := ccl 12 (by omega)
             have d11 : wr.cell? ⟨g, m * 13 + 11, none⟩ = some (.int .i64 (L[m].ent.ahead : Int)) := dcl 11 (by omega)
             have d12 : wr.cell? ⟨g, m * 13 + 12, none⟩ = some (.int .i64 (L[m].stop : Int)) := dcl 12 (by omega)
             have HT8 : Hid (overB L[j] L[m] = true → anyPair overB L = true) := fun h => anyPair_true j m (by omega) hm' hjm h
             have HST : Hid (overB L[j] L[m] = false → ∀ i' (hi : i' < m), i' < j + 1 → overB (L[i']'(Nat.lt_trans hi hm')) L[m] = false) := fun h i' hi h' => by
              by_cases e : i' = j
              ·subst e; exact h
              ·exact HJ.out i' hi (by omega)
             have HOV : Hid (overB L[j] L[m] = (decide (L[j].ent.ahead < L[m].stop) && decide (L[m].ent.ahead < L[j].stop))) := rfl
             clear ccl dcl hRa HJ
             revert c11 c12 d11 d12 HT8 HST HOV
             generalize overB L[j] L[m] = ob
             generalize L[j].ent.ahead = fj
             generalize L[m].ent.ahead = fm
             generalize L[j].stop = tj
             generalize L[m].stop = tm
             intro c11 c12 d11 d12 HT8 HST HOV
             have i1 : (j : Int) < (k : Int) := by omega
             have i2 : (m : Int) < (k : Int) := by omega
             by_cases o1 : (fj : Int) < (tm : Int)
             ·have o1' : decide ((fj : Int) < (tm : Int)) = true := decide_eq_true o1
              have o1n : decide (fj < tm) = true := decide_eq_true (by omega)
              by_cases o2 : (fm : Int) < (tj : Int)
              ·have o2' : decide ((fm : Int) < (tj : Int)) = true := decide_eq_true o2
               have o2n : decide (fm < tj) = true := decide_eq_true (by omega)
               have FIN : Hid (∀ w', rlistPost w.heap.size R (.returned (.tuple #[.slice none 0 0, .int .i64 10])) w') := rlist_err _ _ 10 (by rw [HR5.out, if_pos (HT8.out (by rw [HOV.out, decide_eq_true (by omega), decide_eq_true (by omega)]; rfl))])
               clear HT8 HST HOV HR5
               go_wp2
               go_quiet (fail)
               go_wp2
               go_ret2
               exact ⟨ht.drewN _, FIN.out _⟩
              ·have o2' : decide ((fm : Int) < (tj : Int)) = false := decide_eq_false o2
               have o2n : decide (fm < tj) = false := decide_eq_false (by omega)
               have HSS := HST.out (by rw [HOV.out, decide_eq_true (by omega), decide_eq_false (by omega)]; rfl)
               have HS5 : Hid _ := HSS
               clear HSS HST HT8 HOV
               go_wp2
               go_quiet (fail)
               go_wp2
               exact ⟨⟨j + 1, by omega, by go_num, HS5, hRf.drewN _, hC.drewN _, hB.drewN _, ht.drewN _⟩, by simp [intOf]; omega⟩
             ·have o1' : decide ((fj : Int) < (tm : Int)) = false := decide_eq_false o1
              have o1n : decide (fj < tm) = false := decide_eq_false (by omega)
              have HSS := HST.out (by rw [HOV.out, decide_eq_false (by omega)]; rfl)
              have HS5 : Hid _ := HSS
              clear HSS HST HT8 HOV
              go_wp2
              go_quiet (fail)
              go_wp2
              exact ⟨⟨j + 1, by omega, by go_num, HS5, hRf.drewN _, hC.drewN _, hB.drewN _, ht.drewN _⟩, by simp [intOf]; omega⟩
            ·obtain rfl : j = m := by omega
             have HM2 : Hid (NoPair overB L (j + 1)) := HM.out.step hm' (fun i' hi => HJ.out i' hi hi)
             clear HJ HM
             go_wp2
             exact ⟨⟨j + 1, by omega, by go_num, HM2, hRf, hC, hB, ht⟩, by simp [intOf]; omega⟩
          ·obtain rfl : k = m := by omega
           have hov := NoPair.all (show NoPair overB L L.length by rw [← HLL.out]; exact HM.out)
           have HR6 : Hid (R = if qb < (sizesSum l : Int) then .error 13 else .ok L) := by unfold Hid; rw [HR5.out, if_neg (by rw [hov]; simp)]
           have q2 : wr.cell? ⟨w.heap.size, 2, none⟩ = some (.int .i64 qb) := hC.cells 2 (by simp)
           clear HR5 hov HM
           by_cases hqb : qb < (SZ k : Int)
           ·have FIN : Hid (∀ w', rlistPost w.heap.size R (.returned (.tuple #[.slice none 0 0, .int .i64 13])) w') := rlist_err _ _ 13 (by rw [HR6.out, if_pos (by rw [HSZ.out] at hqb; exact hqb)])
            clear HR6
            go_wp2
            go_ret2
            exact ⟨ht, FIN.out _⟩
           ·have FIN : Hid (rlistPost w.heap.size R (.returned (.tuple #[.slice a k cap, .int .i64 0])) wr) := by
             unfold Hid; rw [HR6.out, if_neg (by rw [HSZ.out] at hqb; exact hqb)]
             exact ⟨a, cap, g, by rw [List.length_map, ← HLL.out], hg1, hRf⟩
            clear HR6
            go_wp2
            go_ret2
            exact ⟨ht, FIN.out⟩
end Go.Proofs.YtpckiobjpikmlaaGreatDoor
namespace Go.Proofs.YtpckiobjpikmlaaGreatDoor
open Go.RowKit
theorem rlist_c (w : World) (s : ByteArray) (qe qn qb : Int) (hs : s.size ≤ 1048576) :
  Calls Tryz.prog 47 #[.string s, .agg #[.int .i64 qe, .int .i64 qn, .int .i64 qb]] w fun r w' => Touch (fun _ => False) w w' ∧ rlistPost w.heap.size (listOf s qe qn qb) r w' := by
 by_cases h : ∃ d, dirOf s = .ok d ∧ ¬ qe < (d.count : Int) ∧ d.place ≤ d.stop ∧ d.size = d.stop - d.place
 ·obtain ⟨d, h0, h1, h2⟩ := h
  cases h3 : entsGo s d.stop d.count d.place [] with
  | error x => exact rlist_b w s qe qn qb hs d x h3 h0 h1 h2
  | ok l =>
   by_cases hb : qn < (namesSum l : Int) ∨ anyPair (fun a b => clashB a.name b.name) l = true
   ·exact rlist_g1 w s qe qn qb hs d l h3 hb h0 h1 h2
   ·have hn : ¬ qn < (namesSum l : Int) := fun h => hb (.inl h)
    have hc : anyPair (fun a b => clashB a.name b.name) l = false := by
     cases hh : anyPair (fun a b => clashB a.name b.name) l with
     | false => rfl
     | true => exact absurd (.inr hh) hb
    cases hsp : spansOf s d.place l with
    | none => exact rlist_g2 w s qe qn qb hs d l h3 hn hc hsp h0 h1 h2
    | some rr => exact rlist_g3 w s qe qn qb hs d l h3 hn hc rr hsp h0 h1 h2
 ·exact rlist_e w s qe qn qb (by omega) (fun d h0 h1 h2 => h ⟨d, h0, h1, h2⟩)
theorem listOf_err (s : ByteArray) (qe qn qb : Int) (k : Nat) (h : listOf s qe qn qb = .error k) : 0 < k := by
 unfold listOf at h
 cases hd : dirOf s with
 | error x => rw [hd] at h; simp only [Except.error.injEq] at h; subst h; exact dirOf_err s _ hd
 | ok d =>
  rw [hd] at h
  simp only at h
  split at h
  ·simp only [Except.error.injEq] at h; omega
  ·split at h
   ·simp only [Except.error.injEq] at h; omega
   ·cases he : entsGo s d.stop d.count d.place [] with
    | error x => rw [he] at h; simp only [Except.error.injEq] at h; subst h; exact entsGo_err s _ _ _ _ _ he
    | ok l =>
     rw [he] at h
     simp only at h
     split at h
     ·simp only [Except.error.injEq] at h; omega
     ·split at h
      ·simp only [Except.error.injEq] at h; omega
      ·cases hsp : spansOf s d.place l with
       | none => rw [hsp] at h; simp only [Except.error.injEq] at h; omega
       | some r =>
        rw [hsp] at h
        simp only at h
        split at h
        ·simp only [Except.error.injEq] at h; omega
        ·split at h
         ·simp only [Except.error.injEq] at h; omega
         ·cases h
theorem listOf_len (s : ByteArray) (qe qn qb : Int) (L : List Spanned) (h : listOf s qe qn qb = .ok L) : L.length * 46 ≤ s.size := by
 unfold listOf at h
 cases hd : dirOf s with
 | error k => rw [hd] at h; cases h
 | ok d =>
  rw [hd] at h
  simp only at h
  split at h
  ·cases h
  ·split at h
   ·cases h
   ·cases he : entsGo s d.stop d.count d.place [] with
    | error k => rw [he] at h; cases h
    | ok l =>
     rw [he] at h
     simp only at h
     split at h
     ·cases h
     ·split at h
      ·cases h
      ·cases hsp : spansOf s d.place l with
       | none => rw [hsp] at h; cases h
       | some r =>
        rw [hsp] at h
        simp only at h
        split at h
        ·cases h
        ·split at h
         ·cases h
         ·cases h
          have c1 := (spansOf_ok s _ _ _ hsp).1
          have b2 := (entsGo_ok s _ _ _ _ _ he).2.1
          have d1 := (dirOf_ok s d hd).1
          have hlen : L.length = l.length := by rw [← c1]; simp
          simp only [List.length_nil] at b2
          omega
end Go.Proofs.YtpckiobjpikmlaaGreatDoor
