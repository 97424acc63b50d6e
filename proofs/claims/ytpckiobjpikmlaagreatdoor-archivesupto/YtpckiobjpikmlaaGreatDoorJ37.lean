/- Texts of this seat, joined. -/
import Derived.Test.YtpckiobjpikmlaaGreatDoorJ35
import Derived.Test.YtpckiobjpikmlaaGreatDoorJ36
import Derived.Test.YtpckiobjpikmlaaGreatDoorJ29
import Derived.Test.YtpckiobjpikmlaaGreatDoorJ21
import Derived.Test.YtpckiobjpikmlaaGreatDoorJ26
import Derived.Deep.DeepCutAuto
import Derived.Deep.QuietTactic
import Derived.BigQuiet
import Derived.Deep.RegionHeld3
set_option linter.unusedSimpArgs false
set_option linter.unusedVariables false
set_option maxRecDepth 100000
set_option maxHeartbeats 20000000
namespace Go.Proofs.YtpckiobjpikmlaaGreatDoor
open Go.RowKit
theorem rEntry_c (w : World) (s : ByteArray) (E p : Nat) (hE : E ≤ s.size) (hp : p ≤ s.size) (hs : s.size ≤ 140737488355328) :
  Calls Tryz.prog 92 #[.string s, .int .i64 (p : Int), .int .i64 (E : Int)] w fun r w' => rentPost (entAt s E p) r ∧ Touch (fun _ => False) w w' := by
 by_cases h : entAt s E p = none
 ·exact rEntry_n w s E p hE hp hs h
 ·exact rEntry_s w s E p hE hp hs h
end Go.Proofs.YtpckiobjpikmlaaGreatDoor
namespace Go.Proofs.YtpckiobjpikmlaaGreatDoor
open Go.RowKit Go.Shelf Go.Lib
theorem rlist_b (w : World) (s : ByteArray) (qe qn qb : Int) (hs : s.size ≤ 1048576) (d : Dir) (x : Nat) (h3 : entsGo s d.stop d.count d.place [] = .error x) (h0 : dirOf s = .ok d) (h1 : ¬ qe < (d.count : Int)) (h2 : d.place ≤ d.stop ∧ d.size = d.stop - d.place) :
  Calls Tryz.prog 47 #[.string s, .agg #[.int .i64 qe, .int .i64 qn, .int .i64 qb]] w fun r w' => Touch (fun _ => False) w w' ∧ rlistPost w.heap.size (listOf s qe qn qb) r w' := by
 obtain ⟨i0, hi, hz0, hz1, hz2⟩ := info_parts Tryz.infoRefEntry
 have T0 : Touch (fun _ => False) w (w.alloc (Obj.cells #[.int .i64 qe, .int .i64 qn, .int .i64 qb] 44)) := (Touch.refl _ w).alloc _
 have bq0 := heap_alloc_new w (Obj.cells #[.int .i64 qe, .int .i64 qn, .int .i64 qb] 44)
 have HD : Hid (∀ W, Calls Tryz.prog 91 #[.string s] W fun e w' => e = .returned (dirV (dirOf s)) ∧ Touch (fun _ => False) W w') := fun W => rEnd_c W s (by omega)
 have hRR := listOf_ents s qe qn qb d x h0 h1 h2 h3
 obtain ⟨R, hR⟩ : ∃ R, R = listOf s qe qn qb := ⟨_, rfl⟩
 rw [← hR]
 rw [← hR] at hRR
 have hds := (dirOf_ok s d h0).1
 rw [h0] at HD
 obtain ⟨cn, sz, pl, st⟩ := d
 obtain ⟨hp, hz⟩ := h2
 simp only at *
 obtain ⟨Rs, hRs⟩ : ∃ Rs, Rs = entsGo s st cn pl [] := ⟨_, rfl⟩
 have hst : st ≤ s.size := hds
 have g0 : ¬ qe < (cn : Int) := h1
 have gq : decide (qe < (cn : Int)) = false := decide_eq_false h1
 have gd : decide (st < pl) = false := decide_eq_false (by omega)
 have g1 : ¬ (st : Int) < (pl : Int) := by omega
 have g2 : ((sz : Int) != (st : Int) - (pl : Int)) = false := by simp; omega
 have HRS : Hid (Rs = entsGo s st (cn - 0) pl []) := hRs
 have hRe : Rs = .error x := hRs.trans h3
 have HFB : Hid (∀ k, Rs = .error k → ∀ w', rlistPost w.heap.size R (.returned (.tuple #[.slice none 0 0, .int .i64 (k : Int)])) w') := fun k hk => by
  rw [hRe] at hk; cases hk; exact rlist_err _ _ _ hRR
 clear hR hRR hRs h3 h0 h1 hds hz
 go_enter Tryz.func47, Tryz.ntmps47
 go_wp2_with fail
 refine (HD.out _).mono ?_
 rintro e w1 ⟨he, t1⟩
 obtain rfl := (show e = .returned (.tuple #[.agg #[.int .i64 (cn : Int), .int .i64 (sz : Int), .int .i64 (pl : Int), .int .i64 (st : Int)], .int .i64 0]) from he)
 have T1 := T0.trans t1
 have bq1 := (t1.block _ (by simp) (fun e => e)).trans bq0
 have q0 : w1.cell? ⟨w.heap.size, 0, none⟩ = some (.int .i64 qe) := by rw [row_cell bq1 0]; rfl
 have q1 : w1.cell? ⟨w.heap.size, 1, none⟩ = some (.int .i64 qn) := by rw [row_cell bq1 1]; rfl
 have q2 : w1.cell? ⟨w.heap.size, 2, none⟩ = some (.int .i64 qb) := by rw [row_cell bq1 2]; rfl
 have lq1 : w.heap.size < w1.heap.size := (Array.getElem?_eq_some_iff.1 bq1).1
 clear he t1 HD bq0 bq1 T0
 have C1 := CB.three q0 q1 q2 lq1
 have B1 := CB.new w1 [.int .i64 (cn : Int), .int .i64 (sz : Int), .int .i64 (pl : Int), .int .i64 (st : Int)] 180
 have A1 := C1.keep ((Touch.refl (fun _ => False) w1).alloc (Obj.cells #[.int .i64 (cn : Int), .int .i64 (sz : Int), .int .i64 (pl : Int), .int .i64 (st : Int)] 180)) (fun e => e)
 have T2 := T1.alloc (Obj.cells #[.int .i64 (cn : Int), .int .i64 (sz : Int), .int .i64 (pl : Int), .int .i64 (st : Int)] 180)
 have hS0 : w1.heap.size + 1 ≤ (w1.alloc (Obj.cells #[.int .i64 (cn : Int), .int .i64 (sz : Int), .int .i64 (pl : Int), .int .i64 (st : Int)] 180)).heap.size := by simp
 go_wp2
 go_loopw [8, 9, 10] (fun v p' i wr => ∃ (k p : Nat) (acc : List Ent), k ≤ cn ∧ acc.length = k ∧ i = .int .i64 (k : Int) ∧ p' = .int .i64 (p : Int) ∧ wr.ownsRow (w1.heap.size + 1) 185 13 v acc.length (refV acc) ∧ CB wr w.heap.size [.int .i64 qe, .int .i64 qn, .int .i64 qb] ∧ CB wr w1.heap.size [.int .i64 (cn : Int), .int .i64 (sz : Int), .int .i64 (pl : Int), .int .i64 (st : Int)] ∧ k * 46 + pl ≤ p ∧ p ≤ st ∧ Hid (Rs = entsGo s st (cn - k) p acc) ∧ Touch (fun _ => False) w wr ∧ w1.heap.size + 1 ≤ wr.heap.size) (fun v p' i wr => cn - (intOf i).toNat)
 case atStart => exact ⟨0, pl, [], Nat.zero_le _, rfl, rfl, rfl, World.ownsRow_nil _ _ _ _, A1, B1, by omega, hp, HRS, T2, hS0⟩
 case round =>
  obtain ⟨k, p, acc, hk, hacc, rfl, rfl, hro, hC, hB, hp46, hpst, HK, ht, hsz⟩ := hrel
  clear A1 B1 C1 T2 hS0 HRS T1 q0 q1 q2
  have b0 : wr.cell? ⟨w1.heap.size, 0, none⟩ = some (.int .i64 (cn : Int)) := hB.cells 0 (by simp)
  have b2 : wr.cell? ⟨w1.heap.size, 2, none⟩ = some (.int .i64 (pl : Int)) := hB.cells 2 (by simp)
  have b3 : wr.cell? ⟨w1.heap.size, 3, none⟩ = some (.int .i64 (st : Int)) := hB.cells 3 (by simp)
  by_cases hlt : k < cn
  ·have hlt' : (k : Int) < (cn : Int) := by omega
   have HX : Hid (Rs = match entAt s st p with
     | none => .error 5
     | some (e, q) => if faultOf e = 0 then entsGo s st (cn - (k + 1)) q (acc ++ [e]) else .error (faultOf e)) := by
    unfold Hid; rw [HK.out, show cn - k = (cn - (k + 1)) + 1 by omega]; rfl
   clear HK
   go_wp2_with fail
   refine (rEntry_c _ s st p hst (by omega) (by omega)).mono ?_
   rintro r w2 ⟨hr, t2⟩
   unfold rentPost at hr
   have T2 : Touch (fun _ => False) w w2 := ht.trans t2
   have hsz2 := t2.size
   have hro2 := t2.owns hro (fun _ _ h => h)
   have hC2 := hC.keep t2 (fun e => e)
   have hB2 := hB.keep t2 (fun e => e)
   clear t2 hro hC hB b0 b2 b3 ht
   cases hea : entAt s st p with
   | none =>
    rw [hea] at hr HX
    have hx : Rs = .error 5 := HX.out
    have FIN : Hid (∀ w', rlistPost w.heap.size R (.returned (.tuple #[.slice none 0 0, .int .i64 5])) w') := HFB.out 5 hx
    obtain ⟨nm, x1, x2, x3, x4, x5, x6, x7, x8, x9, x10, x11, x12, rfl⟩ := (show anyE r 5 from hr)
    clear HX hx hr hea HFB
    go_wp2
    go_ret2
    exact ⟨T2.alloc _, FIN.out _⟩
   | some eq =>
    obtain ⟨e, q⟩ := eq
    rw [hea] at hr HX
    obtain ⟨p1, p2, hok⟩ := entAt_ok s _ _ _ _ hea
    have HX' : Hid (Rs = if faultOf e = 0 then entsGo s st (cn - (k + 1)) q (acc ++ [e]) else .error (faultOf e)) := HX
    have hr' : if faultOf e = 0 then r = .returned (.tuple #[.agg (refL e (fourOf e) 0 0 0).toArray, .int .i64 (q : Int), .int .i64 0]) else anyE r (faultOf e) := hr
    clear HX hea hr
    by_cases hfa : faultOf e = 0
    ·have hx := HX'.out
     rw [if_pos hfa] at hx
     have HN : Hid (Rs = entsGo s st (cn - (k + 1)) q (acc ++ [e])) := hx
     rw [if_pos hfa] at hr'
     obtain rfl := (show r = .returned (.tuple #[.agg #[.string e.name, .int .i64 (e.method : Int), .int .i64 (e.sum : Int), .int .i64 (e.packed : Int), .int .i64 (e.size : Int), .int .i64 0, .int .i64 (e.flags : Int), .int .i64 (e.ahead : Int), .int .i64 ((fourOf e).1 : Int), .int .i64 ((fourOf e).2.1 : Int), .int .i64 ((fourOf e).2.2 : Int), .int .i64 0, .int .i64 0], .int .i64 (q : Int), .int .i64 0]) from hr')
     have HQ : Hid (∀ (j : Nat) (y : Value), (refC (rawE e))[j]? = some y → ((w2.alloc (Obj.cells #[.string e.name, .int .i64 (e.method : Int), .int .i64 (e.sum : Int), .int .i64 (e.packed : Int), .int .i64 (e.size : Int), .int .i64 0, .int .i64 (e.flags : Int), .int .i64 (e.ahead : Int), .int .i64 ((fourOf e).1 : Int), .int .i64 ((fourOf e).2.1 : Int), .int .i64 ((fourOf e).2.2 : Int), .int .i64 0, .int .i64 0] 185)).alloc (Obj.cells #[.string e.name, .int .i64 (e.method : Int), .int .i64 (e.sum : Int), .int .i64 (e.packed : Int), .int .i64 (e.size : Int), .int .i64 0, .int .i64 (e.flags : Int), .int .i64 (e.ahead : Int), .int .i64 ((fourOf e).1 : Int), .int .i64 ((fourOf e).2.1 : Int), .int .i64 ((fourOf e).2.2 : Int), .int .i64 0, .int .i64 0] 185)).cell? ((⟨w2.heap.size + 1, 0, none⟩ : Addr).add j) = some y) := by
      have := cell_list_new (w2.alloc (Obj.cells #[.string e.name, .int .i64 (e.method : Int), .int .i64 (e.sum : Int), .int .i64 (e.packed : Int), .int .i64 (e.size : Int), .int .i64 0, .int .i64 (e.flags : Int), .int .i64 (e.ahead : Int), .int .i64 ((fourOf e).1 : Int), .int .i64 ((fourOf e).2.1 : Int), .int .i64 ((fourOf e).2.2 : Int), .int .i64 0, .int .i64 0] 185)) (refC (rawE e)) 185
      rw [World.size_alloc] at this
      exact this
     have b3 : acc.length + 1 ≤ maxLen := by unfold maxLen; omega
     have b4 : (acc.length + 1) * 112 ≤ 140737488355328 := by omega
     have hro3 := (hro2.alloc (Obj.cells #[.string e.name, .int .i64 (e.method : Int), .int .i64 (e.sum : Int), .int .i64 (e.packed : Int), .int .i64 (e.size : Int), .int .i64 0, .int .i64 (e.flags : Int), .int .i64 (e.ahead : Int), .int .i64 ((fourOf e).1 : Int), .int .i64 ((fourOf e).2.1 : Int), .int .i64 ((fourOf e).2.2 : Int), .int .i64 0, .int .i64 0] 185)).alloc (Obj.cells #[.string e.name, .int .i64 (e.method : Int), .int .i64 (e.sum : Int), .int .i64 (e.packed : Int), .int .i64 (e.size : Int), .int .i64 0, .int .i64 (e.flags : Int), .int .i64 (e.ahead : Int), .int .i64 ((fourOf e).1 : Int), .int .i64 ((fourOf e).2.1 : Int), .int .i64 ((fourOf e).2.2 : Int), .int .i64 0, .int .i64 0] 185)
     clear hx HX' hr'
     revert HQ HN hok hro3
     obtain ⟨f1, hf1⟩ : ∃ f, f = (fourOf e).1 := ⟨_, rfl⟩
     obtain ⟨f2, hf2⟩ : ∃ f, f = (fourOf e).2.1 := ⟨_, rfl⟩
     obtain ⟨f3, hf3⟩ : ∃ f, f = (fourOf e).2.2 := ⟨_, rfl⟩
     rw [← hf1, ← hf2, ← hf3]
     clear hf1 hf2 hf3
     intro hok HN HQ hro3
     go_wp2_with (at_builtin; refine wpList_append_own _ rfl _ _ 133 rfl (w1.heap.size + 1) 185 i0 (.agg #[.string ⟨#[]⟩, .int .i64 0, .int .i64 0, .int .i64 0, .int .i64 0, .int .i64 0, .int .i64 0, .int .i64 0, .int .i64 0, .int .i64 0, .int .i64 0, .int .i64 0, .int .i64 0]) 13 112 Tryz.underlying133 hi hz0 hz1 hz2 rfl (by decide) _ _ _ rfl hro3 ⟨w2.heap.size + 1, 0, none⟩ 1 1 (refC (rawE e)) rfl rfl HQ.out (by simp [refC, refL, rawE, Value.oneCell']) b3 b4 (by simp; omega) ?_; intro v' w3 hown' hgrow hnil)
     have hrowB : ∀ q, u8.ownBlock = some q → w1.heap.size + 1 ≤ q := fun q hq => (hro2.lt q hq).1
     have TB : Touch (fun q => u8.ownBlock = some q) w2 w3 := (((Touch.refl (fun q => u8.ownBlock = some q) w2).alloc _).alloc _).grown hgrow (fun q hq => hq)
     have hsz3 := TB.size
     go_roundw
     case rel =>
      refine ⟨k + 1, q, acc ++ [e], by omega, by simp; omega, by go_num, rfl, ?_, ?_, ?_, by omega, by omega, HN, ?_, by omega⟩
      ·rw [refV_snoc, List.length_append]; exact hown'
      ·refine hC2.keep TB (fun e => ?_)
       have := hrowB _ e; omega
      ·refine hB2.keep TB (fun e => ?_)
       have := hrowB _ e; omega
      ·exact ((T2.alloc _).alloc _).grownNew hgrow (fun q hq => by have := hrowB q hq; omega)
     case measure => simp [intOf]; omega
    ·have hx := HX'.out
     rw [if_neg hfa] at hx
     have FIN : Hid (∀ w', rlistPost w.heap.size R (.returned (.tuple #[.slice none 0 0, .int .i64 (faultOf e : Int)])) w') := HFB.out _ hx
     rw [if_neg hfa] at hr'
     obtain ⟨nm, x1, x2, x3, x4, x5, x6, x7, x8, x9, x10, x11, x12, rfl⟩ := hr'
     have hfa' : ¬ (faultOf e : Int) = 0 := by omega
     clear HX' hx HFB
     generalize faultOf e = fe at hfa hfa' FIN ⊢
     go_wp2
     go_ret2
     exact ⟨T2.alloc _, FIN.out _⟩
  ·obtain rfl : cn = k := by omega
   have hx := HK.out
   rw [Nat.sub_self] at hx
   have hx' : Rs = if p = st then .ok acc else .error 5 := hx
   by_cases hpe : p = st
   ·exfalso; rw [if_pos hpe] at hx'; rw [hRe] at hx'; cases hx'
   ·rw [if_neg hpe] at hx'
    have FIN : Hid (∀ w', rlistPost w.heap.size R (.returned (.tuple #[.slice none 0 0, .int .i64 5])) w') := HFB.out 5 hx'
    have g1 : ((p : Int) != (st : Int)) = true := by simp; omega
    have g2 : ¬ (p : Int) = (st : Int) := by omega
    clear hx hx' HK hro HFB
    go_wp2
    go_ret2
    exact ⟨ht, FIN.out _⟩
end Go.Proofs.YtpckiobjpikmlaaGreatDoor
namespace Go.Proofs.YtpckiobjpikmlaaGreatDoor
open Go.RowKit
theorem part3 (w : World) (a b c : Int) (i : Nat) (v : Value) (h : (#[.int .i64 a, .int .i64 b, .int .i64 c] : Array Value)[i]? = some v) : (part 3 #[.int .i64 a, .int .i64 b, .int .i64 c] i).run Tryz.prog w = .ok v w := by
 simp [part, h]
theorem equal3 (w : World) (a b c x y z : Int) : (Op.equalIn 10000 183 (.agg #[.int .i64 a, .int .i64 b, .int .i64 c]) (.agg #[.int .i64 x, .int .i64 y, .int .i64 z])).run Tryz.prog w = .ok ((a == x) && ((b == y) && (c == z))) w := by
 show (Op.equalIn (9999 + 1) _ _ _).run _ _ = _
 rw [Op.equalIn]
 simp only [Sem.run_bind, run_underlying Tryz.underlying183, Result.andThen_ok]
 have hsz : (sizeOf 3).run Tryz.prog w = .ok 1 w := by
  obtain ⟨i0, hi, hz0, hz1, hz2⟩ := info_parts Tryz.infoInt
  simp [sizeOf, typeInfo, hi, hz1]
 have q0 := fun (a b c : Int) => part3 w a b c 0 (.int .i64 a) rfl
 have q1 := fun (a b c : Int) => part3 w a b c 1 (.int .i64 b) rfl
 have q2 := fun (a b c : Int) => part3 w a b c 2 (.int .i64 c) rfl
 have qe := fun (a b : Int) => run_equalIn_int (P := Tryz.prog) w 9998 3 .i64 .i64 a b Tryz.underlying3
 rw [hsz]
 simp only [Result.andThen_ok, Std.Legacy.Range.forIn_eq_forIn_range', Std.Legacy.Range.size, Nat.sub_zero, Nat.add_one_sub_one, Nat.div_one, Nat.mul_one, List.range', List.forIn_cons, List.forIn_nil, Sem.run_bind, q0, qe]
 by_cases h0 : a = x
 ·have h0' : (a == x) = true := by simpa using h0
  by_cases h1 : b = y
  ·have h1' : (b == y) = true := by simpa using h1
   by_cases h2 : c = z
   ·have h2' : (c == z) = true := by simpa using h2
    simp [h0', h1', h2', q1, q2, qe, Sem.run_bind, Sem.run_pure]
   ·have h2' : (c == z) = false := by simpa using h2
    simp [h0', h1', h2', q1, q2, qe, Sem.run_bind, Sem.run_pure]
  ·have h1' : (b == y) = false := by simpa using h1
   simp [h0', h1', q1, q2, qe, Sem.run_bind, Sem.run_pure]
 ·have h0' : (a == x) = false := by simpa using h0
  simp [h0', q1, q2, qe, Sem.run_bind, Sem.run_pure]
end Go.Proofs.YtpckiobjpikmlaaGreatDoor
namespace Go.Proofs.YtpckiobjpikmlaaGreatDoor
open Go.RowKit
theorem quiet_sym {P : Program} {f : FuncId} {args : Array Value} {w : World} {n : Nat} {v : Value} (h : Calls P f args (w.drewN n) fun e w' => e = .returned v ∧ w.drewN n = w') : Calls P f args (w.drewN n) fun e w'' => e = .returned v ∧ ∃ m, w'' = w.drewN m :=
 h.mono fun _ _ ⟨a, b⟩ => ⟨a, n, b.symm⟩
theorem XB.ofList (w : World) (l : List Value) (h : l.length = 13) (t : TypeId) : XB (w.alloc (Obj.cells l.toArray t)) w.heap.size l := by
 have hb := heap_alloc_new w (Obj.cells l.toArray t)
 refine ⟨fun i hi => ?_, h, fun i => frozen_row hb i, by simp⟩
 rw [row_cell hb i]; simp
theorem ahead_core (w : World) (s nm : ByteArray) (P a pk sz sm fl md f1 f2 f3 n26 n28 n6 n8 n14 n18 n22 z4 z8 z12 b t : Nat) (m1 m2 : Bool) (R : Value) (hP : P ≤ s.size) (hs : s.size ≤ 140737488355328) (la : a ≤ 1099511627776) (lpk : pk ≤ 1099511627776) (lsz : sz ≤ 1099511627776) (lfl : fl < 65536) (l26 : n26 < 65536) (l28 : n28 < 65536) (hb : b = a + 30 + n26 + n28) (ht : t = b + pk + if fl / 8 % 2 = 1 then 16 else 0)
  (H26 : Hid (∀ (W : World) (A N : Int), a + 30 ≤ P → A = (a : Int) + 26 → N = 2 → Calls Tryz.prog 145 #[.string s, .int .i64 A, .int .i64 N] W fun e w' => e = .returned (.int .i64 (n26 : Int)) ∧ W = w'))
  (H28 : Hid (∀ (W : World) (A N : Int), a + 30 ≤ P → A = (a : Int) + 28 → N = 2 → Calls Tryz.prog 145 #[.string s, .int .i64 A, .int .i64 N] W fun e w' => e = .returned (.int .i64 (n28 : Int)) ∧ W = w'))
  (H6 : Hid (∀ (W : World) (A N : Int), a + 30 ≤ P → A = (a : Int) + 6 → N = 2 → Calls Tryz.prog 145 #[.string s, .int .i64 A, .int .i64 N] W fun e w' => e = .returned (.int .i64 (n6 : Int)) ∧ W = w'))
  (H8 : Hid (∀ (W : World) (A N : Int), a + 30 ≤ P → A = (a : Int) + 8 → N = 2 → Calls Tryz.prog 145 #[.string s, .int .i64 A, .int .i64 N] W fun e w' => e = .returned (.int .i64 (n8 : Int)) ∧ W = w'))
  (H14 : Hid (∀ (W : World) (A N : Int), a + 30 ≤ P → A = (a : Int) + 14 → N = 4 → Calls Tryz.prog 145 #[.string s, .int .i64 A, .int .i64 N] W fun e w' => e = .returned (.int .i64 (n14 : Int)) ∧ W = w'))
  (H18 : Hid (∀ (W : World) (A N : Int), a + 30 ≤ P → A = (a : Int) + 18 → N = 4 → Calls Tryz.prog 145 #[.string s, .int .i64 A, .int .i64 N] W fun e w' => e = .returned (.int .i64 (n18 : Int)) ∧ W = w'))
  (H22 : Hid (∀ (W : World) (A N : Int), a + 30 ≤ P → A = (a : Int) + 22 → N = 4 → Calls Tryz.prog 145 #[.string s, .int .i64 A, .int .i64 N] W fun e w' => e = .returned (.int .i64 (n22 : Int)) ∧ W = w'))
  (Hz4 : Hid (∀ (W : World) (A N : Int), b + pk + 16 ≤ P → A = (b : Int) + (pk : Int) + 4 → N = 4 → Calls Tryz.prog 145 #[.string s, .int .i64 A, .int .i64 N] W fun e w' => e = .returned (.int .i64 (z4 : Int)) ∧ W = w'))
  (Hz8 : Hid (∀ (W : World) (A N : Int), b + pk + 16 ≤ P → A = (b : Int) + (pk : Int) + 8 → N = 4 → Calls Tryz.prog 145 #[.string s, .int .i64 A, .int .i64 N] W fun e w' => e = .returned (.int .i64 (z8 : Int)) ∧ W = w'))
  (Hz12 : Hid (∀ (W : World) (A N : Int), b + pk + 16 ≤ P → A = (b : Int) + (pk : Int) + 12 → N = 4 → Calls Tryz.prog 145 #[.string s, .int .i64 A, .int .i64 N] W fun e w' => e = .returned (.int .i64 (z12 : Int)) ∧ W = w'))
  (Hm1 : Hid (∀ (W : World) (A : Int), a + 30 ≤ P → A = (a : Int) → Calls Tryz.prog 144 #[.string s, .int .i64 A, .int .u8 3, .int .u8 4] W fun e w' => e = .returned (.bool m1) ∧ Touch (fun _ => False) W w'))
  (Hm2 : Hid (∀ (W : World) (A : Int), b + pk + 16 ≤ P → A = (b : Int) + (pk : Int) → Calls Tryz.prog 144 #[.string s, .int .i64 A, .int .u8 7, .int .u8 8] W fun e w' => e = .returned (.bool m2) ∧ Touch (fun _ => False) W w'))
  (HN : Hid (¬ ((a + 30 ≤ P ∧ t ≤ P ∧ m1 = true ∧ n6 = fl ∧ n8 = md ∧ s.extract (a + 30) (a + 30 + n26) = nm) ∧ ((n14 = f1 ∧ n18 = f2 ∧ n22 = f3) ∨ (fl / 8 % 2 = 1 ∧ n14 = 0 ∧ n18 = 0 ∧ n22 = 0)) ∧ (fl / 8 % 2 = 1 → m2 = true ∧ z4 = sm ∧ z8 = pk % 4294967296 ∧ z12 = sz % 4294967296)) → R = .tuple #[.int .i64 0, .int .i64 0, .bool false])) (HY : Hid ((a + 30 ≤ P ∧ t ≤ P ∧ m1 = true ∧ n6 = fl ∧ n8 = md ∧ s.extract (a + 30) (a + 30 + n26) = nm) ∧ ((n14 = f1 ∧ n18 = f2 ∧ n22 = f3) ∨ (fl / 8 % 2 = 1 ∧ n14 = 0 ∧ n18 = 0 ∧ n22 = 0)) ∧ (fl / 8 % 2 = 1 → m2 = true ∧ z4 = sm ∧ z8 = pk % 4294967296 ∧ z12 = sz % 4294967296) → R = .tuple #[.int .i64 (b : Int), .int .i64 (t : Int), .bool true])) :
  Calls Tryz.prog 94 #[.string s, .agg #[.string nm, .int .i64 (md : Int), .int .i64 (sm : Int), .int .i64 (pk : Int), .int .i64 (sz : Int), .int .i64 0, .int .i64 (fl : Int), .int .i64 (a : Int), .int .i64 (f1 : Int), .int .i64 (f2 : Int), .int .i64 (f3 : Int), .int .i64 0, .int .i64 0], .int .i64 (P : Int)] w fun r w' => r = .returned R ∧ Touch (fun _ => False) w w' := by
 have X0 := XB.ofList w [.string nm, .int .i64 (md : Int), .int .i64 (sm : Int), .int .i64 (pk : Int), .int .i64 (sz : Int), .int .i64 0, .int .i64 (fl : Int), .int .i64 (a : Int), .int .i64 (f1 : Int), .int .i64 (f2 : Int), .int .i64 (f3 : Int), .int .i64 0, .int .i64 0] rfl 185
 have T0 := (Touch.refl (fun _ => False) w).alloc (Obj.cells #[.string nm, .int .i64 (md : Int), .int .i64 (sm : Int), .int .i64 (pk : Int), .int .i64 (sz : Int), .int .i64 0, .int .i64 (fl : Int), .int .i64 (a : Int), .int .i64 (f1 : Int), .int .i64 (f2 : Int), .int .i64 (f3 : Int), .int .i64 0, .int .i64 0] 185)
 by_cases k30 : a + 30 ≤ P
 case neg =>
  have FN : Hid (R = .tuple #[.int .i64 0, .int .i64 0, .bool false]) := HN.out (fun h => k30 h.1.1)
  have g30 : (P : Int) < (a : Int) + 30 := by omega
  go_enter Tryz.func94, Tryz.ntmps94
  go_wp2
  go_ret3
  exact ⟨by rw [FN.out]; rfl, T0⟩
 have f30 : ¬ (P : Int) < (a : Int) + 30 := by omega
 have cP : (P : Int) ≤ (s.size : Int) := by omega
 go_enter Tryz.func94, Tryz.ntmps94
 go_wp2_with fail
 refine (Hm1.out _ _ k30 (by omega)).mono ?_
 rintro e w1 ⟨rfl, t1⟩
 have X1 := X0.keep t1 (fun e => e)
 have T1 := T0.trans t1
 clear X0 T0 t1 Hm1
 have c3 : w1.cell? ⟨w.heap.size, 3, none⟩ = some (.int .i64 (pk : Int)) := X1.cells 3 (by omega)
 have c6 : w1.cell? ⟨w.heap.size, 6, none⟩ = some (.int .i64 (fl : Int)) := X1.cells 6 (by omega)
 have tp : ¬ fl / 8 % 2 = 1 → t = b + pk := fun h => by rw [ht, if_neg h]; rfl
 have tl : fl / 8 % 2 = 1 → t = b + pk + 16 := fun h => by rw [ht, if_pos h]
 have TP : Hid (¬ fl / 8 % 2 = 1 → t = b + pk) := tp
 have TL : Hid (fl / 8 % 2 = 1 → t = b + pk + 16) := tl
 have lt : t ≤ 4398046511104 := by
  by_cases h : fl / 8 % 2 = 1
  ·have := tl h; omega
  ·have := tp h; omega
 clear ht tp tl
 go_upto_if 49 with (go_at_call 145; first | (refine (H26.out _ _ _ k30 (by omega) (by omega)).mono ?_; rintro e wn ⟨rfl, rfl⟩) | (refine (H28.out _ _ _ k30 (by omega) (by omega)).mono ?_; rintro e wn ⟨rfl, rfl⟩))
 go_cut [13, 14, 15] from 49 to 51 (fun p t' l wc => p = .int .i64 (b : Int) ∧ t' = .int .i64 (t : Int) ∧ l = .bool (decide (fl / 8 % 2 = 1)) ∧ XB wc w.heap.size [.string nm, .int .i64 (md : Int), .int .i64 (sm : Int), .int .i64 (pk : Int), .int .i64 (sz : Int), .int .i64 0, .int .i64 (fl : Int), .int .i64 (a : Int), .int .i64 (f1 : Int), .int .i64 (f2 : Int), .int .i64 (f3 : Int), .int .i64 0, .int .i64 0] ∧ Touch (fun _ => False) w wc)
 case first =>
  by_cases q : fl / 8 % 2 = 1
  ·have q1 : ((fl : Int) / 8 % 2 == 1) = true := by simp; omega
   have q2 : (fl : Int) / 8 % 2 = 1 := by omega
   have e1 := TL.out q
   clear TL TP
   go_wp2
   go_meet
   case rel => exact ⟨by rw [hb]; push_cast; rfl, by rw [e1, hb]; push_cast; rfl, by rw [decide_eq_true q, q1], X1, T1⟩
  ·have q1 : ((fl : Int) / 8 % 2 == 1) = false := by simp; omega
   have q2 : ¬ (fl : Int) / 8 % 2 = 1 := by omega
   have e1 := TP.out q
   clear TL TP
   go_wp2
   go_meet
   case rel => exact ⟨by rw [hb]; push_cast; rfl, by rw [e1, hb]; push_cast; rfl, by rw [decide_eq_false q, q1], X1, T1⟩
 case rest =>
  obtain ⟨rfl, rfl, rfl, X2, T2⟩ := hcut
  have HB0 : Hid (b = a + 30 + n26 + n28) := hb
  have lb1 : a + 30 + n26 ≤ b := by omega
  have lb2 : b ≤ 1099511758876 := by omega
  clear hb
  clear X1 T1 c3 c6 H26 H28
  have c0 : _ = some (.string nm : Value) := X2.cells 0 (by omega)
  have c1 : _ = some (.int .i64 (md : Int) : Value) := X2.cells 1 (by omega)
  have c6 : _ = some (.int .i64 (fl : Int) : Value) := X2.cells 6 (by omega)
  go_upto_region 12 with fail
  go_cut [89] from 52 to 89 (fun o wc => o = .bool (!decide (t ≤ P ∧ m1 = true ∧ n6 = fl ∧ n8 = md ∧ s.extract (a + 30) (a + 30 + n26) = nm)) ∧ XB wc w.heap.size [.string nm, .int .i64 (md : Int), .int .i64 (sm : Int), .int .i64 (pk : Int), .int .i64 (sz : Int), .int .i64 0, .int .i64 (fl : Int), .int .i64 (a : Int), .int .i64 (f1 : Int), .int .i64 (f2 : Int), .int .i64 (f3 : Int), .int .i64 0, .int .i64 0] ∧ Touch (fun _ => False) w wc)
  case first =>
   clear HN HY Hm2 Hz4 Hz8 Hz12 H14 H18 H22
   cases m1 with
   | false =>
    go_quiet (fail)
    go_wp2
    go_meet
    case rel => exact ⟨by rw [decide_eq_false (by simp)]; rfl, X2.drewN _, T2.drewN _⟩
   | true =>
    by_cases k1 : t ≤ P
    case neg =>
     have k1' : decide ((P : Int) < (t : Int)) = true := decide_eq_true (by omega)
     have k1n : decide (P < t) = true := decide_eq_true (by omega)
     go_quiet (fail)
     go_wp2
     go_meet
     case rel => exact ⟨by rw [decide_eq_false (by omega)]; rfl, X2.drewN _, T2.drewN _⟩
    have k1' : decide ((P : Int) < (t : Int)) = false := decide_eq_false (by omega)
    have k1n : decide (P < t) = false := decide_eq_false (by omega)
    have kb : b ≤ t := by
     by_cases h : fl / 8 % 2 = 1
     ·have := TL.out h; omega
     ·have := TP.out h; omega
    have kn : a + 30 + n26 ≤ P := by omega
    have j1 : (0 : Int) ≤ (a : Int) + 30 := by omega
    have j2 : (a : Int) + 30 ≤ (a : Int) + 30 + (n26 : Int) := by omega
    have j3 : (a : Int) + 30 + (n26 : Int) ≤ (s.size : Int) := by omega
    have j4 : ((a : Int) + 30).toNat = a + 30 := by omega
    have j5 : ((a : Int) + 30 + (n26 : Int)).toNat = a + 30 + n26 := by omega
    by_cases k2 : n6 = fl
    case neg =>
     have k2' : ((n6 : Int) != (fl : Int)) = true := by simp; omega
     go_quiet (first | (go_at_call 145; refine quiet_sym (H6.out _ _ _ k30 (by omega) (by omega))) | (go_at_call 145; refine quiet_sym (H8.out _ _ _ k30 (by omega) (by omega))))
     go_wp2
     go_meet
     case rel => exact ⟨by rw [decide_eq_false (by omega)]; rfl, X2.drewN _, T2.drewN _⟩
    have k2' : ((n6 : Int) != (fl : Int)) = false := by simp; omega
    by_cases k3 : n8 = md
    case neg =>
     have k3' : ((n8 : Int) != (md : Int)) = true := by simp; omega
     go_quiet (first | (go_at_call 145; refine quiet_sym (H6.out _ _ _ k30 (by omega) (by omega))) | (go_at_call 145; refine quiet_sym (H8.out _ _ _ k30 (by omega) (by omega))))
     go_wp2
     go_meet
     case rel => exact ⟨by rw [decide_eq_false (by omega)]; rfl, X2.drewN _, T2.drewN _⟩
    have k3' : ((n8 : Int) != (md : Int)) = false := by simp; omega
    by_cases k4 : s.extract (a + 30) (a + 30 + n26) = nm
    case neg =>
     have k4' : ((s.extract (a + 30) (a + 30 + n26)).toList == nm.toList) = false := by
      rw [beq_eq_false_iff_ne, Ne, bytes_eq]; exact k4
     go_quiet (first | (go_at_call 145; refine quiet_sym (H6.out _ _ _ k30 (by omega) (by omega))) | (go_at_call 145; refine quiet_sym (H8.out _ _ _ k30 (by omega) (by omega))))
     go_wp2
     go_meet
     case rel => exact ⟨by rw [decide_eq_false (fun h => k4 h.2.2.2.2)]; rfl, X2.drewN _, T2.drewN _⟩
    have k4' : ((s.extract (a + 30) (a + 30 + n26)).toList == nm.toList) = true := by
     rw [beq_iff_eq, bytes_eq]; exact k4
    go_quiet (first | (go_at_call 145; refine quiet_sym (H6.out _ _ _ k30 (by omega) (by omega))) | (go_at_call 145; refine quiet_sym (H8.out _ _ _ k30 (by omega) (by omega))))
    go_wp2
    go_meet
    case rel => exact ⟨by rw [decide_eq_true (by first | exact ⟨k1, rfl, k2, k3, k4⟩ | exact ⟨k1, trivial, k2, k3, k4⟩)]; rfl, X2.drewN _, T2.drewN _⟩
  case rest =>
   obtain ⟨rfl, X3, T3⟩ := hcut
   clear X2 T2 c0 c1 c6 H6 H8
   by_cases hD1 : t ≤ P ∧ m1 = true ∧ n6 = fl ∧ n8 = md ∧ s.extract (a + 30) (a + 30 + n26) = nm
   case neg =>
    have FN : Hid (R = .tuple #[.int .i64 0, .int .i64 0, .bool false]) := HN.out (fun h => hD1 h.1.2)
    rw [decide_eq_false hD1]
    clear HN HY hD1 Hm2 Hz4 Hz8 Hz12 H14 H18 H22
    go_wp2
    go_ret3
    exact ⟨by rw [FN.out]; rfl, T3⟩
   rw [decide_eq_true hD1]
   have k1 := hD1.1
   have HD1 : Hid (a + 30 ≤ P ∧ t ≤ P ∧ m1 = true ∧ n6 = fl ∧ n8 = md ∧ s.extract (a + 30) (a + 30 + n26) = nm) := ⟨k30, hD1⟩
   clear hD1
   have c8 : _ = some (.int .i64 (f1 : Int) : Value) := X3.cells 8 (by omega)
   have c9 : _ = some (.int .i64 (f2 : Int) : Value) := X3.cells 9 (by omega)
   have c10 : _ = some (.int .i64 (f3 : Int) : Value) := X3.cells 10 (by omega)
   have lw := X3.lt
   go_upto_region 15 with (go_at_call 145; first | (refine (H14.out _ _ _ k30 (by omega) (by omega)).mono ?_; rintro e wn ⟨rfl, rfl⟩) | (refine (H18.out _ _ _ k30 (by omega) (by omega)).mono ?_; rintro e wn ⟨rfl, rfl⟩) | (refine (H22.out _ _ _ k30 (by omega) (by omega)).mono ?_; rintro e wn ⟨rfl, rfl⟩))
   go_cut [15, 115] from 103 to 115 (fun l o wc => l = .bool (decide (fl / 8 % 2 = 1)) ∧ o = .bool (!decide ((n14 = f1 ∧ n18 = f2 ∧ n22 = f3) ∨ (fl / 8 % 2 = 1 ∧ n14 = 0 ∧ n18 = 0 ∧ n22 = 0))) ∧ XB wc w.heap.size [.string nm, .int .i64 (md : Int), .int .i64 (sm : Int), .int .i64 (pk : Int), .int .i64 (sz : Int), .int .i64 0, .int .i64 (fl : Int), .int .i64 (a : Int), .int .i64 (f1 : Int), .int .i64 (f2 : Int), .int .i64 (f3 : Int), .int .i64 0, .int .i64 0] ∧ Touch (fun _ => False) w wc)
   case first =>
    clear HN HY TP TL Hm2 Hz4 Hz8 Hz12 HD1
    have X4 := X3.keep ((Touch.refl (fun _ => False) _).alloc (Obj.cells #[.int .i64 (n14 : Int), .int .i64 (n18 : Int), .int .i64 (n22 : Int)] 183)) (fun e => e)
    have T4 := T3.alloc (Obj.cells #[.int .i64 (n14 : Int), .int .i64 (n18 : Int), .int .i64 (n22 : Int)] 183)
    by_cases d1 : n14 = f1 ∧ n18 = f2 ∧ n22 = f3
    ·have he : ∀ W, (Op.equalIn 10000 183 (.agg #[.int .i64 (n14 : Int), .int .i64 (n18 : Int), .int .i64 (n22 : Int)]) (.agg #[.int .i64 (f1 : Int), .int .i64 (f2 : Int), .int .i64 (f3 : Int)])).run Tryz.prog W = .ok true W := fun W => by
      rw [equal3, d1.1, d1.2.1, d1.2.2]; simp
     have d2 : decide ((n14 = f1 ∧ n18 = f2 ∧ n22 = f3) ∨ (fl / 8 % 2 = 1 ∧ n14 = 0 ∧ n18 = 0 ∧ n22 = 0)) = true := decide_eq_true (.inl d1)
     clear d1
     go_wp2
     go_meet
     case rel => exact ⟨by first | rfl | rw [q1], by rw [d2]; rfl, X4, T4⟩
    ·have he : ∀ W, (Op.equalIn 10000 183 (.agg #[.int .i64 (n14 : Int), .int .i64 (n18 : Int), .int .i64 (n22 : Int)]) (.agg #[.int .i64 (f1 : Int), .int .i64 (f2 : Int), .int .i64 (f3 : Int)])).run Tryz.prog W = .ok false W := fun W => by
      rw [equal3]
      congr 1
      rw [Bool.eq_false_iff]
      intro h
      simp at h
      exact d1 (by omega)
     by_cases q : fl / 8 % 2 = 1
     ·have q1 : decide (fl / 8 % 2 = 1) = true := decide_eq_true q
      by_cases d3 : n14 = 0 ∧ n18 = 0 ∧ n22 = 0
      ·have he2 : ∀ W, (Op.equalIn 10000 183 (.agg #[.int .i64 (n14 : Int), .int .i64 (n18 : Int), .int .i64 (n22 : Int)]) (.agg #[.int .i64 0, .int .i64 0, .int .i64 0])).run Tryz.prog W = .ok true W := fun W => by
        rw [equal3, d3.1, d3.2.1, d3.2.2]; simp
       have d2 : decide ((n14 = f1 ∧ n18 = f2 ∧ n22 = f3) ∨ (fl / 8 % 2 = 1 ∧ n14 = 0 ∧ n18 = 0 ∧ n22 = 0)) = true := decide_eq_true (.inr ⟨q, d3⟩)
       clear d1 d3
       go_wp2
       go_meet
       case rel => exact ⟨by first | rfl | rw [q1], by rw [d2]; rfl, X4, T4⟩
      ·have he2 : ∀ W, (Op.equalIn 10000 183 (.agg #[.int .i64 (n14 : Int), .int .i64 (n18 : Int), .int .i64 (n22 : Int)]) (.agg #[.int .i64 0, .int .i64 0, .int .i64 0])).run Tryz.prog W = .ok false W := fun W => by
        rw [equal3]
        congr 1
        rw [Bool.eq_false_iff]
        intro h
        simp at h
        exact d3 (by omega)
       have d2 : decide ((n14 = f1 ∧ n18 = f2 ∧ n22 = f3) ∨ (fl / 8 % 2 = 1 ∧ n14 = 0 ∧ n18 = 0 ∧ n22 = 0)) = false := decide_eq_false (fun h => h.elim d1 (fun h => d3 h.2))
       clear d1 d3
       go_wp2
       go_meet
       case rel => exact ⟨by first | rfl | rw [q1], by rw [d2]; rfl, X4, T4⟩
     ·have q1 : decide (fl / 8 % 2 = 1) = false := decide_eq_false q
      have d2 : decide ((n14 = f1 ∧ n18 = f2 ∧ n22 = f3) ∨ (fl / 8 % 2 = 1 ∧ n14 = 0 ∧ n18 = 0 ∧ n22 = 0)) = false := decide_eq_false (fun h => h.elim d1 (fun h => q h.1))
      clear d1
      go_wp2
      go_meet
      case rel => exact ⟨by first | rfl | rw [q1], by rw [d2]; rfl, X4, T4⟩
   case rest =>
    obtain ⟨rfl, rfl, X5, T5⟩ := hcut
    clear X3 T3 c8 c9 c10 lw H14 H18 H22
    by_cases hD2 : (n14 = f1 ∧ n18 = f2 ∧ n22 = f3) ∨ (fl / 8 % 2 = 1 ∧ n14 = 0 ∧ n18 = 0 ∧ n22 = 0)
    case neg =>
     have FN : Hid (R = .tuple #[.int .i64 0, .int .i64 0, .bool false]) := HN.out (fun h => hD2 h.2.1)
     rw [decide_eq_false hD2]
     clear HN HY hD2 Hm2 Hz4 Hz8 Hz12 HD1
     go_wp2
     go_ret3
     exact ⟨by rw [FN.out]; rfl, T5⟩
    rw [decide_eq_true hD2]
    have HD2 : Hid ((n14 = f1 ∧ n18 = f2 ∧ n22 = f3) ∨ (fl / 8 % 2 = 1 ∧ n14 = 0 ∧ n18 = 0 ∧ n22 = 0)) := hD2
    clear hD2
    by_cases q : fl / 8 % 2 = 1
    case neg =>
     have q1 : decide (fl / 8 % 2 = 1) = false := decide_eq_false q
     have FY : Hid (R = .tuple #[.int .i64 (b : Int), .int .i64 (t : Int), .bool true]) := HY.out ⟨HD1.out, HD2.out, fun h => absurd h q⟩
     clear HN HY Hm2 Hz4 Hz8 Hz12 HD1 HD2
     go_wp2
     go_ret3
     exact ⟨by rw [FY.out]; rfl, T5⟩
    have q1 : decide (fl / 8 % 2 = 1) = true := decide_eq_true q
    have et := TL.out q
    have ei : (t : Int) = (b : Int) + (pk : Int) + 16 := by omega
    have kP : b + pk + 16 ≤ P := by omega
    have HT : Hid (t = b + pk + 16) := et
    clear et TP TL
    have lw := X5.lt
    go_wp2_with fail
    refine (Hm2.out _ _ kP (by omega)).mono ?_
    rintro e w6 ⟨rfl, t6⟩
    have X6 := X5.keep t6 (fun e => e)
    have T6 := T5.trans t6
    have c2 : w6.cell? ⟨w.heap.size, 2, none⟩ = some (.int .i64 (sm : Int)) := X6.cells 2 (by omega)
    have c3 : w6.cell? ⟨w.heap.size, 3, none⟩ = some (.int .i64 (pk : Int)) := X6.cells 3 (by omega)
    have c4 : w6.cell? ⟨w.heap.size, 4, none⟩ = some (.int .i64 (sz : Int)) := X6.cells 4 (by omega)
    clear X5 T5 t6 Hm2
    go_upto_region 19 with fail
    go_cut [151] from 121 to 151 (fun o wc => o = .bool (!decide (m2 = true ∧ z4 = sm ∧ z8 = pk % 4294967296 ∧ z12 = sz % 4294967296)) ∧ Touch (fun _ => False) w wc)
    case first =>
     clear HN HY HD1 HD2
     have r0 : (0 : Int) ≤ (pk : Int) := by omega
     have r1 : (0 : Int) ≤ (sz : Int) := by omega
     cases m2 with
     | false =>
      go_quiet (fail)
      go_wp2
      go_meet
      case rel => exact ⟨by rw [decide_eq_false (by simp)]; rfl, T6.drewN _⟩
     | true =>
      by_cases k1 : z4 = sm
      case neg =>
       have k1' : ((z4 : Int) != (sm : Int)) = true := by simp; omega
       go_quiet (first | (go_at_call 145; refine quiet_sym (Hz4.out _ _ _ kP (by omega) (by omega))) | (go_at_call 145; refine quiet_sym (Hz8.out _ _ _ kP (by omega) (by omega))) | (go_at_call 145; refine quiet_sym (Hz12.out _ _ _ kP (by omega) (by omega))))
       go_wp2
       go_meet
       case rel => exact ⟨by rw [decide_eq_false (fun h => k1 h.2.1)]; rfl, T6.drewN _⟩
      have k1' : ((z4 : Int) != (sm : Int)) = false := by simp; omega
      by_cases k2 : z8 = pk % 4294967296
      case neg =>
       have k2' : ((z8 : Int) != (pk : Int) % 4294967296) = true := by simp; omega
       go_quiet (first | (go_at_call 145; refine quiet_sym (Hz4.out _ _ _ kP (by omega) (by omega))) | (go_at_call 145; refine quiet_sym (Hz8.out _ _ _ kP (by omega) (by omega))) | (go_at_call 145; refine quiet_sym (Hz12.out _ _ _ kP (by omega) (by omega))))
       go_wp2
       go_meet
       case rel => exact ⟨by rw [decide_eq_false (fun h => k2 h.2.2.1)]; rfl, T6.drewN _⟩
      have k2' : ((z8 : Int) != (pk : Int) % 4294967296) = false := by simp; omega
      have k2i : (z8 : Int) = (pk : Int) % 4294967296 := by omega
      by_cases k3 : z12 = sz % 4294967296
      case neg =>
       have k3' : ((z12 : Int) != (sz : Int) % 4294967296) = true := by simp; omega
       clear k2i
       go_quiet (first | (go_at_call 145; refine quiet_sym (Hz4.out _ _ _ kP (by omega) (by omega))) | (go_at_call 145; refine quiet_sym (Hz8.out _ _ _ kP (by omega) (by omega))) | (go_at_call 145; refine quiet_sym (Hz12.out _ _ _ kP (by omega) (by omega))))
       go_wp2
       go_meet
       case rel => exact ⟨by rw [decide_eq_false (fun h => k3 h.2.2.2)]; rfl, T6.drewN _⟩
      have k3' : ((z12 : Int) != (sz : Int) % 4294967296) = false := by simp; omega
      clear k2i
      go_quiet (first | (go_at_call 145; refine quiet_sym (Hz4.out _ _ _ kP (by omega) (by omega))) | (go_at_call 145; refine quiet_sym (Hz8.out _ _ _ kP (by omega) (by omega))) | (go_at_call 145; refine quiet_sym (Hz12.out _ _ _ kP (by omega) (by omega))))
      go_wp2
      go_meet
      case rel => exact ⟨by rw [decide_eq_true (by first | exact ⟨rfl, k1, k2, k3⟩ | exact ⟨trivial, k1, k2, k3⟩)]; rfl, T6.drewN _⟩
    case rest =>
     obtain ⟨rfl, T7⟩ := hcut
     clear X6 T6 c2 c3 c4 Hz4 Hz8 Hz12
     by_cases hD3 : m2 = true ∧ z4 = sm ∧ z8 = pk % 4294967296 ∧ z12 = sz % 4294967296
     ·have FY : Hid (R = .tuple #[.int .i64 (b : Int), .int .i64 (t : Int), .bool true]) := HY.out ⟨HD1.out, HD2.out, fun _ => hD3⟩
      rw [decide_eq_true hD3]
      clear HN HY hD3 HD1 HD2
      go_wp2
      go_ret3
      exact ⟨by rw [FY.out, HT.out]; first | rfl | (push_cast; rfl), T7⟩
     ·have FN : Hid (R = .tuple #[.int .i64 0, .int .i64 0, .bool false]) := HN.out (fun h => hD3 (h.2.2 q))
      rw [decide_eq_false hD3]
      clear HN HY hD3 HD1 HD2
      go_wp2
      go_ret3
      exact ⟨by rw [FN.out]; rfl, T7⟩
theorem rAhead_c (w : World) (s : ByteArray) (P : Nat) (e : Ent) (hP : P ≤ s.size) (hs : s.size ≤ 140737488355328) (ho : EntOk e) (h3 : e.three.size = 12) :
  Calls Tryz.prog 94 #[.string s, .agg #[.string e.name, .int .i64 (e.method : Int), .int .i64 (e.sum : Int), .int .i64 (e.packed : Int), .int .i64 (e.size : Int), .int .i64 0, .int .i64 (e.flags : Int), .int .i64 (e.ahead : Int), .int .i64 ((fourOf e).1 : Int), .int .i64 ((fourOf e).2.1 : Int), .int .i64 ((fourOf e).2.2 : Int), .int .i64 0, .int .i64 0], .int .i64 (P : Int)] w fun r w' => r = .returned (spanV (spanAt s P e)) ∧ Touch (fun _ => False) w w' := by
 obtain ⟨r1, r2⟩ := spanAt_ref s P e hP h3
 have hl : laterB e = true ↔ e.flags / 8 % 2 = 1 := by unfold laterB; simp
 have hT : hdT0 s e = hdB0 s e + e.packed + if e.flags / 8 % 2 = 1 then 16 else 0 := by
  unfold hdT0
  by_cases h : e.flags / 8 % 2 = 1
  ·rw [if_pos h, if_pos (hl.2 h)]
  ·rw [if_neg h, if_neg (fun h' => h (hl.1 h'))]
 refine ahead_core w s e.name P e.ahead e.packed e.size e.sum e.flags e.method (fourOf e).1 (fourOf e).2.1 (fourOf e).2.2 (numIn s (e.ahead + 26) 2) (numIn s (e.ahead + 28) 2) (numIn s (e.ahead + 6) 2) (numIn s (e.ahead + 8) 2) (numIn s (e.ahead + 14) 4) (numIn s (e.ahead + 18) 4) (numIn s (e.ahead + 22) 4) (numIn s (hdB0 s e + e.packed + 4) 4) (numIn s (hdB0 s e + e.packed + 8) 4) (numIn s (hdB0 s e + e.packed + 12) 4) (hdB0 s e) (hdT0 s e) (markB s e.ahead 3 4) (markB s (hdB0 s e + e.packed) 7 8) _ hP hs ho.ahead ho.packed ho.size ho.flags (numIn2 _ _) (numIn2 _ _) rfl hT
  (fun W A N h h1 h2 => by subst h1 h2; exact rnum_some W s (e.ahead + 26) 2 _ _ (by push_cast; rfl) rfl hs (by omega) (by omega) (by omega)) (fun W A N h h1 h2 => by subst h1 h2; exact rnum_some W s (e.ahead + 28) 2 _ _ (by push_cast; rfl) rfl hs (by omega) (by omega) (by omega)) (fun W A N h h1 h2 => by subst h1 h2; exact rnum_some W s (e.ahead + 6) 2 _ _ (by push_cast; rfl) rfl hs (by omega) (by omega) (by omega)) (fun W A N h h1 h2 => by subst h1 h2; exact rnum_some W s (e.ahead + 8) 2 _ _ (by push_cast; rfl) rfl hs (by omega) (by omega) (by omega)) (fun W A N h h1 h2 => by subst h1 h2; exact rnum_some W s (e.ahead + 14) 4 _ _ (by push_cast; rfl) rfl hs (by omega) (by omega) (by omega)) (fun W A N h h1 h2 => by subst h1 h2; exact rnum_some W s (e.ahead + 18) 4 _ _ (by push_cast; rfl) rfl hs (by omega) (by omega) (by omega)) (fun W A N h h1 h2 => by subst h1 h2; exact rnum_some W s (e.ahead + 22) 4 _ _ (by push_cast; rfl) rfl hs (by omega) (by omega) (by omega))
  (fun W A N h h1 h2 => by subst h1 h2; exact rnum_some W s (hdB0 s e + e.packed + 4) 4 _ _ (by push_cast; rfl) rfl hs (by omega) (by omega) (by omega)) (fun W A N h h1 h2 => by subst h1 h2; exact rnum_some W s (hdB0 s e + e.packed + 8) 4 _ _ (by push_cast; rfl) rfl hs (by omega) (by omega) (by omega)) (fun W A N h h1 h2 => by subst h1 h2; exact rnum_some W s (hdB0 s e + e.packed + 12) 4 _ _ (by push_cast; rfl) rfl hs (by omega) (by omega) (by omega))
  (fun W A h h1 => by subst h1; exact (rmark_in W s e.ahead 3 4 _ _ rfl rfl hs (by omega)))
  (fun W A h h1 => by
   have := rmark_in W s (hdB0 s e + e.packed) 7 8 _ _ rfl rfl hs (by omega)
   rw [h1, ← Int.natCast_add]; exact this)
  ?_ ?_
 ·intro h
  rw [r1 (fun h' => h ⟨h'.1, ?_, ?_⟩)]
  ·rfl
  ·exact h'.2.1.imp id (fun x => ⟨hl.1 x.1, x.2⟩)
  ·exact fun q => h'.2.2 (hl.2 q)
 ·intro h
  rw [r2 ⟨h.1, h.2.1.imp id (fun x => ⟨hl.2 x.1, x.2⟩), fun q => h.2.2 (hl.1 q)⟩]
  rfl
end Go.Proofs.YtpckiobjpikmlaaGreatDoor
namespace Go.Proofs.YtpckiobjpikmlaaGreatDoor
open Go.RowKit Go.Shelf Go.Lib
theorem rlist_g1 (w : World) (s : ByteArray) (qe qn qb : Int) (hs : s.size ≤ 1048576) (d : Dir) (l : List Ent) (h3 : entsGo s d.stop d.count d.place [] = .ok l) (hbad : qn < (namesSum l : Int) ∨ anyPair (fun a b => clashB a.name b.name) l = true) (h0 : dirOf s = .ok d) (h1 : ¬ qe < (d.count : Int)) (h2 : d.place ≤ d.stop ∧ d.size = d.stop - d.place) :
  Calls Tryz.prog 47 #[.string s, .agg #[.int .i64 qe, .int .i64 qn, .int .i64 qb]] w fun r w' => Touch (fun _ => False) w w' ∧ rlistPost w.heap.size (listOf s qe qn qb) r w' := by
 obtain ⟨i0, hi, hz0, hz1, hz2⟩ := info_parts Tryz.infoRefEntry
 have T0 : Touch (fun _ => False) w (w.alloc (Obj.cells #[.int .i64 qe, .int .i64 qn, .int .i64 qb] 44)) := (Touch.refl _ w).alloc _
 have bq0 := heap_alloc_new w (Obj.cells #[.int .i64 qe, .int .i64 qn, .int .i64 qb] 44)
 have HD : Hid (∀ W, Calls Tryz.prog 91 #[.string s] W fun e w' => e = .returned (dirV (dirOf s)) ∧ Touch (fun _ => False) W w') := fun W => rEnd_c W s (by omega)
 have hRR := listOf_rest s qe qn qb d l h0 h1 h2 h3
 have hall := entsGo_each s d.stop (dirOf_ok s d h0).1 _ _ _ _ h3 (fun e he => by cases he)
 obtain ⟨R, hR⟩ : ∃ R, R = listOf s qe qn qb := ⟨_, rfl⟩
 rw [← hR]
 rw [← hR] at hRR
 have hds := (dirOf_ok s d h0).1
 rw [h0] at HD
 obtain ⟨cn, sz, pl, st⟩ := d
 obtain ⟨hp, hz⟩ := h2
 simp only at *
 obtain ⟨Rs, hRs⟩ : ∃ Rs, Rs = entsGo s st cn pl [] := ⟨_, rfl⟩
 have hst : st ≤ s.size := hds
 have g0 : ¬ qe < (cn : Int) := h1
 have gq : decide (qe < (cn : Int)) = false := decide_eq_false h1
 have gd : decide (st < pl) = false := decide_eq_false (by omega)
 have g1 : ¬ (st : Int) < (pl : Int) := by omega
 have g2 : ((sz : Int) != (st : Int) - (pl : Int)) = false := by simp; omega
 have HRS : Hid (Rs = entsGo s st (cn - 0) pl []) := hRs
 have hRl : Rs = .ok l := hRs.trans h3
 have HRR : Hid (R = listRest s pl qn qb l) := hRR
 clear hR hRR hRs h0 h1 hds hz
 go_enter Tryz.func47, Tryz.ntmps47
 go_wp2_with fail
 refine (HD.out _).mono ?_
 rintro e w1 ⟨he, t1⟩
 obtain rfl := (show e = .returned (.tuple #[.agg #[.int .i64 (cn : Int), .int .i64 (sz : Int), .int .i64 (pl : Int), .int .i64 (st : Int)], .int .i64 0]) from he)
 have T1 := T0.trans t1
 have bq1 := (t1.block _ (by simp) (fun e => e)).trans bq0
 have q0 : w1.cell? ⟨w.heap.size, 0, none⟩ = some (.int .i64 qe) := by rw [row_cell bq1 0]; rfl
 have q1 : w1.cell? ⟨w.heap.size, 1, none⟩ = some (.int .i64 qn) := by rw [row_cell bq1 1]; rfl
 have q2 : w1.cell? ⟨w.heap.size, 2, none⟩ = some (.int .i64 qb) := by rw [row_cell bq1 2]; rfl
 have lq1 : w.heap.size < w1.heap.size := (Array.getElem?_eq_some_iff.1 bq1).1
 clear he t1 HD bq0 bq1 T0
 have C1 := CB.three q0 q1 q2 lq1
 have B1 := CB.new w1 [.int .i64 (cn : Int), .int .i64 (sz : Int), .int .i64 (pl : Int), .int .i64 (st : Int)] 180
 have A1 := C1.keep ((Touch.refl (fun _ => False) w1).alloc (Obj.cells #[.int .i64 (cn : Int), .int .i64 (sz : Int), .int .i64 (pl : Int), .int .i64 (st : Int)] 180)) (fun e => e)
 have T2 := T1.alloc (Obj.cells #[.int .i64 (cn : Int), .int .i64 (sz : Int), .int .i64 (pl : Int), .int .i64 (st : Int)] 180)
 have hS0 : w1.heap.size + 1 ≤ (w1.alloc (Obj.cells #[.int .i64 (cn : Int), .int .i64 (sz : Int), .int .i64 (pl : Int), .int .i64 (st : Int)] 180)).heap.size := by simp
 go_wp2
 go_loopw [8, 9, 10] (fun v p' i wr => ∃ (k p : Nat) (acc : List Ent), k ≤ cn ∧ acc.length = k ∧ i = .int .i64 (k : Int) ∧ p' = .int .i64 (p : Int) ∧ wr.ownsRow (w1.heap.size + 1) 185 13 v acc.length (refV acc) ∧ CB wr w.heap.size [.int .i64 qe, .int .i64 qn, .int .i64 qb] ∧ CB wr w1.heap.size [.int .i64 (cn : Int), .int .i64 (sz : Int), .int .i64 (pl : Int), .int .i64 (st : Int)] ∧ k * 46 + pl ≤ p ∧ p ≤ st ∧ Hid (Rs = entsGo s st (cn - k) p acc) ∧ Touch (fun _ => False) w wr ∧ w1.heap.size + 1 ≤ wr.heap.size) (fun v p' i wr => cn - (intOf i).toNat)
 case atStart => exact ⟨0, pl, [], Nat.zero_le _, rfl, rfl, rfl, World.ownsRow_nil _ _ _ _, A1, B1, by omega, hp, HRS, T2, hS0⟩
 case round =>
  obtain ⟨k, p, acc, hk, hacc, rfl, rfl, hro, hC, hB, hp46, hpst, HK, ht, hsz⟩ := hrel
  clear A1 B1 C1 T2 hS0 HRS T1 q0 q1 q2
  have b0 : wr.cell? ⟨w1.heap.size, 0, none⟩ = some (.int .i64 (cn : Int)) := hB.cells 0 (by simp)
  have b2 : wr.cell? ⟨w1.heap.size, 2, none⟩ = some (.int .i64 (pl : Int)) := hB.cells 2 (by simp)
  have b3 : wr.cell? ⟨w1.heap.size, 3, none⟩ = some (.int .i64 (st : Int)) := hB.cells 3 (by simp)
  by_cases hlt : k < cn
  ·have hlt' : (k : Int) < (cn : Int) := by omega
   have HX : Hid (Rs = match entAt s st p with
     | none => .error 5
     | some (e, q) => if faultOf e = 0 then entsGo s st (cn - (k + 1)) q (acc ++ [e]) else .error (faultOf e)) := by
    unfold Hid; rw [HK.out, show cn - k = (cn - (k + 1)) + 1 by omega]; rfl
   clear HK
   go_wp2_with fail
   refine (rEntry_c _ s st p hst (by omega) (by omega)).mono ?_
   rintro r w2 ⟨hr, t2⟩
   unfold rentPost at hr
   have T2 : Touch (fun _ => False) w w2 := ht.trans t2
   have hsz2 := t2.size
   have hro2 := t2.owns hro (fun _ _ h => h)
   have hC2 := hC.keep t2 (fun e => e)
   have hB2 := hB.keep t2 (fun e => e)
   clear t2 hro hC hB b0 b2 b3 ht
   cases hea : entAt s st p with
   | none =>
    rw [hea] at hr HX
    exfalso
    have hx : Rs = .error 5 := HX.out
    rw [hRl] at hx; cases hx
   | some eq =>
    obtain ⟨e, q⟩ := eq
    rw [hea] at hr HX
    obtain ⟨p1, p2, hok⟩ := entAt_ok s _ _ _ _ hea
    have HX' : Hid (Rs = if faultOf e = 0 then entsGo s st (cn - (k + 1)) q (acc ++ [e]) else .error (faultOf e)) := HX
    have hr' : if faultOf e = 0 then r = .returned (.tuple #[.agg (refL e (fourOf e) 0 0 0).toArray, .int .i64 (q : Int), .int .i64 0]) else anyE r (faultOf e) := hr
    clear HX hea hr
    by_cases hfa : faultOf e = 0
    ·have hx := HX'.out
     rw [if_pos hfa] at hx
     have HN : Hid (Rs = entsGo s st (cn - (k + 1)) q (acc ++ [e])) := hx
     rw [if_pos hfa] at hr'
     obtain rfl := (show r = .returned (.tuple #[.agg #[.string e.name, .int .i64 (e.method : Int), .int .i64 (e.sum : Int), .int .i64 (e.packed : Int), .int .i64 (e.size : Int), .int .i64 0, .int .i64 (e.flags : Int), .int .i64 (e.ahead : Int), .int .i64 ((fourOf e).1 : Int), .int .i64 ((fourOf e).2.1 : Int), .int .i64 ((fourOf e).2.2 : Int), .int .i64 0, .int .i64 0], .int .i64 (q : Int), .int .i64 0]) from hr')
     have HQ : Hid (∀ (j : Nat) (y : Value), (refC (rawE e))[j]? = some y → ((w2.alloc (Obj.cells #[.string e.name, .int .i64 (e.method : Int), .int .i64 (e.sum : Int), .int .i64 (e.packed : Int), .int .i64 (e.size : Int), .int .i64 0, .int .i64 (e.flags : Int), .int .i64 (e.ahead : Int), .int .i64 ((fourOf e).1 : Int), .int .i64 ((fourOf e).2.1 : Int), .int .i64 ((fourOf e).2.2 : Int), .int .i64 0, .int .i64 0] 185)).alloc (Obj.cells #[.string e.name, .int .i64 (e.method : Int), .int .i64 (e.sum : Int), .int .i64 (e.packed : Int), .int .i64 (e.size : Int), .int .i64 0, .int .i64 (e.flags : Int), .int .i64 (e.ahead : Int), .int .i64 ((fourOf e).1 : Int), .int .i64 ((fourOf e).2.1 : Int), .int .i64 ((fourOf e).2.2 : Int), .int .i64 0, .int .i64 0] 185)).cell? ((⟨w2.heap.size + 1, 0, none⟩ : Addr).add j) = some y) := by
      have := cell_list_new (w2.alloc (Obj.cells #[.string e.name, .int .i64 (e.method : Int), .int .i64 (e.sum : Int), .int .i64 (e.packed : Int), .int .i64 (e.size : Int), .int .i64 0, .int .i64 (e.flags : Int), .int .i64 (e.ahead : Int), .int .i64 ((fourOf e).1 : Int), .int .i64 ((fourOf e).2.1 : Int), .int .i64 ((fourOf e).2.2 : Int), .int .i64 0, .int .i64 0] 185)) (refC (rawE e)) 185
      rw [World.size_alloc] at this
      exact this
     have b3 : acc.length + 1 ≤ maxLen := by unfold maxLen; omega
     have b4 : (acc.length + 1) * 112 ≤ 140737488355328 := by omega
     have hro3 := (hro2.alloc (Obj.cells #[.string e.name, .int .i64 (e.method : Int), .int .i64 (e.sum : Int), .int .i64 (e.packed : Int), .int .i64 (e.size : Int), .int .i64 0, .int .i64 (e.flags : Int), .int .i64 (e.ahead : Int), .int .i64 ((fourOf e).1 : Int), .int .i64 ((fourOf e).2.1 : Int), .int .i64 ((fourOf e).2.2 : Int), .int .i64 0, .int .i64 0] 185)).alloc (Obj.cells #[.string e.name, .int .i64 (e.method : Int), .int .i64 (e.sum : Int), .int .i64 (e.packed : Int), .int .i64 (e.size : Int), .int .i64 0, .int .i64 (e.flags : Int), .int .i64 (e.ahead : Int), .int .i64 ((fourOf e).1 : Int), .int .i64 ((fourOf e).2.1 : Int), .int .i64 ((fourOf e).2.2 : Int), .int .i64 0, .int .i64 0] 185)
     clear hx HX' hr'
     revert HQ HN hok hro3
     obtain ⟨f1, hf1⟩ : ∃ f, f = (fourOf e).1 := ⟨_, rfl⟩
     obtain ⟨f2, hf2⟩ : ∃ f, f = (fourOf e).2.1 := ⟨_, rfl⟩
     obtain ⟨f3, hf3⟩ : ∃ f, f = (fourOf e).2.2 := ⟨_, rfl⟩
     rw [← hf1, ← hf2, ← hf3]
     clear hf1 hf2 hf3
     intro hok HN HQ hro3
     go_wp2_with (at_builtin; refine wpList_append_own _ rfl _ _ 133 rfl (w1.heap.size + 1) 185 i0 (.agg #[.string ⟨#[]⟩, .int .i64 0, .int .i64 0, .int .i64 0, .int .i64 0, .int .i64 0, .int .i64 0, .int .i64 0, .int .i64 0, .int .i64 0, .int .i64 0, .int .i64 0, .int .i64 0]) 13 112 Tryz.underlying133 hi hz0 hz1 hz2 rfl (by decide) _ _ _ rfl hro3 ⟨w2.heap.size + 1, 0, none⟩ 1 1 (refC (rawE e)) rfl rfl HQ.out (by simp [refC, refL, rawE, Value.oneCell']) b3 b4 (by simp; omega) ?_; intro v' w3 hown' hgrow hnil)
     have hrowB : ∀ q, u8.ownBlock = some q → w1.heap.size + 1 ≤ q := fun q hq => (hro2.lt q hq).1
     have TB : Touch (fun q => u8.ownBlock = some q) w2 w3 := (((Touch.refl (fun q => u8.ownBlock = some q) w2).alloc _).alloc _).grown hgrow (fun q hq => hq)
     have hsz3 := TB.size
     go_roundw
     case rel =>
      refine ⟨k + 1, q, acc ++ [e], by omega, by simp; omega, by go_num, rfl, ?_, ?_, ?_, by omega, by omega, HN, ?_, by omega⟩
      ·rw [refV_snoc, List.length_append]; exact hown'
      ·refine hC2.keep TB (fun e => ?_)
       have := hrowB _ e; omega
      ·refine hB2.keep TB (fun e => ?_)
       have := hrowB _ e; omega
      ·exact ((T2.alloc _).alloc _).grownNew hgrow (fun q hq => by have := hrowB q hq; omega)
     case measure => simp [intOf]; omega
    ·have hx := HX'.out
     rw [if_neg hfa] at hx
     exfalso
     rw [hRl] at hx; cases hx
  ·obtain rfl : cn = k := by omega
   have hx := HK.out
   rw [Nat.sub_self] at hx
   have hx' : Rs = if p = st then .ok acc else .error 5 := hx
   by_cases hpe : p = st
   case neg => exfalso; rw [if_neg hpe] at hx'; rw [hRl] at hx'; cases hx'
   rw [if_pos hpe, hRl] at hx'
   cases hx'
   subst hpe
   have hln := (entsGo_ok s p _ _ _ _ h3).2.1
   simp only [List.length_nil] at hln
   obtain ⟨a, cap, g, rfl, hge, hRf⟩ := Refs.owned hro
   have q1 : wr.cell? ⟨w.heap.size, 1, none⟩ = some (.int .i64 qn) := hC.cells 1 (by simp)
   have g4 : ((p : Int) != (p : Int)) = false := by simp
   obtain ⟨n, hn⟩ : ∃ n, n = l.length := ⟨_, rfl⟩
   have HNN : Hid (n = l.length) := hn
   have hn2 : n ≤ 22796 := by omega
   rw [← hn]
   obtain ⟨e0, he0⟩ : ∃ e, e = w1.heap.size := ⟨_, rfl⟩
   rw [← he0] at hB hge hsz b0 b2 b3
   have hg1 : w.heap.size ≤ g := by omega
   have hg2 : w.heap.size ≠ g := by omega
   have hge0 : e0 ≠ g := by omega
   rw [← he0]
   clear he0
   obtain ⟨SN, hSN⟩ : ∃ f, f = sumE l (fun e => e.name.size) := ⟨_, rfl⟩
   obtain ⟨SZ, hSZ⟩ : ∃ f, f = sumE l (fun e => e.size) := ⟨_, rfl⟩
   have HS1 : Hid (∀ k (h : k < l.length), SN (k + 1) = SN k + l[k].name.size) := fun k h => by rw [hSN]; exact sumE_succ l _ k h
   have HS2 : Hid (∀ k (h : k < l.length), SZ (k + 1) = SZ k + l[k].size) := fun k h => by rw [hSZ]; exact sumE_succ l _ k h
   have HS3 : Hid (∀ k, k ≤ l.length → SN k ≤ k * 65536) := fun k h => by rw [hSN]; exact sumE_le l _ _ (fun e he => Nat.le_of_lt (hall e he).1.name) k h
   have HS4 : Hid (∀ k, k ≤ l.length → SZ k ≤ k * 1099511627776) := fun k h => by rw [hSZ]; exact sumE_le l _ _ (fun e he => (hall e he).1.size) k h
   have HS0 : Hid (SN 0 = 0 ∧ SZ 0 = 0) := by rw [hSN, hSZ]; exact ⟨rfl, rfl⟩
   have HSN : Hid (SN n = namesSum l) := by rw [hSN, hn]; exact sumE_all l _
   have HSZ : Hid (SZ n = sizesSum l) := by rw [hSZ, hn]; exact sumE_all l _
   have HALL : Hid (∀ e ∈ l, EntOk e ∧ faultOf e = 0 ∧ e.three.size = 12) := hall
   clear hSN hSZ hn hro hx HK hp46 hpst hlt hall h3 hRl
   go_wp2
   go_loop [14, 15, 16] (fun x y i => ∃ k : Nat, k ≤ n ∧ i = .int .i64 (k : Int) ∧ x = .int .i64 (SN k : Int) ∧ y = .int .i64 (SZ k : Int)) (fun x y i => n - (intOf i).toNat)
   case atStart => exact ⟨0, Nat.zero_le _, rfl, by rw [HS0.out.1]; rfl, by rw [HS0.out.2]; rfl⟩
   case round =>
    obtain ⟨k, hk, rfl, rfl, rfl⟩ := hrel
    by_cases hlt : k < n
    ·have hlt' : k < l.length := by have := HNN.out; omega
     obtain rfl := hRf.ptr (by rw [List.length_map]; omega)
     have hcl := (hRf.at_ (by rw [List.length_map]; omega)).cells k (by rw [List.length_map]; omega)
     rw [List.getElem_map] at hcl
     have c0 : wr.cell? ⟨g, k * 13, none⟩ = some (.string l[k].name) := hcl 0 (by omega)
     have c4 : wr.cell? ⟨g, k * 13 + 4, none⟩ = some (.int .i64 (l[k].size : Int)) := hcl 4 (by omega)
     have s1 := HS1.out k hlt'
     have s2 := HS2.out k hlt'
     have s3 := HS3.out (k + 1) (by omega)
     have s4 := HS4.out (k + 1) (by omega)
     have H1 : Hid (SN (k + 1) = SN k + l[k].name.size) := s1
     have H2 : Hid (SZ (k + 1) = SZ k + l[k].size) := s2
     have d1 : SN k + l[k].name.size ≤ 4611686018427387904 := by omega
     have d2 : SZ k + l[k].size ≤ 4611686018427387904 := by omega
     clear hcl s1 s2 s3 s4
     revert c0 c4 H1 H2 d1 d2
     generalize l[k] = x
     intro c0 c4 H1 H2 d1 d2
     go_wp2
     exact ⟨⟨k + 1, by omega, by go_num, by rw [H1.out]; push_cast; rfl, by rw [H2.out]; push_cast; rfl⟩, by simp [intOf]; omega⟩
    ·obtain rfl : k = n := by omega
     have s3 := HS3.out k (by have := HNN.out; omega)
     have s4 := HS4.out k (by have := HNN.out; omega)
     have u3 : SN k ≤ 4611686018427387904 := by omega
     have u4 : SZ k ≤ 4611686018427387904 := by omega
     clear HS0 HS1 HS2 HS3 HS4 s3 s4 hk hlt
     by_cases hq : qn < (SN k : Int)
     ·have FIN : Hid (∀ w', rlistPost w.heap.size R (.returned (.tuple #[.slice none 0 0, .int .i64 13])) w') := rlist_err _ _ 13 (by rw [HRR.out]; unfold listRest; rw [if_pos (by rw [HSN.out] at hq; exact hq)])
      go_wp2
      go_ret2
      exact ⟨ht, FIN.out _⟩
     have HNQ : Hid ((namesSum l : Int) ≤ qn) := by unfold Hid; rw [← HSN.out]; omega
     have HNP : Hid (NoPair (fun a b => clashB a.name b.name) l 0) := by intro a b ha hb h1 h2; omega
     go_wp2
     go_loopw [17] (fun i wr => ∃ m : Nat, m ≤ k ∧ i = .int .i64 (m : Int) ∧ Hid (NoPair (fun a b => clashB a.name b.name) l m) ∧ Refs wr a g (l.map rawE) ∧ CB wr w.heap.size [.int .i64 qe, .int .i64 qn, .int .i64 qb] ∧ CB wr e0 [.int .i64 (cn : Int), .int .i64 (sz : Int), .int .i64 (pl : Int), .int .i64 (p : Int)] ∧ Touch (fun _ => False) w wr) (fun i wr => k - (intOf i).toNat)
     case atStart => exact ⟨0, Nat.zero_le _, rfl, HNP, hRf, hC, hB, ht⟩
     case round =>
      clear hRf hC hB ht b0 b2 b3 HNP q1 hsz
      obtain ⟨m, hm, rfl, HM, hRf, hC, hB, ht⟩ := hrel
      by_cases hmk : m < k
      ·have hm' : m < l.length := by have := HNN.out; omega
       go_wp2
       go_loopw [18] (fun i wr => ∃ j : Nat, j ≤ m ∧ i = .int .i64 (j : Int) ∧ Hid (∀ i' (hi : i' < m), i' < j → clashB (l[i']'(Nat.lt_trans hi hm')).name l[m].name = false) ∧ Refs wr a g (l.map rawE) ∧ CB wr w.heap.size [.int .i64 qe, .int .i64 qn, .int .i64 qb] ∧ CB wr e0 [.int .i64 (cn : Int), .int .i64 (sz : Int), .int .i64 (pl : Int), .int .i64 (p : Int)] ∧ Touch (fun _ => False) w wr) (fun i wr => m - (intOf i).toNat)
       case atStart => exact ⟨0, Nat.zero_le _, rfl, by intro i' h h'; omega, hRf, hC, hB, ht⟩
       case round =>
        clear hRf hC hB ht
        obtain ⟨j, hj, rfl, HJ, hRf, hC, hB, ht⟩ := hrel
        by_cases hjm : j < m
        ·obtain rfl := hRf.ptr (by rw [List.length_map]; omega)
         have hRa := hRf.at_ (by rw [List.length_map]; omega)
         have ccl := hRa.cells j (by rw [List.length_map]; omega)
         have dcl := hRa.cells m (by rw [List.length_map]; omega)
         rw [List.getElem_map] at ccl dcl
         have c0 : wr.cell? ⟨g, j * 13, none⟩ = some (.string l[j].name) := ccl 0 (by omega)
         have c1 : wr.cell? ⟨g, j * 13 + 1, none⟩ = some (.int .i64 (l[j].method : Int)) := ccl 1 (by omega)
         have c2 : wr.cell? ⟨g, j * 13 + 2, none⟩ = some (.int .i64 (l[j].sum : Int)) := ccl 2 (by omega)
         have c3 : wr.cell? ⟨g, j * 13 + 3, none⟩ = some (.int .i64 (l[j].packed : Int)) := ccl 3 (by omega)
         have c4 : wr.cell? ⟨g, j * 13 + 4, none⟩ = some (.int .i64 (l[j].size : Int)) := ccl 4 (by omega)
         have c5 : wr.cell? ⟨g, j * 13 + 5, none⟩ = some (.int .i64 0) := ccl 5 (by omega)
         have c6 : wr.cell? ⟨g, j * 13 + 6, none⟩ = some (.int .i64 (l[j].flags : Int)) := ccl 6 (by omega)
         have c7 : wr.cell? ⟨g, j * 13 + 7, none⟩ = some (.int .i64 (l[j].ahead : Int)) := ccl 7 (by omega)
         have c8 : wr.cell? ⟨g, j * 13 + 8, none⟩ = some (.int .i64 ((fourOf l[j]).1 : Int)) := ccl 8 (by omega)
         have c9 : wr.cell? ⟨g, j * 13 + 9, none⟩ = some (.int .i64 ((fourOf l[j]).2.1 : Int)) := ccl 9 (by omega)
         have c10 : wr.cell? ⟨g, j * 13 + 10, none⟩ = some (.int .i64 ((fourOf l[j]).2.2 : Int)) := ccl 10 (by omega)
         have c11 : wr.cell? ⟨g, j * 13 + 11, none⟩ = some (.int .i64 0) := ccl 11 (by omega)
         have c12 : wr.cell? ⟨g, j * 13 + 12, none⟩ = some (.int .i64 0) := ccl 12 (by omega)
         have d0 : wr.cell? ⟨g, m * 13, none⟩ = some (.string l[m].name) := dcl 0 (by omega)
         have d1 : wr.cell? ⟨g, m * 13 + 1, none⟩ = some (.int .i64 (l[m].method : Int)) := dcl 1 (by omega)
         have d2 : wr.cell? ⟨g, m * 13 + 2, none⟩ = some (.int .i64 (l[m].sum : Int)) := dcl 2 (by omega)
         have d3 : wr.cell? ⟨g, m * 13 + 3, none⟩ = some (.int .i64 (l[m].packed : Int)) := dcl 3 (by omega)
         have d4 : wr.cell? ⟨g, m * 13 + 4, none⟩ = some (.int .i64 (l[m].size : Int)) := dcl 4 (by omega)
         have d5 : wr.cell? ⟨g, m * 13 + 5, none⟩ = some (.int .i64 0) := dcl 5 (by omega)
         have d6 : wr.cell? ⟨g, m * 13 + 6, none⟩ = some (.int .i64 (l[m].flags : Int)) := dcl 6 (by omega)
         have d7 : wr.cell? ⟨g, m * 13 + 7, none⟩ = some (.int .i64 (l[m].ahead : Int)) := dcl 7 (by omega)
         have d8 : wr.cell? ⟨g, m * 13 + 8, none⟩ = some (.int .i64 ((fourOf l[m]).1 : Int)) := dcl 8 (by omega)
         have d9 : wr.cell? ⟨g, m * 13 + 9, none⟩ = some (.int .i64 ((fourOf l[m]).2.1 : Int)) := dcl 9 (by omega)
         have d10 : wr.cell? ⟨g, m * 13 + 10, none⟩ = some (.int .i64 ((fourOf l[m]).2.2 : Int)) := dcl 10 (by omega)
         have d11 : wr.cell? ⟨g, m * 13 + 11, none⟩ = some (.int .i64 0) := dcl 11 (by omega)
         have d12 : wr.cell? ⟨g, m * 13 + 12, none⟩ = some (.int .i64 0) := dcl 12 (by omega)
         have o1 := HALL.out l[j] (List.getElem_mem _)
         have o2 := HALL.out l[m] (List.getElem_mem _)
         have p1 := name_pos _ (faultOf_name _ o1.2.1)
         have p2 := name_pos _ (faultOf_name _ o2.2.1)
         have p3 := (nameOk_size _ (faultOf_name _ o1.2.1)).1
         have p4 := (nameOk_size _ (faultOf_name _ o2.2.1)).1
         have HT8 : Hid (clashB l[j].name l[m].name = true → anyPair (fun a b => clashB a.name b.name) l = true) := fun h => anyPair_true j m (by omega) hm' hjm h
         have HST : Hid (clashB l[j].name l[m].name = false → ∀ i' (hi : i' < m), i' < j + 1 → clashB (l[i']'(Nat.lt_trans hi hm')).name l[m].name = false) := fun h i' hi h' => by
          by_cases e : i' = j
          ·subst e; exact h
          ·exact HJ.out i' hi (by omega)
         clear ccl dcl o1 o2 hRa HJ
         have KEEP : Hid (∀ W, Touch (fun _ => False) wr W → Refs W (some ⟨g, 0, none⟩) g (l.map rawE) ∧ CB W w.heap.size [.int .i64 qe, .int .i64 qn, .int .i64 qb] ∧ CB W e0 [.int .i64 (cn : Int), .int .i64 (sz : Int), .int .i64 (pl : Int), .int .i64 (p : Int)] ∧ Touch (fun _ => False) w W) := fun W T => ⟨hRf.keep T (fun e => e), hC.keep T (fun e => e), hB.keep T (fun e => e), ht.trans T⟩
         have HCL : Hid (∀ W, Calls Tryz.prog 93 #[.agg #[.string l[j].name, .int .i64 (l[j].method : Int), .int .i64 (l[j].sum : Int), .int .i64 (l[j].packed : Int), .int .i64 (l[j].size : Int), .int .i64 0, .int .i64 (l[j].flags : Int), .int .i64 (l[j].ahead : Int), .int .i64 ((fourOf l[j]).1 : Int), .int .i64 ((fourOf l[j]).2.1 : Int), .int .i64 ((fourOf l[j]).2.2 : Int), .int .i64 0, .int .i64 0], .agg #[.string l[m].name, .int .i64 (l[m].method : Int), .int .i64 (l[m].sum : Int), .int .i64 (l[m].packed : Int), .int .i64 (l[m].size : Int), .int .i64 0, .int .i64 (l[m].flags : Int), .int .i64 (l[m].ahead : Int), .int .i64 ((fourOf l[m]).1 : Int), .int .i64 ((fourOf l[m]).2.1 : Int), .int .i64 ((fourOf l[m]).2.2 : Int), .int .i64 0, .int .i64 0]] W fun e w' => e = .returned (.bool (clashB l[j].name l[m].name)) ∧ Touch (fun _ => False) W w') := fun W => rclash_c W _ _ p1 p2 (by omega) (by omega) _ _ _ _ _ _ _ _ _ _ _ _ _ _ _ _ _ _ _ _ _ _ _ _
         clear p1 p2 p3 p4 hRf hC hB ht
         revert c0 c1 c2 c3 c4 c5 c6 c7 c8 c9 c10 c11 c12 d0 d1 d2 d3 d4 d5 d6 d7 d8 d9 d10 d11 d12 HT8 HST HCL
         generalize l[j] = x
         generalize l[m] = y
         obtain ⟨xf1, hx1⟩ : ∃ f, f = (fourOf x).1 := ⟨_, rfl⟩
         obtain ⟨xf2, hx2⟩ : ∃ f, f = (fourOf x).2.1 := ⟨_, rfl⟩
         obtain ⟨xf3, hx3⟩ : ∃ f, f = (fourOf x).2.2 := ⟨_, rfl⟩
         obtain ⟨yf1, hy1⟩ : ∃ f, f = (fourOf y).1 := ⟨_, rfl⟩
         obtain ⟨yf2, hy2⟩ : ∃ f, f = (fourOf y).2.1 := ⟨_, rfl⟩
         obtain ⟨yf3, hy3⟩ : ∃ f, f = (fourOf y).2.2 := ⟨_, rfl⟩
         rw [← hx1, ← hx2, ← hx3, ← hy1, ← hy2, ← hy3]
         clear hx1 hx2 hx3 hy1 hy2 hy3
         generalize clashB x.name y.name = cb
         intro c0 c1 c2 c3 c4 c5 c6 c7 c8 c9 c10 c11 c12 d0 d1 d2 d3 d4 d5 d6 d7 d8 d9 d10 d11 d12 HT8 HST HCL
         have i1 : (j : Int) < (k : Int) := by omega
         have i2 : (m : Int) < (k : Int) := by omega
         go_wp2
         go_region_held3 (fun X => X.cell? ⟨g, j * 13, none⟩ = some (.string x.name) ∧ X.cell? ⟨g, j * 13 + 1, none⟩ = some (.int .i64 (x.method : Int)) ∧ X.cell? ⟨g, j * 13 + 2, none⟩ = some (.int .i64 (x.sum : Int)) ∧ X.cell? ⟨g, j * 13 + 3, none⟩ = some (.int .i64 (x.packed : Int)) ∧ X.cell? ⟨g, j * 13 + 4, none⟩ = some (.int .i64 (x.size : Int)) ∧ X.cell? ⟨g, j * 13 + 5, none⟩ = some (.int .i64 0) ∧ X.cell? ⟨g, j * 13 + 6, none⟩ = some (.int .i64 (x.flags : Int)) ∧ X.cell? ⟨g, j * 13 + 7, none⟩ = some (.int .i64 (x.ahead : Int)) ∧ X.cell? ⟨g, j * 13 + 8, none⟩ = some (.int .i64 (xf1 : Int)) ∧ X.cell? ⟨g, j * 13 + 9, none⟩ = some (.int .i64 (xf2 : Int)) ∧ X.cell? ⟨g, j * 13 + 10, none⟩ = some (.int .i64 (xf3 : Int)) ∧ X.cell? ⟨g, j * 13 + 11, none⟩ = some (.int .i64 0) ∧ X.cell? ⟨g, j * 13 + 12, none⟩ = some (.int .i64 0) ∧ X.cell? ⟨g, m * 13, none⟩ = some (.string y.name) ∧ X.cell? ⟨g, m * 13 + 1, none⟩ = some (.int .i64 (y.method : Int)) ∧ X.cell? ⟨g, m * 13 + 2, none⟩ = some (.int .i64 (y.sum : Int)) ∧ X.cell? ⟨g, m * 13 + 3, none⟩ = some (.int .i64 (y.packed : Int)) ∧ X.cell? ⟨g, m * 13 + 4, none⟩ = some (.int .i64 (y.size : Int)) ∧ X.cell? ⟨g, m * 13 + 5, none⟩ = some (.int .i64 0) ∧ X.cell? ⟨g, m * 13 + 6, none⟩ = some (.int .i64 (y.flags : Int)) ∧ X.cell? ⟨g, m * 13 + 7, none⟩ = some (.int .i64 (y.ahead : Int)) ∧ X.cell? ⟨g, m * 13 + 8, none⟩ = some (.int .i64 (yf1 : Int)) ∧ X.cell? ⟨g, m * 13 + 9, none⟩ = some (.int .i64 (yf2 : Int)) ∧ X.cell? ⟨g, m * 13 + 10, none⟩ = some (.int .i64 (yf3 : Int)) ∧ X.cell? ⟨g, m * 13 + 11, none⟩ = some (.int .i64 0) ∧ X.cell? ⟨g, m * 13 + 12, none⟩ = some (.int .i64 0)) (first | exact ⟨c0, c1, c2, c3, c4, c5, c6, c7, c8, c9, c10, c11, c12, d0, d1, d2, d3, d4, d5, d6, d7, d8, d9, d10, d11, d12⟩ | exact ⟨t3.at c0 (fun e => e), t3.at c1 (fun e => e), t3.at c2 (fun e => e), t3.at c3 (fun e => e), t3.at c4 (fun e => e), t3.at c5 (fun e => e), t3.at c6 (fun e => e), t3.at c7 (fun e => e), t3.at c8 (fun e => e), t3.at c9 (fun e => e), t3.at c10 (fun e => e), t3.at c11 (fun e => e), t3.at c12 (fun e => e), t3.at d0 (fun e => e), t3.at d1 (fun e => e), t3.at d2 (fun e => e), t3.at d3 (fun e => e), t3.at d4 (fun e => e), t3.at d5 (fun e => e), t3.at d6 (fun e => e), t3.at d7 (fun e => e), t3.at d8 (fun e => e), t3.at d9 (fun e => e), t3.at d10 (fun e => e), t3.at d11 (fun e => e), t3.at d12 (fun e => e)⟩ | assumption | go_keep) (first | (go_at_call 93; refine (HCL.out _).mono ?_; rintro e w3 ⟨rfl, t3⟩))
         all_goals
          obtain ⟨hRf, hC, hB, T3⟩ := KEEP.out w3 (((Touch.refl (fun _ => False) wr).drew).trans t3)
          clear c0 c1 c2 c3 c4 c5 c6 c7 c8 c9 c10 c11 c12 d0 d1 d2 d3 d4 d5 d6 d7 d8 d9 d10 d11 d12 HCL KEEP
          cases hc : cb with
          | true =>
           have FIN : Hid (∀ w', rlistPost w.heap.size R (.returned (.tuple #[.slice none 0 0, .int .i64 8])) w') := rlist_err _ _ 8 (by rw [HRR.out]; unfold listRest; rw [if_neg (Int.not_lt.2 HNQ.out), if_pos (HT8.out hc)])
           clear HT8 HST
           go_wp2
           go_ret2
           exact ⟨T3, FIN.out _⟩
          | false =>
           have HSS := HST.out hc
           have HS5 : Hid _ := HSS
           clear HSS HST HT8
           go_wp2
           exact ⟨⟨j + 1, by omega, by go_num, HS5, hRf, hC, hB, T3⟩, by simp [intOf]; omega⟩
        ·obtain rfl : j = m := by omega
         have HM2 : Hid (NoPair (fun a b => clashB a.name b.name) l (j + 1)) := HM.out.step hm' (fun i' hi => HJ.out i' hi hi)
         clear HJ HM
         go_wp2
         exact ⟨⟨j + 1, by omega, by go_num, HM2, hRf, hC, hB, ht⟩, by simp [intOf]; omega⟩
      ·obtain rfl : k = m := by omega
       exfalso
       have hcl := NoPair.all (show NoPair (fun a b => clashB a.name b.name) l l.length by rw [← HNN.out]; exact HM.out)
       rcases hbad with h | h
       ·exact absurd h (Int.not_lt.2 HNQ.out)
       ·rw [hcl] at h; cases h
end Go.Proofs.YtpckiobjpikmlaaGreatDoor
