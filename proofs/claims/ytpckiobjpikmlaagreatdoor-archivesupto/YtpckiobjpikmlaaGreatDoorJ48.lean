/- Texts of this seat, joined. -/
import Derived.Test.YtpckiobjpikmlaaGreatDoorJ31
import Derived.Test.YtpckiobjpikmlaaGreatDoorJ34
import Derived.Test.YtpckiobjpikmlaaGreatDoorJ46
import Derived.Test.YtpckiobjpikmlaaGreatDoorJ47
import Derived.Deep.RegionHeld3
set_option linter.unusedSimpArgs false
set_option linter.unusedVariables false
set_option maxRecDepth 100000
set_option maxHeartbeats 20000000
namespace Go.Proofs.YtpckiobjpikmlaaGreatDoor
open Go.RowKit Go.Shelf Go.Lib
theorem quota_c (w : World) (qe qn qb : Int) :
  Calls Tryz.prog 46 #[.agg #[.int .i64 qe, .int .i64 qn, .int .i64 qb]] w fun r w' => r = .returned (.agg #[.int .i64 qe, .int .i64 qn, .int .i64 qb]) ∧ Touch (fun _ => False) w w' := by
 have T0 := ((Touch.refl (fun _ => False) w).alloc (Obj.cells #[.int .i64 qe, .int .i64 qn, .int .i64 qb] 44)).alloc (Obj.cells #[.int .i64 qe, .int .i64 qn, .int .i64 qb] 41)
 go_enter Tryz.func46, Tryz.ntmps46
 go_wp2
 refine bodyPost_ret (v := .agg #[.int .i64 qe, .int .i64 qn, .int .i64 qb]) (by simp [results, Tryz.results46, go_sem]) rfl ⟨rfl, T0⟩
theorem num_any (w : World) (k : Int) : Calls Tryz.prog 45 #[.int .i64 k] w fun e w' => e = .returned (.int .i64 k) ∧ w' = w := by
 go_enter Tryz.func45, Tryz.ntmps45
 go_wp2
 go_ret
 exact ⟨rfl, rfl⟩
theorem KeptAll.same {w w' : World} {wb base m : Nat} {FL EL : List (Value × Nat)} (h : KeptAll w wb base m FL EL) (t : Touch (fun _ => False) w w') : KeptAll w' wb base m FL EL := by
 obtain ⟨⟨vF, vM, vE, vN, hB⟩, hF, hE⟩ := h
 exact ⟨⟨vF, vM, vE, vN, hB.same t⟩, fun x hx => (hF x hx).same t, fun x hx => (hE x hx).same t⟩
theorem KeptAll.wb_lt {w : World} {wb base m : Nat} {FL EL : List (Value × Nat)} (h : KeptAll w wb base m FL EL) : wb < w.heap.size := by
 obtain ⟨⟨vF, vM, vE, vN, hB⟩, hF, hE⟩ := h
 exact hB.ty.lt
theorem archL_core (w : World) (wb base m : Nat) (FL EL : List (Value × Nat)) (N : Int) (S : ByteArray) (v1 v4 v8 : Value) (qe qn qb : Int) (kk n : Nat) (P Q : Value → World → Prop)
  (hord : Ord w) (h0 : 0 < w.heap.size)
  (HL : Hid (∀ W, Ord W → 0 < W.heap.size → Calls Tryz.prog 6 #[.string S, .agg #[.int .i64 qe, .int .i64 qn, .int .i64 qb]] W fun r w' => Touch (fun _ => False) W w' ∧ ∃ va xs, r = .returned (.tuple #[va, .int .i64 (kk : Int)]) ∧ P va w' ∧ w'.ownsRow W.heap.size 86 6 va n xs))
  (HR : Hid (∀ W, Calls Tryz.prog 47 #[.string S, .agg #[.int .i64 qe, .int .i64 qn, .int .i64 qb]] W fun r w' => Touch (fun _ => False) W w' ∧ ∃ vb, r = .returned (.tuple #[vb, .int .i64 (kk : Int)]) ∧ Q vb w'))
  (HS : Hid (∀ W1 W va vb, P va W1 → Touch (fun _ => False) W1 W → Q vb W → Calls Tryz.prog 48 #[va, vb] W fun r w' => r = .returned (.bool true) ∧ Touch (fun _ => False) W w'))
  (hK : KeptAll w wb base m FL EL) (hwb : wb < base) (hbase : base ≤ w.heap.size) (hn : n ≤ 1000000) (hm : m ≤ 1073741823) (hfl : EL.length ≤ 100000000) :
  Calls Tryz.prog 24 #[.pointer (some ⟨wb, 0, none⟩), .agg #[.int .i64 3, v1, .int .i64 N, .string S, v4, .int .i64 qe, .int .i64 qn, .int .i64 qb, v8]] w fun r w' => r = .returned (.bool true) ∧ (∃ EL', EL'.length = EL.length + 9 ∧ KeptAll w' wb base (m + 1) FL EL') ∧ Touch (fun q => wb ≤ q) w w' := by
 have B0 := CB.new w [.int .i64 3, v1, .int .i64 N, .string S, v4, .int .i64 qe, .int .i64 qn, .int .i64 qb, v8] 46
 have T0 := (Touch.refl (fun _ => False) w).alloc (Obj.cells #[.int .i64 3, v1, .int .i64 N, .string S, v4, .int .i64 qe, .int .i64 qn, .int .i64 qb, v8] 46)
 have b3 : (w.alloc (Obj.cells #[.int .i64 3, v1, .int .i64 N, .string S, v4, .int .i64 qe, .int .i64 qn, .int .i64 qb, v8] 46)).cell? ⟨w.heap.size, 3, none⟩ = some (.string S) := B0.cells 3 (by simp)
 have b5 : (w.alloc (Obj.cells #[.int .i64 3, v1, .int .i64 N, .string S, v4, .int .i64 qe, .int .i64 qn, .int .i64 qb, v8] 46)).cell? ⟨w.heap.size, 5, none⟩ = some (.int .i64 qe) := B0.cells 5 (by simp)
 have b6 : (w.alloc (Obj.cells #[.int .i64 3, v1, .int .i64 N, .string S, v4, .int .i64 qe, .int .i64 qn, .int .i64 qb, v8] 46)).cell? ⟨w.heap.size, 6, none⟩ = some (.int .i64 qn) := B0.cells 6 (by simp)
 have b7 : (w.alloc (Obj.cells #[.int .i64 3, v1, .int .i64 N, .string S, v4, .int .i64 qe, .int .i64 qn, .int .i64 qb, v8] 46)).cell? ⟨w.heap.size, 7, none⟩ = some (.int .i64 qb) := B0.cells 7 (by simp)
 have HKP : Hid (∀ W base' va xs, Touch (fun _ => False) w W → w.heap.size ≤ base' → base' ≤ W.heap.size → W.ownsRow base' 86 6 va n xs → Calls Tryz.prog 49 #[.pointer (some ⟨wb, 0, none⟩), va] W fun r w' => r = .returned (.tuple #[]) ∧ (∃ EL', EL'.length = EL.length + 9 ∧ KeptAll w' wb base (m + 1) FL EL') ∧ Touch (fun q => wb ≤ q) W w') := fun W base' va xs t hb1 hb2 ho => by
  have hK' := hK.same t
  refine (keepE_c W wb base m base' n FL EL va xs hK' (Nat.le_trans hbase t.size) ho (by omega) hb2 (fun x hx q h1 h2 => ?_) hn hm hfl).mono ?_
  ·have h3 := ((hK.ents x hx).block h1).lt
   have h4 := (ho.lt q h2).1
   omega
  ·rintro r w' ⟨e, l', h1, h2, h3⟩
   exact ⟨e, ⟨l', h1, h2⟩, h3⟩
 have HOD : Hid (∀ W, Touch (fun _ => False) w W → Ord W ∧ 0 < W.heap.size) := fun W t => ⟨hord.keep t (fun e => e), Nat.lt_of_lt_of_le h0 t.size⟩
 have HTW : Hid (∀ (W W' : World), Touch (fun _ => False) w W → Touch (fun q => wb ≤ q) W W' → Touch (fun q => wb ≤ q) w W') := fun W W' t1 t2 => (t1.mono (fun _ _ h => h.elim)).trans t2
 clear B0 hK hord h0
 obtain ⟨W0, hW0⟩ : ∃ W, W = w.alloc (Obj.cells #[.int .i64 3, v1, .int .i64 N, .string S, v4, .int .i64 qe, .int .i64 qn, .int .i64 qb, v8] 46) := ⟨_, rfl⟩
 go_enter Tryz.func24, Tryz.ntmps24
 go_wp2
 rw [← hW0] at b3 b5 b6 b7 T0 ⊢
 clear hW0
 go_region_held3 (fun X => X.cell? ⟨w.heap.size, 3, none⟩ = some (.string S) ∧ X.cell? ⟨w.heap.size, 5, none⟩ = some (.int .i64 qe) ∧ X.cell? ⟨w.heap.size, 6, none⟩ = some (.int .i64 qn) ∧ X.cell? ⟨w.heap.size, 7, none⟩ = some (.int .i64 qb)) (first | exact ⟨b3, b5, b6, b7⟩ | exact ⟨t1.at b3 (fun e => e), t1.at b5 (fun e => e), t1.at b6 (fun e => e), t1.at b7 (fun e => e)⟩ | exact ⟨t2.at (t1.at b3 (fun e => e)) (fun e => e), t2.at (t1.at b5 (fun e => e)) (fun e => e), t2.at (t1.at b6 (fun e => e)) (fun e => e), t2.at (t1.at b7 (fun e => e)) (fun e => e)⟩ | assumption | go_keep) (first | (go_at_call 46; refine (quota_c _ qe qn qb).mono ?_; rintro e w1 ⟨rfl, t1⟩) | (go_at_call 6; refine (HL.out _ (HOD.out _ (T0.drew.trans t1)).1 (HOD.out _ (T0.drew.trans t1)).2).mono ?_; rintro e w2 ⟨t2, va, xs, rfl, hP, hown⟩))
 all_goals
  have d3 := t2.at (t1.at b3 (fun e => e)) (fun e => e)
  have d5 := t2.at (t1.at b5 (fun e => e)) (fun e => e)
  have d6 := t2.at (t1.at b6 (fun e => e)) (fun e => e)
  have d7 := t2.at (t1.at b7 (fun e => e)) (fun e => e)
  have T1 : Touch (fun _ => False) w w1 := T0.drew.trans t1
  have T2 := T1.trans t2
  have s1 := T1.size
  have s2 := t2.size
  clear b3 b5 b6 b7 T0 t1 HL HOD
  go_wp2_with fail
  refine (HR.out _).mono ?_
  rintro e w3 ⟨t3, vb, rfl, hQ⟩
  have T3 := T2.trans t3
  have ow3 := t3.owns hown (fun _ _ h => h)
  have HS3 : Hid (Calls Tryz.prog 48 #[va, vb] w3 fun r w' => r = .returned (.bool true) ∧ Touch (fun _ => False) w3 w') := HS.out w2 w3 va vb hP t3 hQ
  have s3 := t3.size
  clear d3 d5 d6 d7 HR HS hown hP hQ t2
  go_wp2_with fail
  refine HS3.out.mono ?_
  rintro e w4 ⟨rfl, t4⟩
  have T4 := T3.trans t4
  have ow4 := t4.owns ow3 (fun _ _ h => h)
  have s4 := t4.size
  have HK4 : Hid (Calls Tryz.prog 49 #[.pointer (some ⟨wb, 0, none⟩), va] w4 fun r w' => r = .returned (.tuple #[]) ∧ (∃ EL', EL'.length = EL.length + 9 ∧ KeptAll w' wb base (m + 1) FL EL') ∧ Touch (fun q => wb ≤ q) w4 w') := HKP.out w4 w1.heap.size va xs T4 s1 (by omega) ow4
  clear HS3 HKP ow3 ow4 t3 t4
  go_wp2_with fail
  refine HK4.out.mono ?_
  rintro e w5 ⟨rfl, hk5, t5⟩
  have HF5 : Hid (∀ w6, w6 = w5 → (∃ EL', EL'.length = EL.length + 9 ∧ KeptAll w6 wb base (m + 1) FL EL') ∧ Touch (fun q => wb ≤ q) w w6) := fun w6 e => by subst e; exact ⟨hk5, HTW.out _ _ T4 t5⟩
  clear HK4 hk5 t5 T4 T3 T2 T1 HTW
  go_wp2_with (go_at_call 45; refine (num_any _ (kk : Int)).mono ?_; rintro e w6 ⟨rfl, h6⟩)
  go_ret
  exact ⟨by simp, HF5.out _ (by first | rfl | exact h6)⟩
theorem archU_core (w : World) (wb base m : Nat) (FL EL : List (Value × Nat)) (N : Int) (S : ByteArray) (v1 v4 v8 : Value) (qe qn qb : Int) (kk n : Nat) (P Q : Value → World → Prop)
  (hord : Ord w) (h0 : 0 < w.heap.size)
  (HL : Hid (∀ W, Ord W → 0 < W.heap.size → Calls Tryz.prog 50 #[.string S, .agg #[.int .i64 qe, .int .i64 qn, .int .i64 qb]] W fun r w' => Touch (fun _ => False) W w' ∧ ∃ va xs, r = .returned (.tuple #[va, .int .i64 (kk : Int)]) ∧ P va w' ∧ w'.ownsRow W.heap.size 83 2 va n xs))
  (HR : Hid (∀ W, Calls Tryz.prog 51 #[.string S, .agg #[.int .i64 qe, .int .i64 qn, .int .i64 qb]] W fun r w' => Touch (fun _ => False) W w' ∧ ∃ vb, r = .returned (.tuple #[vb, .int .i64 (kk : Int)]) ∧ Q vb w'))
  (HS : Hid (∀ W1 W va vb, P va W1 → Touch (fun _ => False) W1 W → Q vb W → Calls Tryz.prog 52 #[va, vb] W fun r w' => r = .returned (.bool true) ∧ Touch (fun _ => False) W w'))
  (hK : KeptAll w wb base m FL EL) (hwb : wb < base) (hbase : base ≤ w.heap.size) (hn : n ≤ 10000000) (hm : m ≤ 1073741823) (hfl : FL.length ≤ 100000000) :
  Calls Tryz.prog 24 #[.pointer (some ⟨wb, 0, none⟩), .agg #[.int .i64 4, v1, .int .i64 N, .string S, v4, .int .i64 qe, .int .i64 qn, .int .i64 qb, v8]] w fun r w' => r = .returned (.bool true) ∧ (∃ FL', FL'.length = FL.length + 9 ∧ KeptAll w' wb base (m + 1) FL' EL) ∧ Touch (fun q => wb ≤ q) w w' := by
 have B0 := CB.new w [.int .i64 4, v1, .int .i64 N, .string S, v4, .int .i64 qe, .int .i64 qn, .int .i64 qb, v8] 46
 have T0 := (Touch.refl (fun _ => False) w).alloc (Obj.cells #[.int .i64 4, v1, .int .i64 N, .string S, v4, .int .i64 qe, .int .i64 qn, .int .i64 qb, v8] 46)
 have b3 : (w.alloc (Obj.cells #[.int .i64 4, v1, .int .i64 N, .string S, v4, .int .i64 qe, .int .i64 qn, .int .i64 qb, v8] 46)).cell? ⟨w.heap.size, 3, none⟩ = some (.string S) := B0.cells 3 (by simp)
 have b5 : (w.alloc (Obj.cells #[.int .i64 4, v1, .int .i64 N, .string S, v4, .int .i64 qe, .int .i64 qn, .int .i64 qb, v8] 46)).cell? ⟨w.heap.size, 5, none⟩ = some (.int .i64 qe) := B0.cells 5 (by simp)
 have b6 : (w.alloc (Obj.cells #[.int .i64 4, v1, .int .i64 N, .string S, v4, .int .i64 qe, .int .i64 qn, .int .i64 qb, v8] 46)).cell? ⟨w.heap.size, 6, none⟩ = some (.int .i64 qn) := B0.cells 6 (by simp)
 have b7 : (w.alloc (Obj.cells #[.int .i64 4, v1, .int .i64 N, .string S, v4, .int .i64 qe, .int .i64 qn, .int .i64 qb, v8] 46)).cell? ⟨w.heap.size, 7, none⟩ = some (.int .i64 qb) := B0.cells 7 (by simp)
 have HKP : Hid (∀ W base' va xs, Touch (fun _ => False) w W → w.heap.size ≤ base' → base' ≤ W.heap.size → W.ownsRow base' 83 2 va n xs → Calls Tryz.prog 53 #[.pointer (some ⟨wb, 0, none⟩), va] W fun r w' => r = .returned (.tuple #[]) ∧ (∃ FL', FL'.length = FL.length + 9 ∧ KeptAll w' wb base (m + 1) FL' EL) ∧ Touch (fun q => wb ≤ q) W w') := fun W base' va xs t hb1 hb2 ho => by
  have hK' := hK.same t
  refine (keepF_c W wb base m base' n FL EL va xs hK' (Nat.le_trans hbase t.size) ho (by omega) hb2 (fun x hx q h1 h2 => ?_) hn hm hfl).mono ?_
  ·have h3 := ((hK.files x hx).block h1).lt
   have h4 := (ho.lt q h2).1
   omega
  ·rintro r w' ⟨e, l', h1, h2, h3⟩
   exact ⟨e, ⟨l', h1, h2⟩, h3⟩
 have HOD : Hid (∀ W, Touch (fun _ => False) w W → Ord W ∧ 0 < W.heap.size) := fun W t => ⟨hord.keep t (fun e => e), Nat.lt_of_lt_of_le h0 t.size⟩
 have HTW : Hid (∀ (W W' : World), Touch (fun _ => False) w W → Touch (fun q => wb ≤ q) W W' → Touch (fun q => wb ≤ q) w W') := fun W W' t1 t2 => (t1.mono (fun _ _ h => h.elim)).trans t2
 clear B0 hK hord h0
 obtain ⟨W0, hW0⟩ : ∃ W, W = w.alloc (Obj.cells #[.int .i64 4, v1, .int .i64 N, .string S, v4, .int .i64 qe, .int .i64 qn, .int .i64 qb, v8] 46) := ⟨_, rfl⟩
 go_enter Tryz.func24, Tryz.ntmps24
 go_wp2
 rw [← hW0] at b3 b5 b6 b7 T0 ⊢
 clear hW0
 go_region_held3 (fun X => X.cell? ⟨w.heap.size, 3, none⟩ = some (.string S) ∧ X.cell? ⟨w.heap.size, 5, none⟩ = some (.int .i64 qe) ∧ X.cell? ⟨w.heap.size, 6, none⟩ = some (.int .i64 qn) ∧ X.cell? ⟨w.heap.size, 7, none⟩ = some (.int .i64 qb)) (first | exact ⟨b3, b5, b6, b7⟩ | exact ⟨t1.at b3 (fun e => e), t1.at b5 (fun e => e), t1.at b6 (fun e => e), t1.at b7 (fun e => e)⟩ | exact ⟨t2.at (t1.at b3 (fun e => e)) (fun e => e), t2.at (t1.at b5 (fun e => e)) (fun e => e), t2.at (t1.at b6 (fun e => e)) (fun e => e), t2.at (t1.at b7 (fun e => e)) (fun e => e)⟩ | assumption | go_keep) (first | (go_at_call 46; refine (quota_c _ qe qn qb).mono ?_; rintro e w1 ⟨rfl, t1⟩) | (go_at_call 50; refine (HL.out _ (HOD.out _ (T0.drew.trans t1)).1 (HOD.out _ (T0.drew.trans t1)).2).mono ?_; rintro e w2 ⟨t2, va, xs, rfl, hP, hown⟩))
 all_goals
  have d3 := t2.at (t1.at b3 (fun e => e)) (fun e => e)
  have d5 := t2.at (t1.at b5 (fun e => e)) (fun e => e)
  have d6 := t2.at (t1.at b6 (fun e => e)) (fun e => e)
  have d7 := t2.at (t1.at b7 (fun e => e)) (fun e => e)
  have T1 : Touch (fun _ => False) w w1 := T0.drew.trans t1
  have T2 := T1.trans t2
  have s1 := T1.size
  have s2 := t2.size
  clear b3 b5 b6 b7 T0 t1 HL HOD
  go_wp2_with fail
  refine (HR.out _).mono ?_
  rintro e w3 ⟨t3, vb, rfl, hQ⟩
  have T3 := T2.trans t3
  have ow3 := t3.owns hown (fun _ _ h => h)
  have HS3 : Hid (Calls Tryz.prog 52 #[va, vb] w3 fun r w' => r = .returned (.bool true) ∧ Touch (fun _ => False) w3 w') := HS.out w2 w3 va vb hP t3 hQ
  have s3 := t3.size
  clear d3 d5 d6 d7 HR HS hown hP hQ t2
  go_wp2_with fail
  refine HS3.out.mono ?_
  rintro e w4 ⟨rfl, t4⟩
  have T4 := T3.trans t4
  have ow4 := t4.owns ow3 (fun _ _ h => h)
  have s4 := t4.size
  have HK4 : Hid (Calls Tryz.prog 53 #[.pointer (some ⟨wb, 0, none⟩), va] w4 fun r w' => r = .returned (.tuple #[]) ∧ (∃ FL', FL'.length = FL.length + 9 ∧ KeptAll w' wb base (m + 1) FL' EL) ∧ Touch (fun q => wb ≤ q) w4 w') := HKP.out w4 w1.heap.size va xs T4 s1 (by omega) ow4
  clear HS3 HKP ow3 ow4 t3 t4
  go_wp2_with fail
  refine HK4.out.mono ?_
  rintro e w5 ⟨rfl, hk5, t5⟩
  have HF5 : Hid (∀ w6, w6 = w5 → (∃ FL', FL'.length = FL.length + 9 ∧ KeptAll w6 wb base (m + 1) FL' EL) ∧ Touch (fun q => wb ≤ q) w w6) := fun w6 e => by subst e; exact ⟨hk5, HTW.out _ _ T4 t5⟩
  clear HK4 hk5 t5 T4 T3 T2 T1 HTW
  go_wp2_with (go_at_call 45; refine (num_any _ (kk : Int)).mono ?_; rintro e w6 ⟨rfl, h6⟩)
  go_ret
  exact ⟨by simp, HF5.out _ (by first | rfl | exact h6)⟩
end Go.Proofs.YtpckiobjpikmlaaGreatDoor
namespace Go.Proofs.YtpckiobjpikmlaaGreatDoor
open Go.RowKit Go.Shelf Go.Lib
theorem putFolds_len (nm : List UInt8) : ∀ (f i : Nat) (out : List Fil), (putFolds nm f i out).length ≤ out.length + f
 | 0, _, out => by simp [putFolds]
 | f + 1, i, out => by
  have h := putFolds_len nm f (i + 1) (if nm[i]? = some 47 then putF out (folOf (nm.take (i + 1))) else out)
  unfold putFolds
  split at h
  ·rename_i hc
   rw [if_pos hc]
   have := putF_len (folOf (nm.take (i + 1))) out
   omega
  ·rename_i hc
   rw [if_neg hc]; omega
theorem refGo_len (s : ByteArray) : ∀ (L : List Spanned) (out o : List Fil), (∀ x ∈ L, x.ent.name.size ≤ 60) → refGo s L out = .inr o → o.length ≤ out.length + 61 * L.length
 | [], out, o, _, h => by cases h; simp
 | x :: L, out, o, hn, h => by
  have h1 := putFolds_len x.ent.name.data.toList x.ent.name.size 0 out
  have h2 := hn x (List.mem_cons_self ..)
  have hn' : ∀ y ∈ L, y.ent.name.size ≤ 60 := fun y hy => hn y (List.mem_cons_of_mem _ hy)
  unfold refGo at h
  split at h
  ·have := refGo_len s L _ o hn' h
   simp only [List.length_cons]; omega
  ·cases hd : dataOfE s x with
   | inl k => rw [hd] at h; cases h
   | inr d =>
    rw [hd] at h
    have h3 := refGo_len s L _ o hn' h
    have h4 := putF_len (x.ent.name, d) (putFolds x.ent.name.data.toList x.ent.name.size 0 out)
    simp only [List.length_cons]; omega
@[reducible] def In64 (q : Int) : Prop := -9223372036854775808 ≤ q ∧ q ≤ 9223372036854775807
theorem archL_c (w : World) (wb base m : Nat) (FL EL : List (Value × Nat)) (N : Int) (S : ByteArray) (v1 v4 v8 : Value) (qe qn qb : Int) (hqn : In64 qn) (hqb : In64 qb) (hS : S.size ≤ 1048576) (hord : Ord w) (h0 : 0 < w.heap.size) (hK : KeptAll w wb base m FL EL) (hwb : wb < base) (hbase : base ≤ w.heap.size) (hm : m ≤ 1073741823) (hel : EL.length ≤ 100000000) :
  Calls Tryz.prog 24 #[.pointer (some ⟨wb, 0, none⟩), .agg #[.int .i64 3, v1, .int .i64 N, .string S, v4, .int .i64 qe, .int .i64 qn, .int .i64 qb, v8]] w fun r w' => r = .returned (.bool true) ∧ (∃ EL', EL'.length = EL.length + 9 ∧ KeptAll w' wb base (m + 1) FL EL') ∧ Touch (fun q => wb ≤ q) w w' := by
 cases hR : listOf S qe qn qb with
 | error k =>
  refine archL_core w wb base m FL EL N S v1 v4 v8 qe qn qb k 0 (fun v _ => v = .slice none 0 0) (fun v _ => v = .slice none 0 0) hord h0 (fun W _ _ => ?_) (fun W => ?_) (fun W1 W va vb h1 _ h2 => ?_) hK hwb hbase (by omega) hm hel
  ·refine (list_c W S qe qn qb hqn hqb (by omega)).mono ?_
   rintro r w' ⟨t, hp⟩
   rw [hR] at hp
   exact ⟨t, _, [], hp.1, rfl, World.ownsRow_nil _ _ _ _⟩
  ·refine (rlist_c W S qe qn qb hS).mono ?_
   rintro r w' ⟨t, hp⟩
   rw [hR] at hp
   exact ⟨t, _, hp, rfl⟩
  ·subst h1 h2
   exact sameE_c W none 0 0 none 0 0 [] (fun h => by cases h) (fun h => by cases h) ⟨fun h => (by cases h), fun h => (by cases h)⟩ (fun x hx => by cases hx) (by simp)
 | ok L =>
  have hlen := listOf_len S qe qn qb L hR
  have heach := (listOf_each S qe qn qb L hR).1
  refine archL_core w wb base m FL EL N S v1 v4 v8 qe qn qb 0 L.length (fun v w' => ∃ g cap, v = .slice (some ⟨g, 0, none⟩) L.length cap ∧ EntsAt w' g L) (fun v w' => ∃ a cap g, v = .slice a L.length cap ∧ Refs w' a g (L.map spnE)) hord h0 (fun W _ _ => ?_) (fun W => ?_) (fun W1 W va vb h1 t h2 => ?_) hK hwb hbase (by omega) hm hel
  ·refine (list_c W S qe qn qb hqn hqb (by omega)).mono ?_
   rintro r w' ⟨t, hp⟩
   rw [hR] at hp
   obtain ⟨g, cap, e, ho⟩ := hp
   exact ⟨t, _, _, e, ⟨g, cap, rfl, EntsAt.owned ho⟩, ho⟩
  ·refine (rlist_c W S qe qn qb hS).mono ?_
   rintro r w' ⟨t, hp⟩
   rw [hR] at hp
   obtain ⟨a, cap, g, e, _, hr⟩ := hp
   rw [List.length_map] at e
   exact ⟨t, _, e, ⟨a, cap, g, rfl, hr⟩⟩
  ·obtain ⟨g, cap, rfl, he⟩ := h1
   obtain ⟨a, cap', g', rfl, hr⟩ := h2
   exact sameE_c W _ g cap a g' cap' L (fun _ => rfl) (fun _ => he.keep t (fun e => e)) hr (fun x hx => (heach x hx).1) (by omega)
theorem rfils_at {w : World} {base : Nat} {v : Value} {o : List Fil} (h : RFils w base v o) : ∃ a cap g, v = .slice a o.length cap ∧ (0 < o.length → a = some ⟨g, 0, none⟩ ∧ FilesAt w g o ∧ g < w.heap.size) := by
 obtain ⟨q1, ⟨q2, q3⟩ | ⟨g, cap, cur, rfl, hrest⟩⟩ := id h
 ·exact ⟨none, 0, 0, by rw [q2, q3], fun h => by omega⟩
 ·obtain ⟨a1, a2, a3, a4⟩ := RFils.files h
  exact ⟨_, cap, g, rfl, fun _ => ⟨rfl, a1, a2⟩⟩
theorem archU_err (w : World) (wb base m : Nat) (FL EL : List (Value × Nat)) (N : Int) (S : ByteArray) (v1 v4 v8 : Value) (qe qn qb : Int) (k : Nat) (hord : Ord w) (h0 : 0 < w.heap.size)
  (HL : ∀ W, Ord W → 0 < W.heap.size → Calls Tryz.prog 50 #[.string S, .agg #[.int .i64 qe, .int .i64 qn, .int .i64 qb]] W fun r w' => Touch (fun _ => False) W w' ∧ r = .returned (.tuple #[.slice none 0 0, .int .i64 (k : Int)]))
  (HR : ∀ W, Calls Tryz.prog 51 #[.string S, .agg #[.int .i64 qe, .int .i64 qn, .int .i64 qb]] W fun r w' => Touch (fun _ => False) W w' ∧ r = .returned (.tuple #[.slice none 0 0, .int .i64 (k : Int)]))
  (hK : KeptAll w wb base m FL EL) (hwb : wb < base) (hbase : base ≤ w.heap.size) (hm : m ≤ 1073741823) (hfl : FL.length ≤ 100000000) :
  Calls Tryz.prog 24 #[.pointer (some ⟨wb, 0, none⟩), .agg #[.int .i64 4, v1, .int .i64 N, .string S, v4, .int .i64 qe, .int .i64 qn, .int .i64 qb, v8]] w fun r w' => r = .returned (.bool true) ∧ (∃ FL', FL'.length = FL.length + 9 ∧ KeptAll w' wb base (m + 1) FL' EL) ∧ Touch (fun q => wb ≤ q) w w' := by
 refine archU_core w wb base m FL EL N S v1 v4 v8 qe qn qb k 0 (fun v _ => v = .slice none 0 0) (fun v _ => v = .slice none 0 0) hord h0 (fun W h1 h2 => ?_) (fun W => ?_) (fun W1 W va vb h1 _ h2 => ?_) hK hwb hbase (by omega) hm hfl
 ·refine (HL W h1 h2).mono ?_
  rintro r w' ⟨t, e⟩
  exact ⟨t, _, [], e, rfl, World.ownsRow_nil _ _ _ _⟩
 ·refine (HR W).mono ?_
  rintro r w' ⟨t, e⟩
  exact ⟨t, _, e, rfl⟩
 ·subst h1 h2
  exact sameF_c W none 0 0 none 0 0 [] (fun h => by cases h) (fun h => by cases h) (by simp)
theorem archU_c (w : World) (wb base m : Nat) (FL EL : List (Value × Nat)) (N : Int) (S : ByteArray) (v1 v4 v8 : Value) (qe qn qb : Int) (hqn : In64 qn) (hqb : In64 qb) (hS : S.size ≤ 1048576) (hord : Ord w) (h0 : 0 < w.heap.size) (hK : KeptAll w wb base m FL EL) (hwb : wb < base) (hbase : base ≤ w.heap.size) (hm : m ≤ 1073741823) (hfl : FL.length ≤ 100000000) :
  Calls Tryz.prog 24 #[.pointer (some ⟨wb, 0, none⟩), .agg #[.int .i64 4, v1, .int .i64 N, .string S, v4, .int .i64 qe, .int .i64 qn, .int .i64 qb, v8]] w fun r w' => r = .returned (.bool true) ∧ (∃ FL', FL'.length = FL.length + 9 ∧ KeptAll w' wb base (m + 1) FL' EL) ∧ Touch (fun q => wb ≤ q) w w' := by
 cases hR : listOf S qe qn qb with
 | error k =>
  refine archU_err w wb base m FL EL N S v1 v4 v8 qe qn qb k hord h0 (fun W h1 h2 => ?_) (fun W => ?_) hK hwb hbase hm hfl
  ·refine (unpack_c W S qe qn qb hqn hqb (by omega) h1 h2).mono ?_
   rintro r w' ⟨t, hp⟩
   rw [hR] at hp
   exact ⟨t, hp⟩
  ·refine (runpack_c W S qe qn qb hS).mono ?_
   rintro r w' ⟨t, hp⟩
   rw [hR] at hp
   exact ⟨t, hp⟩
 | ok L =>
  have hlen := listOf_len S qe qn qb L hR
  obtain ⟨heach, hcl⟩ := listOf_each S qe qn qb L hR
  have hnm := (listOf_ok S qe qn qb L hR (by omega)).2.2
  have hall := refGo_all S L (fun x hx => faultOf_name _ (heach x hx).2) hcl
  cases hfg : filesGo S L [] with
  | inl k =>
   rw [hfg] at hall
   have hall' : refGo S L [] = .inl k := hall
   refine archU_err w wb base m FL EL N S v1 v4 v8 qe qn qb k hord h0 (fun W h1 h2 => ?_) (fun W => ?_) hK hwb hbase hm hfl
   ·refine (unpack_c W S qe qn qb hqn hqb (by omega) h1 h2).mono ?_
    rintro r w' ⟨t, hp⟩
    rw [hR] at hp
    unfold unpackPost at hp
    simp only at hp
    rw [hfg] at hp
    exact ⟨t, hp⟩
   ·refine (runpack_c W S qe qn qb hS).mono ?_
    rintro r w' ⟨t, hp⟩
    rw [hR] at hp
    unfold runpPost at hp
    simp only at hp
    rw [hall'] at hp
    exact ⟨t, hp⟩
  | inr fs =>
   rw [hfg] at hall
   obtain ⟨o, ho, huniq⟩ := (show ∃ o, refGo S L [] = .inr o ∧ _ from hall)
   have hol := refGo_len S L [] o (fun x hx => (hnm x hx).2) ho
   simp only [List.length_nil] at hol
   refine archU_core w wb base m FL EL N S v1 v4 v8 qe qn qb 0 o.length (fun v w' => ∃ a cap g, v = .slice a o.length cap ∧ (0 < o.length → a = some ⟨g, 0, none⟩ ∧ FilesAt w' g o ∧ g < w'.heap.size)) (fun v w' => ∃ a cap g, v = .slice a o.length cap ∧ (0 < o.length → a = some ⟨g, 0, none⟩ ∧ FilesAt w' g o ∧ g < w'.heap.size)) hord h0 (fun W h1 h2 => ?_) (fun W => ?_) (fun W1 W va vb h1 t h2 => ?_) hK hwb hbase (by omega) hm hfl
   ·refine (unpack_c W S qe qn qb hqn hqb (by omega) h1 h2).mono ?_
    rintro r w' ⟨t, hp⟩
    rw [hR] at hp
    unfold unpackPost at hp
    simp only at hp
    rw [hfg] at hp
    obtain ⟨v, d, e, hperm, hsort, a, cap, hv, hown, hat⟩ := hp
    obtain rfl := huniq d hperm hsort
    refine ⟨t, v, _, e, ?_, hown⟩
    by_cases hd : 0 < d.length
    ·obtain ⟨g, _, q2, q3, q4⟩ := hat hd
     exact ⟨a, cap, g, hv, fun _ => ⟨q3, q4, q2⟩⟩
    ·exact ⟨a, cap, 0, hv, fun h => absurd h hd⟩
   ·refine (runpack_c W S qe qn qb hS).mono ?_
    rintro r w' ⟨t, hp⟩
    rw [hR] at hp
    unfold runpPost at hp
    simp only at hp
    rw [ho] at hp
    obtain ⟨v, e, hr⟩ := hp
    exact ⟨t, v, e, rfils_at hr⟩
   ·obtain ⟨a, cap, g, rfl, k1⟩ := h1
    obtain ⟨a', cap', g', rfl, k2⟩ := h2
    refine sameF_c W a g cap a' g' cap' o (fun h => ?_) k2 (by omega)
    obtain ⟨q1, q2, q3⟩ := k1 h
    exact ⟨q1, fun i hi => ⟨t.at (q2 i hi).1 (fun e => e), t.at (q2 i hi).2 (fun e => e)⟩, Nat.lt_of_lt_of_le q3 t.size⟩
end Go.Proofs.YtpckiobjpikmlaaGreatDoor
