/- Texts of this seat, joined. -/
import Derived.Test.YtpckiobjpikmlaaGreatDoorJ46
import Derived.Test.YtpckiobjpikmlaaGreatDoorJ48
import Derived.Test.YtpckiobjpikmlaaGreatDoorJ47
set_option linter.unusedSimpArgs false
set_option linter.unusedVariables false
set_option maxRecDepth 100000
set_option maxHeartbeats 20000000
namespace Go.Proofs.YtpckiobjpikmlaaGreatDoor
open Go.RowKit
def nothA : ByteArray := ⟨#[80, 75, 5, 6, 0, 0, 0, 0, 0, 0, 0, 0, 0, 0, 0, 0, 0, 0, 0, 0, 0, 0]⟩
theorem dirOf_nothing : dirOf nothA = .ok ⟨0, 0, 0, 0⟩ := by
 have h1 : endFrom nothA 101 0 = some 0 := by decide +kernel
 have h2 : elseB nothA 0 = false := by decide +kernel
 have h3 : endOne nothA 0 = true := by decide +kernel
 have h4 : numIn nothA (0 + 10) 2 = 0 := by decide +kernel
 have h5 : numIn nothA (0 + 12) 4 = 0 := by decide +kernel
 have h6 : numIn nothA (0 + 16) 4 = 0 := by decide +kernel
 unfold dirOf
 rw [h1]
 simp only
 rw [h2, h3, h4, h5, h6]
 rfl
theorem listOf_nothing : listOf nothA 0 0 0 = .ok [] := by
 unfold listOf
 rw [dirOf_nothing]
 rfl
theorem list_nothing (w : World) :
  Calls Tryz.prog 6 #[.string nothA, .agg #[.int .i64 0, .int .i64 0, .int .i64 0]] w fun e w' => ∃ a cap, e = .returned (.tuple #[.slice a 0 cap, .int .i64 0]) ∧ Touch (fun _ => False) w w' := by
 refine (list_c w nothA 0 0 0 ⟨by omega, by omega⟩ ⟨by omega, by omega⟩ (by decide)).mono ?_
 rintro r w' ⟨t, hp⟩
 rw [listOf_nothing] at hp
 obtain ⟨g, cap, e, _⟩ := hp
 exact ⟨_, cap, e, t⟩
end Go.Proofs.YtpckiobjpikmlaaGreatDoor
namespace Go.Proofs.YtpckiobjpikmlaaGreatDoor
open Go.RowKit Go.Shelf Go.Lib
structure OpA (w : World) (sb at_ : Nat) (K N : Int) (S : ByteArray) (v1 v4 v8 : Value) (qe qn qb : Int) : Prop where
 c0 : w.cell? ⟨sb, at_, none⟩ = some (.int .i64 K)
 c1 : w.cell? ⟨sb, at_ + 1, none⟩ = some v1
 c2 : w.cell? ⟨sb, at_ + 2, none⟩ = some (.int .i64 N)
 c3 : w.cell? ⟨sb, at_ + 3, none⟩ = some (.string S)
 c4 : w.cell? ⟨sb, at_ + 4, none⟩ = some v4
 c5 : w.cell? ⟨sb, at_ + 5, none⟩ = some (.int .i64 qe)
 c6 : w.cell? ⟨sb, at_ + 6, none⟩ = some (.int .i64 qn)
 c7 : w.cell? ⟨sb, at_ + 7, none⟩ = some (.int .i64 qb)
 c8 : w.cell? ⟨sb, at_ + 8, none⟩ = some v8
 lt : sb < w.heap.size
 hS : S.size ≤ 1048576
 hn : In64 qn
 hb : In64 qb
theorem OpA.keep {St : Nat → Prop} {w w' : World} {sb a : Nat} {K N : Int} {S : ByteArray} {v1 v4 v8 : Value} {qe qn qb : Int} (h : OpA w sb a K N S v1 v4 v8 qe qn qb) (t : Touch St w w') (hs : ¬ St sb) : OpA w' sb a K N S v1 v4 v8 qe qn qb :=
 ⟨t.at h.c0 hs, t.at h.c1 hs, t.at h.c2 hs, t.at h.c3 hs, t.at h.c4 hs, t.at h.c5 hs, t.at h.c6 hs, t.at h.c7 hs, t.at h.c8 hs, Nat.lt_of_lt_of_le h.lt t.size, h.hS, h.hn, h.hb⟩
theorem step_arch (w : World) (wb base m : Nat) (FL EL : List (Value × Nat)) (K N : Int) (S : ByteArray) (v1 v4 v8 : Value) (qe qn qb : Int) (hK34 : K = 3 ∨ K = 4) (hqn : In64 qn) (hqb : In64 qb) (hS : S.size ≤ 1048576) (hord : Ord w) (h0 : 0 < w.heap.size) (hK : KeptAll w wb base m FL EL) (hwb : wb < base) (hbase : base ≤ w.heap.size) (hm : m ≤ 1073741823) (hfl : FL.length ≤ 100000000) (hel : EL.length ≤ 100000000) :
  Calls Tryz.prog 8 #[.pointer (some ⟨wb, 0, none⟩), .agg #[.int .i64 K, v1, .int .i64 N, .string S, v4, .int .i64 qe, .int .i64 qn, .int .i64 qb, v8]] w fun r w' => r = .returned (.bool true) ∧ (∃ FL' EL', FL'.length ≤ FL.length + 9 ∧ EL'.length ≤ EL.length + 9 ∧ KeptAll w' wb base (m + 1) FL' EL') ∧ Touch (fun q => wb ≤ q) w w' := by
 rcases hK34 with rfl | rfl
 ·have T0 := (Touch.refl (fun _ => False) w).alloc (Obj.cells #[.int .i64 3, v1, .int .i64 N, .string S, v4, .int .i64 qe, .int .i64 qn, .int .i64 qb, v8] 46)
  have HO : Hid (Ord (w.alloc (Obj.cells #[.int .i64 3, v1, .int .i64 N, .string S, v4, .int .i64 qe, .int .i64 qn, .int .i64 qb, v8] 46))) := hord.keep T0 (fun e => e)
  have HA : Hid (Calls Tryz.prog 24 #[.pointer (some ⟨wb, 0, none⟩), .agg #[.int .i64 3, v1, .int .i64 N, .string S, v4, .int .i64 qe, .int .i64 qn, .int .i64 qb, v8]] (w.alloc (Obj.cells #[.int .i64 3, v1, .int .i64 N, .string S, v4, .int .i64 qe, .int .i64 qn, .int .i64 qb, v8] 46)) fun r w' => r = .returned (.bool true) ∧ (∃ FL' EL', FL'.length ≤ FL.length + 9 ∧ EL'.length ≤ EL.length + 9 ∧ KeptAll w' wb base (m + 1) FL' EL') ∧ Touch (fun q => wb ≤ q) w w') := by
   refine (archL_c _ wb base m FL EL N S v1 v4 v8 qe qn qb hqn hqb hS HO.out (by simp) (hK.same T0) hwb (by simp; omega) hm hel).mono ?_
   rintro r w' ⟨e, ⟨EL', h1, h2⟩, t⟩
   exact ⟨e, ⟨FL, EL', by omega, by omega, h2⟩, (T0.mono (fun _ _ h => h.elim)).trans t⟩
  clear HO T0 hK hord
  go_enter Tryz.func8, Tryz.ntmps8
  go_wp2_with (go_at_call 24; refine HA.out.mono ?_; rintro e w1 ⟨rfl, h1, t1⟩)
  go_ret
  exact ⟨rfl, h1, t1⟩
 ·have T0 := (Touch.refl (fun _ => False) w).alloc (Obj.cells #[.int .i64 4, v1, .int .i64 N, .string S, v4, .int .i64 qe, .int .i64 qn, .int .i64 qb, v8] 46)
  have HO : Hid (Ord (w.alloc (Obj.cells #[.int .i64 4, v1, .int .i64 N, .string S, v4, .int .i64 qe, .int .i64 qn, .int .i64 qb, v8] 46))) := hord.keep T0 (fun e => e)
  have HA : Hid (Calls Tryz.prog 24 #[.pointer (some ⟨wb, 0, none⟩), .agg #[.int .i64 4, v1, .int .i64 N, .string S, v4, .int .i64 qe, .int .i64 qn, .int .i64 qb, v8]] (w.alloc (Obj.cells #[.int .i64 4, v1, .int .i64 N, .string S, v4, .int .i64 qe, .int .i64 qn, .int .i64 qb, v8] 46)) fun r w' => r = .returned (.bool true) ∧ (∃ FL' EL', FL'.length ≤ FL.length + 9 ∧ EL'.length ≤ EL.length + 9 ∧ KeptAll w' wb base (m + 1) FL' EL') ∧ Touch (fun q => wb ≤ q) w w') := by
   refine (archU_c _ wb base m FL EL N S v1 v4 v8 qe qn qb hqn hqb hS HO.out (by simp) (hK.same T0) hwb (by simp; omega) hm hfl).mono ?_
   rintro r w' ⟨e, ⟨FL', h1, h2⟩, t⟩
   exact ⟨e, ⟨FL', EL, by omega, by omega, h2⟩, (T0.mono (fun _ _ h => h.elim)).trans t⟩
  clear HO T0 hK hord
  go_enter Tryz.func8, Tryz.ntmps8
  go_wp2_with (go_at_call 24; refine HA.out.mono ?_; rintro e w1 ⟨rfl, h1, t1⟩)
  go_ret
  exact ⟨rfl, h1, t1⟩
theorem KeptAll.new (w : World) : KeptAll (w.alloc (Obj.cells #[.slice none 0 0, .slice none 0 0, .slice none 0 0, .slice none 0 0, .slice none 0 0, .slice none 0 0, .slice none 0 0, .int .i64 0] 33)) w.heap.size (w.heap.size + 1) 0 [] [] := by
 have hb := heap_alloc_new w (Obj.cells #[.slice none 0 0, .slice none 0 0, .slice none 0 0, .slice none 0 0, .slice none 0 0, .slice none 0 0, .slice none 0 0, .int .i64 0] 33)
 refine ⟨⟨.slice none 0 0, .slice none 0 0, .slice none 0 0, .slice none 0 0, ?_⟩, fun x hx => (by cases hx), fun x hx => (by cases hx)⟩
 refine ⟨by rw [row_cell hb 0]; rfl, by rw [row_cell hb 1]; rfl, by rw [row_cell hb 2]; rfl, by rw [row_cell hb 3]; rfl, by rw [row_cell hb 4]; rfl, by rw [row_cell hb 5]; rfl, by rw [row_cell hb 6]; rfl, by rw [row_cell hb 7]; rfl, fun i => frozen_row hb i, ⟨_, _, hb⟩, by omega, World.ownsRow_nil _ _ _ _, World.ownsRow_nil _ _ _ _, World.ownsRow_nil _ _ _ _, World.ownsRow_nil _ _ _ _⟩
theorem KeptAll.all {w : World} {wb base m : Nat} {FL EL : List (Value × Nat)} (h : KeptAll w wb base m FL EL) : w.cell? ⟨wb, 0, none⟩ = some (.slice none 0 0) := by
 obtain ⟨⟨vF, vM, vE, vN, hB⟩, _, _⟩ := h
 exact hB.c0
theorem plays_arch (w : World) (ao : Option Addr) (len cap : Nat) (ho : Ord w) (h0 : 0 < w.heap.size) (hlen : len ≤ 1048576)
  (hop : ∀ i, i < len → ∃ sb so K N S v1 v4 v8 qe qn qb, ao = some ⟨sb, so, none⟩ ∧ OpA w sb (so + i * 9) K N S v1 v4 v8 qe qn qb) :
  Calls Tryz.prog 4 #[.slice ao len cap, .int .i64 3, .int .i64 4] w fun e w' => e = .returned (.bool true) ∧ Below w.heap.size w w' := by
 have HOP : Hid (∀ i, i < len → ∃ sb so K N S v1 v4 v8 qe qn qb, ao = some ⟨sb, so, none⟩ ∧ OpA w sb (so + i * 9) K N S v1 v4 v8 qe qn qb) := hop
 have HK0 := KeptAll.new w
 have T0 := (Touch.refl (fun _ => False) w).alloc (.cells #[.slice none 0 0, .slice none 0 0, .slice none 0 0, .slice none 0 0, .slice none 0 0, .slice none 0 0, .slice none 0 0, .int .i64 0] 33)
 have o1 := ho.keep T0 (fun e => e)
 have z1 : 0 < (w.alloc (.cells #[.slice none 0 0, .slice none 0 0, .slice none 0 0, .slice none 0 0, .slice none 0 0, .slice none 0 0, .slice none 0 0, .int .i64 0] 33)).heap.size := by simp
 have HOW : Hid (Ord w) := ho
 have HI : Hid (∀ W, Ord W → 0 < W.heap.size → Calls Tryz.prog 5 #[.string ⟨#[75, 4, 0]⟩, .int .i64 1] W fun e w' => e = .returned (.tuple #[.string ⟨#[97]⟩, .int .i64 3, .int .i64 0]) ∧ Touch (fun _ => False) W w') := fun W h1 h2 => (inflate_e W _ 1 [97] 18 ⟨#[97]⟩ 3 ex_inf4 rfl rfl (by omega) (by decide) h1 h2).mono fun _ _ h => ⟨h.1, Touch.ofBelow h.2 _⟩
 clear hop ho
 go_enter Tryz.func4, Tryz.ntmps4
 go_wp2_with fail
 refine (HI.out _ o1 z1).mono ?_
 rintro e w2 ⟨rfl, t2⟩
 have T2 := T0.trans t2
 have K2 := HK0.same t2
 clear T0 t2 HK0 HI o1 z1
 go_wp2_with fail
 refine (list_nothing _).mono ?_
 rintro e w3 ⟨a3, cap3, rfl, t3⟩
 have T3 := T2.trans t3
 have K3 := K2.same t3
 have s3 : w.heap.size < w3.heap.size := K3.wb_lt
 clear T2 t3 K2
 go_wp2
 go_loopw [15] (fun i wr => ∃ (k m : Nat) (FL EL : List (Value × Nat)), k ≤ len ∧ i = .int .i64 (k : Int) ∧ m ≤ k ∧ FL.length ≤ 9 * k ∧ EL.length ≤ 9 * k ∧ KeptAll wr w.heap.size (w.heap.size + 1) m FL EL ∧ Touch (fun q => w.heap.size ≤ q) w wr ∧ w.heap.size < wr.heap.size) (fun i _ => len - (intOf i).toNat)
 case atStart => exact ⟨0, 0, [], [], Nat.zero_le _, rfl, Nat.le_refl _, by simp, by simp, K3, T3.mono (fun _ _ h => h.elim), s3⟩
 case round =>
  clear K3 T3 s3
  obtain ⟨k, m, FL, EL, hk, rfl, hm, hf, he, hK, T, hsz⟩ := hrel
  have c0 := hK.all
  by_cases hlt : k < len
  ·obtain ⟨sb, so, K, N, S, v1, v4, v8, qe, qn, qb, rfl, op⟩ := HOP.out k hlt
   have hsb : ¬ w.heap.size ≤ sb := by have := op.lt; omega
   obtain ⟨p0, p1, p2, p3, p4, p5, p6, p7, p8, plt, pS, pn, pb⟩ := op.keep T hsb
   have i1 : (k : Int) < (len : Int) := by omega
   have hordr : Ord wr := HOW.out.keep T (by omega)
   by_cases hK34 : 3 ≤ K ∧ K ≤ 4
   ·have HST : Hid (Calls Tryz.prog 8 #[.pointer (some ⟨w.heap.size, 0, none⟩), .agg #[.int .i64 K, v1, .int .i64 N, .string S, v4, .int .i64 qe, .int .i64 qn, .int .i64 qb, v8]] wr fun r w' => r = .returned (.bool true) ∧ (∃ FL' EL', FL'.length ≤ FL.length + 9 ∧ EL'.length ≤ EL.length + 9 ∧ KeptAll w' w.heap.size (w.heap.size + 1) (m + 1) FL' EL') ∧ Touch (fun q => w.heap.size ≤ q) wr w') := step_arch wr w.heap.size (w.heap.size + 1) m FL EL K N S v1 v4 v8 qe qn qb (by omega) pn pb pS hordr (by omega) hK (by omega) (by omega) (by omega) (by omega) (by omega)
    have HKP : Hid (∀ W m FL EL, KeptAll W w.heap.size (w.heap.size + 1) m FL EL → FL.length ≤ 1000000000 → EL.length ≤ 1000000000 → Calls Tryz.prog 9 #[.pointer (some ⟨w.heap.size, 0, none⟩)] W fun r w' => r = .returned (.bool true) ∧ Touch (fun _ => False) W w') := fun W m FL EL h1 h2 h3 => kept_c W w.heap.size (w.heap.size + 1) m FL EL h1 h2 h3
    have g1 : (3 : Int) ≤ K := hK34.1
    have g2 : K ≤ 4 := hK34.2
    clear hK hordr op
    go_wp2_with (first | (go_at_call 8; refine HST.out.mono ?_; rintro e w4 ⟨rfl, ⟨FL', EL', f1, f2, K4⟩, t4⟩) | (go_at_call 9; refine (HKP.out w4 _ _ _ K4 (by omega) (by omega)).mono ?_; rintro e w5 ⟨rfl, t5⟩))
    have K5 := K4.same t5
    have T5 := (T.trans t4).trans (t5.mono (fun _ _ h => h.elim))
    have s5 : w.heap.size < w5.heap.size := K5.wb_lt
    go_roundw
    case rel => exact ⟨k + 1, m + 1, FL', EL', by omega, by go_num, by omega, by omega, by omega, K5, T5, s5⟩
    case measure => simp [intOf]; omega
   ·by_cases hK1 : 3 ≤ K
    ·have hK2 : ¬ K ≤ 4 := by omega
     go_wp2
     go_roundw
     case rel => exact ⟨k + 1, m, FL, EL, by omega, by go_num, by omega, by omega, by omega, hK, T, hsz⟩
     case measure => simp [intOf]; omega
    ·go_wp2
     go_roundw
     case rel => exact ⟨k + 1, m, FL, EL, by omega, by go_num, by omega, by omega, by omega, hK, T, hsz⟩
     case measure => simp [intOf]; omega
  ·obtain rfl : k = len := by omega
   have HKP : Hid (Calls Tryz.prog 9 #[.pointer (some ⟨w.heap.size, 0, none⟩)] wr fun r w' => r = .returned (.bool true) ∧ Touch (fun _ => False) wr w') := kept_c wr w.heap.size (w.heap.size + 1) m FL EL hK (by omega) (by omega)
   have HBL : Hid (∀ W, Touch (fun _ => False) wr W → Below w.heap.size w W) := fun W t => (T.trans (t.mono (fun _ _ h => h.elim))).toBelow (Nat.le_refl _) (fun k hk h => by omega)
   clear hK T HOP
   go_wp2
   go_loopw [19] (fun i wr' => i = .int .i64 0 ∧ wr' = wr) (fun _ _ => 0)
   case atStart => exact ⟨rfl, rfl⟩
   case round =>
    obtain ⟨rfl, rfl⟩ := hrel
    go_wp2_with (go_at_call 9; refine HKP.out.mono ?_; rintro e w4 ⟨rfl, t4⟩)
    go_ret
    exact ⟨rfl, HBL.out _ t4⟩
theorem lawArch_c (w : World) (ao : Option Addr) (len cap : Nat) (ho : Ord w) (h0 : 0 < w.heap.size) (hlen : len ≤ 1048576)
  (hop : ∀ i, i < len → ∃ sb so K N S v1 v4 v8 qe qn qb, ao = some ⟨sb, so, none⟩ ∧ OpA w sb (so + i * 9) K N S v1 v4 v8 qe qn qb) :
  Calls Tryz.prog 3 #[.slice ao len cap] w fun e w' => e = .returned (.bool true) ∧ Below w.heap.size w w' := by
 go_enter Tryz.func3, Tryz.ntmps3
 go_wp2_with fail
 refine (plays_arch w ao len cap ho h0 hlen hop).mono ?_
 rintro e w1 ⟨rfl, b1⟩
 go_wp2
 go_ret
 exact ⟨rfl, b1⟩
end Go.Proofs.YtpckiobjpikmlaaGreatDoor
