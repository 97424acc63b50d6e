/- For every archive and every quota: the document's examples hold; if List or Unpack tells an error, nothing is unpacked and both tell the same where List tells one; else what is listed is within the quota, each entry's bytes lie in the archive, side by side, each entry is unpacked with its size and (a file) with its sum; every path that is unpacked leads nowhere else, is told behind the folders that lead to it, and in order. Conditions: the arguments are of bulk at most 1048576; the package's table lengthOrder starts as its text lays it (the card ties that to the program's text). -/
import Derived.Test.YtnmkmmgaoplfiaaGreatDoorJ05
import Derived.Test.YtnmkmmgaoplfiaaGreatDoorJ49
import Derived.ProofKit
import Derived.OpenShut
import Derived.Deep.DeepHandedRow
import Derived.Deep.Slices
import Derived.WideKeyArgs
import Derived.ChangeSame
import Derived.Lib.LaidTab
import Derived.Lib.SmallJoins
set_option linter.unusedSimpArgs false
set_option linter.unusedVariables false
set_option maxRecDepth 100000
set_option maxHeartbeats 20000000
namespace Go.Proofs.YtnmkmmgaoplfiaaGreatDoor
namespace PGuard
open Go.ChangeShapes Go.WideShapes Go.ChangeAt Go.RowKit
open Go.ChangeMaps (open_string shut_string)
theorem cellsQ : Tryz.prog.cellsOf 29 = 3 := by kernel_rfl
theorem laidOut : laidOutB Tryz.prog = true := by kernel_rfl
theorem wf_i64 {n : Int} (h : (Lit.int .i64 n).wf = true) : -9223372036854775808 ≤ n ∧ n ≤ 9223372036854775807 := by
 simp only [Lit.wf, Bool.and_eq_true, decide_eq_true_eq] at h
 have h1 := h.1
 have h2 := h.2
 simp [IntKind.min, IntKind.max, IntKind.bits, IntKind.signed] at h1 h2
 omega
theorem ord {W : World} (h : laidMetH Tryz.prog Rows.guardedUptoRow.laid W) : Ord W :=
 PHead.ord h (fun _ => MakeChecks.laidMetH_plain _ _ _ (by kernel_rfl)) (by first | exact .head _ | exact .tail _ (.head _) | exact .tail _ (.tail _ (.head _)))
theorem contract (H : Type) (enc : TypeId × Value → H) (W : World) (base : Nat) (args : Array Value) (ds gs : List (DataW H)) (before : List MemPlace)
  (hval : ∀ (j : Nat) t v, Tryz.f4.params[j]? = some t → args[j]? = some v → Value.okWide Tryz.prog W .any base t v)
  (hW : DataW.Whole enc Tryz.prog Tryz.f4.params.toList Rows.guardedSpec.vars false W args.toList ds gs before) (hk : Rows.uptoSmall H (ds ++ gs) = true) (hL : laidMetH Tryz.prog Rows.guardedUptoRow.laid W) :
  Calls Tryz.prog 4 args W fun e W' => ∃ v, e = .returned v ∧ Rows.guardedSpec.post enc Tryz.prog Tryz.f4 false true false false W args v W' := by
 have hW' := hW
 obtain ⟨p, q, hA0, hV, rfl, hfz, hnd⟩ := hW
 have hA : DataW.TrodAll enc Tryz.prog W 0 (fun _ => true) true Tryz.f4.params.toList args.toList ds p := hA0
 rw [Tryz.params4] at hA hval
 obtain ⟨v0, vs0, d0, ds0, p0, q0, hargs, rfl, rfl, h0, r0⟩ := trodAll_cons hA
 obtain ⟨v1, vs1, d1, ds1, p1, q1, rfl, rfl, rfl, h1, r1⟩ := trodAll_cons r0
 obtain ⟨rfl, rfl, rfl⟩ := trodAll_nil r1
 obtain rfl : args = #[v0, v1] := by cases args; simp_all
 obtain ⟨rfl, rfl⟩ := trodVars_none hV
 obtain ⟨b, rfl, rfl, rfl, hb⟩ := open_string Tryz.underlying9 (hval 0 9 v0 rfl rfl) h0
 obtain ⟨c0, c1, c2, y0, y1, y2, m, rfl, rfl, rfl, hy0, hy1, hy2⟩ := Go.Joins.open_agg3 Tryz.underlying29 (by kernel_rfl) cellsQ (hval 1 29 v1 rfl rfl) h1
 obtain ⟨qe, e0, rfl, we⟩ := DataW.trod_int Tryz.underlying3 hy0
 obtain ⟨qn, e1, rfl, wn⟩ := DataW.trod_int Tryz.underlying3 hy1
 obtain ⟨qb, e2, rfl, wb⟩ := DataW.trod_int Tryz.underlying3 hy2
 simp only [List.cons.injEq, and_true] at e0 e1 e2
 subst e0 e1 e2
 clear hA0
 simp only [List.append_nil] at hW'
 have hbs : b.size ≤ 1048576 := by
  have h := of_decide_eq_true hk
  simp only [Rows.uptoBulkAll, Rows.uptoBulk, List.append_nil, List.cons_append, List.nil_append] at h
  have b5 : b.data.toList.length = b.size := Array.length_toList
  omega
 have ho := ord hL
 have hz : 0 < W.heap.size := World.block_lt_of_cell? W _ (ho 0 (by omega))
 refine (guarded_c W b qe qn qb (wf_i64 we) (wf_i64 wn) (wf_i64 wb) hbs ho hz).mono fun e W' ⟨he, hg⟩ => ?_
 subst he
 have again := trodAll_cons_mk (shut_string Tryz.underlying9 hb) (trodAll_cons_mk (Go.Joins.shut_agg3 Tryz.underlying29 (by kernel_rfl) cellsQ (y0 := (.lit (.int .i64 qe), [])) (y1 := (.lit (.int .i64 qn), [])) (y2 := (.lit (.int .i64 qb), [])) (shut_int Tryz.underlying3 we) (shut_int Tryz.underlying3 wn) (shut_int Tryz.underlying3 wb)) (trodAll_mk0 (enc := enc) (P := Tryz.prog) (w := W') (base := 0) (spare := fun b => decide (b < W.heap.size)) (held := true)))
 simp only [List.append_nil] at again
 exact ⟨_, rfl, _, _, _, [], [], [], hW', trodAll_cons_mk (shut_bool Tryz.underlying4 _) trodAll_mk0, again, rfl, hg.frame _, fun h => by cases h⟩
/- The world of the witness, typed out at each use: the settled one, the listed variables laid. -/
theorem laid_met (os : Os) : laidMet Tryz.prog Rows.guardedUptoRow.laid ((World.laidAll Tryz.prog os Rows.guardedUptoRow.laid).forCall (fun _ _ => 0) ⟨#[], #[.string ⟨#[]⟩, .agg #[.int .i64 0, .int .i64 0, .int .i64 0]], []⟩).memory :=
 laidMet_laidAll _ (by kernel_rfl) (by kernel_rfl)
theorem reads (os : Os) {H : Type} (enc : TypeId × Value → H) : ∃ places, DataW.whole enc Tryz.prog ((World.laidAll Tryz.prog os Rows.guardedUptoRow.laid).forCall (fun _ _ => 0) ⟨#[], #[.string ⟨#[]⟩, .agg #[.int .i64 0, .int .i64 0, .int .i64 0]], []⟩).memory Tryz.f4.params.toList Rows.guardedSpec.vars false #[Value.string ⟨#[]⟩, .agg #[.int .i64 0, .int .i64 0, .int .i64 0]].toList 8 = some ([.lit (.string []), .agg [.lit (.int .i64 0), .lit (.int .i64 0), .lit (.int .i64 0)]], [], places) :=
 ⟨[], by kernel_rfl⟩
theorem lifted (os : Os) (started : os.Started) (H : Type) (enc : TypeId × Value → H) (F : Stop.Interp) :
  ReturnsInHanded {} Tryz.checked os 4 .any ((Rows.OpenSpec.upto Rows.guardedSpec).preRow enc Tryz.prog Tryz.f4 Rows.guardedUptoRow.domain false Rows.guardedUptoRow.laid) (((Rows.OpenSpec.upto Rows.guardedSpec).at F).post enc Tryz.prog Tryz.f4 false true false false) := by
 obtain ⟨places, hx⟩ := reads os enc
 refine returnsInHanded_of_row (C := Tryz.checked) (s := Rows.OpenSpec.upto Rows.guardedSpec) PHead.own started (by kernel_rfl) Tryz.func4
  (witness_row_at (enc := enc) (C := Tryz.checked) false (World.laidAll Tryz.prog os Rows.guardedUptoRow.laid) #[.string ⟨#[]⟩, .agg #[.int .i64 0, .int .i64 0, .int .i64 0]] (World.laidAll_os _ _ _) (by kernel_rfl) (by kernel_rfl) (by kernel_rfl)
   (OpenSpec.preRow_of_cond 8 hx (by kernel_rfl) (fun k hk => by cases hk; kernel_rfl) (by kernel_rfl) (laid_met os))) ?_
 intro W base args ds gs before hval hW _ hk _ hL _ _
 exact contract H enc W base args ds gs before hval hW (hk _ rfl) hL
theorem said : Rows.GuardedUptoSaid :=
 OpenClaim.holds_of_cond 4 Tryz.f4 rfl rfl rfl rfl rfl rfl rfl ⟨rfl, rfl, rfl, rfl, rfl⟩ rfl rfl rfl rfl rfl (by kernel_rfl) Tryz.func4 (by kernel_rfl)
  (of_decide_eq_true (by kernel_rfl)) (by unfold Func.isWrapper; first | (rw [if_pos (by decide +kernel)]; kernel_rfl) | (rw [if_neg (by decide +kernel)]; exact ⟨rfl, rfl⟩))
  (fun os started H enc _ F => by rw [OpenClaim.pre_eq_preRow]; exact lifted os started H enc F)
theorem plain (f : FuncId) (fn : Func) (hf : Tryz.pinned.checked.prog.funcNamed "crate/cratekeep.Guarded" = some f) (hfn : Tryz.pinned.checked.prog.funcs[f]? = some fn) :
  false = Tryz.pinned.checked.prog.looks [] ∧ ∀ (j : Nat) t, fn.params[j]? = some t → Tryz.pinned.checked.prog.wantsStandIn t = false := by
 obtain rfl : f = 4 := Option.some.inj ((show Tryz.prog.funcNamed "crate/cratekeep.Guarded" = some 4 by kernel_rfl).symm.trans hf) |>.symm
 obtain rfl : fn = Tryz.f4 := (Option.some.inj (Tryz.func4.symm.trans hfn)).symm
 refine ⟨by kernel_rfl, fun j t ht => ?_⟩
 rw [Tryz.params4] at ht
 have hm := Array.mem_of_getElem? ht
 simp only [List.mem_toArray, List.mem_cons, List.not_mem_nil, or_false] at hm
 rcases hm with rfl | rfl
 ·exact (show Tryz.prog.wantsStandIn 9 = false by kernel_rfl)
 ·exact (show Tryz.prog.wantsStandIn 29 = false by kernel_rfl)
end PGuard
theorem guardedUpto_card : Rows.GuardedUptoCardSaid :=
 Claim7.holds_tied_plain_at .later [] _ _ _ _ PGuard.said (fun _ h => by cases h) (by kernel_rfl) (fun _ h => by cases h) guardedUpto_row_tie rfl ⟨rfl, rfl⟩ (by kernel_rfl) rfl PGuard.plain (by kernel_rfl)
end Go.Proofs.YtnmkmmgaoplfiaaGreatDoor
