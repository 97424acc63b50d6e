/- For every raw pieces, bytes behind and cut: what the statement packs of the pieces is unpacked as it was; with less allowed only ErrMuch is told; with the bytes behind all is the same; cut off it is ErrData; and the document's examples hold. Conditions: the arguments are of bulk at most 1048576; the package's table lengthOrder starts as its text lays it (the card ties that to the program's text). -/
import Derived.Test.YtobfkhapeejkfaaGreatDoorPHead
import Derived.Test.YtobfkhapeejkfaaGreatDoorKGiven
import Derived.ProofKit
import Derived.OpenShut
import Derived.Deep.DeepHandedRow
import Derived.Deep.Slices
import Derived.WideKeyArgs
import Derived.ChangeSame
import Derived.Lib.LaidTab
namespace Go.Proofs.YtobfkhapeejkfaaGreatDoor
namespace PGiven
open Go.ChangeShapes Go.WideShapes Go.ChangeAt Go.RowKit
open Go.ChangeMaps (open_string shut_string)
set_option linter.unusedSimpArgs false
set_option linter.unusedVariables false

theorem cellsStr : Tryz.prog.cellsOf 9 = 1 := by kernel_rfl
theorem cellsPiece : Tryz.prog.cellsOf 101 = 4 := by kernel_rfl
theorem laidOut : laidOutB Tryz.prog = true := by kernel_rfl

/-- What the row's list gives: the table's cells hold its numbers. -/
theorem ord {W : World} (h : laidMetH Tryz.prog Rows.givenUptoRow.laid W) : Ord W :=
  PHead.ord h (fun _ => MakeChecks.laidMetH_plain _ _ _ (by kernel_rfl)) (by first | exact .head _ | exact .tail _ (.head _) | exact .tail _ (.tail _ (.head _)))

/-- A part's bulk is at most the whole's. -/
theorem part_bulk {H : Type} {d : DataW H} : ∀ {l : List (DataW H)}, d ∈ l → Rows.uptoBulk d ≤ Rows.uptoBulkAll l
  | x :: r, h => by
    simp only [Rows.uptoBulkAll]
    rcases List.mem_cons.1 h with rfl | h
    · omega
    · have := part_bulk h; omega

theorem list4 {α : Type} {l : List α} (h : l.length = 4) : ∃ a b c d, l = [a, b, c, d] := by
  match l, h with
  | [a, b, c, d], _ => exact ⟨a, b, c, d, rfl⟩
theorem wf_i64 {n : Int} (h : (Lit.int .i64 n).wf = true) : -9223372036854775808 ≤ n ∧ n ≤ 9223372036854775807 := by
  simp only [Lit.wf, Bool.and_eq_true, decide_eq_true_eq] at h
  have h1 := h.1
  have h2 := h.2
  simp [IntKind.min, IntKind.max, IntKind.bits, IntKind.signed] at h1 h2
  omega

set_option maxRecDepth 100000 in
/-- Raw pieces in memory: each one's cells. -/
theorem open_pieces {H : Type} {enc : TypeId × Value → H} {W : World} {c0 : Value} {d : DataW H} {p : List MemPlace} (h : DataW.Trod enc Tryz.prog W 0 (fun _ => true) true 25 c0 d p) (hv : ∃ a l c, c0 = .slice a l c) :
    ∃ (ao : Option Addr) (len cap : Nat) (P : Nat → Int × Int × Int × ByteArray), c0 = .slice ao len cap ∧ len ≤ maxLen ∧ (∀ i, i < len → ∃ sb so, ao = some ⟨sb, so, none⟩ ∧ PieceAt W sb (so + i * 4) (P i).1 (P i).2.1 (P i).2.2.1 (P i).2.2.2) := by
  obtain ⟨a0, l0, k0, rfl⟩ := hv
  obtain ⟨n, h⟩ := h
  rcases Go.Deep.open_slice Tryz.underlying25 h with ⟨hc, hx⟩ | ⟨a, len, cap, m, n, D, Pl, hc, _, hl, hm, hmm, hx, hall⟩
  · simp only [Value.cells, List.cons.injEq, and_true] at hc
    cases hc
    exact ⟨_, _, _, fun _ => (0, 0, 0, ⟨#[]⟩), rfl, Nat.zero_le _, fun i hi => by omega⟩
  · simp only [Value.cells, List.cons.injEq, and_true] at hc
    cases hc
    simp only [if_true] at hmm
    subst hmm
    obtain ⟨P, hP⟩ := Go.Deep.choose_lt (n := l0) (α := Int × Int × Int × ByteArray) (p := fun i x => ∃ sb so, some a = some ⟨sb, so, none⟩ ∧ PieceAt W sb (so + i * 4) x.1 x.2.1 x.2.2.1 x.2.2.2) (fun i hi => by
      obtain ⟨cs', h1, h2⟩ := hall i (by omega)
      rw [cellsPiece] at h1
      obtain ⟨_, hlen, hcell⟩ := World.cells?_some h1
      obtain ⟨sb, so, spot⟩ := a
      obtain ⟨x0, x1, x2, x3, rfl⟩ := list4 hlen
      have hspot : spot = none := by
        obtain ⟨cs0, k1, _⟩ := hall 0 (by omega)
        rw [cellsPiece] at k1
        obtain ⟨_, klen, kcell⟩ := World.cells?_some k1
        obtain ⟨z0, z1, z2, z3, rfl⟩ := list4 klen
        have ea : ∀ a : Addr, a.add 0 = a := fun a => by unfold Addr.add; simp
        have k0 : W.cell? ⟨sb, so, spot⟩ = some z0 := by
          have := kcell 0 (by omega)
          rw [Nat.zero_mul, ea, ea] at this
          simpa using this
        exact World.cell?_spot k0
      subst hspot
      have hcl : ∀ j, j < 4 → W.cell? ⟨sb, so + i * 4 + j, none⟩ = [x0, x1, x2, x3][j]? := fun j hj => by
        rw [← hcell j hj]
        congr 1
        unfold Addr.add
        split <;> split <;> simp_all <;> omega
      obtain ⟨xs, k, hk, hxy, _, hxl, hf⟩ := DataW.trod_struct Tryz.underlying101 h2
      obtain ⟨y0, y1, y2, y3, rfl⟩ := list4 hxl
      have g0 : DataW.trod enc Tryz.prog W 0 (fun _ => true) true k 3 (([x0, x1, x2, x3].drop 0).take (Tryz.prog.cellsOf 3)) = some y0 := hf 0 _ rfl
      rw [PHead.cellsInt] at g0
      change DataW.trod enc Tryz.prog W 0 (fun _ => true) true k 3 [x0] = some y0 at g0
      have g1 : DataW.trod enc Tryz.prog W 0 (fun _ => true) true k 3 (([x0, x1, x2, x3].drop 1).take (Tryz.prog.cellsOf 3)) = some y1 := hf 1 _ rfl
      rw [PHead.cellsInt] at g1
      change DataW.trod enc Tryz.prog W 0 (fun _ => true) true k 3 [x1] = some y1 at g1
      have g2 : DataW.trod enc Tryz.prog W 0 (fun _ => true) true k 3 (([x0, x1, x2, x3].drop 2).take (Tryz.prog.cellsOf 3)) = some y2 := hf 2 _ rfl
      rw [PHead.cellsInt] at g2
      change DataW.trod enc Tryz.prog W 0 (fun _ => true) true k 3 [x2] = some y2 at g2
      have g3 : DataW.trod enc Tryz.prog W 0 (fun _ => true) true k 9 (([x0, x1, x2, x3].drop 3).take (Tryz.prog.cellsOf 9)) = some y3 := hf 3 _ rfl
      rw [cellsStr] at g3
      change DataW.trod enc Tryz.prog W 0 (fun _ => true) true k 9 [x3] = some y3 at g3
      obtain ⟨K, e0, _, wK⟩ := DataW.trod_int Tryz.underlying3 g0
      obtain ⟨N, e1, _, wN⟩ := DataW.trod_int Tryz.underlying3 g1
      obtain ⟨F, e2, _, wF⟩ := DataW.trod_int Tryz.underlying3 g2
      obtain ⟨S, e3, _, wS⟩ := DataW.trod_string Tryz.underlying9 g3
      simp only [List.cons.injEq, and_true] at e0 e1 e2 e3
      subst e0 e1 e2 e3
      have c0 := hcl 0 (by omega)
      have lt := World.block_lt_of_cell? W _ c0
      unfold maxLen at wS
      exact ⟨(K, N, F, S), sb, so, rfl, ⟨c0, hcl 1 (by omega), hcl 2 (by omega), hcl 3 (by omega), lt, wf_i64 wK, wf_i64 wN, wf_i64 wF, wS⟩⟩)
    exact ⟨_, _, _, P, rfl, by omega, hP⟩

set_option maxRecDepth 100000 in
/-- What the walk gives, for every script of that bulk and every world that holds the table. -/
theorem contract (H : Type) (enc : TypeId × Value → H) (W : World) (base : Nat) (args : Array Value) (ds gs : List (DataW H)) (before : List MemPlace)
    (hval : ∀ (j : Nat) t v, Tryz.f4.params[j]? = some t → args[j]? = some v → Value.okWide Tryz.prog W .any base t v)
    (hW : DataW.Whole enc Tryz.prog Tryz.f4.params.toList Rows.givenSpec.vars false W args.toList ds gs before) (hk : Rows.uptoSmall H (ds ++ gs) = true) (hL : laidMetH Tryz.prog Rows.givenUptoRow.laid W) :
    Calls Tryz.prog 4 args W fun e W' => ∃ v, e = .returned v ∧ Rows.givenSpec.post enc Tryz.prog Tryz.f4 false true false false W args v W' := by
  have hW' := hW
  obtain ⟨p, q, hA0, hV, rfl, hfz, hnd⟩ := hW
  have hA : DataW.TrodAll enc Tryz.prog W 0 (fun _ => true) true Tryz.f4.params.toList args.toList ds p := hA0
  rw [Tryz.params4] at hA hval
  obtain ⟨v0, vs0, d0, ds0, p0, q0, hargs, rfl, rfl, h0, r0⟩ := trodAll_cons hA
  obtain ⟨v1, vs1, d1, ds1, p1, q1, rfl, rfl, rfl, h1, r1⟩ := trodAll_cons r0
  obtain ⟨v2, vs2, d2, ds2, p2, q2, rfl, rfl, rfl, h2, r2⟩ := trodAll_cons r1
  obtain ⟨rfl, rfl, rfl⟩ := trodAll_nil r2
  obtain rfl : args = #[v0, v1, v2] := by cases args; simp_all
  obtain ⟨rfl, rfl⟩ := trodVars_none hV
  obtain ⟨b, rfl, rfl, rfl, hb⟩ := open_string Tryz.underlying9 (hval 1 9 v1 rfl rfl) h1
  obtain ⟨c, rfl, rfl, rfl, hc⟩ := open_int Tryz.underlying3 (hval 2 3 v2 rfl rfl) h2
  clear hA0
  simp only [List.append_nil] at hW'
  have hbs : b.size ≤ 1048576 := by
    have h := of_decide_eq_true hk
    simp only [Rows.uptoBulkAll, Rows.uptoBulk, List.append_nil, List.cons_append, List.nil_append] at h
    have b5 : b.data.toList.length = b.size := Array.length_toList
    omega
  obtain ⟨ao, len, cap, P, rfl, hlen, hop⟩ := open_pieces h0 (okWide_slice Tryz.underlying25 (hval 0 25 v0 rfl rfl))
  have ho := ord hL
  have hz : 0 < W.heap.size := World.block_lt_of_cell? W _ (ho 0 (by omega))
  unfold maxLen at hlen
  have cw := wf_i64 hc
  refine (given_c W ao len cap P b c ho hz hlen hbs cw.1 cw.2 hop).mono fun e W' ⟨he, hg⟩ => ?_
  subst he
  have hlt := hW'.lt
  have again := trodAll_cons_mk (WideElems.Trod_stays (P := Tryz.prog) (sp' := fun b => decide (b < W.heap.size)) laidOut (by kernel_rfl) (of_decide_eq_true (by kernel_rfl)) h0 (fun x hx => hg.same (hlt x (by simp [hx]))) (fun x hx => by simpa using hlt x (by simp [hx]))) (trodAll_cons_mk (shut_string Tryz.underlying9 hb) (trodAll_cons_mk (shut_int Tryz.underlying3 hc) (trodAll_mk0 (enc := enc) (P := Tryz.prog) (w := W') (base := 0) (spare := fun b => decide (b < W.heap.size)) (held := true))))
  simp only [List.append_nil] at again
  exact ⟨_, rfl, _, _, _, [], p0, [], hW', trodAll_cons_mk (shut_bool Tryz.underlying4 _) trodAll_mk0, again, rfl, hg.frame _, fun h => by cases h⟩

/- The world of the witness, typed out at each use: the settled one, the listed variables laid; the script is nil. -/
theorem laid_met (os : Os) : laidMet Tryz.prog Rows.givenUptoRow.laid ((World.laidAll Tryz.prog os Rows.givenUptoRow.laid).forCall (fun _ _ => 0) ⟨#[], #[.slice none 0 0, .string ⟨#[]⟩, .int .i64 0], []⟩).memory :=
  laidMet_laidAll _ (by kernel_rfl) (by kernel_rfl)
theorem reads (os : Os) {H : Type} (enc : TypeId × Value → H) : ∃ places, DataW.whole enc Tryz.prog ((World.laidAll Tryz.prog os Rows.givenUptoRow.laid).forCall (fun _ _ => 0) ⟨#[], #[.slice none 0 0, .string ⟨#[]⟩, .int .i64 0], []⟩).memory Tryz.f4.params.toList Rows.givenSpec.vars false #[Value.slice none 0 0, .string ⟨#[]⟩, .int .i64 0].toList 8 = some ([.nil, .lit (.string []), .lit (.int .i64 0)], [], places) :=
  ⟨[], by kernel_rfl⟩

set_option maxRecDepth 100000 in
theorem lifted (os : Os) (started : os.Started) (H : Type) (enc : TypeId × Value → H) (F : Stop.Interp) :
    ReturnsInHanded {} Tryz.checked os 4 .any ((Rows.OpenSpec.upto Rows.givenSpec).preRow enc Tryz.prog Tryz.f4 Rows.givenUptoRow.domain false Rows.givenUptoRow.laid) (((Rows.OpenSpec.upto Rows.givenSpec).at F).post enc Tryz.prog Tryz.f4 false true false false) := by
  obtain ⟨places, hx⟩ := reads os enc
  refine returnsInHanded_of_row (C := Tryz.checked) (s := Rows.OpenSpec.upto Rows.givenSpec) PHead.own started (by kernel_rfl) Tryz.func4
    (witness_row_at (enc := enc) (C := Tryz.checked) false (World.laidAll Tryz.prog os Rows.givenUptoRow.laid) #[.slice none 0 0, .string ⟨#[]⟩, .int .i64 0] (World.laidAll_os _ _ _) (by kernel_rfl) (by kernel_rfl) (by kernel_rfl)
      (OpenSpec.preRow_of_cond 8 hx (by kernel_rfl) (fun k hk => by cases hk; kernel_rfl) (by kernel_rfl) (laid_met os))) ?_
  intro W base args ds gs before hval hW _ hk _ hL _ _
  exact contract H enc W base args ds gs before hval hW (hk _ rfl) hL

theorem said : Rows.GivenUptoSaid :=
  OpenClaim.holds_of_cond 4 Tryz.f4 rfl rfl rfl rfl rfl rfl rfl ⟨rfl, rfl, rfl, rfl, rfl⟩ rfl rfl rfl rfl rfl (by kernel_rfl) Tryz.func4 (by kernel_rfl)
    (of_decide_eq_true (by kernel_rfl)) (by unfold Func.isWrapper; first | (rw [if_pos (by decide +kernel)]; kernel_rfl) | (rw [if_neg (by decide +kernel)]; exact ⟨rfl, rfl⟩))
    (fun os started H enc _ F => by rw [OpenClaim.pre_eq_preRow]; exact lifted os started H enc F)

/-- No parameter wants a stand-in; the program's own looks are off. -/
theorem plain (f : FuncId) (fn : Func) (hf : Tryz.pinned.checked.prog.funcNamed "crate/cratekeep.Given" = some f) (hfn : Tryz.pinned.checked.prog.funcs[f]? = some fn) :
    false = Tryz.pinned.checked.prog.looks [] ∧ ∀ (j : Nat) t, fn.params[j]? = some t → Tryz.pinned.checked.prog.wantsStandIn t = false := by
  obtain rfl : f = 4 := Option.some.inj ((show Tryz.prog.funcNamed "crate/cratekeep.Given" = some 4 by kernel_rfl).symm.trans hf) |>.symm
  obtain rfl : fn = Tryz.f4 := (Option.some.inj (Tryz.func4.symm.trans hfn)).symm
  refine ⟨by kernel_rfl, fun j t ht => ?_⟩
  rw [Tryz.params4] at ht
  have hm := Array.mem_of_getElem? ht
  simp only [List.mem_toArray, List.mem_cons, List.not_mem_nil, or_false] at hm
  rcases hm with rfl | rfl | rfl
  · exact (show Tryz.prog.wantsStandIn 25 = false by kernel_rfl)
  · exact (show Tryz.prog.wantsStandIn 9 = false by kernel_rfl)
  · exact (show Tryz.prog.wantsStandIn 3 = false by kernel_rfl)
end PGiven

/-- The statement. -/
theorem givenUpto_card : Rows.GivenUptoCardSaid :=
  Claim7.holds_tied_plain_at .later [] _ _ _ _ PGiven.said (fun _ h => by cases h) (by kernel_rfl) (fun _ h => by cases h) givenUpto_row_tie rfl ⟨rfl, rfl⟩ (by kernel_rfl) rfl PGiven.plain (by kernel_rfl)
end Go.Proofs.YtobfkhapeejkfaaGreatDoor
