/- For every list of raw items and whether the sizes come later: the document's examples hold; an archive of these files and folders, made by the document's words, is listed and unpacked into these, and the folders that lead to them, and nothing else, in order; with one entry, one byte of a name, or one byte less allowed it is refused. Condition: the package's table lengthOrder starts as its text lays it (the card ties that to the program's text). No bound on the arguments' bulk. -/
import Derived.Test.YtnmkmmgaoplfiaaGreatDoorJ03
import Derived.Test.YtnmkmmgaoplfiaaGreatDoorJ49
import Derived.ProofKit
import Derived.OpenShut
import Derived.Deep.DeepHandedRow
import Derived.Deep.Slices
import Derived.WideKeyArgs
import Derived.ChangeSame
import Derived.Lib.LaidTab
set_option linter.unusedSimpArgs false
set_option linter.unusedVariables false
set_option maxRecDepth 100000
set_option maxHeartbeats 20000000
namespace Go.Proofs.YtnmkmmgaoplfiaaGreatDoor
namespace PWholeF
open Go.ChangeShapes Go.WideShapes Go.ChangeAt Go.RowKit
open Go.ChangeMaps (open_string shut_string)
theorem cellsStr : Tryz.prog.cellsOf 9 = 1 := by kernel_rfl
theorem cellsPiece : Tryz.prog.cellsOf 108 = 4 := by kernel_rfl
theorem cellsItem : Tryz.prog.cellsOf 58 = 4 := by kernel_rfl
theorem cellsPcs : Tryz.prog.cellsOf 56 = 1 := by kernel_rfl
theorem laidOut : laidOutB Tryz.prog = true := by kernel_rfl
theorem ord {W : World} (h : laidMetH Tryz.prog Rows.wholeRow.laid W) : Ord W :=
 PHead.ord h (fun _ => MakeChecks.laidMetH_plain _ _ _ (by kernel_rfl)) (by first | exact .head _ | exact .tail _ (.head _) | exact .tail _ (.tail _ (.head _)))
theorem list4 {α : Type} {l : List α} (h : l.length = 4) : ∃ a b c d, l = [a, b, c, d] := by
 match l, h with
 | [a, b, c, d], _ => exact ⟨a, b, c, d, rfl⟩
theorem wf_i64 {n : Int} (h : (Lit.int .i64 n).wf = true) : -9223372036854775808 ≤ n ∧ n ≤ 9223372036854775807 := by
 simp only [Lit.wf, Bool.and_eq_true, decide_eq_true_eq] at h
 have h1 := h.1
 have h2 := h.2
 simp [IntKind.min, IntKind.max, IntKind.bits, IntKind.signed] at h1 h2
 omega
theorem open_pieces {H : Type} {enc : TypeId × Value → H} {W : World} {c0 : Value} {y : DataW H × List MemPlace} {fuel : Nat} (h : DataW.trod enc Tryz.prog W 0 (fun _ => true) true fuel 56 [c0] = some y) :
  ∃ (ao : Option Addr) (len cap : Nat) (P : Nat → Int × Int × Int × ByteArray), c0 = .slice ao len cap ∧ len ≤ maxLen ∧ (∀ i, i < len → ∃ sb so, ao = some ⟨sb, so, none⟩ ∧ PieceAt W sb (so + i * 4) (P i).1 (P i).2.1 (P i).2.2.1 (P i).2.2.2) := by
 rcases Go.Deep.open_slice Tryz.underlying56 h with ⟨hc, hx⟩ | ⟨a, len, cap, m, n, D, Pl, hc, _, hl, hm, hmm, hx, hall⟩
 ·simp only [List.cons.injEq, and_true] at hc
  cases hc
  exact ⟨_, _, _, fun _ => (0, 0, 0, ⟨#[]⟩), rfl, Nat.zero_le _, fun i hi => by omega⟩
 ·simp only [List.cons.injEq, and_true] at hc
  cases hc
  simp only [if_true] at hmm
  subst hmm
  obtain ⟨P, hP⟩ := Go.Deep.choose_lt (n := len) (α := Int × Int × Int × ByteArray) (p := fun i x => ∃ sb so, some a = some ⟨sb, so, none⟩ ∧ PieceAt W sb (so + i * 4) x.1 x.2.1 x.2.2.1 x.2.2.2) (fun i hi => by
   obtain ⟨cs', h1, h2⟩ := hall i (by omega)
   rw [cellsPiece] at h1
   obtain ⟨_, hlen, hcell⟩ := World.cells?_some h1
   obtain ⟨sb, so, spot⟩ := a
   obtain ⟨x0, x1, x2, x3, rfl⟩ := list4 hlen
   have hspot : spot = none := by
    obtain ⟨cs0, k1, _⟩ := hall 0 (by omega)
    rw [cellsPiece] at k1
    obtain ⟨_, klen, kcell⟩ := World.cells?_some k1
    obtain ⟨z0, z1, z2, z3, rfl⟩ := list4 klen
    have ea : ∀ a : Addr, a.add 0 = a := fun a => by unfold Addr.add; simp
    have k0 : W.cell? ⟨sb, so, spot⟩ = some z0 := by
     have := kcell 0 (by omega)
     rw [Nat.zero_mul, ea, ea] at this
     simpa using this
    exact World.cell?_spot k0
   subst hspot
   have hcl : ∀ j, j < 4 → W.cell? ⟨sb, so + i * 4 + j, none⟩ = [x0, x1, x2, x3][j]? := fun j hj => by
    rw [← hcell j hj]
    congr 1
    unfold Addr.add
    split <;> split <;> simp_all <;> omega
   obtain ⟨xs, k, hk, hxy, _, hxl, hf⟩ := DataW.trod_struct Tryz.underlying108 h2
   obtain ⟨y0, y1, y2, y3, rfl⟩ := list4 hxl
   have g0 : DataW.trod enc Tryz.prog W 0 (fun _ => true) true k 3 (([x0, x1, x2, x3].drop 0).take (Tryz.prog.cellsOf 3)) = some y0 := hf 0 _ rfl
   rw [PHead.cellsInt] at g0
   change DataW.trod enc Tryz.prog W 0 (fun _ => true) true k 3 [x0] = some y0 at g0
   have g1 : DataW.trod enc Tryz.prog W 0 (fun _ => true) true k 3 (([x0, x1, x2, x3].drop 1).take (Tryz.prog.cellsOf 3)) = some y1 := hf 1 _ rfl
   rw [PHead.cellsInt] at g1
   change DataW.trod enc Tryz.prog W 0 (fun _ => true) true k 3 [x1] = some y1 at g1
   have g2 : DataW.trod enc Tryz.prog W 0 (fun _ => true) true k 3 (([x0, x1, x2, x3].drop 2).take (Tryz.prog.cellsOf 3)) = some y2 := hf 2 _ rfl
   rw [PHead.cellsInt] at g2
   change DataW.trod enc Tryz.prog W 0 (fun _ => true) true k 3 [x2] = some y2 at g2
   have g3 : DataW.trod enc Tryz.prog W 0 (fun _ => true) true k 9 (([x0, x1, x2, x3].drop 3).take (Tryz.prog.cellsOf 9)) = some y3 := hf 3 _ rfl
   rw [cellsStr] at g3
   change DataW.trod enc Tryz.prog W 0 (fun _ => true) true k 9 [x3] = some y3 at g3
   obtain ⟨K, e0, _, wK⟩ := DataW.trod_int Tryz.underlying3 g0
   obtain ⟨N, e1, _, wN⟩ := DataW.trod_int Tryz.underlying3 g1
   obtain ⟨F, e2, _, wF⟩ := DataW.trod_int Tryz.underlying3 g2
   obtain ⟨S, e3, _, wS⟩ := DataW.trod_string Tryz.underlying9 g3
   simp only [List.cons.injEq, and_true] at e0 e1 e2 e3
   subst e0 e1 e2 e3
   have c0 := hcl 0 (by omega)
   have lt := World.block_lt_of_cell? W _ c0
   unfold maxLen at wS
   exact ⟨(K, N, F, S), sb, so, rfl, ⟨c0, hcl 1 (by omega), hcl 2 (by omega), hcl 3 (by omega), lt, wf_i64 wK, wf_i64 wN, wf_i64 wF, wS⟩⟩)
  exact ⟨_, _, _, P, rfl, by omega, hP⟩
theorem open_items {H : Type} {enc : TypeId × Value → H} {W : World} {c0 : Value} {d : DataW H} {p : List MemPlace} (h : DataW.Trod enc Tryz.prog W 0 (fun _ => true) true 22 c0 d p) (hv : ∃ a l c, c0 = .slice a l c) :
  ∃ (ao : Option Addr) (len cap : Nat) (R : Nat → Raw), c0 = .slice ao len cap ∧ len ≤ maxLen ∧ (∀ i, i < len → ∃ sb so, ao = some ⟨sb, so, none⟩ ∧ ItemAt W sb (so + i * 4) (R i)) := by
 obtain ⟨a0, l0, k0, rfl⟩ := hv
 obtain ⟨n, h⟩ := h
 rcases Go.Deep.open_slice Tryz.underlying22 h with ⟨hc, hx⟩ | ⟨a, len, cap, m, n, D, Pl, hc, _, hl, hm, hmm, hx, hall⟩
 ·simp only [Value.cells, List.cons.injEq, and_true] at hc
  cases hc
  exact ⟨_, _, _, fun _ => ⟨0, 0, ⟨#[]⟩, [], []⟩, rfl, Nat.zero_le _, fun i hi => by omega⟩
 ·simp only [Value.cells, List.cons.injEq, and_true] at hc
  cases hc
  simp only [if_true] at hmm
  subst hmm
  haveI hinh : Inhabited Raw := ⟨⟨0, 0, ⟨#[]⟩, [], []⟩⟩
  obtain ⟨R, hR⟩ := Go.Deep.choose_lt (n := l0) (α := Raw) (p := fun i x => ∃ sb so, some a = some ⟨sb, so, none⟩ ∧ ItemAt W sb (so + i * 4) x) (fun i hi => by
   obtain ⟨cs', h1, h2⟩ := hall i (by omega)
   rw [cellsItem] at h1
   obtain ⟨_, hlen, hcell⟩ := World.cells?_some h1
   obtain ⟨sb, so, spot⟩ := a
   obtain ⟨x0, x1, x2, x3, rfl⟩ := list4 hlen
   have hspot : spot = none := by
    obtain ⟨cs0, k1, _⟩ := hall 0 (by omega)
    rw [cellsItem] at k1
    obtain ⟨_, klen, kcell⟩ := World.cells?_some k1
    obtain ⟨z0, z1, z2, z3, rfl⟩ := list4 klen
    have ea : ∀ a : Addr, a.add 0 = a := fun a => by unfold Addr.add; simp
    have k0 : W.cell? ⟨sb, so, spot⟩ = some z0 := by
     have := kcell 0 (by omega)
     rw [Nat.zero_mul, ea, ea] at this
     simpa using this
    exact World.cell?_spot k0
   subst hspot
   have hcl : ∀ j, j < 4 → W.cell? ⟨sb, so + i * 4 + j, none⟩ = [x0, x1, x2, x3][j]? := fun j hj => by
    rw [← hcell j hj]
    congr 1
    unfold Addr.add
    split <;> split <;> simp_all <;> omega
   obtain ⟨xs, k, hk, hxy, _, hxl, hf⟩ := DataW.trod_struct Tryz.underlying58 h2
   obtain ⟨y0, y1, y2, y3, rfl⟩ := list4 hxl
   have g0 : DataW.trod enc Tryz.prog W 0 (fun _ => true) true k 3 (([x0, x1, x2, x3].drop 0).take (Tryz.prog.cellsOf 3)) = some y0 := hf 0 _ rfl
   rw [PHead.cellsInt] at g0
   change DataW.trod enc Tryz.prog W 0 (fun _ => true) true k 3 [x0] = some y0 at g0
   have g1 : DataW.trod enc Tryz.prog W 0 (fun _ => true) true k 3 (([x0, x1, x2, x3].drop 1).take (Tryz.prog.cellsOf 3)) = some y1 := hf 1 _ rfl
   rw [PHead.cellsInt] at g1
   change DataW.trod enc Tryz.prog W 0 (fun _ => true) true k 3 [x1] = some y1 at g1
   have g2 : DataW.trod enc Tryz.prog W 0 (fun _ => true) true k 9 (([x0, x1, x2, x3].drop 2).take (Tryz.prog.cellsOf 9)) = some y2 := hf 2 _ rfl
   rw [cellsStr] at g2
   change DataW.trod enc Tryz.prog W 0 (fun _ => true) true k 9 [x2] = some y2 at g2
   have g3 : DataW.trod enc Tryz.prog W 0 (fun _ => true) true k 56 (([x0, x1, x2, x3].drop 3).take (Tryz.prog.cellsOf 56)) = some y3 := hf 3 _ rfl
   rw [cellsPcs] at g3
   change DataW.trod enc Tryz.prog W 0 (fun _ => true) true k 56 [x3] = some y3 at g3
   obtain ⟨K, e0, _, wK⟩ := DataW.trod_int Tryz.underlying3 g0
   obtain ⟨N, e1, _, wN⟩ := DataW.trod_int Tryz.underlying3 g1
   obtain ⟨S, e2, _, wS⟩ := DataW.trod_string Tryz.underlying9 g2
   obtain ⟨pa, pl, pc, P, e3, hpl, hpo⟩ := open_pieces g3
   simp only [List.cons.injEq, and_true] at e0 e1 e2
   subst e0 e1 e2 e3
   have c0 := hcl 0 (by omega)
   have lt := World.block_lt_of_cell? W _ c0
   unfold maxLen at wS hpl
   exact ⟨⟨K, N, S, bytesOf (packedOf (piecesOf P (min pl 12))).1, (packedOf (piecesOf P (min pl 12))).2⟩, sb, so, rfl, ⟨c0, hcl 1 (by omega), hcl 2 (by omega), ⟨pa, pl, pc, P, hcl 3 (by omega), hpl, hpo, rfl, rfl⟩, lt, wf_i64 wK, wf_i64 wN, wS⟩⟩)
  exact ⟨_, _, _, R, rfl, by omega, hR⟩
theorem contract (H : Type) (enc : TypeId × Value → H) (W : World) (base : Nat) (args : Array Value) (ds gs : List (DataW H)) (before : List MemPlace)
  (hval : ∀ (j : Nat) t v, Tryz.f3.params[j]? = some t → args[j]? = some v → Value.okWide Tryz.prog W .any base t v)
  (hW : DataW.Whole enc Tryz.prog Tryz.f3.params.toList Rows.wholeSpec.vars false W args.toList ds gs before) (hL : laidMetH Tryz.prog Rows.wholeRow.laid W) :
  Calls Tryz.prog 3 args W fun e W' => ∃ v, e = .returned v ∧ Rows.wholeSpec.post enc Tryz.prog Tryz.f3 false true false false W args v W' := by
 have hW' := hW
 obtain ⟨p, q, hA0, hV, rfl, hfz, hnd⟩ := hW
 have hA : DataW.TrodAll enc Tryz.prog W 0 (fun _ => true) true Tryz.f3.params.toList args.toList ds p := hA0
 rw [Tryz.params3] at hA hval
 obtain ⟨v0, vs0, d0, ds0, p0, q0, hargs, rfl, rfl, h0, r0⟩ := trodAll_cons hA
 obtain ⟨v1, vs1, d1, ds1, p1, q1, rfl, rfl, rfl, h1, r1⟩ := trodAll_cons r0
 obtain ⟨rfl, rfl, rfl⟩ := trodAll_nil r1
 obtain rfl : args = #[v0, v1] := by cases args; simp_all
 obtain ⟨rfl, rfl⟩ := trodVars_none hV
 obtain ⟨b, rfl, rfl, rfl⟩ := open_bool Tryz.underlying4 (hval 1 4 v1 rfl rfl) h1
 clear hA0
 simp only [List.append_nil] at hW'
 obtain ⟨ao, len, cap, R, rfl, hlen, hop⟩ := open_items h0 (okWide_slice Tryz.underlying22 (hval 0 22 v0 rfl rfl))
 have ho := ord hL
 have hz : 0 < W.heap.size := World.block_lt_of_cell? W _ (ho 0 (by omega))
 unfold maxLen at hlen
 refine (whole_c W ao len cap b R hlen hop ho hz).mono fun e W' ⟨he, hg⟩ => ?_
 subst he
 have hlt := hW'.lt
 have again := trodAll_cons_mk (WideElems.Trod_stays (P := Tryz.prog) (sp' := fun b => decide (b < W.heap.size)) laidOut (by kernel_rfl) (of_decide_eq_true (by kernel_rfl)) h0 (fun x hx => hg.same (hlt x (by simp [hx]))) (fun x hx => by simpa using hlt x (by simp [hx]))) (trodAll_cons_mk (shut_bool Tryz.underlying4 b) (trodAll_mk0 (enc := enc) (P := Tryz.prog) (w := W') (base := 0) (spare := fun b => decide (b < W.heap.size)) (held := true)))
 simp only [List.append_nil] at again
 exact ⟨_, rfl, _, _, _, [], p0, [], hW', trodAll_cons_mk (shut_bool Tryz.underlying4 _) trodAll_mk0, again, rfl, hg.frame _, fun h => by cases h⟩
/- The world of the witness, typed out at each use: the settled one, the listed variables laid; the script is nil. -/
theorem laid_met (os : Os) : laidMet Tryz.prog Rows.wholeRow.laid ((World.laidAll Tryz.prog os Rows.wholeRow.laid).forCall (fun _ _ => 0) ⟨#[], #[.slice none 0 0, .bool false], []⟩).memory :=
 laidMet_laidAll _ (by kernel_rfl) (by kernel_rfl)
theorem reads (os : Os) {H : Type} (enc : TypeId × Value → H) : ∃ places, DataW.whole enc Tryz.prog ((World.laidAll Tryz.prog os Rows.wholeRow.laid).forCall (fun _ _ => 0) ⟨#[], #[.slice none 0 0, .bool false], []⟩).memory Tryz.f3.params.toList Rows.wholeSpec.vars false #[Value.slice none 0 0, .bool false].toList 8 = some ([.nil, .lit (.bool false)], [], places) :=
 ⟨[], by kernel_rfl⟩
theorem lifted (os : Os) (started : os.Started) (H : Type) (enc : TypeId × Value → H) (F : Stop.Interp) :
  ReturnsInHanded {} Tryz.checked os 3 .any ((OpenSpec.ofChange Rows.wholeSpec).preRow enc Tryz.prog Tryz.f3 Rows.wholeRow.domain false Rows.wholeRow.laid) (((OpenSpec.ofChange Rows.wholeSpec).at F).post enc Tryz.prog Tryz.f3 false true false false) := by
 obtain ⟨places, hx⟩ := reads os enc
 refine returnsInHanded_of_row (C := Tryz.checked) (s := OpenSpec.ofChange Rows.wholeSpec) PHead.own started (by kernel_rfl) Tryz.func3
  (witness_row_at (enc := enc) (C := Tryz.checked) false (World.laidAll Tryz.prog os Rows.wholeRow.laid) #[.slice none 0 0, .bool false] (World.laidAll_os _ _ _) (by kernel_rfl) (by kernel_rfl) (by kernel_rfl)
   (OpenSpec.preRow_of_cond 8 hx (by kernel_rfl) (fun k hk => by cases hk) (by kernel_rfl) (laid_met os))) ?_
 intro W base args ds gs before hval hW _ _ _ hL _ _
 exact contract H enc W base args ds gs before hval hW hL
theorem said : Rows.WholeSaid :=
 OpenClaim.holds_of_cond 3 Tryz.f3 rfl rfl rfl rfl rfl rfl rfl ⟨rfl, rfl, rfl, rfl, rfl⟩ rfl rfl rfl rfl rfl (by kernel_rfl) Tryz.func3 (by kernel_rfl)
  (of_decide_eq_true (by kernel_rfl)) (by unfold Func.isWrapper; first | (rw [if_pos (by decide +kernel)]; kernel_rfl) | (rw [if_neg (by decide +kernel)]; exact ⟨rfl, rfl⟩))
  (fun os started H enc _ F => by rw [OpenClaim.pre_eq_preRow]; exact lifted os started H enc F)
theorem plain (f : FuncId) (fn : Func) (hf : Tryz.pinned.checked.prog.funcNamed "crate/cratekeep.Whole" = some f) (hfn : Tryz.pinned.checked.prog.funcs[f]? = some fn) :
  false = Tryz.pinned.checked.prog.looks [] ∧ ∀ (j : Nat) t, fn.params[j]? = some t → Tryz.pinned.checked.prog.wantsStandIn t = false := by
 obtain rfl : f = 3 := Option.some.inj ((show Tryz.prog.funcNamed "crate/cratekeep.Whole" = some 3 by kernel_rfl).symm.trans hf) |>.symm
 obtain rfl : fn = Tryz.f3 := (Option.some.inj (Tryz.func3.symm.trans hfn)).symm
 refine ⟨by kernel_rfl, fun j t ht => ?_⟩
 rw [Tryz.params3] at ht
 have hm := Array.mem_of_getElem? ht
 simp only [List.mem_toArray, List.mem_cons, List.not_mem_nil, or_false] at hm
 rcases hm with rfl | rfl
 ·exact (show Tryz.prog.wantsStandIn 22 = false by kernel_rfl)
 ·exact (show Tryz.prog.wantsStandIn 4 = false by kernel_rfl)
end PWholeF
theorem whole_card : Rows.WholeCardSaid :=
 Claim7.holds_tied_plain_at .later [] _ _ _ _ PWholeF.said (fun _ h => by cases h) (by kernel_rfl) (fun _ h => by cases h) whole_row_tie rfl ⟨rfl, rfl⟩ (by kernel_rfl) rfl PWholeF.plain (by kernel_rfl)
end Go.Proofs.YtnmkmmgaoplfiaaGreatDoor
