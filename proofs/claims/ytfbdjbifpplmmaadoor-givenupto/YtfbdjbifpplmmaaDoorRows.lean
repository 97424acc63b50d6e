/-
  NARROWER THAN 'FOR EVERY INPUT', by the rows' own cells (each row's printed sentence says how): Bytes: laid · Given: laid · Summed: laid.
  DERIVED. THE GIVEN ROWS OF THIS SEAT. 3 by the template 'for every input the law returns true; each argument reads behind the call as it read before'; 0 by the template 'total and deterministic' (their statements: YtfbdjbifpplmmaaDoorTotals.lean).
  GIVEN WITH THE SEED: the statements are not yours to turn. If you find one false, say at which input.
  Laid BY PROGRAM, IN A SANDBOX (cutbox-rows.mjs): the forced cells as the released guide's own fill.sh prints them over the translation 3fde6390d92d9675… (all of the seat's roots in one cut). By AI agents, Wed Nov 11 2026. No macro, syntax, notation, axiom, sorry.
-/
import Derived.Test.YtfbdjbifpplmmaaDoorChecked
import GoSem.Claim
import GoSem.ClaimJoined
import GoSem.ClaimMapViews
import Derived.JoinedTies
import Derived.KernelRfl
namespace Go.Proofs.YtfbdjbifpplmmaaDoor
/- THE CELL 'sum', in the pinned program and in every row, IS THE sha256 OF THE DUMP (.gsa) THAT YtfbdjbifpplmmaaDoorProg.lean LOADS. Nothing in Lean hashes anything: it is a label: what it is worth is what the hold of that sum in a sandbox is worth. -/
noncomputable def Tryd.pinned : Pinned := { name := "ytfbdjbifpplmmaadoor", sum := "3fde6390d92d967545a262f6bccf9af230310d175aff09046c8934e5e66da2f9", checked := Tryd.checked }
namespace Rows
def none {H : Type} : Left H := { results := [], args := [] }

/- WHAT THE LISTED PACKAGE-LEVEL VARIABLES READ AS WHEN THE CALL BEGINS. Each datum BY PROGRAM (the guide's laid-datum.mjs) off the statement by which the dump's own 'gosem.cut.vars' lays the variable. In a bare row this is a premise. The card (YtfbdjbifpplmmaaDoorCards.lean) ties it to the program's text. -/
def laid_crate_crate_lengthOrder {H : Type} : DataW H := .agg [.lit (.int .i64 16), .lit (.int .i64 17), .lit (.int .i64 18), .lit (.int .i64 0), .lit (.int .i64 8), .lit (.int .i64 7), .lit (.int .i64 9), .lit (.int .i64 6), .lit (.int .i64 10), .lit (.int .i64 5), .lit (.int .i64 11), .lit (.int .i64 4), .lit (.int .i64 12), .lit (.int .i64 3), .lit (.int .i64 13), .lit (.int .i64 2), .lit (.int .i64 14), .lit (.int .i64 1), .lit (.int .i64 15)]

/-- 'cratelaw.Bytes': WHATEVER THE INPUT: true; the input reads as it did. -/
def bytesSpec : ChangeSpec := { name := "bytes", fn := fun _ => fun
  | [d] => { results := [.lit (.bool true)], args := [d] }
  | _ => none }
def bytesRow : OpenClaim := { program := "ytfbdjbifpplmmaadoor", sum := "3fde6390d92d967545a262f6bccf9af230310d175aff09046c8934e5e66da2f9", func := "crate/cratelaw.Bytes", spec := "bytes", named := ["crate/crate.lengthOrder"], apart := false, laid := [("crate/crate.lengthOrder", laid_crate_crate_lengthOrder)] }
def BytesSaid : Prop := bytesRow.holds Tryd.pinned (OpenSpec.ofChange bytesSpec)

/-- ITS FALSE NEIGHBOUR: 'it returns false'. Refute it at one input. -/
def bytesWrong : ChangeSpec := { name := "bytes", fn := fun _ => fun
  | [d] => { results := [.lit (.bool false)], args := [d] }
  | _ => none }
def BytesWrongFalsely : Prop := bytesRow.holds Tryd.pinned (OpenSpec.ofChange bytesWrong)

/-- 'cratekeep.Given': WHATEVER THE INPUT: true; the input reads as it did. -/
def givenSpec : ChangeSpec := { name := "given", fn := fun _ => fun
  | [d1, d2, d3] => { results := [.lit (.bool true)], args := [d1, d2, d3] }
  | _ => none }
def givenRow : OpenClaim := { program := "ytfbdjbifpplmmaadoor", sum := "3fde6390d92d967545a262f6bccf9af230310d175aff09046c8934e5e66da2f9", func := "crate/cratekeep.Given", spec := "given", named := ["crate/crate.lengthOrder"], apart := false, laid := [("crate/crate.lengthOrder", laid_crate_crate_lengthOrder)] }
def GivenSaid : Prop := givenRow.holds Tryd.pinned (OpenSpec.ofChange givenSpec)

/-- ITS FALSE NEIGHBOUR: 'it returns false'. Refute it at one input. -/
def givenWrong : ChangeSpec := { name := "given", fn := fun _ => fun
  | [d1, d2, d3] => { results := [.lit (.bool false)], args := [d1, d2, d3] }
  | _ => none }
def GivenWrongFalsely : Prop := givenRow.holds Tryd.pinned (OpenSpec.ofChange givenWrong)

/-- 'cratekeep.Summed': WHATEVER THE INPUT: true; the input reads as it did. -/
def summedSpec : ChangeSpec := { name := "summed", fn := fun _ => fun
  | [d1, d2, d3] => { results := [.lit (.bool true)], args := [d1, d2, d3] }
  | _ => none }
def summedRow : OpenClaim := { program := "ytfbdjbifpplmmaadoor", sum := "3fde6390d92d967545a262f6bccf9af230310d175aff09046c8934e5e66da2f9", func := "crate/cratekeep.Summed", spec := "summed", named := ["crate/crate.lengthOrder"], apart := false, laid := [("crate/crate.lengthOrder", laid_crate_crate_lengthOrder)] }
def SummedSaid : Prop := summedRow.holds Tryd.pinned (OpenSpec.ofChange summedSpec)

/-- ITS FALSE NEIGHBOUR: 'it returns false'. Refute it at one input. -/
def summedWrong : ChangeSpec := { name := "summed", fn := fun _ => fun
  | [d1, d2, d3] => { results := [.lit (.bool false)], args := [d1, d2, d3] }
  | _ => none }
def SummedWrongFalsely : Prop := summedRow.holds Tryd.pinned (OpenSpec.ofChange summedWrong)

/- THE SECOND FORM. 'bulk': how many values and letters a reading holds, each counted each time it is reached (what is shared counts as often as it is met; a slice's spare places count too). A statement '..UptoSaid' is the law's where the arguments, and the package variables that the reading takes, are together of bulk at most 1048576: NARROWER than '..Said'. Prove '..Said' where nothing that the law and all that it calls make is longer than what came in: it says more and counts as full. Else prove '..UptoSaid'. A law counts once. -/
mutual
def uptoBulk {H : Type} : DataW H → Nat
  | .lit (.string bytes) => bytes.length + 1
  | .lit _ => 1
  | .nil => 1
  | .ptr d => uptoBulk d + 1
  | .slice elems spare => uptoBulkAll elems + uptoBulkAll spare + 1
  | .agg parts => uptoBulkAll parts + 1
  | .iface _ d => uptoBulk d + 1
  | .map entries => uptoBulkEntries entries + 1
  | .held _ => 1
def uptoBulkAll {H : Type} : List (DataW H) → Nat
  | [] => 0
  | d :: r => uptoBulk d + uptoBulkAll r
def uptoBulkEntries {H : Type} : List (Lit × DataW H) → Nat
  | [] => 0
  | x :: r => uptoBulkEntry x + uptoBulkEntries r
def uptoBulkEntry {H : Type} : Lit × DataW H → Nat
  | (.string bytes, d) => bytes.length + uptoBulk d + 1
  | (_, d) => uptoBulk d + 1
 end
def uptoSmall : (H : Type) → List (DataW H) → Bool := fun _ ds => decide (uptoBulkAll ds ≤ 1048576)
def OpenSpec.upto (s : _root_.Go.ChangeSpec) : _root_.Go.OpenSpec := { _root_.Go.OpenSpec.ofChange s with cond := some uptoSmall }

/-- 'cratelaw.Bytes', WHERE WHAT IT READS IS OF BULK AT MOST 1048576: true; the input reads as it did. -/
def bytesUptoRow : OpenClaim := { program := "ytfbdjbifpplmmaadoor", sum := "3fde6390d92d967545a262f6bccf9af230310d175aff09046c8934e5e66da2f9", func := "crate/cratelaw.Bytes", spec := "bytes", named := ["crate/crate.lengthOrder"], apart := false, laid := [("crate/crate.lengthOrder", laid_crate_crate_lengthOrder)], narrowed := true }
def BytesUptoSaid : Prop := bytesUptoRow.holds Tryd.pinned (OpenSpec.upto bytesSpec)

/-- 'cratekeep.Given', WHERE WHAT IT READS IS OF BULK AT MOST 1048576: true; the input reads as it did. -/
def givenUptoRow : OpenClaim := { program := "ytfbdjbifpplmmaadoor", sum := "3fde6390d92d967545a262f6bccf9af230310d175aff09046c8934e5e66da2f9", func := "crate/cratekeep.Given", spec := "given", named := ["crate/crate.lengthOrder"], apart := false, laid := [("crate/crate.lengthOrder", laid_crate_crate_lengthOrder)], narrowed := true }
def GivenUptoSaid : Prop := givenUptoRow.holds Tryd.pinned (OpenSpec.upto givenSpec)

/-- 'cratekeep.Summed', WHERE WHAT IT READS IS OF BULK AT MOST 1048576: true; the input reads as it did. -/
def summedUptoRow : OpenClaim := { program := "ytfbdjbifpplmmaadoor", sum := "3fde6390d92d967545a262f6bccf9af230310d175aff09046c8934e5e66da2f9", func := "crate/cratekeep.Summed", spec := "summed", named := ["crate/crate.lengthOrder"], apart := false, laid := [("crate/crate.lengthOrder", laid_crate_crate_lengthOrder)], narrowed := true }
def SummedUptoSaid : Prop := summedUptoRow.holds Tryd.pinned (OpenSpec.upto summedSpec)

end Rows
end Go.Proofs.YtfbdjbifpplmmaaDoor
