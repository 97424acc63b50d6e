/-
  NARROWER THAN 'FOR EVERY INPUT', by the rows' own cells (each row's printed sentence says how): Bytes: laid · Given: laid · Summed: laid · Archives: laid · Whole: laid · Guarded: laid · Wronged: laid · Stores: laid · Shown: laid · All: laid.
  DERIVED. THE GIVEN ROWS OF THIS SEAT. 10 by the template 'for every input the law returns true; each argument reads behind the call as it read before'; 0 by the template 'total and deterministic' (their statements: YtobfkhapeejkfaaGreatDoorTotals.lean).
  GIVEN WITH THE SEED: the statements are not yours to turn. If you find one false, say at which input.
  Laid BY PROGRAM, IN A SANDBOX (cutbox-rows.mjs): the forced cells as the released guide's own fill.sh prints them over the translation 725e4c6345087ef4… (all of the seat's roots in one cut). By AI agents, Wed Nov 11 2026. No macro, syntax, notation, axiom, sorry.
-/
import Derived.Test.YtobfkhapeejkfaaGreatDoorChecked
import GoSem.PinnedTables
import GoSem.Claim
import GoSem.ClaimJoined
import GoSem.ClaimMapViews
import Derived.JoinedTies
import Derived.KernelRfl
namespace Go.Proofs.YtobfkhapeejkfaaGreatDoor
/- THE CELL 'sum', in the pinned program and in every row, IS THE sha256 OF THE DUMP (.gsa) THAT YtobfkhapeejkfaaGreatDoorProg.lean LOADS. Nothing in Lean hashes anything: it is a label: what it is worth is what the hold of that sum in a sandbox is worth. -/
noncomputable def Tryz.pinned : Pinned := { name := "ytobfkhapeejkfaagreatdoor", sum := "725e4c6345087ef4e1b6180fc22a90d98a064e3d408d9f260dd4ec70e4dbbeb8", checked := Tryz.checked }
namespace Rows
def none {H : Type} : Left H := { results := [], args := [] }

/- WHAT THE LISTED PACKAGE-LEVEL VARIABLES READ AS WHEN THE CALL BEGINS. Each datum BY PROGRAM (the guide's laid-datum.mjs) off the statement by which the dump's own 'gosem.cut.vars' lays the variable. In a bare row this is a premise. The card (YtobfkhapeejkfaaGreatDoorCards.lean) ties it to the program's text. -/
def laid_unicode_utf8_acceptRanges {H : Type} : DataW H := .agg [.agg [.lit (.int .u8 128), .lit (.int .u8 191)], .agg [.lit (.int .u8 160), .lit (.int .u8 191)], .agg [.lit (.int .u8 128), .lit (.int .u8 159)], .agg [.lit (.int .u8 144), .lit (.int .u8 191)], .agg [.lit (.int .u8 128), .lit (.int .u8 143)], .agg [.lit (.int .u8 0), .lit (.int .u8 0)], .agg [.lit (.int .u8 0), .lit (.int .u8 0)], .agg [.lit (.int .u8 0), .lit (.int .u8 0)], .agg [.lit (.int .u8 0), .lit (.int .u8 0)], .agg [.lit (.int .u8 0), .lit (.int .u8 0)], .agg [.lit (.int .u8 0), .lit (.int .u8 0)], .agg [.lit (.int .u8 0), .lit (.int .u8 0)], .agg [.lit (.int .u8 0), .lit (.int .u8 0)], .agg [.lit (.int .u8 0), .lit (.int .u8 0)], .agg [.lit (.int .u8 0), .lit (.int .u8 0)], .agg [.lit (.int .u8 0), .lit (.int .u8 0)]]
def laid_crate_crate_lengthOrder {H : Type} : DataW H := .agg [.lit (.int .i64 16), .lit (.int .i64 17), .lit (.int .i64 18), .lit (.int .i64 0), .lit (.int .i64 8), .lit (.int .i64 7), .lit (.int .i64 9), .lit (.int .i64 6), .lit (.int .i64 10), .lit (.int .i64 5), .lit (.int .i64 11), .lit (.int .i64 4), .lit (.int .i64 12), .lit (.int .i64 3), .lit (.int .i64 13), .lit (.int .i64 2), .lit (.int .i64 14), .lit (.int .i64 1), .lit (.int .i64 15)]
/-- One of Go's own tables, pinned by name: the form's constant. -/
def laid_unicode_utf8_first : DataW Unit := Go.Pinned.utf8First

/-- 'cratelaw.Bytes': WHATEVER THE INPUT: true; the input reads as it did. -/
def bytesSpec : ChangeSpec := { name := "bytes", fn := fun _ => fun
  | [d] => { results := [.lit (.bool true)], args := [d] }
  | _ => none }
def bytesRow : OpenClaim := { program := "ytobfkhapeejkfaagreatdoor", sum := "725e4c6345087ef4e1b6180fc22a90d98a064e3d408d9f260dd4ec70e4dbbeb8", func := "crate/cratelaw.Bytes", spec := "bytes", inPlace := ["internal/bytealg.IndexByteString", "internal/bytealg.IndexString", "(*internal/sync.Mutex).Lock", "internal/race.Disable", "sync/atomic.CompareAndSwapInt32", "internal/race.Enable", "internal/race.Acquire", "(*internal/sync.Mutex).lockSlow", "internal/sync.runtime_canSpin", "internal/sync.runtime_doSpin", "internal/sync.throw", "internal/sync.runtime_nanotime", "internal/sync.runtime_SemacquireMutex", "sync/atomic.AddInt32", "(*internal/sync.Mutex).Unlock", "internal/race.ReleaseMerge", "(*internal/sync.Mutex).unlockSlow", "internal/sync.fatal", "internal/sync.runtime_Semrelease"], unfollowed := true, recurses := true, named := ["crate/crate.lengthOrder", "unicode/utf8.first", "unicode/utf8.acceptRanges", "internal/bytealg.MaxLen"], apart := false, laid := [("unicode/utf8.acceptRanges", laid_unicode_utf8_acceptRanges), ("crate/crate.lengthOrder", laid_crate_crate_lengthOrder), ("unicode/utf8.first", laid_unicode_utf8_first)] }
def BytesSaid : Prop := bytesRow.holds Tryz.pinned (OpenSpec.ofChange bytesSpec)

/-- ITS FALSE NEIGHBOUR: 'it returns false'. Refute it at one input. -/
def bytesWrong : ChangeSpec := { name := "bytes", fn := fun _ => fun
  | [d] => { results := [.lit (.bool false)], args := [d] }
  | _ => none }
def BytesWrongFalsely : Prop := bytesRow.holds Tryz.pinned (OpenSpec.ofChange bytesWrong)

/-- 'cratekeep.Given': WHATEVER THE INPUT: true; the input reads as it did. -/
def givenSpec : ChangeSpec := { name := "given", fn := fun _ => fun
  | [d1, d2, d3] => { results := [.lit (.bool true)], args := [d1, d2, d3] }
  | _ => none }
def givenRow : OpenClaim := { program := "ytobfkhapeejkfaagreatdoor", sum := "725e4c6345087ef4e1b6180fc22a90d98a064e3d408d9f260dd4ec70e4dbbeb8", func := "crate/cratekeep.Given", spec := "given", inPlace := ["internal/bytealg.IndexByteString", "internal/bytealg.IndexString"], unfollowed := true, recurses := true, named := ["crate/crate.lengthOrder", "unicode/utf8.first", "unicode/utf8.acceptRanges", "internal/bytealg.MaxLen"], apart := false, laid := [("unicode/utf8.acceptRanges", laid_unicode_utf8_acceptRanges), ("crate/crate.lengthOrder", laid_crate_crate_lengthOrder), ("unicode/utf8.first", laid_unicode_utf8_first)] }
def GivenSaid : Prop := givenRow.holds Tryz.pinned (OpenSpec.ofChange givenSpec)

/-- ITS FALSE NEIGHBOUR: 'it returns false'. Refute it at one input. -/
def givenWrong : ChangeSpec := { name := "given", fn := fun _ => fun
  | [d1, d2, d3] => { results := [.lit (.bool false)], args := [d1, d2, d3] }
  | _ => none }
def GivenWrongFalsely : Prop := givenRow.holds Tryz.pinned (OpenSpec.ofChange givenWrong)

/-- 'cratekeep.Summed': WHATEVER THE INPUT: true; the input reads as it did. -/
def summedSpec : ChangeSpec := { name := "summed", fn := fun _ => fun
  | [d1, d2, d3] => { results := [.lit (.bool true)], args := [d1, d2, d3] }
  | _ => none }
def summedRow : OpenClaim := { program := "ytobfkhapeejkfaagreatdoor", sum := "725e4c6345087ef4e1b6180fc22a90d98a064e3d408d9f260dd4ec70e4dbbeb8", func := "crate/cratekeep.Summed", spec := "summed", inPlace := ["internal/bytealg.IndexByteString", "internal/bytealg.IndexString"], unfollowed := true, recurses := true, named := ["crate/crate.lengthOrder", "unicode/utf8.first", "unicode/utf8.acceptRanges", "internal/bytealg.MaxLen"], apart := false, laid := [("unicode/utf8.acceptRanges", laid_unicode_utf8_acceptRanges), ("crate/crate.lengthOrder", laid_crate_crate_lengthOrder), ("unicode/utf8.first", laid_unicode_utf8_first)] }
def SummedSaid : Prop := summedRow.holds Tryz.pinned (OpenSpec.ofChange summedSpec)

/-- ITS FALSE NEIGHBOUR: 'it returns false'. Refute it at one input. -/
def summedWrong : ChangeSpec := { name := "summed", fn := fun _ => fun
  | [d1, d2, d3] => { results := [.lit (.bool false)], args := [d1, d2, d3] }
  | _ => none }
def SummedWrongFalsely : Prop := summedRow.holds Tryz.pinned (OpenSpec.ofChange summedWrong)

/-- 'cratelaw.Archives': WHATEVER THE INPUT: true; the input reads as it did. -/
def archivesSpec : ChangeSpec := { name := "archives", fn := fun _ => fun
  | [d] => { results := [.lit (.bool true)], args := [d] }
  | _ => none }
def archivesRow : OpenClaim := { program := "ytobfkhapeejkfaagreatdoor", sum := "725e4c6345087ef4e1b6180fc22a90d98a064e3d408d9f260dd4ec70e4dbbeb8", func := "crate/cratelaw.Archives", spec := "archives", inPlace := ["internal/bytealg.IndexByteString", "internal/bytealg.IndexString", "(*internal/sync.Mutex).Lock", "internal/race.Disable", "sync/atomic.CompareAndSwapInt32", "internal/race.Enable", "internal/race.Acquire", "(*internal/sync.Mutex).lockSlow", "internal/sync.runtime_canSpin", "internal/sync.runtime_doSpin", "internal/sync.throw", "internal/sync.runtime_nanotime", "internal/sync.runtime_SemacquireMutex", "sync/atomic.AddInt32", "(*internal/sync.Mutex).Unlock", "internal/race.ReleaseMerge", "(*internal/sync.Mutex).unlockSlow", "internal/sync.fatal", "internal/sync.runtime_Semrelease"], unfollowed := true, recurses := true, named := ["crate/crate.lengthOrder", "unicode/utf8.first", "unicode/utf8.acceptRanges", "internal/bytealg.MaxLen"], apart := false, laid := [("unicode/utf8.acceptRanges", laid_unicode_utf8_acceptRanges), ("crate/crate.lengthOrder", laid_crate_crate_lengthOrder), ("unicode/utf8.first", laid_unicode_utf8_first)] }
def ArchivesSaid : Prop := archivesRow.holds Tryz.pinned (OpenSpec.ofChange archivesSpec)

/-- ITS FALSE NEIGHBOUR: 'it returns false'. Refute it at one input. -/
def archivesWrong : ChangeSpec := { name := "archives", fn := fun _ => fun
  | [d] => { results := [.lit (.bool false)], args := [d] }
  | _ => none }
def ArchivesWrongFalsely : Prop := archivesRow.holds Tryz.pinned (OpenSpec.ofChange archivesWrong)

/-- 'cratekeep.Whole': WHATEVER THE INPUT: true; the input reads as it did. -/
def wholeSpec : ChangeSpec := { name := "whole", fn := fun _ => fun
  | [d1, d2] => { results := [.lit (.bool true)], args := [d1, d2] }
  | _ => none }
def wholeRow : OpenClaim := { program := "ytobfkhapeejkfaagreatdoor", sum := "725e4c6345087ef4e1b6180fc22a90d98a064e3d408d9f260dd4ec70e4dbbeb8", func := "crate/cratekeep.Whole", spec := "whole", inPlace := ["internal/bytealg.IndexByteString", "internal/bytealg.IndexString"], unfollowed := true, recurses := true, named := ["crate/crate.lengthOrder", "unicode/utf8.first", "unicode/utf8.acceptRanges", "internal/bytealg.MaxLen"], apart := false, laid := [("unicode/utf8.acceptRanges", laid_unicode_utf8_acceptRanges), ("crate/crate.lengthOrder", laid_crate_crate_lengthOrder), ("unicode/utf8.first", laid_unicode_utf8_first)] }
def WholeSaid : Prop := wholeRow.holds Tryz.pinned (OpenSpec.ofChange wholeSpec)

/-- ITS FALSE NEIGHBOUR: 'it returns false'. Refute it at one input. -/
def wholeWrong : ChangeSpec := { name := "whole", fn := fun _ => fun
  | [d1, d2] => { results := [.lit (.bool false)], args := [d1, d2] }
  | _ => none }
def WholeWrongFalsely : Prop := wholeRow.holds Tryz.pinned (OpenSpec.ofChange wholeWrong)

/-- 'cratekeep.Guarded': WHATEVER THE INPUT: true; the input reads as it did. -/
def guardedSpec : ChangeSpec := { name := "guarded", fn := fun _ => fun
  | [d1, d2] => { results := [.lit (.bool true)], args := [d1, d2] }
  | _ => none }
def guardedRow : OpenClaim := { program := "ytobfkhapeejkfaagreatdoor", sum := "725e4c6345087ef4e1b6180fc22a90d98a064e3d408d9f260dd4ec70e4dbbeb8", func := "crate/cratekeep.Guarded", spec := "guarded", inPlace := ["internal/bytealg.IndexByteString", "internal/bytealg.IndexString"], unfollowed := true, recurses := true, named := ["crate/crate.lengthOrder", "unicode/utf8.first", "unicode/utf8.acceptRanges", "internal/bytealg.MaxLen"], apart := false, laid := [("unicode/utf8.acceptRanges", laid_unicode_utf8_acceptRanges), ("crate/crate.lengthOrder", laid_crate_crate_lengthOrder), ("unicode/utf8.first", laid_unicode_utf8_first)] }
def GuardedSaid : Prop := guardedRow.holds Tryz.pinned (OpenSpec.ofChange guardedSpec)

/-- ITS FALSE NEIGHBOUR: 'it returns false'. Refute it at one input. -/
def guardedWrong : ChangeSpec := { name := "guarded", fn := fun _ => fun
  | [d1, d2] => { results := [.lit (.bool false)], args := [d1, d2] }
  | _ => none }
def GuardedWrongFalsely : Prop := guardedRow.holds Tryz.pinned (OpenSpec.ofChange guardedWrong)

/-- 'cratekeep.Wronged': WHATEVER THE INPUT: true; the input reads as it did. -/
def wrongedSpec : ChangeSpec := { name := "wronged", fn := fun _ => fun
  | [d1, d2, d3] => { results := [.lit (.bool true)], args := [d1, d2, d3] }
  | _ => none }
def wrongedRow : OpenClaim := { program := "ytobfkhapeejkfaagreatdoor", sum := "725e4c6345087ef4e1b6180fc22a90d98a064e3d408d9f260dd4ec70e4dbbeb8", func := "crate/cratekeep.Wronged", spec := "wronged", inPlace := ["internal/bytealg.IndexByteString", "internal/bytealg.IndexString"], unfollowed := true, recurses := true, named := ["crate/crate.lengthOrder", "unicode/utf8.first", "unicode/utf8.acceptRanges", "internal/bytealg.MaxLen"], apart := false, laid := [("unicode/utf8.acceptRanges", laid_unicode_utf8_acceptRanges), ("crate/crate.lengthOrder", laid_crate_crate_lengthOrder), ("unicode/utf8.first", laid_unicode_utf8_first)] }
def WrongedSaid : Prop := wrongedRow.holds Tryz.pinned (OpenSpec.ofChange wrongedSpec)

/-- ITS FALSE NEIGHBOUR: 'it returns false'. Refute it at one input. -/
def wrongedWrong : ChangeSpec := { name := "wronged", fn := fun _ => fun
  | [d1, d2, d3] => { results := [.lit (.bool false)], args := [d1, d2, d3] }
  | _ => none }
def WrongedWrongFalsely : Prop := wrongedRow.holds Tryz.pinned (OpenSpec.ofChange wrongedWrong)

/-- 'cratelaw.Stores': WHATEVER THE INPUT: true; the input reads as it did. -/
def storesSpec : ChangeSpec := { name := "stores", fn := fun _ => fun
  | [d] => { results := [.lit (.bool true)], args := [d] }
  | _ => none }
def storesRow : OpenClaim := { program := "ytobfkhapeejkfaagreatdoor", sum := "725e4c6345087ef4e1b6180fc22a90d98a064e3d408d9f260dd4ec70e4dbbeb8", func := "crate/cratelaw.Stores", spec := "stores", inPlace := ["internal/bytealg.IndexByteString", "internal/bytealg.IndexString", "(*internal/sync.Mutex).Lock", "internal/race.Disable", "sync/atomic.CompareAndSwapInt32", "internal/race.Enable", "internal/race.Acquire", "(*internal/sync.Mutex).lockSlow", "internal/sync.runtime_canSpin", "internal/sync.runtime_doSpin", "internal/sync.throw", "internal/sync.runtime_nanotime", "internal/sync.runtime_SemacquireMutex", "sync/atomic.AddInt32", "(*internal/sync.Mutex).Unlock", "internal/race.ReleaseMerge", "(*internal/sync.Mutex).unlockSlow", "internal/sync.fatal", "internal/sync.runtime_Semrelease"], unfollowed := true, recurses := true, named := ["crate/crate.lengthOrder", "unicode/utf8.first", "unicode/utf8.acceptRanges", "internal/bytealg.MaxLen"], apart := false, laid := [("unicode/utf8.acceptRanges", laid_unicode_utf8_acceptRanges), ("crate/crate.lengthOrder", laid_crate_crate_lengthOrder), ("unicode/utf8.first", laid_unicode_utf8_first)] }
def StoresSaid : Prop := storesRow.holds Tryz.pinned (OpenSpec.ofChange storesSpec)

/-- ITS FALSE NEIGHBOUR: 'it returns false'. Refute it at one input. -/
def storesWrong : ChangeSpec := { name := "stores", fn := fun _ => fun
  | [d] => { results := [.lit (.bool false)], args := [d] }
  | _ => none }
def StoresWrongFalsely : Prop := storesRow.holds Tryz.pinned (OpenSpec.ofChange storesWrong)

/-- 'cratekeep.Shown': WHATEVER THE INPUT: true; the input reads as it did. -/
def shownSpec : ChangeSpec := { name := "shown", fn := fun _ => fun
  | [d1, d2] => { results := [.lit (.bool true)], args := [d1, d2] }
  | _ => none }
def shownRow : OpenClaim := { program := "ytobfkhapeejkfaagreatdoor", sum := "725e4c6345087ef4e1b6180fc22a90d98a064e3d408d9f260dd4ec70e4dbbeb8", func := "crate/cratekeep.Shown", spec := "shown", inPlace := ["internal/bytealg.IndexByteString", "internal/bytealg.IndexString", "(*internal/sync.Mutex).Lock", "internal/race.Disable", "sync/atomic.CompareAndSwapInt32", "internal/race.Enable", "internal/race.Acquire", "(*internal/sync.Mutex).lockSlow", "internal/sync.runtime_canSpin", "internal/sync.runtime_doSpin", "internal/sync.throw", "internal/sync.runtime_nanotime", "internal/sync.runtime_SemacquireMutex", "sync/atomic.AddInt32", "(*internal/sync.Mutex).Unlock", "internal/race.ReleaseMerge", "(*internal/sync.Mutex).unlockSlow", "internal/sync.fatal", "internal/sync.runtime_Semrelease"], unfollowed := true, recurses := true, named := ["crate/crate.lengthOrder", "unicode/utf8.first", "unicode/utf8.acceptRanges", "internal/bytealg.MaxLen"], apart := false, laid := [("unicode/utf8.acceptRanges", laid_unicode_utf8_acceptRanges), ("crate/crate.lengthOrder", laid_crate_crate_lengthOrder), ("unicode/utf8.first", laid_unicode_utf8_first)] }
def ShownSaid : Prop := shownRow.holds Tryz.pinned (OpenSpec.ofChange shownSpec)

/-- ITS FALSE NEIGHBOUR: 'it returns false'. Refute it at one input. -/
def shownWrong : ChangeSpec := { name := "shown", fn := fun _ => fun
  | [d1, d2] => { results := [.lit (.bool false)], args := [d1, d2] }
  | _ => none }
def ShownWrongFalsely : Prop := shownRow.holds Tryz.pinned (OpenSpec.ofChange shownWrong)

/-- 'cratelaw.All': WHATEVER THE INPUT: true; the input reads as it did. -/
def allSpec : ChangeSpec := { name := "all", fn := fun _ => fun
  | [d] => { results := [.lit (.bool true)], args := [d] }
  | _ => none }
def allRow : OpenClaim := { program := "ytobfkhapeejkfaagreatdoor", sum := "725e4c6345087ef4e1b6180fc22a90d98a064e3d408d9f260dd4ec70e4dbbeb8", func := "crate/cratelaw.All", spec := "all", inPlace := ["internal/bytealg.IndexByteString", "internal/bytealg.IndexString", "(*internal/sync.Mutex).Lock", "internal/race.Disable", "sync/atomic.CompareAndSwapInt32", "internal/race.Enable", "internal/race.Acquire", "(*internal/sync.Mutex).lockSlow", "internal/sync.runtime_canSpin", "internal/sync.runtime_doSpin", "internal/sync.throw", "internal/sync.runtime_nanotime", "internal/sync.runtime_SemacquireMutex", "sync/atomic.AddInt32", "(*internal/sync.Mutex).Unlock", "internal/race.ReleaseMerge", "(*internal/sync.Mutex).unlockSlow", "internal/sync.fatal", "internal/sync.runtime_Semrelease"], unfollowed := true, recurses := true, named := ["crate/crate.lengthOrder", "unicode/utf8.first", "unicode/utf8.acceptRanges", "internal/bytealg.MaxLen"], apart := false, laid := [("unicode/utf8.acceptRanges", laid_unicode_utf8_acceptRanges), ("crate/crate.lengthOrder", laid_crate_crate_lengthOrder), ("unicode/utf8.first", laid_unicode_utf8_first)] }
def AllSaid : Prop := allRow.holds Tryz.pinned (OpenSpec.ofChange allSpec)

/-- ITS FALSE NEIGHBOUR: 'it returns false'. Refute it at one input. -/
def allWrong : ChangeSpec := { name := "all", fn := fun _ => fun
  | [d] => { results := [.lit (.bool false)], args := [d] }
  | _ => none }
def AllWrongFalsely : Prop := allRow.holds Tryz.pinned (OpenSpec.ofChange allWrong)

/- THE SECOND FORM. 'bulk': how many values and letters a reading holds, each counted each time it is reached (what is shared counts as often as it is met; a slice's spare places count too). A statement '..UptoSaid' is the law's where the arguments, and the package variables that the reading takes, are together of bulk at most 1048576: NARROWER than '..Said'. Prove '..Said' where nothing that the law and all that it calls make is longer than what came in: it says more and counts as full. Else prove '..UptoSaid'. A law counts once. -/
mutual
def uptoBulk {H : Type} : DataW H → Nat
  | .lit (.string bytes) => bytes.length + 1
  | .lit _ => 1
  | .nil => 1
  | .ptr d => uptoBulk d + 1
  | .slice elems spare => uptoBulkAll elems + uptoBulkAll spare + 1
  | .agg parts => uptoBulkAll parts + 1
  | .iface _ d => uptoBulk d + 1
  | .map entries => uptoBulkEntries entries + 1
  | .held _ => 1
def uptoBulkAll {H : Type} : List (DataW H) → Nat
  | [] => 0
  | d :: r => uptoBulk d + uptoBulkAll r
def uptoBulkEntries {H : Type} : List (Lit × DataW H) → Nat
  | [] => 0
  | x :: r => uptoBulkEntry x + uptoBulkEntries r
def uptoBulkEntry {H : Type} : Lit × DataW H → Nat
  | (.string bytes, d) => bytes.length + uptoBulk d + 1
  | (_, d) => uptoBulk d + 1
 end
def uptoSmall : (H : Type) → List (DataW H) → Bool := fun _ ds => decide (uptoBulkAll ds ≤ 1048576)
def OpenSpec.upto (s : _root_.Go.ChangeSpec) : _root_.Go.OpenSpec := { _root_.Go.OpenSpec.ofChange s with cond := some uptoSmall }

/-- 'cratelaw.Bytes', WHERE WHAT IT READS IS OF BULK AT MOST 1048576: true; the input reads as it did. -/
def bytesUptoRow : OpenClaim := { program := "ytobfkhapeejkfaagreatdoor", sum := "725e4c6345087ef4e1b6180fc22a90d98a064e3d408d9f260dd4ec70e4dbbeb8", func := "crate/cratelaw.Bytes", spec := "bytes", inPlace := ["internal/bytealg.IndexByteString", "internal/bytealg.IndexString", "(*internal/sync.Mutex).Lock", "internal/race.Disable", "sync/atomic.CompareAndSwapInt32", "internal/race.Enable", "internal/race.Acquire", "(*internal/sync.Mutex).lockSlow", "internal/sync.runtime_canSpin", "internal/sync.runtime_doSpin", "internal/sync.throw", "internal/sync.runtime_nanotime", "internal/sync.runtime_SemacquireMutex", "sync/atomic.AddInt32", "(*internal/sync.Mutex).Unlock", "internal/race.ReleaseMerge", "(*internal/sync.Mutex).unlockSlow", "internal/sync.fatal", "internal/sync.runtime_Semrelease"], unfollowed := true, recurses := true, named := ["crate/crate.lengthOrder", "unicode/utf8.first", "unicode/utf8.acceptRanges", "internal/bytealg.MaxLen"], apart := false, laid := [("unicode/utf8.acceptRanges", laid_unicode_utf8_acceptRanges), ("crate/crate.lengthOrder", laid_crate_crate_lengthOrder), ("unicode/utf8.first", laid_unicode_utf8_first)], narrowed := true }
def BytesUptoSaid : Prop := bytesUptoRow.holds Tryz.pinned (OpenSpec.upto bytesSpec)

/-- 'cratekeep.Given', WHERE WHAT IT READS IS OF BULK AT MOST 1048576: true; the input reads as it did. -/
def givenUptoRow : OpenClaim := { program := "ytobfkhapeejkfaagreatdoor", sum := "725e4c6345087ef4e1b6180fc22a90d98a064e3d408d9f260dd4ec70e4dbbeb8", func := "crate/cratekeep.Given", spec := "given", inPlace := ["internal/bytealg.IndexByteString", "internal/bytealg.IndexString"], unfollowed := true, recurses := true, named := ["crate/crate.lengthOrder", "unicode/utf8.first", "unicode/utf8.acceptRanges", "internal/bytealg.MaxLen"], apart := false, laid := [("unicode/utf8.acceptRanges", laid_unicode_utf8_acceptRanges), ("crate/crate.lengthOrder", laid_crate_crate_lengthOrder), ("unicode/utf8.first", laid_unicode_utf8_first)], narrowed := true }
def GivenUptoSaid : Prop := givenUptoRow.holds Tryz.pinned (OpenSpec.upto givenSpec)

/-- 'cratekeep.Summed', WHERE WHAT IT READS IS OF BULK AT MOST 1048576: true; the input reads as it did. -/
def summedUptoRow : OpenClaim := { program := "ytobfkhapeejkfaagreatdoor", sum := "725e4c6345087ef4e1b6180fc22a90d98a064e3d408d9f260dd4ec70e4dbbeb8", func := "crate/cratekeep.Summed", spec := "summed", inPlace := ["internal/bytealg.IndexByteString", "internal/bytealg.IndexString"], unfollowed := true, recurses := true, named := ["crate/crate.lengthOrder", "unicode/utf8.first", "unicode/utf8.acceptRanges", "internal/bytealg.MaxLen"], apart := false, laid := [("unicode/utf8.acceptRanges", laid_unicode_utf8_acceptRanges), ("crate/crate.lengthOrder", laid_crate_crate_lengthOrder), ("unicode/utf8.first", laid_unicode_utf8_first)], narrowed := true }
def SummedUptoSaid : Prop := summedUptoRow.holds Tryz.pinned (OpenSpec.upto summedSpec)

/-- 'cratelaw.Archives', WHERE WHAT IT READS IS OF BULK AT MOST 1048576: true; the input reads as it did. -/
def archivesUptoRow : OpenClaim := { program := "ytobfkhapeejkfaagreatdoor", sum := "725e4c6345087ef4e1b6180fc22a90d98a064e3d408d9f260dd4ec70e4dbbeb8", func := "crate/cratelaw.Archives", spec := "archives", inPlace := ["internal/bytealg.IndexByteString", "internal/bytealg.IndexString", "(*internal/sync.Mutex).Lock", "internal/race.Disable", "sync/atomic.CompareAndSwapInt32", "internal/race.Enable", "internal/race.Acquire", "(*internal/sync.Mutex).lockSlow", "internal/sync.runtime_canSpin", "internal/sync.runtime_doSpin", "internal/sync.throw", "internal/sync.runtime_nanotime", "internal/sync.runtime_SemacquireMutex", "sync/atomic.AddInt32", "(*internal/sync.Mutex).Unlock", "internal/race.ReleaseMerge", "(*internal/sync.Mutex).unlockSlow", "internal/sync.fatal", "internal/sync.runtime_Semrelease"], unfollowed := true, recurses := true, named := ["crate/crate.lengthOrder", "unicode/utf8.first", "unicode/utf8.acceptRanges", "internal/bytealg.MaxLen"], apart := false, laid := [("unicode/utf8.acceptRanges", laid_unicode_utf8_acceptRanges), ("crate/crate.lengthOrder", laid_crate_crate_lengthOrder), ("unicode/utf8.first", laid_unicode_utf8_first)], narrowed := true }
def ArchivesUptoSaid : Prop := archivesUptoRow.holds Tryz.pinned (OpenSpec.upto archivesSpec)

/-- 'cratekeep.Whole', WHERE WHAT IT READS IS OF BULK AT MOST 1048576: true; the input reads as it did. -/
def wholeUptoRow : OpenClaim := { program := "ytobfkhapeejkfaagreatdoor", sum := "725e4c6345087ef4e1b6180fc22a90d98a064e3d408d9f260dd4ec70e4dbbeb8", func := "crate/cratekeep.Whole", spec := "whole", inPlace := ["internal/bytealg.IndexByteString", "internal/bytealg.IndexString"], unfollowed := true, recurses := true, named := ["crate/crate.lengthOrder", "unicode/utf8.first", "unicode/utf8.acceptRanges", "internal/bytealg.MaxLen"], apart := false, laid := [("unicode/utf8.acceptRanges", laid_unicode_utf8_acceptRanges), ("crate/crate.lengthOrder", laid_crate_crate_lengthOrder), ("unicode/utf8.first", laid_unicode_utf8_first)], narrowed := true }
def WholeUptoSaid : Prop := wholeUptoRow.holds Tryz.pinned (OpenSpec.upto wholeSpec)

/-- 'cratekeep.Guarded', WHERE WHAT IT READS IS OF BULK AT MOST 1048576: true; the input reads as it did. -/
def guardedUptoRow : OpenClaim := { program := "ytobfkhapeejkfaagreatdoor", sum := "725e4c6345087ef4e1b6180fc22a90d98a064e3d408d9f260dd4ec70e4dbbeb8", func := "crate/cratekeep.Guarded", spec := "guarded", inPlace := ["internal/bytealg.IndexByteString", "internal/bytealg.IndexString"], unfollowed := true, recurses := true, named := ["crate/crate.lengthOrder", "unicode/utf8.first", "unicode/utf8.acceptRanges", "internal/bytealg.MaxLen"], apart := false, laid := [("unicode/utf8.acceptRanges", laid_unicode_utf8_acceptRanges), ("crate/crate.lengthOrder", laid_crate_crate_lengthOrder), ("unicode/utf8.first", laid_unicode_utf8_first)], narrowed := true }
def GuardedUptoSaid : Prop := guardedUptoRow.holds Tryz.pinned (OpenSpec.upto guardedSpec)

/-- 'cratekeep.Wronged', WHERE WHAT IT READS IS OF BULK AT MOST 1048576: true; the input reads as it did. -/
def wrongedUptoRow : OpenClaim := { program := "ytobfkhapeejkfaagreatdoor", sum := "725e4c6345087ef4e1b6180fc22a90d98a064e3d408d9f260dd4ec70e4dbbeb8", func := "crate/cratekeep.Wronged", spec := "wronged", inPlace := ["internal/bytealg.IndexByteString", "internal/bytealg.IndexString"], unfollowed := true, recurses := true, named := ["crate/crate.lengthOrder", "unicode/utf8.first", "unicode/utf8.acceptRanges", "internal/bytealg.MaxLen"], apart := false, laid := [("unicode/utf8.acceptRanges", laid_unicode_utf8_acceptRanges), ("crate/crate.lengthOrder", laid_crate_crate_lengthOrder), ("unicode/utf8.first", laid_unicode_utf8_first)], narrowed := true }
def WrongedUptoSaid : Prop := wrongedUptoRow.holds Tryz.pinned (OpenSpec.upto wrongedSpec)

/-- 'cratelaw.Stores', WHERE WHAT IT READS IS OF BULK AT MOST 1048576: true; the input reads as it did. -/
def storesUptoRow : OpenClaim := { program := "ytobfkhapeejkfaagreatdoor", sum := "725e4c6345087ef4e1b6180fc22a90d98a064e3d408d9f260dd4ec70e4dbbeb8", func := "crate/cratelaw.Stores", spec := "stores", inPlace := ["internal/bytealg.IndexByteString", "internal/bytealg.IndexString", "(*internal/sync.Mutex).Lock", "internal/race.Disable", "sync/atomic.CompareAndSwapInt32", "internal/race.Enable", "internal/race.Acquire", "(*internal/sync.Mutex).lockSlow", "internal/sync.runtime_canSpin", "internal/sync.runtime_doSpin", "internal/sync.throw", "internal/sync.runtime_nanotime", "internal/sync.runtime_SemacquireMutex", "sync/atomic.AddInt32", "(*internal/sync.Mutex).Unlock", "internal/race.ReleaseMerge", "(*internal/sync.Mutex).unlockSlow", "internal/sync.fatal", "internal/sync.runtime_Semrelease"], unfollowed := true, recurses := true, named := ["crate/crate.lengthOrder", "unicode/utf8.first", "unicode/utf8.acceptRanges", "internal/bytealg.MaxLen"], apart := false, laid := [("unicode/utf8.acceptRanges", laid_unicode_utf8_acceptRanges), ("crate/crate.lengthOrder", laid_crate_crate_lengthOrder), ("unicode/utf8.first", laid_unicode_utf8_first)], narrowed := true }
def StoresUptoSaid : Prop := storesUptoRow.holds Tryz.pinned (OpenSpec.upto storesSpec)

/-- 'cratekeep.Shown', WHERE WHAT IT READS IS OF BULK AT MOST 1048576: true; the input reads as it did. -/
def shownUptoRow : OpenClaim := { program := "ytobfkhapeejkfaagreatdoor", sum := "725e4c6345087ef4e1b6180fc22a90d98a064e3d408d9f260dd4ec70e4dbbeb8", func := "crate/cratekeep.Shown", spec := "shown", inPlace := ["internal/bytealg.IndexByteString", "internal/bytealg.IndexString", "(*internal/sync.Mutex).Lock", "internal/race.Disable", "sync/atomic.CompareAndSwapInt32", "internal/race.Enable", "internal/race.Acquire", "(*internal/sync.Mutex).lockSlow", "internal/sync.runtime_canSpin", "internal/sync.runtime_doSpin", "internal/sync.throw", "internal/sync.runtime_nanotime", "internal/sync.runtime_SemacquireMutex", "sync/atomic.AddInt32", "(*internal/sync.Mutex).Unlock", "internal/race.ReleaseMerge", "(*internal/sync.Mutex).unlockSlow", "internal/sync.fatal", "internal/sync.runtime_Semrelease"], unfollowed := true, recurses := true, named := ["crate/crate.lengthOrder", "unicode/utf8.first", "unicode/utf8.acceptRanges", "internal/bytealg.MaxLen"], apart := false, laid := [("unicode/utf8.acceptRanges", laid_unicode_utf8_acceptRanges), ("crate/crate.lengthOrder", laid_crate_crate_lengthOrder), ("unicode/utf8.first", laid_unicode_utf8_first)], narrowed := true }
def ShownUptoSaid : Prop := shownUptoRow.holds Tryz.pinned (OpenSpec.upto shownSpec)

/-- 'cratelaw.All', WHERE WHAT IT READS IS OF BULK AT MOST 1048576: true; the input reads as it did. -/
def allUptoRow : OpenClaim := { program := "ytobfkhapeejkfaagreatdoor", sum := "725e4c6345087ef4e1b6180fc22a90d98a064e3d408d9f260dd4ec70e4dbbeb8", func := "crate/cratelaw.All", spec := "all", inPlace := ["internal/bytealg.IndexByteString", "internal/bytealg.IndexString", "(*internal/sync.Mutex).Lock", "internal/race.Disable", "sync/atomic.CompareAndSwapInt32", "internal/race.Enable", "internal/race.Acquire", "(*internal/sync.Mutex).lockSlow", "internal/sync.runtime_canSpin", "internal/sync.runtime_doSpin", "internal/sync.throw", "internal/sync.runtime_nanotime", "internal/sync.runtime_SemacquireMutex", "sync/atomic.AddInt32", "(*internal/sync.Mutex).Unlock", "internal/race.ReleaseMerge", "(*internal/sync.Mutex).unlockSlow", "internal/sync.fatal", "internal/sync.runtime_Semrelease"], unfollowed := true, recurses := true, named := ["crate/crate.lengthOrder", "unicode/utf8.first", "unicode/utf8.acceptRanges", "internal/bytealg.MaxLen"], apart := false, laid := [("unicode/utf8.acceptRanges", laid_unicode_utf8_acceptRanges), ("crate/crate.lengthOrder", laid_crate_crate_lengthOrder), ("unicode/utf8.first", laid_unicode_utf8_first)], narrowed := true }
def AllUptoSaid : Prop := allUptoRow.holds Tryz.pinned (OpenSpec.upto allSpec)

end Rows
end Go.Proofs.YtobfkhapeejkfaaGreatDoor
