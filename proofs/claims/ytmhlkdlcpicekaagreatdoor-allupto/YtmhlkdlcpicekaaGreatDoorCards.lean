/-
  DERIVED. GIVEN WITH THE SEED: THE CARDS: each row of YtmhlkdlcpicekaaGreatDoorRows.lean that lists a variable, with what it lists TIED to the program's text (the seventh form; the later family's looks); each row that meets fmt, with fmt's text TOLD by the authors' own Lean function (tested against real Go, not proved from fmt's source: count such statements apart). THE CARD IS WHAT COUNTS. Prove the row's statement (the work); the ties are given (YtmhlkdlcpicekaaGreatDoorTie.lean); close each card by the builder's one call (the guide's Derived/Test/ToyasCard.lean, 'card_holds'). Laid BY PROGRAM, IN A SANDBOX (cutbox-door.mjs). By AI agents, Wed Nov 11 2026. No macro, syntax, notation, axiom, sorry.
-/
import Derived.Test.YtmhlkdlcpicekaaGreatDoorRows
import GoSem.ClaimSeven
namespace Go.Proofs.YtmhlkdlcpicekaaGreatDoor
namespace Rows

/-- THE TIED CARD OF 'cratelaw.Stores'. -/
def storesCard : Claim7 := { stood := { row := storesRow, standIns := [], harness := (true, "ec2f7d8c205bb218ad828788b37cdb6e9b3447a40a9720f3c947416494f90d99"), looks := false }, kinds := [], alts := [], laidByText := true, laidKinds := [.data, .data, .pinned], laidTests := true, laidLooks := .later }
def StoresCardSaid : Prop := Claim7.holds Tryz.pinned (.plain (OpenSpec.ofChange storesSpec)) storesCard

/-- THE TIED CARD OF 'cratekeep.Shown'. -/
def shownCard : Claim7 := { stood := { row := shownRow, standIns := [], harness := (true, "ec2f7d8c205bb218ad828788b37cdb6e9b3447a40a9720f3c947416494f90d99"), looks := false }, kinds := [], alts := [], laidByText := true, laidKinds := [.data, .data, .pinned], laidTests := true, laidLooks := .later }
def ShownCardSaid : Prop := Claim7.holds Tryz.pinned (.plain (OpenSpec.ofChange shownSpec)) shownCard

/-- THE TIED CARD OF 'cratelaw.All'. -/
def allCard : Claim7 := { stood := { row := allRow, standIns := [], harness := (true, "ec2f7d8c205bb218ad828788b37cdb6e9b3447a40a9720f3c947416494f90d99"), looks := false }, kinds := [], alts := [], laidByText := true, laidKinds := [.data, .data, .pinned], laidTests := true, laidLooks := .later }
def AllCardSaid : Prop := Claim7.holds Tryz.pinned (.plain (OpenSpec.ofChange allSpec)) allCard

/-- THE SECOND FORM's CARD OF 'cratelaw.Stores'. -/
def storesUptoCard : Claim7 := { stood := { row := storesUptoRow, standIns := [], harness := (true, "ec2f7d8c205bb218ad828788b37cdb6e9b3447a40a9720f3c947416494f90d99"), looks := false }, kinds := [], alts := [], laidByText := true, laidKinds := [.data, .data, .pinned], laidTests := true, laidLooks := .later }
def StoresUptoCardSaid : Prop := Claim7.holds Tryz.pinned (.plain (OpenSpec.upto storesSpec)) storesUptoCard

/-- THE SECOND FORM's CARD OF 'cratekeep.Shown'. -/
def shownUptoCard : Claim7 := { stood := { row := shownUptoRow, standIns := [], harness := (true, "ec2f7d8c205bb218ad828788b37cdb6e9b3447a40a9720f3c947416494f90d99"), looks := false }, kinds := [], alts := [], laidByText := true, laidKinds := [.data, .data, .pinned], laidTests := true, laidLooks := .later }
def ShownUptoCardSaid : Prop := Claim7.holds Tryz.pinned (.plain (OpenSpec.upto shownSpec)) shownUptoCard

/-- THE SECOND FORM's CARD OF 'cratelaw.All'. -/
def allUptoCard : Claim7 := { stood := { row := allUptoRow, standIns := [], harness := (true, "ec2f7d8c205bb218ad828788b37cdb6e9b3447a40a9720f3c947416494f90d99"), looks := false }, kinds := [], alts := [], laidByText := true, laidKinds := [.data, .data, .pinned], laidTests := true, laidLooks := .later }
def AllUptoCardSaid : Prop := Claim7.holds Tryz.pinned (.plain (OpenSpec.upto allSpec)) allUptoCard
end Rows
end Go.Proofs.YtmhlkdlcpicekaaGreatDoor
