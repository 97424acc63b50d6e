/-
  DERIVED. GIVEN WITH THE SEED: THE CARDS: each row of YtpckiobjpikmlaaGreatDoorRows.lean that lists a variable, with what it lists TIED to the program's text (the seventh form; the later family's looks); each row that meets fmt, with fmt's text TOLD by the authors' own Lean function (tested against real Go, not proved from fmt's source: count such statements apart). THE CARD IS WHAT COUNTS. Prove the row's statement (the work); the ties are given (YtpckiobjpikmlaaGreatDoorTie.lean); close each card by the builder's one call (the guide's Derived/Test/ToyasCard.lean, 'card_holds'). Laid BY PROGRAM, IN A SANDBOX (cutbox-door.mjs). By AI agents, Wed Nov 11 2026. No macro, syntax, notation, axiom, sorry.
-/
import Derived.Test.YtpckiobjpikmlaaGreatDoorRows
import GoSem.ClaimSeven
namespace Go.Proofs.YtpckiobjpikmlaaGreatDoor
namespace Rows

/-- THE TIED CARD OF 'cratelaw.Archives'. -/
def archivesCard : Claim7 := { stood := { row := archivesRow, standIns := [], harness := (true, "6753245bc369478f779d743239c258e6c9c62728ec0bb510ba91f05eb5a3384a"), looks := false }, kinds := [], alts := [], laidByText := true, laidKinds := [.data, .data, .pinned], laidTests := true, laidLooks := .later }
def ArchivesCardSaid : Prop := Claim7.holds Tryz.pinned (.plain (OpenSpec.ofChange archivesSpec)) archivesCard

/-- THE SECOND FORM's CARD OF 'cratelaw.Archives'. -/
def archivesUptoCard : Claim7 := { stood := { row := archivesUptoRow, standIns := [], harness := (true, "6753245bc369478f779d743239c258e6c9c62728ec0bb510ba91f05eb5a3384a"), looks := false }, kinds := [], alts := [], laidByText := true, laidKinds := [.data, .data, .pinned], laidTests := true, laidLooks := .later }
def ArchivesUptoCardSaid : Prop := Claim7.holds Tryz.pinned (.plain (OpenSpec.upto archivesSpec)) archivesUptoCard
end Rows
end Go.Proofs.YtpckiobjpikmlaaGreatDoor
