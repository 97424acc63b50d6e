/-
  DERIVED. GIVEN WITH THE SEED: THE CARDS: each row of YtobfkhapeejkfaaGreatDoorRows.lean that lists a variable, with what it lists TIED to the program's text (the seventh form; the later family's looks); each row that meets fmt, with fmt's text TOLD by the authors' own Lean function (tested against real Go, not proved from fmt's source: count such statements apart). THE CARD IS WHAT COUNTS. Prove the row's statement (the work); the ties are given (YtobfkhapeejkfaaGreatDoorTie.lean); close each card by the builder's one call (the guide's Derived/Test/ToyasCard.lean, 'card_holds'). Laid BY PROGRAM, IN A SANDBOX (cutbox-door.mjs). By AI agents, Wed Nov 11 2026. No macro, syntax, notation, axiom, sorry.
-/
import Derived.Test.YtobfkhapeejkfaaGreatDoorRows
import GoSem.ClaimSeven
namespace Go.Proofs.YtobfkhapeejkfaaGreatDoor
namespace Rows

/-- THE TIED CARD OF 'cratelaw.Bytes'. -/
def bytesCard : Claim7 := { stood := { row := bytesRow, standIns := [], harness := (true, "6431b35f00c433e632a67e869c9cffa1bef350b77b2ee9d47c55b4440b12d348"), looks := false }, kinds := [], alts := [], laidByText := true, laidKinds := [.data, .data, .pinned], laidTests := true, laidLooks := .later }
def BytesCardSaid : Prop := Claim7.holds Tryz.pinned (.plain (OpenSpec.ofChange bytesSpec)) bytesCard

/-- THE TIED CARD OF 'cratekeep.Given'. -/
def givenCard : Claim7 := { stood := { row := givenRow, standIns := [], harness := (true, "6431b35f00c433e632a67e869c9cffa1bef350b77b2ee9d47c55b4440b12d348"), looks := false }, kinds := [], alts := [], laidByText := true, laidKinds := [.data, .data, .pinned], laidTests := true, laidLooks := .later }
def GivenCardSaid : Prop := Claim7.holds Tryz.pinned (.plain (OpenSpec.ofChange givenSpec)) givenCard

/-- THE TIED CARD OF 'cratekeep.Summed'. -/
def summedCard : Claim7 := { stood := { row := summedRow, standIns := [], harness := (true, "6431b35f00c433e632a67e869c9cffa1bef350b77b2ee9d47c55b4440b12d348"), looks := false }, kinds := [], alts := [], laidByText := true, laidKinds := [.data, .data, .pinned], laidTests := true, laidLooks := .later }
def SummedCardSaid : Prop := Claim7.holds Tryz.pinned (.plain (OpenSpec.ofChange summedSpec)) summedCard

/-- THE TIED CARD OF 'cratelaw.Archives'. -/
def archivesCard : Claim7 := { stood := { row := archivesRow, standIns := [], harness := (true, "6431b35f00c433e632a67e869c9cffa1bef350b77b2ee9d47c55b4440b12d348"), looks := false }, kinds := [], alts := [], laidByText := true, laidKinds := [.data, .data, .pinned], laidTests := true, laidLooks := .later }
def ArchivesCardSaid : Prop := Claim7.holds Tryz.pinned (.plain (OpenSpec.ofChange archivesSpec)) archivesCard

/-- THE TIED CARD OF 'cratekeep.Whole'. -/
def wholeCard : Claim7 := { stood := { row := wholeRow, standIns := [], harness := (true, "6431b35f00c433e632a67e869c9cffa1bef350b77b2ee9d47c55b4440b12d348"), looks := false }, kinds := [], alts := [], laidByText := true, laidKinds := [.data, .data, .pinned], laidTests := true, laidLooks := .later }
def WholeCardSaid : Prop := Claim7.holds Tryz.pinned (.plain (OpenSpec.ofChange wholeSpec)) wholeCard

/-- THE TIED CARD OF 'cratekeep.Guarded'. -/
def guardedCard : Claim7 := { stood := { row := guardedRow, standIns := [], harness := (true, "6431b35f00c433e632a67e869c9cffa1bef350b77b2ee9d47c55b4440b12d348"), looks := false }, kinds := [], alts := [], laidByText := true, laidKinds := [.data, .data, .pinned], laidTests := true, laidLooks := .later }
def GuardedCardSaid : Prop := Claim7.holds Tryz.pinned (.plain (OpenSpec.ofChange guardedSpec)) guardedCard

/-- THE TIED CARD OF 'cratekeep.Wronged'. -/
def wrongedCard : Claim7 := { stood := { row := wrongedRow, standIns := [], harness := (true, "6431b35f00c433e632a67e869c9cffa1bef350b77b2ee9d47c55b4440b12d348"), looks := false }, kinds := [], alts := [], laidByText := true, laidKinds := [.data, .data, .pinned], laidTests := true, laidLooks := .later }
def WrongedCardSaid : Prop := Claim7.holds Tryz.pinned (.plain (OpenSpec.ofChange wrongedSpec)) wrongedCard

/-- THE TIED CARD OF 'cratelaw.Stores'. -/
def storesCard : Claim7 := { stood := { row := storesRow, standIns := [], harness := (true, "6431b35f00c433e632a67e869c9cffa1bef350b77b2ee9d47c55b4440b12d348"), looks := false }, kinds := [], alts := [], laidByText := true, laidKinds := [.data, .data, .pinned], laidTests := true, laidLooks := .later }
def StoresCardSaid : Prop := Claim7.holds Tryz.pinned (.plain (OpenSpec.ofChange storesSpec)) storesCard

/-- THE TIED CARD OF 'cratekeep.Shown'. -/
def shownCard : Claim7 := { stood := { row := shownRow, standIns := [], harness := (true, "6431b35f00c433e632a67e869c9cffa1bef350b77b2ee9d47c55b4440b12d348"), looks := false }, kinds := [], alts := [], laidByText := true, laidKinds := [.data, .data, .pinned], laidTests := true, laidLooks := .later }
def ShownCardSaid : Prop := Claim7.holds Tryz.pinned (.plain (OpenSpec.ofChange shownSpec)) shownCard

/-- THE TIED CARD OF 'cratelaw.All'. -/
def allCard : Claim7 := { stood := { row := allRow, standIns := [], harness := (true, "6431b35f00c433e632a67e869c9cffa1bef350b77b2ee9d47c55b4440b12d348"), looks := false }, kinds := [], alts := [], laidByText := true, laidKinds := [.data, .data, .pinned], laidTests := true, laidLooks := .later }
def AllCardSaid : Prop := Claim7.holds Tryz.pinned (.plain (OpenSpec.ofChange allSpec)) allCard

/-- THE SECOND FORM's CARD OF 'cratelaw.Bytes'. -/
def bytesUptoCard : Claim7 := { stood := { row := bytesUptoRow, standIns := [], harness := (true, "6431b35f00c433e632a67e869c9cffa1bef350b77b2ee9d47c55b4440b12d348"), looks := false }, kinds := [], alts := [], laidByText := true, laidKinds := [.data, .data, .pinned], laidTests := true, laidLooks := .later }
def BytesUptoCardSaid : Prop := Claim7.holds Tryz.pinned (.plain (OpenSpec.upto bytesSpec)) bytesUptoCard

/-- THE SECOND FORM's CARD OF 'cratekeep.Given'. -/
def givenUptoCard : Claim7 := { stood := { row := givenUptoRow, standIns := [], harness := (true, "6431b35f00c433e632a67e869c9cffa1bef350b77b2ee9d47c55b4440b12d348"), looks := false }, kinds := [], alts := [], laidByText := true, laidKinds := [.data, .data, .pinned], laidTests := true, laidLooks := .later }
def GivenUptoCardSaid : Prop := Claim7.holds Tryz.pinned (.plain (OpenSpec.upto givenSpec)) givenUptoCard

/-- THE SECOND FORM's CARD OF 'cratekeep.Summed'. -/
def summedUptoCard : Claim7 := { stood := { row := summedUptoRow, standIns := [], harness := (true, "6431b35f00c433e632a67e869c9cffa1bef350b77b2ee9d47c55b4440b12d348"), looks := false }, kinds := [], alts := [], laidByText := true, laidKinds := [.data, .data, .pinned], laidTests := true, laidLooks := .later }
def SummedUptoCardSaid : Prop := Claim7.holds Tryz.pinned (.plain (OpenSpec.upto summedSpec)) summedUptoCard

/-- THE SECOND FORM's CARD OF 'cratelaw.Archives'. -/
def archivesUptoCard : Claim7 := { stood := { row := archivesUptoRow, standIns := [], harness := (true, "6431b35f00c433e632a67e869c9cffa1bef350b77b2ee9d47c55b4440b12d348"), looks := false }, kinds := [], alts := [], laidByText := true, laidKinds := [.data, .data, .pinned], laidTests := true, laidLooks := .later }
def ArchivesUptoCardSaid : Prop := Claim7.holds Tryz.pinned (.plain (OpenSpec.upto archivesSpec)) archivesUptoCard

/-- THE SECOND FORM's CARD OF 'cratekeep.Whole'. -/
def wholeUptoCard : Claim7 := { stood := { row := wholeUptoRow, standIns := [], harness := (true, "6431b35f00c433e632a67e869c9cffa1bef350b77b2ee9d47c55b4440b12d348"), looks := false }, kinds := [], alts := [], laidByText := true, laidKinds := [.data, .data, .pinned], laidTests := true, laidLooks := .later }
def WholeUptoCardSaid : Prop := Claim7.holds Tryz.pinned (.plain (OpenSpec.upto wholeSpec)) wholeUptoCard

/-- THE SECOND FORM's CARD OF 'cratekeep.Guarded'. -/
def guardedUptoCard : Claim7 := { stood := { row := guardedUptoRow, standIns := [], harness := (true, "6431b35f00c433e632a67e869c9cffa1bef350b77b2ee9d47c55b4440b12d348"), looks := false }, kinds := [], alts := [], laidByText := true, laidKinds := [.data, .data, .pinned], laidTests := true, laidLooks := .later }
def GuardedUptoCardSaid : Prop := Claim7.holds Tryz.pinned (.plain (OpenSpec.upto guardedSpec)) guardedUptoCard

/-- THE SECOND FORM's CARD OF 'cratekeep.Wronged'. -/
def wrongedUptoCard : Claim7 := { stood := { row := wrongedUptoRow, standIns := [], harness := (true, "6431b35f00c433e632a67e869c9cffa1bef350b77b2ee9d47c55b4440b12d348"), looks := false }, kinds := [], alts := [], laidByText := true, laidKinds := [.data, .data, .pinned], laidTests := true, laidLooks := .later }
def WrongedUptoCardSaid : Prop := Claim7.holds Tryz.pinned (.plain (OpenSpec.upto wrongedSpec)) wrongedUptoCard

/-- THE SECOND FORM's CARD OF 'cratelaw.Stores'. -/
def storesUptoCard : Claim7 := { stood := { row := storesUptoRow, standIns := [], harness := (true, "6431b35f00c433e632a67e869c9cffa1bef350b77b2ee9d47c55b4440b12d348"), looks := false }, kinds := [], alts := [], laidByText := true, laidKinds := [.data, .data, .pinned], laidTests := true, laidLooks := .later }
def StoresUptoCardSaid : Prop := Claim7.holds Tryz.pinned (.plain (OpenSpec.upto storesSpec)) storesUptoCard

/-- THE SECOND FORM's CARD OF 'cratekeep.Shown'. -/
def shownUptoCard : Claim7 := { stood := { row := shownUptoRow, standIns := [], harness := (true, "6431b35f00c433e632a67e869c9cffa1bef350b77b2ee9d47c55b4440b12d348"), looks := false }, kinds := [], alts := [], laidByText := true, laidKinds := [.data, .data, .pinned], laidTests := true, laidLooks := .later }
def ShownUptoCardSaid : Prop := Claim7.holds Tryz.pinned (.plain (OpenSpec.upto shownSpec)) shownUptoCard

/-- THE SECOND FORM's CARD OF 'cratelaw.All'. -/
def allUptoCard : Claim7 := { stood := { row := allUptoRow, standIns := [], harness := (true, "6431b35f00c433e632a67e869c9cffa1bef350b77b2ee9d47c55b4440b12d348"), looks := false }, kinds := [], alts := [], laidByText := true, laidKinds := [.data, .data, .pinned], laidTests := true, laidLooks := .later }
def AllUptoCardSaid : Prop := Claim7.holds Tryz.pinned (.plain (OpenSpec.upto allSpec)) allUptoCard
end Rows
end Go.Proofs.YtobfkhapeejkfaaGreatDoor
