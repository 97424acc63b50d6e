/-
  DERIVED. GIVEN WITH THE SEED: THE CARDS: each row of YtolhdmpajebbdaaGreatDoorRows.lean that lists a variable, with what it lists TIED to the program's text (the seventh form; the later family's looks); each row that meets fmt, with fmt's text TOLD by the authors' own Lean function (tested against real Go, not proved from fmt's source: count such statements apart). THE CARD IS WHAT COUNTS. Prove the row's statement (the work); the ties are given (YtolhdmpajebbdaaGreatDoorTie.lean); close each card by the builder's one call (the guide's Derived/Test/ToyasCard.lean, 'card_holds'). Laid BY PROGRAM, IN A SANDBOX (cutbox-door.mjs). By AI agents, Wed Nov 11 2026. No macro, syntax, notation, axiom, sorry.
-/
import Derived.Test.YtolhdmpajebbdaaGreatDoorRows
import GoSem.ClaimSeven
namespace Go.Proofs.YtolhdmpajebbdaaGreatDoor
namespace Rows

/-- THE TIED CARD OF 'cratelaw.Bytes'. -/
def bytesCard : Claim7 := { stood := { row := bytesRow, standIns := [], harness := (true, "7e7a3b0d540abd9cd56a3b74432d02b7eb720f9df023b1446e1a13b2365e4d8a"), looks := false }, kinds := [], alts := [], laidByText := true, laidKinds := [.data, .data, .pinned], laidTests := true, laidLooks := .later }
def BytesCardSaid : Prop := Claim7.holds Tryz.pinned (.plain (OpenSpec.ofChange bytesSpec)) bytesCard

/-- THE TIED CARD OF 'cratekeep.Given'. -/
def givenCard : Claim7 := { stood := { row := givenRow, standIns := [], harness := (true, "7e7a3b0d540abd9cd56a3b74432d02b7eb720f9df023b1446e1a13b2365e4d8a"), looks := false }, kinds := [], alts := [], laidByText := true, laidKinds := [.data, .data, .pinned], laidTests := true, laidLooks := .later }
def GivenCardSaid : Prop := Claim7.holds Tryz.pinned (.plain (OpenSpec.ofChange givenSpec)) givenCard

/-- THE TIED CARD OF 'cratekeep.Summed'. -/
def summedCard : Claim7 := { stood := { row := summedRow, standIns := [], harness := (true, "7e7a3b0d540abd9cd56a3b74432d02b7eb720f9df023b1446e1a13b2365e4d8a"), looks := false }, kinds := [], alts := [], laidByText := true, laidKinds := [.data, .data, .pinned], laidTests := true, laidLooks := .later }
def SummedCardSaid : Prop := Claim7.holds Tryz.pinned (.plain (OpenSpec.ofChange summedSpec)) summedCard

/-- THE SECOND FORM's CARD OF 'cratelaw.Bytes'. -/
def bytesUptoCard : Claim7 := { stood := { row := bytesUptoRow, standIns := [], harness := (true, "7e7a3b0d540abd9cd56a3b74432d02b7eb720f9df023b1446e1a13b2365e4d8a"), looks := false }, kinds := [], alts := [], laidByText := true, laidKinds := [.data, .data, .pinned], laidTests := true, laidLooks := .later }
def BytesUptoCardSaid : Prop := Claim7.holds Tryz.pinned (.plain (OpenSpec.upto bytesSpec)) bytesUptoCard

/-- THE SECOND FORM's CARD OF 'cratekeep.Given'. -/
def givenUptoCard : Claim7 := { stood := { row := givenUptoRow, standIns := [], harness := (true, "7e7a3b0d540abd9cd56a3b74432d02b7eb720f9df023b1446e1a13b2365e4d8a"), looks := false }, kinds := [], alts := [], laidByText := true, laidKinds := [.data, .data, .pinned], laidTests := true, laidLooks := .later }
def GivenUptoCardSaid : Prop := Claim7.holds Tryz.pinned (.plain (OpenSpec.upto givenSpec)) givenUptoCard

/-- THE SECOND FORM's CARD OF 'cratekeep.Summed'. -/
def summedUptoCard : Claim7 := { stood := { row := summedUptoRow, standIns := [], harness := (true, "7e7a3b0d540abd9cd56a3b74432d02b7eb720f9df023b1446e1a13b2365e4d8a"), looks := false }, kinds := [], alts := [], laidByText := true, laidKinds := [.data, .data, .pinned], laidTests := true, laidLooks := .later }
def SummedUptoCardSaid : Prop := Claim7.holds Tryz.pinned (.plain (OpenSpec.upto summedSpec)) summedUptoCard
end Rows
end Go.Proofs.YtolhdmpajebbdaaGreatDoor
