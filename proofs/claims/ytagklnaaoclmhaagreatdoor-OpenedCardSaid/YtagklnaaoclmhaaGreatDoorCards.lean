/-
  DERIVED. GIVEN WITH THE SEED: THE CARDS: each row of YtagklnaaoclmhaaGreatDoorRows.lean that lists a variable, with what it lists TIED to the program's text (the seventh form; the later family's looks); each row that meets fmt, with fmt's text TOLD by the authors' own Lean function (tested against real Go, not proved from fmt's source: count such statements apart). THE CARD IS WHAT COUNTS. Prove the row's statement (the work); the ties are given (YtagklnaaoclmhaaGreatDoorTie.lean); close each card by the builder's one call (the guide's Derived/Test/ToyasCard.lean, 'card_holds'). Laid BY PROGRAM, IN A SANDBOX (cutbox-door.mjs). By AI agents, Wed Nov 11 2026. No macro, syntax, notation, axiom, sorry.
-/
import Derived.Test.YtagklnaaoclmhaaGreatDoorRows
import GoSem.ClaimSeven
namespace Go.Proofs.YtagklnaaoclmhaaGreatDoor
namespace Rows

/-- THE TIED CARD OF 'pegtablelaw.Opened'. -/
def openedCard : Claim7 := { stood := { row := openedRow, standIns := [], harness := (true, "bbc03f41ecbe7b76f9bcf3cc66ee3904356dd5ccff16dd427f0f211f554c7768"), looks := false }, kinds := [], alts := [], goes := true, laidByText := true, laidKinds := [.data], laidTests := true, laidLooks := .later }
def OpenedCardSaid : Prop := Claim7.holds Tryz.pinned (.plain (OpenSpec.ofChange openedSpec)) openedCard

/-- THE TIED CARD OF 'pegtablelaw.All'. -/
def allCard : Claim7 := { stood := { row := allRow, standIns := [], harness := (true, "bbc03f41ecbe7b76f9bcf3cc66ee3904356dd5ccff16dd427f0f211f554c7768"), looks := false }, kinds := [], alts := [], goes := true, laidByText := true, laidKinds := [.data], laidTests := true, laidLooks := .later }
def AllCardSaid : Prop := Claim7.holds Tryz.pinned (.plain (OpenSpec.ofChange allSpec)) allCard

/-- THE TIED CARD OF 'pegtablekeep.Known'. -/
def knownCard : Claim7 := { stood := { row := knownRow, standIns := [], harness := (true, "bbc03f41ecbe7b76f9bcf3cc66ee3904356dd5ccff16dd427f0f211f554c7768"), looks := false }, kinds := [], alts := [], goes := true, laidByText := true, laidKinds := [.data], laidTests := true, laidLooks := .later }
def KnownCardSaid : Prop := Claim7.holds Tryz.pinned (.plain (OpenSpec.ofChange knownSpec)) knownCard

/-- THE TIED CARD OF 'pegtablekeep.Counted'. -/
def countedCard : Claim7 := { stood := { row := countedRow, standIns := [], harness := (true, "bbc03f41ecbe7b76f9bcf3cc66ee3904356dd5ccff16dd427f0f211f554c7768"), looks := false }, kinds := [], alts := [], goes := true, laidByText := true, laidKinds := [.data], laidTests := true, laidLooks := .later }
def CountedCardSaid : Prop := Claim7.holds Tryz.pinned (.plain (OpenSpec.ofChange countedSpec)) countedCard

/-- THE TIED CARD OF 'pegtablekeep.Summed'. -/
def summedCard : Claim7 := { stood := { row := summedRow, standIns := [], harness := (true, "bbc03f41ecbe7b76f9bcf3cc66ee3904356dd5ccff16dd427f0f211f554c7768"), looks := false }, kinds := [], alts := [], goes := true, laidByText := true, laidKinds := [.data], laidTests := true, laidLooks := .later }
def SummedCardSaid : Prop := Claim7.holds Tryz.pinned (.plain (OpenSpec.ofChange summedSpec)) summedCard

/-- THE TIED CARD OF 'pegtablekeep.Farthest'. -/
def farthestCard : Claim7 := { stood := { row := farthestRow, standIns := [], harness := (true, "bbc03f41ecbe7b76f9bcf3cc66ee3904356dd5ccff16dd427f0f211f554c7768"), looks := false }, kinds := [], alts := [], goes := true, laidByText := true, laidKinds := [.data], laidTests := true, laidLooks := .later }
def FarthestCardSaid : Prop := Claim7.holds Tryz.pinned (.plain (OpenSpec.ofChange farthestSpec)) farthestCard

/-- THE TIED CARD OF 'pegtablekeep.Unnoticed'. -/
def unnoticedCard : Claim7 := { stood := { row := unnoticedRow, standIns := [], harness := (true, "bbc03f41ecbe7b76f9bcf3cc66ee3904356dd5ccff16dd427f0f211f554c7768"), looks := false }, kinds := [], alts := [], goes := true, laidByText := true, laidKinds := [.data], laidTests := true, laidLooks := .later }
def UnnoticedCardSaid : Prop := Claim7.holds Tryz.pinned (.plain (OpenSpec.ofChange unnoticedSpec)) unnoticedCard

/-- THE TIED CARD OF 'pegtablekeep.Beside'. -/
def besideCard : Claim7 := { stood := { row := besideRow, standIns := [], harness := (true, "bbc03f41ecbe7b76f9bcf3cc66ee3904356dd5ccff16dd427f0f211f554c7768"), looks := false }, kinds := [], alts := [], goes := true, laidByText := true, laidKinds := [.data], laidTests := true, laidLooks := .later }
def BesideCardSaid : Prop := Claim7.holds Tryz.pinned (.plain (OpenSpec.ofChange besideSpec)) besideCard

/-- THE SECOND FORM's CARD OF 'pegtablelaw.Opened'. -/
def openedUptoCard : Claim7 := { stood := { row := openedUptoRow, standIns := [], harness := (true, "bbc03f41ecbe7b76f9bcf3cc66ee3904356dd5ccff16dd427f0f211f554c7768"), looks := false }, kinds := [], alts := [], goes := true, laidByText := true, laidKinds := [.data], laidTests := true, laidLooks := .later }
def OpenedUptoCardSaid : Prop := Claim7.holds Tryz.pinned (.plain (OpenSpec.upto openedSpec)) openedUptoCard

/-- THE SECOND FORM's CARD OF 'pegtablelaw.All'. -/
def allUptoCard : Claim7 := { stood := { row := allUptoRow, standIns := [], harness := (true, "bbc03f41ecbe7b76f9bcf3cc66ee3904356dd5ccff16dd427f0f211f554c7768"), looks := false }, kinds := [], alts := [], goes := true, laidByText := true, laidKinds := [.data], laidTests := true, laidLooks := .later }
def AllUptoCardSaid : Prop := Claim7.holds Tryz.pinned (.plain (OpenSpec.upto allSpec)) allUptoCard

/-- THE SECOND FORM's CARD OF 'pegtablekeep.Known'. -/
def knownUptoCard : Claim7 := { stood := { row := knownUptoRow, standIns := [], harness := (true, "bbc03f41ecbe7b76f9bcf3cc66ee3904356dd5ccff16dd427f0f211f554c7768"), looks := false }, kinds := [], alts := [], goes := true, laidByText := true, laidKinds := [.data], laidTests := true, laidLooks := .later }
def KnownUptoCardSaid : Prop := Claim7.holds Tryz.pinned (.plain (OpenSpec.upto knownSpec)) knownUptoCard

/-- THE SECOND FORM's CARD OF 'pegtablekeep.Counted'. -/
def countedUptoCard : Claim7 := { stood := { row := countedUptoRow, standIns := [], harness := (true, "bbc03f41ecbe7b76f9bcf3cc66ee3904356dd5ccff16dd427f0f211f554c7768"), looks := false }, kinds := [], alts := [], goes := true, laidByText := true, laidKinds := [.data], laidTests := true, laidLooks := .later }
def CountedUptoCardSaid : Prop := Claim7.holds Tryz.pinned (.plain (OpenSpec.upto countedSpec)) countedUptoCard

/-- THE SECOND FORM's CARD OF 'pegtablekeep.Summed'. -/
def summedUptoCard : Claim7 := { stood := { row := summedUptoRow, standIns := [], harness := (true, "bbc03f41ecbe7b76f9bcf3cc66ee3904356dd5ccff16dd427f0f211f554c7768"), looks := false }, kinds := [], alts := [], goes := true, laidByText := true, laidKinds := [.data], laidTests := true, laidLooks := .later }
def SummedUptoCardSaid : Prop := Claim7.holds Tryz.pinned (.plain (OpenSpec.upto summedSpec)) summedUptoCard

/-- THE SECOND FORM's CARD OF 'pegtablekeep.Farthest'. -/
def farthestUptoCard : Claim7 := { stood := { row := farthestUptoRow, standIns := [], harness := (true, "bbc03f41ecbe7b76f9bcf3cc66ee3904356dd5ccff16dd427f0f211f554c7768"), looks := false }, kinds := [], alts := [], goes := true, laidByText := true, laidKinds := [.data], laidTests := true, laidLooks := .later }
def FarthestUptoCardSaid : Prop := Claim7.holds Tryz.pinned (.plain (OpenSpec.upto farthestSpec)) farthestUptoCard

/-- THE SECOND FORM's CARD OF 'pegtablekeep.Unnoticed'. -/
def unnoticedUptoCard : Claim7 := { stood := { row := unnoticedUptoRow, standIns := [], harness := (true, "bbc03f41ecbe7b76f9bcf3cc66ee3904356dd5ccff16dd427f0f211f554c7768"), looks := false }, kinds := [], alts := [], goes := true, laidByText := true, laidKinds := [.data], laidTests := true, laidLooks := .later }
def UnnoticedUptoCardSaid : Prop := Claim7.holds Tryz.pinned (.plain (OpenSpec.upto unnoticedSpec)) unnoticedUptoCard

/-- THE SECOND FORM's CARD OF 'pegtablekeep.Beside'. -/
def besideUptoCard : Claim7 := { stood := { row := besideUptoRow, standIns := [], harness := (true, "bbc03f41ecbe7b76f9bcf3cc66ee3904356dd5ccff16dd427f0f211f554c7768"), looks := false }, kinds := [], alts := [], goes := true, laidByText := true, laidKinds := [.data], laidTests := true, laidLooks := .later }
def BesideUptoCardSaid : Prop := Claim7.holds Tryz.pinned (.plain (OpenSpec.upto besideSpec)) besideUptoCard
end Rows
end Go.Proofs.YtagklnaaoclmhaaGreatDoor
