/-
  DERIVED. GIVEN WITH THE SEED: THE CARDS: each row of YtncigfibncmioaaGreatDoorRows.lean that lists a variable, with what it lists TIED to the program's text (the seventh form; the later family's looks); each row that meets fmt, with fmt's text TOLD by the authors' own Lean function (tested against real Go, not proved from fmt's source: count such statements apart). THE CARD IS WHAT COUNTS. Prove the row's statement (the work); the ties are given (YtncigfibncmioaaGreatDoorTie.lean); close each card by the builder's one call (the guide's Derived/Test/ToyasCard.lean, 'card_holds'). Laid BY PROGRAM, IN A SANDBOX (cutbox-door.mjs). By AI agents, Wed Nov 11 2026. No macro, syntax, notation, axiom, sorry.
-/
import Derived.Test.YtncigfibncmioaaGreatDoorRows
import GoSem.ClaimSeven
namespace Go.Proofs.YtncigfibncmioaaGreatDoor
namespace Rows

/-- THE TIED CARD OF 'blobskeep.Refused'. -/
def refusedCard : Claim7 := { stood := { row := refusedRow, standIns := [], harness := (true, "2f2931d8bf07ce43a22f0f792f9b76496e4cd7eef9accf023fc0b7651216bbba"), looks := true }, kinds := [], alts := [], laidByText := true, laidKinds := [.data, .data, .data, .handle, .data], laidTests := true, laidLooks := .later }
def RefusedCardSaid : Prop := Claim7.holds Tryz.pinned (.plain (OpenSpec.ofChange refusedSpec)) refusedCard

/-- THE TIED CARD OF 'blobskeep.Rested'. -/
def restedCard : Claim7 := { stood := { row := restedRow, standIns := [], harness := (true, "2f2931d8bf07ce43a22f0f792f9b76496e4cd7eef9accf023fc0b7651216bbba"), looks := true }, kinds := [], alts := [], laidByText := true, laidKinds := [.data, .data, .data, .handle, .data], laidTests := true, laidLooks := .later }
def RestedCardSaid : Prop := Claim7.holds Tryz.pinned (.plain (OpenSpec.ofChange restedSpec)) restedCard

/-- THE TIED CARD OF 'blobskeep.Whole'. -/
def wholeCard : Claim7 := { stood := { row := wholeRow, standIns := [], harness := (true, "2f2931d8bf07ce43a22f0f792f9b76496e4cd7eef9accf023fc0b7651216bbba"), looks := true }, kinds := [], alts := [], laidByText := true, laidKinds := [.data, .data, .data, .handle, .data], laidTests := true, laidLooks := .later }
def WholeCardSaid : Prop := Claim7.holds Tryz.pinned (.plain (OpenSpec.ofChange wholeSpec)) wholeCard

/-- THE TIED CARD OF 'blobskeep.Steady'. -/
def steadyCard : Claim7 := { stood := { row := steadyRow, standIns := [], harness := (true, "2f2931d8bf07ce43a22f0f792f9b76496e4cd7eef9accf023fc0b7651216bbba"), looks := true }, kinds := [], alts := [], laidByText := true, laidKinds := [.data, .data, .data, .handle, .data], laidTests := true, laidLooks := .later }
def SteadyCardSaid : Prop := Claim7.holds Tryz.pinned (.plain (OpenSpec.ofChange steadySpec)) steadyCard

/-- THE TIED CARD OF 'blobskeep.Small'. -/
def smallCard : Claim7 := { stood := { row := smallRow, standIns := [], harness := (true, "2f2931d8bf07ce43a22f0f792f9b76496e4cd7eef9accf023fc0b7651216bbba"), looks := true }, kinds := [], alts := [], laidByText := true, laidKinds := [.data, .data, .data, .handle, .data], laidTests := true, laidLooks := .later }
def SmallCardSaid : Prop := Claim7.holds Tryz.pinned (.plain (OpenSpec.ofChange smallSpec)) smallCard

/-- THE TIED CARD OF 'blobskeep.Torn'. -/
def tornCard : Claim7 := { stood := { row := tornRow, standIns := [], harness := (true, "2f2931d8bf07ce43a22f0f792f9b76496e4cd7eef9accf023fc0b7651216bbba"), looks := true }, kinds := [], alts := [], laidByText := true, laidKinds := [.data, .data, .data, .handle, .data], laidTests := true, laidLooks := .later }
def TornCardSaid : Prop := Claim7.holds Tryz.pinned (.plain (OpenSpec.ofChange tornSpec)) tornCard

/-- THE TIED CARD OF 'blobskeep.Rotten'. -/
def rottenCard : Claim7 := { stood := { row := rottenRow, standIns := [], harness := (true, "2f2931d8bf07ce43a22f0f792f9b76496e4cd7eef9accf023fc0b7651216bbba"), looks := true }, kinds := [], alts := [], laidByText := true, laidKinds := [.data, .data, .data, .handle, .data], laidTests := true, laidLooks := .later }
def RottenCardSaid : Prop := Claim7.holds Tryz.pinned (.plain (OpenSpec.ofChange rottenSpec)) rottenCard

/-- THE SECOND FORM's CARD OF 'blobskeep.Refused'. -/
def refusedUptoCard : Claim7 := { stood := { row := refusedUptoRow, standIns := [], harness := (true, "2f2931d8bf07ce43a22f0f792f9b76496e4cd7eef9accf023fc0b7651216bbba"), looks := true }, kinds := [], alts := [], laidByText := true, laidKinds := [.data, .data, .data, .handle, .data], laidTests := true, laidLooks := .later }
def RefusedUptoCardSaid : Prop := Claim7.holds Tryz.pinned (.plain (OpenSpec.upto refusedSpec)) refusedUptoCard

/-- THE SECOND FORM's CARD OF 'blobskeep.Rested'. -/
def restedUptoCard : Claim7 := { stood := { row := restedUptoRow, standIns := [], harness := (true, "2f2931d8bf07ce43a22f0f792f9b76496e4cd7eef9accf023fc0b7651216bbba"), looks := true }, kinds := [], alts := [], laidByText := true, laidKinds := [.data, .data, .data, .handle, .data], laidTests := true, laidLooks := .later }
def RestedUptoCardSaid : Prop := Claim7.holds Tryz.pinned (.plain (OpenSpec.upto restedSpec)) restedUptoCard

/-- THE SECOND FORM's CARD OF 'blobskeep.Whole'. -/
def wholeUptoCard : Claim7 := { stood := { row := wholeUptoRow, standIns := [], harness := (true, "2f2931d8bf07ce43a22f0f792f9b76496e4cd7eef9accf023fc0b7651216bbba"), looks := true }, kinds := [], alts := [], laidByText := true, laidKinds := [.data, .data, .data, .handle, .data], laidTests := true, laidLooks := .later }
def WholeUptoCardSaid : Prop := Claim7.holds Tryz.pinned (.plain (OpenSpec.upto wholeSpec)) wholeUptoCard

/-- THE SECOND FORM's CARD OF 'blobskeep.Steady'. -/
def steadyUptoCard : Claim7 := { stood := { row := steadyUptoRow, standIns := [], harness := (true, "2f2931d8bf07ce43a22f0f792f9b76496e4cd7eef9accf023fc0b7651216bbba"), looks := true }, kinds := [], alts := [], laidByText := true, laidKinds := [.data, .data, .data, .handle, .data], laidTests := true, laidLooks := .later }
def SteadyUptoCardSaid : Prop := Claim7.holds Tryz.pinned (.plain (OpenSpec.upto steadySpec)) steadyUptoCard

/-- THE SECOND FORM's CARD OF 'blobskeep.Small'. -/
def smallUptoCard : Claim7 := { stood := { row := smallUptoRow, standIns := [], harness := (true, "2f2931d8bf07ce43a22f0f792f9b76496e4cd7eef9accf023fc0b7651216bbba"), looks := true }, kinds := [], alts := [], laidByText := true, laidKinds := [.data, .data, .data, .handle, .data], laidTests := true, laidLooks := .later }
def SmallUptoCardSaid : Prop := Claim7.holds Tryz.pinned (.plain (OpenSpec.upto smallSpec)) smallUptoCard

/-- THE SECOND FORM's CARD OF 'blobskeep.Torn'. -/
def tornUptoCard : Claim7 := { stood := { row := tornUptoRow, standIns := [], harness := (true, "2f2931d8bf07ce43a22f0f792f9b76496e4cd7eef9accf023fc0b7651216bbba"), looks := true }, kinds := [], alts := [], laidByText := true, laidKinds := [.data, .data, .data, .handle, .data], laidTests := true, laidLooks := .later }
def TornUptoCardSaid : Prop := Claim7.holds Tryz.pinned (.plain (OpenSpec.upto tornSpec)) tornUptoCard

/-- THE SECOND FORM's CARD OF 'blobskeep.Rotten'. -/
def rottenUptoCard : Claim7 := { stood := { row := rottenUptoRow, standIns := [], harness := (true, "2f2931d8bf07ce43a22f0f792f9b76496e4cd7eef9accf023fc0b7651216bbba"), looks := true }, kinds := [], alts := [], laidByText := true, laidKinds := [.data, .data, .data, .handle, .data], laidTests := true, laidLooks := .later }
def RottenUptoCardSaid : Prop := Claim7.holds Tryz.pinned (.plain (OpenSpec.upto rottenSpec)) rottenUptoCard
end Rows
end Go.Proofs.YtncigfibncmioaaGreatDoor
