/-
  DERIVED. GIVEN WITH THE SEED: THE CARDS: each row of YteicpbcddjjceaaGreatDoorRows.lean that lists a variable, with what it lists TIED to the program's text (the seventh form; the later family's looks); each row that meets fmt, with fmt's text TOLD by the authors' own Lean function (tested against real Go, not proved from fmt's source: count such statements apart). THE CARD IS WHAT COUNTS. Prove the row's statement (the work); the ties are given (YteicpbcddjjceaaGreatDoorTie.lean); close each card by the builder's one call (the guide's Derived/Test/ToyasCard.lean, 'card_holds'). Laid BY PROGRAM, IN A SANDBOX (cutbox-door.mjs). By AI agents, Wed Nov 11 2026. No macro, syntax, notation, axiom, sorry.
-/
import Derived.Test.YteicpbcddjjceaaGreatDoorRows
import GoSem.ClaimSeven
namespace Go.Proofs.YteicpbcddjjceaaGreatDoor
namespace Rows

/-- THE TIED CARD OF 'blobskeep.Early'. -/
def earlyCard : Claim7 := { stood := { row := earlyRow, standIns := [], harness := (true, "39129115c9024f5609bc0dfd6137b5e77090921b6adb23eefd207d6c13fff008"), looks := true }, kinds := [], alts := [], laidByText := true, laidKinds := [.data, .data, .data, .handle, .data], laidTests := true, laidLooks := .later }
def EarlyCardSaid : Prop := Claim7.holds Tryz.pinned (.plain (OpenSpec.ofChange earlySpec)) earlyCard

/-- THE SECOND FORM's CARD OF 'blobskeep.Early'. -/
def earlyUptoCard : Claim7 := { stood := { row := earlyUptoRow, standIns := [], harness := (true, "39129115c9024f5609bc0dfd6137b5e77090921b6adb23eefd207d6c13fff008"), looks := true }, kinds := [], alts := [], laidByText := true, laidKinds := [.data, .data, .data, .handle, .data], laidTests := true, laidLooks := .later }
def EarlyUptoCardSaid : Prop := Claim7.holds Tryz.pinned (.plain (OpenSpec.upto earlySpec)) earlyUptoCard
end Rows
end Go.Proofs.YteicpbcddjjceaaGreatDoor
