/-
  DERIVED. GIVEN WITH THE SEED: THE CARDS: each row of YtjipdjkcdoajbaaGreatDoorRows.lean that lists a variable, with what it lists TIED to the program's text (the seventh form; the later family's looks); each row that meets fmt, with fmt's text TOLD by the authors' own Lean function (tested against real Go, not proved from fmt's source: count such statements apart). THE CARD IS WHAT COUNTS. Prove the row's statement (the work); the ties are given (YtjipdjkcdoajbaaGreatDoorTie.lean); close each card by the builder's one call (the guide's Derived/Test/ToyasCard.lean, 'card_holds'). Laid BY PROGRAM, IN A SANDBOX (cutbox-door.mjs). By AI agents, Wed Nov 11 2026. No macro, syntax, notation, axiom, sorry.
-/
import Derived.Test.YtjipdjkcdoajbaaGreatDoorRows
import GoSem.ClaimSeven
namespace Go.Proofs.YtjipdjkcdoajbaaGreatDoor
namespace Rows

/-- THE TIED CARD OF 'blobslaw.Disks'. -/
def disksCard : Claim7 := { stood := { row := disksRow, standIns := [], harness := (true, "c6a3a40729feba9a81be661bc7ed98573bc89455daa40bc5331e776910c322e3"), looks := true }, kinds := [], alts := [], laidByText := true, laidKinds := [.handle], laidTests := true, laidLooks := .later }
def DisksCardSaid : Prop := Claim7.holds Tryz.pinned (.plain (OpenSpec.ofChange disksSpec)) disksCard

/-- THE SECOND FORM's CARD OF 'blobslaw.Disks'. -/
def disksUptoCard : Claim7 := { stood := { row := disksUptoRow, standIns := [], harness := (true, "c6a3a40729feba9a81be661bc7ed98573bc89455daa40bc5331e776910c322e3"), looks := true }, kinds := [], alts := [], laidByText := true, laidKinds := [.handle], laidTests := true, laidLooks := .later }
def DisksUptoCardSaid : Prop := Claim7.holds Tryz.pinned (.plain (OpenSpec.upto disksSpec)) disksUptoCard
end Rows
end Go.Proofs.YtjipdjkcdoajbaaGreatDoor
