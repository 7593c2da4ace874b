/-
  PROVED HERE: what goOn of a store does where nothing was under way, there is no tag and no content.
-/
import Derived.Test.YtncigfibncmioaaGreatDoorStBegin
import Derived.Test.YtncigfibncmioaaGreatDoorIdxRd
namespace Go.Proofs.YtncigfibncmioaaGreatDoor
open Go.RowKit
def vC (D:DS) (k:Int) (D':DS):Prop:=∃ k1 m D1,bM D (nK eW D.R.now) k1 m D1/\((k1≠0/\k=k1/\D'=D1)∨(k1=0/\fK D1 gQ k D'))
end Go.Proofs.YtncigfibncmioaaGreatDoor
