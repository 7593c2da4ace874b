/-
  PROVED HERE: what goOn of a store does where nothing was under way, there is no tag and no content.
-/
import Derived.Test.YtncigfibncmioaaGreatDoorStBegin
import Derived.Test.YtncigfibncmioaaGreatDoorIdxRd
namespace Go.Proofs.YtncigfibncmioaaGreatDoor
open Go.RowKit
def GoR (D:DS) (k:Int) (D':DS):Prop:=∃ k1 m D1,Ran D (rmS foreignB D.R.now) k1 m D1∧((k1≠0∧k=k1∧D'=D1)∨(k1=0∧stR D1 sSd k D'))
end Go.Proofs.YtncigfibncmioaaGreatDoor
