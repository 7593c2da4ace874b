/-
  PROVED HERE: that entry of the statements answers true where every tag that names the digest has its size.
-/
import Derived.Test.YtncigfibncmioaaGreatDoorSmDApp
import Derived.Test.YtncigfibncmioaaGreatDoorParse
import Derived.Test.YtncigfibncmioaaGreatDoorOwnPrint
namespace Go.Proofs.YtncigfibncmioaaGreatDoor
set_option maxHeartbeats 1000000
set_option maxRecDepth 100000
open Go.RowKit
theorem entry_any (so:Option Addr) (c n:Nat) (l:List Tg) (t:ByteArray) (z:Int) (w:World) (hn:l.length=n) (hl:n≤1000) (ha:TagsAt w so l) (hok:∀ i,i<n→(l.getD i default).dig=t→(l.getD i default).size=z) :
  Calls Tryz.prog 46 #[.slice so n c,.string t,.int .i64 z] w fun e w'=>e = .returned (.bool true)∧Below w.heap.size w w':=by
 have HA:=hide ha
 have HN:=hide hn
 have HOK:=hide hok
 clear ha hn hok
 go_enter Tryz.func46,Tryz.ntmps46
 go_wp2_with fail
 go_loopw [7] (fun iv w'=>∃ j:Nat,j≤n∧iv = .int .i64 ((j:Nat):Int)∧Below w.heap.size w w') (fun iv _=>n - (intOf iv).toNat)
 case atStart=>exact ⟨0,Nat.zero_le _,rfl,Below.refl _ _⟩
 case round =>
  obtain ⟨j,hj,rfl,hb⟩:=hrel
  have HB:=hide hb
  by_cases hlt:j<n
  ·obtain ⟨b1,o1,rfl,x1⟩:=HA.out j (by rw [HN.out];exact hlt)
   have x2:=rangeAt_later hb x1
   have hk:=HOK.out j hlt
   generalize l.getD j default=tx at x2 hk
   obtain ⟨n1,d1,z1⟩:=tx
   have c2:=x2 1 _ rfl
   have c3:=x2 2 _ rfl
   dsimp only at hk
   clear x1 x2 hb
   have d9:decide (((j:Nat):Int)<((n:Nat):Int))=true:=decide_eq_true (by omega)
   by_cases he:d1=t
   ·subst he
    have hk2:=hk rfl
    subst hk2
    clear hk
    go_wp2_with fail
    exact ⟨⟨j+1,by omega,by simp,HB.out⟩,by simp only [intOf];omega⟩
   ·clear hk
    have he2:¬ d1.toList=t.toList:=fun e=>he ((toList_inj _ _).1 e)
    go_wp2_with fail
    exact ⟨⟨j+1,by omega,by simp,HB.out⟩,by simp only [intOf];omega⟩
  ·have d9:decide (((j:Nat):Int)<((n:Nat):Int))=false:=decide_eq_false (by omega)
   clear hb
   go_wp2_with fail
   go_ret
   exact ⟨rfl,HB.out⟩
end Go.Proofs.YtncigfibncmioaaGreatDoor
