/-
  PROVED HERE: what the program's function object of the index's reader answers, whatever its function value reads, or at which place it gives up.
-/
import Derived.Test.YtncigfibncmioaaGreatDoorMark
import Derived.Test.YtncigfibncmioaaGreatDoorPrintLib
import Derived.Shelf.Slices.Turned
import Derived.Shelf.Slices.Clone
import Derived.Shelf.Slices.Cells
import Derived.Test.YtncigfibncmioaaGreatDoorProg
import Derived.Test.YtncigfibncmioaaGreatDoorKPick
import Derived.Deep.MidRow
namespace Go.Proofs.YtncigfibncmioaaGreatDoor
open Go.RowKit
theorem heap_setCells_other {g h:Nat}:∀ (vs:List Value) (o:Nat) (w:World),h ≠ g → (w.setCells g o vs).heap[h]? = w.heap[h]?
 | [],_,_,_=>rfl
 | v :: vs,o,w,hn=>(heap_setCells_other vs (o + 1) (w.setCell ⟨g,o,none⟩ v) hn).trans (heap_setCell_other _ _ _ _ hn)
theorem setCells_rowF (g:Nat) (T:TypeId):∀ (vs:List Value) (o:Nat) (w:World) (cur:Array Value),w.heap[g]? = some (.cells cur T (0,0)) → o + vs.length ≤ cur.size →
  ∃ cur',(w.setCells g o vs).heap[g]? = some (.cells cur' T (0,0)) ∧ cur'.size = cur.size ∧ (∀ j,j < o → cur'[j]? = cur[j]?) ∧ (∀ j,j < vs.length → cur'[o + j]? = vs[j]?) ∧ (∀ j,o + vs.length ≤ j → cur'[j]? = cur[j]?)
 | [],o,w,cur,h,_=>⟨cur,h,rfl,fun _ _=>rfl,fun j hj=>by simp at hj,fun _ _=>rfl⟩
 | v :: vs,o,w,cur,h,hl=>by
  simp only [List.length_cons] at hl
  obtain ⟨cur',h1,h2,h3,h4,h5⟩:=setCells_rowF g T vs (o + 1) (w.setCell ⟨g,o,none⟩ v) _ (row_store v h) (by simp;omega)
  refine ⟨cur',h1,by simpa using h2,fun j hj=>?_,fun j hj=>?_,fun j hj=>?_⟩
  ·rw [h3 j (by omega)]
   simp [Array.getElem?_setIfInBounds]
   intro e;omega
  ·cases j with
   | zero =>
    rw [Nat.add_zero,h3 o (by omega)]
    simp [Array.getElem?_setIfInBounds]
    omega
   | succ j =>
    rw [show o + (j + 1) = o + 1 + j by omega,h4 j (by simpa using hj)]
    simp
  ·simp only [List.length_cons] at hj
   rw [h5 j (by omega)]
   simp [Array.getElem?_setIfInBounds]
   intro e;omega
end Go.Proofs.YtncigfibncmioaaGreatDoor
