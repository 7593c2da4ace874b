/-
  PROVED HERE: small facts on rows of cells that hold numbers, and on worlds: no text of the program.
-/
import Derived.Test.YtpgamoielkpakaaSha
import Derived.WalkKit
import Derived.Laws.Rows
import Derived.Deep.WholeRow
import Derived.Deep.Draws
namespace Go.Proofs.Ytpgamoielkpakaa
open Go.RowKit

theorem hide {p : Prop} (h : p) : Hid p := h
def cells32 (ws : List Nat) : Array Value := (ws.map fun n => Value.int .u32 ((n : Nat) : Int)).toArray
def cells8 (ws : List Nat) : Array Value := (ws.map fun n => Value.int .u8 ((n : Nat) : Int)).toArray

theorem cells32_at (ws : List Nat) (i : Nat) (h : i < ws.length) : (cells32 ws)[i]? = some (.int .u32 ((ws.getD i 0 : Nat) : Int)) := by
  simp [cells32, h, List.getD_eq_getElem?_getD]
theorem cells32_set (ws : List Nat) (i n : Nat) : (cells32 ws).setIfInBounds i (.int .u32 ((n : Nat) : Int)) = cells32 (ws.set i n) := by
  simp [cells32, List.map_set]
theorem cells32_size (ws : List Nat) : (cells32 ws).size = ws.length := by simp [cells32]
theorem cells32_one (ws : List Nat) : (cells32 ws).all (·.oneCell') = true := by simp [cells32, Value.oneCell']
theorem cells8_at (ws : List Nat) (i : Nat) (h : i < ws.length) : (cells8 ws)[i]? = some (.int .u8 ((ws.getD i 0 : Nat) : Int)) := by
  simp [cells8, h, List.getD_eq_getElem?_getD]
theorem cells8_set (ws : List Nat) (i n : Nat) : (cells8 ws).setIfInBounds i (.int .u8 ((n : Nat) : Int)) = cells8 (ws.set i n) := by
  simp [cells8, List.map_set]
theorem cells8_size (ws : List Nat) : (cells8 ws).size = ws.length := by simp [cells8]
theorem cells8_one (ws : List Nat) : (cells8 ws).all (·.oneCell') = true := by simp [cells8, Value.oneCell']

/-- A store of a number into a row: the row behind it, another block, Below. -/
theorem row32_store {w : World} {g i : Nat} {ws : List Nat} {t : TypeId} (n : Nat) (hg : w.heap[g]? = some (.cells (cells32 ws) t (0, 0))) :
    (w.setCell ⟨g, i, none⟩ (.int .u32 ((n : Nat) : Int))).heap[g]? = some (.cells (cells32 (ws.set i n)) t (0, 0)) := by
  rw [heap_setCell_same w g i _ t _ hg, cells32_set]
theorem row8_store {w : World} {g i : Nat} {ws : List Nat} {t : TypeId} (n : Nat) (hg : w.heap[g]? = some (.cells (cells8 ws) t (0, 0))) :
    (w.setCell ⟨g, i, none⟩ (.int .u8 ((n : Nat) : Int))).heap[g]? = some (.cells (cells8 (ws.set i n)) t (0, 0)) := by
  rw [heap_setCell_same w g i _ t _ hg, cells8_set]
theorem row32_cell {w : World} {g : Nat} {ws : List Nat} {t : TypeId} (hg : w.heap[g]? = some (.cells (cells32 ws) t (0, 0))) (i : Nat) (h : i < ws.length) :
    w.cell? ⟨g, i, none⟩ = some (.int .u32 ((ws.getD i 0 : Nat) : Int)) := by
  rw [cell_of_row w g i _ t _ hg, cells32_at ws i h]
theorem row8_cell {w : World} {g : Nat} {ws : List Nat} {t : TypeId} (hg : w.heap[g]? = some (.cells (cells8 ws) t (0, 0))) (i : Nat) (h : i < ws.length) :
    w.cell? ⟨g, i, none⟩ = some (.int .u8 ((ws.getD i 0 : Nat) : Int)) := by
  rw [cell_of_row w g i _ t _ hg, cells8_at ws i h]
theorem bcell {B : Nat} {W w1 : World} (hb : Below B W w1) : (∀ b o, b < B → w1.cell? ⟨b, o, none⟩ = W.cell? ⟨b, o, none⟩) ∧ (∀ b o, b < B → w1.frozen? ⟨b, o, none⟩ = W.frozen? ⟨b, o, none⟩) :=
  ⟨fun b o h => hb.cell (p := ⟨b, o, none⟩) h, fun b o h => hb.frozen (p := ⟨b, o, none⟩) h⟩
theorem _root_.Go.RowKit.Below.setRow {B : Nat} {a w : World} (h : Below B a w) {g : Nat} (hg : B ≤ g) (cs : Array Value) : Below B a (w.setRow g cs) :=
  h.trans ⟨rfl, rfl, rfl, by simp, fun k hk => setRow_other w g k cs (by omega)⟩
theorem _root_.Go.RowKit.Below.drewN {B : Nat} {a w : World} (h : Below B a w) (n : Nat) : Below B a (w.drewN n) := ⟨h.os, h.tape, h.output, h.size, h.block⟩
theorem cell_off (w : World) (g i j : Nat) (v : Value) (h : ¬ i = j) : (w.setCell ⟨g, i, none⟩ v).cell? ⟨g, j, none⟩ = w.cell? ⟨g, j, none⟩ :=
  World.cell?_setCell_other w _ _ v (by simp)
theorem size_alloc (w : World) (o : Obj) : (w.alloc o).heap.size = w.heap.size + 1 := by
  show (w.heap.push o).size = _
  simp
theorem size_alloc2 (w : World) (A B : Obj) : ((w.alloc A).alloc B).heap.size = w.heap.size + 2 := by rw [size_alloc, size_alloc]
/-- Behind a callee's contract, two blocks of one's own laid ahead of it. -/
theorem below2 {w w1 : World} {A B : Obj} (hb : Below ((w.alloc A).alloc B).heap.size ((w.alloc A).alloc B) w1) :
    w.heap.size + 1 < w1.heap.size ∧ w1.heap[w.heap.size]? = some A ∧ w1.heap[w.heap.size + 1]? = some B ∧ Below w.heap.size w w1 := by
  have hs := size_alloc2 w A B
  refine ⟨by have := hb.size; omega, (hb.block _ (by omega)).trans (heap_alloc2_old _ _ _), (hb.block _ (by omega)).trans (heap_alloc2_new _ _ _), ?_⟩
  exact (((Below.refl _ _).alloc (Nat.le_refl _) _).alloc (by rw [size_alloc]; omega) _).trans (hb.mono (by omega))
theorem lt_of_row {w : World} {g : Nat} {o : Obj} (h : w.heap[g]? = some o) : g < w.heap.size := (Array.getElem?_eq_some_iff.1 h).1
end Go.Proofs.Ytpgamoielkpakaa
