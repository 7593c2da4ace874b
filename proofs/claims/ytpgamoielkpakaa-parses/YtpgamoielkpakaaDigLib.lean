/-
  PROVED HERE: small facts on the digest by value.
-/
import Derived.Test.YtpgamoielkpakaaBase
import Derived.Test.YtpgamoielkpakaaCells
import Derived.Test.YtpgamoielkpakaaShaTwo
import Derived.Deep.RegionHeld3
namespace Go.Proofs.Ytpgamoielkpakaa
open Go.RowKit
theorem Try.info74 : (Try.prog.info? 74).map (fun i => (i.zero, i.size)) = some (some (.agg (cells8 (Sha.zeros 32))), 32) := by kernel_rfl
theorem size40_32 : (Try.prog.info? 74).map (·.size) = some 32 := by kernel_rfl
theorem alloc3 (w : World) (A B C : Obj) : (((w.alloc A).alloc B).alloc C).heap[w.heap.size + 1]? = some B ∧ (((w.alloc A).alloc B).alloc C).heap[w.heap.size + 2]? = some C := by
  have s2 := size_alloc2 w A B
  refine ⟨(Below.heap_alloc ((w.alloc A).alloc B) C (w.heap.size + 1) (by omega)).trans (heap_alloc2_new _ _ _), ?_⟩
  have := heap_alloc_new ((w.alloc A).alloc B) C
  rwa [s2] at this
end Go.Proofs.Ytpgamoielkpakaa
