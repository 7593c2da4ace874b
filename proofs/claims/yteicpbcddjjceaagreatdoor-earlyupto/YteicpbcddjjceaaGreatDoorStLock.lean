/-
  PROVED HERE: the numbers under which this program holds the library's mutex, and that it holds it so.
-/
import Derived.Test.YteicpbcddjjceaaGreatDoorProg
import Derived.Conc.MuLone
import Derived.KernelRfl
namespace Go.Proofs.YteicpbcddjjceaaGreatDoor
abbrev Tryz.muLink : Go.Conc.Locks.MuLink := { lock := 20, unlock := 21, ilock := 48, iunlock := 49, lockSlow := 87, unlockSlow := 90, disable := 83, enable := 85, acquire := 86, relMerge := 88, cas32 := 84, add32 := 89, tMutex := 65, tIMutex := 63, tPMutex := 114, tPIMutex := 161, tPI32 := 163, tUP := 165, tNoCopy := 60, tU32 := 61 }
theorem Tryz.muLib : Go.Conc.Locks.MuLib Tryz.prog Tryz.muLink :=
  ⟨Tryz.func20, Tryz.func21, Tryz.func48, Tryz.func49, Tryz.func83, Tryz.func85, Tryz.func86, Tryz.func88, Tryz.func84, Tryz.func89, Tryz.underlying63, Tryz.runUnderlying63, Tryz.sizeOf63, Tryz.isAgg63, Tryz.zeroValue63, Tryz.underlying65, Tryz.runUnderlying65, Tryz.sizeOf65, Tryz.isAgg65, Tryz.zeroValue65, Tryz.underlying114, Tryz.runUnderlying114, Tryz.sizeOf114, Tryz.isAgg114, Tryz.zeroValue114, Tryz.underlying161, Tryz.runUnderlying161, Tryz.sizeOf161, Tryz.isAgg161, Tryz.zeroValue161, Tryz.underlying163, Tryz.runUnderlying163, Tryz.sizeOf163, Tryz.isAgg163, Tryz.zeroValue163, Tryz.underlying165, Tryz.runUnderlying165, Tryz.sizeOf165, Tryz.isAgg165, Tryz.zeroValue165, Tryz.underlying60, Tryz.runUnderlying60, Tryz.sizeOf60, Tryz.isAgg60, Tryz.zeroValue60, Tryz.underlying21, Tryz.runUnderlying21, Tryz.sizeOf21, Tryz.isAgg21, Tryz.zeroValue21, by kernel_rfl⟩
end Go.Proofs.YteicpbcddjjceaaGreatDoor
