/-
  PROVED HERE: an entry's cells, and which lists are an index.
-/
import Derived.Test.YtpgamoielkpakaaBuilt
import Derived.Test.YtpgamoielkpakaaOwnTag
import Derived.Test.YtpgamoielkpakaaOwnLib
import Derived.Laws.AppendOwn
namespace Go.Proofs.Ytpgamoielkpakaa
open Go.RowKit

/-- An entry's cells: the name, the digest's 32 bytes, the size. -/
def Tg.ecells (t : Tg) : List Value := (ecellsOf t.name (rd t.dig) t.size).toList
theorem Tg.ecells_len (t : Tg) : t.ecells.length = 34 := by
  show (ecellsOf t.name (rd t.dig) t.size).toList.length = 34
  rw [Array.length_toList, ecellsOf_size _ _ _ (rd_len _)]
def lastName (l : List Tg) : Nat → ByteArray
  | 0 => ⟨#[]⟩
  | k + 1 => (l.getD k default).name
/-- May entry k stand there? -/
def goodB (l : List Tg) (k : Nat) : Bool :=
  isDigB (l.getD k default).dig && (isTagB (l.getD k default).name && (!leB (l.getD k default).name (lastName l k) && (decide (0 ≤ (l.getD k default).size) && decide ((l.getD k default).size ≤ 300))))
def indexB (l : List Tg) : Bool := decide (l.length ≤ 8) && decide (∀ k, k < l.length → goodB l k = true)

theorem Try.info76 : (Try.prog.info? 76).map (fun i => (i.zero, i.size, i.bytes)) = some (some (.agg (ecellsOf ⟨#[]⟩ (Sha.zeros 32) 0)), 34, 56) := by kernel_rfl
theorem take_flat (l : List Tg) (k : Nat) (h : k < l.length) (f : Tg → List Value) : (l.take (k + 1)).flatMap f = (l.take k).flatMap f ++ f (l.getD k default) := by
  rw [List.take_succ_eq_append_getElem h, List.flatMap_append]
  simp [List.getD_eq_getElem?_getD, h]

end Go.Proofs.Ytpgamoielkpakaa
