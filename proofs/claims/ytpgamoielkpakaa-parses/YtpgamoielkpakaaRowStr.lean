/-
  PROVED HERE: rows of strings: their cells, and what is left in one from which an element was taken out.
-/
import Derived.Test.YtpgamoielkpakaaDigR
import Derived.Test.YtpgamoielkpakaaShelfS
namespace Go.Proofs.Ytpgamoielkpakaa
open Go.RowKit
theorem setCells_row (g : Nat) (T : TypeId) : ∀ (vs : List Value) (o : Nat) (w : World) (cur : Array Value), w.heap[g]? = some (.cells cur T (0, 0)) → o + vs.length ≤ cur.size →
    ∃ cur', (w.setCells g o vs).heap[g]? = some (.cells cur' T (0, 0)) ∧ cur'.size = cur.size ∧ (∀ j, j < o → cur'[j]? = cur[j]?) ∧ (∀ j, j < vs.length → cur'[o + j]? = vs[j]?)
  | [], o, w, cur, h, _ => ⟨cur, h, rfl, fun _ _ => rfl, fun j hj => by simp at hj⟩
  | v :: vs, o, w, cur, h, hl => by
    simp only [List.length_cons] at hl
    obtain ⟨cur', h1, h2, h3, h4⟩ := setCells_row g T vs (o + 1) (w.setCell ⟨g, o, none⟩ v) _ (row_store v h) (by simp; omega)
    refine ⟨cur', h1, by simpa using h2, fun j hj => ?_, fun j hj => ?_⟩
    · rw [h3 j (by omega)]
      simp [Array.getElem?_setIfInBounds]
      intro e; omega
    · cases j with
      | zero =>
        rw [Nat.add_zero, h3 o (by omega)]
        simp [Array.getElem?_setIfInBounds]
        omega
      | succ j =>
        rw [show o + (j + 1) = o + 1 + j by omega, h4 j (by simpa using hj)]
        simp
theorem below_sets {B g : Nat} (hg : B ≤ g) : ∀ (vs : List Value) (o : Nat) (w : World), Below B w (w.setCells g o vs)
  | [], _, w => Below.refl _ w
  | v :: vs, o, w => ((Below.refl B w).setCell (p := ⟨g, o, none⟩) hg v).trans (below_sets hg vs (o + 1) _)
theorem row_strs {w : World} {g : Nat} {cur : Array Value} {ms : List ByteArray} (h : w.heap[g]? = some (.cells cur 9 (0, 0))) (htk : cur.toList.take ms.length = ms.map Value.string) :
    ∀ j, j < ms.length → w.cell? ⟨g, 0 + j, none⟩ = some (.string (ms.getD j ByteArray.empty)) := by
  intro j hj
  rw [Nat.zero_add, cell_of_row w g j _ _ _ h]
  have h1 : (cur.toList.take ms.length)[j]? = (ms.map Value.string)[j]? := by rw [htk]
  rw [List.getElem?_take, if_pos hj, List.getElem?_map, List.getElem?_eq_getElem hj] at h1
  rw [← Array.getElem?_toList, h1]
  simp [List.getD_eq_getElem?_getD, List.getElem?_eq_getElem hj]
theorem strs_erase (ms : List ByteArray) (i : Nat) :
    (((Lib.strsOf (fun j => ms.getD j ByteArray.empty) ms.length).take i ++ (Lib.strsOf (fun j => ms.getD j ByteArray.empty) ms.length).drop (i + 1) ++ List.replicate (i + 1 - i) []).map encStr) = (ms.eraseIdx i).map Value.string ++ [Value.string ⟨#[]⟩] := by
  have h0 : Lib.strsOf (fun j => ms.getD j ByteArray.empty) ms.length = ms.map (fun s => s.data.toList) := by
    unfold Lib.strsOf
    apply List.ext_getElem?
    intro j
    by_cases hj : j < ms.length
    · simp [List.getElem?_map, List.getElem?_range hj, List.getD_eq_getElem?_getD, List.getElem?_eq_getElem hj]
    · simp [List.getElem?_map, List.getElem?_eq_none (show (List.range ms.length).length ≤ j by simp; omega), List.getElem?_eq_none (show ms.length ≤ j by omega)]
  have h1 : ∀ s : ByteArray, encStr s.data.toList = Value.string s := fun s => rfl
  rw [h0, show i + 1 - i = 1 by omega, List.eraseIdx_eq_take_drop_succ]
  simp only [List.map_append, List.map_take, List.map_drop, List.map_map, List.replicate_one, List.map_cons, List.map_nil]
  rfl
theorem idxFromS_cases (x : ByteArray) : ∀ (ms : List ByteArray) (j : Nat), Lib.idxFromS ms x j = -1 ∨ ∃ i, i < ms.length ∧ Lib.idxFromS ms x j = ((j + i : Nat) : Int)
  | [], _ => Or.inl rfl
  | z :: zs, j => by
    by_cases hz : z = x
    · right; exact ⟨0, by simp, by simp [Lib.idxFromS, hz]⟩
    · rcases idxFromS_cases x zs (j + 1) with h | ⟨i, hi, h⟩
      · left; simp only [Lib.idxFromS, if_neg hz, h]
      · right; exact ⟨i + 1, by simp; omega, by simp only [Lib.idxFromS, if_neg hz, h]; omega⟩
theorem idxOfS_cases (ms : List ByteArray) (x : ByteArray) : Lib.idxOfS ms x = -1 ∨ ∃ i, i < ms.length ∧ Lib.idxOfS ms x = (i : Int) := by
  rcases idxFromS_cases x ms 0 with h | ⟨i, hi, h⟩
  · exact Or.inl h
  · exact Or.inr ⟨i, hi, by unfold Lib.idxOfS; rw [h]; omega⟩
end Go.Proofs.Ytpgamoielkpakaa
