/-
  PROVED HERE: rows of entries that the law itself makes: made, copied, stored into.
-/
import Derived.Test.YteicpbcddjjceaaGreatDoorDig
import Derived.Test.YteicpbcddjjceaaGreatDoorKPick
import Derived.Laws.MakeOwn
import Derived.Laws.CopyRow
import Derived.Laws.CopyOwn
namespace Go.Proofs.YteicpbcddjjceaaGreatDoor
open Go.RowKit
def rowT (ts : List Tg) : Array Value := (ts.flatMap Tg.cells).toArray
theorem flatT3 : ∀ (ts : List Tg) (j : Nat), (ts.flatMap Tg.cells)[j]? = (ts[j / 3]?).bind fun t => t.cells[j % 3]?
  | [], j => by simp
  | t :: ts, j => by
    rw [List.flatMap_cons]
    by_cases h : j < 3
    · rw [List.getElem?_append_left (by simpa [Tg.cells] using h), show j / 3 = 0 by omega, show j % 3 = j by omega]
      rfl
    · rw [List.getElem?_append_right (by simp [Tg.cells]; omega), show t.cells.length = 3 from rfl, flatT3 ts (j - 3), show j / 3 = (j - 3) / 3 + 1 by omega, show j % 3 = (j - 3) % 3 by omega]
      rfl
theorem flat3_len (ts : List Tg) : (ts.flatMap Tg.cells).length = ts.length * 3 := by
  induction ts with
  | nil => rfl
  | cons t ts ih => rw [List.flatMap_cons, List.length_append, ih, List.length_cons, show t.cells.length = 3 from rfl]; omega
theorem rowT_size (ts : List Tg) : (rowT ts).size = ts.length * 3 := by rw [rowT, List.size_toArray, flat3_len]
theorem rowT_at (ts : List Tg) (j : Nat) : (rowT ts)[j]? = (ts[j / 3]?).bind fun t => t.cells[j % 3]? := by rw [rowT, List.getElem?_toArray, flatT3]
theorem rowT_cells {w : World} {g : Nat} {ts : List Tg} {t : TypeId} {fr : Nat × Nat} (h : w.heap[g]? = some (.cells (rowT ts) t fr)) (i : Nat) (hi : i < ts.length) : w.rangeAt g (i * 3) (ts.getD i default).cells := by
  intro j v hj
  have hj3 : j < 3 := by
    have := (List.getElem?_eq_some_iff.1 hj).1
    simpa [Tg.cells] using this
  rw [cell_of_row w g (i * 3 + j) _ _ _ h, rowT_at, show (i * 3 + j) / 3 = i by omega, show (i * 3 + j) % 3 = j by omega, List.getElem?_eq_getElem hi]
  have e : ts.getD i default = ts[i] := by rw [List.getD_eq_getElem?_getD, List.getElem?_eq_getElem hi]; rfl
  rw [e] at hj
  exact hj
theorem rowT_tags {w : World} {g : Nat} {l r : List Tg} {t : TypeId} {fr : Nat × Nat} (h : w.heap[g]? = some (.cells (rowT (l ++ r)) t fr)) : TagsAt w (some ⟨g, 0, none⟩) l := by
  intro i hi
  refine ⟨g, 0, rfl, ?_⟩
  have := rowT_cells h i (by rw [List.length_append]; omega)
  rw [Nat.zero_add]
  have e : (l ++ r).getD i default = l.getD i default := by rw [List.getD_eq_getElem?_getD, List.getD_eq_getElem?_getD, List.getElem?_append_left hi]
  rwa [e] at this
theorem rowT_set {w : World} {g : Nat} {ts : List Tg} {t : TypeId} (h : w.heap[g]? = some (.cells (rowT ts) t (0, 0))) (i : Nat) (hi : i < ts.length) (m : Tg) : (w.setCells g (i * 3) m.cells).heap[g]? = some (.cells (rowT (ts.set i m)) t (0, 0)) := by
  have h3 := row_store (i := i * 3 + 1 + 1) (Value.int .i64 m.size) (row_store (i := i * 3 + 1) (.string m.dig) (row_store (i := i * 3) (.string m.name) h))
  refine h3.trans ?_
  congr 2
  apply Array.ext_getElem?
  intro j
  rw [rowT_at, Array.getElem?_setIfInBounds, Array.getElem?_setIfInBounds, Array.getElem?_setIfInBounds]
  have hs := rowT_size ts
  simp only [Array.size_setIfInBounds, hs]
  by_cases e : j / 3 = i
  · have hj : j = i * 3 + j % 3 := by omega
    have hm : j % 3 = 0 ∨ j % 3 = 1 ∨ j % 3 = 2 := by omega
    rw [e, List.getElem?_set_self hi]
    rcases hm with hm | hm | hm
    · rw [if_neg (by omega), if_neg (by omega), if_pos (by omega), if_pos (by omega), hm]; rfl
    · rw [if_neg (by omega), if_pos (by omega), if_pos (by omega), hm]; rfl
    · rw [if_pos (by omega), if_pos (by omega), hm]; rfl
  · rw [if_neg (by omega), if_neg (by omega), if_neg (by omega), List.getElem?_set_ne (fun h => e h.symm), rowT_at]
theorem madeT (n : Nat) : madeCells (Value.agg (default : Tg).cells.toArray).cells (n * 3) = rowT (List.replicate n default) := by
  apply Array.ext_getElem?
  intro j
  rw [rowT_at]
  by_cases h : j < n * 3
  · have hm : j % 3 = 0 ∨ j % 3 = 1 ∨ j % 3 = 2 := by omega
    rw [List.getElem?_replicate, if_pos (by omega)]
    have e : (madeCells (Value.agg (default : Tg).cells.toArray).cells (n * 3))[j]? = some ((Value.agg (default : Tg).cells.toArray).cells[j % 3]!) := by
      simp [madeCells, h]
      rfl
    rw [e]
    rcases hm with hm | hm | hm <;> rw [hm] <;> rfl
  · rw [List.getElem?_replicate, if_neg (by omega), Array.getElem?_eq_none (by rw [size_madeCells]; omega)]
    rfl
theorem Tryz.info26b : (Tryz.prog.info? 89).map (fun i => (i.zero, i.size, i.bytes)) = some (some (.agg (default : Tg).cells.toArray), 3, 40) := by kernel_rfl
theorem run_copy3 (w : World) (ty : TypeId) (g dLen dCap sLen sCap : Nat) (a : Addr) (cur : Array Value) (cs : List Value) (hg : w.heap[g]? = some (.cells cur 89 (0, 0))) (hle : sLen ≤ dLen) (hn : cs.length = sLen * 3)
    (hsrc : ∀ j v, cs[j]? = some v → w.cell? (a.add j) = some v) (hfit : cs.length ≤ cur.size) (h1 : ∀ v ∈ cs, v.oneCell' = true) :
    (Builtin.copy_ #[35, 35] ty #[.slice (some ⟨g, 0, none⟩) dLen dCap, .slice (some a) sLen sCap]).run Tryz.prog w = .ok (goInt sLen) (w.setRow g (cs ++ cur.toList.drop cs.length).toArray) := by
  have hl := run_loadCells_list (P := Tryz.prog) w a cs hsrc
  have hst := run_storeCells_at Tryz.prog g 0 89 cs 0 cur w hg (by simpa using hfit) h1
  obtain ⟨i0, hi, hz0, hz1, hz2⟩ := info_parts Tryz.info26b
  have hmin : Nat.min sLen dLen = sLen := Nat.min_eq_left hle
  simp [Builtin.copy_, run_underlying Tryz.underlying35, Builtin.lenOf, Builtin.firstCells, sizeOf, typeInfo, hi, hz1, hmin, ← hn, hl, hst]
theorem run_copy0 (w : World) (ty : TypeId) (g dLen dCap sCap : Nat) (oa : Option Addr) : (Builtin.copy_ #[35, 35] ty #[.slice (some ⟨g, 0, none⟩) dLen dCap, .slice oa 0 sCap]).run Tryz.prog w = .ok (goInt 0) w := by
  obtain ⟨i0, hi, hz0, hz1, hz2⟩ := info_parts Tryz.info26b
  have hmin : Nat.min 0 dLen = 0 := Nat.zero_min _
  cases oa <;> simp [Builtin.copy_, run_underlying Tryz.underlying35, Builtin.lenOf, Builtin.firstCells, sizeOf, typeInfo, hi, hmin, loadCells, loadCellsFrom, storeCells]
/-- The law's own copy of the list: laid over the first places of a new row. -/
theorem copied (w : World) (ty : TypeId) (g dLen dCap sCap : Nat) (oa : Option Addr) (l r : List Tg) (hl : l.length ≤ dLen) (hr : l.length ≤ r.length) (hg : w.heap[g]? = some (.cells (rowT r) 89 (0, 0))) (ha : TagsAt w oa l) :
    ∃ w', (Builtin.copy_ #[35, 35] ty #[.slice (some ⟨g, 0, none⟩) dLen dCap, .slice oa l.length sCap]).run Tryz.prog w = .ok (goInt l.length) w' ∧ w'.heap[g]? = some (.cells (rowT (l ++ r.drop l.length)) 89 (0, 0)) ∧ Below g w w' := by
  by_cases h0 : l.length = 0
  · obtain rfl : l = [] := List.eq_nil_of_length_eq_zero h0
    refine ⟨w, run_copy0 w ty g dLen dCap sCap oa, ?_, Below.refl _ _⟩
    simpa using hg
  · obtain ⟨b, o, rfl, _⟩ := ha 0 (by omega)
    have hcs : ∀ j v, (l.flatMap Tg.cells)[j]? = some v → w.cell? ((⟨b, o, none⟩ : Addr).add j) = some v := by
      intro j v hj
      have hjl : j < l.length * 3 := by
        have := (List.getElem?_eq_some_iff.1 hj).1
        rwa [flat3_len] at this
      obtain ⟨b', o', e, hr⟩ := ha (j / 3) (by omega)
      injection e with e
      injection e with e1 e2
      subst e1 e2
      rw [flatT3, List.getElem?_eq_getElem (show j / 3 < l.length by omega)] at hj
      have e3 : l.getD (j / 3) default = l[j / 3]'(by omega) := by rw [List.getD_eq_getElem?_getD, List.getElem?_eq_getElem (show j / 3 < l.length by omega)]; rfl
      have := hr (j % 3) v (by rw [e3]; exact hj)
      rw [Addr.add_mid]
      rwa [show o + j / 3 * 3 + j % 3 = o + j by omega] at this
    have hone : ∀ v ∈ l.flatMap Tg.cells, v.oneCell' = true := by
      intro v hv
      obtain ⟨t, _, hv⟩ := List.mem_flatMap.1 hv
      simp only [Tg.cells, List.mem_cons, List.not_mem_nil, or_false] at hv
      rcases hv with rfl | rfl | rfl <;> rfl
    refine ⟨_, run_copy3 w ty g dLen dCap l.length sCap ⟨b, o, none⟩ (rowT r) (l.flatMap Tg.cells) hg hl (flat3_len l) hcs (by rw [flat3_len, rowT_size]; omega) hone, ?_, ?_⟩
    · rw [setRow_heap w g _ _ 89 _ hg]
      congr 2
      have e : (rowT r).toList.drop (l.flatMap Tg.cells).length = (r.drop l.length).flatMap Tg.cells := by
        show (r.flatMap Tg.cells).drop _ = _
        apply List.ext_getElem?
        intro j
        rw [List.getElem?_drop, flatT3, flatT3, flat3_len, List.getElem?_drop, show (l.length * 3 + j) / 3 = l.length + j / 3 by omega, show (l.length * 3 + j) % 3 = j % 3 by omega]
      rw [e, rowT, List.flatMap_append]
    · exact below_setRow (Below.refl _ _) (Nat.le_refl _) _
end Go.Proofs.YteicpbcddjjceaaGreatDoor
