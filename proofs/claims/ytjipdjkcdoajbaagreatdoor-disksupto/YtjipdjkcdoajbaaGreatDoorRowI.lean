/-
  PROVED HERE: rows of numbers that the statement itself makes: made, copied, stored into.
-/
import Derived.Test.YtjipdjkcdoajbaaGreatDoorPdCrash
import Derived.Laws.MakeOwn
import Derived.Laws.CopyRow
import Derived.Laws.CopyOwn
namespace Go.Proofs.YtjipdjkcdoajbaaGreatDoor
open Go.RowKit
def rowI (ks : List Int) : Array Value := (ks.map fun k => Value.int .i64 k).toArray
theorem rowI_size (ks : List Int) : (rowI ks).size = ks.length := by simp [rowI]
theorem rowI_at (ks : List Int) (j : Nat) : (rowI ks)[j]? = (ks[j]?).map fun k => Value.int .i64 k := by simp [rowI]
theorem rowI_cell {w : World} {g : Nat} {ks : List Int} {t : TypeId} {fr : Nat × Nat} (h : w.heap[g]? = some (.cells (rowI ks) t fr)) (i : Nat) (hi : i < ks.length) : w.cell? ⟨g, i, none⟩ = some (.int .i64 (ks.getD i 0)) := by
  refine (cell_of_row w g i _ _ _ h).trans ?_
  rw [rowI_at, List.getElem?_eq_getElem hi, List.getD_eq_getElem?_getD, List.getElem?_eq_getElem hi]
  rfl
theorem rowI_set {w : World} {g : Nat} {ks : List Int} {t : TypeId} (h : w.heap[g]? = some (.cells (rowI ks) t (0, 0))) (i : Nat) (x : Int) : (w.setCell ⟨g, i, none⟩ (.int .i64 x)).heap[g]? = some (.cells (rowI (ks.set i x)) t (0, 0)) := by
  rw [heap_setCell_same _ g i _ _ _ h]
  congr 2
  apply Array.ext_getElem?
  intro j
  rw [rowI_at, Array.getElem?_setIfInBounds, rowI_at, rowI_size, List.getElem?_set]
  by_cases e : i = j
  · subst e
    by_cases h2 : i < ks.length <;> simp [h2]
  · simp [e]
theorem rowI_kat {S : Nat → Prop} {w : World} {g c : Nat} {l r : List Int} {fr : Nat × Nat} (h : w.heap[g]? = some (.cells (rowI (l ++ r)) 3 fr)) (hS : ¬ S g) : KAt S w (.slice (some ⟨g, 0, none⟩) l.length c) l := by
  refine ⟨_, c, rfl, fun i hi => ⟨g, 0, rfl, hS, ?_⟩⟩
  have := rowI_cell h i (by simp; omega)
  rw [Nat.zero_add, this, List.getD_eq_getElem?_getD, List.getD_eq_getElem?_getD, List.getElem?_append_left hi]
theorem madeI (n : Nat) : madeCells (Value.int .i64 0).cells (n * 1) = rowI (List.replicate n 0) := by
  apply Array.ext_getElem?
  intro j
  rw [rowI_at]
  by_cases h : j < n
  · rw [List.getElem?_replicate, if_pos h]
    have e : (madeCells (Value.int .i64 0).cells (n * 1))[j]? = some ((Value.int .i64 0).cells[j % 1]!) := by
      simp [madeCells, h]
      rfl
    rw [e, Nat.mod_one]
    rfl
  · rw [List.getElem?_replicate, if_neg h, Array.getElem?_eq_none (by rw [size_madeCells]; omega)]
    rfl
theorem Tryz.infoInt : (Tryz.prog.info? 3).map (fun i => (i.zero, i.size, i.bytes)) = some (some (.int .i64 0), 1, 8) := by kernel_rfl
theorem run_copyI (w : World) (ty : TypeId) (g dLen dCap sLen sCap : Nat) (a : Addr) (cur : Array Value) (cs : List Value) (hg : w.heap[g]? = some (.cells cur 3 (0, 0))) (hle : sLen ≤ dLen) (hn : cs.length = sLen)
    (hsrc : ∀ j v, cs[j]? = some v → w.cell? (a.add j) = some v) (hfit : cs.length ≤ cur.size) (h1 : ∀ v ∈ cs, v.oneCell' = true) :
    (Builtin.copy_ #[31, 31] ty #[.slice (some ⟨g, 0, none⟩) dLen dCap, .slice (some a) sLen sCap]).run Tryz.prog w = .ok (goInt sLen) (w.setRow g (cs ++ cur.toList.drop cs.length).toArray) := by
  have hl := run_loadCells_list (P := Tryz.prog) w a cs hsrc
  have hst := run_storeCells_at Tryz.prog g 0 3 cs 0 cur w hg (by simpa using hfit) h1
  obtain ⟨i0, hi, hz0, hz1, hz2⟩ := info_parts Tryz.infoInt
  subst hn
  have hmin : Nat.min cs.length dLen = cs.length := Nat.min_eq_left hle
  simp [Builtin.copy_, run_underlying Tryz.underlying31, Builtin.lenOf, Builtin.firstCells, sizeOf, typeInfo, hi, hz1, hmin, hl, hst]
theorem run_copyI0 (w : World) (ty : TypeId) (g dLen dCap sCap : Nat) (oa : Option Addr) : (Builtin.copy_ #[31, 31] ty #[.slice (some ⟨g, 0, none⟩) dLen dCap, .slice oa 0 sCap]).run Tryz.prog w = .ok (goInt 0) w := by
  obtain ⟨i0, hi, hz0, hz1, hz2⟩ := info_parts Tryz.infoInt
  have hmin : Nat.min 0 dLen = 0 := Nat.zero_min _
  cases oa <;> simp [Builtin.copy_, run_underlying Tryz.underlying31, Builtin.lenOf, Builtin.firstCells, sizeOf, typeInfo, hi, hmin, loadCells, loadCellsFrom, storeCells]
theorem copiedI {S : Nat → Prop} (w : World) (ty : TypeId) (g dLen dCap sCap : Nat) (oa : Option Addr) (l r : List Int) (hl : l.length ≤ dLen) (hr : l.length ≤ r.length) (hg : w.heap[g]? = some (.cells (rowI r) 3 (0, 0))) (ha : KAt S w (.slice oa l.length sCap) l) :
    ∃ w', (Builtin.copy_ #[31, 31] ty #[.slice (some ⟨g, 0, none⟩) dLen dCap, .slice oa l.length sCap]).run Tryz.prog w = .ok (goInt l.length) w' ∧ w'.heap[g]? = some (.cells (rowI (l ++ r.drop l.length)) 3 (0, 0)) ∧ Below g w w' := by
  by_cases h0 : l.length = 0
  · obtain rfl : l = [] := List.eq_nil_of_length_eq_zero h0
    refine ⟨w, run_copyI0 w ty g dLen dCap sCap oa, ?_, Below.refl _ _⟩
    simpa using hg
  · obtain ⟨oa', c', hv, hk⟩ := ha
    injection hv with hv1 hv2 hv3
    subst hv1
    obtain ⟨b, o, rfl, _, _⟩ := hk 0 (by omega)
    have hcs : ∀ j v, (l.map fun k => Value.int .i64 k)[j]? = some v → w.cell? ((⟨b, o, none⟩ : Addr).add j) = some v := by
      intro j v hj
      have hjl : j < l.length := by
        have := (List.getElem?_eq_some_iff.1 hj).1
        simpa using this
      obtain ⟨b', o', e, _, h3⟩ := hk j hjl
      injection e with e
      injection e with e1 e2
      subst e1 e2
      rw [List.getElem?_map, List.getElem?_eq_getElem hjl] at hj
      rw [List.getD_eq_getElem?_getD, List.getElem?_eq_getElem hjl] at h3
      rw [Addr.add_mid]
      rw [h3]
      exact hj
    have hone : ∀ v ∈ l.map (fun k => Value.int .i64 k), v.oneCell' = true := by
      intro v hv
      obtain ⟨t, _, rfl⟩ := List.mem_map.1 hv
      rfl
    refine ⟨_, run_copyI w ty g dLen dCap l.length sCap ⟨b, o, none⟩ (rowI r) (l.map fun k => Value.int .i64 k) hg hl (by simp) hcs (by rw [rowI_size]; simpa using hr) hone, ?_, ?_⟩
    · rw [setRow_heap w g _ _ 3 _ hg]
      congr 2
      simp [rowI]
    · exact below_setRow (Below.refl _ _) (Nat.le_refl _) _
end Go.Proofs.YtjipdjkcdoajbaaGreatDoor
