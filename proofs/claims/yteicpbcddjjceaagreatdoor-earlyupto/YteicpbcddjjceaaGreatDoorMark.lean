/-
  PROVED HERE: rows of entries that the law itself makes: made, copied, stored into.
-/
import Derived.Test.YteicpbcddjjceaaGreatDoorShelf
import Derived.Test.YteicpbcddjjceaaGreatDoorDkPure
import Derived.Laws.MakeOwn
import Derived.Laws.CopyRow
import Derived.Laws.CopyOwn
import Derived.Test.YteicpbcddjjceaaGreatDoorScanNum
namespace Go.Proofs.YteicpbcddjjceaaGreatDoor
open Go.RowKit
def rowT (ts : List Tg) : Array Value := (ts.flatMap Tg.cells).toArray
theorem flatT3 : ∀ (ts : List Tg) (j : Nat), (ts.flatMap Tg.cells)[j]? = (ts[j / 3]?).bind fun t => t.cells[j % 3]?
  | [], j => by simp
  | t :: ts, j => by
    rw [List.flatMap_cons]
    by_cases h : j < 3
    · rw [List.getElem?_append_left (by simpa [Tg.cells] using h), show j / 3 = 0 by omega, show j % 3 = j by omega]
      rfl
    · rw [List.getElem?_append_right (by simp [Tg.cells]; omega), show t.cells.length = 3 from rfl, flatT3 ts (j - 3), show j / 3 = (j - 3) / 3 + 1 by omega, show j % 3 = (j - 3) % 3 by omega]
      rfl
theorem flat3_len (ts : List Tg) : (ts.flatMap Tg.cells).length = ts.length * 3 := by
  induction ts with
  | nil => rfl
  | cons t ts ih => rw [List.flatMap_cons, List.length_append, ih, List.length_cons, show t.cells.length = 3 from rfl]; omega
theorem rowT_size (ts : List Tg) : (rowT ts).size = ts.length * 3 := by rw [rowT, List.size_toArray, flat3_len]
theorem rowT_at (ts : List Tg) (j : Nat) : (rowT ts)[j]? = (ts[j / 3]?).bind fun t => t.cells[j % 3]? := by rw [rowT, List.getElem?_toArray, flatT3]
theorem rowT_cells {w : World} {g : Nat} {ts : List Tg} {t : TypeId} {fr : Nat × Nat} (h : w.heap[g]? = some (.cells (rowT ts) t fr)) (i : Nat) (hi : i < ts.length) : w.rangeAt g (i * 3) (ts.getD i default).cells := by
  intro j v hj
  have hj3 : j < 3 := by
    have := (List.getElem?_eq_some_iff.1 hj).1
    simpa [Tg.cells] using this
  rw [cell_of_row w g (i * 3 + j) _ _ _ h, rowT_at, show (i * 3 + j) / 3 = i by omega, show (i * 3 + j) % 3 = j by omega, List.getElem?_eq_getElem hi]
  have e : ts.getD i default = ts[i] := by rw [List.getD_eq_getElem?_getD, List.getElem?_eq_getElem hi]; rfl
  rw [e] at hj
  exact hj
theorem rowT_tags {w : World} {g : Nat} {l r : List Tg} {t : TypeId} {fr : Nat × Nat} (h : w.heap[g]? = some (.cells (rowT (l ++ r)) t fr)) : TagsAt w (some ⟨g, 0, none⟩) l := by
  intro i hi
  refine ⟨g, 0, rfl, ?_⟩
  have := rowT_cells h i (by rw [List.length_append]; omega)
  rw [Nat.zero_add]
  have e : (l ++ r).getD i default = l.getD i default := by rw [List.getD_eq_getElem?_getD, List.getD_eq_getElem?_getD, List.getElem?_append_left hi]
  rwa [e] at this
theorem rowT_set {w : World} {g : Nat} {ts : List Tg} {t : TypeId} (h : w.heap[g]? = some (.cells (rowT ts) t (0, 0))) (i : Nat) (hi : i < ts.length) (m : Tg) : (w.setCells g (i * 3) m.cells).heap[g]? = some (.cells (rowT (ts.set i m)) t (0, 0)) := by
  have h3 := row_store (i := i * 3 + 1 + 1) (Value.int .i64 m.size) (row_store (i := i * 3 + 1) (.string m.dig) (row_store (i := i * 3) (.string m.name) h))
  refine h3.trans ?_
  congr 2
  apply Array.ext_getElem?
  intro j
  rw [rowT_at, Array.getElem?_setIfInBounds, Array.getElem?_setIfInBounds, Array.getElem?_setIfInBounds]
  have hs := rowT_size ts
  simp only [Array.size_setIfInBounds, hs]
  by_cases e : j / 3 = i
  · have hj : j = i * 3 + j % 3 := by omega
    have hm : j % 3 = 0 ∨ j % 3 = 1 ∨ j % 3 = 2 := by omega
    rw [e, List.getElem?_set_self hi]
    rcases hm with hm | hm | hm
    · rw [if_neg (by omega), if_neg (by omega), if_pos (by omega), if_pos (by omega), hm]; rfl
    · rw [if_neg (by omega), if_pos (by omega), if_pos (by omega), hm]; rfl
    · rw [if_pos (by omega), if_pos (by omega), hm]; rfl
  · rw [if_neg (by omega), if_neg (by omega), if_neg (by omega), List.getElem?_set_ne (fun h => e h.symm), rowT_at]
theorem madeT (n : Nat) : madeCells (Value.agg (default : Tg).cells.toArray).cells (n * 3) = rowT (List.replicate n default) := by
  apply Array.ext_getElem?
  intro j
  rw [rowT_at]
  by_cases h : j < n * 3
  · have hm : j % 3 = 0 ∨ j % 3 = 1 ∨ j % 3 = 2 := by omega
    rw [List.getElem?_replicate, if_pos (by omega)]
    have e : (madeCells (Value.agg (default : Tg).cells.toArray).cells (n * 3))[j]? = some ((Value.agg (default : Tg).cells.toArray).cells[j % 3]!) := by
      simp [madeCells, h]
      rfl
    rw [e]
    rcases hm with hm | hm | hm <;> rw [hm] <;> rfl
  · rw [List.getElem?_replicate, if_neg (by omega), Array.getElem?_eq_none (by rw [size_madeCells]; omega)]
    rfl
theorem Tryz.info26b : (Tryz.prog.info? 89).map (fun i => (i.zero, i.size, i.bytes)) = some (some (.agg (default : Tg).cells.toArray), 3, 40) := by kernel_rfl
theorem run_copy3 (w : World) (ty : TypeId) (g dLen dCap sLen sCap : Nat) (a : Addr) (cur : Array Value) (cs : List Value) (hg : w.heap[g]? = some (.cells cur 89 (0, 0))) (hle : sLen ≤ dLen) (hn : cs.length = sLen * 3)
    (hsrc : ∀ j v, cs[j]? = some v → w.cell? (a.add j) = some v) (hfit : cs.length ≤ cur.size) (h1 : ∀ v ∈ cs, v.oneCell' = true) :
    (Builtin.copy_ #[35, 35] ty #[.slice (some ⟨g, 0, none⟩) dLen dCap, .slice (some a) sLen sCap]).run Tryz.prog w = .ok (goInt sLen) (w.setRow g (cs ++ cur.toList.drop cs.length).toArray) := by
  have hl := run_loadCells_list (P := Tryz.prog) w a cs hsrc
  have hst := run_storeCells_at Tryz.prog g 0 89 cs 0 cur w hg (by simpa using hfit) h1
  obtain ⟨i0, hi, hz0, hz1, hz2⟩ := info_parts Tryz.info26b
  have hmin : Nat.min sLen dLen = sLen := Nat.min_eq_left hle
  simp [Builtin.copy_, run_underlying Tryz.underlying35, Builtin.lenOf, Builtin.firstCells, sizeOf, typeInfo, hi, hz1, hmin, ← hn, hl, hst]
theorem run_copy0 (w : World) (ty : TypeId) (g dLen dCap sCap : Nat) (oa : Option Addr) : (Builtin.copy_ #[35, 35] ty #[.slice (some ⟨g, 0, none⟩) dLen dCap, .slice oa 0 sCap]).run Tryz.prog w = .ok (goInt 0) w := by
  obtain ⟨i0, hi, hz0, hz1, hz2⟩ := info_parts Tryz.info26b
  have hmin : Nat.min 0 dLen = 0 := Nat.zero_min _
  cases oa <;> simp [Builtin.copy_, run_underlying Tryz.underlying35, Builtin.lenOf, Builtin.firstCells, sizeOf, typeInfo, hi, hmin, loadCells, loadCellsFrom, storeCells]
/-- The law's own copy of the list: laid over the first places of a new row. -/
theorem copied (w : World) (ty : TypeId) (g dLen dCap sCap : Nat) (oa : Option Addr) (l r : List Tg) (hl : l.length ≤ dLen) (hr : l.length ≤ r.length) (hg : w.heap[g]? = some (.cells (rowT r) 89 (0, 0))) (ha : TagsAt w oa l) :
    ∃ w', (Builtin.copy_ #[35, 35] ty #[.slice (some ⟨g, 0, none⟩) dLen dCap, .slice oa l.length sCap]).run Tryz.prog w = .ok (goInt l.length) w' ∧ w'.heap[g]? = some (.cells (rowT (l ++ r.drop l.length)) 89 (0, 0)) ∧ Below g w w' := by
  by_cases h0 : l.length = 0
  · obtain rfl : l = [] := List.eq_nil_of_length_eq_zero h0
    refine ⟨w, run_copy0 w ty g dLen dCap sCap oa, ?_, Below.refl _ _⟩
    simpa using hg
  · obtain ⟨b, o, rfl, _⟩ := ha 0 (by omega)
    have hcs : ∀ j v, (l.flatMap Tg.cells)[j]? = some v → w.cell? ((⟨b, o, none⟩ : Addr).add j) = some v := by
      intro j v hj
      have hjl : j < l.length * 3 := by
        have := (List.getElem?_eq_some_iff.1 hj).1
        rwa [flat3_len] at this
      obtain ⟨b', o', e, hr⟩ := ha (j / 3) (by omega)
      injection e with e
      injection e with e1 e2
      subst e1 e2
      rw [flatT3, List.getElem?_eq_getElem (show j / 3 < l.length by omega)] at hj
      have e3 : l.getD (j / 3) default = l[j / 3]'(by omega) := by rw [List.getD_eq_getElem?_getD, List.getElem?_eq_getElem (show j / 3 < l.length by omega)]; rfl
      have := hr (j % 3) v (by rw [e3]; exact hj)
      rw [Addr.add_mid]
      rwa [show o + j / 3 * 3 + j % 3 = o + j by omega] at this
    have hone : ∀ v ∈ l.flatMap Tg.cells, v.oneCell' = true := by
      intro v hv
      obtain ⟨t, _, hv⟩ := List.mem_flatMap.1 hv
      simp only [Tg.cells, List.mem_cons, List.not_mem_nil, or_false] at hv
      rcases hv with rfl | rfl | rfl <;> rfl
    refine ⟨_, run_copy3 w ty g dLen dCap l.length sCap ⟨b, o, none⟩ (rowT r) (l.flatMap Tg.cells) hg hl (flat3_len l) hcs (by rw [flat3_len, rowT_size]; omega) hone, ?_, ?_⟩
    · rw [setRow_heap w g _ _ 89 _ hg]
      congr 2
      have e : (rowT r).toList.drop (l.flatMap Tg.cells).length = (r.drop l.length).flatMap Tg.cells := by
        show (r.flatMap Tg.cells).drop _ = _
        apply List.ext_getElem?
        intro j
        rw [List.getElem?_drop, flatT3, flatT3, flat3_len, List.getElem?_drop, show (l.length * 3 + j) / 3 = l.length + j / 3 by omega, show (l.length * 3 + j) % 3 = j % 3 by omega]
      rw [e, rowT, List.flatMap_append]
    · exact below_setRow (Below.refl _ _) (Nat.le_refl _) _
end Go.Proofs.YteicpbcddjjceaaGreatDoor

/-
  PROVED HERE: what the program's function next of the index's scanner answers: the next token, or that it gives up at a place.
-/
namespace Go.Proofs.YteicpbcddjjceaaGreatDoor
open Go.RowKit
theorem skipS_le (t : ByteArray) (a : Nat) (h : a ≤ t.size) : skipS t a ≤ t.size := by
  rw [skipS]
  split
  · split
    · exact skipS_le t (a + 1) (by omega)
    · exact h
  · exact h
termination_by t.size - a
theorem mark_index (x : Nat) (hx : x < 256) : decide (0 ≤ Lib.indexByte [123, 125, 91, 93, 58, 44] ((x : Int).toNat.toUInt8)) = markB x := by
  have h : ∀ n, n < 256 → decide (0 ≤ Lib.indexByte [123, 125, 91, 93, 58, 44] (Nat.toUInt8 n)) = markB n := by decide +kernel
  rw [show ((x : Int).toNat) = x by omega]
  exact h x hx
def NG.says (e : Ending) (w' : World) (b : Nat) (t : ByteArray) : NG Nat → Prop
  | .tok k p n l c => e = .returned (tokV k p ((n : Nat) : Int) ⟨l.toArray⟩) ∧ ScIs w' b t c
  | .bad p => e = gaveUp p
theorem set4 {W : World} {g : Nat} {c0 c1 c2 c3 : Value} (v0 v1 v2 v3 : Value) (h : W.heap[g]? = some (.cells #[c0, c1, c2, c3] 185 (0, 0))) :
    ((((W.setCell ⟨g, 0, none⟩ v0).setCell ⟨g, 1, none⟩ v1).setCell ⟨g, 2, none⟩ v2).setCell ⟨g, 3, none⟩ v3).heap[g]? = some (.cells #[v0, v1, v2, v3] 185 (0, 0)) :=
  row_store v3 (row_store v2 (row_store v1 (row_store v0 h)))
theorem size87 (v0 v1 v2 v3 : Value) : (Tryz.prog.info? 185).map (·.size) = some (#[v0, v1, v2, v3] : Array Value).size := by kernel_rfl
theorem below_set4 {B g : Nat} (X : World) (h : B ≤ g) (v0 v1 v2 v3 : Value) : Below B X ((((X.setCell ⟨g, 0, none⟩ v0).setCell ⟨g, 1, none⟩ v1).setCell ⟨g, 2, none⟩ v2).setCell ⟨g, 3, none⟩ v3) :=
  ((((Below.refl B X).setCell (p := ⟨g, 0, none⟩) h v0).setCell (p := ⟨g, 1, none⟩) h v1).setCell (p := ⟨g, 2, none⟩) h v2).setCell (p := ⟨g, 3, none⟩) h v3
/-- The token is handed back. -/
theorem ret_tok {b a k p n c : Nat} {l : List UInt8} {t : ByteArray} {w X : World} {tmps : Array Value} (hp : tmps.getD 2 undef = .pointer (some ⟨w.heap.size, 0, none⟩)) (hX : w.grownBy X (some b))
    (hres : X.heap[w.heap.size]? = some (.cells #[.int .u8 0, .int .i64 0, .int .i64 0, .string ⟨#[]⟩] 185 (0, 0))) (hsc : ScIs X b t c) (hbl : b < w.heap.size) (hsay : nextS t a = .tok k p n l c) :
    bodyPost Tryz.prog Tryz.f102 (fun e w' => w.grownBy w' (some b) ∧ NG.says e w' b t (nextS t a)) Exit.ret { tmps := tmps, defers := [] }
      ((((X.setCell ⟨w.heap.size, 0, none⟩ (.int .u8 ((k : Nat) : Int))).setCell ⟨w.heap.size, 1, none⟩ (.int .i64 ((p : Nat) : Int))).setCell ⟨w.heap.size, 2, none⟩ (.int .i64 ((n : Nat) : Int))).setCell ⟨w.heap.size, 3, none⟩ (.string ⟨l.toArray⟩)) := by
  have hB := below_set4 X (Nat.le_refl w.heap.size) (.int .u8 ((k : Nat) : Int)) (.int .i64 ((p : Nat) : Int)) (.int .i64 ((n : Nat) : Int)) (.string ⟨l.toArray⟩)
  refine bodyPost_ret (results_cell_row Tryz.results102 _ _ w.heap.size 185 _ (0, 0) _ hp (set4 _ _ _ _ hres) Tryz.underlying185 rfl (size87 _ _ _ _)) rfl ?_
  refine ⟨grown_then hX hB, ?_⟩
  rw [hsay]
  exact ⟨rfl, (hB.block b hbl).trans hsc⟩
set_option maxHeartbeats 2000000 in
set_option maxRecDepth 100000 in
theorem next_core (b a : Nat) (t : ByteArray) (w : World) (hs : ScIs w b t a) (ha : a ≤ t.size) (ht : t.size ≤ 2000) :
    Calls Tryz.prog 102 #[.pointer (some ⟨b, 0, none⟩)] w fun e w' => w.grownBy w' (some b) ∧ (nextS t a).says e w' b t := by
  have HS := hide hs
  have hbl := lt_heap hs
  have hple := skipS_le t a ha
  have hnx : nextS t a = nextAt t (skipS t a) := rfl
  have HK := hide (skip_any b a t)
  go_enter Tryz.func102, Tryz.ntmps102
  go_wp2_with fail
  have hb0 : Below w.heap.size w (w.alloc (.cells #[.int .u8 0, .int .i64 0, .int .i64 0, .string ⟨#[]⟩] 185)) := (Below.refl _ _).alloc (Nat.le_refl _) _
  refine (HK.out _ (hs.later hb0) ha ht).mono ?_
  rintro _ w1 ⟨rfl, hg1, hsc1⟩
  dsimp only
  generalize skipS t a = p at hple hnx hsc1
  have hres : w1.heap[w.heap.size]? = some (.cells #[.int .u8 0, .int .i64 0, .int .i64 0, .string ⟨#[]⟩] 185 (0, 0)) := (hg1.block _ (by rw [size_alloc]; omega) (fun e => by injection e with e; omega)).trans (heap_alloc_new _ _)
  have HG1 := hide (grownBy_trans (grownBy_below hb0 (some b)) hg1)
  have HSC1 := hide hsc1
  have HRES := hide hres
  have HNX := hide hnx
  have c0 := hsc1.c0
  have c1 := hsc1.c1
  have cf := fun j => frozen_of_row w1 b j _ _ hsc1
  have hbl1 := lt_heap hsc1
  have hrl := lt_heap hres
  have r0 : w1.cell? ⟨w.heap.size, 0, none⟩ = some (.int .u8 0) := cell_of_row w1 _ 0 _ _ _ hres
  have r1 : w1.cell? ⟨w.heap.size, 1, none⟩ = some (.int .i64 0) := cell_of_row w1 _ 1 _ _ _ hres
  have r2 : w1.cell? ⟨w.heap.size, 2, none⟩ = some (.int .i64 0) := cell_of_row w1 _ 2 _ _ _ hres
  have r3 : w1.cell? ⟨w.heap.size, 3, none⟩ = some (.string ⟨#[]⟩) := cell_of_row w1 _ 3 _ _ _ hres
  have rf := fun j => frozen_of_row w1 w.heap.size j _ _ hres
  clear hs hg1 hsc1 hres hnx hb0 HK ha
  by_cases hlt : p < t.size
  · have e1 : ((p : Int) == (t.size : Int)) = false := by simp; omega
    obtain ⟨x, hx⟩ : ∃ x : Nat, x = (t[p]'hlt).toNat := ⟨_, rfl⟩
    have hx2 : ((t[p]'hlt).toNat : Int) = (x : Int) := by rw [hx]
    have hx256 : x < 256 := by rw [hx]; exact UInt8.toNat_lt _
    have hi := mark_index x hx256
    have hnx : nextS t a = if markB x then .tok x p 0 [] (p + 1) else if digB x then (match numS t p p 0 with | some (n, c) => .tok 48 p n [] c | none => .bad p) else if x = 34 then (match strS t (p + 1) [] with | some (l, c) => .tok 34 p 0 l c | none => .bad p) else .bad p := by
      rw [HNX.out, nextAt, dif_pos hlt, ← hx]
      rfl
    have HNX2 := hide hnx
    have HX := hide hx
    clear hx hnx HNX
    obtain ⟨ix, hix⟩ : ∃ ix, ix = Lib.indexByte [123, 125, 91, 93, 58, 44] ((x : Int).toNat.toUInt8) := ⟨_, rfl⟩
    rw [← hix] at hi
    have hcall : ∀ w, Calls Tryz.prog 65 #[.string ⟨#[123, 125, 91, 93, 58, 44]⟩, .int .u8 (x : Int)] w fun e w' => e = .returned (.int .i64 ix) ∧ w' = w := fun w => by
      have := Tryz.strings_IndexByte ⟨#[123, 125, 91, 93, 58, 44]⟩ (x : Int) w
      rw [hix]
      exact this
    have HC := hide hcall
    have HD : Hid (∀ w, Calls Tryz.prog 114 #[.int .u8 ((x : Nat) : Int)] w fun e w' => e = .returned (.bool (digB x)) ∧ w' = w) := fun w => isDigit_any x w
    clear hcall hix
    have HB1 : Hid (∀ (m : Nat) (v : Value), Below w.heap.size w1 (((w1.alloc (.cells #[.int .u8 0, .int .i64 ((p : Nat) : Int), .int .i64 0, .string ⟨#[]⟩] 185)).drewN m).setCell ⟨w1.heap.size, 0, none⟩ v)) := fun m v => (((Below.refl _ _).alloc (Nat.le_of_lt hrl) _).drewN _).setCell (p := ⟨w1.heap.size, 0, none⟩) (Nat.le_of_lt hrl) _
    have HT1 : Hid (∀ (m : Nat) (v : Value), (((w1.alloc (.cells #[.int .u8 0, .int .i64 ((p : Nat) : Int), .int .i64 0, .string ⟨#[]⟩] 185)).drewN m).setCell ⟨w1.heap.size, 0, none⟩ v).heap[w1.heap.size]? = some (.cells #[v, .int .i64 ((p : Nat) : Int), .int .i64 0, .string ⟨#[]⟩] 185 (0, 0))) := fun m v => row_store v (show ((w1.alloc (.cells #[.int .u8 0, .int .i64 ((p : Nat) : Int), .int .i64 0, .string ⟨#[]⟩] 185)).drewN m).heap[w1.heap.size]? = _ from heap_alloc_new _ _)
    have HR1 : Hid (∀ (m : Nat) (v : Value), (((w1.alloc (.cells #[.int .u8 0, .int .i64 ((p : Nat) : Int), .int .i64 0, .string ⟨#[]⟩] 185)).drewN m).setCell ⟨w1.heap.size, 0, none⟩ v).heap[w.heap.size]? = some (.cells #[.int .u8 0, .int .i64 0, .int .i64 0, .string ⟨#[]⟩] 185 (0, 0))) := fun m v => by
      rw [heap_setCell_other _ _ _ _ (by simp; omega)]
      exact (Below.heap_alloc w1 _ _ hrl).trans HRES.out
    cases hmk : markB x with
    | true =>
      rw [hmk] at hi
      have hsay : nextS t a = .tok x p 0 [] (p + 1) := by rw [HNX2.out, hmk]; rfl
      have HSAY := hide hsay
      clear hsay hmk
      go_wp2
      go_quiet (fail)
      go_wp2
      go_quiet (fail)
      go_wp2_with (go_at_call 65; refine (HC.out _).mono ?_; rintro _ w2 ⟨rfl, rfl⟩)
      rw [show ((p : Int) + 1) = ((p + 1 : Nat) : Int) by omega]
      refine ret_tok (k := x) (p := p) (n := 0) (l := []) rfl (grownBy_trans (grown_then HG1.out (HB1.out _ _)) (grownBy_set _ _ _ _)) ?_ (ScIs.set (((HB1.out _ _).block b hbl).trans HSC1.out) (p + 1)) hbl HSAY.out
      rw [heap_setCell_other _ _ _ _ (by simp; omega), heap_setCell_other _ _ _ _ (by simp; omega)]
      exact (Below.heap_alloc w1 _ _ hrl).trans HRES.out
    | false =>
      rw [hmk] at hi
      have HMK := hide hmk
      cases hdg : digB x with
      | true =>
        have HN := hide (scanNum_core b p 48 0 ⟨#[]⟩ t)
        have HD2 : Hid (∀ w, Calls Tryz.prog 114 #[.int .u8 ((x : Nat) : Int)] w fun e w' => e = .returned (.bool true) ∧ w' = w) := fun w => by
          have := HD.out w
          rwa [hdg] at this
        have hsay : nextS t a = (match numS t p p 0 with | some (n, c) => .tok 48 p n [] c | none => .bad p) := by rw [HNX2.out, hmk, hdg]; rfl
        have HSAY := hide hsay
        clear hsay hmk hdg HD
        go_wp2
        go_quiet (fail)
        go_wp2
        go_quiet (fail)
        go_wp2_with (first | (go_at_call 65; refine (HC.out _).mono ?_; rintro _ w2 ⟨rfl, rfl⟩) | (go_at_call 114; refine (HD2.out _).mono ?_; rintro _ w2 ⟨rfl, rfl⟩))
        refine (HN.out _ (((HB1.out _ _).block b hbl).trans HSC1.out) hple ht).mono ?_
        rintro e w2 ⟨hg2, hc2⟩
        have hsz2 := hg2.size
        have hss : ∀ m v, (((w1.alloc (.cells #[.int .u8 0, .int .i64 ((p : Nat) : Int), .int .i64 0, .string ⟨#[]⟩] 185)).drewN m).setCell ⟨w1.heap.size, 0, none⟩ v).heap.size = w1.heap.size + 1 := fun m v => by simp
        rw [hss] at hsz2
        have ht2 := (hg2.block w1.heap.size (by rw [hss]; omega) (fun e => by injection e with e; omega)).trans (HT1.out _ _)
        have hr2 := (hg2.block w.heap.size (by rw [hss]; omega) (fun e => by injection e with e; omega)).trans (HR1.out _ _)
        have HG2 := hide (grownBy_trans (grown_then HG1.out (HB1.out _ _)) hg2)
        rcases hc2 with ⟨n, c, hnum, rfl, hsc2⟩ | ⟨hnum, rfl⟩
        · dsimp only
          have hsay2 : nextS t a = .tok 48 p n [] c := by rw [HSAY.out, hnum]
          have HSAY2 := hide hsay2
          clear hsay2 hnum
          have HT2 := hide ht2
          have HR2 := hide hr2
          have HSC2 := hide hsc2
          have k0 : w2.cell? ⟨w1.heap.size, 0, none⟩ = some (.int .u8 48) := cell_of_row w2 _ 0 _ _ _ ht2
          have k1 : w2.cell? ⟨w1.heap.size, 1, none⟩ = some (.int .i64 ((p : Nat) : Int)) := cell_of_row w2 _ 1 _ _ _ ht2
          have k2 : w2.cell? ⟨w1.heap.size, 2, none⟩ = some (.int .i64 0) := cell_of_row w2 _ 2 _ _ _ ht2
          have k3 : w2.cell? ⟨w1.heap.size, 3, none⟩ = some (.string ⟨#[]⟩) := cell_of_row w2 _ 3 _ _ _ ht2
          have kf := fun j => frozen_of_row w2 w1.heap.size j _ _ ht2
          have s0 : w2.cell? ⟨w.heap.size, 0, none⟩ = some (.int .u8 0) := cell_of_row w2 _ 0 _ _ _ hr2
          have s1 : w2.cell? ⟨w.heap.size, 1, none⟩ = some (.int .i64 0) := cell_of_row w2 _ 1 _ _ _ hr2
          have s2 : w2.cell? ⟨w.heap.size, 2, none⟩ = some (.int .i64 0) := cell_of_row w2 _ 2 _ _ _ hr2
          have s3 : w2.cell? ⟨w.heap.size, 3, none⟩ = some (.string ⟨#[]⟩) := cell_of_row w2 _ 3 _ _ _ hr2
          have sf := fun j => frozen_of_row w2 w.heap.size j _ _ hr2
          have hne : ¬ w1.heap.size = w.heap.size := by omega
          clear ht2 hr2 hsc2 hg2 hss r0 r1 r2 r3 rf c0 c1 cf
          go_wp2
          have hX : Below w.heap.size w2 (w2.setCell ⟨w1.heap.size, 2, none⟩ (.int .i64 ((n : Nat) : Int))) := (Below.refl _ _).setCell (p := ⟨w1.heap.size, 2, none⟩) (Nat.le_of_lt hrl) _
          refine ret_tok (k := 48) (p := p) (n := n) (l := []) rfl (grown_then HG2.out hX) ?_ ((hX.block b hbl).trans HSC2.out) hbl HSAY2.out
          rw [heap_setCell_other _ _ _ _ (by simp; omega)]
          exact HR2.out
        · dsimp only [gaveUp]
          refine ⟨rfl, HG2.out, ?_⟩
          rw [HSAY.out, hnum]
          rfl
      | false =>
        have HD2 : Hid (∀ w, Calls Tryz.prog 114 #[.int .u8 ((x : Nat) : Int)] w fun e w' => e = .returned (.bool false) ∧ w' = w) := fun w => by
          have := HD.out w
          rwa [hdg] at this
        by_cases h34 : x = 34
        · have HN := hide (scanStr_core b p 34 p 0 ⟨#[]⟩ t)
          have hsay : nextS t a = (match strS t (p + 1) [] with | some (l, c) => .tok 34 p 0 l c | none => .bad p) := by rw [HNX2.out, hmk, hdg, if_pos h34]; rfl
          have HSAY := hide hsay
          subst h34
          clear hsay hmk hdg HD
          go_wp2
          go_quiet (fail)
          go_wp2
          go_quiet (fail)
          go_wp2_with (first | (go_at_call 65; refine (HC.out _).mono ?_; rintro _ w2 ⟨rfl, rfl⟩) | (go_at_call 114; refine (HD2.out _).mono ?_; rintro _ w2 ⟨rfl, rfl⟩))
          refine (HN.out _ (((HB1.out _ _).block b hbl).trans HSC1.out) hlt ht).mono ?_
          rintro e w2 ⟨hg2, hc2⟩
          have hsz2 := hg2.size
          have hss : ∀ m v, (((w1.alloc (.cells #[.int .u8 0, .int .i64 ((p : Nat) : Int), .int .i64 0, .string ⟨#[]⟩] 185)).drewN m).setCell ⟨w1.heap.size, 0, none⟩ v).heap.size = w1.heap.size + 1 := fun m v => by simp
          rw [hss] at hsz2
          have ht2 := (hg2.block w1.heap.size (by rw [hss]; omega) (fun e => by injection e with e; omega)).trans (HT1.out _ _)
          have hr2 := (hg2.block w.heap.size (by rw [hss]; omega) (fun e => by injection e with e; omega)).trans (HR1.out _ _)
          have HG2 := hide (grownBy_trans (grown_then HG1.out (HB1.out _ _)) hg2)
          rcases hc2 with ⟨l, c, hnum, rfl, hsc2⟩ | ⟨hnum, rfl⟩
          · dsimp only
            have hsay2 : nextS t a = .tok 34 p 0 l c := by rw [HSAY.out, hnum]
            have HSAY2 := hide hsay2
            clear hsay2 hnum
            have HT2 := hide ht2
            have HR2 := hide hr2
            have HSC2 := hide hsc2
            have k0 : w2.cell? ⟨w1.heap.size, 0, none⟩ = some (.int .u8 34) := cell_of_row w2 _ 0 _ _ _ ht2
            have k1 : w2.cell? ⟨w1.heap.size, 1, none⟩ = some (.int .i64 ((p : Nat) : Int)) := cell_of_row w2 _ 1 _ _ _ ht2
            have k2 : w2.cell? ⟨w1.heap.size, 2, none⟩ = some (.int .i64 0) := cell_of_row w2 _ 2 _ _ _ ht2
            have k3 : w2.cell? ⟨w1.heap.size, 3, none⟩ = some (.string ⟨#[]⟩) := cell_of_row w2 _ 3 _ _ _ ht2
            have kf := fun j => frozen_of_row w2 w1.heap.size j _ _ ht2
            have s0 : w2.cell? ⟨w.heap.size, 0, none⟩ = some (.int .u8 0) := cell_of_row w2 _ 0 _ _ _ hr2
            have s1 : w2.cell? ⟨w.heap.size, 1, none⟩ = some (.int .i64 0) := cell_of_row w2 _ 1 _ _ _ hr2
            have s2 : w2.cell? ⟨w.heap.size, 2, none⟩ = some (.int .i64 0) := cell_of_row w2 _ 2 _ _ _ hr2
            have s3 : w2.cell? ⟨w.heap.size, 3, none⟩ = some (.string ⟨#[]⟩) := cell_of_row w2 _ 3 _ _ _ hr2
            have sf := fun j => frozen_of_row w2 w.heap.size j _ _ hr2
            have hne : ¬ w1.heap.size = w.heap.size := by omega
            clear ht2 hr2 hsc2 hg2 hss r0 r1 r2 r3 rf c0 c1 cf
            go_wp2
            have hX : Below w.heap.size w2 (w2.setCell ⟨w1.heap.size, 3, none⟩ (.string ⟨l.toArray⟩)) := (Below.refl _ _).setCell (p := ⟨w1.heap.size, 3, none⟩) (Nat.le_of_lt hrl) _
            refine ret_tok (k := 34) (p := p) (n := 0) (l := l) rfl (grown_then HG2.out hX) ?_ ((hX.block b hbl).trans HSC2.out) hbl HSAY2.out
            rw [heap_setCell_other _ _ _ _ (by simp; omega)]
            exact HR2.out
          · dsimp only [gaveUp]
            refine ⟨rfl, HG2.out, ?_⟩
            rw [HSAY.out, hnum]
            rfl
        · have hsay : nextS t a = .bad p := by rw [HNX2.out, hmk, hdg, if_neg h34]; rfl
          have HSAY := hide hsay
          have e34 : ((x : Int) == 34) = false := by simp; omega
          clear hsay hmk hdg HD h34
          go_wp2
          go_quiet (fail)
          go_wp2
          go_quiet (fail)
          go_wp2_with (first | (go_at_call 65; refine (HC.out _).mono ?_; rintro _ w2 ⟨rfl, rfl⟩) | (go_at_call 114; refine (HD2.out _).mono ?_; rintro _ w2 ⟨rfl, rfl⟩) | (go_at_call 106; refine (must_bad 0 p 0 ⟨#[]⟩ _).mono ?_; rintro _ w3 ⟨rfl, hm⟩; dsimp only [gaveUp]))
          refine ⟨rfl, ?_, ?_⟩
          · have hB2 : Below w.heap.size w1 w3 := (((Below.refl _ _).alloc (Nat.le_of_lt hrl) _).drewN _).trans (hm.mono (by simp; omega))
            exact grown_then HG1.out hB2
          · rw [HSAY.out]
            rfl
  · have hpe : p = t.size := by omega
    subst hpe
    clear hlt hple
    have hsay : nextS t a = .tok 0 t.size 0 [] t.size := by rw [HNX.out, nextAt, dif_neg (by omega)]
    have HSAY := hide hsay
    clear hsay
    go_wp2
    go_quiet (fail)
    go_wp2
    have hX : Below w.heap.size w1 (((w1.alloc (.cells #[.int .u8 0, .int .i64 ((t.size : Nat) : Int), .int .i64 0, .string ⟨#[]⟩] 185)).drewN nq).setCell ⟨w1.heap.size, 0, none⟩ (.int .u8 0)) := (((Below.refl _ _).alloc (Nat.le_of_lt hrl) _).drewN nq).setCell (Nat.le_of_lt hrl) _
    refine ret_tok (k := 0) (p := t.size) (n := 0) (l := []) rfl (grown_then HG1.out hX) ?_ ((hX.block b hbl).trans HSC1.out) hbl HSAY.out
    rw [heap_setCell_other _ _ _ _ (by simp; omega)]
    exact (Below.heap_alloc w1 _ _ hrl).trans HRES.out
end Go.Proofs.YteicpbcddjjceaaGreatDoor

/-
  PROVED HERE: what the program's functions mark, version and size of the index's reader answer, or at which place they give up.
-/
namespace Go.Proofs.YteicpbcddjjceaaGreatDoor
open Go.RowKit
theorem grownBy_alloc_below {w w2 : World} {o : Obj} (h : Below (w.alloc o).heap.size (w.alloc o) w2) (r : Option Nat) : w.grownBy w2 r :=
  grownBy_trans (grownBy_below ((Below.refl _ _).alloc (Nat.le_refl _) o) r) (grownBy_below h r)
theorem ScIs.later_alloc {w w2 : World} {b a : Nat} {t : ByteArray} {o : Obj} (hs : ScIs w b t a) (h : Below (w.alloc o).heap.size (w.alloc o) w2) : ScIs w2 b t a :=
  (hs.later ((Below.refl _ _).alloc (Nat.le_refl _) o)).later h
abbrev RS (α : Type) := RG Nat α
def markS (t : ByteArray) (a kind : Nat) : RS Unit := markG (nextS t) a kind
set_option maxHeartbeats 2000000 in
set_option maxRecDepth 100000 in
theorem mark_core (b a kind : Nat) (t : ByteArray) (w : World) (hs : ScIs w b t a) (ha : a ≤ t.size) (ht : t.size ≤ 2000) :
    Calls Tryz.prog 156 #[.pointer (some ⟨b, 0, none⟩), .int .u8 ((kind : Nat) : Int)] w fun e w' => w.grownBy w' (some b) ∧ ((∃ c, markS t a kind = .ok () c ∧ e = .returned (.tuple #[]) ∧ ScIs w' b t c) ∨ (∃ p, markS t a kind = .bad p ∧ e = gaveUp p)) := by
  have HS := hide hs
  have hbl := lt_heap hs
  have HN := hide (next_core b a t w hs ha ht)
  clear hs
  go_enter Tryz.func156, Tryz.ntmps156
  go_wp2_with fail
  refine HN.out.mono ?_
  rintro e w1 ⟨hg1, hc⟩
  have hms : markS t a kind = (match nextS t a with | .tok k p _ _ c => if k = kind then .ok () c else .bad p | .bad p => .bad p) := by unfold markS markG; cases nextS t a <;> rfl
  cases hnx : nextS t a with
  | bad p =>
    rw [hnx] at hc hms
    have hc2 : e = gaveUp p := hc
    subst hc2
    dsimp only [gaveUp]
    exact ⟨rfl, hg1, Or.inr ⟨p, hms, rfl⟩⟩
  | tok k p n l c =>
    rw [hnx] at hc hms
    obtain ⟨rfl, hsc⟩ : e = .returned (tokV k p ((n : Nat) : Int) ⟨l.toArray⟩) ∧ ScIs w1 b t c := hc
    dsimp only [tokV]
    have HG1 := hide hg1
    have HSC := hide hsc
    have HMS := hide hms
    clear hg1 hsc hms hnx HN
    by_cases hk : k = kind
    · subst hk
      go_wp2_with fail
      refine (must_ok _ _ _ _ _).mono ?_
      rintro e w2 ⟨rfl, hm⟩
      dsimp only
      go_wp2_with fail
      go_end0
      have hg2 := grownBy_trans HG1.out (grownBy_alloc_below hm (some b))
      refine ⟨hg2, Or.inl ⟨c, ?_, rfl, ?_⟩⟩
      · rw [HMS.out]; simp
      · exact ScIs.later_alloc HSC.out hm
    · have hf : ((k : Int) == (kind : Int)) = false := by simp; omega
      have hf2 : decide ((k : Int) = (kind : Int)) = false := by simp; omega
      go_wp2_with fail
      have hk2 : ¬ ((k : Int) = (kind : Int)) := by omega
      (try simp only [hf, hf2])
      refine (must_bad _ _ _ _ _).mono ?_
      rintro e w2 ⟨rfl, hm⟩
      dsimp only [gaveUp]
      have hg2 := grownBy_trans HG1.out (grownBy_alloc_below hm (some b))
      exact ⟨rfl, hg2, Or.inr ⟨p, by rw [HMS.out, if_neg hk], rfl⟩⟩
end Go.Proofs.YteicpbcddjjceaaGreatDoor
