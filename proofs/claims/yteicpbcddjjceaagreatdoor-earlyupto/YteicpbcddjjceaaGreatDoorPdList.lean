/-
  PROVED HERE: what the program's own function settle of changes of paths does.
-/
import Derived.Test.YteicpbcddjjceaaGreatDoorPdChg
import Derived.Shelf.SlIter.Nil
import Derived.Shelf.SortM.Plain
import Derived.Shelf.SortM.SortNone
import Derived.Test.YteicpbcddjjceaaGreatDoorProg
namespace Go.Proofs.YteicpbcddjjceaaGreatDoor
open Go.RowKit
theorem withE_le (p : ByteArray) (ob : Option Nat) : ∀ (l : List DE) (d : Bool), (withE p ob l d).length ≤ l.length + (if d then 0 else 1)
  | [], d => by
    unfold withE
    cases d <;> cases ob <;> simp
  | e :: es, d => by
    have ih := withE_le p ob es (d || lessB p e.path)
    unfold withE
    rw [List.length_append, List.length_append, List.length_cons]
    have h2 : (if e.path = p then [] else [e]).length ≤ 1 := by split <;> simp
    cases d with
    | true =>
      simp only [Bool.true_or, if_true, Bool.not_true, Bool.false_and, Bool.false_eq_true, if_false, List.length_nil] at ih ⊢
      omega
    | false =>
      cases hl : lessB p e.path with
      | true =>
        rw [hl] at ih
        cases ob with
        | none =>
          simp only [Bool.or_true, if_true, Bool.not_false, Bool.and_self, Bool.false_eq_true, if_false, List.length_nil] at ih ⊢
          omega
        | some b =>
          simp only [Bool.or_true, if_true, Bool.not_false, Bool.and_self, Bool.false_eq_true, if_false, List.length_cons, List.length_nil] at ih ⊢
          omega
      | false =>
        rw [hl] at ih
        simp only [Bool.or_self, Bool.and_false, Bool.false_eq_true, if_false, List.length_nil] at ih ⊢
        omega
theorem applyE_le (l : List DE) (c : CH) : (applyE l c).length ≤ l.length + 1 := by
  unfold applyE
  have h1 := withE_le c.frm none l true
  have h2 := withE_le c.too (some c.blk) (withE c.frm none l true) false
  simp only [if_true, Bool.false_eq_true, if_false] at h1 h2
  split <;> omega
theorem applies_le : ∀ (cs : List CH) (l : List DE), (cs.foldl applyE l).length ≤ l.length + cs.length
  | [], l => by simp
  | c :: cs, l => by
    have h1 := applies_le cs (applyE l c)
    have h2 := applyE_le l c
    simp only [List.foldl_cons, List.length_cons]
    omega
def CH0 : CH := ⟨⟨#[]⟩, ⟨#[]⟩, 0⟩
theorem flat3 : ∀ (l : List CH) (j i : Nat), j < l.length → i < 3 → (l.flatMap CH.cells)[j * 3 + i]? = (l.getD j CH0).cells[i]?
  | [], j, i, h, _ => by simp at h
  | x :: l, 0, i, _, hi => by
    have h4 : x.cells.length = 3 := rfl
    rw [List.flatMap_cons, List.getElem?_append_left (by omega)]
    simp
  | x :: l, j + 1, i, h, hi => by
    have h4 : x.cells.length = 3 := rfl
    rw [List.flatMap_cons, List.getElem?_append_right (by omega), h4, show (j + 1) * 3 + i - 3 = j * 3 + i by omega, flat3 l j i (by simpa using h) hi]
    simp
theorem ch_cell {w : World} {T : TypeId} {g : Nat} {cur : Array Value} {l : List CH} (hg : w.heap[g]? = some (.cells cur T (0, 0))) (htk : cur.toList.take (l.length * 3) = l.flatMap CH.cells) (i j : Nat) (hi : i < l.length) (hj : j < 3) : w.cell? ⟨g, i * 3 + j, none⟩ = (l.getD i CH0).cells[j]? := by
  rw [cell_of_row w g _ _ _ _ hg, ← flat3 l i j hi hj, ← htk, List.getElem?_take, if_pos (by omega)]
  simp
theorem take_snoc {l : List CH} {k : Nat} (hk : k < l.length) : l.take (k + 1) = l.take k ++ [l.getD k CH0] := by
  rw [List.take_add_one, List.getElem?_eq_getElem hk]
  simp [List.getD_eq_getElem?_getD, List.getElem?_eq_getElem hk]
/-- The sizes of paths in changes. -/
def ChFit (l : List CH) : Prop := ∀ c ∈ l, c.frm.size ≤ 1000000000 ∧ c.too.size ≤ 1000000000
theorem ChFit.at {l : List CH} (h : ChFit l) {k : Nat} (hk : k < l.length) : (l.getD k CH0).frm.size ≤ maxLen ∧ (l.getD k CH0).too.size ≤ maxLen := by
  have hm : l.getD k CH0 ∈ l := by
    rw [List.getD_eq_getElem?_getD, List.getElem?_eq_getElem hk]; simp
  have := h _ hm
  unfold maxLen
  omega
theorem PDIs.settled {w w' : World} {b mb lb : Nat} {R : RDk} {cv : Value} {l' : List DE} (h : PDIs w b R mb lb cv) (hg : w.grownBy w' (some lb)) (hm : PM Tryz.prog 9 w' lb l') :
    PDIs (w'.setCell ⟨b, 3, none⟩ (.slice none 0 0)) b { R with safe := l', chg := [] } mb lb (.slice none 0 0) ∧ Gr (fun k => k = b ∨ k = lb) w (w'.setCell ⟨b, 3, none⟩ (.slice none 0 0)) := by
  have h2 := h.setSafe hg hm
  obtain ⟨n1, n2, n3, n4, n5⟩ := h.ne
  have hset : ∀ k, k ≠ b → (w'.setCell ⟨b, 3, none⟩ (.slice none 0 0)).heap[k]? = w'.heap[k]? := fun k hk => heap_setCell_other _ _ _ _ (by simpa using hk)
  refine ⟨⟨?_, h2.now.later (hset mb (Ne.symm n4)), h2.safe.later (hset lb (Ne.symm n5)), h.apart, World.ownsRow_nil _ _ _ _⟩, ?_⟩
  · rw [heap_setCell_same _ b 3 _ _ _ h2.blk]; rfl
  · exact (Gr.of_grownBy hg (.inr rfl)).trans (Gr.of_grownBy (grownBy_set _ _ _ _) (.inl rfl))
set_option maxHeartbeats 2000000 in
set_option maxRecDepth 100000 in
theorem psettle_any (b : Nat) (R : RDk) (mb lb : Nat) (cv : Value) (n : Nat) (w : World) (h : PDIs w b R mb lb cv) (hn : n ≤ R.chg.length) (hl : R.safe.length + R.chg.length ≤ 100000000) (hcf : ChFit R.chg) :
    Calls Tryz.prog 77 #[.pointer (some ⟨b, 0, none⟩), .int .i64 (n : Int)] w fun e w' => e = .returned (.tuple #[]) ∧ PDIs w' b { R with safe := (R.chg.take n).foldl applyE R.safe, chg := [] } mb lb (.slice none 0 0) ∧ Gr (fun k => k = b ∨ k = lb) w w' := by
  have H := hide h
  have hbl := lt_of_row h.blk
  have c2 : w.cell? ⟨b, 2, none⟩ = some (.map (some lb)) := cell_of_row _ _ 2 _ _ _ h.blk
  have c3 : w.cell? ⟨b, 3, none⟩ = some cv := cell_of_row _ _ 3 _ _ _ h.blk
  have bf := fun j => frozen_of_row w b j _ _ h.blk
  obtain ⟨n1, n2, n3, n4, n5⟩ := h.ne
  rcases h.chg.2 with ⟨hcv, h0⟩ | ⟨g, cap, cur, hcv, _, hg, hlc, hm, hcs, htk⟩
  · subst hcv
    have hn0 : n = 0 := by omega
    subst hn0
    have hR := H.out.settled (grownBy_refl w _) H.out.safe
    have HR := hide hR
    clear hR n1 n2 n3 n4 n5 h
    go_enter Tryz.func77, Tryz.ntmps77
    go_wp2_with fail
    refine wp_loop_rounds 1 ?_
    rw [rounds_succ]
    go_wp2_with fail
    go_end0
    exact ⟨rfl, HR.out.1, HR.out.2⟩
  · subst hcv
    have hmx : cap ≤ 9223372036854775807 := by unfold maxLen at hm; omega
    have hncap : n ≤ cap := by omega
    have hgb : g ≠ b := fun e => n1 (by rw [e]; rfl)
    have hgl : g ≠ lb := fun e => n3 (by rw [e]; rfl)
    have HG := hide hg
    have HTK := hide htk
    have HN := hide hn
    have HCF := hide hcf
    have hgs := lt_heap hg
    have HLL := hide (applies_le)
    clear hg htk h hcs hm n1 n2 n3 n4 hcf
    generalize hcl : R.chg.length = m at hlc c3
    have HCL := hide hcl
    clear hcl
    go_enter Tryz.func77, Tryz.ntmps77
    go_wp2_with fail
    go_loopw [13] (fun iv wr => ∃ k : Nat, k ≤ n ∧ iv = .int .i64 ((k : Nat) : Int) ∧ w.grownBy wr (some lb) ∧ PM Tryz.prog 9 wr lb ((R.chg.take k).foldl applyE R.safe)) (fun iv _ => n - (intOf iv).toNat)
    case atStart => exact ⟨0, Nat.zero_le _, rfl, grownBy_refl _ _, H.out.safe⟩
    case round =>
      obtain ⟨k, hk, rfl, hgr, hpm⟩ := hrel
      have hbk : wr.heap[b]? = _ := (hgr.block b hbl (fun e => n5 (by injection e))).trans H.out.blk
      have r2 : wr.cell? ⟨b, 2, none⟩ = some (.map (some lb)) := cell_of_row _ _ 2 _ _ _ hbk
      have rf := fun j => frozen_of_row wr b j _ _ hbk
      have r3 : wr.cell? ⟨b, 3, none⟩ = some (.slice (some ⟨g, 0, none⟩) R.chg.length cap) := cell_of_row _ _ 3 _ _ _ hbk
      have HGR := hide hgr
      have HPM := hide hpm
      have hls := hgr.size
      by_cases hlt : k < n
      · have hgk : wr.heap[g]? = some (.cells cur 227 (0, 0)) := (hgr.block g hgs (fun e => hgl (by injection e))).trans HG.out
        have hkl : k < R.chg.length := Nat.lt_of_lt_of_le hlt HN.out
        obtain ⟨c, hc⟩ : ∃ c, c = R.chg.getD k CH0 := ⟨_, rfl⟩
        have t0 := ch_cell hgk HTK.out k 0 hkl (by omega)
        have t1 := ch_cell hgk HTK.out k 1 hkl (by omega)
        have t2 := ch_cell hgk HTK.out k 2 hkl (by omega)
        have hsz := HCF.out.at hkl
        have hsn := take_snoc hkl
        rw [← hc] at t0 t1 t2 hsz hsn
        obtain ⟨cf, ct, cb⟩ := c
        simp only [Nat.add_zero] at t0
        replace t0 : wr.cell? ⟨g, k * 3, none⟩ = some (.string cf) := t0
        replace t1 : wr.cell? ⟨g, k * 3 + 1, none⟩ = some (.string ct) := t1
        replace t2 : wr.cell? ⟨g, k * 3 + 2, none⟩ = some (.pointer (some ⟨cb, 0, none⟩)) := t2
        have hlen : ((R.chg.take k).foldl applyE R.safe).length ≤ 100000000 := by
          have := HLL.out (R.chg.take k) R.safe
          rw [List.length_take] at this
          omega
        have HAP := hide (fun w' (hp : PM Tryz.prog 9 w' lb ((R.chg.take k).foldl applyE R.safe)) => papply_any lb _ cf ct cb w' hp hlen hsz.1 hsz.2)
        have HSN := hide hsn
        have hglr : g < wr.heap.size := Nat.lt_of_lt_of_le hgs hls
        have hblr : b < wr.heap.size := Nat.lt_of_lt_of_le hbl hls
        have hlbr := hpm.lt
        clear hgr hpm hbk hgk hc hsz hsn hlen
        go_wp2_with fail
        go_region_with (go_at_call 135; refine (HAP.out ((wr.alloc (.cells #[.string cf, .string ct, .pointer (some ⟨cb, 0, none⟩)] 227)).drew) (HPM.out.later (Below.heap_alloc wr _ lb hlbr))).mono ?_; rintro _ w6 ⟨rfl, hm6, hg6⟩)
        all_goals
          have hfin : w.grownBy w6 (some lb) ∧ PM Tryz.prog 9 w6 lb ((R.chg.take (k + 1)).foldl applyE R.safe) := by
            refine ⟨grownBy_trans HGR.out (grownBy_trans (grownBy_below (((Below.refl _ _).alloc (Nat.le_refl _) _).drew) _) hg6), ?_⟩
            rw [HSN.out, List.foldl_append]
            exact hm6
          have HFIN := hide hfin
          clear hm6 hg6 hfin
          go_wp2_with fail
          go_roundw
          case rel => exact ⟨k + 1, by omega, by go_num, HFIN.out.1, HFIN.out.2⟩
          case measure => simp [intOf]; omega
      · have e1 : decide (((k : Nat) : Int) < ((n : Nat) : Int)) = false := by simp; omega
        have hkn : k = n := by omega
        subst hkn
        have hR := H.out.settled HGR.out HPM.out
        have HR := hide hR
        clear hgr hpm hbk hR
        go_wp2_with fail
        go_end0
        exact ⟨rfl, HR.out.1, HR.out.2⟩
end Go.Proofs.YteicpbcddjjceaaGreatDoor

/-
  PROVED HERE: the library's contracts on slices.Sorted(maps.Keys(m)) at this program's own numbers: laid in plain words.
-/
namespace Go.Proofs.YteicpbcddjjceaaGreatDoor
open Go.RowKit Go.Maps Go.Sort Go.Shelf
def Tryz.keysL_ren : Go.Shelf.Ren := ⟨fun | 7 => 154 | 10 => 199 | n => n, fun | 23 => 102 | 26 => 9 | 3 => 157 | 28 => 241 | 0 => 0 | 27 => 240 | 33 => 93 | 4 => 4 | n => n, fun | n => n⟩
theorem Tryz.keysL : Go.Proofs.SlLaysZ.n7 Tryz.prog Tryz.keysL_ren := {
  mixed := by kernel_rfl
  f7 := ⟨"maps.Keys[map[string]*blobs/disk.file,string,*blobs/disk.file]", by decide, Tryz.func154.trans (congrArg some (by kernel_rfl))⟩
  f10 := ⟨"maps.Keys[map[string]*blobs/disk.file,string,*blobs/disk.file]$1", by decide, Tryz.func199.trans (congrArg some (by kernel_rfl))⟩
  t0 := Tryz.underlying0
  a0 := Tryz.isAgg0
  z0 := Tryz.sizeOf0
  v0 := Tryz.zeroValue0
  t4 := Tryz.underlying4
  a4 := Tryz.isAgg4
  z4 := Tryz.sizeOf4
  v4 := Tryz.zeroValue4
  t23 := Tryz.underlying102
  a23 := Tryz.isAgg102
  z23 := Tryz.sizeOf102
  v23 := Tryz.zeroValue102
  t26 := Tryz.underlying9
  a26 := Tryz.isAgg9
  z26 := Tryz.sizeOf9
  v26 := Tryz.zeroValue9
  t27 := Tryz.underlying240
  a27 := Tryz.isAgg240
  z27 := Tryz.sizeOf240
  v27 := Tryz.zeroValue240
  t28 := Tryz.underlying241
  a28 := Tryz.isAgg241
  z28 := Tryz.sizeOf241
  v28 := Tryz.zeroValue241
  t33 := Tryz.underlying93
  a33 := Tryz.isAgg93
  z33 := Tryz.sizeOf93
  v33 := Tryz.zeroValue93 }
def Tryz.sortedL_ren : Go.Shelf.Ren := ⟨fun | 6 => 153 | 8 => 197 | 9 => 198 | 11 => 231 | 13 => 146 | 12 => 232 | 23 => 193 | 24 => 194 | 14 => 246 | 15 => 247 | 16 => 248 | 17 => 249 | 18 => 250 | 19 => 251 | 20 => 252 | 21 => 253 | 22 => 254 | 25 => 262 | 26 => 219 | 27 => 220 | 28 => 263 | 29 => 264 | 30 => 152 | 31 => 267 | n => n, fun | 26 => 9 | 28 => 241 | 24 => 80 | 0 => 0 | 3 => 3 | 37 => 125 | 48 => 61 | 50 => 251 | 4 => 4 | 40 => 275 | 39 => 274 | 45 => 279 | 5 => 5 | 9 => 9 | 51 => 299 | 55 => 303 | 57 => 318 | 58 => 319 | 33 => 93 | n => n, fun | n => n⟩
theorem Tryz.sortedL : Go.Proofs.SlLaysZ.n6 Tryz.prog Tryz.sortedL_ren := {
  mixed := by kernel_rfl
  f6 := ⟨"slices.Sorted[string]", by decide, Tryz.func153.trans (congrArg some (by kernel_rfl))⟩
  f8 := ⟨"slices.Collect[string]", by decide, Tryz.func197.trans (congrArg some (by kernel_rfl))⟩
  f11 := ⟨"slices.AppendSeq[[]string,string]", by decide, Tryz.func231.trans (congrArg some (by kernel_rfl))⟩
  t0 := Tryz.underlying0
  a0 := Tryz.isAgg0
  z0 := Tryz.sizeOf0
  v0 := Tryz.zeroValue0
  t24 := Tryz.underlying80
  a24 := Tryz.isAgg80
  z24 := Tryz.sizeOf80
  v24 := Tryz.zeroValue80
  t26 := Tryz.underlying9
  a26 := Tryz.isAgg9
  z26 := Tryz.sizeOf9
  v26 := Tryz.zeroValue9
  t28 := Tryz.underlying241
  a28 := Tryz.isAgg241
  z28 := Tryz.sizeOf241
  v28 := Tryz.zeroValue241
  i26 := by kernel_rfl }
def Tryz.sortL_ren : Go.Shelf.Ren := ⟨fun | 6 => 198 | 8 => 146 | 9 => 232 | 19 => 193 | 20 => 194 | 21 => 246 | 22 => 247 | 23 => 248 | 24 => 249 | 25 => 250 | 26 => 251 | 27 => 252 | 28 => 253 | 29 => 254 | 36 => 262 | 31 => 219 | 32 => 220 | 37 => 263 | 38 => 264 | 39 => 152 | 41 => 267 | n => n, fun | 27 => 80 | 29 => 9 | 3 => 3 | 32 => 125 | 26 => 80 | 0 => 0 | 44 => 61 | 46 => 251 | 4 => 4 | 36 => 275 | 35 => 274 | 41 => 279 | 5 => 5 | 9 => 9 | 53 => 299 | 57 => 303 | 63 => 318 | 64 => 319 | n => n, fun | n => n⟩
theorem Tryz.sortL : Go.Proofs.SlLaysM.n6 Tryz.prog Tryz.sortL_ren := {
  mixed := by kernel_rfl
  f6 := ⟨"slices.Sort[[]string,string]", by decide, Tryz.func198.trans (congrArg some (by kernel_rfl))⟩
  f8 := Tryz.func146.trans (congrArg some (by kernel_rfl))
  f9 := ⟨"slices.pdqsortOrdered[string]", by decide, Tryz.func232.trans (congrArg some (by kernel_rfl))⟩
  f19 := Tryz.func193.trans (congrArg some (by kernel_rfl))
  f20 := Tryz.func194.trans (congrArg some (by kernel_rfl))
  f21 := ⟨"slices.insertionSortOrdered[string]", by decide, Tryz.func246.trans (congrArg some (by kernel_rfl))⟩
  f22 := ⟨"slices.heapSortOrdered[string]", by decide, Tryz.func247.trans (congrArg some (by kernel_rfl))⟩
  f23 := ⟨"slices.breakPatternsOrdered[string]", by decide, Tryz.func248.trans (congrArg some (by kernel_rfl))⟩
  f24 := ⟨"slices.choosePivotOrdered[string]", by decide, Tryz.func249.trans (congrArg some (by kernel_rfl))⟩
  f25 := ⟨"slices.reverseRangeOrdered[string]", by decide, Tryz.func250.trans (congrArg some (by kernel_rfl))⟩
  f26 := ⟨"slices.partialInsertionSortOrdered[string]", by decide, Tryz.func251.trans (congrArg some (by kernel_rfl))⟩
  f27 := ⟨"cmp.Less[string]", by decide, Tryz.func252.trans (congrArg some (by kernel_rfl))⟩
  f28 := ⟨"slices.partitionEqualOrdered[string]", by decide, Tryz.func253.trans (congrArg some (by kernel_rfl))⟩
  f29 := ⟨"slices.partitionOrdered[string]", by decide, Tryz.func254.trans (congrArg some (by kernel_rfl))⟩
  f31 := Tryz.func219.trans (congrArg some (by kernel_rfl))
  f32 := Tryz.func220.trans (congrArg some (by kernel_rfl))
  f36 := ⟨"slices.siftDownOrdered[string]", by decide, Tryz.func262.trans (congrArg some (by kernel_rfl))⟩
  f37 := ⟨"slices.medianAdjacentOrdered[string]", by decide, Tryz.func263.trans (congrArg some (by kernel_rfl))⟩
  f38 := ⟨"slices.medianOrdered[string]", by decide, Tryz.func264.trans (congrArg some (by kernel_rfl))⟩
  f39 := ⟨"cmp.isNaN[string]", by decide, Tryz.func152.trans (congrArg some (by kernel_rfl))⟩
  f41 := ⟨"slices.order2Ordered[string]", by decide, Tryz.func267.trans (congrArg some (by kernel_rfl))⟩
  t0 := Tryz.underlying0
  a0 := Tryz.isAgg0
  z0 := Tryz.sizeOf0
  v0 := Tryz.zeroValue0
  t3 := Tryz.underlying3
  a3 := Tryz.isAgg3
  z3 := Tryz.sizeOf3
  v3 := Tryz.zeroValue3
  t4 := Tryz.underlying4
  a4 := Tryz.isAgg4
  z4 := Tryz.sizeOf4
  v4 := Tryz.zeroValue4
  t5 := Tryz.underlying5
  a5 := Tryz.isAgg5
  z5 := Tryz.sizeOf5
  v5 := Tryz.zeroValue5
  t9 := Tryz.underlying9
  a9 := Tryz.isAgg9
  z9 := Tryz.sizeOf9
  v9 := Tryz.zeroValue9
  t26 := Tryz.underlying80
  a26 := Tryz.isAgg80
  z26 := Tryz.sizeOf80
  v26 := Tryz.zeroValue80
  t27 := Tryz.underlying80
  a27 := Tryz.isAgg80
  z27 := Tryz.sizeOf80
  v27 := Tryz.zeroValue80
  t29 := Tryz.underlying9
  a29 := Tryz.isAgg9
  z29 := Tryz.sizeOf9
  v29 := Tryz.zeroValue9
  t32 := Tryz.underlying125
  a32 := Tryz.isAgg125
  z32 := Tryz.sizeOf125
  v32 := Tryz.zeroValue125
  t35 := Tryz.underlying274
  a35 := Tryz.isAgg274
  z35 := Tryz.sizeOf274
  v35 := Tryz.zeroValue274
  t36 := Tryz.underlying275
  a36 := Tryz.isAgg275
  z36 := Tryz.sizeOf275
  v36 := Tryz.zeroValue275
  t41 := Tryz.underlying279
  a41 := Tryz.isAgg279
  z41 := Tryz.sizeOf279
  v41 := Tryz.zeroValue279
  t44 := Tryz.underlying61
  a44 := Tryz.isAgg61
  z44 := Tryz.sizeOf61
  v44 := Tryz.zeroValue61
  t46 := Tryz.underlying251
  a46 := Tryz.isAgg251
  z46 := Tryz.sizeOf251
  v46 := Tryz.zeroValue251
  t53 := Tryz.underlying299
  a53 := Tryz.isAgg299
  z53 := Tryz.sizeOf299
  v53 := Tryz.zeroValue299
  t57 := Tryz.underlying303
  a57 := Tryz.isAgg303
  z57 := Tryz.sizeOf303
  v57 := Tryz.zeroValue303
  t63 := Tryz.underlying318
  a63 := Tryz.isAgg318
  z63 := Tryz.sizeOf318
  v63 := Tryz.zeroValue318
  t64 := Tryz.underlying319
  a64 := Tryz.isAgg319
  z64 := Tryz.sizeOf319
  v64 := Tryz.zeroValue319 }
theorem Tryz.sortsL (m : Nat) : AnyZ.SortsIn Tryz.prog Tryz.sortedL_ren Fence.wide m :=
  ⟨fun blk off cap ss W hH hblk hsz => callsIn_wide.2 (AnyM.slices_Sort_string Tryz.sortL blk off cap ss W hH hblk hsz),
   fun p cap W => callsIn_wide.2 (AnyM.slices_Sort_string_none Tryz.sortL p cap W)⟩

theorem Tryz.maps_KeysL (mb : Option Nat) (W : World) : CallsIn Fence.wide 5 Tryz.prog 154 #[.map mb] W fun e w' => e = .returned (.func (.func 199) #[] #[.pointer (some ⟨W.heap.size, 0, none⟩)]) ∧ w' = W.alloc (.cells #[.map mb] 102) :=
  AnyZ.keys_in Tryz.keysL Fence.wide 5 trivial rfl mb W

set_option maxHeartbeats 1000000 in
theorem Tryz.slices_SortedL {H : Type} (b nn : Nat) (D0 : DataW H) (R : Value → Option (DataW H × List MemPlace)) (w : World) (hown : w.ownsMap Tryz.prog 9 R b nn D0) (hmax : Maps.size D0 ≤ maxLen) (hbytes : Maps.size D0 * 16 ≤ 140737488355328) :
    CallsIn Fence.wide 5 Tryz.prog 153 #[.func (.func 199) #[] #[.pointer (some ⟨w.heap.size, 0, none⟩)]] (w.alloc (.cells #[.map (some b)] 102)) fun e w' => ∃ (v : Value) (ss : List (List UInt8)), e = .returned v ∧ ss.Perm (strKeys D0) ∧
      w'.ownsRow (w.alloc (.cells #[.map (some b)] 102)).heap.size 9 1 v ss.length ((ss.mergeSort (fun x y => decide (x ≤ y))).map encStr) ∧ (v = .slice none 0 0 ↔ ss = []) ∧ Below (w.alloc (.cells #[.map (some b)] 102)).heap.size (w.alloc (.cells #[.map (some b)] 102)) w' := by
  have hbl := hown.lt
  have hseq : SeqGives Fence.wide 2 Tryz.prog 199 #[.pointer (some ⟨w.heap.size, 0, none⟩)] encStr (fun ss => ss.Perm (strKeys D0)) (Maps.size D0) (w.alloc (.cells #[.map (some b)] 102)) :=
    AnyZ.keys_gives (ρ := Tryz.keysL_ren) { Tryz.keysL with } Fence.wide _ trivial rfl (by omega) w.heap.size b nn D0 _ (by simp) (by simp) (by
      obtain ⟨es, clock, hb, Ft, hs, hD⟩ := hown
      exact ⟨es, clock, (Below.heap_alloc _ _ b hbl).trans hb, Ft, hs, hD⟩)
  exact AnyZ.sorted_in Tryz.sortedL Fence.wide 5 trivial trivial trivial trivial rfl (by omega) (Tryz.sortsL _) (enters_of Tryz.func198 (by kernel_rfl) rfl) 199 #[.pointer (some ⟨w.heap.size, 0, none⟩)] trivial (enters_of Tryz.func199 (by kernel_rfl) rfl) _ _ hmax hbytes _ hseq

end Go.Proofs.YteicpbcddjjceaaGreatDoor

/-
  PROVED HERE: what the program's own List of disks answers: the paths, the lesser first.
-/
namespace Go.Proofs.YteicpbcddjjceaaGreatDoor
open Go.RowKit Go.Sort
def pathVs (l : List DE) : List Value := l.map fun e => .string e.path
theorem keys_sorted {l : List DE} (hr : Rise l) {ss : List (List UInt8)} (hp : ss.Perm (strKeys (dOf l))) : (ss.mergeSort (fun x y => decide (x ≤ y))).map encStr = pathVs l ∧ ss.length = l.length := by
  have hk : strKeys (dOf l) = l.map fun e => e.path.data.toList := by
    show (l.map dE).map (fun p => strOf p.1) = _
    rw [List.map_map]
    rfl
  have hlt : ∀ x y : ByteArray, lessB x y = true → x.data.toList < y.data.toList := by
    intro x y h
    unfold lessB at h
    rw [bytesLess_eq, ByteArray.toList_eq, ByteArray.toList_eq] at h
    exact of_decide_eq_true h
  refine ⟨?_, ?_⟩
  · rw [mergeSort_of_perm hp, hk]
    have hs : (l.map fun e => e.path.data.toList).Pairwise (fun x y => decide (x ≤ y) = true) := by
      rw [List.pairwise_map]
      refine hr.imp ?_
      intro x y hxy
      have := hlt _ _ hxy
      exact decide_eq_true (List.le_of_lt this)
    rw [List.mergeSort_of_pairwise hs, List.map_map]
    rfl
  · rw [hp.length_eq, hk, List.length_map]
set_option maxHeartbeats 1000000 in
set_option maxRecDepth 100000 in
theorem psorted_any (mb : Nat) (l : List DE) (w : World) (h : PM Tryz.prog 9 w mb l) (hl : l.length ≤ 100000000) :
    Calls Tryz.prog 100 #[.map (some mb)] w fun e w' => ∃ v, e = .returned v ∧ w'.ownsRow w.heap.size 9 1 v l.length (pathVs l) ∧ Below w.heap.size w w' := by
  have HK := hide (callsIn_wide.1 (Tryz.maps_KeysL (some mb) w))
  have hsz : Maps.size (dOf l) = l.length := by simp [dOf, Maps.size]
  have HS := hide (callsIn_wide.1 (Tryz.slices_SortedL mb l.length (dOf l) ptrRd w h (by rw [hsz]; unfold maxLen; omega) (by rw [hsz]; omega)))
  have HR := hide (h.rise (Maps.string_keyed Tryz.underlying9))
  clear h hsz
  go_enter Tryz.func100, Tryz.ntmps100
  go_wp2_with fail
  refine (HK.out).mono ?_
  rintro _ w1 ⟨rfl, hw⟩
  subst hw
  dsimp only
  go_wp2_with fail
  refine (HS.out).mono ?_
  rintro _ w2 ⟨v, ss, rfl, hperm, hrow, _, hb⟩
  dsimp only
  obtain ⟨e1, e2⟩ := keys_sorted HR.out hperm
  rw [e1, e2] at hrow
  have hfin : w2.ownsRow w.heap.size 9 1 v l.length (pathVs l) ∧ Below w.heap.size w w2 :=
    ⟨hrow.mono_base (by rw [size_alloc]; omega), ((Below.refl _ _).alloc (Nat.le_refl _) _).trans (hb.mono (by rw [size_alloc]; omega))⟩
  have HFIN := hide hfin
  clear hperm hrow hb e1 e2 hfin
  go_wp2_with fail
  go_ret
  exact ⟨_, rfl, HFIN.out.1, HFIN.out.2⟩
set_option maxHeartbeats 1000000 in
set_option maxRecDepth 100000 in
theorem plist_any (b : Nat) (R : RDk) (mb lb : Nat) (cv : Value) (w : World) (h : PDIs w b R mb lb cv) (hl : R.now.length ≤ 100000000) :
    Calls Tryz.prog 56 #[.pointer (some ⟨b, 0, none⟩)] w fun e w' => ∃ v, e = .returned v ∧ w'.ownsRow w.heap.size 9 1 v R.now.length (pathVs R.now) ∧ Below w.heap.size w w' := by
  have c1 : w.cell? ⟨b, 1, none⟩ = some (.map (some mb)) := cell_of_row _ _ 1 _ _ _ h.blk
  have HS := hide (psorted_any mb R.now w h.now hl)
  clear h
  go_enter Tryz.func56, Tryz.ntmps56
  go_wp2_with fail
  refine (HS.out).mono ?_
  rintro _ w2 ⟨v, rfl, hrow, hb⟩
  dsimp only
  have HR := hide hrow
  have HB := hide hb
  clear hrow hb
  go_wp2_with fail
  go_ret
  exact ⟨_, rfl, HR.out, HB.out⟩
end Go.Proofs.YteicpbcddjjceaaGreatDoor
