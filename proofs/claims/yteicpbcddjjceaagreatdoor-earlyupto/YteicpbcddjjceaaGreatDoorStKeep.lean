/-
  PROVED HERE: what sorted gives of no tag, and of one.
-/
import Derived.Test.YteicpbcddjjceaaGreatDoorStSort
import Derived.Test.YteicpbcddjjceaaGreatDoorOwnPrint
namespace Go.Proofs.YteicpbcddjjceaaGreatDoor
open Go.RowKit Go.Shelf Go.Maps Go.Sort
theorem allV_len {D : DataW Value} {xs : List EV} (h : AllV D xs) : xs.length = (strKeys D).length := by
  obtain ⟨ps, h1, -, rfl⟩ := h
  rw [List.length_map, ← h1.length_eq, List.length_map]
theorem allV_none {xs : List EV} (h : AllV (.map []) xs) : xs = [] := by
  have := allV_len h
  exact List.length_eq_zero_iff.1 this
theorem allV_one {name : ByteArray} {ds : List Nat} {z : Int} {xs : List EV} (h : AllV (oneT name ds z) xs) : xs.flatMap EV.cs = (ecellsOf name ds z).toList ∧ xs.length = 1 := by
  obtain ⟨ps, h1, h2, rfl⟩ := h
  have hk : strKeys (oneT name ds z) = [name.data.toList] := rfl
  rw [hk] at h1
  have h3 := List.perm_singleton.1 h1
  obtain ⟨p, rfl⟩ : ∃ p, ps = [p] := by
    have hl := congrArg List.length h3
    simp only [List.length_map, List.length_cons, List.length_nil] at hl
    exact List.length_eq_one_iff.1 hl
  simp only [List.map_cons, List.map_nil] at h3
  injection h3 with h3
  have h4 := h2 p (by simp) .nil
  rw [h3, at_one] at h4
  injection h4 with h4
  refine ⟨?_, rfl⟩
  simp only [List.map_cons, List.map_nil, List.flatMap_cons, List.flatMap_nil, List.append_nil]
  unfold EV.cs
  rw [← h4]
  rfl
theorem allE_none : AllE (.map []) := fun kl v h => by
  simp [DataW.atKey] at h
theorem allE_one (name : ByteArray) (ds : List Nat) (z : Int) (h : ds.length = 32) : AllE (oneT name ds z) := fun kl v hv => by
  simp only [oneT, DataW.atKey, List.find?_cons, List.find?_nil] at hv
  cases hs : (Lit.string name.data.toList).sameKey kl with
  | true =>
    rw [hs] at hv
    injection hv with hv
    exact ⟨name, ds, z, h, hv.symm⟩
  | false =>
    rw [hs] at hv
    cases hv
set_option maxRecDepth 100000 in
set_option maxHeartbeats 1000000 in
theorem sortedFunc_any (tb nn Bm : Nat) (D : DataW Value) (f : Value) (w : World) (h : TM w tb nn D) (hm : w.cell? ⟨Bm, 0, none⟩ = some (.map (some tb))) (hE : AllE D) (hsz : (strKeys D).length ≤ 1) :
    Calls Tryz.prog 96 #[.func (.func 151) #[] #[.pointer (some ⟨Bm, 0, none⟩)], f] w fun e w' => ∃ v xs, e = .returned v ∧ AllV D xs ∧ w'.ownsRow w.heap.size 130 34 v xs.length (xs.flatMap EV.cs) ∧ Below w.heap.size w w' := by
  have hN : Maps.size D ≤ 1000 := by
    have : Maps.size D = (strKeys D).length := by cases D <;> simp [Maps.size, strKeys]
    omega
  have HC := hide (callsIn_wide.1 (collect_in 8 (by decide) 151 #[.pointer (some ⟨Bm, 0, none⟩)] (enters_of Tryz.func151 (by kernel_rfl) rfl) (AllV D) (Maps.size D) hN w (vals_stops Fence.wide 6 trivial rfl (by decide) Bm tb nn D hE w hm h)))
  have HS := hide hsz
  clear h hm hE hsz hN
  go_enter Tryz.func96, Tryz.ntmps96
  go_wp2_with fail
  refine (HC.out).mono ?_
  rintro _ w1 ⟨v, xs, rfl, hV, hrow, hb⟩
  dsimp only
  obtain ⟨so, sc, rfl⟩ := own_sl hrow
  have HR := hide hrow
  have HV := hide hV
  have HSO := hide (sortE_one so xs.length sc (by rw [allV_len hV]; exact HS.out) f w1)
  have HB := hide hb
  clear hrow hV hb HC
  go_wp2_with fail
  refine (HSO.out).mono ?_
  rintro _ w2 ⟨rfl, rfl⟩
  dsimp only
  go_wp2_with fail
  go_ret
  exact ⟨_, xs, rfl, HV.out, HR.out, HB.out⟩
set_option maxRecDepth 100000 in
set_option maxHeartbeats 1000000 in
theorem sorted_any (tb nn : Nat) (D : DataW Value) (w : World) (h : TM w tb nn D) (hE : AllE D) (hsz : (strKeys D).length ≤ 1) :
    Calls Tryz.prog 55 #[.map (some tb)] w fun e w' => ∃ v xs, e = .returned v ∧ AllV D xs ∧ w'.ownsRow w.heap.size 130 34 v xs.length (xs.flatMap EV.cs) ∧ Below w.heap.size w w' := by
  have HVL := hide (callsIn_wide.1 (vals_in Fence.wide 3 trivial rfl (some tb) w))
  have H := hide h
  have HE := hide hE
  have HS := hide hsz
  have hmf : ∀ (fn : Fn) (first cap : Array Value) (w : World), (Instr.makeFunc fn first cap).run Tryz.prog w = .ok (.func fn first cap) w := fun _ _ _ _ => rfl
  clear h hE hsz
  go_enter Tryz.func55, Tryz.ntmps55
  go_wp2_with fail
  refine (HVL.out).mono ?_
  rintro _ w1 ⟨rfl, hw1⟩
  dsimp only
  have hb1 : Below w.heap.size w w1 := by rw [hw1]; exact (Below.refl _ _).alloc (Nat.le_refl _) _
  have hx1 : w1.heap[w.heap.size]? = some (.cells #[.map (some tb)] 120 (0, 0)) := by rw [hw1]; exact heap_alloc_new _ _
  have HSF := hide (fun f => sortedFunc_any tb nn w.heap.size D f w1 (owns_same H.out (hb1.block _ H.out.lt)) (cell_of_row _ _ 0 _ _ _ hx1) HE.out HS.out)
  have HB1 := hide hb1
  clear hb1 hx1 hw1 HVL
  go_wp2_with fail
  refine (HSF.out _).mono ?_
  rintro _ w2 ⟨v, xs, rfl, hV, hrow, hb⟩
  dsimp only
  have HR := hide hrow
  have HV := hide hV
  have HB := hide hb
  clear hrow hV hb HSF
  go_wp2_with fail
  go_ret
  have hz := HB1.out.size
  exact ⟨_, xs, rfl, HV.out, HR.out.mono_base hz, HB1.out.trans (HB.out.mono hz)⟩
end Go.Proofs.YteicpbcddjjceaaGreatDoor

/-
  PROVED HERE: what change of a store does where there was no tag and there is to be one.
-/
namespace Go.Proofs.YteicpbcddjjceaaGreatDoor
open Go.RowKit
set_option maxRecDepth 100000 in
set_option maxHeartbeats 1000000 in
theorem equal_short (b1 b2 n1 n2 : Nat) (D1 D2 : DataW Value) (w : World) (h1 : TM w b1 n1 D1) (h2 : TM w b2 n2 D2) (hne : Maps.size D1 ≠ Maps.size D2) :
    Calls Tryz.prog 167 #[.map (some b1), .map (some b2)] w fun e w' => e = .returned (.bool false) ∧ w' = w := by
  have l1 := h1.len Tryz.underlying120
  have l2 := h2.len Tryz.underlying120
  have hd : (((Maps.size D1 : Nat) : Int) == ((Maps.size D2 : Nat) : Int)) = false := by simpa using fun h => hne (by omega)
  have hd2 : ¬ ((Maps.size D1 : Nat) : Int) = ((Maps.size D2 : Nat) : Int) := by omega
  go_enter Tryz.func167, Tryz.ntmps167
  go_wp2_with fail
  go_ret
  exact ⟨rfl, rfl⟩
/-- The types of the blocks that a store's calls write. -/
def fT (T : TypeId) : Prop := T ≠ 105 ∧ T ≠ 227 ∧ T ≠ 159 ∧ T ≠ 5 ∧ T ≠ 122 ∧ T ≠ 203
/-- All other variables lie as they lay. -/
structure FT (N : Nat) (w w' : World) : Prop where
  low : ∀ k, k < N → k < w.heap.size → w'.heap[k]? = w.heap[k]?
  os : w'.os = w.os
  tape : w'.tape = w.tape
  output : w'.output = w.output
  size : w.heap.size ≤ w'.heap.size
  keep : ∀ (k : Nat) (cur : Array Value) (T : TypeId) (fr : Nat × Nat), w.heap[k]? = some (.cells cur T fr) → fT T → w'.heap[k]? = some (.cells cur T fr)
/-- What a store writes lies from N on. -/
structure NB (N : Nat) (s : PSt) (sb cb : Nat) : Prop where
  own : ∀ k, s.own k → N ≤ k
  sb : N ≤ sb
  cb : N ≤ cb
theorem NB.go {N : Nat} {s s' : PSt} {sb cb : Nat} {w w' : World} (h : NB N s sb cb) (hg : PGo s s' w w') (hN : N ≤ w.heap.size) : NB N s' sb cb := ⟨fun k hk => (hg.own k hk).elim (h.own k) (fun e => Nat.le_trans hN e), h.sb, h.cb⟩
theorem FT.refl (N : Nat) (w : World) : FT N w w := ⟨fun _ _ _ => rfl, rfl, rfl, rfl, Nat.le_refl _, fun _ _ _ _ h _ => h⟩
theorem FT.trans {N : Nat} {a b c : World} (h : FT N a b) (k : FT N b c) : FT N a c := ⟨fun i hi hs => (k.low i hi (Nat.lt_of_lt_of_le hs h.size)).trans (h.low i hi hs), k.os.trans h.os, k.tape.trans h.tape, k.output.trans h.output, Nat.le_trans h.size k.size, fun i cur T fr hi hT => k.keep i cur T fr (h.keep i cur T fr hi hT) hT⟩
theorem FT.of_below {N : Nat} {w w' : World} (h : Below w.heap.size w w') : FT N w w' := ⟨fun k _ hk => h.block k hk, h.os, h.tape, h.output, h.size, fun k _ _ _ hk _ => (h.block k (lt_heap hk)).trans hk⟩
theorem FT.of_go {N : Nat} {s s' : PSt} {w w' : World} (hi : s.In w) (ho : ∀ k, s.own k → N ≤ k) (h : PGo s s' w w') : FT N w w' := ⟨fun k hk hs => h.gr.block k hs (fun e => by have := ho k e; omega), h.gr.os, h.gr.tape, h.gr.output, h.gr.size, fun _ _ _ _ hk hT => h.keeps hi hk hT.1 hT.2.1 hT.2.2.1 hT.2.2.2.1⟩
theorem FT.put {N : Nat} {w : World} {b i : Nat} {cur : Array Value} {T : TypeId} {v : Value} (hN : N ≤ b) (hb : w.heap[b]? = some (.cells cur T (0, 0))) (hT : ¬ fT T) : FT N w (w.setCell ⟨b, i, none⟩ v) :=
  ⟨fun k hk _ => heap_setCell_other _ _ _ _ (fun e => by have e : k = b := e; omega), rfl, rfl, rfl, by simp, fun k cur' T' fr hk hT' => (heap_setCell_other _ _ _ _ (fun e => by
    have e : k = b := e
    subst e
    rw [hb] at hk
    cases hk
    exact hT hT')).trans hk⟩
/-- The cells of files that are to be written. -/
def flCells (fl : List (ByteArray × ByteArray)) : List Value := fl.flatMap fun f => [.string f.1, .string f.2]
/-- An index of one tag, as a text. -/
def oneX (name : ByteArray) (ds : List Nat) (z : Int) : ByteArray := ⟨(prTo [⟨name, dtx ds, z⟩] 1 ++ [93, 125]).toArray⟩
/-- A store stays where a row of files is written. -/
theorem StW.row {W W' : World} {sb : Nat} {s : PSt} {cb tb nc nt : Nat} {Dc Dt : DataW Value} {row : Option Nat} (h : StW W sb s cb tb nc nt Dc Dt) (hg : W.grownBy W' row) (hr : ∀ r, row = some r → (∃ cur, W.heap[r]? = some (.cells cur 203 (0, 0))) ∧ ¬ isG r) : StW W' sb s cb tb nc nt Dc Dt := by
  have hne : ∀ {x n : Nat} {k : TypeId} {D : DataW Value}, W.ownsMap Tryz.prog k heldR x n D → W'.heap[x]? = W.heap[x]? := by
    rintro x n k D hx
    refine hg.block x hx.lt (fun e => ?_)
    obtain ⟨es, clock, h1, _⟩ := hx
    obtain ⟨⟨cur, h2⟩, _⟩ := hr x e.symm
    rw [h1] at h2
    cases h2
  refine ⟨h.inn.same (fun k hk => hg.block k (h.inn.lt hk) (fun e => ?_)), h.gl.same hg.size (fun k hk => hg.block k (h.gl.lt hk) (fun e => (hr k e.symm).2 hk)), h.low, (hg.block sb (lt_heap h.blk) (fun e => ?_)).trans h.blk, owns_same h.cm (hne h.cm), owns_same h.tm (hne h.tm), h.ncb, h.ntb, h.gcb, h.gtb, h.gsb, h.ne⟩
  · obtain ⟨⟨cur, h2⟩, _⟩ := hr k e.symm
    rcases h.inn.typed hk h2 with h3 | h3 | h3 | h3 <;> exact absurd h3 (by decide)
  · obtain ⟨⟨cur, h2⟩, _⟩ := hr sb e.symm
    rw [h.blk] at h2
    injection h2 with h2
    injection h2 with _ h2
    exact absurd h2 (by decide)
theorem FT.row {N : Nat} {W W' : World} {row : Option Nat} (hg : W.grownBy W' row) (hr : ∀ r, row = some r → N ≤ r ∧ ∃ cur, W.heap[r]? = some (.cells cur 203 (0, 0))) : FT N W W' :=
  ⟨fun k hk hs => hg.block k hs (fun e => by have := (hr k e.symm).1; omega), hg.os, hg.tape, hg.output, hg.size, fun k cur T fr hk hT => (hg.block k (lt_heap hk) (fun e => by
    obtain ⟨_, c, h2⟩ := hr k e.symm
    rw [hk] at h2
    cases h2
    exact hT.2.2.2.2.2 rfl)).trans hk⟩
theorem szs_le {M : Nat} : ∀ (l : List Stp), (∀ t ∈ l, t.sz ≤ M) → szs l ≤ l.length * M
  | [], _ => by simp [szs]
  | t :: l, h => by
    have h1 := szs_le l (fun x hx => h x (by simp [hx]))
    have h2 := h t (by simp)
    unfold szs at h1 ⊢
    simp only [List.map_cons, List.sum_cons, List.length_cons]
    rw [Nat.add_mul]
    omega
theorem szs_wr_le {M : Nat} (fl : List (ByteArray × ByteArray)) (h : ∀ f ∈ fl, f.2.size ≤ M) : szs (wrS fl) ≤ fl.length * M := by
  rw [szs_wr, szs_bi, Nat.add_zero]
  have := szs_le (M := M) (apL fl) (fun t ht => by
    simp only [apL, List.mem_map, List.mem_range] at ht
    obtain ⟨i, hi, rfl⟩ := ht
    have : fl.getD i f0 ∈ fl := by rw [List.getD_eq_getElem?_getD, List.getElem?_eq_getElem hi]; exact List.getElem_mem hi
    exact h _ this)
  rwa [apL_len] at this
theorem oneX_size (name : ByteArray) (ds : List Nat) (z : Int) (hn : name.size ≤ 20) (hz : 0 ≤ z ∧ z ≤ 300) : (oneX name ds z).size ≤ 1000 := by
  have h := prTo_len [⟨name, dtx ds, z⟩] 1 (fun j hj => by
    have : j = 0 := by omega
    subst this
    exact ⟨hn, hz.1, hz.2⟩)
  unfold oneX
  rw [bytes_size, List.length_append]
  simp only [List.length_cons, List.length_nil]
  omega
theorem Tryz.infoFile : (Tryz.prog.info? 203).map (fun i => (i.zero, i.size, i.bytes)) = some (some (.agg #[.string ⟨#[]⟩, .string ⟨#[]⟩]), 2, 32) := by kernel_rfl
/-- A row of files is one that may be written. -/
theorem flCells_at (fl : List (ByteArray × ByteArray)) : ∀ i, i < fl.length → (flCells fl)[i * 2]? = some (.string (fl.getD i f0).1) ∧ (flCells fl)[i * 2 + 1]? = some (.string (fl.getD i f0).2) := by
  induction fl with
  | nil => intro i hi; cases hi
  | cons f fl ih =>
    intro i hi
    cases i with
    | zero => exact ⟨rfl, rfl⟩
    | succ i =>
      have := ih i (by simpa using hi)
      rw [show (i + 1) * 2 = i * 2 + 1 + 1 by omega]
      exact this
theorem fl_at {w : World} {B : Nat} {v : Value} {fl : List (ByteArray × ByteArray)} (h : w.ownsRow B 203 2 v fl.length (flCells fl)) : FlAt w v fl := by
  obtain ⟨hlen, h2⟩ := h
  rcases h2 with ⟨rfl, hl⟩ | ⟨g, cap, cur, rfl, _, hg, _, _, hsz, htk⟩
  · have : fl = [] := List.length_eq_zero_iff.1 hl
    subst this
    exact ⟨none, 0, rfl, fun i hi => by cases hi⟩
  · have key : ∀ j, j < fl.length * 2 → cur[j]? = (flCells fl)[j]? := by
      intro j hj
      rw [← htk, List.getElem?_take, if_pos (by omega)]
      simp
    refine ⟨_, cap, rfl, fun i hi => ⟨g, cur, (0, 0), rfl, hg, ?_, ?_⟩⟩
    · rw [cell_of_row _ _ (i * 2) _ _ _ hg, key _ (by omega)]
      exact (flCells_at fl i hi).1
    · rw [cell_of_row _ _ (i * 2 + 1) _ _ _ hg, key _ (by omega)]
      exact (flCells_at fl i hi).2
set_option maxRecDepth 100000 in
set_option maxHeartbeats 4000000 in
theorem change_one (N sb : Nat) (s : PSt) (cb tb nc nt t2 n2 Bf : Nat) (Dc : DataW Value) (fv : Value) (fl : List (ByteArray × ByteArray)) (name : ByteArray) (ds : List Nat) (z : Int) (w : World) {L C B : Nat} (h : StW w sb s cb tb nc nt Dc (.map []))
    (htm : TM w t2 n2 (oneT name ds z)) (hown2 : ¬ s.own t2) (hG2 : ¬ isG t2) (hc2 : cb ≠ t2) (hrow : w.ownsRow Bf 203 2 fv fl.length (flCells fl)) (hBf : Bf ≤ w.heap.size) (hGB : ∀ k, isG k → k < Bf) (hfl : fl.length ≤ 10) (hfp : ∀ f ∈ fl, f.1.size ≤ 1000 ∧ f.2.size ≤ 1000)
    (hds : ds.length = 32) (hlt : ∀ i, ds.getD i 0 < 256) (hn : name.size ≤ 20) (hz : 0 ≤ z ∧ z ≤ 300) (hf : DFit s.ds L C B) (hb : Bud (L + 100) (C + 100) (B + 20000)) (hN : NB N s sb cb) (hNB : N ≤ Bf) :
    Calls Tryz.prog 116 #[.pointer (some ⟨sb, 0, none⟩), fv, .map (some t2)] w fun e w' => ∃ ev k s', e = .returned ev ∧ ErrV w' ev k ∧ FT N w w' ∧ WrR s.ds (fl ++ [(indexP, oneX name ds z)]) k s'.ds ∧ ((∀ k, s'.own k → N ≤ k) ∧ s'.b = s.b) ∧
      (k = 0 → StW w' sb s' cb t2 nc n2 Dc (oneT name ds z)) ∧ (k ≠ 0 → StW w' sb s' cb tb nc nt Dc (.map [])) := by
  have HEQ := hide (equal_short t2 tb n2 nt (oneT name ds z) (.map []) w htm h.tm (by simp [oneT, Maps.size]))
  obtain ⟨fo, fc, rfl⟩ := own_sl hrow
  have c2 := cell_of_row _ _ 2 _ _ _ h.blk
  have H := hide h
  have HTM := hide htm
  have HROW := hide hrow
  clear h htm hrow
  go_enter Tryz.func116, Tryz.ntmps116
  go_wp2_with fail
  refine (HEQ.out).mono ?_
  rintro _ w0 ⟨rfl, rfl⟩
  dsimp only
  clear HEQ c2
  have HSD := hide (sorted_any t2 n2 (oneT name ds z) _ HTM.out (allE_one name ds z hds) (Nat.le_refl _))
  go_wp2_with fail
  refine (HSD.out).mono ?_
  rintro _ w1 ⟨v1, xs, rfl, hV, hrow1, hb1⟩
  dsimp only
  obtain ⟨hfm, hxl⟩ := allV_one hV
  rw [hfm, hxl] at hrow1
  have hrow2 : w1.ownsRow w0.heap.size 130 34 v1 1 ([(⟨name, dtx ds, z⟩ : Tg)].flatMap Tg.ecells) := by
    simp only [List.flatMap_cons, List.flatMap_nil, List.append_nil, Tg.ecells, rd_dtx ds hds hlt]
    exact hrow1
  have h1 := H.out.later hb1
  have HPR := hide (print_core v1 [⟨name, dtx ds, z⟩] w1 1 rfl (by decide) _ hrow2 (fun k hk => by
    have : k = 0 := by omega
    subst this
    exact ⟨hn, hz.1, hz.2⟩) h1.gl.tab)
  have HB1 := hide hb1
  clear hV hfm hxl hrow1 hrow2 hb1 h1 HSD
  go_wp2_with fail
  refine (HPR.out).mono ?_
  rintro _ w2 ⟨rfl, hb2⟩
  dsimp only
  have HB2 := hide (HB1.out.trans (hb2.mono HB1.out.size))
  have hox : (⟨(prTo [⟨name, dtx ds, z⟩] 1 ++ [93, 125]).toArray⟩ : ByteArray) = oneX name ds z := rfl
  rw [hox]
  clear hb2 HB1 HPR hox
  generalize hX : oneX name ds z = X
  have HX := hide hX
  clear hX
  obtain ⟨i0, hi, hz0, hz1, hz2⟩ := info_parts Tryz.infoFile
  have HEC := hide (new_cells w2 #[.string ⟨#[105, 110, 100, 101, 120]⟩, .string X] 203)
  have HRA := hide (ownsRow_later (ownsRow_later HROW.out HB2.out) ((Below.refl w2.heap.size w2).alloc (Nat.le_refl _) (.cells #[.string ⟨#[105, 110, 100, 101, 120]⟩, .string X] 203)))
  have hzz := HB2.out.size
  go_wp2_with (refine wpList_append_own _ rfl _ _ 201 rfl Bf 203 i0 _ 2 32 Tryz.underlying201 hi hz0 hz1 hz2 rfl (by decide) _ fl.length _ rfl HRA.out _ 1 1 [.string ⟨#[105, 110, 100, 101, 120]⟩, .string X] rfl rfl HEC.out (by simp [Value.oneCell']) (by unfold maxLen; omega) (by omega) (by simp; omega) ?_; rintro v3 w3 hv3 hg3 -; have HV3 := hide hv3; have HG3 := hide hg3; clear hv3 hg3)
  have h4 : StW w3 sb s cb tb nc nt Dc (.map []) := ((H.out.later HB2.out).later ((Below.refl _ _).alloc (Nat.le_refl _) _)).row HG3.out (fun r e => ⟨own_obj HRA.out r e, fun hG => by have := hGB r hG; have := own_ge HRA.out r e; omega⟩)
  have f4 : FT N w0 w3 := ((FT.of_below HB2.out).trans (FT.of_below ((Below.refl _ _).alloc (Nat.le_refl _) _))).trans (FT.row HG3.out (fun r e => ⟨Nat.le_trans hNB (own_ge HRA.out r e), own_obj HRA.out r e⟩))
  have t4 : TM w3 t2 n2 (oneT name ds z) := by
    have t1 : TM (w2.alloc (.cells #[.string ⟨#[105, 110, 100, 101, 120]⟩, .string X] 203)) t2 n2 (oneT name ds z) := World.ownsMap.alloc (owns_same HTM.out (HB2.out.block _ HTM.out.lt)) _
    refine owns_same t1 (HG3.out.block _ t1.lt (fun e => ?_))
    obtain ⟨es, clock, h1, _⟩ := t1
    obtain ⟨cur, h2⟩ := own_obj HRA.out _ e.symm
    rw [h1] at h2
    cases h2
  have hfr3 : w3.ownsRow Bf 203 2 v3 (fl ++ [(indexP, X)]).length (flCells (fl ++ [(indexP, X)])) := by
    have := HV3.out
    rw [List.length_append]
    simpa [flCells, indexP] using this
  have hp4 : ∀ f ∈ fl ++ [(indexP, X)], f.1.size ≤ 1000 ∧ f.2.size ≤ 1000 := by
    intro f hfm
    rcases List.mem_append.1 hfm with hfm | hfm
    · exact hfp f hfm
    · simp only [List.mem_singleton] at hfm
      subst hfm
      exact ⟨show indexP.size ≤ 1000 by decide, by rw [← HX.out]; exact oneX_size name ds z hn hz⟩
  have hl4 : (fl ++ [(indexP, X)]).length = fl.length + 1 := by simp
  have HW := hide (write_any sb s v3 (fl ++ [(indexP, X)]) w3 h4.on (fl_at hfr3) hf (by
    have h1 := szs_wr_le (M := 1000) (fl ++ [(indexP, X)]) (fun f hfm => (hp4 f hfm).2)
    have h2 := wrS_len (fl ++ [(indexP, X)])
    have h3 := biS_len (fl ++ [(indexP, X)])
    rw [hl4] at h1 h2 h3 ⊢
    exact hb.mono (by omega) (by omega) (by omega)) (by simp) (by rw [hl4]; omega) (fun f hfm => ⟨(hp4 f hfm).1, Nat.le_trans (hp4 f hfm).2 (by decide)⟩))
  have H4 := hide h4
  have F4 := hide f4
  have T4 := hide t4
  clear h4 f4 t4 hfr3 hp4 hl4 HRA HEC HV3 HG3 hf hb hfp
  go_wp2_with fail
  refine (HW.out).mono ?_
  rintro _ w5 ⟨ev, k, s', rfl, hev, hg5, hwr⟩
  dsimp only
  have HNO := hide (And.intro (hN.go hg5 (Nat.le_trans hN.sb (Nat.le_of_lt (lt_heap H4.out.blk)))).own hg5.b)
  have h5 := H4.out.go hg5
  have f5 := F4.out.trans (FT.of_go H4.out.inn hN.own hg5)
  have t5 : TM w5 t2 n2 (oneT name ds z) := owns_same T4.out (hg5.gr.block _ T4.out.lt hown2)
  have hown5 : ¬ s'.own t2 := fun e => by
    rcases hg5.own _ e with e | e
    · exact hown2 e
    · have := T4.out.lt; omega
  have H5 := hide h5
  have F5 := hide f5
  have T5 := hide t5
  have HWR := hide hwr
  clear h5 f5 t5 hwr hg5 HW
  rcases hev with ⟨rfl, rfl⟩ | ⟨hk0, sv, nm, rfl, hsv⟩
  · have c5 := cell_of_row _ _ 2 _ _ _ H5.out.blk
    have z5 := frozen_of_row _ _ 2 _ _ H5.out.blk
    go_wp2_with fail
    go_ret
    rw [HX.out]
    refine ⟨_, 0, s', rfl, .inl ⟨rfl, rfl⟩, F5.out.trans (FT.put hN.sb H5.out.blk (fun h => h.2.2.2.2.1 rfl)), HWR.out, HNO.out, fun _ => H5.out.setTags T5.out hown5 hG2 hc2, fun h => absurd rfl h⟩
  · have HSV := hide hsv
    clear hsv
    go_wp2_with fail
    go_ret
    rw [HX.out]
    exact ⟨_, k, s', rfl, .inr ⟨hk0, sv, nm, rfl, HSV.out⟩, F5.out, HWR.out, HNO.out, fun h => absurd h hk0, fun _ => H5.out⟩
end Go.Proofs.YteicpbcddjjceaaGreatDoor

/-
  PROVED HERE: what Content of a store answers.
-/
namespace Go.Proofs.YteicpbcddjjceaaGreatDoor
open Go.RowKit
/-- The content under this digest, where it is whole. -/
def conR (D : DS) (ds : List Nat) : Option ByteArray := (rdD D (cPath ds)).filter fun t => decide (Sha.digest (Sha.state t.data.toList) = ds)
theorem cPath_size (ds : List Nat) : (cPath ds).size ≤ 1000 := by
  unfold cPath
  rw [bytes_size, List.length_append, Sha.textTo_len]
  show blobsL.length + _ ≤ _
  have : blobsL.length = 6 := rfl
  omega
theorem con_s {w : World} {sb xb : Nat} {s : PSt} {ds : List Nat} (h : On w sb s) (hr : w.heap[xb]? = some (.cells (cells8 ds) 72 (0, 0))) : w.cell? ⟨sb, 0, none⟩ = some (.pointer (some ⟨s.b, 0, none⟩)) ∧ w.rangeAt xb 0 (cells8 ds).toList := by
  obtain ⟨cv, tv, hbl⟩ := h.sb
  refine ⟨cell_of_row _ _ 0 _ _ _ hbl, fun j v hj => ?_⟩
  rw [cell_of_row _ _ (0 + j) _ _ _ hr, Nat.zero_add]
  simpa using hj
theorem con_r {w : World} {xb : Nat} {ds : List Nat} (hr : w.heap[xb]? = some (.cells (cells8 ds) 72 (0, 0))) : w.rangeAt xb 0 (cells8 ds).toList := fun j v hj => by
  rw [cell_of_row _ _ (0 + j) _ _ _ hr, Nat.zero_add]
  simpa using hj
theorem size72 (ds : List Nat) (h : ds.length = 32) : (Tryz.prog.info? 72).map (·.size) = some (cells8 ds).toList.length := by rw [Array.length_toList]; exact size40 _ h
set_option maxHeartbeats 2000000 in
set_option maxRecDepth 100000 in
theorem content_any (sb : Nat) (s : PSt) (ds : List Nat) (w : World) (h : On w sb s) (hds : ds.length = 32) (hlt : ∀ i, ds.getD i 0 < 256) (hsz : ∀ t, rdD s.ds (cPath ds) = some t → t.size ≤ 140737488351232) :
    Calls Tryz.prog 40 #[.pointer (some ⟨sb, 0, none⟩), .agg (cells8 ds)] w fun e w' => e = .returned (.tuple #[.string ((conR s.ds ds).getD ⟨#[]⟩), .bool (conR s.ds ds).isSome]) ∧ PGo s s w w' := by
  have hbo : Below w.heap.size w (w.alloc (.cells (cells8 ds) 72)) := (Below.refl _ _).alloc (Nat.le_refl _) _
  have hrow : (w.alloc (.cells (cells8 ds) 72)).heap[w.heap.size]? = some (.cells (cells8 ds) 72 (0, 0)) := heap_alloc_new _ _
  obtain ⟨W, hW⟩ : ∃ W, W = w.alloc (.cells (cells8 ds) 72) := ⟨_, rfl⟩
  rw [← hW] at hbo hrow
  have hon := h.later hbo
  obtain ⟨cv, tv, hbl⟩ := hon.sb
  have c0 : W.cell? ⟨sb, 0, none⟩ = some (.pointer (some ⟨s.b, 0, none⟩)) := cell_of_row _ _ 0 _ _ _ hbl
  have HCP := hide (contentPath_any ds W.drew hds hlt)
  have HR := hide (fun (w' : World) (hb' : Below W.heap.size W w') => dkRead s (cPath ds) w' (hon.inn.later hb') (Nat.le_trans (cPath_size ds) (by decide)))
  have H0 := hide h
  have HON := hide hon
  have HW := hide hW
  have HBO := hide hbo
  have HROW := hide hrow
  have HSZ := hide hsz
  have HN := hide (fun (k : Nat) (hk : s.own k) => h.inn.lt hk)
  clear h hon hbl hW hbo hrow hsz
  go_enter Tryz.func40, Tryz.ntmps40
  go_upto_region 1 with fail
  rw [← HW.out]
  obtain ⟨xb, hxb⟩ : ∃ xb, xb = w.heap.size := ⟨_, rfl⟩
  rw [← hxb] at HROW HN ⊢
  have HXB := hide hxb
  clear hxb
  have hS0 := con_s (HON.out.later (Below.refl W.heap.size W).drew) ((((Below.refl W.heap.size W).drew).block _ (lt_heap HROW.out)).trans HROW.out)
  have u72 := Tryz.underlying72
  have i72 := size72 ds hds
  go_region_held3 (fun w' => w'.cell? ⟨sb, 0, none⟩ = some (.pointer (some ⟨s.b, 0, none⟩)) ∧ w'.rangeAt xb 0 (cells8 ds).toList) (first | exact hS3 | exact hS2 | exact hS0 | go_keep) ((first | (go_at_call 54; refine (HCP.out).mono ?_; rintro _ w1 ⟨rfl, hb1⟩; have hb3 : Below W.heap.size W w1 := ((Below.refl W.heap.size W).drew).trans hb1; have hr2 := (hb3.block _ (lt_heap HROW.out)).trans HROW.out; have hS2 := con_s (HON.out.later hb3) hr2) | (go_at_call 53; refine (HR.out _ hb3).mono ?_; rintro _ w2 ⟨v, k, rfl, hv, hk, hg, hi⟩; have hr3 := (hg.block _ (lt_heap hr2) (fun e => by have := HN.out _ e; omega)).trans hr2; have hS3 := con_s ((HON.out.later hb3).go ⟨rfl, hi, hg, fun _ hk => .inl hk⟩) hr3)))
  have hgo : PGo s s w1 w2 := ⟨rfl, hi, hg, fun _ hk => .inl hk⟩
  have HGO := hide (((PGo.refl H0.out.inn HBO.out).trans (PGo.refl HON.out.inn hb3)).trans hgo)
  have HR2 := hide hr3
  have HGL2 := hide ((HON.out.later hb3).go hgo).gl
  clear hgo hg hi HR hS0 hS2 hS3 hr2 hr3 hb1 hb3 HCP c0 u72 i72
  rcases hv with ⟨h0, rfl⟩ | ⟨h0, sv, nm, rfl, -⟩
  · have hs := hk.1 h0
    obtain ⟨t, ht⟩ := Option.isSome_iff_exists.1 hs
    have HOF := hide (of_any t w2.drew (HSZ.out t ht) (HGL2.out.later (Below.refl _ _).drew).hk)
    rw [ht]
    dsimp only [Option.getD]
    have HT := hide ht
    clear hk h0 hs ht
    obtain ⟨D, hD⟩ : ∃ D, D = Sha.digest (Sha.state t.data.toList) := ⟨_, rfl⟩
    have hl : D.length = 32 := by rw [hD]; exact Sha.dBytes_len _ _
    have hlt' : ∀ i, D.getD i 0 < 256 := by rw [hD]; exact fun i => Sha.dBytes_lt _ _ i
    rw [← hD] at HOF
    have HD := hide hD
    clear hD
    have u72 := Tryz.underlying72
    have i72 := size72 ds hds
    have hS0 := con_r ((((Below.refl w2.heap.size w2).drew).block _ (lt_heap HR2.out)).trans HR2.out)
    have heq : ∀ w, (Op.equalIn 10000 72 (.agg (cells8 D)) (.agg (cells8 ds))).run Tryz.prog w = .ok (decide (D = ds)) w := fun w => eq_dig 9998 D ds hl hds hlt' hlt w
    go_wp2_with fail
    go_region_held3 (fun w' => w'.rangeAt xb 0 (cells8 ds).toList) (first | exact hS3 | exact hS0 | go_keep) ((go_at_call 61; refine (HOF.out).mono ?_; rintro _ w3 ⟨rfl, hb3⟩; have hb4 : Below w2.heap.size w2 w3 := ((Below.refl w2.heap.size w2).drew).trans hb3; have hr3 := (hb4.block _ (lt_heap HR2.out)).trans HR2.out; have hS3 := con_r hr3))
    have HGO3 := hide (HGO.out.trans (PGo.refl HGO.out.inn hb4))
    clear hb3 hb4 hr3 hS3 hS0 HOF heq
    by_cases hq : D = ds
    · have hqd : (!decide (D = ds)) = false := by simp [hq]
      have hc : conR s.ds ds = some t := by
        unfold conR
        rw [HT.out]
        simp [← HD.out, hq]
      have HC := hide hc
      clear hc
      rw [hqd]
      clear hq hqd
      go_wp2_with fail
      refine bodyPost_ret (results_tmp2 rfl _ _ _) rfl ?_
      rw [HC.out]
      exact ⟨rfl, HGO3.out⟩
    · have hqd : (!decide (D = ds)) = true := by simp [hq]
      have hc : conR s.ds ds = none := by
        unfold conR
        rw [HT.out]
        simp [← HD.out, hq]
      have HC := hide hc
      clear hc
      rw [hqd]
      clear hq hqd
      go_wp2_with fail
      refine bodyPost_ret (results_tmp2 rfl _ _ _) rfl ?_
      rw [HC.out]
      exact ⟨rfl, HGO3.out⟩
  · have hs : rdD s.ds (cPath ds) = none := by
      cases hq : rdD s.ds (cPath ds) with
      | none => rfl
      | some t => exact absurd (hk.2 (by rw [hq]; rfl)) h0
    have hc : conR s.ds ds = none := by unfold conR; rw [hs]; rfl
    clear hk
    have u72 := Tryz.underlying72
    have i72 := size72 ds hds
    have hS0 := con_r ((((Below.refl w2.heap.size w2).drew).block _ (lt_heap HR2.out)).trans HR2.out)
    have HC := hide hc
    clear hc
    clear u72 i72 hS0
    go_wp2_with fail
    go_region
    go_wp2_with fail
    refine bodyPost_ret (results_tmp2 rfl _ _ _) rfl ?_
    rw [HC.out]
    exact ⟨rfl, HGO.out.trans (PGo.refl HGO.out.inn (Below.refl _ _).drew)⟩
end Go.Proofs.YteicpbcddjjceaaGreatDoor

/-
  PROVED HERE: what keep and Publish of a store do where there was neither the content nor a tag.
-/
namespace Go.Proofs.YteicpbcddjjceaaGreatDoor
open Go.RowKit
/-- The store has other contents. -/
theorem StW.putC {W W' : World} {sb : Nat} {s : PSt} {cb tb nc nt n' : Nat} {Dc Dt D' : DataW Value} (h : StW W sb s cb tb nc nt Dc Dt) (hg : W.grownBy W' (some cb)) (hc : CM W' cb n' D') : StW W' sb s cb tb n' nt D' Dt := by
  have hne : ∀ {k : Nat}, k ≠ cb → k < W.heap.size → W'.heap[k]? = W.heap[k]? := fun hk hl => hg.block _ hl (fun e => hk (by injection e))
  refine ⟨h.inn.same (fun k hk => hne (fun e => h.ncb (e ▸ hk)) (h.inn.lt hk)), h.gl.same hg.size (fun k hk => hne (fun e => h.gcb (e ▸ hk)) (h.gl.lt hk)), h.low, (hne (fun e => ?_) (lt_heap h.blk)).trans h.blk, hc, owns_same h.tm (hne (fun e => h.ne e.symm) h.tm.lt), h.ncb, h.ntb, h.gcb, h.gtb, h.gsb, h.ne⟩
  obtain ⟨es, clock, h1, _⟩ := h.cm
  rw [← e, h.blk] at h1
  cases h1
theorem FT.map {N : Nat} {W W' : World} {k : TypeId} {b n : Nat} {D : DataW Value} (hm : W.ownsMap Tryz.prog k heldR b n D) (hg : W.grownBy W' (some b)) (hN : N ≤ b) : FT N W W' :=
  ⟨fun k hk hs => hg.block k hs (fun e => by injection e with e; omega), hg.os, hg.tape, hg.output, hg.size, fun x cur T fr hx _ => (hg.block x (lt_heap hx) (fun e => by
    injection e with e
    subst e
    obtain ⟨es, clock, h1, _⟩ := hm
    rw [hx] at h1
    cases h1)).trans hx⟩
/-- One content more. -/
def dPut (Dc : DataW Value) (ds : List Nat) : DataW Value := Dc.put (dKey ds) (.held (.agg #[]))
set_option maxHeartbeats 4000000 in
set_option maxRecDepth 100000 in
theorem keep_new (N sb : Nat) (s : PSt) (cb tb nc nt t1 n1 : Nat) (Dc : DataW Value) (name b : ByteArray) (ds : List Nat) (w : World) {L C B : Nat} (h : StW w sb s cb tb nc nt Dc (.map []))
    (htm : TM w t1 n1 (oneT name ds 0)) (hnt : ¬ s.own t1) (hcon : conR s.ds ds = none) (hb300 : b.size ≤ 300) (hn1 : n1 ≤ 1000) (hnc : nc ≤ 1000) (hrd : ∀ t, rdD s.ds (cPath ds) = some t → t.size ≤ 140737488351232)
    (hds : ds.length = 32) (hlt : ∀ i, ds.getD i 0 < 256) (hn : name.size ≤ 20) (hf : DFit s.ds L C B) (hb : Bud (L + 100) (C + 100) (B + 20000)) (hN : NB N s sb cb) :
    Calls Tryz.prog 67 #[.pointer (some ⟨sb, 0, none⟩), .agg (cells8 ds), .string b, .map (some t1)] w fun e w' => ∃ ev k s', e = .returned ev ∧ ErrV w' ev k ∧ FT N w w' ∧ WrR s.ds [(cPath ds, b), (indexP, oneX name ds b.size)] k s'.ds ∧ ((∀ k, s'.own k → N ≤ k) ∧ s'.b = s.b) ∧
      (k = 0 → ∃ t2 n2, StW w' sb s' cb t2 (nc + 1) n2 (dPut Dc ds) (oneT name ds b.size)) ∧ (k ≠ 0 → StW w' sb s' cb tb nc nt Dc (.map [])) := by
  have hbo : Below w.heap.size w (w.alloc (.cells (cells8 ds) 72)) := (Below.refl _ _).alloc (Nat.le_refl _) _
  have hrow : (w.alloc (.cells (cells8 ds) 72)).heap[w.heap.size]? = some (.cells (cells8 ds) 72 (0, 0)) := heap_alloc_new _ _
  obtain ⟨W, hW⟩ : ∃ W, W = w.alloc (.cells (cells8 ds) 72) := ⟨_, rfl⟩
  rw [← hW] at hbo hrow
  have hst := h.later hbo
  have HC := hide (content_any sb s ds W hst.on hds hlt hrd)
  rw [hcon] at HC
  have H0 := hide h
  have HST := hide hst
  have HW := hide hW
  have HBO := hide hbo
  have HROW := hide hrow
  have HTM := hide htm
  have HNT := hide hnt
  have HN := hide (fun (k : Nat) (hk : s.own k) => h.inn.lt hk)
  have HF := hide hf
  have HBU := hide hb
  clear h hst hW hbo hrow htm hrd hf hb hcon hnt
  go_enter Tryz.func67, Tryz.ntmps67
  go_upto_region 1 with fail
  rw [← HW.out]
  go_wp2_with (refine wpList_load_row rfl 72 _ rfl w.heap.size rfl 72 _ _ _ HROW.out Tryz.underlying72 rfl (size40 _ hds) ?_)
  refine (HC.out).mono ?_
  rintro _ w1 ⟨rfl, hg1⟩
  dsimp only [Option.getD, Option.isSome]
  have HG1 := hide hg1
  have HR1 := hide ((hg1.gr.block _ (lt_heap HROW.out) (fun e => by have := HN.out _ e; omega)).trans HROW.out)
  have HCP := hide (contentPath_any ds w1 hds hlt)
  clear hg1 HC
  go_wp2_with (refine wpList_load_row rfl 72 _ rfl w.heap.size rfl 72 _ _ _ HR1.out Tryz.underlying72 rfl (size40 _ hds) ?_)
  refine (HCP.out).mono ?_
  rintro _ w2 ⟨rfl, hb2⟩
  dsimp only
  have HB2 := hide hb2
  have HR2 := hide ((hb2.block _ (lt_heap HR1.out)).trans HR1.out)
  obtain ⟨i0, hi, hz0, hz1, hz2⟩ := info_parts Tryz.infoFile
  obtain ⟨P, hP⟩ : ∃ P, P = cPath ds := ⟨_, rfl⟩
  rw [← hP]
  have HP := hide hP
  have HEC := hide (new_cells w2 #[.string P, .string b] 203)
  have hwz : w.heap.size ≤ w2.heap.size := by have := HBO.out.size; have := HG1.out.gr.size; have := hb2.size; omega
  have hw1 := lt_heap HROW.out
  have hwz2 : W.heap.size ≤ w2.heap.size := by have := HG1.out.gr.size; have := hb2.size; omega
  clear hb2 hP HCP
  go_wp2_with (first | (refine wpList_load_row rfl 72 _ rfl w.heap.size rfl 72 _ _ _ HR3.out Tryz.underlying72 rfl (size40 _ hds) ?_) | (refine wpList_append_own _ rfl _ _ 201 rfl W.heap.size 203 i0 _ 2 32 Tryz.underlying201 hi hz0 hz1 hz2 rfl (by decide) (.slice none 0 0) 0 [] rfl (World.ownsRow_nil _ _ _ _) _ 1 1 [.string P, .string b] rfl rfl HEC.out (by simp [Value.oneCell']) (by unfold maxLen; omega) (by omega) (by simp; omega) ?_; rintro v3 w3 hv3 hg3 -; have HV3 := hide hv3; have HG3 := hide hg3; have HR3 := hide ((hg3.block _ (by have := lt_heap HR2.out; simp; omega) (fun e => by cases e)).trans ((((Below.refl w2.heap.size w2).alloc (Nat.le_refl _) _).block _ (lt_heap HR2.out)).trans HR2.out)); clear hv3 hg3))
  have h3 : StW w3 sb s cb tb nc nt Dc (.map []) := (((HST.out.go HG1.out).later HB2.out).later ((Below.refl _ _).alloc (Nat.le_refl _) _)).row HG3.out (fun r e => by cases e)
  have f3 : FT N w w3 := ((((FT.of_below HBO.out).trans (FT.of_go HST.out.inn hN.own HG1.out)).trans (FT.of_below HB2.out)).trans (FT.of_below ((Below.refl _ _).alloc (Nat.le_refl _) _))).trans (FT.row HG3.out (fun r e => by cases e))
  have t3 : TM w3 t1 n1 (oneT name ds 0) := by
    have a1 := owns_same HTM.out (HBO.out.block _ HTM.out.lt)
    have a2 := owns_same a1 (HG1.out.gr.block _ a1.lt (fun e => HNT.out e))
    have a3 := owns_same a2 (HB2.out.block _ a2.lt)
    have a4 := World.ownsMap.alloc a3 (.cells #[.string P, .string b] 203)
    exact owns_same a4 (HG3.out.block _ a4.lt (fun e => by cases e))
  have r3 : w3.ownsRow W.heap.size 203 2 v3 [(P, b)].length (flCells [(P, b)]) := HV3.out
  have hs3 : w2.heap.size ≤ w3.heap.size := by have := HG3.out.size; simp at this; omega
  have HSZ := hide (sized_one t1 n1 name ds 0 b.size w3 t3 hds hlt hn1 (by omega))
  have H3 := hide h3
  have F3 := hide f3
  have R3 := hide r3
  clear h3 f3 t3 r3 HV3 HG3 HEC
  refine (HSZ.out).mono ?_
  rintro _ w4 ⟨t2, n2, rfl, ht2, hn2, htm2, hb4⟩
  dsimp only
  have hbf : W.heap.size ≤ w4.heap.size := by have := hb4.size; omega
  have HCH := hide (change_one N sb s cb tb nc nt t2 n2 W.heap.size Dc v3 [(P, b)] name ds b.size w4 (H3.out.later hb4) htm2 (fun e => by have := H3.out.inn.lt e; omega) (fun e => by have := H3.out.gl.lt e; omega) (fun e => by have := H3.out.cm.lt; omega) (ownsRow_later R3.out hb4) hbf (fun k hk => HST.out.gl.lt hk) (by simp) (fun f hfm => by
    simp only [List.mem_singleton] at hfm
    subst hfm
    refine ⟨?_, show b.size ≤ 1000 by omega⟩
    rw [HP.out]
    exact cPath_size ds) hds hlt hn (by omega) HF.out HBU.out hN (Nat.le_trans hN.sb (by have := lt_heap HST.out.blk; omega)))
  have F4 := hide (F3.out.trans (FT.of_below hb4))
  have HR4 := hide ((hb4.block _ (lt_heap HR3.out)).trans HR3.out)
  clear htm2 hb4 HSZ R3
  go_wp2_with fail
  refine (HCH.out).mono ?_
  rintro _ w5 ⟨ev, k, s', rfl, hev, hft, hwr, hno, h50, h51⟩
  dsimp only
  have F5 := hide (F4.out.trans hft)
  have HR5 := hide (hft.keep _ _ _ _ HR4.out (by unfold fT; decide))
  have HWR := hide hwr
  have HNO := hide hno
  clear hno
  have H50 := hide h50
  have H51 := hide h51
  clear hft hwr h50 h51 HCH
  rcases hev with ⟨rfl, rfl⟩ | ⟨hk0, sv, nm, rfl, hsv⟩
  · have h5 := H50.out rfl
    have hdr : Below w5.heap.size w5 w5.drew := (Below.refl _ _).drew
    have h6 := h5.later hdr
    have hS0 : w5.drew.cell? ⟨sb, 1, none⟩ = some (.map (some cb)) ∧ w5.drew.rangeAt w.heap.size 0 (cells8 ds).toList := ⟨cell_of_row _ _ 1 _ _ _ h6.blk, con_r ((hdr.block _ (lt_heap HR5.out)).trans HR5.out)⟩
    obtain ⟨w6, hrun, hm6, hg6⟩ := World.ownsMap.update h6.cm dig_keyed Tryz.underlying119 (by unfold maxLen; omega) (key_dig ds hds hlt) (show heldR (.agg #[]) = some (.held (.agg #[]), []) from rfl)
    have hr6 := (hdr.block _ (lt_heap HR5.out)).trans HR5.out
    have hS6 : w6.cell? ⟨sb, 1, none⟩ = some (.map (some cb)) ∧ w6.rangeAt w.heap.size 0 (cells8 ds).toList := ⟨cell_of_row _ _ 1 _ _ _ (h6.putC hg6 hm6).blk, con_r ((hg6.block _ (lt_heap hr6) (fun e => by
      injection e with e
      obtain ⟨es, clock, h1, _⟩ := h6.cm
      rw [← e, hr6] at h1
      cases h1)).trans hr6)⟩
    have H6 := hide h6
    have HM6 := hide hm6
    have HG6 := hide hg6
    have hbu : ∀ w, (Instr.build 59 #[]).run Tryz.prog w = .ok (.agg #[]) w := fun w => by kernel_rfl
    have u72 := Tryz.underlying72
    have i72 := size72 ds hds
    clear h5 h6 hm6 hg6
    go_wp2_with fail
    go_region_held3 (fun w' => w'.cell? ⟨sb, 1, none⟩ = some (.map (some cb)) ∧ w'.rangeAt w.heap.size 0 (cells8 ds).toList) (first | exact hS0 | exact hS6 | go_keep) (fail)
    clear hrun hbu u72 i72 hS0 hS6 hr6
    go_wp2_with fail
    go_ret
    have F6 := F5.out.trans ((FT.of_below hdr).trans (FT.map H6.out.cm HG6.out hN.cb))
    rw [← HP.out]
    exact ⟨_, 0, s', rfl, .inl ⟨rfl, rfl⟩, F6, HWR.out, HNO.out, fun _ => ⟨t2, n2, H6.out.putC HG6.out HM6.out⟩, fun h => absurd rfl h⟩
  · have HSV := hide hsv
    clear hsv
    go_wp2_with fail
    go_ret
    rw [← HP.out]
    exact ⟨_, k, s', rfl, .inr ⟨hk0, sv, nm, rfl, HSV.out⟩, F5.out, HWR.out, HNO.out, fun h => absurd h hk0, fun _ => H51.out hk0⟩
end Go.Proofs.YteicpbcddjjceaaGreatDoor
