/-
  PROVED HERE: what keep and Publish of a store do where there was neither the content nor a tag.
-/
import Derived.Test.YteicpbcddjjceaaGreatDoorStCont
import Derived.Test.YteicpbcddjjceaaGreatDoorEntry
namespace Go.Proofs.YteicpbcddjjceaaGreatDoor
open Go.RowKit
/-- The store has other contents. -/
theorem StW.putC {W W' : World} {sb : Nat} {s : PSt} {cb tb nc nt n' : Nat} {Dc Dt D' : DataW Value} (h : StW W sb s cb tb nc nt Dc Dt) (hg : W.grownBy W' (some cb)) (hc : CM W' cb n' D') : StW W' sb s cb tb n' nt D' Dt := by
  have hne : ∀ {k : Nat}, k ≠ cb → k < W.heap.size → W'.heap[k]? = W.heap[k]? := fun hk hl => hg.block _ hl (fun e => hk (by injection e))
  refine ⟨h.inn.same (fun k hk => hne (fun e => h.ncb (e ▸ hk)) (h.inn.lt hk)), h.gl.same hg.size (fun k hk => hne (fun e => h.gcb (e ▸ hk)) (h.gl.lt hk)), h.low, (hne (fun e => ?_) (lt_heap h.blk)).trans h.blk, hc, owns_same h.tm (hne (fun e => h.ne e.symm) h.tm.lt), h.ncb, h.ntb, h.gcb, h.gtb, h.gsb, h.ne⟩
  obtain ⟨es, clock, h1, _⟩ := h.cm
  rw [← e, h.blk] at h1
  cases h1
theorem FT.map {N : Nat} {W W' : World} {k : TypeId} {b n : Nat} {D : DataW Value} (hm : W.ownsMap Tryz.prog k heldR b n D) (hg : W.grownBy W' (some b)) (hN : N ≤ b) : FT N W W' :=
  ⟨fun k hk hs => hg.block k hs (fun e => by injection e with e; omega), hg.os, hg.tape, hg.output, hg.size, fun x cur T fr hx _ => (hg.block x (lt_heap hx) (fun e => by
    injection e with e
    subst e
    obtain ⟨es, clock, h1, _⟩ := hm
    rw [hx] at h1
    cases h1)).trans hx⟩
/-- One content more. -/
def dPut (Dc : DataW Value) (ds : List Nat) : DataW Value := Dc.put (dKey ds) (.held (.agg #[]))
set_option maxHeartbeats 4000000 in
set_option maxRecDepth 100000 in
theorem keep_new (N sb : Nat) (s : PSt) (cb tb nc nt t1 n1 : Nat) (Dc : DataW Value) (name b : ByteArray) (ds : List Nat) (w : World) {L C B : Nat} (h : StW w sb s cb tb nc nt Dc (.map []))
    (htm : TM w t1 n1 (oneT name ds 0)) (hnt : ¬ s.own t1) (hcon : conR s.ds ds = none) (hb300 : b.size ≤ 300) (hn1 : n1 ≤ 1000) (hnc : nc ≤ 1000) (hrd : ∀ t, rdD s.ds (cPath ds) = some t → t.size ≤ 140737488351232)
    (hds : ds.length = 32) (hlt : ∀ i, ds.getD i 0 < 256) (hn : name.size ≤ 20) (hf : DFit s.ds L C B) (hb : Bud (L + 100) (C + 100) (B + 20000)) (hN : NB N s sb cb) :
    Calls Tryz.prog 67 #[.pointer (some ⟨sb, 0, none⟩), .agg (cells8 ds), .string b, .map (some t1)] w fun e w' => ∃ ev k s', e = .returned ev ∧ ErrV w' ev k ∧ FT N w w' ∧ WrR s.ds [(cPath ds, b), (indexP, oneX name ds b.size)] k s'.ds ∧ ((∀ k, s'.own k → N ≤ k) ∧ s'.b = s.b) ∧
      (k = 0 → ∃ t2 n2, StW w' sb s' cb t2 (nc + 1) n2 (dPut Dc ds) (oneT name ds b.size)) ∧ (k ≠ 0 → StW w' sb s' cb tb nc nt Dc (.map [])) := by
  have hbo : Below w.heap.size w (w.alloc (.cells (cells8 ds) 72)) := (Below.refl _ _).alloc (Nat.le_refl _) _
  have hrow : (w.alloc (.cells (cells8 ds) 72)).heap[w.heap.size]? = some (.cells (cells8 ds) 72 (0, 0)) := heap_alloc_new _ _
  obtain ⟨W, hW⟩ : ∃ W, W = w.alloc (.cells (cells8 ds) 72) := ⟨_, rfl⟩
  rw [← hW] at hbo hrow
  have hst := h.later hbo
  have HC := hide (content_any sb s ds W hst.on hds hlt hrd)
  rw [hcon] at HC
  have H0 := hide h
  have HST := hide hst
  have HW := hide hW
  have HBO := hide hbo
  have HROW := hide hrow
  have HTM := hide htm
  have HNT := hide hnt
  have HN := hide (fun (k : Nat) (hk : s.own k) => h.inn.lt hk)
  have HF := hide hf
  have HBU := hide hb
  clear h hst hW hbo hrow htm hrd hf hb hcon hnt
  go_enter Tryz.func67, Tryz.ntmps67
  go_upto_region 1 with fail
  rw [← HW.out]
  go_wp2_with (refine wpList_load_row rfl 72 _ rfl w.heap.size rfl 72 _ _ _ HROW.out Tryz.underlying72 rfl (size40 _ hds) ?_)
  refine (HC.out).mono ?_
  rintro _ w1 ⟨rfl, hg1⟩
  dsimp only [Option.getD, Option.isSome]
  have HG1 := hide hg1
  have HR1 := hide ((hg1.gr.block _ (lt_heap HROW.out) (fun e => by have := HN.out _ e; omega)).trans HROW.out)
  have HCP := hide (contentPath_any ds w1 hds hlt)
  clear hg1 HC
  go_wp2_with (refine wpList_load_row rfl 72 _ rfl w.heap.size rfl 72 _ _ _ HR1.out Tryz.underlying72 rfl (size40 _ hds) ?_)
  refine (HCP.out).mono ?_
  rintro _ w2 ⟨rfl, hb2⟩
  dsimp only
  have HB2 := hide hb2
  have HR2 := hide ((hb2.block _ (lt_heap HR1.out)).trans HR1.out)
  obtain ⟨i0, hi, hz0, hz1, hz2⟩ := info_parts Tryz.infoFile
  obtain ⟨P, hP⟩ : ∃ P, P = cPath ds := ⟨_, rfl⟩
  rw [← hP]
  have HP := hide hP
  have HEC := hide (new_cells w2 #[.string P, .string b] 203)
  have hwz : w.heap.size ≤ w2.heap.size := by have := HBO.out.size; have := HG1.out.gr.size; have := hb2.size; omega
  have hw1 := lt_heap HROW.out
  have hwz2 : W.heap.size ≤ w2.heap.size := by have := HG1.out.gr.size; have := hb2.size; omega
  clear hb2 hP HCP
  go_wp2_with (first | (refine wpList_load_row rfl 72 _ rfl w.heap.size rfl 72 _ _ _ HR3.out Tryz.underlying72 rfl (size40 _ hds) ?_) | (refine wpList_append_own _ rfl _ _ 201 rfl W.heap.size 203 i0 _ 2 32 Tryz.underlying201 hi hz0 hz1 hz2 rfl (by decide) (.slice none 0 0) 0 [] rfl (World.ownsRow_nil _ _ _ _) _ 1 1 [.string P, .string b] rfl rfl HEC.out (by simp [Value.oneCell']) (by unfold maxLen; omega) (by omega) (by simp; omega) ?_; rintro v3 w3 hv3 hg3 -; have HV3 := hide hv3; have HG3 := hide hg3; have HR3 := hide ((hg3.block _ (by have := lt_heap HR2.out; simp; omega) (fun e => by cases e)).trans ((((Below.refl w2.heap.size w2).alloc (Nat.le_refl _) _).block _ (lt_heap HR2.out)).trans HR2.out)); clear hv3 hg3))
  have h3 : StW w3 sb s cb tb nc nt Dc (.map []) := (((HST.out.go HG1.out).later HB2.out).later ((Below.refl _ _).alloc (Nat.le_refl _) _)).row HG3.out (fun r e => by cases e)
  have f3 : FT N w w3 := ((((FT.of_below HBO.out).trans (FT.of_go HST.out.inn hN.own HG1.out)).trans (FT.of_below HB2.out)).trans (FT.of_below ((Below.refl _ _).alloc (Nat.le_refl _) _))).trans (FT.row HG3.out (fun r e => by cases e))
  have t3 : TM w3 t1 n1 (oneT name ds 0) := by
    have a1 := owns_same HTM.out (HBO.out.block _ HTM.out.lt)
    have a2 := owns_same a1 (HG1.out.gr.block _ a1.lt (fun e => HNT.out e))
    have a3 := owns_same a2 (HB2.out.block _ a2.lt)
    have a4 := World.ownsMap.alloc a3 (.cells #[.string P, .string b] 203)
    exact owns_same a4 (HG3.out.block _ a4.lt (fun e => by cases e))
  have r3 : w3.ownsRow W.heap.size 203 2 v3 [(P, b)].length (flCells [(P, b)]) := HV3.out
  have hs3 : w2.heap.size ≤ w3.heap.size := by have := HG3.out.size; simp at this; omega
  have HSZ := hide (sized_one t1 n1 name ds 0 b.size w3 t3 hds hlt hn1 (by omega))
  have H3 := hide h3
  have F3 := hide f3
  have R3 := hide r3
  clear h3 f3 t3 r3 HV3 HG3 HEC
  refine (HSZ.out).mono ?_
  rintro _ w4 ⟨t2, n2, rfl, ht2, hn2, htm2, hb4⟩
  dsimp only
  have hbf : W.heap.size ≤ w4.heap.size := by have := hb4.size; omega
  have HCH := hide (change_one N sb s cb tb nc nt t2 n2 W.heap.size Dc v3 [(P, b)] name ds b.size w4 (H3.out.later hb4) htm2 (fun e => by have := H3.out.inn.lt e; omega) (fun e => by have := H3.out.gl.lt e; omega) (fun e => by have := H3.out.cm.lt; omega) (ownsRow_later R3.out hb4) hbf (fun k hk => HST.out.gl.lt hk) (by simp) (fun f hfm => by
    simp only [List.mem_singleton] at hfm
    subst hfm
    refine ⟨?_, show b.size ≤ 1000 by omega⟩
    rw [HP.out]
    exact cPath_size ds) hds hlt hn (by omega) HF.out HBU.out hN (Nat.le_trans hN.sb (by have := lt_heap HST.out.blk; omega)))
  have F4 := hide (F3.out.trans (FT.of_below hb4))
  have HR4 := hide ((hb4.block _ (lt_heap HR3.out)).trans HR3.out)
  clear htm2 hb4 HSZ R3
  go_wp2_with fail
  refine (HCH.out).mono ?_
  rintro _ w5 ⟨ev, k, s', rfl, hev, hft, hwr, hno, h50, h51⟩
  dsimp only
  have F5 := hide (F4.out.trans hft)
  have HR5 := hide (hft.keep _ _ _ _ HR4.out (by unfold fT; decide))
  have HWR := hide hwr
  have HNO := hide hno
  clear hno
  have H50 := hide h50
  have H51 := hide h51
  clear hft hwr h50 h51 HCH
  rcases hev with ⟨rfl, rfl⟩ | ⟨hk0, sv, nm, rfl, hsv⟩
  · have h5 := H50.out rfl
    have hdr : Below w5.heap.size w5 w5.drew := (Below.refl _ _).drew
    have h6 := h5.later hdr
    have hS0 : w5.drew.cell? ⟨sb, 1, none⟩ = some (.map (some cb)) ∧ w5.drew.rangeAt w.heap.size 0 (cells8 ds).toList := ⟨cell_of_row _ _ 1 _ _ _ h6.blk, con_r ((hdr.block _ (lt_heap HR5.out)).trans HR5.out)⟩
    obtain ⟨w6, hrun, hm6, hg6⟩ := World.ownsMap.update h6.cm dig_keyed Tryz.underlying119 (by unfold maxLen; omega) (key_dig ds hds hlt) (show heldR (.agg #[]) = some (.held (.agg #[]), []) from rfl)
    have hr6 := (hdr.block _ (lt_heap HR5.out)).trans HR5.out
    have hS6 : w6.cell? ⟨sb, 1, none⟩ = some (.map (some cb)) ∧ w6.rangeAt w.heap.size 0 (cells8 ds).toList := ⟨cell_of_row _ _ 1 _ _ _ (h6.putC hg6 hm6).blk, con_r ((hg6.block _ (lt_heap hr6) (fun e => by
      injection e with e
      obtain ⟨es, clock, h1, _⟩ := h6.cm
      rw [← e, hr6] at h1
      cases h1)).trans hr6)⟩
    have H6 := hide h6
    have HM6 := hide hm6
    have HG6 := hide hg6
    have hbu : ∀ w, (Instr.build 59 #[]).run Tryz.prog w = .ok (.agg #[]) w := fun w => by kernel_rfl
    have u72 := Tryz.underlying72
    have i72 := size72 ds hds
    clear h5 h6 hm6 hg6
    go_wp2_with fail
    go_region_held3 (fun w' => w'.cell? ⟨sb, 1, none⟩ = some (.map (some cb)) ∧ w'.rangeAt w.heap.size 0 (cells8 ds).toList) (first | exact hS0 | exact hS6 | go_keep) (fail)
    clear hrun hbu u72 i72 hS0 hS6 hr6
    go_wp2_with fail
    go_ret
    have F6 := F5.out.trans ((FT.of_below hdr).trans (FT.map H6.out.cm HG6.out hN.cb))
    rw [← HP.out]
    exact ⟨_, 0, s', rfl, .inl ⟨rfl, rfl⟩, F6, HWR.out, HNO.out, fun _ => ⟨t2, n2, H6.out.putC HG6.out HM6.out⟩, fun h => absurd rfl h⟩
  · have HSV := hide hsv
    clear hsv
    go_wp2_with fail
    go_ret
    rw [← HP.out]
    exact ⟨_, k, s', rfl, .inr ⟨hk0, sv, nm, rfl, HSV.out⟩, F5.out, HWR.out, HNO.out, fun h => absurd h hk0, fun _ => H51.out hk0⟩
end Go.Proofs.YteicpbcddjjceaaGreatDoor

/-
  PROVED HERE: what Publish of a store does where there was neither the content nor a tag.
-/
namespace Go.Proofs.YteicpbcddjjceaaGreatDoor
open Go.RowKit
/-- A store stays where a digest's row is written. -/
theorem StW.far {W W' : World} {sb : Nat} {s : PSt} {cb tb nc nt r : Nat} {Dc Dt : DataW Value} {cur : Array Value} (h : StW W sb s cb tb nc nt Dc Dt) (hsz : W.heap.size ≤ W'.heap.size) (hr : W.heap[r]? = some (.cells cur 72 (0, 0))) (hG : ¬ isG r) (hs : ∀ k, k ≠ r → W'.heap[k]? = W.heap[k]?) : StW W' sb s cb tb nc nt Dc Dt := by
  have hne : ∀ {x n : Nat} {k : TypeId} {D : DataW Value}, W.ownsMap Tryz.prog k heldR x n D → x ≠ r := by
    rintro x n k D ⟨es, clock, h1, _⟩ rfl
    rw [hr] at h1
    cases h1
  refine ⟨h.inn.same (fun k hk => hs k (fun e => ?_)), h.gl.same hsz (fun k hk => hs k (fun e => hG (e ▸ hk))), h.low, (hs sb (type_ne h.blk hr (by decide))).trans h.blk, owns_same h.cm (hs _ (hne h.cm)), owns_same h.tm (hs _ (hne h.tm)), h.ncb, h.ntb, h.gcb, h.gtb, h.gsb, h.ne⟩
  subst e
  rcases h.inn.typed hk hr with h3 | h3 | h3 | h3 <;> exact absurd h3 (by decide)
theorem ErrV.far {W W' : World} {ev : Value} {k : Int} {r : Nat} {cur : Array Value} (h : ErrV W ev k) (hr : W.heap[r]? = some (.cells cur 72 (0, 0))) (hs : ∀ k, k ≠ r → W'.heap[k]? = W.heap[k]?) : ErrV W' ev k := by
  rcases h with h | ⟨h0, sv, nm, h1, h2⟩
  · exact .inl h
  · exact .inr ⟨h0, sv, nm, h1, (hs _ (type_ne h2 hr (by decide))).trans h2⟩
theorem con_t {w : World} {r : Nat} {zs : List Nat} (hr : w.heap[r]? = some (.cells (cells8 zs) 72 (0, 0))) (hz : zs.length = 32) (ds : List Nat) (hds : ds.length = 32) : w.there r 0 (cells8 ds).toList.length := by
  intro j hj
  rw [Array.length_toList, cells8_size, hds] at hj
  refine ⟨?_, frozen_of_row w r _ _ _ hr⟩
  rw [cell_of_row w r (0 + j) _ _ _ hr, Array.getElem?_eq_getElem (by rw [cells8_size, hz]; omega)]
  rfl
theorem dig_set {w : World} {r : Nat} {zs : List Nat} (hr : w.heap[r]? = some (.cells (cells8 zs) 72 (0, 0))) (hz : zs.length = 32) (ds : List Nat) (hds : ds.length = 32) : (w.setCells r 0 (cells8 ds).toList).heap[r]? = some (.cells (cells8 ds) 72 (0, 0)) := by
  have hl : (cells8 ds).toList.length = 32 := by rw [Array.length_toList, cells8_size, hds]
  have hs : (cells8 zs).size = 32 := by rw [cells8_size, hz]
  obtain ⟨cur', h1, h2, h3, h4, h5⟩ := setCells_rowF r 72 (cells8 ds).toList 0 w _ hr (by omega)
  rw [h1]
  have hc : cur' = cells8 ds := by
    apply Array.ext_getElem?
    intro j
    rcases Nat.lt_or_ge j 32 with hj | hj
    · have := h4 j (by omega)
      rw [Nat.zero_add] at this
      rw [this]
      simp
    · rw [h5 j (by omega), Array.getElem?_eq_none (by omega), Array.getElem?_eq_none (by rw [cells8_size, hds]; omega)]
  rw [hc]
/-- The digest of bytes. -/
def dOfB (b : ByteArray) : List Nat := Sha.digest (Sha.state b.data.toList)
theorem dOfB_len (b : ByteArray) : (dOfB b).length = 32 := Sha.dBytes_len _ _
theorem dOfB_lt (b : ByteArray) : ∀ i, (dOfB b).getD i 0 < 256 := fun i => Sha.dBytes_lt _ _ i
set_option linter.unusedSimpArgs false in
set_option maxHeartbeats 4000000 in
set_option maxRecDepth 100000 in
theorem pub_new (N sb : Nat) (s : PSt) (cb tb nc nt : Nat) (Dc : DataW Value) (name b : ByteArray) (w : World) {L C B : Nat} (h : StW w sb s cb tb nc nt Dc (.map []))
    (hcon : conR s.ds (dOfB b) = none) (hb300 : b.size ≤ 300) (hnt : nt ≤ 900) (hnc : nc ≤ 1000) (hrd : ∀ t, rdD s.ds (cPath (dOfB b)) = some t → t.size ≤ 140737488351232)
    (hn : name.size ≤ 20) (hf : DFit s.ds L C B) (hb : Bud (L + 100) (C + 100) (B + 20000)) (hN : NB N s sb cb) :
    Calls Tryz.prog 38 #[.pointer (some ⟨sb, 0, none⟩), .string name, .string b] w fun e w' => ∃ ev k s', e = .returned (.tuple #[.agg (cells8 (dOfB b)), ev]) ∧ ErrV w' ev k ∧ FT N w w' ∧ WrR s.ds [(cPath (dOfB b), b), (indexP, oneX name (dOfB b) b.size)] k s'.ds ∧ ((∀ k, s'.own k → N ≤ k) ∧ s'.b = s.b) ∧
      (k = 0 → ∃ t2 n2, StW w' sb s' cb t2 (nc + 1) n2 (dPut Dc (dOfB b)) (oneT name (dOfB b) b.size)) ∧ (k ≠ 0 → StW w' sb s' cb tb nc nt Dc (.map [])) := by
  have hds := dOfB_len b
  have hlt := dOfB_lt b
  have HOF := hide (fun W (hb : Below w.heap.size w W) => of_any b W (by omega) (h.gl.later hb).hk)
  obtain ⟨ds, hd⟩ : ∃ ds, ds = dOfB b := ⟨_, rfl⟩
  have hd' : Sha.digest (Sha.state b.data.toList) = ds := hd.symm
  have HOF2 : Hid (∀ W, Below w.heap.size w W → Calls Tryz.prog 61 #[.string b] W fun e w' => e = .returned (.agg (cells8 ds)) ∧ Below W.heap.size W w') := hide (fun W hW => by rw [← hd']; exact HOF.out W hW)
  clear HOF
  rw [← hd] at hcon hrd hds hlt ⊢
  have HTW := hide (fun W hW => tagsWith_any sb s cb tb nc nt Dc (.map []) name ds W hW hds (by omega) (by omega))
  have HKP := hide (fun W t1 hW ht hno => keep_new N sb s cb tb nc nt t1 (nt + 1) Dc name b ds W hW ht hno hcon hb300 (by omega) hnc hrd hds hlt hn hf hb hN)
  have H := hide h
  have HD := hide hd
  clear h hcon hrd hf hb hd hd'
  have hz32 : Sha.zeros 32 = List.replicate 32 0 := rfl
  go_enter Tryz.func38, Tryz.ntmps38
  go_upto_region 2 with (first | (go_at_call 61; refine (HOF2.out _ (by exact (Below.refl _ _).alloc (Nat.le_refl _) _)).mono ?_; rintro _ w1 ⟨rfl, hb1⟩) | (refine wpList_store_row rfl 72 _ _ rfl w1.heap.size _ rfl rfl 72 _ (heap_alloc_new _ _) (size40 _ hds) (by rw [cells8_size, hds]; rfl) (cells8_one _) ?_; rw [World.setRow_alloc_new]))
  have hz0 : (w.alloc (.cells (cells8 (Sha.zeros 32)) 72)).heap[w.heap.size]? = some (.cells (cells8 (Sha.zeros 32)) 72 (0, 0)) := heap_alloc_new _ _
  have hb0 : Below w.heap.size w (w.alloc (.cells (cells8 (Sha.zeros 32)) 72)) := (Below.refl _ _).alloc (Nat.le_refl _) _
  have hr1 : w1.heap[w.heap.size]? = some (.cells (cells8 (Sha.zeros 32)) 72 (0, 0)) := (hb1.block _ (lt_heap hz0)).trans hz0
  have hbw1 : Below w.heap.size w w1 := hb0.trans (hb1.mono hb0.size)
  obtain ⟨W, hW⟩ : ∃ W, W = (w1.alloc (.cells (cells8 ds) 72)).drew := ⟨_, rfl⟩
  have hBW : Below w1.heap.size w1 W := by rw [hW]; exact ((Below.refl _ _).alloc (Nat.le_refl _) _).drew
  have hrow : W.heap[w1.heap.size]? = some (.cells (cells8 ds) 72 (0, 0)) := by rw [hW]; exact heap_alloc_new _ _
  have hrr := (hBW.block _ (lt_heap hr1)).trans hr1
  have hbW : Below w.heap.size w W := hbw1.trans (hBW.mono hbw1.size)
  have HBW := hide hbW
  have HROW := hide hrow
  have HRR := hide hrr
  have hlr := lt_heap hr1
  have hst := H.out.later hbW
  have HST := hide hst
  have HTW2 := hide (HTW.out W hst)
  have hS0 := And.intro (con_r hrow) (con_t hrr (Sha.zeros_len _) ds hds)
  have u72 := Tryz.underlying72
  have i72 := size72 ds hds
  obtain ⟨xb, hxb⟩ : ∃ xb, xb = w1.heap.size := ⟨_, rfl⟩
  obtain ⟨rb, hrb⟩ : ∃ rb, rb = w.heap.size := ⟨_, rfl⟩
  rw [hW] at hS0
  clear hbW hrow hrr hst hBW hz0 hb0 hr1 hbw1 hb1 HTW
  rw [← hrb] at hS0 HRR
  rw [← hxb] at hS0 HROW
  dsimp only [Act.put]
  rw [← hrb, ← hxb]
  have HWH := hide hW
  have HXB := hide hxb
  have HRB := hide hrb
  have hlr2 : rb < xb := by rw [hrb, hxb]; omega
  clear hW hxb hrb hlr
  refine wp_region_held_drew (S := fun w' => w'.rangeAt xb 0 (cells8 ds).toList ∧ w'.there rb 0 (cells8 ds).toList.length) (by kernel_rfl) hS0 (fun hHeld => ?_)
  refine wpAnyH_take (i := 0) (v := .agg (cells8 ds).toList.toArray) rfl (by kernel_rfl) (by kernel_rfl) (by kernel_rfl) (fun _ _ _ h => h) (yieldsIf_load_mid (by rfl) _ _ rfl xb 0 rfl (cells8 ds).toList _ (fun w h => h.1) u72 rfl i72) (by assumption) ?_
  simp only [Act.put, List.setIfInBounds_toArray, List.set_cons_zero, List.set_cons_succ]
  refine wpAnyH_take (i := 1) (v := .pointer (some ⟨sb, 0, none⟩)) rfl (by kernel_rfl) (by kernel_rfl) (by kernel_rfl) (fun _ _ _ h => h) (Or.inl ⟨by rfl, fun _ _ => rfl⟩) (by assumption) ?_
  simp only [Act.put, List.setIfInBounds_toArray, List.set_cons_zero, List.set_cons_succ]
  refine wpAnyH_take (i := 2) (v := .agg (cells8 ds).toList.toArray) rfl (by kernel_rfl) (by kernel_rfl) (by kernel_rfl) (fun _ _ _ h => h) (yieldsIf_load_mid (by rfl) _ _ rfl xb 0 rfl (cells8 ds).toList _ (fun w h => h.1) u72 rfl i72) (by assumption) ?_
  simp only [Act.put, List.setIfInBounds_toArray, List.set_cons_zero, List.set_cons_succ]
  refine wpAnyH_take (i := 3) (v := .string b) rfl (by kernel_rfl) (by kernel_rfl) (by kernel_rfl) (fun _ _ _ h => h) (Or.inl ⟨by rfl, fun _ _ => rfl⟩) (by assumption) ?_
  simp only [Act.put, List.setIfInBounds_toArray, List.set_cons_zero, List.set_cons_succ]
  refine wpAnyH_take (i := 4) (v := .pointer (some ⟨sb, 0, none⟩)) rfl (by kernel_rfl) (by kernel_rfl) (by kernel_rfl) (fun _ _ _ h => h) (Or.inl ⟨by rfl, fun _ _ => rfl⟩) (by assumption) ?_
  simp only [Act.put, List.setIfInBounds_toArray, List.set_cons_zero, List.set_cons_succ]
  refine wpAnyH_take (i := 5) (v := .string name) rfl (by kernel_rfl) (by kernel_rfl) (by kernel_rfl) (fun _ _ _ h => h) (Or.inl ⟨by rfl, fun _ _ => rfl⟩) (by assumption) ?_
  simp only [Act.put, List.setIfInBounds_toArray, List.set_cons_zero, List.set_cons_succ]
  refine wpAnyH_take (i := 6) (v := .agg (cells8 ds).toList.toArray) rfl (by kernel_rfl) (by kernel_rfl) (by kernel_rfl) (fun _ _ _ h => h) (yieldsIf_load_mid (by rfl) _ _ rfl xb 0 rfl (cells8 ds).toList _ (fun w h => h.1) u72 rfl i72) (by assumption) ?_
  simp only [Act.put, List.setIfInBounds_toArray, List.set_cons_zero, List.set_cons_succ]
  rw [show (cells8 ds).toList.toArray = cells8 ds from rfl]
  rw [← HWH.out]
  refine wpAnyH_ready (rs := [7]) (by kernel_rfl) (by simp) ?_
  refine AllReadyH.cons rfl (fun K hK => ?_) AllReadyH.nil
  go_simp
  (go_at_call 68; refine (HTW2.out).mono ?_; rintro _ w2 ⟨t1, rfl, ht1, htm1, hb2⟩; have hr2 := (hb2.block _ (lt_heap HROW.out)).trans HROW.out; have hq2 := (hb2.block _ (lt_heap HRR.out)).trans HRR.out; have hS2 := And.intro (con_r hr2) (con_t hq2 (Sha.zeros_len _) ds hds))
  refine hK _ _ hS2 (fun hHeld => ?_)
  refine wpAnyH_ready (rs := [8]) (by kernel_rfl) (by simp) ?_
  refine AllReadyH.cons rfl (fun K hK => ?_) AllReadyH.nil
  go_simp
  (go_at_call 67; refine (HKP.out _ _ (HST.out.later hb2) htm1 (fun e => by have := HST.out.inn.lt e; omega)).mono ?_; rintro _ w3 ⟨ev, k, s', rfl, hev, hft, hwr, hno, h30, h31⟩; have hr3 := hft.keep _ _ _ _ hr2 (by unfold fT; decide); have hq3 := hft.keep _ _ _ _ hq2 (by unfold fT; decide); have hS3 := And.intro (con_r hr3) (con_t hq3 (Sha.zeros_len _) ds hds))
  refine hK _ _ hS3 (fun hHeld => ?_)
  refine wpAnyH_ready (rs := [9]) (by kernel_rfl) (by simp) ?_
  refine AllReadyH.cons rfl (fun K hK => ?_) AllReadyH.nil
  rw [if_pos (by rfl)]
  refine wp_store_mid 72 _ _ rfl rb 0 (cells8 ds) rfl rfl hS3.2 (size40 _ hds) (cells8_one ds) ?_
  refine hK _ _ ⟨World.rangeAt_setCells_apart hS3.1 rb 0 _ (.inl (by omega)), World.there_setCells hS3.2 rb 0 _⟩ (fun hHeld => ?_)
  simp only [Act.put, List.setIfInBounds_toArray, List.set_cons_zero, List.set_cons_succ]
  refine wpAnyH_take (i := 10) (oi := { dst := some 7, op := Op.assign (Operand.tmp 19), type := 96, pos := "change.go:20", after := _, guard := none }) (v := ev) rfl (by kernel_rfl) (by kernel_rfl) (by kernel_rfl) (fun _ _ _ h => h) (Or.inl ⟨by rfl, fun _ _ => rfl⟩) (by assumption) ?_
  simp only [Act.put, List.setIfInBounds_toArray, List.set_cons_zero, List.set_cons_succ]
  refine wpAnyH_done (by kernel_rfl) ?_ _
  obtain ⟨w4, hw4⟩ : ∃ w4, w4 = w3.setCells rb 0 (cells8 ds).toList := ⟨_, rfl⟩
  have hs4 : ∀ k, k ≠ rb → w4.heap[k]? = w3.heap[k]? := fun k hk => by rw [hw4]; exact heap_setCells_other _ _ _ hk
  have hz4 : w3.heap.size ≤ w4.heap.size := by rw [hw4]; exact (below_sets (B := 0) (Nat.zero_le rb) (cells8 ds).toList 0 w3).size
  have hq4 : w4.heap[rb]? = some (.cells (cells8 ds) 72 (0, 0)) := by rw [hw4]; exact dig_set hq3 (Sha.zeros_len _) ds hds
  have HQ4 := hide hq4
  have hr4 : w4.rangeAt rb 0 (cells8 ds).toList := by rw [hw4]; exact World.rangeAt_setCells_same w3 rb 0 _ hS3.2
  have hbb := below_sets (B := 0) (Nat.zero_le rb) (cells8 ds).toList 0 w3
  rw [← hw4] at hbb ⊢
  have HS4 := hide hs4
  have HZ4 := hide hz4
  have HR4 := hide hr4
  have HBB := hide hbb
  have HEV := hide hev
  have HFT := hide ((FT.of_below (HBW.out.trans (hb2.mono HBW.out.size))).trans hft)
  have HQ3 := hide hq3
  have HWR := hide hwr
  have HNO := hide hno
  clear hno
  have H30 := hide h30
  have H31 := hide h31
  have hGr : ¬ isG rb := fun e => by have := H.out.gl.lt e; have := HRB.out; omega
  clear hq4 hw4 hs4 hz4 hr4 hbb hev hft hwr h30 h31 hS3 hS2 hS0 hr3 hq3 hr2 hq2 hb2 htm1 ht1 hHeld
  go_wp2_with (refine wpList_load_mid rfl 72 _ rfl rb 0 rfl (cells8 ds).toList _ HR4.out Tryz.underlying72 rfl (size72 ds hds) ?_)
  refine bodyPost_ret (results_cell_tmp Tryz.results38 _ _ rb 72 _ (0, 0) _ ev rfl rfl HQ4.out Tryz.underlying72 rfl (size40 _ hds)) rfl ?_
  refine ⟨ev, rfl, k, HEV.out.far HQ3.out HS4.out, ?_, s', HWR.out, HNO.out, fun hk => ?_, fun hk => (H31.out hk).far HZ4.out HQ3.out hGr HS4.out⟩
  · exact ⟨fun k hk hs => (HS4.out k (fun e => by have := HRB.out; omega)).trans (HFT.out.low k hk hs), HBB.out.os.trans HFT.out.os, HBB.out.tape.trans HFT.out.tape, HBB.out.output.trans HFT.out.output, Nat.le_trans HFT.out.size HZ4.out, fun i cur T fr hi hT => (HS4.out i (fun e => by have := lt_heap hi; have := HRB.out; omega)).trans (HFT.out.keep i cur T fr hi hT)⟩
  · obtain ⟨t2, n2, hst⟩ := H30.out hk
    exact ⟨t2, n2, hst.far HZ4.out HQ3.out hGr HS4.out⟩
end Go.Proofs.YteicpbcddjjceaaGreatDoor
