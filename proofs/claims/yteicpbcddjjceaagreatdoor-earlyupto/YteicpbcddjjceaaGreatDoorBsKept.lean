/-
  PROVED HERE: what Publish of a store does where there was neither the content nor a tag.
-/
import Derived.Test.YteicpbcddjjceaaGreatDoorStKeep
import Derived.Test.YteicpbcddjjceaaGreatDoorEntries
import Derived.Test.YteicpbcddjjceaaGreatDoorBuilt
namespace Go.Proofs.YteicpbcddjjceaaGreatDoor
open Go.RowKit
/-- A store stays where a digest's row is written. -/
theorem StW.far {W W' : World} {sb : Nat} {s : PSt} {cb tb nc nt r : Nat} {Dc Dt : DataW Value} {cur : Array Value} (h : StW W sb s cb tb nc nt Dc Dt) (hsz : W.heap.size ≤ W'.heap.size) (hr : W.heap[r]? = some (.cells cur 72 (0, 0))) (hG : ¬ isG r) (hs : ∀ k, k ≠ r → W'.heap[k]? = W.heap[k]?) : StW W' sb s cb tb nc nt Dc Dt := by
  have hne : ∀ {x n : Nat} {k : TypeId} {D : DataW Value}, W.ownsMap Tryz.prog k heldR x n D → x ≠ r := by
    rintro x n k D ⟨es, clock, h1, _⟩ rfl
    rw [hr] at h1
    cases h1
  refine ⟨h.inn.same (fun k hk => hs k (fun e => ?_)), h.gl.same hsz (fun k hk => hs k (fun e => hG (e ▸ hk))), h.low, (hs sb (type_ne h.blk hr (by decide))).trans h.blk, owns_same h.cm (hs _ (hne h.cm)), owns_same h.tm (hs _ (hne h.tm)), h.ncb, h.ntb, h.gcb, h.gtb, h.gsb, h.ne⟩
  subst e
  rcases h.inn.typed hk hr with h3 | h3 | h3 | h3 <;> exact absurd h3 (by decide)
theorem ErrV.far {W W' : World} {ev : Value} {k : Int} {r : Nat} {cur : Array Value} (h : ErrV W ev k) (hr : W.heap[r]? = some (.cells cur 72 (0, 0))) (hs : ∀ k, k ≠ r → W'.heap[k]? = W.heap[k]?) : ErrV W' ev k := by
  rcases h with h | ⟨h0, sv, nm, h1, h2⟩
  · exact .inl h
  · exact .inr ⟨h0, sv, nm, h1, (hs _ (type_ne h2 hr (by decide))).trans h2⟩
theorem con_t {w : World} {r : Nat} {zs : List Nat} (hr : w.heap[r]? = some (.cells (cells8 zs) 72 (0, 0))) (hz : zs.length = 32) (ds : List Nat) (hds : ds.length = 32) : w.there r 0 (cells8 ds).toList.length := by
  intro j hj
  rw [Array.length_toList, cells8_size, hds] at hj
  refine ⟨?_, frozen_of_row w r _ _ _ hr⟩
  rw [cell_of_row w r (0 + j) _ _ _ hr, Array.getElem?_eq_getElem (by rw [cells8_size, hz]; omega)]
  rfl
theorem dig_set {w : World} {r : Nat} {zs : List Nat} (hr : w.heap[r]? = some (.cells (cells8 zs) 72 (0, 0))) (hz : zs.length = 32) (ds : List Nat) (hds : ds.length = 32) : (w.setCells r 0 (cells8 ds).toList).heap[r]? = some (.cells (cells8 ds) 72 (0, 0)) := by
  have hl : (cells8 ds).toList.length = 32 := by rw [Array.length_toList, cells8_size, hds]
  have hs : (cells8 zs).size = 32 := by rw [cells8_size, hz]
  obtain ⟨cur', h1, h2, h3, h4, h5⟩ := setCells_rowF r 72 (cells8 ds).toList 0 w _ hr (by omega)
  rw [h1]
  have hc : cur' = cells8 ds := by
    apply Array.ext_getElem?
    intro j
    rcases Nat.lt_or_ge j 32 with hj | hj
    · have := h4 j (by omega)
      rw [Nat.zero_add] at this
      rw [this]
      simp
    · rw [h5 j (by omega), Array.getElem?_eq_none (by omega), Array.getElem?_eq_none (by rw [cells8_size, hds]; omega)]
  rw [hc]
/-- The digest of bytes. -/
def dOfB (b : ByteArray) : List Nat := Sha.digest (Sha.state b.data.toList)
theorem dOfB_len (b : ByteArray) : (dOfB b).length = 32 := Sha.dBytes_len _ _
theorem dOfB_lt (b : ByteArray) : ∀ i, (dOfB b).getD i 0 < 256 := fun i => Sha.dBytes_lt _ _ i
set_option linter.unusedSimpArgs false in
set_option maxHeartbeats 4000000 in
set_option maxRecDepth 100000 in
theorem pub_new (N sb : Nat) (s : PSt) (cb tb nc nt : Nat) (Dc : DataW Value) (name b : ByteArray) (w : World) {L C B : Nat} (h : StW w sb s cb tb nc nt Dc (.map []))
    (hcon : conR s.ds (dOfB b) = none) (hb300 : b.size ≤ 300) (hnt : nt ≤ 900) (hnc : nc ≤ 1000) (hrd : ∀ t, rdD s.ds (cPath (dOfB b)) = some t → t.size ≤ 140737488351232)
    (hn : name.size ≤ 20) (hf : DFit s.ds L C B) (hb : Bud (L + 100) (C + 100) (B + 20000)) (hN : NB N s sb cb) :
    Calls Tryz.prog 38 #[.pointer (some ⟨sb, 0, none⟩), .string name, .string b] w fun e w' => ∃ ev k s', e = .returned (.tuple #[.agg (cells8 (dOfB b)), ev]) ∧ ErrV w' ev k ∧ FT N w w' ∧ WrR s.ds [(cPath (dOfB b), b), (indexP, oneX name (dOfB b) b.size)] k s'.ds ∧ ((∀ k, s'.own k → N ≤ k) ∧ s'.b = s.b) ∧
      (k = 0 → ∃ t2 n2, StW w' sb s' cb t2 (nc + 1) n2 (dPut Dc (dOfB b)) (oneT name (dOfB b) b.size)) ∧ (k ≠ 0 → StW w' sb s' cb tb nc nt Dc (.map [])) := by
  have hds := dOfB_len b
  have hlt := dOfB_lt b
  have HOF := hide (fun W (hb : Below w.heap.size w W) => of_any b W (by omega) (h.gl.later hb).hk)
  obtain ⟨ds, hd⟩ : ∃ ds, ds = dOfB b := ⟨_, rfl⟩
  have hd' : Sha.digest (Sha.state b.data.toList) = ds := hd.symm
  have HOF2 : Hid (∀ W, Below w.heap.size w W → Calls Tryz.prog 61 #[.string b] W fun e w' => e = .returned (.agg (cells8 ds)) ∧ Below W.heap.size W w') := hide (fun W hW => by rw [← hd']; exact HOF.out W hW)
  clear HOF
  rw [← hd] at hcon hrd hds hlt ⊢
  have HTW := hide (fun W hW => tagsWith_any sb s cb tb nc nt Dc (.map []) name ds W hW hds (by omega) (by omega))
  have HKP := hide (fun W t1 hW ht hno => keep_new N sb s cb tb nc nt t1 (nt + 1) Dc name b ds W hW ht hno hcon hb300 (by omega) hnc hrd hds hlt hn hf hb hN)
  have H := hide h
  have HD := hide hd
  clear h hcon hrd hf hb hd hd'
  have hz32 : Sha.zeros 32 = List.replicate 32 0 := rfl
  go_enter Tryz.func38, Tryz.ntmps38
  go_upto_region 2 with (first | (go_at_call 61; refine (HOF2.out _ (by exact (Below.refl _ _).alloc (Nat.le_refl _) _)).mono ?_; rintro _ w1 ⟨rfl, hb1⟩) | (refine wpList_store_row rfl 72 _ _ rfl w1.heap.size _ rfl rfl 72 _ (heap_alloc_new _ _) (size40 _ hds) (by rw [cells8_size, hds]; rfl) (cells8_one _) ?_; rw [World.setRow_alloc_new]))
  have hz0 : (w.alloc (.cells (cells8 (Sha.zeros 32)) 72)).heap[w.heap.size]? = some (.cells (cells8 (Sha.zeros 32)) 72 (0, 0)) := heap_alloc_new _ _
  have hb0 : Below w.heap.size w (w.alloc (.cells (cells8 (Sha.zeros 32)) 72)) := (Below.refl _ _).alloc (Nat.le_refl _) _
  have hr1 : w1.heap[w.heap.size]? = some (.cells (cells8 (Sha.zeros 32)) 72 (0, 0)) := (hb1.block _ (lt_heap hz0)).trans hz0
  have hbw1 : Below w.heap.size w w1 := hb0.trans (hb1.mono hb0.size)
  obtain ⟨W, hW⟩ : ∃ W, W = (w1.alloc (.cells (cells8 ds) 72)).drew := ⟨_, rfl⟩
  have hBW : Below w1.heap.size w1 W := by rw [hW]; exact ((Below.refl _ _).alloc (Nat.le_refl _) _).drew
  have hrow : W.heap[w1.heap.size]? = some (.cells (cells8 ds) 72 (0, 0)) := by rw [hW]; exact heap_alloc_new _ _
  have hrr := (hBW.block _ (lt_heap hr1)).trans hr1
  have hbW : Below w.heap.size w W := hbw1.trans (hBW.mono hbw1.size)
  have HBW := hide hbW
  have HROW := hide hrow
  have HRR := hide hrr
  have hlr := lt_heap hr1
  have hst := H.out.later hbW
  have HST := hide hst
  have HTW2 := hide (HTW.out W hst)
  have hS0 := And.intro (con_r hrow) (con_t hrr (Sha.zeros_len _) ds hds)
  have u72 := Tryz.underlying72
  have i72 := size72 ds hds
  obtain ⟨xb, hxb⟩ : ∃ xb, xb = w1.heap.size := ⟨_, rfl⟩
  obtain ⟨rb, hrb⟩ : ∃ rb, rb = w.heap.size := ⟨_, rfl⟩
  rw [hW] at hS0
  clear hbW hrow hrr hst hBW hz0 hb0 hr1 hbw1 hb1 HTW
  rw [← hrb] at hS0 HRR
  rw [← hxb] at hS0 HROW
  dsimp only [Act.put]
  rw [← hrb, ← hxb]
  have HWH := hide hW
  have HXB := hide hxb
  have HRB := hide hrb
  have hlr2 : rb < xb := by rw [hrb, hxb]; omega
  clear hW hxb hrb hlr
  refine wp_region_held_drew (S := fun w' => w'.rangeAt xb 0 (cells8 ds).toList ∧ w'.there rb 0 (cells8 ds).toList.length) (by kernel_rfl) hS0 (fun hHeld => ?_)
  refine wpAnyH_take (i := 0) (v := .agg (cells8 ds).toList.toArray) rfl (by kernel_rfl) (by kernel_rfl) (by kernel_rfl) (fun _ _ _ h => h) (yieldsIf_load_mid (by rfl) _ _ rfl xb 0 rfl (cells8 ds).toList _ (fun w h => h.1) u72 rfl i72) (by assumption) ?_
  simp only [Act.put, List.setIfInBounds_toArray, List.set_cons_zero, List.set_cons_succ]
  refine wpAnyH_take (i := 1) (v := .pointer (some ⟨sb, 0, none⟩)) rfl (by kernel_rfl) (by kernel_rfl) (by kernel_rfl) (fun _ _ _ h => h) (Or.inl ⟨by rfl, fun _ _ => rfl⟩) (by assumption) ?_
  simp only [Act.put, List.setIfInBounds_toArray, List.set_cons_zero, List.set_cons_succ]
  refine wpAnyH_take (i := 2) (v := .agg (cells8 ds).toList.toArray) rfl (by kernel_rfl) (by kernel_rfl) (by kernel_rfl) (fun _ _ _ h => h) (yieldsIf_load_mid (by rfl) _ _ rfl xb 0 rfl (cells8 ds).toList _ (fun w h => h.1) u72 rfl i72) (by assumption) ?_
  simp only [Act.put, List.setIfInBounds_toArray, List.set_cons_zero, List.set_cons_succ]
  refine wpAnyH_take (i := 3) (v := .string b) rfl (by kernel_rfl) (by kernel_rfl) (by kernel_rfl) (fun _ _ _ h => h) (Or.inl ⟨by rfl, fun _ _ => rfl⟩) (by assumption) ?_
  simp only [Act.put, List.setIfInBounds_toArray, List.set_cons_zero, List.set_cons_succ]
  refine wpAnyH_take (i := 4) (v := .pointer (some ⟨sb, 0, none⟩)) rfl (by kernel_rfl) (by kernel_rfl) (by kernel_rfl) (fun _ _ _ h => h) (Or.inl ⟨by rfl, fun _ _ => rfl⟩) (by assumption) ?_
  simp only [Act.put, List.setIfInBounds_toArray, List.set_cons_zero, List.set_cons_succ]
  refine wpAnyH_take (i := 5) (v := .string name) rfl (by kernel_rfl) (by kernel_rfl) (by kernel_rfl) (fun _ _ _ h => h) (Or.inl ⟨by rfl, fun _ _ => rfl⟩) (by assumption) ?_
  simp only [Act.put, List.setIfInBounds_toArray, List.set_cons_zero, List.set_cons_succ]
  refine wpAnyH_take (i := 6) (v := .agg (cells8 ds).toList.toArray) rfl (by kernel_rfl) (by kernel_rfl) (by kernel_rfl) (fun _ _ _ h => h) (yieldsIf_load_mid (by rfl) _ _ rfl xb 0 rfl (cells8 ds).toList _ (fun w h => h.1) u72 rfl i72) (by assumption) ?_
  simp only [Act.put, List.setIfInBounds_toArray, List.set_cons_zero, List.set_cons_succ]
  rw [show (cells8 ds).toList.toArray = cells8 ds from rfl]
  rw [← HWH.out]
  refine wpAnyH_ready (rs := [7]) (by kernel_rfl) (by simp) ?_
  refine AllReadyH.cons rfl (fun K hK => ?_) AllReadyH.nil
  go_simp
  (go_at_call 68; refine (HTW2.out).mono ?_; rintro _ w2 ⟨t1, rfl, ht1, htm1, hb2⟩; have hr2 := (hb2.block _ (lt_heap HROW.out)).trans HROW.out; have hq2 := (hb2.block _ (lt_heap HRR.out)).trans HRR.out; have hS2 := And.intro (con_r hr2) (con_t hq2 (Sha.zeros_len _) ds hds))
  refine hK _ _ hS2 (fun hHeld => ?_)
  refine wpAnyH_ready (rs := [8]) (by kernel_rfl) (by simp) ?_
  refine AllReadyH.cons rfl (fun K hK => ?_) AllReadyH.nil
  go_simp
  (go_at_call 67; refine (HKP.out _ _ (HST.out.later hb2) htm1 (fun e => by have := HST.out.inn.lt e; omega)).mono ?_; rintro _ w3 ⟨ev, k, s', rfl, hev, hft, hwr, hno, h30, h31⟩; have hr3 := hft.keep _ _ _ _ hr2 (by unfold fT; decide); have hq3 := hft.keep _ _ _ _ hq2 (by unfold fT; decide); have hS3 := And.intro (con_r hr3) (con_t hq3 (Sha.zeros_len _) ds hds))
  refine hK _ _ hS3 (fun hHeld => ?_)
  refine wpAnyH_ready (rs := [9]) (by kernel_rfl) (by simp) ?_
  refine AllReadyH.cons rfl (fun K hK => ?_) AllReadyH.nil
  rw [if_pos (by rfl)]
  refine wp_store_mid 72 _ _ rfl rb 0 (cells8 ds) rfl rfl hS3.2 (size40 _ hds) (cells8_one ds) ?_
  refine hK _ _ ⟨World.rangeAt_setCells_apart hS3.1 rb 0 _ (.inl (by omega)), World.there_setCells hS3.2 rb 0 _⟩ (fun hHeld => ?_)
  simp only [Act.put, List.setIfInBounds_toArray, List.set_cons_zero, List.set_cons_succ]
  refine wpAnyH_take (i := 10) (oi := { dst := some 7, op := Op.assign (Operand.tmp 19), type := 96, pos := "change.go:20", after := _, guard := none }) (v := ev) rfl (by kernel_rfl) (by kernel_rfl) (by kernel_rfl) (fun _ _ _ h => h) (Or.inl ⟨by rfl, fun _ _ => rfl⟩) (by assumption) ?_
  simp only [Act.put, List.setIfInBounds_toArray, List.set_cons_zero, List.set_cons_succ]
  refine wpAnyH_done (by kernel_rfl) ?_ _
  obtain ⟨w4, hw4⟩ : ∃ w4, w4 = w3.setCells rb 0 (cells8 ds).toList := ⟨_, rfl⟩
  have hs4 : ∀ k, k ≠ rb → w4.heap[k]? = w3.heap[k]? := fun k hk => by rw [hw4]; exact heap_setCells_other _ _ _ hk
  have hz4 : w3.heap.size ≤ w4.heap.size := by rw [hw4]; exact (below_sets (B := 0) (Nat.zero_le rb) (cells8 ds).toList 0 w3).size
  have hq4 : w4.heap[rb]? = some (.cells (cells8 ds) 72 (0, 0)) := by rw [hw4]; exact dig_set hq3 (Sha.zeros_len _) ds hds
  have HQ4 := hide hq4
  have hr4 : w4.rangeAt rb 0 (cells8 ds).toList := by rw [hw4]; exact World.rangeAt_setCells_same w3 rb 0 _ hS3.2
  have hbb := below_sets (B := 0) (Nat.zero_le rb) (cells8 ds).toList 0 w3
  rw [← hw4] at hbb ⊢
  have HS4 := hide hs4
  have HZ4 := hide hz4
  have HR4 := hide hr4
  have HBB := hide hbb
  have HEV := hide hev
  have HFT := hide ((FT.of_below (HBW.out.trans (hb2.mono HBW.out.size))).trans hft)
  have HQ3 := hide hq3
  have HWR := hide hwr
  have HNO := hide hno
  clear hno
  have H30 := hide h30
  have H31 := hide h31
  have hGr : ¬ isG rb := fun e => by have := H.out.gl.lt e; have := HRB.out; omega
  clear hq4 hw4 hs4 hz4 hr4 hbb hev hft hwr h30 h31 hS3 hS2 hS0 hr3 hq3 hr2 hq2 hb2 htm1 ht1 hHeld
  go_wp2_with (refine wpList_load_mid rfl 72 _ rfl rb 0 rfl (cells8 ds).toList _ HR4.out Tryz.underlying72 rfl (size72 ds hds) ?_)
  refine bodyPost_ret (results_cell_tmp Tryz.results38 _ _ rb 72 _ (0, 0) _ ev rfl rfl HQ4.out Tryz.underlying72 rfl (size40 _ hds)) rfl ?_
  refine ⟨ev, rfl, k, HEV.out.far HQ3.out HS4.out, ?_, s', HWR.out, HNO.out, fun hk => ?_, fun hk => (H31.out hk).far HZ4.out HQ3.out hGr HS4.out⟩
  · exact ⟨fun k hk hs => (HS4.out k (fun e => by have := HRB.out; omega)).trans (HFT.out.low k hk hs), HBB.out.os.trans HFT.out.os, HBB.out.tape.trans HFT.out.tape, HBB.out.output.trans HFT.out.output, Nat.le_trans HFT.out.size HZ4.out, fun i cur T fr hi hT => (HS4.out i (fun e => by have := lt_heap hi; have := HRB.out; omega)).trans (HFT.out.keep i cur T fr hi hT)⟩
  · obtain ⟨t2, n2, hst⟩ := H30.out hk
    exact ⟨t2, n2, hst.far HZ4.out HQ3.out hGr HS4.out⟩
end Go.Proofs.YteicpbcddjjceaaGreatDoor

/-
  PROVED HERE: what Has, HasTag and MayTag of a store answer.
-/
namespace Go.Proofs.YteicpbcddjjceaaGreatDoor
open Go.RowKit
theorem Tryz.zero59 (w : World) : (zeroValue 59).run Tryz.prog w = .ok (.agg #[]) w := by kernel_rfl
/-- A map of contents holds nothing but that they are there. -/
def UnitC (D : DataW Value) : Prop := ∀ kl v, D.atKey kl (.held (.agg #[])) = .held v → v = .agg #[]
theorem unitC_none : UnitC (.map []) := fun kl v h => by
  simp only [DataW.atKey, List.find?_nil] at h
  injection h with h
  exact h.symm
theorem dPut_one (ds : List Nat) : dPut (.map []) ds = .map [(dKey ds, .held (.agg #[]))] := by
  simp [dPut, DataW.put_eq, ChangeMaps.putKey, DataW.insert]
theorem unitC_one (ds : List Nat) : UnitC (dPut (.map []) ds) := fun kl v h => by
  rw [dPut_one] at h
  simp only [DataW.atKey, List.find?_cons, List.find?_nil] at h
  cases hs : (dKey ds).sameKey kl with
  | true => rw [hs] at h; injection h with h; exact h.symm
  | false => rw [hs] at h; injection h with h; exact h.symm
set_option maxHeartbeats 1000000 in
set_option maxRecDepth 100000 in
theorem has_any (sb : Nat) (s : PSt) (cb tb nc nt : Nat) (Dc Dt : DataW Value) (ds : List Nat) (w : World) (h : StW w sb s cb tb nc nt Dc Dt) (hu : UnitC Dc) (hds : ds.length = 32) (hlt : ∀ i, ds.getD i 0 < 256) :
    Calls Tryz.prog 70 #[.pointer (some ⟨sb, 0, none⟩), .agg (cells8 ds)] w fun e w' => e = .returned (.bool (Maps.has Dc (dKey ds))) ∧ Below w.heap.size w w' := by
  have hbo : Below w.heap.size w (w.alloc (.cells (cells8 ds) 72)) := (Below.refl _ _).alloc (Nat.le_refl _) _
  have hrow : (w.alloc (.cells (cells8 ds) 72)).heap[w.heap.size]? = some (.cells (cells8 ds) 72 (0, 0)) := heap_alloc_new _ _
  obtain ⟨W, hW⟩ : ∃ W, W = w.alloc (.cells (cells8 ds) 72) := ⟨_, rfl⟩
  rw [← hW] at hbo hrow
  have hst := h.later hbo
  have HROW := hide hrow
  have HW := hide hW
  have HBO := hide hbo
  have HST := hide hst
  clear h hst hW hbo hrow
  go_enter Tryz.func70, Tryz.ntmps70
  go_upto_region 1 with fail
  rw [← HW.out]
  have hdr : Below W.heap.size W W.drew := (Below.refl _ _).drew
  have h6 := HST.out.later hdr
  have hS0 : W.drew.cell? ⟨sb, 1, none⟩ = some (.map (some cb)) ∧ W.drew.rangeAt w.heap.size 0 (cells8 ds).toList := ⟨cell_of_row _ _ 1 _ _ _ h6.blk, con_r ((hdr.block _ (lt_heap HROW.out)).trans HROW.out)⟩
  obtain ⟨v, ps, hrun, hv⟩ := World.ownsMap.look_ok h6.cm dig_keyed Tryz.underlying119 (Tryz.zero59 _) (show heldR (.agg #[]) = some (.held (.agg #[]), []) from rfl) (key_dig ds hds hlt)
  have hv2 : v = .agg #[] := hu (dKey ds) v (by
    unfold heldR at hv
    injection hv with hv
    injection hv with hv
    exact hv.symm)
  subst hv2
  have u72 := Tryz.underlying72
  have i72 := size72 ds hds
  have hdr1 : Below W.heap.size W (W.alloc (.cells #[] 59)).drew := ((Below.refl _ _).alloc (Nat.le_refl _) _).drew
  have h7 := HST.out.later hdr1
  have hS1 : (W.alloc (.cells #[] 59)).drew.cell? ⟨sb, 1, none⟩ = some (.map (some cb)) ∧ (W.alloc (.cells #[] 59)).drew.rangeAt w.heap.size 0 (cells8 ds).toList := ⟨cell_of_row _ _ 1 _ _ _ h7.blk, con_r ((hdr1.block _ (lt_heap HROW.out)).trans HROW.out)⟩
  obtain ⟨v, ps, hrun1, hv1⟩ := World.ownsMap.look_ok h7.cm dig_keyed Tryz.underlying119 (Tryz.zero59 _) (show heldR (.agg #[]) = some (.held (.agg #[]), []) from rfl) (key_dig ds hds hlt)
  have hv2 : v = .agg #[] := hu (dKey ds) v (by
    unfold heldR at hv1
    injection hv1 with hv1
    injection hv1 with hv1
    exact hv1.symm)
  subst hv2
  clear h6 h7 hv hv1
  go_region_held3 (fun w' => w'.cell? ⟨sb, 1, none⟩ = some (.map (some cb)) ∧ w'.rangeAt w.heap.size 0 (cells8 ds).toList) (first | exact hS0 | exact hS1 | go_keep) (fail)
  all_goals
    go_wp2_with fail
    go_ret
    exact ⟨rfl, HBO.out.trans (hdr1.mono HBO.out.size)⟩
set_option maxHeartbeats 1000000 in
set_option maxRecDepth 100000 in
theorem hasTag_none (sb : Nat) (s : PSt) (cb tb nc nt : Nat) (Dc : DataW Value) (name : ByteArray) (w : World) (h : StW w sb s cb tb nc nt Dc (.map [])) (hn : name.size ≤ 1000000) :
    Calls Tryz.prog 66 #[.pointer (some ⟨sb, 0, none⟩), .string name] w fun e w' => e = .returned (.bool false) ∧ Below w.heap.size w w' := by
  have HST := hide h
  have hz71 := (zero_of_info Tryz.info71b).1
  obtain ⟨v, ps, hrun, hv⟩ := World.ownsMap.look_ok h.tm str_keyed Tryz.underlying120 (hz71 w) (show heldR _ = some (.held _, []) from rfl) (key_str name hn)
  have hv2 : Value.agg (ecellsOf ⟨#[]⟩ (Sha.zeros 32) 0) = v := by
    unfold heldR at hv
    injection hv with hv
    injection hv with hv
    injection hv with hv
    exact hv.symm
  subst hv2
  have hh : Maps.has (.map [] : DataW Value) (.string name.data.toList) = false := rfl
  rw [hh] at hrun
  have c2 := cell_of_row _ _ 2 _ _ _ h.blk
  clear h hv hh
  go_enter Tryz.func66, Tryz.ntmps66
  go_wp2_with (refine wpList_store_row rfl 130 _ _ rfl w.heap.size _ rfl rfl 130 _ (heap_alloc_new _ _) (size71 _ _ _ (Sha.zeros_len _)) rfl (Array.all_eq_true_iff_forall_mem.2 fun u hu => ecellsOf_one _ _ _ u (by simpa using hu)) ?_; rw [World.setRow_alloc_new])
  go_ret
  exact ⟨rfl, (Below.refl _ _).alloc (Nat.le_refl _) _⟩
set_option maxHeartbeats 1000000 in
set_option maxRecDepth 100000 in
theorem mayTag_none (sb : Nat) (s : PSt) (cb tb nc nt : Nat) (Dc : DataW Value) (name : ByteArray) (w : World) (h : StW w sb s cb tb nc nt Dc (.map [])) (hn : name.size ≤ 1000000) :
    Calls Tryz.prog 36 #[.pointer (some ⟨sb, 0, none⟩), .string name] w fun e w' => e = .returned (.bool true) ∧ Below w.heap.size w w' := by
  have HT := hide (hasTag_none sb s cb tb nc nt Dc name w h hn)
  have HST := hide h
  clear h
  go_enter Tryz.func36, Tryz.ntmps36
  go_wp2_with fail
  refine (HT.out).mono ?_
  rintro _ w1 ⟨rfl, hb1⟩
  dsimp only
  have h1 := HST.out.later hb1
  have c2 := cell_of_row _ _ 2 _ _ _ h1.blk
  have l2 := h1.tm.len Tryz.underlying120
  have hz : Maps.size (.map [] : DataW Value) = 0 := rfl
  simp only [hz] at l2
  have HB1 := hide hb1
  clear hb1 h1 HT hz
  go_wp2_with fail
  go_ret
  exact ⟨rfl, HB1.out⟩
end Go.Proofs.YteicpbcddjjceaaGreatDoor

/-
  PROVED HERE: what kept and find of package blobs answer.
-/
namespace Go.Proofs.YteicpbcddjjceaaGreatDoor
open Go.RowKit
theorem ErrV.later {w w' : World} {ev : Value} {k : Int} (h : ErrV w ev k) (hb : Below w.heap.size w w') : ErrV w' ev k := by
  rcases h with h | ⟨h0, sv, nm, h1, h2⟩
  · exact .inl h
  · exact .inr ⟨h0, sv, nm, h1, (hb.block _ (lt_heap h2)).trans h2⟩
set_option maxHeartbeats 1000000 in
set_option maxRecDepth 100000 in
theorem kept_any (ds : List Nat) (ev : Value) (k : Int) (w : World) (hev : ErrV w ev k) (hg : Gl w) (hds : ds.length = 32) (hlt : ∀ i, ds.getD i 0 < 256) :
    Calls Tryz.prog 37 #[.agg (cells8 ds), ev] w fun e w' => e = .returned (.tuple #[.string (if k = 0 then dtx ds else ⟨#[]⟩), .int .i64 k]) ∧ Below w.heap.size w w' := by
  have hbo : Below w.heap.size w (w.alloc (.cells (cells8 ds) 72)) := (Below.refl _ _).alloc (Nat.le_refl _) _
  have hrow : (w.alloc (.cells (cells8 ds) 72)).heap[w.heap.size]? = some (.cells (cells8 ds) 72 (0, 0)) := heap_alloc_new _ _
  obtain ⟨W, hW⟩ : ∃ W, W = w.alloc (.cells (cells8 ds) 72) := ⟨_, rfl⟩
  rw [← hW] at hbo hrow
  have HER := hide (errno_ev (hev.later hbo) (hg.later hbo).err)
  have HTX := hide (text_any ds W hds hlt)
  have HROW := hide hrow
  have HW := hide hW
  have HBO := hide hbo
  clear hg hW hbo hrow
  rcases hev with ⟨rfl, rfl⟩ | ⟨hk0, sv, nm, rfl, hsv⟩
  · go_enter Tryz.func37, Tryz.ntmps37
    go_upto_region 1 with fail
    rw [← HW.out]
    go_wp2_with (refine wpList_load_row rfl 72 _ rfl w.heap.size rfl 72 _ _ _ HROW.out Tryz.underlying72 rfl (size40 _ hds) ?_)
    refine (HTX.out).mono ?_
    rintro _ w1 ⟨rfl, hb1⟩
    dsimp only
    have HB1 := hide hb1
    clear hb1 HTX HER
    go_wp2_with fail
    refine bodyPost_ret (results_tmp2 rfl _ _ _) rfl ?_
    exact ⟨rfl, HBO.out.trans (HB1.out.mono HBO.out.size)⟩
  · have HSV := hide hsv
    clear hsv
    go_enter Tryz.func37, Tryz.ntmps37
    go_upto_region 1 with fail
    rw [← HW.out]
    go_wp2_with fail
    refine (HER.out).mono ?_
    rintro _ w1 ⟨rfl, hb1⟩
    dsimp only
    have HB1 := hide hb1
    clear hb1 HTX HER
    go_wp2_with fail
    refine bodyPost_ret (results_tmp2 rfl _ _ _) rfl ?_
    exact ⟨rfl, HBO.out.trans (HB1.out.mono HBO.out.size)⟩
end Go.Proofs.YteicpbcddjjceaaGreatDoor
