/-
  PROVED HERE: what the program's function takeAll answers for every eight numbers and every text of whole blocks: nothing that was there has turned.
-/
import Derived.Test.YtpgamoielkpakaaDoorBlock
import Derived.Test.YtpgamoielkpakaaDoorShaTwo
namespace Go.Proofs.YtpgamoielkpakaaDoor
open Go.RowKit
theorem store8 {w : World} {g : Nat} {t : TypeId} {x0 x1 x2 x3 x4 x5 x6 x7 : Value} (y0 y1 y2 y3 y4 y5 y6 y7 : Value) (h : w.heap[g]? = some (.cells #[x0, x1, x2, x3, x4, x5, x6, x7] t (0, 0))) :
    ((((((((w.setCell ⟨g, 0, none⟩ y0).setCell ⟨g, 1, none⟩ y1).setCell ⟨g, 2, none⟩ y2).setCell ⟨g, 3, none⟩ y3).setCell ⟨g, 4, none⟩ y4).setCell ⟨g, 5, none⟩ y5).setCell ⟨g, 6, none⟩ y6).setCell ⟨g, 7, none⟩ y7).heap[g]? = some (.cells #[y0, y1, y2, y3, y4, y5, y6, y7] t (0, 0)) := by
  have h0 := heap_setCell_same w g 0 _ t y0 h
  simp only [List.setIfInBounds_toArray, List.set_cons_zero] at h0
  have h1 := heap_setCell_same _ g 1 _ t y1 h0
  simp only [List.setIfInBounds_toArray, List.set_cons_zero, List.set_cons_succ] at h1
  have h2 := heap_setCell_same _ g 2 _ t y2 h1
  simp only [List.setIfInBounds_toArray, List.set_cons_zero, List.set_cons_succ] at h2
  have h3 := heap_setCell_same _ g 3 _ t y3 h2
  simp only [List.setIfInBounds_toArray, List.set_cons_zero, List.set_cons_succ] at h3
  have h4 := heap_setCell_same _ g 4 _ t y4 h3
  simp only [List.setIfInBounds_toArray, List.set_cons_zero, List.set_cons_succ] at h4
  have h5 := heap_setCell_same _ g 5 _ t y5 h4
  simp only [List.setIfInBounds_toArray, List.set_cons_zero, List.set_cons_succ] at h5
  have h6 := heap_setCell_same _ g 6 _ t y6 h5
  simp only [List.setIfInBounds_toArray, List.set_cons_zero, List.set_cons_succ] at h6
  have h7 := heap_setCell_same _ g 7 _ t y7 h6
  simpa only [List.setIfInBounds_toArray, List.set_cons_zero, List.set_cons_succ] using h7
theorem HasK.below {w w1 : World} {B : Nat} (h : HasK w) (hb : Below B w w1) (hB : 0 < B) : HasK w1 :=
  ⟨by have := h.1; have := hb.size; omega, fun i hi => (hb.cell (p := ⟨0, i, none⟩) hB).trans (h.2 i hi)⟩
theorem HasK.drew {w : World} (h : HasK w) : HasK w.drew := h

set_option maxHeartbeats 1000000 in
set_option maxRecDepth 100000 in
theorem all_any (s : Sha.St) (bs : ByteArray) (w : World) (hs : s.Ok) (hm : bs.size ≤ maxLen - 64) (hsz : bs.size % 64 = 0) (hK : HasK w) :
    Calls Tryd.prog 36 #[.agg (vals s), .string bs] w fun e w' => e = .returned (.agg (vals (Sha.allTo s bs.data.toList (bs.size / 64)))) ∧ Below w.heap.size w w' := by
  unfold maxLen at hm
  have hz8 := (zero_of_info Tryd.info59).1
  have hK1 := hK.1
  go_enter Tryd.func36, Tryd.ntmps36
  go_wp2
  go_loopw [5] (fun i wr => ∃ k : Nat, 64 * k ≤ bs.size ∧ i = .int .i64 ((64 * k : Nat) : Int) ∧ wr.heap[w.heap.size]? = some (.cells (vals (Sha.allTo s bs.data.toList k)) 59 (0, 0)) ∧ wr.heap[w.heap.size + 1]? = some (.cells zero8 59 (0, 0)) ∧ Below w.heap.size w wr)
    (fun i _ => bs.size - (intOf i).toNat)
  case atStart => exact ⟨0, by omega, rfl, heap_alloc2_old _ _ _, heap_alloc2_new _ _ _, ((Below.refl _ _).alloc (Nat.le_refl _) _).alloc (by simp) _⟩
  case round =>
    obtain ⟨k, hk, rfl, hv, hr, hb⟩ := hrel
    have hok := Sha.allTo_ok hs bs.data.toList k
    obtain ⟨st, hst⟩ : ∃ st, st = Sha.allTo s bs.data.toList k := ⟨_, rfl⟩
    rw [← hst] at hok hv
    have HST := hide hst
    clear hst
    obtain ⟨at_, hat⟩ : ∃ at_, at_ = 64 * k := ⟨_, rfl⟩
    rw [← hat] at hk ⊢
    have HAT := hide hat
    clear hat
    by_cases hlt : at_ < bs.size
    · have hlt2 : at_ + 64 ≤ bs.size := by have := HAT.out; omega
      obtain ⟨c0, c1, c2, c3, c4, c5, c6, c7⟩ := cells_of8 hv
      have hKr : HasK wr := hK.below hb hK1
      have hzb := hb.size
      have HC : Hid (Calls Tryd.prog 57 #[.agg (vals st), .string (bs.extract at_ (at_ + 64))] wr.drew fun e w1 => e = .returned (.agg (vals (Sha.block st (bs.extract at_ (at_ + 64)).data.toList))) ∧ Below w.heap.size w w1 ∧ w.heap.size < w1.heap.size ∧ w1.heap[w.heap.size]? = some (.cells (vals st) 59 (0, 0)) ∧ w1.heap[w.heap.size + 1]? = some (.cells zero8 59 (0, 0))) := by
        have hlt1 := lt_of_row hr
        refine (block_any st _ wr.drew hok (by simp; omega) hKr.drew).mono ?_
        rintro e w1 ⟨rfl, hb1⟩
        exact ⟨rfl, (hb.drew).trans (hb1.mono (by show _ ≤ wr.heap.size; omega)), by have := hb1.size; have e1 : wr.drew.heap.size = wr.heap.size := rfl; omega, (hb1.block _ (by show _ < wr.heap.size; omega)).trans hv, (hb1.block _ (by show _ < wr.heap.size; omega)).trans hr⟩
      have q1 : IntKind.i64.wrap ((at_ : Int) + 64) = (at_ : Int) + 64 := by rw [IntKind.wrap_i64]; omega
      have q2 : (0 : Int) ≤ (at_ : Int) + 64 := by omega
      have q3 : (at_ : Int) + 64 ≤ (bs.size : Int) := by omega
      have q4 : ((at_ : Int) + 64).toNat = at_ + 64 := by omega
      have q5 : at_ ≤ bs.size := by omega
      have q6 : (at_ : Int) ≤ (at_ : Int) + 64 := by omega
      go_wp2
      go_region_with ((go_at_call 57; refine (HC.out).mono ?_; rintro e w1 ⟨rfl, hbw1, hz1, hv1, hr1⟩; obtain ⟨d0, d1, d2, d3, d4, d5, d6, d7⟩ := cells_of8 hv1; have f0 := fun j => frozen_of_row w1 w.heap.size j _ _ hv1))
      generalize hst2 : Sha.block st (List.take 64 (List.drop at_ bs.data.toList)) = st2
      have HST2 := hide hst2
      clear hst2 d0 d1 d2 d3 d4 d5 d6 d7 f0 c0 c1 c2 c3 c4 c5 c6 c7
      go_wp2
      go_roundw
      case rel =>
        refine ⟨k + 1, by have := HAT.out; omega, by have := HAT.out; go_num, ?_, ?_, ?_⟩
        · refine (store8 _ _ _ _ _ _ _ _ hv1).trans ?_
          rw [← HST2.out, HST.out, HAT.out]
          rfl
        · rw [heap_setCell_other _ _ _ _ (by simp), heap_setCell_other _ _ _ _ (by simp), heap_setCell_other _ _ _ _ (by simp), heap_setCell_other _ _ _ _ (by simp), heap_setCell_other _ _ _ _ (by simp), heap_setCell_other _ _ _ _ (by simp), heap_setCell_other _ _ _ _ (by simp), heap_setCell_other _ _ _ _ (by simp)]
          exact hr1
        · exact (((((((hbw1.setCell (by simp) _).setCell (by simp) _).setCell (by simp) _).setCell (by simp) _).setCell (by simp) _).setCell (by simp) _).setCell (by simp) _).setCell (by simp) _
      case measure => simp [intOf]; omega
    · have hke : Hid (k = bs.size / 64) := by show k = _; have := HAT.out; omega
      go_wp2_with (first | (refine wpList_load_row rfl 59 _ rfl w.heap.size rfl 59 _ _ _ hv Tryd.underlying59 rfl (size58 _ _ _ _ _ _ _ _) ?_) | (refine wpList_store_row rfl 59 _ _ rfl (w.heap.size + 1) _ rfl rfl 59 _ hr (size58 _ _ _ _ _ _ _ _) (sizes8 _ _ _ _ _ _ _ _ _ _ _ _ _ _ _ _) (ints8_one _ _ _ _ _ _ _ _) ?_))
      rw [← hke.out, ← HST.out]
      exact bodyPost_ret (results_cell_row Tryd.results36 _ _ (w.heap.size + 1) 59 _ (0, 0) _ rfl (setRow_heap _ _ _ _ _ _ hr) Tryd.underlying59 rfl (size58 _ _ _ _ _ _ _ _)) rfl ⟨rfl, hb.setRow (by omega) _⟩
end Go.Proofs.YtpgamoielkpakaaDoor
