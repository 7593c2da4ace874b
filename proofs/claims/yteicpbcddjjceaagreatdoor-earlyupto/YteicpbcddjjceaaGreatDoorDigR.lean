/-
  PROVED HERE: what the program's function digest of the index's reader answers, or at which place it gives up.
-/
import Derived.Test.YteicpbcddjjceaaGreatDoorTagR
namespace Go.Proofs.YteicpbcddjjceaaGreatDoor
open Go.RowKit
def digestS (t : ByteArray) (a : Nat) : RS ByteArray := digestG (nextS t) a
theorem zero_kept {w w1 : World} {b : Nat} {cs : Array Value} {T : TypeId} (h : (w.alloc (.cells cs T)).grownBy w1 (some b)) (hb : b < w.heap.size) : w1.heap[w.heap.size]? = some (.cells cs T (0, 0)) :=
  (h.block w.heap.size (by simp) (by intro e; cases e; omega)).trans (heap_alloc_new _ _)
set_option maxHeartbeats 1000000 in
set_option maxRecDepth 100000 in
theorem digest_core (b a : Nat) (t : ByteArray) (w : World) (hs : ScIs w b t a) (ha : a ≤ t.size) (ht : t.size ≤ 2000) :
    Calls Tryz.prog 204 #[.pointer (some ⟨b, 0, none⟩)] w fun e w' => w.grownBy w' (some b) ∧ ((∃ n c, digestS t a = .ok n c ∧ e = .returned (.agg (cells8 (rd n))) ∧ ScIs w' b t c) ∨ (∃ p, digestS t a = .bad p ∧ e = gaveUp p)) := by
  have HS := hide hs
  have hbl := lt_heap hs
  clear hs
  have hz4 := (zero_of_info Tryz.info72).1
  go_enter Tryz.func204, Tryz.ntmps204
  go_wp2_with fail
  refine (next_core b a t _ (HS.out.later ((Below.refl _ _).alloc (Nat.le_refl _) _)) ha ht).mono ?_
  rintro e w1 ⟨hg1, hc⟩
  have hms : digestS t a = (match nextS t a with | .tok k p _ l c => if k = 34 ∧ isDigB ⟨l.toArray⟩ = true then .ok ⟨l.toArray⟩ c else .bad p | .bad p => .bad p) := by unfold digestS digestG; cases nextS t a <;> rfl
  cases hnx : nextS t a with
  | bad p =>
    rw [hnx] at hc hms
    have hc2 : e = gaveUp p := hc
    subst hc2
    dsimp only [gaveUp]
    exact ⟨rfl, grownBy_trans (World.grownBy_alloc _ _ _) hg1, Or.inr ⟨p, hms, rfl⟩⟩
  | tok k p n l c =>
    rw [hnx] at hc hms
    obtain ⟨rfl, hsc⟩ : e = .returned (tokV k p ((n : Nat) : Int) ⟨l.toArray⟩) ∧ ScIs w1 b t c := hc
    dsimp only [tokV]
    have HG1 := hide hg1
    have HSC := hide hsc
    have hms2 : digestS t a = if k = 34 ∧ isDigB ⟨l.toArray⟩ = true then .ok ⟨l.toArray⟩ c else .bad p := hms
    clear hms hnx
    generalize (⟨l.toArray⟩ : ByteArray) = s at hms2 ⊢
    have HMS := hide hms2
    have hz : w1.heap[w.heap.size]? = some (.cells (cells8 (Sha.zeros 32)) 72 (0, 0)) := zero_kept hg1 hbl
    have HZ := hide hz
    have hl1 := lt_of_row hz
    clear hg1 hsc hms2 hz
    go_wp2_with fail
    refine (read_any s _).mono ?_
    rintro e w2 ⟨rfl, hm⟩
    dsimp only
    generalize hrd : rd s = ds
    have hdl : ds.length = 32 := by rw [← hrd]; exact rd_len _
    have HRD := hide hrd
    clear hrd
    have t0 : w2.heap[w1.heap.size]? = some (.cells #[.int .u8 ((k : Nat) : Int), .int .i64 ((p : Nat) : Int), .int .i64 ((n : Nat) : Int), .string s] 185 (0, 0)) := (hm.block _ (by rw [size_alloc]; omega)).trans (heap_alloc_new _ _)
    have t1 : w2.cell? ⟨w1.heap.size, 0, none⟩ = some (.int .u8 ((k : Nat) : Int)) := cell_of_row w2 w1.heap.size 0 _ _ _ t0
    have t2 : w2.cell? ⟨w1.heap.size, 1, none⟩ = some (.int .i64 ((p : Nat) : Int)) := cell_of_row w2 w1.heap.size 1 _ _ _ t0
    have t3 : w2.cell? ⟨w1.heap.size, 2, none⟩ = some (.int .i64 ((n : Nat) : Int)) := cell_of_row w2 w1.heap.size 2 _ _ _ t0
    have t4 : w2.cell? ⟨w1.heap.size, 3, none⟩ = some (.string s) := cell_of_row w2 w1.heap.size 3 _ _ _ t0
    have tl := lt_of_row t0
    have hg2 : w.grownBy w2 (some b) := grownBy_trans (grownBy_trans (World.grownBy_alloc _ _ _) HG1.out) (grownBy_alloc_below hm (some b))
    have HG2 := hide hg2
    have HSC2 := hide (ScIs.later_alloc HSC.out hm)
    have hz2 : w2.heap[w.heap.size]? = some (.cells (cells8 (Sha.zeros 32)) 72 (0, 0)) := (hm.block _ (by rw [size_alloc]; omega)).trans ((((Below.refl w1.heap.size w1).alloc (Nat.le_refl _) _).block _ hl1).trans HZ.out)
    have HZ2 := hide hz2
    have HM := hide hm
    clear hm hg2 t0 hz2 HSC HZ HG1
    by_cases hk : k = 34
    · subst hk
      cases hdig : isDigB s with
      | true =>
        go_wp2_with (first | (refine wpList_store_row rfl 72 _ _ rfl w2.heap.size _ rfl rfl 72 _ (heap_alloc_new _ _) (size40 _ hdl) (by rw [cells8_size, cells8_size, hdl, Sha.zeros_len]) (cells8_one _) ?_; rw [World.setRow_alloc_new]) | (go_at_call 106; refine (must_ok _ _ _ _ _).mono ?_; rintro e w3 ⟨rfl, hm3⟩; have hD3 : w3.heap[w2.heap.size]? = some (.cells (cells8 ds) 72 (0, 0)) := (hm3.block _ (by rw [size_alloc]; omega)).trans (heap_alloc_new _ _); have hZ3 : w3.heap[w.heap.size]? = some (.cells (cells8 (Sha.zeros 32)) 72 (0, 0)) := (hm3.block _ (by rw [size_alloc]; omega)).trans ((((Below.refl w2.heap.size w2).alloc (Nat.le_refl _) _).block _ (by omega)).trans HZ2.out)) | (refine wpList_load_row rfl 72 _ rfl w2.heap.size rfl 72 _ _ _ hD3 Tryz.underlying72 rfl (size40 _ hdl) ?_) | (refine wpList_store_row rfl 72 _ _ rfl w.heap.size _ rfl rfl 72 _ hZ3 (size40 _ hdl) (by rw [cells8_size, cells8_size, hdl, Sha.zeros_len]) (cells8_one _) ?_))
        have hbs : Below w.heap.size w3 (w3.setRow w.heap.size (cells8 ds)) := (Below.refl _ _).setRow (Nat.le_refl _) _
        refine bodyPost_ret (results_cell_row Tryz.results204 _ _ w.heap.size 72 _ (0, 0) _ rfl (setRow_heap _ _ _ _ _ _ hZ3) Tryz.underlying72 rfl (size40 _ hdl)) rfl ⟨?_, Or.inl ⟨s, c, ?_, ?_, ?_⟩⟩
        · exact grown_then (grownBy_trans HG2.out (grownBy_alloc_below hm3 (some b))) hbs
        · rw [HMS.out]; simp [hdig]
        · rw [HRD.out]
        · exact (hbs.block b hbl).trans (ScIs.later_alloc HSC2.out hm3)
      | false =>
        go_wp2_with (first | (refine wpList_store_row rfl 72 _ _ rfl w2.heap.size _ rfl rfl 72 _ (heap_alloc_new _ _) (size40 _ hdl) (by rw [cells8_size, cells8_size, hdl, Sha.zeros_len]) (cells8_one _) ?_; rw [World.setRow_alloc_new]) | (go_at_call 106; refine (must_bad _ _ _ _ _).mono ?_; rintro e w3 ⟨rfl, hm3⟩; dsimp only [gaveUp]))
        exact ⟨rfl, grownBy_trans HG2.out (grownBy_alloc_below hm3 (some b)), Or.inr ⟨p, by rw [HMS.out]; simp [hdig], rfl⟩⟩
    · have hf : ((k : Int) == (34 : Int)) = false := by simp; omega
      go_wp2_with (first | (refine wpList_store_row rfl 72 _ _ rfl w2.heap.size _ rfl rfl 72 _ (heap_alloc_new _ _) (size40 _ hdl) (by rw [cells8_size, cells8_size, hdl, Sha.zeros_len]) (cells8_one _) ?_; rw [World.setRow_alloc_new]) | (go_at_call 106; refine (must_bad _ _ _ _ _).mono ?_; rintro e w3 ⟨rfl, hm3⟩; dsimp only [gaveUp]))
      exact ⟨rfl, grownBy_trans HG2.out (grownBy_alloc_below hm3 (some b)), Or.inr ⟨p, by rw [HMS.out]; simp [hk], rfl⟩⟩
end Go.Proofs.YteicpbcddjjceaaGreatDoor
