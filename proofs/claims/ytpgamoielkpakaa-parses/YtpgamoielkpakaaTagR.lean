/-
  PROVED HERE: what the program's function tag of the index's reader answers, or at which place it gives up.
-/
import Derived.Test.YtpgamoielkpakaaSize
import Derived.Test.YtpgamoielkpakaaNextFacts
import Derived.Test.YtpgamoielkpakaaCheckLib
namespace Go.Proofs.Ytpgamoielkpakaa
open Go.RowKit
def tagS (t : ByteArray) (last : ByteArray) (a : Nat) : RS ByteArray := tagG (nextS t) last a
set_option maxHeartbeats 1000000 in
set_option maxRecDepth 100000 in
theorem tag_core (b a : Nat) (t last : ByteArray) (w : World) (hs : ScIs w b t a) (ha : a ≤ t.size) (ht : t.size ≤ 2000) :
    Calls Try.prog 53 #[.pointer (some ⟨b, 0, none⟩), .string last] w fun e w' => w.grownBy w' (some b) ∧ ((∃ n c, tagS t last a = .ok n c ∧ e = .returned (.string n) ∧ ScIs w' b t c) ∨ (∃ p, tagS t last a = .bad p ∧ e = gaveUp p)) := by
  have HS := hide hs
  have hbl := lt_heap hs
  have HN := hide (next_core b a t w hs ha ht)
  clear hs
  go_enter Try.func53, Try.ntmps53
  go_wp2_with fail
  refine HN.out.mono ?_
  rintro e w1 ⟨hg1, hc⟩
  have hms : tagS t last a = (match nextS t a with | .tok k p _ l c => if k = 34 ∧ isTagB ⟨l.toArray⟩ = true ∧ leB ⟨l.toArray⟩ last = false then .ok ⟨l.toArray⟩ c else .bad p | .bad p => .bad p) := by unfold tagS tagG; cases nextS t a <;> rfl
  cases hnx : nextS t a with
  | bad p =>
    rw [hnx] at hc hms
    have hc2 : e = gaveUp p := hc
    subst hc2
    dsimp only [gaveUp]
    exact ⟨rfl, hg1, Or.inr ⟨p, hms, rfl⟩⟩
  | tok k p n l c =>
    rw [hnx] at hc hms
    obtain ⟨rfl, hsc⟩ : e = .returned (tokV k p ((n : Nat) : Int) ⟨l.toArray⟩) ∧ ScIs w1 b t c := hc
    dsimp only [tokV]
    have HG1 := hide hg1
    have HSC := hide hsc
    have hsz : (⟨l.toArray⟩ : ByteArray).size ≤ 9223372036854775807 := by have := (nextS_far ha hnx).2.2.1; rw [bytes_size]; omega
    have hms2 : tagS t last a = if k = 34 ∧ isTagB ⟨l.toArray⟩ = true ∧ leB ⟨l.toArray⟩ last = false then .ok ⟨l.toArray⟩ c else .bad p := hms
    clear hms hnx
    generalize (⟨l.toArray⟩ : ByteArray) = s at hms2 hsz ⊢
    have HMS := hide hms2
    clear hg1 hsc hms2 HN
    by_cases hk : k = 34
    · subst hk
      cases hz : isTagB s with
      | true =>
        have HZ : Hid (∀ w, Calls Try.prog 58 #[.string s] w fun e w' => e = .returned (.bool true) ∧ w' = w) := fun w => by
          have := ownTag_any s w hsz
          rwa [hz] at this
        have HZ1 := hide hz
        rcases leB_cases s last with ⟨hle, q1⟩ | ⟨hle, q1, rfl⟩ | ⟨hle, q1, q2, q3⟩
        · have HNO := hide hle
          clear hz hle
          go_wp2_with fail
          refine region_stillI 15 mixed (by kernel_rfl) ?_
          simp only [List.take_succ_cons, List.take_zero, List.drop_succ_cons, List.drop_zero]
          iterate 7 (refine stillI_step (fun K hK => ?_); go_simp; refine hK _ ?_; clear hK K)
          refine stillI_step (fun K hK => ?_); go_simp
          refine ⟨_, HZ.out _, hK _ ?_⟩; clear hK K
          iterate 7 (refine stillI_step (fun K hK => ?_); go_simp; refine hK _ ?_; clear hK K)
          refine stillI_nil ?_
          go_wp2_with (go_at_call 30; refine (must_bad _ _ _ _ _).mono ?_; rintro e w2 ⟨rfl, hm⟩; dsimp only [gaveUp])
          have hg2 := grownBy_trans HG1.out (grownBy_alloc_drew_below hm (some b))
          exact ⟨rfl, hg2, Or.inr ⟨p, by rw [HMS.out]; simp [HNO.out], rfl⟩⟩
        · have HNO := hide hle
          clear hz hle
          go_wp2_with fail
          refine region_stillI 15 mixed (by kernel_rfl) ?_
          simp only [List.take_succ_cons, List.take_zero, List.drop_succ_cons, List.drop_zero]
          iterate 7 (refine stillI_step (fun K hK => ?_); go_simp; refine hK _ ?_; clear hK K)
          refine stillI_step (fun K hK => ?_); go_simp
          refine ⟨_, HZ.out _, hK _ ?_⟩; clear hK K
          iterate 7 (refine stillI_step (fun K hK => ?_); go_simp; refine hK _ ?_; clear hK K)
          refine stillI_nil ?_
          go_wp2_with (go_at_call 30; refine (must_bad _ _ _ _ _).mono ?_; rintro e w2 ⟨rfl, hm⟩; dsimp only [gaveUp])
          have hg2 := grownBy_trans HG1.out (grownBy_alloc_drew_below hm (some b))
          exact ⟨rfl, hg2, Or.inr ⟨p, by rw [HMS.out]; simp [HNO.out], rfl⟩⟩
        · have HNO := hide hle
          clear hz hle q2
          go_wp2_with fail
          refine region_stillI 15 mixed (by kernel_rfl) ?_
          simp only [List.take_succ_cons, List.take_zero, List.drop_succ_cons, List.drop_zero]
          iterate 7 (refine stillI_step (fun K hK => ?_); go_simp; refine hK _ ?_; clear hK K)
          refine stillI_step (fun K hK => ?_); go_simp
          refine ⟨_, HZ.out _, hK _ ?_⟩; clear hK K
          iterate 7 (refine stillI_step (fun K hK => ?_); go_simp; refine hK _ ?_; clear hK K)
          refine stillI_nil ?_
          go_wp2_with (go_at_call 30; refine (must_ok _ _ _ _ _).mono ?_; rintro e w2 ⟨rfl, hm⟩; have hc2 : w2.cell? ⟨w1.heap.size, 3, none⟩ = some (.string s) := cell_later hm (by go_keep))
          go_ret
          have hg2 := grownBy_trans HG1.out (grownBy_alloc_drew_below hm (some b))
          refine ⟨hg2, Or.inl ⟨s, c, ?_, rfl, ?_⟩⟩
          · rw [HMS.out]; simp [HZ1.out, HNO.out]
          · exact ScIs.later_alloc_drew HSC.out hm
      | false =>
        have HZ : Hid (∀ w, Calls Try.prog 58 #[.string s] w fun e w' => e = .returned (.bool false) ∧ w' = w) := fun w => by
          have := ownTag_any s w hsz
          rwa [hz] at this
        have HZ1 := hide hz
        clear hz
        go_wp2_with fail
        refine region_stillI 15 mixed (by kernel_rfl) ?_
        simp only [List.take_succ_cons, List.take_zero, List.drop_succ_cons, List.drop_zero]
        iterate 7 (refine stillI_step (fun K hK => ?_); go_simp; refine hK _ ?_; clear hK K)
        refine stillI_step (fun K hK => ?_); go_simp
        refine ⟨_, HZ.out _, hK _ ?_⟩; clear hK K
        iterate 7 (refine stillI_step (fun K hK => ?_); go_simp; refine hK _ ?_; clear hK K)
        refine stillI_nil ?_
        go_wp2_with (go_at_call 30; refine (must_bad _ _ _ _ _).mono ?_; rintro e w2 ⟨rfl, hm⟩; dsimp only [gaveUp])
        have hg2 := grownBy_trans HG1.out (grownBy_alloc_drew_below hm (some b))
        exact ⟨rfl, hg2, Or.inr ⟨p, by rw [HMS.out]; simp [HZ1.out], rfl⟩⟩
    · have hf : ((k : Int) == (34 : Int)) = false := by simp; omega
      go_wp2_with fail
      refine region_stillI 15 mixed (by kernel_rfl) ?_
      simp only [List.take_succ_cons, List.take_zero, List.drop_succ_cons, List.drop_zero]
      iterate 15 (refine stillI_step (fun K hK => ?_); go_simp; refine hK _ ?_; clear hK K)
      refine stillI_nil ?_
      go_wp2_with (go_at_call 30; refine (must_bad _ _ _ _ _).mono ?_; rintro e w2 ⟨rfl, hm⟩; dsimp only [gaveUp])
      have hg2 := grownBy_trans HG1.out (grownBy_alloc_drew_below hm (some b))
      exact ⟨rfl, hg2, Or.inr ⟨p, by rw [HMS.out]; simp [hk], rfl⟩⟩
end Go.Proofs.Ytpgamoielkpakaa
