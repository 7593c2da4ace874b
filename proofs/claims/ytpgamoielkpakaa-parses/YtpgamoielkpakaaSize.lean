/-
  PROVED HERE: what the program's functions mark, version and size of the index's reader answer, or at which place they give up.
-/
import Derived.Test.YtpgamoielkpakaaNext
namespace Go.Proofs.Ytpgamoielkpakaa
open Go.RowKit
theorem grownBy_alloc_below {w w2 : World} {o : Obj} (h : Below (w.alloc o).heap.size (w.alloc o) w2) (r : Option Nat) : w.grownBy w2 r :=
  grownBy_trans (grownBy_below ((Below.refl _ _).alloc (Nat.le_refl _) o) r) (grownBy_below h r)
theorem ScIs.later_alloc {w w2 : World} {b a : Nat} {t : ByteArray} {o : Obj} (hs : ScIs w b t a) (h : Below (w.alloc o).heap.size (w.alloc o) w2) : ScIs w2 b t a :=
  (hs.later ((Below.refl _ _).alloc (Nat.le_refl _) o)).later h
abbrev RS (α : Type) := RG Nat α
def markS (t : ByteArray) (a kind : Nat) : RS Unit := markG (nextS t) a kind
set_option maxHeartbeats 2000000 in
set_option maxRecDepth 100000 in
theorem mark_core (b a kind : Nat) (t : ByteArray) (w : World) (hs : ScIs w b t a) (ha : a ≤ t.size) (ht : t.size ≤ 2000) :
    Calls Try.prog 37 #[.pointer (some ⟨b, 0, none⟩), .int .u8 ((kind : Nat) : Int)] w fun e w' => w.grownBy w' (some b) ∧ ((∃ c, markS t a kind = .ok () c ∧ e = .returned (.tuple #[]) ∧ ScIs w' b t c) ∨ (∃ p, markS t a kind = .bad p ∧ e = gaveUp p)) := by
  have HS := hide hs
  have hbl := lt_heap hs
  have HN := hide (next_core b a t w hs ha ht)
  clear hs
  go_enter Try.func37, Try.ntmps37
  go_wp2_with fail
  refine HN.out.mono ?_
  rintro e w1 ⟨hg1, hc⟩
  have hms : markS t a kind = (match nextS t a with | .tok k p _ _ c => if k = kind then .ok () c else .bad p | .bad p => .bad p) := by unfold markS markG; cases nextS t a <;> rfl
  cases hnx : nextS t a with
  | bad p =>
    rw [hnx] at hc hms
    have hc2 : e = gaveUp p := hc
    subst hc2
    dsimp only [gaveUp]
    exact ⟨rfl, hg1, Or.inr ⟨p, hms, rfl⟩⟩
  | tok k p n l c =>
    rw [hnx] at hc hms
    obtain ⟨rfl, hsc⟩ : e = .returned (tokV k p ((n : Nat) : Int) ⟨l.toArray⟩) ∧ ScIs w1 b t c := hc
    dsimp only [tokV]
    have HG1 := hide hg1
    have HSC := hide hsc
    have HMS := hide hms
    clear hg1 hsc hms hnx HN
    by_cases hk : k = kind
    · subst hk
      go_wp2_with fail
      refine (must_ok _ _ _ _ _).mono ?_
      rintro e w2 ⟨rfl, hm⟩
      dsimp only
      go_wp2_with fail
      go_end0
      have hg2 := grownBy_trans HG1.out (grownBy_alloc_below hm (some b))
      refine ⟨hg2, Or.inl ⟨c, ?_, rfl, ?_⟩⟩
      · rw [HMS.out]; simp
      · exact ScIs.later_alloc HSC.out hm
    · have hf : ((k : Int) == (kind : Int)) = false := by simp; omega
      have hf2 : decide ((k : Int) = (kind : Int)) = false := by simp; omega
      go_wp2_with fail
      have hk2 : ¬ ((k : Int) = (kind : Int)) := by omega
      (try simp only [hf, hf2])
      refine (must_bad _ _ _ _ _).mono ?_
      rintro e w2 ⟨rfl, hm⟩
      dsimp only [gaveUp]
      have hg2 := grownBy_trans HG1.out (grownBy_alloc_below hm (some b))
      exact ⟨rfl, hg2, Or.inr ⟨p, by rw [HMS.out, if_neg hk], rfl⟩⟩
end Go.Proofs.Ytpgamoielkpakaa

/-
  PROVED HERE: what the program's function version of the index's reader answers, or at which place it gives up.
-/
namespace Go.Proofs.Ytpgamoielkpakaa
open Go.RowKit
def versionS (t : ByteArray) (a : Nat) : RS Unit := versionG (nextS t) a
set_option maxHeartbeats 2000000 in
set_option maxRecDepth 100000 in
theorem version_core (b a : Nat) (t : ByteArray) (w : World) (hs : ScIs w b t a) (ha : a ≤ t.size) (ht : t.size ≤ 2000) :
    Calls Try.prog 28 #[.pointer (some ⟨b, 0, none⟩)] w fun e w' => w.grownBy w' (some b) ∧ ((∃ c, versionS t a = .ok () c ∧ e = .returned (.tuple #[]) ∧ ScIs w' b t c) ∨ (∃ p, versionS t a = .bad p ∧ e = gaveUp p)) := by
  have HS := hide hs
  have hbl := lt_heap hs
  have HN := hide (next_core b a t w hs ha ht)
  clear hs
  go_enter Try.func28, Try.ntmps28
  go_wp2_with fail
  refine HN.out.mono ?_
  rintro e w1 ⟨hg1, hc⟩
  have hms : versionS t a = (match nextS t a with | .tok k p n _ c => if k = 48 ∧ n = 1 then .ok () c else .bad p | .bad p => .bad p) := by unfold versionS versionG; cases nextS t a <;> rfl
  cases hnx : nextS t a with
  | bad p =>
    rw [hnx] at hc hms
    have hc2 : e = gaveUp p := hc
    subst hc2
    dsimp only [gaveUp]
    exact ⟨rfl, hg1, Or.inr ⟨p, hms, rfl⟩⟩
  | tok k p n l c =>
    rw [hnx] at hc hms
    obtain ⟨rfl, hsc⟩ : e = .returned (tokV k p ((n : Nat) : Int) ⟨l.toArray⟩) ∧ ScIs w1 b t c := hc
    dsimp only [tokV]
    have HG1 := hide hg1
    have HSC := hide hsc
    have HMS := hide hms
    clear hg1 hsc hms hnx HN
    by_cases hk : k = 48
    · subst hk
      by_cases hn : n = 1
      · subst hn
        go_wp2_with fail
        refine (must_ok _ _ _ _ _).mono ?_
        rintro e w2 ⟨rfl, hm⟩
        dsimp only
        go_wp2_with fail
        go_end0
        have hg2 := grownBy_trans HG1.out (grownBy_alloc_below hm (some b))
        refine ⟨hg2, Or.inl ⟨c, ?_, rfl, ?_⟩⟩
        · rw [HMS.out]; simp
        · exact ScIs.later_alloc HSC.out hm
      · have hf : ((n : Int) == (1 : Int)) = false := by simp; omega
        have hf2 : decide ((n : Int) = (1 : Int)) = false := by simp; omega
        go_wp2_with fail
        (try simp only [hf, hf2])
        refine (must_bad _ _ _ _ _).mono ?_
        rintro e w2 ⟨rfl, hm⟩
        dsimp only [gaveUp]
        have hg2 := grownBy_trans HG1.out (grownBy_alloc_below hm (some b))
        exact ⟨rfl, hg2, Or.inr ⟨p, by rw [HMS.out]; simp [hn], rfl⟩⟩
    · have hf : ((k : Int) == (48 : Int)) = false := by simp; omega
      have hf2 : decide ((k : Int) = (48 : Int)) = false := by simp; omega
      go_wp2_with fail
      (try simp only [hf, hf2])
      refine (must_bad _ _ _ _ _).mono ?_
      rintro e w2 ⟨rfl, hm⟩
      dsimp only [gaveUp]
      have hg2 := grownBy_trans HG1.out (grownBy_alloc_below hm (some b))
      exact ⟨rfl, hg2, Or.inr ⟨p, by rw [HMS.out]; simp [hk], rfl⟩⟩
end Go.Proofs.Ytpgamoielkpakaa

/-
  PROVED HERE: what the program's function size of the index's reader answers, or at which place it gives up.
-/
namespace Go.Proofs.Ytpgamoielkpakaa
open Go.RowKit
theorem grownBy_alloc_drew_below {w w2 : World} {o : Obj} (h : Below (w.alloc o).drew.heap.size (w.alloc o).drew w2) (r : Option Nat) : w.grownBy w2 r :=
  grownBy_trans (grownBy_below ((Below.refl _ _).alloc (Nat.le_refl _) o).drew r) (grownBy_below h r)
theorem ScIs.later_alloc_drew {w w2 : World} {b a : Nat} {t : ByteArray} {o : Obj} (hs : ScIs w b t a) (h : Below (w.alloc o).drew.heap.size (w.alloc o).drew w2) : ScIs w2 b t a :=
  ScIs.later (w := (w.alloc o).drew) (hs.later ((Below.refl _ _).alloc (Nat.le_refl _) o).drew) h
def sizeS (t : ByteArray) (a : Nat) : RS Nat := sizeG (nextS t) a
set_option maxHeartbeats 2000000 in
set_option maxRecDepth 100000 in
theorem size_core (b a : Nat) (t : ByteArray) (w : World) (hs : ScIs w b t a) (ha : a ≤ t.size) (ht : t.size ≤ 2000) :
    Calls Try.prog 55 #[.pointer (some ⟨b, 0, none⟩)] w fun e w' => w.grownBy w' (some b) ∧ ((∃ n c, sizeS t a = .ok n c ∧ e = .returned (.int .i64 ((n : Nat) : Int)) ∧ ScIs w' b t c) ∨ (∃ p, sizeS t a = .bad p ∧ e = gaveUp p)) := by
  have HS := hide hs
  have hbl := lt_heap hs
  have HN := hide (next_core b a t w hs ha ht)
  clear hs
  go_enter Try.func55, Try.ntmps55
  go_wp2_with fail
  refine HN.out.mono ?_
  rintro e w1 ⟨hg1, hc⟩
  have hms : sizeS t a = (match nextS t a with | .tok k p n _ c => if k = 48 ∧ n ≤ 300 then .ok n c else .bad p | .bad p => .bad p) := by unfold sizeS sizeG; cases nextS t a <;> rfl
  cases hnx : nextS t a with
  | bad p =>
    rw [hnx] at hc hms
    have hc2 : e = gaveUp p := hc
    subst hc2
    dsimp only [gaveUp]
    exact ⟨rfl, hg1, Or.inr ⟨p, hms, rfl⟩⟩
  | tok k p n l c =>
    rw [hnx] at hc hms
    obtain ⟨rfl, hsc⟩ : e = .returned (tokV k p ((n : Nat) : Int) ⟨l.toArray⟩) ∧ ScIs w1 b t c := hc
    dsimp only [tokV]
    have HG1 := hide hg1
    have HSC := hide hsc
    have HMS := hide hms
    clear hg1 hsc hms hnx HN
    by_cases hk : k = 48
    · subst hk
      cases hz : (decide (0 ≤ (n : Int)) && decide ((n : Int) ≤ 300)) with
      | true =>
        have HZ : Hid (∀ w, Calls Try.prog 60 #[.int .i64 ((n : Nat) : Int)] w fun e w' => e = .returned (.bool true) ∧ w' = w) := fun w => by
          have := isSize_any (n : Int) w
          rwa [hz] at this
        have hn : n ≤ 300 := by simp at hz; omega
        have HNN := hide hn
        clear hz hn
        go_wp2_with fail
        refine region_stillI 9 mixed (by kernel_rfl) ?_
        simp only [List.take_succ_cons, List.take_zero, List.drop_succ_cons, List.drop_zero]
        iterate 7 (refine stillI_step (fun K hK => ?_); go_simp; refine hK _ ?_; clear hK K)
        refine stillI_step (fun K hK => ?_); go_simp
        refine ⟨_, HZ.out _, hK _ ?_⟩; clear hK K
        refine stillI_step (fun K hK => ?_); go_simp; refine hK _ ?_; clear hK K
        refine stillI_nil ?_
        go_wp2_with (go_at_call 30; refine (must_ok _ _ _ _ _).mono ?_; rintro e w2 ⟨rfl, hm⟩; have hc2 : w2.cell? ⟨w1.heap.size, 2, none⟩ = some (.int .i64 ((n : Nat) : Int)) := cell_later hm (by go_keep))
        go_ret
        have hg2 := grownBy_trans HG1.out (grownBy_alloc_drew_below hm (some b))
        refine ⟨hg2, Or.inl ⟨n, c, ?_, rfl, ?_⟩⟩
        · rw [HMS.out]; simp [HNN.out]
        · exact ScIs.later_alloc_drew HSC.out hm
      | false =>
        have HZ : Hid (∀ w, Calls Try.prog 60 #[.int .i64 ((n : Nat) : Int)] w fun e w' => e = .returned (.bool false) ∧ w' = w) := fun w => by
          have := isSize_any (n : Int) w
          rwa [hz] at this
        have hn : ¬ n ≤ 300 := by simp at hz; omega
        have HNN := hide hn
        clear hz hn
        go_wp2_with fail
        refine region_stillI 9 mixed (by kernel_rfl) ?_
        simp only [List.take_succ_cons, List.take_zero, List.drop_succ_cons, List.drop_zero]
        iterate 7 (refine stillI_step (fun K hK => ?_); go_simp; refine hK _ ?_; clear hK K)
        refine stillI_step (fun K hK => ?_); go_simp
        refine ⟨_, HZ.out _, hK _ ?_⟩; clear hK K
        refine stillI_step (fun K hK => ?_); go_simp; refine hK _ ?_; clear hK K
        refine stillI_nil ?_
        go_wp2_with (go_at_call 30; refine (must_bad _ _ _ _ _).mono ?_; rintro e w2 ⟨rfl, hm⟩; dsimp only [gaveUp])
        have hg2 := grownBy_trans HG1.out (grownBy_alloc_drew_below hm (some b))
        exact ⟨rfl, hg2, Or.inr ⟨p, by rw [HMS.out]; simp [HNN.out], rfl⟩⟩
    · have hf : ((k : Int) == (48 : Int)) = false := by simp; omega
      go_wp2_with fail
      refine region_stillI 9 mixed (by kernel_rfl) ?_
      simp only [List.take_succ_cons, List.take_zero, List.drop_succ_cons, List.drop_zero]
      iterate 9 (refine stillI_step (fun K hK => ?_); go_simp; refine hK _ ?_; clear hK K)
      refine stillI_nil ?_
      go_wp2_with (go_at_call 30; refine (must_bad _ _ _ _ _).mono ?_; rintro e w2 ⟨rfl, hm⟩; dsimp only [gaveUp])
      have hg2 := grownBy_trans HG1.out (grownBy_alloc_drew_below hm (some b))
      exact ⟨rfl, hg2, Or.inr ⟨p, by rw [HMS.out]; simp [hk], rfl⟩⟩
end Go.Proofs.Ytpgamoielkpakaa
