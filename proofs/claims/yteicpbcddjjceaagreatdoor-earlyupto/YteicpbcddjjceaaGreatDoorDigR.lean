/-
  PROVED HERE: what the program's function version of the index's reader answers, or at which place it gives up.
-/
import Derived.Test.YteicpbcddjjceaaGreatDoorMark
import Derived.Test.YteicpbcddjjceaaGreatDoorCheckLib
namespace Go.Proofs.YteicpbcddjjceaaGreatDoor
open Go.RowKit
def versionS (t : ByteArray) (a : Nat) : RS Unit := versionG (nextS t) a
set_option maxHeartbeats 2000000 in
set_option maxRecDepth 100000 in
theorem version_core (b a : Nat) (t : ByteArray) (w : World) (hs : ScIs w b t a) (ha : a ≤ t.size) (ht : t.size ≤ 2000) :
    Calls Tryz.prog 104 #[.pointer (some ⟨b, 0, none⟩)] w fun e w' => w.grownBy w' (some b) ∧ ((∃ c, versionS t a = .ok () c ∧ e = .returned (.tuple #[]) ∧ ScIs w' b t c) ∨ (∃ p, versionS t a = .bad p ∧ e = gaveUp p)) := by
  have HS := hide hs
  have hbl := lt_heap hs
  have HN := hide (next_core b a t w hs ha ht)
  clear hs
  go_enter Tryz.func104, Tryz.ntmps104
  go_wp2_with fail
  refine HN.out.mono ?_
  rintro e w1 ⟨hg1, hc⟩
  have hms : versionS t a = (match nextS t a with | .tok k p n _ c => if k = 48 ∧ n = 1 then .ok () c else .bad p | .bad p => .bad p) := by unfold versionS versionG; cases nextS t a <;> rfl
  cases hnx : nextS t a with
  | bad p =>
    rw [hnx] at hc hms
    have hc2 : e = gaveUp p := hc
    subst hc2
    dsimp only [gaveUp]
    exact ⟨rfl, hg1, Or.inr ⟨p, hms, rfl⟩⟩
  | tok k p n l c =>
    rw [hnx] at hc hms
    obtain ⟨rfl, hsc⟩ : e = .returned (tokV k p ((n : Nat) : Int) ⟨l.toArray⟩) ∧ ScIs w1 b t c := hc
    dsimp only [tokV]
    have HG1 := hide hg1
    have HSC := hide hsc
    have HMS := hide hms
    clear hg1 hsc hms hnx HN
    by_cases hk : k = 48
    · subst hk
      by_cases hn : n = 1
      · subst hn
        go_wp2_with fail
        refine (must_ok _ _ _ _ _).mono ?_
        rintro e w2 ⟨rfl, hm⟩
        dsimp only
        go_wp2_with fail
        go_end0
        have hg2 := grownBy_trans HG1.out (grownBy_alloc_below hm (some b))
        refine ⟨hg2, Or.inl ⟨c, ?_, rfl, ?_⟩⟩
        · rw [HMS.out]; simp
        · exact ScIs.later_alloc HSC.out hm
      · have hf : ((n : Int) == (1 : Int)) = false := by simp; omega
        have hf2 : decide ((n : Int) = (1 : Int)) = false := by simp; omega
        go_wp2_with fail
        (try simp only [hf, hf2])
        refine (must_bad _ _ _ _ _).mono ?_
        rintro e w2 ⟨rfl, hm⟩
        dsimp only [gaveUp]
        have hg2 := grownBy_trans HG1.out (grownBy_alloc_below hm (some b))
        exact ⟨rfl, hg2, Or.inr ⟨p, by rw [HMS.out]; simp [hn], rfl⟩⟩
    · have hf : ((k : Int) == (48 : Int)) = false := by simp; omega
      have hf2 : decide ((k : Int) = (48 : Int)) = false := by simp; omega
      go_wp2_with fail
      (try simp only [hf, hf2])
      refine (must_bad _ _ _ _ _).mono ?_
      rintro e w2 ⟨rfl, hm⟩
      dsimp only [gaveUp]
      have hg2 := grownBy_trans HG1.out (grownBy_alloc_below hm (some b))
      exact ⟨rfl, hg2, Or.inr ⟨p, by rw [HMS.out]; simp [hk], rfl⟩⟩
end Go.Proofs.YteicpbcddjjceaaGreatDoor

/-
  PROVED HERE: what the program's function size of the index's reader answers, or at which place it gives up.
-/
namespace Go.Proofs.YteicpbcddjjceaaGreatDoor
open Go.RowKit
theorem grownBy_alloc_drew_below {w w2 : World} {o : Obj} (h : Below (w.alloc o).drew.heap.size (w.alloc o).drew w2) (r : Option Nat) : w.grownBy w2 r :=
  grownBy_trans (grownBy_below ((Below.refl _ _).alloc (Nat.le_refl _) o).drew r) (grownBy_below h r)
theorem ScIs.later_alloc_drew {w w2 : World} {b a : Nat} {t : ByteArray} {o : Obj} (hs : ScIs w b t a) (h : Below (w.alloc o).drew.heap.size (w.alloc o).drew w2) : ScIs w2 b t a :=
  ScIs.later (w := (w.alloc o).drew) (hs.later ((Below.refl _ _).alloc (Nat.le_refl _) o).drew) h
def sizeS (t : ByteArray) (a : Nat) : RS Nat := sizeG (nextS t) a
set_option maxHeartbeats 2000000 in
set_option maxRecDepth 100000 in
theorem size_core (b a : Nat) (t : ByteArray) (w : World) (hs : ScIs w b t a) (ha : a ≤ t.size) (ht : t.size ≤ 2000) :
    Calls Tryz.prog 205 #[.pointer (some ⟨b, 0, none⟩)] w fun e w' => w.grownBy w' (some b) ∧ ((∃ n c, sizeS t a = .ok n c ∧ e = .returned (.int .i64 ((n : Nat) : Int)) ∧ ScIs w' b t c) ∨ (∃ p, sizeS t a = .bad p ∧ e = gaveUp p)) := by
  have HS := hide hs
  have hbl := lt_heap hs
  have HN := hide (next_core b a t w hs ha ht)
  clear hs
  go_enter Tryz.func205, Tryz.ntmps205
  go_wp2_with fail
  refine HN.out.mono ?_
  rintro e w1 ⟨hg1, hc⟩
  have hms : sizeS t a = (match nextS t a with | .tok k p n _ c => if k = 48 ∧ n ≤ 300 then .ok n c else .bad p | .bad p => .bad p) := by unfold sizeS sizeG; cases nextS t a <;> rfl
  cases hnx : nextS t a with
  | bad p =>
    rw [hnx] at hc hms
    have hc2 : e = gaveUp p := hc
    subst hc2
    dsimp only [gaveUp]
    exact ⟨rfl, hg1, Or.inr ⟨p, hms, rfl⟩⟩
  | tok k p n l c =>
    rw [hnx] at hc hms
    obtain ⟨rfl, hsc⟩ : e = .returned (tokV k p ((n : Nat) : Int) ⟨l.toArray⟩) ∧ ScIs w1 b t c := hc
    dsimp only [tokV]
    have HG1 := hide hg1
    have HSC := hide hsc
    have HMS := hide hms
    clear hg1 hsc hms hnx HN
    by_cases hk : k = 48
    · subst hk
      cases hz : (decide (0 ≤ (n : Int)) && decide ((n : Int) ≤ 300)) with
      | true =>
        have HZ : Hid (∀ w, Calls Tryz.prog 107 #[.int .i64 ((n : Nat) : Int)] w fun e w' => e = .returned (.bool true) ∧ w' = w) := fun w => by
          have := isSize_any (n : Int) w
          rwa [hz] at this
        have hn : n ≤ 300 := by simp at hz; omega
        have HNN := hide hn
        clear hz hn
        go_wp2_with fail
        refine region_stillI 9 mixed (by kernel_rfl) ?_
        simp only [List.take_succ_cons, List.take_zero, List.drop_succ_cons, List.drop_zero]
        iterate 7 (refine stillI_step (fun K hK => ?_); go_simp; refine hK _ ?_; clear hK K)
        refine stillI_step (fun K hK => ?_); go_simp
        refine ⟨_, HZ.out _, hK _ ?_⟩; clear hK K
        refine stillI_step (fun K hK => ?_); go_simp; refine hK _ ?_; clear hK K
        refine stillI_nil ?_
        go_wp2_with (go_at_call 106; refine (must_ok _ _ _ _ _).mono ?_; rintro e w2 ⟨rfl, hm⟩; have hc2 : w2.cell? ⟨w1.heap.size, 2, none⟩ = some (.int .i64 ((n : Nat) : Int)) := cell_later hm (by go_keep))
        go_ret
        have hg2 := grownBy_trans HG1.out (grownBy_alloc_drew_below hm (some b))
        refine ⟨hg2, Or.inl ⟨n, c, ?_, rfl, ?_⟩⟩
        · rw [HMS.out]; simp [HNN.out]
        · exact ScIs.later_alloc_drew HSC.out hm
      | false =>
        have HZ : Hid (∀ w, Calls Tryz.prog 107 #[.int .i64 ((n : Nat) : Int)] w fun e w' => e = .returned (.bool false) ∧ w' = w) := fun w => by
          have := isSize_any (n : Int) w
          rwa [hz] at this
        have hn : ¬ n ≤ 300 := by simp at hz; omega
        have HNN := hide hn
        clear hz hn
        go_wp2_with fail
        refine region_stillI 9 mixed (by kernel_rfl) ?_
        simp only [List.take_succ_cons, List.take_zero, List.drop_succ_cons, List.drop_zero]
        iterate 7 (refine stillI_step (fun K hK => ?_); go_simp; refine hK _ ?_; clear hK K)
        refine stillI_step (fun K hK => ?_); go_simp
        refine ⟨_, HZ.out _, hK _ ?_⟩; clear hK K
        refine stillI_step (fun K hK => ?_); go_simp; refine hK _ ?_; clear hK K
        refine stillI_nil ?_
        go_wp2_with (go_at_call 106; refine (must_bad _ _ _ _ _).mono ?_; rintro e w2 ⟨rfl, hm⟩; dsimp only [gaveUp])
        have hg2 := grownBy_trans HG1.out (grownBy_alloc_drew_below hm (some b))
        exact ⟨rfl, hg2, Or.inr ⟨p, by rw [HMS.out]; simp [HNN.out], rfl⟩⟩
    · have hf : ((k : Int) == (48 : Int)) = false := by simp; omega
      go_wp2_with fail
      refine region_stillI 9 mixed (by kernel_rfl) ?_
      simp only [List.take_succ_cons, List.take_zero, List.drop_succ_cons, List.drop_zero]
      iterate 9 (refine stillI_step (fun K hK => ?_); go_simp; refine hK _ ?_; clear hK K)
      refine stillI_nil ?_
      go_wp2_with (go_at_call 106; refine (must_bad _ _ _ _ _).mono ?_; rintro e w2 ⟨rfl, hm⟩; dsimp only [gaveUp])
      have hg2 := grownBy_trans HG1.out (grownBy_alloc_drew_below hm (some b))
      exact ⟨rfl, hg2, Or.inr ⟨p, by rw [HMS.out]; simp [hk], rfl⟩⟩
end Go.Proofs.YteicpbcddjjceaaGreatDoor

/-
  PROVED HERE: how far the scanner's functions go, and how long what they gather is.
-/
namespace Go.Proofs.YteicpbcddjjceaaGreatDoor
open Go.RowKit
theorem strS_far (t : ByteArray) : ∀ (d a : Nat) (acc l : List UInt8) (c : Nat), t.size - a = d → strS t a acc = some (l, c) → c ≤ t.size ∧ a < c ∧ l.length ≤ acc.length + (t.size - a) := by
  intro d
  induction d using Nat.strongRecOn with
  | _ d ih =>
    intro a acc l c hd h
    cases hb : byteS t a with
    | none => rw [strS_none hb] at h; cases h
    | some x =>
      rw [strS_some hb] at h
      have hlt := byteS_lt hb
      by_cases h1 : x = 34
      · rw [if_pos h1] at h
        cases h
        omega
      · rw [if_neg h1] at h
        by_cases h2 : x = 92
        · rw [if_pos h2] at h
          cases hb2 : byteS t (a + 1) with
          | none => rw [hb2] at h; cases h
          | some y =>
            rw [hb2] at h
            have hlt2 := byteS_lt hb2
            dsimp only at h
            split at h
            · have := ih (t.size - (a + 2)) (by omega) (a + 2) _ l c rfl h
              simp only [List.length_append, List.length_singleton] at this
              omega
            · cases h
        · rw [if_neg h2] at h
          have := ih (t.size - (a + 1)) (by omega) (a + 1) _ l c rfl h
          simp only [List.length_append, List.length_singleton] at this
          omega
theorem numS_far (t : ByteArray) (p : Nat) : ∀ (d a n m c : Nat), t.size - a = d → a ≤ t.size → numS t p a n = some (m, c) → c ≤ t.size ∧ a ≤ c := by
  intro d
  induction d using Nat.strongRecOn with
  | _ d ih =>
    intro a n m c hd ha h
    rw [numS] at h
    split at h
    · split at h
      · split at h
        · cases h
        · have := ih (t.size - (a + 1)) (by omega) (a + 1) _ m c rfl (by omega) h
          omega
      · cases h; omega
    · cases h; omega
theorem numS_step (t : ByteArray) (p m c : Nat) (hp : p < t.size) (hd : digB (t[p]).toNat = true) (h : numS t p p 0 = some (m, c)) : p < c := by
  rw [numS, dif_pos hp, hd, if_pos rfl] at h
  split at h
  · cases h
  · have := numS_far t p _ (p + 1) _ m c rfl (by omega) h
    omega
theorem skipS_ge (t : ByteArray) (a : Nat) : a ≤ skipS t a := by
  rw [skipS]
  split
  · split
    · have := skipS_ge t (a + 1); omega
    · omega
  · omega
termination_by t.size - a
theorem nextS_far {t : ByteArray} {a k p n c : Nat} {l : List UInt8} (ha : a ≤ t.size) (h : nextS t a = .tok k p n l c) : c ≤ t.size ∧ a ≤ c ∧ l.length ≤ t.size ∧ (k ≠ 0 → a < c) := by
  have h1 := skipS_ge t a
  have h2 := skipS_le t a ha
  unfold nextS nextAt at h
  generalize skipS t a = q at h h1 h2
  split at h
  · rename_i hq
    split at h
    · cases h
      simp; omega
    · split at h
      · rename_i hd
        cases hn : numS t q q 0 with
        | none => rw [hn] at h; cases h
        | some r =>
          obtain ⟨m, c'⟩ := r
          rw [hn] at h
          have f1 := numS_far t q _ q 0 _ _ rfl h2 hn
          have f2 := numS_step t q _ _ hq hd hn
          cases h
          simp; omega
      · split at h
        · cases hn : strS t (q + 1) [] with
          | none => rw [hn] at h; cases h
          | some r =>
            obtain ⟨m, c'⟩ := r
            rw [hn] at h
            have := strS_far t _ (q + 1) [] _ _ rfl hn
            simp at this
            cases h
            refine ⟨this.1, by omega, by omega, fun _ => by omega⟩
        · cases h
  · cases h
    simp; omega
end Go.Proofs.YteicpbcddjjceaaGreatDoor

/-
  PROVED HERE: what the program's function tag of the index's reader answers, or at which place it gives up.
-/
namespace Go.Proofs.YteicpbcddjjceaaGreatDoor
open Go.RowKit
def tagS (t : ByteArray) (last : ByteArray) (a : Nat) : RS ByteArray := tagG (nextS t) last a
set_option maxHeartbeats 1000000 in
set_option maxRecDepth 100000 in
theorem tag_core (b a : Nat) (t last : ByteArray) (w : World) (hs : ScIs w b t a) (ha : a ≤ t.size) (ht : t.size ≤ 2000) :
    Calls Tryz.prog 203 #[.pointer (some ⟨b, 0, none⟩), .string last] w fun e w' => w.grownBy w' (some b) ∧ ((∃ n c, tagS t last a = .ok n c ∧ e = .returned (.string n) ∧ ScIs w' b t c) ∨ (∃ p, tagS t last a = .bad p ∧ e = gaveUp p)) := by
  have HS := hide hs
  have hbl := lt_heap hs
  have HN := hide (next_core b a t w hs ha ht)
  clear hs
  go_enter Tryz.func203, Tryz.ntmps203
  go_wp2_with fail
  refine HN.out.mono ?_
  rintro e w1 ⟨hg1, hc⟩
  have hms : tagS t last a = (match nextS t a with | .tok k p _ l c => if k = 34 ∧ isTagB ⟨l.toArray⟩ = true ∧ leB ⟨l.toArray⟩ last = false then .ok ⟨l.toArray⟩ c else .bad p | .bad p => .bad p) := by unfold tagS tagG; cases nextS t a <;> rfl
  cases hnx : nextS t a with
  | bad p =>
    rw [hnx] at hc hms
    have hc2 : e = gaveUp p := hc
    subst hc2
    dsimp only [gaveUp]
    exact ⟨rfl, hg1, Or.inr ⟨p, hms, rfl⟩⟩
  | tok k p n l c =>
    rw [hnx] at hc hms
    obtain ⟨rfl, hsc⟩ : e = .returned (tokV k p ((n : Nat) : Int) ⟨l.toArray⟩) ∧ ScIs w1 b t c := hc
    dsimp only [tokV]
    have HG1 := hide hg1
    have HSC := hide hsc
    have hsz : (⟨l.toArray⟩ : ByteArray).size ≤ 9223372036854775807 := by have := (nextS_far ha hnx).2.2.1; rw [bytes_size]; omega
    have hms2 : tagS t last a = if k = 34 ∧ isTagB ⟨l.toArray⟩ = true ∧ leB ⟨l.toArray⟩ last = false then .ok ⟨l.toArray⟩ c else .bad p := hms
    clear hms hnx
    generalize (⟨l.toArray⟩ : ByteArray) = s at hms2 hsz ⊢
    have HMS := hide hms2
    clear hg1 hsc hms2 HN
    by_cases hk : k = 34
    · subst hk
      cases hz : isTagB s with
      | true =>
        have HZ : Hid (∀ w, Calls Tryz.prog 35 #[.string s] w fun e w' => e = .returned (.bool true) ∧ w' = w) := fun w => by
          have := ownTag_any s w hsz
          rwa [hz] at this
        have HZ1 := hide hz
        rcases leB_cases s last with ⟨hle, q1⟩ | ⟨hle, q1, rfl⟩ | ⟨hle, q1, q2, q3⟩
        · have HNO := hide hle
          clear hz hle
          go_wp2_with fail
          refine region_stillI 15 mixed (by kernel_rfl) ?_
          simp only [List.take_succ_cons, List.take_zero, List.drop_succ_cons, List.drop_zero]
          iterate 7 (refine stillI_step (fun K hK => ?_); go_simp; refine hK _ ?_; clear hK K)
          refine stillI_step (fun K hK => ?_); go_simp
          refine ⟨_, HZ.out _, hK _ ?_⟩; clear hK K
          iterate 7 (refine stillI_step (fun K hK => ?_); go_simp; refine hK _ ?_; clear hK K)
          refine stillI_nil ?_
          go_wp2_with (go_at_call 106; refine (must_bad _ _ _ _ _).mono ?_; rintro e w2 ⟨rfl, hm⟩; dsimp only [gaveUp])
          have hg2 := grownBy_trans HG1.out (grownBy_alloc_drew_below hm (some b))
          exact ⟨rfl, hg2, Or.inr ⟨p, by rw [HMS.out]; simp [HNO.out], rfl⟩⟩
        · have HNO := hide hle
          clear hz hle
          go_wp2_with fail
          refine region_stillI 15 mixed (by kernel_rfl) ?_
          simp only [List.take_succ_cons, List.take_zero, List.drop_succ_cons, List.drop_zero]
          iterate 7 (refine stillI_step (fun K hK => ?_); go_simp; refine hK _ ?_; clear hK K)
          refine stillI_step (fun K hK => ?_); go_simp
          refine ⟨_, HZ.out _, hK _ ?_⟩; clear hK K
          iterate 7 (refine stillI_step (fun K hK => ?_); go_simp; refine hK _ ?_; clear hK K)
          refine stillI_nil ?_
          go_wp2_with (go_at_call 106; refine (must_bad _ _ _ _ _).mono ?_; rintro e w2 ⟨rfl, hm⟩; dsimp only [gaveUp])
          have hg2 := grownBy_trans HG1.out (grownBy_alloc_drew_below hm (some b))
          exact ⟨rfl, hg2, Or.inr ⟨p, by rw [HMS.out]; simp [HNO.out], rfl⟩⟩
        · have HNO := hide hle
          clear hz hle q2
          go_wp2_with fail
          refine region_stillI 15 mixed (by kernel_rfl) ?_
          simp only [List.take_succ_cons, List.take_zero, List.drop_succ_cons, List.drop_zero]
          iterate 7 (refine stillI_step (fun K hK => ?_); go_simp; refine hK _ ?_; clear hK K)
          refine stillI_step (fun K hK => ?_); go_simp
          refine ⟨_, HZ.out _, hK _ ?_⟩; clear hK K
          iterate 7 (refine stillI_step (fun K hK => ?_); go_simp; refine hK _ ?_; clear hK K)
          refine stillI_nil ?_
          go_wp2_with (go_at_call 106; refine (must_ok _ _ _ _ _).mono ?_; rintro e w2 ⟨rfl, hm⟩; have hc2 : w2.cell? ⟨w1.heap.size, 3, none⟩ = some (.string s) := cell_later hm (by go_keep))
          go_ret
          have hg2 := grownBy_trans HG1.out (grownBy_alloc_drew_below hm (some b))
          refine ⟨hg2, Or.inl ⟨s, c, ?_, rfl, ?_⟩⟩
          · rw [HMS.out]; simp [HZ1.out, HNO.out]
          · exact ScIs.later_alloc_drew HSC.out hm
      | false =>
        have HZ : Hid (∀ w, Calls Tryz.prog 35 #[.string s] w fun e w' => e = .returned (.bool false) ∧ w' = w) := fun w => by
          have := ownTag_any s w hsz
          rwa [hz] at this
        have HZ1 := hide hz
        clear hz
        go_wp2_with fail
        refine region_stillI 15 mixed (by kernel_rfl) ?_
        simp only [List.take_succ_cons, List.take_zero, List.drop_succ_cons, List.drop_zero]
        iterate 7 (refine stillI_step (fun K hK => ?_); go_simp; refine hK _ ?_; clear hK K)
        refine stillI_step (fun K hK => ?_); go_simp
        refine ⟨_, HZ.out _, hK _ ?_⟩; clear hK K
        iterate 7 (refine stillI_step (fun K hK => ?_); go_simp; refine hK _ ?_; clear hK K)
        refine stillI_nil ?_
        go_wp2_with (go_at_call 106; refine (must_bad _ _ _ _ _).mono ?_; rintro e w2 ⟨rfl, hm⟩; dsimp only [gaveUp])
        have hg2 := grownBy_trans HG1.out (grownBy_alloc_drew_below hm (some b))
        exact ⟨rfl, hg2, Or.inr ⟨p, by rw [HMS.out]; simp [HZ1.out], rfl⟩⟩
    · have hf : ((k : Int) == (34 : Int)) = false := by simp; omega
      go_wp2_with fail
      refine region_stillI 15 mixed (by kernel_rfl) ?_
      simp only [List.take_succ_cons, List.take_zero, List.drop_succ_cons, List.drop_zero]
      iterate 15 (refine stillI_step (fun K hK => ?_); go_simp; refine hK _ ?_; clear hK K)
      refine stillI_nil ?_
      go_wp2_with (go_at_call 106; refine (must_bad _ _ _ _ _).mono ?_; rintro e w2 ⟨rfl, hm⟩; dsimp only [gaveUp])
      have hg2 := grownBy_trans HG1.out (grownBy_alloc_drew_below hm (some b))
      exact ⟨rfl, hg2, Or.inr ⟨p, by rw [HMS.out]; simp [hk], rfl⟩⟩
end Go.Proofs.YteicpbcddjjceaaGreatDoor

/-
  PROVED HERE: what the program's function digest of the index's reader answers, or at which place it gives up.
-/
namespace Go.Proofs.YteicpbcddjjceaaGreatDoor
open Go.RowKit
def digestS (t : ByteArray) (a : Nat) : RS ByteArray := digestG (nextS t) a
theorem zero_kept {w w1 : World} {b : Nat} {cs : Array Value} {T : TypeId} (h : (w.alloc (.cells cs T)).grownBy w1 (some b)) (hb : b < w.heap.size) : w1.heap[w.heap.size]? = some (.cells cs T (0, 0)) :=
  (h.block w.heap.size (by simp) (by intro e; cases e; omega)).trans (heap_alloc_new _ _)
set_option maxHeartbeats 1000000 in
set_option maxRecDepth 100000 in
theorem digest_core (b a : Nat) (t : ByteArray) (w : World) (hs : ScIs w b t a) (ha : a ≤ t.size) (ht : t.size ≤ 2000) :
    Calls Tryz.prog 204 #[.pointer (some ⟨b, 0, none⟩)] w fun e w' => w.grownBy w' (some b) ∧ ((∃ n c, digestS t a = .ok n c ∧ e = .returned (.agg (cells8 (rd n))) ∧ ScIs w' b t c) ∨ (∃ p, digestS t a = .bad p ∧ e = gaveUp p)) := by
  have HS := hide hs
  have hbl := lt_heap hs
  clear hs
  have hz4 := (zero_of_info Tryz.info72).1
  go_enter Tryz.func204, Tryz.ntmps204
  go_wp2_with fail
  refine (next_core b a t _ (HS.out.later ((Below.refl _ _).alloc (Nat.le_refl _) _)) ha ht).mono ?_
  rintro e w1 ⟨hg1, hc⟩
  have hms : digestS t a = (match nextS t a with | .tok k p _ l c => if k = 34 ∧ isDigB ⟨l.toArray⟩ = true then .ok ⟨l.toArray⟩ c else .bad p | .bad p => .bad p) := by unfold digestS digestG; cases nextS t a <;> rfl
  cases hnx : nextS t a with
  | bad p =>
    rw [hnx] at hc hms
    have hc2 : e = gaveUp p := hc
    subst hc2
    dsimp only [gaveUp]
    exact ⟨rfl, grownBy_trans (World.grownBy_alloc _ _ _) hg1, Or.inr ⟨p, hms, rfl⟩⟩
  | tok k p n l c =>
    rw [hnx] at hc hms
    obtain ⟨rfl, hsc⟩ : e = .returned (tokV k p ((n : Nat) : Int) ⟨l.toArray⟩) ∧ ScIs w1 b t c := hc
    dsimp only [tokV]
    have HG1 := hide hg1
    have HSC := hide hsc
    have hms2 : digestS t a = if k = 34 ∧ isDigB ⟨l.toArray⟩ = true then .ok ⟨l.toArray⟩ c else .bad p := hms
    clear hms hnx
    generalize (⟨l.toArray⟩ : ByteArray) = s at hms2 ⊢
    have HMS := hide hms2
    have hz : w1.heap[w.heap.size]? = some (.cells (cells8 (Sha.zeros 32)) 72 (0, 0)) := zero_kept hg1 hbl
    have HZ := hide hz
    have hl1 := lt_of_row hz
    clear hg1 hsc hms2 hz
    go_wp2_with fail
    refine (read_any s _).mono ?_
    rintro e w2 ⟨rfl, hm⟩
    dsimp only
    generalize hrd : rd s = ds
    have hdl : ds.length = 32 := by rw [← hrd]; exact rd_len _
    have HRD := hide hrd
    clear hrd
    have t0 : w2.heap[w1.heap.size]? = some (.cells #[.int .u8 ((k : Nat) : Int), .int .i64 ((p : Nat) : Int), .int .i64 ((n : Nat) : Int), .string s] 185 (0, 0)) := (hm.block _ (by rw [size_alloc]; omega)).trans (heap_alloc_new _ _)
    have t1 : w2.cell? ⟨w1.heap.size, 0, none⟩ = some (.int .u8 ((k : Nat) : Int)) := cell_of_row w2 w1.heap.size 0 _ _ _ t0
    have t2 : w2.cell? ⟨w1.heap.size, 1, none⟩ = some (.int .i64 ((p : Nat) : Int)) := cell_of_row w2 w1.heap.size 1 _ _ _ t0
    have t3 : w2.cell? ⟨w1.heap.size, 2, none⟩ = some (.int .i64 ((n : Nat) : Int)) := cell_of_row w2 w1.heap.size 2 _ _ _ t0
    have t4 : w2.cell? ⟨w1.heap.size, 3, none⟩ = some (.string s) := cell_of_row w2 w1.heap.size 3 _ _ _ t0
    have tl := lt_of_row t0
    have hg2 : w.grownBy w2 (some b) := grownBy_trans (grownBy_trans (World.grownBy_alloc _ _ _) HG1.out) (grownBy_alloc_below hm (some b))
    have HG2 := hide hg2
    have HSC2 := hide (ScIs.later_alloc HSC.out hm)
    have hz2 : w2.heap[w.heap.size]? = some (.cells (cells8 (Sha.zeros 32)) 72 (0, 0)) := (hm.block _ (by rw [size_alloc]; omega)).trans ((((Below.refl w1.heap.size w1).alloc (Nat.le_refl _) _).block _ hl1).trans HZ.out)
    have HZ2 := hide hz2
    have HM := hide hm
    clear hm hg2 t0 hz2 HSC HZ HG1
    by_cases hk : k = 34
    · subst hk
      cases hdig : isDigB s with
      | true =>
        go_wp2_with (first | (refine wpList_store_row rfl 72 _ _ rfl w2.heap.size _ rfl rfl 72 _ (heap_alloc_new _ _) (size40 _ hdl) (by rw [cells8_size, cells8_size, hdl, Sha.zeros_len]) (cells8_one _) ?_; rw [World.setRow_alloc_new]) | (go_at_call 106; refine (must_ok _ _ _ _ _).mono ?_; rintro e w3 ⟨rfl, hm3⟩; have hD3 : w3.heap[w2.heap.size]? = some (.cells (cells8 ds) 72 (0, 0)) := (hm3.block _ (by rw [size_alloc]; omega)).trans (heap_alloc_new _ _); have hZ3 : w3.heap[w.heap.size]? = some (.cells (cells8 (Sha.zeros 32)) 72 (0, 0)) := (hm3.block _ (by rw [size_alloc]; omega)).trans ((((Below.refl w2.heap.size w2).alloc (Nat.le_refl _) _).block _ (by omega)).trans HZ2.out)) | (refine wpList_load_row rfl 72 _ rfl w2.heap.size rfl 72 _ _ _ hD3 Tryz.underlying72 rfl (size40 _ hdl) ?_) | (refine wpList_store_row rfl 72 _ _ rfl w.heap.size _ rfl rfl 72 _ hZ3 (size40 _ hdl) (by rw [cells8_size, cells8_size, hdl, Sha.zeros_len]) (cells8_one _) ?_))
        have hbs : Below w.heap.size w3 (w3.setRow w.heap.size (cells8 ds)) := (Below.refl _ _).setRow (Nat.le_refl _) _
        refine bodyPost_ret (results_cell_row Tryz.results204 _ _ w.heap.size 72 _ (0, 0) _ rfl (setRow_heap _ _ _ _ _ _ hZ3) Tryz.underlying72 rfl (size40 _ hdl)) rfl ⟨?_, Or.inl ⟨s, c, ?_, ?_, ?_⟩⟩
        · exact grown_then (grownBy_trans HG2.out (grownBy_alloc_below hm3 (some b))) hbs
        · rw [HMS.out]; simp [hdig]
        · rw [HRD.out]
        · exact (hbs.block b hbl).trans (ScIs.later_alloc HSC2.out hm3)
      | false =>
        go_wp2_with (first | (refine wpList_store_row rfl 72 _ _ rfl w2.heap.size _ rfl rfl 72 _ (heap_alloc_new _ _) (size40 _ hdl) (by rw [cells8_size, cells8_size, hdl, Sha.zeros_len]) (cells8_one _) ?_; rw [World.setRow_alloc_new]) | (go_at_call 106; refine (must_bad _ _ _ _ _).mono ?_; rintro e w3 ⟨rfl, hm3⟩; dsimp only [gaveUp]))
        exact ⟨rfl, grownBy_trans HG2.out (grownBy_alloc_below hm3 (some b)), Or.inr ⟨p, by rw [HMS.out]; simp [hdig], rfl⟩⟩
    · have hf : ((k : Int) == (34 : Int)) = false := by simp; omega
      go_wp2_with (first | (refine wpList_store_row rfl 72 _ _ rfl w2.heap.size _ rfl rfl 72 _ (heap_alloc_new _ _) (size40 _ hdl) (by rw [cells8_size, cells8_size, hdl, Sha.zeros_len]) (cells8_one _) ?_; rw [World.setRow_alloc_new]) | (go_at_call 106; refine (must_bad _ _ _ _ _).mono ?_; rintro e w3 ⟨rfl, hm3⟩; dsimp only [gaveUp]))
      exact ⟨rfl, grownBy_trans HG2.out (grownBy_alloc_below hm3 (some b)), Or.inr ⟨p, by rw [HMS.out]; simp [hk], rfl⟩⟩
end Go.Proofs.YteicpbcddjjceaaGreatDoor
