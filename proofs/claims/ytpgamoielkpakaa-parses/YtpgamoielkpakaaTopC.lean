/-
  PROVED HERE: what the function value that reads an index's member does.
-/
import Derived.Test.YtpgamoielkpakaaEntries
namespace Go.Proofs.Ytpgamoielkpakaa
open Go.RowKit
def topS (t x : ByteArray) (es : List En) (a : Nat) : RS (List En) := topG (nextS t) x es a
def TopAt (bs bn b B : Nat) (es : List En) (w : World) : Prop :=
  w.heap[bs]? = some (.cells #[.pointer (some ⟨b, 0, none⟩)] 64 (0, 0)) ∧ es.length ≤ 8 ∧ ∃ v, w.heap[bn]? = some (.cells #[v] 36 (0, 0)) ∧ w.ownsRow B 76 34 v es.length (es.flatMap En.ecells)
theorem own_mono {B base : Nat} {e : TypeId} {size n : Nat} {v : Value} {xs : List Value} {w : World} (ho : w.ownsRow base e size v n xs) (hB : B ≤ base) : w.ownsRow B e size v n xs :=
  ⟨ho.1, ho.2.imp id fun ⟨g, cap, cur, e1, e2, e3⟩ => ⟨g, cap, cur, e1, Nat.le_trans hB e2, e3⟩⟩
theorem TopAt.later {bs bn b B : Nat} {es : List En} {w w' : World} {S : Nat → Prop} (h : TopAt bs bn b B es w) (hg : Gr S w w') (h1 : ¬ S bs) (h2 : ¬ S bn) (h3 : ∀ k cur, S k → B ≤ k → w.heap[k]? ≠ some (.cells cur 76 (0, 0))) : TopAt bs bn b B es w' := by
  obtain ⟨a1, a2, v, a3, a4⟩ := h
  refine ⟨(hg.block _ (lt_heap a1) h1).trans a1, a2, v, (hg.block _ (lt_heap a3) h2).trans a3, ownsRow_other a4 fun k hk => ?_⟩
  rcases a4.2 with ⟨rfl, _⟩ | ⟨g, cap, cur, rfl, e2, e3, _⟩
  · cases hk
  · cases hk
    exact hg.block g (lt_heap e3) fun hS => h3 g cur hS e2 e3
set_option maxHeartbeats 1000000 in
set_option maxRecDepth 100000 in
theorem topC_any (bs bn b a B : Nat) (t x : ByteArray) (es : List En) (w : World) (hne : b ≠ bn ∧ bs ≠ bn ∧ bs ≠ b) (hBw : B ≤ w.heap.size) (hs : ScIs w b t a) (ha : a ≤ t.size) (ht : t.size ≤ 2000) (hE : TopAt bs bn b B es w) :
    Calls Try.prog 27 #[.string x, .pointer (some ⟨bs, 0, none⟩), .pointer (some ⟨bn, 0, none⟩)] w fun e w' => Gr (fun k => k = b ∨ k = bn) w w' ∧
      ((∃ es1 c, topS t x es a = .ok es1 c ∧ e = .returned (.tuple #[]) ∧ ScIs w' b t c ∧ c ≤ t.size ∧ TopAt bs bn b B es1 w') ∨ (∃ p, topS t x es a = .bad p ∧ e = gaveUp p)) := by
  have HS := hide hs
  have HE := hide hE
  have c1 := cell_of_row w bs 0 _ _ _ hE.1
  have hbl := lt_heap hs
  have hsc2 : ∀ k cur, k = b → w.heap[k]? ≠ some (.cells cur 76 (0, 0)) := by
    intro k cur hk h
    subst hk
    rw [hs] at h
    cases h
  have HSC2 := hide hsc2
  clear hs hE hsc2
  by_cases h1 : x = sVersion
  · subst h1
    have hent : topS t sVersion es a = (match versionS t a with | .ok _ c => .ok es c | .bad p => .bad p) := by unfold topS topG; rw [if_pos rfl]; unfold versionS; cases versionG (nextS t) a <;> rfl
    unfold sVersion at hent ⊢
    have HENT := hide hent
    clear hent
    go_enter Try.func27, Try.ntmps27
    go_wp2_with fail
    refine (version_core b a t w HS.out ha ht).mono ?_
    rintro e w1 ⟨hg1, (⟨c, hm1, rfl, hsc1⟩ | ⟨p, hm1, rfl⟩)⟩
    · dsimp only
      have hE1 : TopAt bs bn b B es w1 := HE.out.later (S := fun k => k = b) (Gr.of_grownBy hg1 rfl) hne.2.2 (fun e => hne.1 e.symm) (fun k cur hk _ => HSC2.out k cur hk)
      have hfar : c ≤ t.size := by
        unfold versionS versionG at hm1
        cases hn : nextS t a with
        | bad p => rw [hn] at hm1; cases hm1
        | tok k p n l c' =>
          rw [hn] at hm1
          dsimp only at hm1
          split at hm1
          · cases hm1; exact (nextS_far ha hn).1
          · cases hm1
      have HM1 := hide hm1
      clear hm1
      go_wp2_with fail
      (try simp only [Exit.inBlock, Exit.then])
      go_end0
      exact ⟨Gr.of_grownBy hg1 (Or.inl rfl), Or.inl ⟨es, c, by rw [HENT.out, HM1.out], rfl, hsc1, hfar, hE1⟩⟩
    · dsimp only [gaveUp]
      exact ⟨rfl, Gr.of_grownBy hg1 (Or.inl rfl), Or.inr ⟨p, by rw [HENT.out, hm1], rfl⟩⟩
  · by_cases h2 : x = sTags
    · subst h2
      have hent : topS t sTags es a = entriesS t a := by unfold topS topG entriesS; rw [if_neg (by decide), if_pos rfl]
      unfold sTags at hent ⊢
      have HENT := hide hent
      clear hent h1
      go_enter Try.func27, Try.ntmps27
      go_wp2_with fail
      refine (entries_core b a t w HS.out ha ht).mono ?_
      rintro e w1 ⟨hg1, (⟨es1, c, v1, hm1, rfl, hown, hl8, hsc1, hc1⟩ | ⟨p, hm1, rfl⟩)⟩
      · dsimp only
        obtain ⟨oa, cap, rfl⟩ := own_slice hown
        obtain ⟨a1, a2, v0, a3, a4⟩ := HE.out
        have hbn : w1.heap[bn]? = some (.cells #[v0] 36 (0, 0)) := (hg1.block _ (lt_heap a3) (fun e => hne.1 e.symm)).trans a3
        have hbs : w1.heap[bs]? = some (.cells #[.pointer (some ⟨b, 0, none⟩)] 64 (0, 0)) := (hg1.block _ (lt_heap a1) hne.2.2).trans a1
        have c2 := cell_of_row w1 bn 0 _ _ _ hbn
        have f2 := frozen_of_row w1 bn 0 _ _ hbn
        have HBN := hide hbn
        have HBS := hide hbs
        have HOWN := hide hown
        have HG1 := hide hg1
        have HSC1 := hide hsc1
        have HM1 := hide hm1
        clear hbn hbs hown hg1 hsc1 hm1 a1 a2 a3 a4
        go_wp2_with fail
        (try simp only [Exit.inBlock, Exit.then])
        go_end0
        have hrow := row_store (i := 0) (.slice oa es1.length cap) HBN.out
        refine ⟨(HG1.out.mono (fun k _ h => Or.inl h)).trans (Gr.of_grownBy (grownBy_set w1 bn 0 _) (Or.inr rfl)), Or.inl ⟨es1, c, by rw [HENT.out, HM1.out], rfl, ?_, hc1, ?_, hl8, .slice oa es1.length cap, hrow, ?_⟩⟩
        · exact (heap_setCell_other _ _ _ _ hne.1).trans HSC1.out
        · exact (heap_setCell_other _ _ _ _ hne.2.1).trans HBS.out
        · refine own_mono (ownsRow_other HOWN.out fun k hk => ?_) hBw
          exact heap_setCell_other _ _ _ _ (fun e => own_ne HOWN.out HBN.out (by decide) (by rw [hk]; exact congrArg some e))
      · dsimp only [gaveUp]
        exact ⟨rfl, hg1.mono (fun k _ h => Or.inl h), Or.inr ⟨p, by rw [HENT.out, hm1], rfl⟩⟩
    · have hent : topS t x es a = .ok es a := by unfold topS topG; rw [if_neg h1, if_neg h2]
      have HENT := hide hent
      have q1 : (x.toList == [118, 101, 114, 115, 105, 111, 110]) = false := by rw [beq_eq_false_iff_ne]; intro e; exact h1 ((toList_inj x sVersion).1 (e.trans (by decide +kernel)))
      have q2 : (x.toList == [116, 97, 103, 115]) = false := by rw [beq_eq_false_iff_ne]; intro e; exact h2 ((toList_inj x sTags).1 (e.trans (by decide +kernel)))
      clear hent h1 h2
      go_enter Try.func27, Try.ntmps27
      go_wp2_with fail
      (try simp only [Exit.inBlock, Exit.then])
      go_end0
      exact ⟨Gr.refl _ _, Or.inl ⟨es, a, HENT.out, rfl, HS.out, ha, HE.out⟩⟩
end Go.Proofs.Ytpgamoielkpakaa
