/-
  PROVED HERE: what the function value that reads an entry's member does.
-/
import Derived.Test.YtpgamoielkpakaaObject
import Derived.Deep.MidRow
namespace Go.Proofs.Ytpgamoielkpakaa
open Go.RowKit
def entS (t last x : ByteArray) (e : En) (a : Nat) : RS En := entG (nextS t) last x e a
def EnAt (bs bl be b : Nat) (last : ByteArray) (e : En) (w : World) : Prop :=
  w.heap[bs]? = some (.cells #[.pointer (some ⟨b, 0, none⟩)] 64 (0, 0)) ∧ w.heap[bl]? = some (.cells #[.string last] 9 (0, 0)) ∧ w.heap[be]? = some (.cells (ecellsOf e.name (rd e.dig) e.size) 76 (0, 0))
theorem ec_set0 (n m : ByteArray) (ds : List Nat) (z : Int) : (ecellsOf n ds z).setIfInBounds 0 (.string m) = ecellsOf m ds z := by simp [ecellsOf]
theorem ec_set33 (n : ByteArray) (ds : List Nat) (z z' : Int) (h : ds.length = 32) : (ecellsOf n ds z).setIfInBounds 33 (.int .i64 z') = ecellsOf n ds z' := by
  have h2 : (cells8 ds).toList.length = 32 := by rw [Array.length_toList, cells8_size, h]
  simp only [ecellsOf, List.setIfInBounds_toArray, List.set_cons_succ]
  rw [List.set_append_right _ _ (by omega), h2]
  rfl
theorem ec_get33 (n : ByteArray) (ds : List Nat) (z : Int) (h : ds.length = 32) : (ecellsOf n ds z)[33]? = some (.int .i64 z) := by
  have h2 : (cells8 ds).toList.length = 32 := by rw [Array.length_toList, cells8_size, h]
  simp only [ecellsOf, List.getElem?_toArray, List.getElem?_cons_succ]
  rw [List.getElem?_append_right (by omega), h2]
  rfl
/-- Behind a reader: the closure's own variables are as they were. -/
theorem EnAt.later {bs bl be b : Nat} {last : ByteArray} {e : En} {w w' : World} (h : EnAt bs bl be b last e w) (hne : b ≠ be ∧ bs ≠ be ∧ bl ≠ be ∧ bs ≠ b ∧ bl ≠ b) (hg : w.grownBy w' (some b)) : EnAt bs bl be b last e w' :=
  ⟨(hg.block bs (lt_heap h.1) (fun e => by cases e; exact hne.2.2.2.1 rfl)).trans h.1, (hg.block bl (lt_heap h.2.1) (fun e => by cases e; exact hne.2.2.2.2 rfl)).trans h.2.1, (hg.block be (lt_heap h.2.2) (fun e => by cases e; exact hne.1 rfl)).trans h.2.2⟩
theorem tagS_far {t last n : ByteArray} {a c : Nat} (ha : a ≤ t.size) (h : tagS t last a = .ok n c) : c ≤ t.size := by
  unfold tagS tagG at h
  cases hn : nextS t a with
  | bad p => rw [hn] at h; cases h
  | tok k p m l c' =>
    rw [hn] at h
    dsimp only at h
    split at h
    · cases h; exact (nextS_far ha hn).1
    · cases h
theorem digestS_far {t n : ByteArray} {a c : Nat} (ha : a ≤ t.size) (h : digestS t a = .ok n c) : c ≤ t.size := by
  unfold digestS digestG at h
  cases hn : nextS t a with
  | bad p => rw [hn] at h; cases h
  | tok k p m l c' =>
    rw [hn] at h
    dsimp only at h
    split at h
    · cases h; exact (nextS_far ha hn).1
    · cases h
theorem sizeS_far {t : ByteArray} {n a c : Nat} (ha : a ≤ t.size) (h : sizeS t a = .ok n c) : c ≤ t.size := by
  unfold sizeS sizeG at h
  cases hn : nextS t a with
  | bad p => rw [hn] at h; cases h
  | tok k p m l c' =>
    rw [hn] at h
    dsimp only at h
    split at h
    · cases h; exact (nextS_far ha hn).1
    · cases h
theorem setCells_rowF (g : Nat) (T : TypeId) : ∀ (vs : List Value) (o : Nat) (w : World) (cur : Array Value), w.heap[g]? = some (.cells cur T (0, 0)) → o + vs.length ≤ cur.size →
    ∃ cur', (w.setCells g o vs).heap[g]? = some (.cells cur' T (0, 0)) ∧ cur'.size = cur.size ∧ (∀ j, j < o → cur'[j]? = cur[j]?) ∧ (∀ j, j < vs.length → cur'[o + j]? = vs[j]?) ∧ (∀ j, o + vs.length ≤ j → cur'[j]? = cur[j]?)
  | [], o, w, cur, h, _ => ⟨cur, h, rfl, fun _ _ => rfl, fun j hj => by simp at hj, fun _ _ => rfl⟩
  | v :: vs, o, w, cur, h, hl => by
    simp only [List.length_cons] at hl
    obtain ⟨cur', h1, h2, h3, h4, h5⟩ := setCells_rowF g T vs (o + 1) (w.setCell ⟨g, o, none⟩ v) _ (row_store v h) (by simp; omega)
    refine ⟨cur', h1, by simpa using h2, fun j hj => ?_, fun j hj => ?_, fun j hj => ?_⟩
    · rw [h3 j (by omega)]
      simp [Array.getElem?_setIfInBounds]
      intro e; omega
    · cases j with
      | zero =>
        rw [Nat.add_zero, h3 o (by omega)]
        simp [Array.getElem?_setIfInBounds]
        omega
      | succ j =>
        rw [show o + (j + 1) = o + 1 + j by omega, h4 j (by simpa using hj)]
        simp
    · simp only [List.length_cons] at hj
      rw [h5 j (by omega)]
      simp [Array.getElem?_setIfInBounds]
      intro e; omega
theorem gr_sets {S : Nat → Prop} {g : Nat} (vs : List Value) (o : Nat) (w : World) (hg : S g) : Gr S w (w.setCells g o vs) := by
  have h := below_sets (B := 0) (Nat.zero_le g) vs o w
  exact ⟨h.os, h.tape, h.output, h.size, fun k _ hn => heap_setCells_other _ _ _ (fun e => by subst e; exact hn hg)⟩
theorem there_mid {w : World} {be : Nat} {n : ByteArray} {ds : List Nat} {z : Int} (h : w.heap[be]? = some (.cells (ecellsOf n ds z) 76 (0, 0))) (hd : ds.length = 32) (ds' : List Nat) (hd' : ds'.length = 32) : w.there be 1 (cells8 ds').size := by
  intro j hj
  rw [cells8_size, hd'] at hj
  refine ⟨?_, frozen_of_row w be _ _ _ h⟩
  rw [cell_of_row w be (1 + j) _ _ _ h, Array.getElem?_eq_getElem (by rw [ecellsOf_size n ds z hd]; omega)]
  rfl
theorem ec_setMid {w : World} {be : Nat} {n : ByteArray} {ds : List Nat} {z : Int} (h : w.heap[be]? = some (.cells (ecellsOf n ds z) 76 (0, 0))) (hd : ds.length = 32) (ds' : List Nat) (hd' : ds'.length = 32) : (w.setCells be 1 (cells8 ds').toList).heap[be]? = some (.cells (ecellsOf n ds' z) 76 (0, 0)) := by
  have hl : (cells8 ds').toList.length = 32 := by rw [Array.length_toList, cells8_size, hd']
  obtain ⟨cur', h1, h2, h3, h4, h5⟩ := setCells_rowF be 76 (cells8 ds').toList 1 w _ h (by rw [ecellsOf_size n ds z hd]; omega)
  rw [h1]
  have hc : cur' = ecellsOf n ds' z := by
    apply Array.ext_getElem?
    intro j
    have hl2 : (cells8 ds).toList.length = 32 := by rw [Array.length_toList, cells8_size, hd]
    rcases Nat.lt_or_ge j 1 with hj | hj
    · rw [h3 j hj]
      obtain rfl : j = 0 := by omega
      rfl
    · obtain ⟨i, rfl⟩ : ∃ i, j = i + 1 := ⟨j - 1, by omega⟩
      rcases Nat.lt_or_ge i 32 with hi | hi
      · rw [Nat.add_comm i 1, h4 i (by omega), Nat.add_comm 1 i]
        simp only [ecellsOf, List.getElem?_toArray, List.getElem?_cons_succ]
        rw [List.getElem?_append_left (by omega)]
      · rw [h5 (i + 1) (by omega)]
        simp only [ecellsOf, List.getElem?_toArray, List.getElem?_cons_succ]
        rw [List.getElem?_append_right (by omega), List.getElem?_append_right (by omega), hl, hl2]
  rw [hc]
set_option maxHeartbeats 1000000 in
set_option maxRecDepth 100000 in
theorem entryC_any (bs bl be b a : Nat) (t last x : ByteArray) (e0 : En) (w : World) (hne : b ≠ be ∧ bs ≠ be ∧ bl ≠ be ∧ bs ≠ b ∧ bl ≠ b) (hs : ScIs w b t a) (ha : a ≤ t.size) (ht : t.size ≤ 2000) (hE : EnAt bs bl be b last e0 w) :
    Calls Try.prog 52 #[.string x, .pointer (some ⟨bs, 0, none⟩), .pointer (some ⟨bl, 0, none⟩), .pointer (some ⟨be, 0, none⟩)] w fun e w' => Gr (fun k => k = b ∨ k = be) w w' ∧
      ((∃ e1 c, entS t last x e0 a = .ok e1 c ∧ e = .returned (.tuple #[]) ∧ ScIs w' b t c ∧ c ≤ t.size ∧ EnAt bs bl be b last e1 w') ∨ (∃ p, entS t last x e0 a = .bad p ∧ e = gaveUp p)) := by
  have HS := hide hs
  have HE := hide hE
  have c1 := cell_of_row w bs 0 _ _ _ hE.1
  have c2 := cell_of_row w bl 0 _ _ _ hE.2.1
  have hbl := lt_heap hs
  clear hs hE
  by_cases h1 : x = sTag
  · subst h1
    have hent : entS t last sTag e0 a = (match tagS t last a with | .ok n c => .ok { e0 with name := n } c | .bad p => .bad p) := by unfold entS entG; rw [if_pos rfl]; unfold tagS; cases tagG (nextS t) last a <;> rfl
    unfold sTag at hent ⊢
    have HENT := hide hent
    clear hent
    go_enter Try.func52, Try.ntmps52
    go_wp2_with fail
    refine (tag_core b a t last w HS.out ha ht).mono ?_
    rintro e w1 ⟨hg1, (⟨n1, c, hm1, rfl, hsc1⟩ | ⟨p, hm1, rfl⟩)⟩
    · dsimp only
      have hE1 := HE.out.later hne hg1
      have c3 : w1.cell? ⟨be, 0, none⟩ = some (.string e0.name) := cell_of_row w1 be 0 _ _ _ hE1.2.2
      have f3 := frozen_of_row w1 be 0 _ _ hE1.2.2
      have HE1 := hide hE1
      clear hE1
      go_wp2_with fail
      (try simp only [Exit.inBlock, Exit.then])
      go_end0
      have hrow := row_store (i := 0) (.string n1) HE1.out.2.2
      rw [ec_set0] at hrow
      refine ⟨(Gr.of_grownBy hg1 (Or.inl rfl)).trans (Gr.of_grownBy (grownBy_set w1 be 0 _) (Or.inr rfl)), Or.inl ⟨{ e0 with name := n1 }, c, by rw [HENT.out, hm1], rfl, ?_, ?_, ?_, ?_, hrow⟩⟩
      · exact (heap_setCell_other _ _ _ _ hne.1).trans hsc1
      · exact tagS_far ha hm1
      · exact (heap_setCell_other _ _ _ _ hne.2.1).trans HE1.out.1
      · exact (heap_setCell_other _ _ _ _ hne.2.2.1).trans HE1.out.2.1
    · dsimp only [gaveUp]
      exact ⟨rfl, Gr.of_grownBy hg1 (Or.inl rfl), Or.inr ⟨p, by rw [HENT.out, hm1], rfl⟩⟩
  · by_cases h2 : x = sDigest
    · subst h2
      have hent : entS t last sDigest e0 a = (match digestS t a with | .ok s c => .ok { e0 with dig := s } c | .bad p => .bad p) := by unfold entS entG; rw [if_neg (by decide), if_pos rfl]; unfold digestS; cases digestG (nextS t) a <;> rfl
      unfold sDigest at hent ⊢
      have HENT := hide hent
      clear hent h1
      go_enter Try.func52, Try.ntmps52
      go_wp2_with fail
      refine (digest_core b a t w HS.out ha ht).mono ?_
      rintro e w1 ⟨hg1, (⟨n1, c, hm1, rfl, hsc1⟩ | ⟨p, hm1, rfl⟩)⟩
      · dsimp only
        have HE1 := hide (HE.out.later hne hg1)
        have hdl := rd_len n1
        have hth : w1.there be 1 (cells8 (rd n1)).size := there_mid HE1.out.2.2 (rd_len _) (rd n1) hdl
        go_wp2_with (refine wpList_store_mid rfl 74 _ _ rfl be 1 _ rfl rfl hth (size40 _ hdl) (cells8_one _) ?_)
        (try simp only [Exit.inBlock, Exit.then])
        go_end0
        have hrow := ec_setMid HE1.out.2.2 (rd_len _) (rd n1) hdl
        have hgs : Gr (fun k => k = b ∨ k = be) w1 (w1.setCells be 1 (cells8 (rd n1)).toList) := gr_sets _ _ _ (Or.inr rfl)
        refine ⟨(Gr.of_grownBy hg1 (Or.inl rfl)).trans hgs, Or.inl ⟨{ e0 with dig := n1 }, c, by rw [HENT.out, hm1], rfl, ?_, ?_, ?_, ?_, hrow⟩⟩
        · exact (heap_setCells_other _ _ _ hne.1).trans hsc1
        · exact digestS_far ha hm1
        · exact (heap_setCells_other _ _ _ hne.2.1).trans HE1.out.1
        · exact (heap_setCells_other _ _ _ hne.2.2.1).trans HE1.out.2.1
      · dsimp only [gaveUp]
        exact ⟨rfl, Gr.of_grownBy hg1 (Or.inl rfl), Or.inr ⟨p, by rw [HENT.out, hm1], rfl⟩⟩
    · by_cases h3 : x = sSize
      · subst h3
        have g1 := hide h1
        clear h1 h2
        have hent : entS t last sSize e0 a = (match sizeS t a with | .ok n c => .ok { e0 with size := n } c | .bad p => .bad p) := by unfold entS entG; rw [if_neg (by decide), if_neg (by decide), if_pos rfl]; unfold sizeS; cases sizeG (nextS t) a <;> rfl
        unfold sSize at hent ⊢
        have HENT := hide hent
        clear hent
        go_enter Try.func52, Try.ntmps52
        go_wp2_with fail
        refine (size_core b a t w HS.out ha ht).mono ?_
        rintro e w1 ⟨hg1, (⟨n1, c, hm1, rfl, hsc1⟩ | ⟨p, hm1, rfl⟩)⟩
        · dsimp only
          have hE1 := HE.out.later hne hg1
          have c3 : w1.cell? ⟨be, 33, none⟩ = some (.int .i64 ((e0.size : Nat) : Int)) := (cell_of_row w1 be 33 _ _ _ hE1.2.2).trans (ec_get33 _ _ _ (rd_len _))
          have f3 := frozen_of_row w1 be 33 _ _ hE1.2.2
          have HE1 := hide hE1
          clear hE1
          go_wp2_with fail
          (try simp only [Exit.inBlock, Exit.then])
          go_end0
          have hrow := row_store (i := 33) (.int .i64 ((n1 : Nat) : Int)) HE1.out.2.2
          rw [ec_set33 _ _ _ _ (rd_len _)] at hrow
          refine ⟨(Gr.of_grownBy hg1 (Or.inl rfl)).trans (Gr.of_grownBy (grownBy_set w1 be 33 _) (Or.inr rfl)), Or.inl ⟨{ e0 with size := n1 }, c, by rw [HENT.out, hm1], rfl, ?_, ?_, ?_, ?_, hrow⟩⟩
          · exact (heap_setCell_other _ _ _ _ hne.1).trans hsc1
          · exact sizeS_far ha hm1
          · exact (heap_setCell_other _ _ _ _ hne.2.1).trans HE1.out.1
          · exact (heap_setCell_other _ _ _ _ hne.2.2.1).trans HE1.out.2.1
        · dsimp only [gaveUp]
          exact ⟨rfl, Gr.of_grownBy hg1 (Or.inl rfl), Or.inr ⟨p, by rw [HENT.out, hm1], rfl⟩⟩
      · have hent : entS t last x e0 a = .ok e0 a := by unfold entS entG; rw [if_neg h1, if_neg h2, if_neg h3]
        have HENT := hide hent
        have q1 : (x.toList == [116, 97, 103]) = false := by rw [beq_eq_false_iff_ne]; intro e; exact h1 ((toList_inj x sTag).1 (e.trans (by decide +kernel)))
        have q2 : (x.toList == [100, 105, 103, 101, 115, 116]) = false := by rw [beq_eq_false_iff_ne]; intro e; exact h2 ((toList_inj x sDigest).1 (e.trans (by decide +kernel)))
        have q3 : (x.toList == [115, 105, 122, 101]) = false := by rw [beq_eq_false_iff_ne]; intro e; exact h3 ((toList_inj x sSize).1 (e.trans (by decide +kernel)))
        clear hent h1 h2 h3
        go_enter Try.func52, Try.ntmps52
        go_wp2_with fail
        (try simp only [Exit.inBlock, Exit.then])
        go_end0
        exact ⟨Gr.refl _ _, Or.inl ⟨e0, a, HENT.out, rfl, HS.out, ha, HE.out⟩⟩
end Go.Proofs.Ytpgamoielkpakaa
