/-
  PROVED HERE: what the function value that reads an entry's member does.
-/
import Derived.Test.YteicpbcddjjceaaGreatDoorObject
import Derived.Deep.MidRow
namespace Go.Proofs.YteicpbcddjjceaaGreatDoor
open Go.RowKit
def entS (t last x : ByteArray) (e : En) (a : Nat) : RS En := entG (nextS t) last x e a
def EnAt (bs bl be b : Nat) (last : ByteArray) (e : En) (w : World) : Prop :=
  w.heap[bs]? = some (.cells #[.pointer (some ⟨b, 0, none⟩)] 180 (0, 0)) ∧ w.heap[bl]? = some (.cells #[.string last] 9 (0, 0)) ∧ w.heap[be]? = some (.cells (ecellsOf e.name (rd e.dig) e.size) 130 (0, 0))
theorem ec_set0 (n m : ByteArray) (ds : List Nat) (z : Int) : (ecellsOf n ds z).setIfInBounds 0 (.string m) = ecellsOf m ds z := by simp [ecellsOf]
theorem ec_set33 (n : ByteArray) (ds : List Nat) (z z' : Int) (h : ds.length = 32) : (ecellsOf n ds z).setIfInBounds 33 (.int .i64 z') = ecellsOf n ds z' := by
  have h2 : (cells8 ds).toList.length = 32 := by rw [Array.length_toList, cells8_size, h]
  simp only [ecellsOf, List.setIfInBounds_toArray, List.set_cons_succ]
  rw [List.set_append_right _ _ (by omega), h2]
  rfl
theorem ec_get33 (n : ByteArray) (ds : List Nat) (z : Int) (h : ds.length = 32) : (ecellsOf n ds z)[33]? = some (.int .i64 z) := by
  have h2 : (cells8 ds).toList.length = 32 := by rw [Array.length_toList, cells8_size, h]
  simp only [ecellsOf, List.getElem?_toArray, List.getElem?_cons_succ]
  rw [List.getElem?_append_right (by omega), h2]
  rfl
/-- Behind a reader: the closure's own variables are as they were. -/
theorem EnAt.later {bs bl be b : Nat} {last : ByteArray} {e : En} {w w' : World} (h : EnAt bs bl be b last e w) (hne : b ≠ be ∧ bs ≠ be ∧ bl ≠ be ∧ bs ≠ b ∧ bl ≠ b) (hg : w.grownBy w' (some b)) : EnAt bs bl be b last e w' :=
  ⟨(hg.block bs (lt_heap h.1) (fun e => by cases e; exact hne.2.2.2.1 rfl)).trans h.1, (hg.block bl (lt_heap h.2.1) (fun e => by cases e; exact hne.2.2.2.2 rfl)).trans h.2.1, (hg.block be (lt_heap h.2.2) (fun e => by cases e; exact hne.1 rfl)).trans h.2.2⟩
theorem tagS_far {t last n : ByteArray} {a c : Nat} (ha : a ≤ t.size) (h : tagS t last a = .ok n c) : c ≤ t.size := by
  unfold tagS tagG at h
  cases hn : nextS t a with
  | bad p => rw [hn] at h; cases h
  | tok k p m l c' =>
    rw [hn] at h
    dsimp only at h
    split at h
    · cases h; exact (nextS_far ha hn).1
    · cases h
theorem digestS_far {t n : ByteArray} {a c : Nat} (ha : a ≤ t.size) (h : digestS t a = .ok n c) : c ≤ t.size := by
  unfold digestS digestG at h
  cases hn : nextS t a with
  | bad p => rw [hn] at h; cases h
  | tok k p m l c' =>
    rw [hn] at h
    dsimp only at h
    split at h
    · cases h; exact (nextS_far ha hn).1
    · cases h
theorem sizeS_far {t : ByteArray} {n a c : Nat} (ha : a ≤ t.size) (h : sizeS t a = .ok n c) : c ≤ t.size := by
  unfold sizeS sizeG at h
  cases hn : nextS t a with
  | bad p => rw [hn] at h; cases h
  | tok k p m l c' =>
    rw [hn] at h
    dsimp only at h
    split at h
    · cases h; exact (nextS_far ha hn).1
    · cases h
theorem setCells_rowF (g : Nat) (T : TypeId) : ∀ (vs : List Value) (o : Nat) (w : World) (cur : Array Value), w.heap[g]? = some (.cells cur T (0, 0)) → o + vs.length ≤ cur.size →
    ∃ cur', (w.setCells g o vs).heap[g]? = some (.cells cur' T (0, 0)) ∧ cur'.size = cur.size ∧ (∀ j, j < o → cur'[j]? = cur[j]?) ∧ (∀ j, j < vs.length → cur'[o + j]? = vs[j]?) ∧ (∀ j, o + vs.length ≤ j → cur'[j]? = cur[j]?)
  | [], o, w, cur, h, _ => ⟨cur, h, rfl, fun _ _ => rfl, fun j hj => by simp at hj, fun _ _ => rfl⟩
  | v :: vs, o, w, cur, h, hl => by
    simp only [List.length_cons] at hl
    obtain ⟨cur', h1, h2, h3, h4, h5⟩ := setCells_rowF g T vs (o + 1) (w.setCell ⟨g, o, none⟩ v) _ (row_store v h) (by simp; omega)
    refine ⟨cur', h1, by simpa using h2, fun j hj => ?_, fun j hj => ?_, fun j hj => ?_⟩
    · rw [h3 j (by omega)]
      simp [Array.getElem?_setIfInBounds]
      intro e; omega
    · cases j with
      | zero =>
        rw [Nat.add_zero, h3 o (by omega)]
        simp [Array.getElem?_setIfInBounds]
        omega
      | succ j =>
        rw [show o + (j + 1) = o + 1 + j by omega, h4 j (by simpa using hj)]
        simp
    · simp only [List.length_cons] at hj
      rw [h5 j (by omega)]
      simp [Array.getElem?_setIfInBounds]
      intro e; omega
theorem gr_sets {S : Nat → Prop} {g : Nat} (vs : List Value) (o : Nat) (w : World) (hg : S g) : Gr S w (w.setCells g o vs) := by
  have h := below_sets (B := 0) (Nat.zero_le g) vs o w
  exact ⟨h.os, h.tape, h.output, h.size, fun k _ hn => heap_setCells_other _ _ _ (fun e => by subst e; exact hn hg)⟩
theorem there_mid {w : World} {be : Nat} {n : ByteArray} {ds : List Nat} {z : Int} (h : w.heap[be]? = some (.cells (ecellsOf n ds z) 130 (0, 0))) (hd : ds.length = 32) (ds' : List Nat) (hd' : ds'.length = 32) : w.there be 1 (cells8 ds').size := by
  intro j hj
  rw [cells8_size, hd'] at hj
  refine ⟨?_, frozen_of_row w be _ _ _ h⟩
  rw [cell_of_row w be (1 + j) _ _ _ h, Array.getElem?_eq_getElem (by rw [ecellsOf_size n ds z hd]; omega)]
  rfl
theorem ec_setMid {w : World} {be : Nat} {n : ByteArray} {ds : List Nat} {z : Int} (h : w.heap[be]? = some (.cells (ecellsOf n ds z) 130 (0, 0))) (hd : ds.length = 32) (ds' : List Nat) (hd' : ds'.length = 32) : (w.setCells be 1 (cells8 ds').toList).heap[be]? = some (.cells (ecellsOf n ds' z) 130 (0, 0)) := by
  have hl : (cells8 ds').toList.length = 32 := by rw [Array.length_toList, cells8_size, hd']
  obtain ⟨cur', h1, h2, h3, h4, h5⟩ := setCells_rowF be 130 (cells8 ds').toList 1 w _ h (by rw [ecellsOf_size n ds z hd]; omega)
  rw [h1]
  have hc : cur' = ecellsOf n ds' z := by
    apply Array.ext_getElem?
    intro j
    have hl2 : (cells8 ds).toList.length = 32 := by rw [Array.length_toList, cells8_size, hd]
    rcases Nat.lt_or_ge j 1 with hj | hj
    · rw [h3 j hj]
      obtain rfl : j = 0 := by omega
      rfl
    · obtain ⟨i, rfl⟩ : ∃ i, j = i + 1 := ⟨j - 1, by omega⟩
      rcases Nat.lt_or_ge i 32 with hi | hi
      · rw [Nat.add_comm i 1, h4 i (by omega), Nat.add_comm 1 i]
        simp only [ecellsOf, List.getElem?_toArray, List.getElem?_cons_succ]
        rw [List.getElem?_append_left (by omega)]
      · rw [h5 (i + 1) (by omega)]
        simp only [ecellsOf, List.getElem?_toArray, List.getElem?_cons_succ]
        rw [List.getElem?_append_right (by omega), List.getElem?_append_right (by omega), hl, hl2]
  rw [hc]
set_option maxHeartbeats 1000000 in
set_option maxRecDepth 100000 in
theorem entryC_any (bs bl be b a : Nat) (t last x : ByteArray) (e0 : En) (w : World) (hne : b ≠ be ∧ bs ≠ be ∧ bl ≠ be ∧ bs ≠ b ∧ bl ≠ b) (hs : ScIs w b t a) (ha : a ≤ t.size) (ht : t.size ≤ 2000) (hE : EnAt bs bl be b last e0 w) :
    Calls Tryz.prog 202 #[.string x, .pointer (some ⟨bs, 0, none⟩), .pointer (some ⟨bl, 0, none⟩), .pointer (some ⟨be, 0, none⟩)] w fun e w' => Gr (fun k => k = b ∨ k = be) w w' ∧
      ((∃ e1 c, entS t last x e0 a = .ok e1 c ∧ e = .returned (.tuple #[]) ∧ ScIs w' b t c ∧ c ≤ t.size ∧ EnAt bs bl be b last e1 w') ∨ (∃ p, entS t last x e0 a = .bad p ∧ e = gaveUp p)) := by
  have HS := hide hs
  have HE := hide hE
  have c1 := cell_of_row w bs 0 _ _ _ hE.1
  have c2 := cell_of_row w bl 0 _ _ _ hE.2.1
  have hbl := lt_heap hs
  clear hs hE
  by_cases h1 : x = sTag
  · subst h1
    have hent : entS t last sTag e0 a = (match tagS t last a with | .ok n c => .ok { e0 with name := n } c | .bad p => .bad p) := by unfold entS entG; rw [if_pos rfl]; unfold tagS; cases tagG (nextS t) last a <;> rfl
    unfold sTag at hent ⊢
    have HENT := hide hent
    clear hent
    go_enter Tryz.func202, Tryz.ntmps202
    go_wp2_with fail
    refine (tag_core b a t last w HS.out ha ht).mono ?_
    rintro e w1 ⟨hg1, (⟨n1, c, hm1, rfl, hsc1⟩ | ⟨p, hm1, rfl⟩)⟩
    · dsimp only
      have hE1 := HE.out.later hne hg1
      have c3 : w1.cell? ⟨be, 0, none⟩ = some (.string e0.name) := cell_of_row w1 be 0 _ _ _ hE1.2.2
      have f3 := frozen_of_row w1 be 0 _ _ hE1.2.2
      have HE1 := hide hE1
      clear hE1
      go_wp2_with fail
      (try simp only [Exit.inBlock, Exit.then])
      go_end0
      have hrow := row_store (i := 0) (.string n1) HE1.out.2.2
      rw [ec_set0] at hrow
      refine ⟨(Gr.of_grownBy hg1 (Or.inl rfl)).trans (Gr.of_grownBy (grownBy_set w1 be 0 _) (Or.inr rfl)), Or.inl ⟨{ e0 with name := n1 }, c, by rw [HENT.out, hm1], rfl, ?_, ?_, ?_, ?_, hrow⟩⟩
      · exact (heap_setCell_other _ _ _ _ hne.1).trans hsc1
      · exact tagS_far ha hm1
      · exact (heap_setCell_other _ _ _ _ hne.2.1).trans HE1.out.1
      · exact (heap_setCell_other _ _ _ _ hne.2.2.1).trans HE1.out.2.1
    · dsimp only [gaveUp]
      exact ⟨rfl, Gr.of_grownBy hg1 (Or.inl rfl), Or.inr ⟨p, by rw [HENT.out, hm1], rfl⟩⟩
  · by_cases h2 : x = sDigest
    · subst h2
      have hent : entS t last sDigest e0 a = (match digestS t a with | .ok s c => .ok { e0 with dig := s } c | .bad p => .bad p) := by unfold entS entG; rw [if_neg (by decide), if_pos rfl]; unfold digestS; cases digestG (nextS t) a <;> rfl
      unfold sDigest at hent ⊢
      have HENT := hide hent
      clear hent h1
      go_enter Tryz.func202, Tryz.ntmps202
      go_wp2_with fail
      refine (digest_core b a t w HS.out ha ht).mono ?_
      rintro e w1 ⟨hg1, (⟨n1, c, hm1, rfl, hsc1⟩ | ⟨p, hm1, rfl⟩)⟩
      · dsimp only
        have HE1 := hide (HE.out.later hne hg1)
        have hdl := rd_len n1
        have hth : w1.there be 1 (cells8 (rd n1)).size := there_mid HE1.out.2.2 (rd_len _) (rd n1) hdl
        go_wp2_with (refine wpList_store_mid rfl 72 _ _ rfl be 1 _ rfl rfl hth (size40 _ hdl) (cells8_one _) ?_)
        (try simp only [Exit.inBlock, Exit.then])
        go_end0
        have hrow := ec_setMid HE1.out.2.2 (rd_len _) (rd n1) hdl
        have hgs : Gr (fun k => k = b ∨ k = be) w1 (w1.setCells be 1 (cells8 (rd n1)).toList) := gr_sets _ _ _ (Or.inr rfl)
        refine ⟨(Gr.of_grownBy hg1 (Or.inl rfl)).trans hgs, Or.inl ⟨{ e0 with dig := n1 }, c, by rw [HENT.out, hm1], rfl, ?_, ?_, ?_, ?_, hrow⟩⟩
        · exact (heap_setCells_other _ _ _ hne.1).trans hsc1
        · exact digestS_far ha hm1
        · exact (heap_setCells_other _ _ _ hne.2.1).trans HE1.out.1
        · exact (heap_setCells_other _ _ _ hne.2.2.1).trans HE1.out.2.1
      · dsimp only [gaveUp]
        exact ⟨rfl, Gr.of_grownBy hg1 (Or.inl rfl), Or.inr ⟨p, by rw [HENT.out, hm1], rfl⟩⟩
    · by_cases h3 : x = sSize
      · subst h3
        have g1 := hide h1
        clear h1 h2
        have hent : entS t last sSize e0 a = (match sizeS t a with | .ok n c => .ok { e0 with size := n } c | .bad p => .bad p) := by unfold entS entG; rw [if_neg (by decide), if_neg (by decide), if_pos rfl]; unfold sizeS; cases sizeG (nextS t) a <;> rfl
        unfold sSize at hent ⊢
        have HENT := hide hent
        clear hent
        go_enter Tryz.func202, Tryz.ntmps202
        go_wp2_with fail
        refine (size_core b a t w HS.out ha ht).mono ?_
        rintro e w1 ⟨hg1, (⟨n1, c, hm1, rfl, hsc1⟩ | ⟨p, hm1, rfl⟩)⟩
        · dsimp only
          have hE1 := HE.out.later hne hg1
          have c3 : w1.cell? ⟨be, 33, none⟩ = some (.int .i64 ((e0.size : Nat) : Int)) := (cell_of_row w1 be 33 _ _ _ hE1.2.2).trans (ec_get33 _ _ _ (rd_len _))
          have f3 := frozen_of_row w1 be 33 _ _ hE1.2.2
          have HE1 := hide hE1
          clear hE1
          go_wp2_with fail
          (try simp only [Exit.inBlock, Exit.then])
          go_end0
          have hrow := row_store (i := 33) (.int .i64 ((n1 : Nat) : Int)) HE1.out.2.2
          rw [ec_set33 _ _ _ _ (rd_len _)] at hrow
          refine ⟨(Gr.of_grownBy hg1 (Or.inl rfl)).trans (Gr.of_grownBy (grownBy_set w1 be 33 _) (Or.inr rfl)), Or.inl ⟨{ e0 with size := n1 }, c, by rw [HENT.out, hm1], rfl, ?_, ?_, ?_, ?_, hrow⟩⟩
          · exact (heap_setCell_other _ _ _ _ hne.1).trans hsc1
          · exact sizeS_far ha hm1
          · exact (heap_setCell_other _ _ _ _ hne.2.1).trans HE1.out.1
          · exact (heap_setCell_other _ _ _ _ hne.2.2.1).trans HE1.out.2.1
        · dsimp only [gaveUp]
          exact ⟨rfl, Gr.of_grownBy hg1 (Or.inl rfl), Or.inr ⟨p, by rw [HENT.out, hm1], rfl⟩⟩
      · have hent : entS t last x e0 a = .ok e0 a := by unfold entS entG; rw [if_neg h1, if_neg h2, if_neg h3]
        have HENT := hide hent
        have q1 : (x.toList == [116, 97, 103]) = false := by rw [beq_eq_false_iff_ne]; intro e; exact h1 ((toList_inj x sTag).1 (e.trans (by decide +kernel)))
        have q2 : (x.toList == [100, 105, 103, 101, 115, 116]) = false := by rw [beq_eq_false_iff_ne]; intro e; exact h2 ((toList_inj x sDigest).1 (e.trans (by decide +kernel)))
        have q3 : (x.toList == [115, 105, 122, 101]) = false := by rw [beq_eq_false_iff_ne]; intro e; exact h3 ((toList_inj x sSize).1 (e.trans (by decide +kernel)))
        clear hent h1 h2 h3
        go_enter Tryz.func202, Tryz.ntmps202
        go_wp2_with fail
        (try simp only [Exit.inBlock, Exit.then])
        go_end0
        exact ⟨Gr.refl _ _, Or.inl ⟨e0, a, HENT.out, rfl, HS.out, ha, HE.out⟩⟩
end Go.Proofs.YteicpbcddjjceaaGreatDoor

/-
  PROVED HERE: what the program's function entry of the index's reader answers, or at which place it gives up.
-/
namespace Go.Proofs.YteicpbcddjjceaaGreatDoor
open Go.RowKit
def entryS (t : ByteArray) (k p : Nat) (last : ByteArray) (a : Nat) : RS En := entryG (nextS t) k p last a
theorem alloc6 (w W : World) (o0 o1 o2 o3 o4 o5 : Obj) (hW : W = (((((w.alloc o0).alloc o1).alloc o2).alloc o3).alloc o4).alloc o5) :
    W.heap.size = w.heap.size + 6 ∧ W.heap[w.heap.size]? = some o0 ∧ W.heap[w.heap.size + 1 + 1]? = some o2 ∧ W.heap[w.heap.size + 1 + 1 + 1]? = some o3 ∧ W.heap[w.heap.size + 1 + 1 + 1 + 1]? = some o4 ∧ W.heap[w.heap.size + 1 + 1 + 1 + 1 + 1]? = some o5 ∧ Below w.heap.size w W := by
  subst hW
  refine ⟨by simp, ?_, ?_, ?_, ?_, ?_, ?_⟩
  · exact (Below.heap_alloc _ _ _ (by simp; omega)).trans ((Below.heap_alloc _ _ _ (by simp; omega)).trans ((Below.heap_alloc _ _ _ (by simp; omega)).trans ((Below.heap_alloc _ _ _ (by simp; omega)).trans ((Below.heap_alloc _ _ _ (by simp)).trans (heap_alloc_new _ _)))))
  · have h := heap_alloc_new ((w.alloc o0).alloc o1) o2
    simp only [size_alloc] at h
    exact (Below.heap_alloc _ _ _ (by simp only [size_alloc]; omega)).trans ((Below.heap_alloc _ _ _ (by simp only [size_alloc]; omega)).trans ((Below.heap_alloc _ _ _ (by simp)).trans h))
  · have h := heap_alloc_new (((w.alloc o0).alloc o1).alloc o2) o3
    simp only [size_alloc] at h
    exact (Below.heap_alloc _ _ _ (by simp only [size_alloc]; omega)).trans ((Below.heap_alloc _ _ _ (by simp)).trans h)
  · have h := heap_alloc_new ((((w.alloc o0).alloc o1).alloc o2).alloc o3) o4
    simp only [size_alloc] at h
    exact (Below.heap_alloc _ _ _ (by simp)).trans h
  · have h := heap_alloc_new (((((w.alloc o0).alloc o1).alloc o2).alloc o3).alloc o4) o5
    simp only [size_alloc] at h
    exact h
  · exact ((((((Below.refl _ _).alloc (Nat.le_refl _) _).alloc (by simp) _).alloc (by simp; omega) _).alloc (by simp; omega) _).alloc (by simp; omega) _).alloc (by simp; omega) _
theorem Gr.after_below {S S2 : Nat → Prop} {w W W1 : World} (h1 : Below w.heap.size w W) (h2 : Gr S2 W W1) (hS : ∀ k, k < w.heap.size → S2 k → S k) : Gr S w W1 :=
  ⟨h2.os.trans h1.os, h2.tape.trans h1.tape, h2.output.trans h1.output, Nat.le_trans h1.size h2.size, fun k hk hn => (h2.block k (Nat.lt_of_lt_of_le hk h1.size) fun h => hn (hS k hk h)).trans (h1.block k hk)⟩
theorem rd_nil : rd ⟨#[]⟩ = Sha.zeros 32 := by decide +kernel
theorem rd_nil_cells : ecellsOf ⟨#[]⟩ (rd ⟨#[]⟩) 0 = ecellsOf ⟨#[]⟩ (Sha.zeros 32) 0 := by rw [rd_nil]
set_option maxHeartbeats 1000000 in
set_option maxRecDepth 100000 in
theorem entry_core (b a k0 p0 : Nat) (n0 : Int) (s0 t last : ByteArray) (w : World) (hs : ScIs w b t a) (ha : a ≤ t.size) (ht : t.size ≤ 2000) :
    Calls Tryz.prog 162 #[.pointer (some ⟨b, 0, none⟩), tokV k0 p0 n0 s0, .string last] w fun e w' => Gr (fun k => k = b) w w' ∧
      ((∃ e1 c, entryS t k0 p0 last a = .ok e1 c ∧ e = .returned (.agg (ecellsOf e1.name (rd e1.dig) e1.size)) ∧ ScIs w' b t c ∧ c ≤ t.size) ∨ (∃ p, entryS t k0 p0 last a = .bad p ∧ e = gaveUp p)) := by
  have HS := hide hs
  have hbl := lt_heap hs
  clear hs
  have hz71 := (zero_of_info Tryz.info71b).1
  unfold tokV
  go_enter Tryz.func162, Tryz.ntmps162
  go_wp2_with fail
  obtain ⟨W, hW⟩ : ∃ W, W = (((((w.alloc (.cells #[.pointer (some ⟨b, 0, none⟩)] 180)).alloc (.cells #[.int .u8 ((k0 : Nat) : Int), .int .i64 ((p0 : Nat) : Int), .int .i64 n0, .string s0] 185)).alloc (.cells #[.string last] 9)).alloc (.cells (ecellsOf ⟨#[]⟩ (Sha.zeros 32) 0) 130)).alloc (.cells (ecellsOf ⟨#[]⟩ (Sha.zeros 32) 0) 130)).alloc (.cells #[.string ⟨#[116, 97, 103]⟩, .string ⟨#[100, 105, 103, 101, 115, 116]⟩, .string ⟨#[115, 105, 122, 101]⟩] 9) := ⟨_, rfl⟩
  rw [← hW]
  obtain ⟨hz, h0, h2, h3, h4, h5, hB⟩ := alloc6 _ _ _ _ _ _ _ _ hW
  clear hW
  have hsW : ScIs W b t a := HS.out.later hB
  have hR : EnAt w.heap.size (w.heap.size + 1 + 1) (w.heap.size + 1 + 1 + 1 + 1) b last En0 W := ⟨h0, h2, by rw [h4]; unfold En0; rw [show ((0 : Nat) : Int) = 0 from rfl, rd_nil_cells]⟩
  have hn : ∀ j, j < [sTag, sDigest, sSize].length → W.cell? ⟨w.heap.size + 1 + 1 + 1 + 1 + 1, j, none⟩ = some (.string ([sTag, sDigest, sSize].getD j ByteArray.empty)) := by
    intro j hj
    rw [cell_of_row W _ j _ _ _ h5]
    match j, hj with
    | 0, _ => rfl
    | 1, _ => rfl
    | 2, _ => rfl
  have HR3 := hide h3
  have HBB := hide hB
  have HSW := hide hsW
  have HRR := hide hR
  have HNN := hide hn
  clear h0 h2 h3 h4 h5 hB hsW hR hn
  by_cases hk : k0 = 123
  · subst hk
    have hent : entryS t 123 p0 last a = objS (entS t last) t true 3 [sTag, sDigest, sSize] En0 a := by
      unfold entryS entryG objS
      rw [if_pos rfl]
      rfl
    have HENT := hide hent
    clear hent
    have hcall := object_ok (entS t last) b (w.heap.size + 1 + 1 + 1 + 1 + 1) 202 [sTag, sDigest, sSize] #[.pointer (some ⟨w.heap.size, 0, none⟩), .pointer (some ⟨w.heap.size + 1 + 1, 0, none⟩), .pointer (some ⟨w.heap.size + 1 + 1 + 1 + 1, 0, none⟩)] t a p0 n0 s0 W (fun k => k = b ∨ k = w.heap.size + 1 + 1 + 1 + 1) (EnAt w.heap.size (w.heap.size + 1 + 1) (w.heap.size + 1 + 1 + 1 + 1) b last) En0
      (enters_of Tryz.func202 (by kernel_rfl) rfl) HSW.out ha ht (Or.inl rfl) (by intro k hk; rcases hk with rfl | rfl <;> omega) HRR.out (by decide) HNN.out
      (fun st V V' hV hsz hg => ⟨(hg.block _ (by omega) (by intro h; rcases h with h | ⟨h, _⟩ <;> omega)).trans hV.1, (hg.block _ (by omega) (by intro h; rcases h with h | ⟨h, _⟩ <;> omega)).trans hV.2.1, (hg.block _ (by omega) (by intro h; rcases h with h | ⟨h, _⟩ <;> omega)).trans hV.2.2⟩)
      (fun x st c V hV hsz hsc hc => entryC_any _ _ _ b c t last x st V (by omega) hsc hc ht hV)
    simp only [tokV, List.length_cons, List.length_nil, Nat.zero_add, Nat.reduceAdd] at hcall
    refine hcall.mono ?_
    rintro e w1 ⟨hg1, (⟨e1, c, ho, rfl, hsc1, hc1, hR1⟩ | ⟨p, ho, rfl⟩)⟩
    · dsimp only
      have hr4 := hR1.2.2
      have hr3 : w1.heap[w.heap.size + 1 + 1 + 1]? = some (.cells (ecellsOf ⟨#[]⟩ (Sha.zeros 32) 0) 130 (0, 0)) := (hg1.block _ (by omega) (by intro h; rcases h with h | h <;> omega)).trans HR3.out
      have hgw : Gr (fun k => k = b) w w1 := Gr.after_below HBB.out hg1 (by intro k hk h; rcases h with h | h <;> omega)
      have HGW := hide hgw
      have HSC1 := hide hsc1
      have HO := hide ho
      have hl := rd_len e1.dig
      clear hgw hsc1 ho hg1 hR1 hcall
      generalize hds : rd e1.dig = ds at hr4 hl ⊢
      have HDS := hide hds
      clear hds
      go_wp2_with (first | (refine wpList_load_row rfl 130 _ rfl (w.heap.size + 1 + 1 + 1 + 1) rfl 130 _ _ _ hr4 Tryz.underlying130 rfl (size71 _ _ _ hl) ?_) | (refine wpList_store_row rfl 130 _ _ rfl (w.heap.size + 1 + 1 + 1) _ rfl rfl 130 _ hr3 (size71 _ _ _ hl) (by rw [ecellsOf_size _ _ _ hl, ecellsOf_size _ _ _ (Sha.zeros_len 32)]) (by rw [Array.all_eq_true_iff_forall_mem]; intro u hu; exact ecellsOf_one _ _ _ u (by simpa using hu)) ?_))
      have hb2 : Below w.heap.size w1 (w1.setRow (w.heap.size + 1 + 1 + 1) (ecellsOf e1.name ds e1.size)) := (Below.refl _ _).setRow (by omega) _
      refine bodyPost_ret (results_cell_row Tryz.results162 _ _ (w.heap.size + 1 + 1 + 1) 130 _ (0, 0) _ rfl (setRow_heap _ _ _ _ _ _ hr3) Tryz.underlying130 rfl (size71 _ _ _ hl)) rfl ⟨grow_then HGW.out hb2, Or.inl ⟨e1, c, ?_, ?_, ?_, hc1⟩⟩
      · rw [HENT.out, HO.out]
      · rw [HDS.out]
      · exact (hb2.block b hbl).trans HSC1.out
    · dsimp only [gaveUp]
      exact ⟨rfl, Gr.after_below HBB.out hg1 (by intro k hk h; rcases h with h | h <;> omega), Or.inr ⟨p, by rw [HENT.out, ho], rfl⟩⟩
  · have hent : entryS t k0 p0 last a = .bad p0 := by
      unfold entryS entryG
      rw [if_neg hk]
    have hcall := object_bad b (w.heap.size + 1 + 1 + 1 + 1 + 1) 202 3 3 #[.pointer (some ⟨w.heap.size, 0, none⟩), .pointer (some ⟨w.heap.size + 1 + 1, 0, none⟩), .pointer (some ⟨w.heap.size + 1 + 1 + 1 + 1, 0, none⟩)] k0 p0 n0 s0 W (fun k => k = b) hk
    simp only [tokV] at hcall
    refine hcall.mono ?_
    rintro e w1 ⟨hg1, rfl⟩
    dsimp only [gaveUp]
    exact ⟨rfl, Gr.after_below HBB.out hg1 (fun k _ h => h), Or.inr ⟨p0, hent, rfl⟩⟩
end Go.Proofs.YteicpbcddjjceaaGreatDoor
