/-
  PROVED HERE: what the program's function entries of the index's reader answers, or at which place it gives up.
-/
import Derived.Test.YteicpbcddjjceaaGreatDoorEntry
namespace Go.Proofs.YteicpbcddjjceaaGreatDoor
open Go.RowKit
def En.ecells (e : En) : List Value := (ecellsOf e.name (rd e.dig) e.size).toList
def entsS (t : ByteArray) (n : Nat) (es : List En) (last : ByteArray) (k p c : Nat) : RS (List En) := entsG (nextS t) n es last k p c
def entriesS (t : ByteArray) (a : Nat) : RS (List En) := entriesG (nextS t) a
section
variable {t last : ByteArray} {n k p c : Nat} {es : List En}
theorem ents_bad {q : Nat} (h : entryS t k p last c = .bad q) : entsS t n es last k p c = .bad q := by
  unfold entsS; rw [entsG.eq_def]; unfold entryS at h; dsimp only; rw [h]
theorem ents_nbad {e : En} {c1 q : Nat} (h : entryS t k p last c = .ok e c1) (h2 : nextS t c1 = .bad q) : entsS t n es last k p c = .bad q := by
  unfold entsS; rw [entsG.eq_def]; unfold entryS at h; dsimp only; rw [h]; dsimp only; rw [h2]
theorem ents_end {e : En} {c1 p2 n2 c2 : Nat} {l2 : List UInt8} (h : entryS t k p last c = .ok e c1) (h2 : nextS t c1 = .tok 93 p2 n2 l2 c2) : entsS t n es last k p c = .ok (es ++ [e]) c2 := by
  unfold entsS; rw [entsG.eq_def]; unfold entryS at h; dsimp only; rw [h]; dsimp only; rw [h2]; dsimp only; rw [if_pos rfl]
theorem ents_no {e : En} {c1 k2 p2 n2 c2 : Nat} {l2 : List UInt8} (h : entryS t k p last c = .ok e c1) (h2 : nextS t c1 = .tok k2 p2 n2 l2 c2) (hk : k2 ≠ 93) (hn : n = 0 ∨ k2 ≠ 44) : entsS t n es last k p c = .bad p2 := by
  unfold entsS; rw [entsG.eq_def]; unfold entryS at h; dsimp only; rw [h]; dsimp only; rw [h2]; dsimp only; rw [if_neg hk]
  cases n with
  | zero => rfl
  | succ m => dsimp only; rw [if_neg (by rcases hn with h | h; omega; exact h)]
theorem ents_gbad {m : Nat} {e : En} {c1 p2 n2 c2 q : Nat} {l2 : List UInt8} (hn : n = m + 1) (h : entryS t k p last c = .ok e c1) (h2 : nextS t c1 = .tok 44 p2 n2 l2 c2) (h3 : nextS t c2 = .bad q) : entsS t n es last k p c = .bad q := by
  subst hn
  unfold entsS; rw [entsG.eq_def]; unfold entryS at h; dsimp only; rw [h]; dsimp only; rw [h2]; dsimp only; rw [if_neg (by decide), if_pos rfl, h3]
theorem ents_go {m : Nat} {e : En} {c1 p2 n2 c2 k3 p3 n3 c3 : Nat} {l2 l3 : List UInt8} (hn : n = m + 1) (h : entryS t k p last c = .ok e c1) (h2 : nextS t c1 = .tok 44 p2 n2 l2 c2) (h3 : nextS t c2 = .tok k3 p3 n3 l3 c3) : entsS t n es last k p c = entsS t m (es ++ [e]) e.name k3 p3 c3 := by
  subst hn
  unfold entsS; rw [entsG.eq_def]; unfold entryS at h; dsimp only; rw [h]; dsimp only; rw [h2]; dsimp only; rw [if_neg (by decide), if_pos rfl, h3]
end
theorem ownsRow_gr {S : Nat → Prop} {base : Nat} {e : TypeId} {size n : Nat} {v : Value} {xs : List Value} {w w' : World} (ho : w.ownsRow base e size v n xs) (hg : Gr S w w') (hS : ∀ k, S k → k < base) : w'.ownsRow base e size v n xs := by
  refine ⟨ho.1, ho.2.imp id ?_⟩
  rintro ⟨g, cap, cur, e1, e2, e3, e4⟩
  exact ⟨g, cap, cur, e1, e2, (hg.block g (lt_heap e3) (fun h => by have := hS g h; omega)).trans e3, e4⟩
theorem Gr.grown {S : Nat → Prop} {w w1 w2 : World} {base : Nat} {e : TypeId} {size n : Nat} {v : Value} {xs : List Value} (h : Gr S w w1) (hg : w1.grownBy w2 v.ownBlock) (ho : w1.ownsRow base e size v n xs) (hB : w.heap.size ≤ base) : Gr S w w2 :=
  ⟨hg.os.trans h.os, hg.tape.trans h.tape, hg.output.trans h.output, Nat.le_trans h.size hg.size, fun k hk hn => (hg.block k (Nat.lt_of_lt_of_le hk h.size) (fun e => by have := (ho.lt k e.symm).1; omega)).trans (h.block k hk hn)⟩
theorem own_ne {base : Nat} {e : TypeId} {size n : Nat} {v : Value} {xs : List Value} {w : World} {g : Nat} {cs : Array Value} {T : TypeId} {fr : Nat × Nat} (ho : w.ownsRow base e size v n xs) (h : w.heap[g]? = some (.cells cs T fr)) (hT : T ≠ e) : v.ownBlock ≠ some g := by
  intro he
  rcases ho.2 with ⟨rfl, _⟩ | ⟨g2, cap, cur, rfl, h2, h3, _⟩
  · cases he
  · have : g2 = g := by cases he; rfl
    subst this
    rw [h] at h3
    cases h3
    exact hT rfl
theorem ownsRow_other {base : Nat} {e : TypeId} {size n : Nat} {v : Value} {xs : List Value} {w w' : World} (ho : w.ownsRow base e size v n xs) (hb : ∀ k, v.ownBlock = some k → w'.heap[k]? = w.heap[k]?) : w'.ownsRow base e size v n xs := by
  refine ⟨ho.1, ho.2.imp id ?_⟩
  rintro ⟨g, cap, cur, e1, e2, e3, e4⟩
  exact ⟨g, cap, cur, e1, e2, (hb g (by rw [e1]; rfl)).trans e3, e4⟩
theorem own_slice {base : Nat} {e : TypeId} {size n : Nat} {v : Value} {xs : List Value} {w : World} (ho : w.ownsRow base e size v n xs) : ∃ oa cap, v = .slice oa n cap := by
  rcases ho.2 with ⟨rfl, rfl⟩ | ⟨g2, cap, cur, rfl, _⟩
  · exact ⟨none, 0, rfl⟩
  · exact ⟨_, cap, rfl⟩
set_option maxHeartbeats 2000000 in
set_option maxRecDepth 100000 in
theorem entries_core (b a : Nat) (t : ByteArray) (w : World) (hs : ScIs w b t a) (ha : a ≤ t.size) (ht : t.size ≤ 2000) :
    Calls Tryz.prog 105 #[.pointer (some ⟨b, 0, none⟩)] w fun e w' => Gr (fun k => k = b) w w' ∧
      ((∃ es c v, entriesS t a = .ok es c ∧ e = .returned v ∧ w'.ownsRow w.heap.size 130 34 v es.length (es.flatMap En.ecells) ∧ es.length ≤ 8 ∧ ScIs w' b t c ∧ c ≤ t.size) ∨ (∃ p, entriesS t a = .bad p ∧ e = gaveUp p)) := by
  have HS := hide hs
  have hbl := lt_heap hs
  clear hs
  obtain ⟨i0, hi, hz0, hz1, hz2⟩ := info_parts Tryz.info130
  have hz71 := (zero_of_info Tryz.info71b).1
  go_enter Tryz.func105, Tryz.ntmps105
  go_wp2_with fail
  refine (mark_core b a 91 t w HS.out ha ht).mono ?_
  rintro e w1 ⟨hg1, (⟨c1, hm1, rfl, hsc1⟩ | ⟨p, hm1, rfl⟩)⟩
  · dsimp only
    have hc1 := markS_far ha hm1
    have G1 := hide (Gr.of_grownBy (S := fun k => k = b) hg1 rfl)
    have SC1 := hide hsc1
    have HM1 := hide hm1
    clear hg1 hsc1 hm1
    go_wp2_with fail
    refine (next_core b c1 t w1 SC1.out hc1 ht).mono ?_
    rintro e w2 ⟨hg2, hc⟩
    cases hnx : nextS t c1 with
    | bad p =>
      rw [hnx] at hc
      have hc2 : e = gaveUp p := hc
      subst hc2
      dsimp only [gaveUp]
      refine ⟨rfl, G1.out.trans (Gr.of_grownBy hg2 rfl), Or.inr ⟨p, ?_, rfl⟩⟩
      have hm := HM1.out
      unfold markS at hm
      unfold entriesS entriesG
      rw [hm]
      dsimp only
      rw [hnx]
    | tok k p n l c =>
      rw [hnx] at hc
      obtain ⟨rfl, hsc2⟩ : e = .returned (tokV k p ((n : Nat) : Int) ⟨l.toArray⟩) ∧ ScIs w2 b t c := hc
      dsimp only [tokV]
      have hc2 := (nextS_far hc1 hnx).1
      have G2 := hide (G1.out.trans (Gr.of_grownBy hg2 rfl))
      have SC2 := hide hsc2
      have hz2w : w.heap.size ≤ w2.heap.size := (G1.out.trans (Gr.of_grownBy hg2 rfl)).size
      have hes : entriesS t a = if k = 93 then .ok [] c else entsS t 7 [] ⟨#[]⟩ k p c := by
        have hm := HM1.out
        unfold markS at hm
        unfold entriesS entriesG entsS
        rw [hm]
        dsimp only
        rw [hnx]
      have HES := hide hes
      clear hg2 hsc2 hnx hes
      generalize (⟨l.toArray⟩ : ByteArray) = txt
      by_cases hk : k = 93
      · subst hk
        go_wp2_with fail
        go_ret
        refine ⟨G2.out.trans (Gr.of_below ((Below.refl _ _).alloc (Nat.le_refl _) _)), Or.inl ⟨[], c, by rw [HES.out]; simp, .slice none 0 0, rfl, World.ownsRow_nil _ _ _ _, by decide, SC2.out.later ((Below.refl _ _).alloc (Nat.le_refl _) _), hc2⟩⟩
      · have hf : ((k : Int) == (93 : Int)) = false := by simp; omega
        have HES2 : Hid (entriesS t a = entsS t 7 [] ⟨#[]⟩ k p c) := by have := HES.out; rwa [if_neg hk] at this
        clear HES
        go_wp2_with fail
        go_loopw [4, 5] (fun v la wr => ∃ (es : List En) (last : ByteArray) (k p : Nat) (n : Int) (s : ByteArray) (c : Nat), v = v ∧ la = .string last ∧ wr.ownsRow w.heap.size 130 34 v es.length (es.flatMap En.ecells) ∧ es.length < 8 ∧ lenOf v = es.length ∧
            wr.heap[w2.heap.size]? = some (.cells #[.int .u8 ((k : Nat) : Int), .int .i64 ((p : Nat) : Int), .int .i64 n, .string s] 185 (0, 0)) ∧ ScIs wr b t c ∧ c ≤ t.size ∧ Gr (fun k => k = b) w wr ∧ entriesS t a = entsS t (7 - es.length) es last k p c)
          (fun v _ _ => 8 - lenOf v)
        case atStart =>
          refine ⟨[], ⟨#[]⟩, k, p, _, txt, c, rfl, rfl, World.ownsRow_nil _ _ _ _, by decide, rfl, heap_alloc_new _ _, SC2.out.later ((Below.refl _ _).alloc (Nat.le_refl _) _), hc2, G2.out.trans (Gr.of_below ((Below.refl _ _).alloc (Nat.le_refl _) _)), HES2.out⟩
        case round =>
          clear hk hf HES2 SC2 G2 hc2 SC1 G1 HM1 hc1
          obtain ⟨es, last, k, p, n, s, c, -, rfl, hown, hlt, hlen, htok, hsc, hc, hgr, he⟩ := hrel
          have htl := lt_heap htok
          have hzz := hgr.size
          have OWN := hide hown
          have TOK := hide htok
          have SC := hide hsc
          have GR := hide hgr
          have HE := hide he
          have LEN := hide hlen
          have t0 : wr.cell? ⟨w2.heap.size, 0, none⟩ = some (.int .u8 ((k : Nat) : Int)) := cell_of_row wr _ 0 _ _ _ htok
          have t1 : wr.cell? ⟨w2.heap.size, 1, none⟩ = some (.int .i64 ((p : Nat) : Int)) := cell_of_row wr _ 1 _ _ _ htok
          have t2 : wr.cell? ⟨w2.heap.size, 2, none⟩ = some (.int .i64 n) := cell_of_row wr _ 2 _ _ _ htok
          have t3 : wr.cell? ⟨w2.heap.size, 3, none⟩ = some (.string s) := cell_of_row wr _ 3 _ _ _ htok
          clear hown htok hsc hgr he hlen
          go_wp2_with fail
          refine (entry_core b c k p n s t last wr SC.out hc ht).mono ?_
          rintro e w3 ⟨hg3, (⟨e1, c3, he3, rfl, hsc3, hc3⟩ | ⟨q, he3, rfl⟩)⟩
          · dsimp only
            have hdl := rd_len e1.dig
            have hOw := ownsRow_gr OWN.out hg3 (fun k hk => by subst hk; exact hbl)
            have htk3 := (hg3.block _ htl (fun h => by omega)).trans TOK.out
            have GR3 := hide (GR.out.trans hg3)
            have hz3 := hg3.size
            have SC3 := hide hsc3
            have HE3 := hide he3
            have OWN3 := hide hOw
            have TOK3 := hide htk3
            clear hg3 hsc3 he3 hOw htk3 t0 t1 t2 t3 OWN TOK SC GR
            have hecs : En.ecells e1 = (ecellsOf e1.name (rd e1.dig) e1.size).toList := rfl
            have HECS := hide hecs
            clear hecs
            generalize hds : rd e1.dig = ds at hdl HECS
            have HDS := hide hds
            clear hds
            have hE4 := heap_alloc_new w3 (.cells (ecellsOf e1.name ds e1.size) 130 (0, 0))
            have OWN4 := hide ((OWN3.out.alloc (.cells (ecellsOf e1.name ds e1.size) 130 (0, 0))).alloc (.cells (ecellsOf e1.name ds e1.size) 130 (0, 0)))
            have HE5 := hide (row_cells (heap_alloc_new (w3.alloc (.cells (ecellsOf e1.name ds e1.size) 130 (0, 0))) (.cells (ecellsOf e1.name ds e1.size) 130 (0, 0))))
            go_wp2_with (first | (refine wpList_store_row rfl 130 _ _ rfl w3.heap.size _ rfl rfl 130 _ (heap_alloc_new _ _) (size71 _ _ _ hdl) (by rw [ecellsOf_size _ _ _ hdl, ecellsOf_size _ _ _ (Sha.zeros_len 32)]) (by rw [Array.all_eq_true_iff_forall_mem]; intro u hu; exact ecellsOf_one _ _ _ u (by simpa using hu)) ?_; rw [World.setRow_alloc_new]) | (refine wpList_load_row rfl 130 _ rfl w3.heap.size rfl 130 _ _ _ hE4 Tryz.underlying130 rfl (size71 _ _ _ hdl) ?_) | (refine wpList_slice47 rfl _ rfl e1.name ds e1.size hdl rfl ?_) | (refine wpList_append_own _ rfl _ _ 78 rfl w.heap.size 130 i0 _ 34 56 Tryz.underlying78 hi hz0 hz1 hz2 (ecellsOf_size _ _ _ (Sha.zeros_len _)) (by decide) _ es.length _ rfl OWN4.out _ 1 1 (ecellsOf e1.name ds e1.size).toList rfl (by rw [Array.length_toList, ecellsOf_size _ _ _ hdl]) HE5.out (ecellsOf_one _ _ _) (by unfold maxLen; omega) (by omega) (by simp; omega) ?_; rintro v2 w5 hv2 hg5 _; have t4 : w5.cell? ⟨w3.heap.size, 0, none⟩ = some (.string e1.name) := cell_of_row w5 w3.heap.size 0 _ _ _ (grown_keeps hg5 ((Below.heap_alloc (w3.alloc (.cells (ecellsOf e1.name ds e1.size) 130 (0, 0))) _ _ (by rw [size_alloc]; omega)).trans hE4) (fun e => by have := (OWN3.out.lt _ e).2; omega)); have OWN5 := hide hv2; have GG5 := hide hg5; clear hv2 hg5))
            have hG5 : Gr (fun k => k = b) w w5 := ((GR3.out.trans (Gr.of_below ((Below.refl _ _).alloc (Nat.le_refl _) _))).trans (Gr.of_below ((Below.refl _ _).alloc (Nat.le_refl _) _))).grown GG5.out OWN4.out (Nat.le_refl _)
            have hne5 : ∀ k, k < w.heap.size → Value.ownBlock u4 ≠ some k := fun k hk e => by have := (OWN3.out.lt _ e).1; omega
            have hsc5 : ScIs w5 b t c3 := (GG5.out.block b (by simp only [size_alloc]; omega) (fun e => hne5 b hbl e.symm)).trans ((SC3.out.later ((Below.refl _ _).alloc (Nat.le_refl _) _)).later ((Below.refl _ _).alloc (Nat.le_refl _) _))
            have htk5 := (GG5.out.block w2.heap.size (by simp only [size_alloc]; omega) (fun e => own_ne OWN3.out TOK3.out (by decide) e.symm)).trans ((Below.heap_alloc _ _ _ (by simp only [size_alloc]; omega)).trans ((Below.heap_alloc _ _ _ (by omega)).trans TOK3.out))
            have hz5 := GG5.out.size
            simp only [size_alloc] at hz5
            have SC5 := hide hsc5
            have G5 := hide hG5
            have TOK5 := hide htk5
            have hown5 : w5.ownsRow w.heap.size 130 34 v2 (es ++ [e1]).length ((es ++ [e1]).flatMap En.ecells) := by
              have h := OWN5.out
              rw [List.flatMap_append, List.length_append, List.flatMap_cons, List.flatMap_nil, List.append_nil, HECS.out]
              exact h
            have hel : (es ++ [e1]).length = es.length + 1 := by simp
            rw [hel] at hown5
            obtain ⟨oa, cap, rfl⟩ := own_slice hown5
            have OW5 := hide hown5
            clear hsc5 hG5 htk5 hown5 OWN5 GG5 OWN4 HE5 hE4 OWN3 TOK3 SC3 GR3 t4 hne5
            refine (next_core b c3 t w5 SC5.out hc3 ht).mono ?_
            rintro e w6 ⟨hg6, hc6⟩
            cases hnx : nextS t c3 with
            | bad q =>
              rw [hnx] at hc6
              have hc7 : e = gaveUp q := hc6
              subst hc7
              dsimp only [gaveUp]
              exact ⟨rfl, G5.out.trans (Gr.of_grownBy hg6 rfl), Or.inr ⟨q, by rw [HE.out]; exact ents_nbad HE3.out hnx, rfl⟩⟩
            | tok k2 p2 n2 l2 c2 =>
              rw [hnx] at hc6
              obtain ⟨rfl, hsc6⟩ : e = .returned (tokV k2 p2 ((n2 : Nat) : Int) ⟨l2.toArray⟩) ∧ ScIs w6 b t c2 := hc6
              dsimp only [tokV]
              have hc2 := (nextS_far hc3 hnx).1
              have G6 := hide (G5.out.trans (Gr.of_grownBy hg6 rfl))
              have SC6 := hide hsc6
              have HNX := hide hnx
              have OW6 := hide (ownsRow_gr OW5.out (Gr.of_grownBy (S := fun k => k = b) hg6 rfl) (fun k hk => by subst hk; exact hbl))
              have TOK6 := hide ((hg6.block _ (by omega) (fun e => by cases e; omega)).trans TOK5.out)
              have hz6 := hg6.size
              clear hg6 hsc6 hnx OW5 TOK5 G5 SC5
              generalize (⟨l2.toArray⟩ : ByteArray) = txt2
              have HEL := hide hel
              clear hel
              by_cases hk2 : k2 = 93
              · subst hk2
                go_wp2_with fail
                go_ret
                refine ⟨G6.out.trans (Gr.of_below ((Below.refl _ _).alloc (Nat.le_refl _) _)), Or.inl ⟨es ++ [e1], c2, _, by rw [HE.out]; exact ents_end HE3.out HNX.out, rfl, by rw [HEL.out]; exact OW6.out.alloc _, by have := HEL.out; omega, SC6.out.later ((Below.refl _ _).alloc (Nat.le_refl _) _), hc2⟩⟩
              · have hf2 : ((k2 : Int) == (93 : Int)) = false := by simp; omega
                by_cases hgo : k2 = 44 ∧ es.length + 1 < 8
                · obtain ⟨rfl, hl8⟩ := hgo
                  have hl8b : decide ((es.length : Int) + 1 < 8) = true := by simp; omega
                  go_wp2_with fail
                  refine (must_ok _ _ _ _ _).mono ?_
                  rintro e w7 ⟨rfl, hm7⟩
                  dsimp only
                  have hb7 : Below w6.heap.size w6 w7 := ((Below.refl _ _).alloc (Nat.le_refl _) _).trans (hm7.mono (by simp))
                  have SC7 := hide (SC6.out.later hb7)
                  have G7 := hide (G6.out.trans (Gr.of_below hb7))
                  have OW7 := hide (ownsRow_gr OW6.out (Gr.of_below (S := fun k => k = b) hb7) (fun k hk => by subst hk; exact hbl))
                  have TOK7 := hide ((hb7.block _ (by omega)).trans TOK6.out)
                  have hz7 := hb7.size
                  clear hb7 hm7 SC6 G6 OW6 TOK6
                  go_wp2_with fail
                  refine (next_core b c2 t w7 SC7.out hc2 ht).mono ?_
                  rintro e w8 ⟨hg8, hc8⟩
                  cases hnx8 : nextS t c2 with
                  | bad q =>
                    rw [hnx8] at hc8
                    have hc9 : e = gaveUp q := hc8
                    subst hc9
                    dsimp only [gaveUp]
                    exact ⟨rfl, G7.out.trans (Gr.of_grownBy hg8 rfl), Or.inr ⟨q, by rw [HE.out]; exact ents_gbad (m := 6 - es.length) (by omega) HE3.out HNX.out hnx8, rfl⟩⟩
                  | tok k3 p3 n3 l3 c4 =>
                    rw [hnx8] at hc8
                    obtain ⟨rfl, hsc8⟩ : e = .returned (tokV k3 p3 ((n3 : Nat) : Int) ⟨l3.toArray⟩) ∧ ScIs w8 b t c4 := hc8
                    dsimp only [tokV]
                    have hc4 := (nextS_far hc2 hnx8).1
                    have HE8 : Hid (entriesS t a = entsS t (7 - (es ++ [e1]).length) (es ++ [e1]) e1.name k3 p3 c4) := by
                      have h := HE.out
                      rw [ents_go (m := 6 - es.length) (by omega) HE3.out HNX.out hnx8] at h
                      rw [HEL.out, show 7 - (es.length + 1) = 6 - es.length by omega]
                      exact h
                    have G8 := hide (G7.out.trans (Gr.of_grownBy hg8 rfl))
                    have SC8 := hide hsc8
                    have OW8 := hide (ownsRow_gr OW7.out (Gr.of_grownBy (S := fun k => k = b) hg8 rfl) (fun k hk => by subst hk; exact hbl))
                    have htk8 := (hg8.block _ (by omega) (fun e => by cases e; omega)).trans TOK7.out
                    have hz8 := hg8.size
                    have f0 := fun j => frozen_of_row w8 w2.heap.size j _ _ htk8
                    have q0 : w8.cell? ⟨w2.heap.size, 0, none⟩ = some (.int .u8 ((k : Nat) : Int)) := cell_of_row w8 _ 0 _ _ _ htk8
                    have q1 : w8.cell? ⟨w2.heap.size, 1, none⟩ = some (.int .i64 ((p : Nat) : Int)) := cell_of_row w8 _ 1 _ _ _ htk8
                    have q2 : w8.cell? ⟨w2.heap.size, 2, none⟩ = some (.int .i64 n) := cell_of_row w8 _ 2 _ _ _ htk8
                    have q3 : w8.cell? ⟨w2.heap.size, 3, none⟩ = some (.string s) := cell_of_row w8 _ 3 _ _ _ htk8
                    have TOK8 := hide htk8
                    clear hg8 hsc8 hnx8 HNX HE HE3 G7 SC7 OW7 TOK7 htk8
                    generalize (⟨l3.toArray⟩ : ByteArray) = txt3
                    go_wp2_with fail
                    go_roundw
                    case rel =>
                      have hB := below_set4 w8 hz2w (.int .u8 ((k3 : Nat) : Int)) (.int .i64 ((p3 : Nat) : Int)) (.int .i64 ((n3 : Nat) : Int)) (.string txt3)
                      refine ⟨es ++ [e1], e1.name, k3, p3, _, txt3, c4, trivial, rfl, ?_, by have := HEL.out; omega, by rw [HEL.out]; rfl, set4 _ _ _ _ TOK8.out, (hB.block b hbl).trans SC8.out, hc4, grow_then G8.out hB, HE8.out⟩
                      rw [HEL.out]
                      refine ownsRow_other OW8.out fun k hk => ?_
                      have hne : k ≠ w2.heap.size := fun e => own_ne OW8.out TOK8.out (by decide) (e ▸ hk)
                      rw [heap_setCell_other _ _ _ _ hne, heap_setCell_other _ _ _ _ hne, heap_setCell_other _ _ _ _ hne, heap_setCell_other _ _ _ _ hne]
                    case measure =>
                      show 8 - (es.length + 1) < 8 - lenOf u4
                      rw [LEN.out]
                      omega
                · have hcond : (k2 = 44 ∧ decide ((es.length : Int) + 1 < 8) = false) ∨ ((k2 : Int) == (44 : Int)) = false := by
                    by_cases h44 : k2 = 44
                    · left; exact ⟨h44, by simp; omega⟩
                    · right; simp; omega
                  have hno : 7 - es.length = 0 ∨ k2 ≠ 44 := by omega
                  have HNO := hide hno
                  clear hgo hno
                  rcases hcond with ⟨rfl, hl8b⟩ | hf4
                  · go_wp2_with fail
                    refine (must_bad _ _ _ _ _).mono ?_
                    rintro e w7 ⟨rfl, hm7⟩
                    dsimp only [gaveUp]
                    exact ⟨rfl, (G6.out.trans (Gr.of_below ((Below.refl _ _).alloc (Nat.le_refl _) _))).trans (Gr.of_below hm7), Or.inr ⟨p2, by rw [HE.out]; exact ents_no HE3.out HNX.out (by decide) HNO.out, rfl⟩⟩
                  · have HK2 := hide hk2
                    go_wp2_with fail
                    refine (must_bad _ _ _ _ _).mono ?_
                    rintro e w7 ⟨rfl, hm7⟩
                    dsimp only [gaveUp]
                    exact ⟨rfl, (G6.out.trans (Gr.of_below ((Below.refl _ _).alloc (Nat.le_refl _) _))).trans (Gr.of_below hm7), Or.inr ⟨p2, by rw [HE.out]; exact ents_no HE3.out HNX.out HK2.out HNO.out, rfl⟩⟩
          · dsimp only [gaveUp]
            exact ⟨rfl, GR.out.trans hg3, Or.inr ⟨q, by rw [HE.out]; exact ents_bad he3, rfl⟩⟩
  · dsimp only [gaveUp]
    refine ⟨rfl, Gr.of_grownBy hg1 rfl, Or.inr ⟨p, ?_, rfl⟩⟩
    unfold markS at hm1
    unfold entriesS entriesG
    rw [hm1]
end Go.Proofs.YteicpbcddjjceaaGreatDoor

/-
  PROVED HERE: what the function value that reads an index's member does.
-/
namespace Go.Proofs.YteicpbcddjjceaaGreatDoor
open Go.RowKit
def topS (t x : ByteArray) (es : List En) (a : Nat) : RS (List En) := topG (nextS t) x es a
def TopAt (bs bn b B : Nat) (es : List En) (w : World) : Prop :=
  w.heap[bs]? = some (.cells #[.pointer (some ⟨b, 0, none⟩)] 180 (0, 0)) ∧ es.length ≤ 8 ∧ ∃ v, w.heap[bn]? = some (.cells #[v] 78 (0, 0)) ∧ w.ownsRow B 130 34 v es.length (es.flatMap En.ecells)
theorem own_mono {B base : Nat} {e : TypeId} {size n : Nat} {v : Value} {xs : List Value} {w : World} (ho : w.ownsRow base e size v n xs) (hB : B ≤ base) : w.ownsRow B e size v n xs :=
  ⟨ho.1, ho.2.imp id fun ⟨g, cap, cur, e1, e2, e3⟩ => ⟨g, cap, cur, e1, Nat.le_trans hB e2, e3⟩⟩
theorem TopAt.later {bs bn b B : Nat} {es : List En} {w w' : World} {S : Nat → Prop} (h : TopAt bs bn b B es w) (hg : Gr S w w') (h1 : ¬ S bs) (h2 : ¬ S bn) (h3 : ∀ k cur, S k → B ≤ k → w.heap[k]? ≠ some (.cells cur 130 (0, 0))) : TopAt bs bn b B es w' := by
  obtain ⟨a1, a2, v, a3, a4⟩ := h
  refine ⟨(hg.block _ (lt_heap a1) h1).trans a1, a2, v, (hg.block _ (lt_heap a3) h2).trans a3, ownsRow_other a4 fun k hk => ?_⟩
  rcases a4.2 with ⟨rfl, _⟩ | ⟨g, cap, cur, rfl, e2, e3, _⟩
  · cases hk
  · cases hk
    exact hg.block g (lt_heap e3) fun hS => h3 g cur hS e2 e3
set_option maxHeartbeats 1000000 in
set_option maxRecDepth 100000 in
theorem topC_any (bs bn b a B : Nat) (t x : ByteArray) (es : List En) (w : World) (hne : b ≠ bn ∧ bs ≠ bn ∧ bs ≠ b) (hBw : B ≤ w.heap.size) (hs : ScIs w b t a) (ha : a ≤ t.size) (ht : t.size ≤ 2000) (hE : TopAt bs bn b B es w) :
    Calls Tryz.prog 103 #[.string x, .pointer (some ⟨bs, 0, none⟩), .pointer (some ⟨bn, 0, none⟩)] w fun e w' => Gr (fun k => k = b ∨ k = bn) w w' ∧
      ((∃ es1 c, topS t x es a = .ok es1 c ∧ e = .returned (.tuple #[]) ∧ ScIs w' b t c ∧ c ≤ t.size ∧ TopAt bs bn b B es1 w') ∨ (∃ p, topS t x es a = .bad p ∧ e = gaveUp p)) := by
  have HS := hide hs
  have HE := hide hE
  have c1 := cell_of_row w bs 0 _ _ _ hE.1
  have hbl := lt_heap hs
  have hsc2 : ∀ k cur, k = b → w.heap[k]? ≠ some (.cells cur 130 (0, 0)) := by
    intro k cur hk h
    subst hk
    rw [hs] at h
    cases h
  have HSC2 := hide hsc2
  clear hs hE hsc2
  by_cases h1 : x = sVersion
  · subst h1
    have hent : topS t sVersion es a = (match versionS t a with | .ok _ c => .ok es c | .bad p => .bad p) := by unfold topS topG; rw [if_pos rfl]; unfold versionS; cases versionG (nextS t) a <;> rfl
    unfold sVersion at hent ⊢
    have HENT := hide hent
    clear hent
    go_enter Tryz.func103, Tryz.ntmps103
    go_wp2_with fail
    refine (version_core b a t w HS.out ha ht).mono ?_
    rintro e w1 ⟨hg1, (⟨c, hm1, rfl, hsc1⟩ | ⟨p, hm1, rfl⟩)⟩
    · dsimp only
      have hE1 : TopAt bs bn b B es w1 := HE.out.later (S := fun k => k = b) (Gr.of_grownBy hg1 rfl) hne.2.2 (fun e => hne.1 e.symm) (fun k cur hk _ => HSC2.out k cur hk)
      have hfar : c ≤ t.size := by
        unfold versionS versionG at hm1
        cases hn : nextS t a with
        | bad p => rw [hn] at hm1; cases hm1
        | tok k p n l c' =>
          rw [hn] at hm1
          dsimp only at hm1
          split at hm1
          · cases hm1; exact (nextS_far ha hn).1
          · cases hm1
      have HM1 := hide hm1
      clear hm1
      go_wp2_with fail
      (try simp only [Exit.inBlock, Exit.then])
      go_end0
      exact ⟨Gr.of_grownBy hg1 (Or.inl rfl), Or.inl ⟨es, c, by rw [HENT.out, HM1.out], rfl, hsc1, hfar, hE1⟩⟩
    · dsimp only [gaveUp]
      exact ⟨rfl, Gr.of_grownBy hg1 (Or.inl rfl), Or.inr ⟨p, by rw [HENT.out, hm1], rfl⟩⟩
  · by_cases h2 : x = sTags
    · subst h2
      have hent : topS t sTags es a = entriesS t a := by unfold topS topG entriesS; rw [if_neg (by decide), if_pos rfl]
      unfold sTags at hent ⊢
      have HENT := hide hent
      clear hent h1
      go_enter Tryz.func103, Tryz.ntmps103
      go_wp2_with fail
      refine (entries_core b a t w HS.out ha ht).mono ?_
      rintro e w1 ⟨hg1, (⟨es1, c, v1, hm1, rfl, hown, hl8, hsc1, hc1⟩ | ⟨p, hm1, rfl⟩)⟩
      · dsimp only
        obtain ⟨oa, cap, rfl⟩ := own_slice hown
        obtain ⟨a1, a2, v0, a3, a4⟩ := HE.out
        have hbn : w1.heap[bn]? = some (.cells #[v0] 78 (0, 0)) := (hg1.block _ (lt_heap a3) (fun e => hne.1 e.symm)).trans a3
        have hbs : w1.heap[bs]? = some (.cells #[.pointer (some ⟨b, 0, none⟩)] 180 (0, 0)) := (hg1.block _ (lt_heap a1) hne.2.2).trans a1
        have c2 := cell_of_row w1 bn 0 _ _ _ hbn
        have f2 := frozen_of_row w1 bn 0 _ _ hbn
        have HBN := hide hbn
        have HBS := hide hbs
        have HOWN := hide hown
        have HG1 := hide hg1
        have HSC1 := hide hsc1
        have HM1 := hide hm1
        clear hbn hbs hown hg1 hsc1 hm1 a1 a2 a3 a4
        go_wp2_with fail
        (try simp only [Exit.inBlock, Exit.then])
        go_end0
        have hrow := row_store (i := 0) (.slice oa es1.length cap) HBN.out
        refine ⟨(HG1.out.mono (fun k _ h => Or.inl h)).trans (Gr.of_grownBy (grownBy_set w1 bn 0 _) (Or.inr rfl)), Or.inl ⟨es1, c, by rw [HENT.out, HM1.out], rfl, ?_, hc1, ?_, hl8, .slice oa es1.length cap, hrow, ?_⟩⟩
        · exact (heap_setCell_other _ _ _ _ hne.1).trans HSC1.out
        · exact (heap_setCell_other _ _ _ _ hne.2.1).trans HBS.out
        · refine own_mono (ownsRow_other HOWN.out fun k hk => ?_) hBw
          exact heap_setCell_other _ _ _ _ (fun e => own_ne HOWN.out HBN.out (by decide) (by rw [hk]; exact congrArg some e))
      · dsimp only [gaveUp]
        exact ⟨rfl, hg1.mono (fun k _ h => Or.inl h), Or.inr ⟨p, by rw [HENT.out, hm1], rfl⟩⟩
    · have hent : topS t x es a = .ok es a := by unfold topS topG; rw [if_neg h1, if_neg h2]
      have HENT := hide hent
      have q1 : (x.toList == [118, 101, 114, 115, 105, 111, 110]) = false := by rw [beq_eq_false_iff_ne]; intro e; exact h1 ((toList_inj x sVersion).1 (e.trans (by decide +kernel)))
      have q2 : (x.toList == [116, 97, 103, 115]) = false := by rw [beq_eq_false_iff_ne]; intro e; exact h2 ((toList_inj x sTags).1 (e.trans (by decide +kernel)))
      clear hent h1 h2
      go_enter Tryz.func103, Tryz.ntmps103
      go_wp2_with fail
      (try simp only [Exit.inBlock, Exit.then])
      go_end0
      exact ⟨Gr.refl _ _, Or.inl ⟨es, a, HENT.out, rfl, HS.out, ha, HE.out⟩⟩
end Go.Proofs.YteicpbcddjjceaaGreatDoor
