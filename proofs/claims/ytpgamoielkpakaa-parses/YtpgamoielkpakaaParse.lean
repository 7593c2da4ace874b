/-
  PROVED HERE: what the program's Parse answers for every text: the index, or the error and the place.
-/
import Derived.Test.YtpgamoielkpakaaTagsOf
namespace Go.Proofs.Ytpgamoielkpakaa
open Go.RowKit
def En.tg (e : En) : Tg := ⟨e.name, e.dig, e.size⟩
theorem ecells_tg (es : List En) : es.flatMap En.ecells = (es.map En.tg).flatMap Tg.ecells := by
  induction es with
  | nil => rfl
  | cons e es ih => rw [List.flatMap_cons, List.map_cons, List.flatMap_cons, ih]; rfl
set_option maxHeartbeats 1000000 in
set_option maxRecDepth 100000 in
theorem parseC_any (bt bn : Nat) (t : ByteArray) (w : World) (h0 : w.heap[bt]? = some (.cells #[.string t] 9 (0, 0))) (h1 : w.heap[bn]? = some (.cells #[.slice none 0 0] 36 (0, 0))) (ht : t.size ≤ 2000) :
    Calls Try.prog 10 #[.pointer (some ⟨bt, 0, none⟩), .pointer (some ⟨bn, 0, none⟩)] w fun e w' => Gr (fun k => k = bn) w w' ∧
      ((∃ es c v, readS t = .ok es c ∧ e = .returned (.tuple #[]) ∧ w'.heap[bn]? = some (.cells #[v] 36 (0, 0)) ∧ w'.ownsRow w.heap.size 76 34 v es.length (es.flatMap En.ecells) ∧ es.length ≤ 8) ∨
       (∃ p, readS t = .bad p ∧ e = gaveUp p ∧ w'.heap[bn]? = some (.cells #[.slice none 0 0] 36 (0, 0)))) := by
  have c0 := cell_of_row w bt 0 _ _ _ h0
  have hl := lt_heap h1
  have H1 := hide h1
  clear h0 h1
  go_enter Try.func10, Try.ntmps10
  go_wp2_with fail
  refine (readI_core t w ht).mono ?_
  rintro e w1 ⟨hb1, (⟨es, c, v, hm1, rfl, hown, hl8⟩ | ⟨p, hm1, rfl⟩)⟩
  · dsimp only
    obtain ⟨oa, cap, rfl⟩ := own_slice hown
    have hbn := (hb1.block bn hl).trans H1.out
    have c2 := cell_of_row w1 bn 0 _ _ _ hbn
    have f2 := frozen_of_row w1 bn 0 _ _ hbn
    have HBN := hide hbn
    have HOWN := hide hown
    have HM1 := hide hm1
    clear hbn hown hm1
    go_wp2_with fail
    go_end0
    refine ⟨(Gr.of_below hb1).trans (Gr.of_grownBy (grownBy_set w1 bn 0 _) rfl), Or.inl ⟨es, c, _, HM1.out, rfl, row_store (i := 0) _ HBN.out, ownsRow_other HOWN.out fun k hk => ?_, hl8⟩⟩
    exact heap_setCell_other _ _ _ _ (fun e => own_ne HOWN.out HBN.out (by decide) (by rw [hk]; exact congrArg some e))
  · dsimp only [gaveUp]
    exact ⟨rfl, Gr.of_below hb1, Or.inr ⟨p, hm1, rfl, (hb1.block bn hl).trans H1.out⟩⟩
set_option maxHeartbeats 1000000 in
set_option maxRecDepth 100000 in
theorem parse_long (t : ByteArray) (w : World) (ht : ¬ t.size ≤ 2000) :
    Calls Try.prog 4 #[.string t] w fun e w' => Below w.heap.size w w' ∧ e = .returned (.tuple #[.slice none 0 0, .int .i64 6, .int .i64 0]) := by
  have h1 : 2000 < (t.size : Int) := by omega
  go_enter Try.func4, Try.ntmps4
  go_wp2
  go_ret3
  exact ⟨(Below.refl _ _).alloc (Nat.le_refl _) _, rfl⟩
theorem allocs2 (w W : World) (o0 o1 : Obj) (hW : W = (w.alloc o0).alloc o1) : W.heap.size = w.heap.size + 2 ∧ W.heap[w.heap.size]? = some o0 ∧ W.heap[w.heap.size + 1]? = some o1 ∧ Below w.heap.size w W := by
  subst hW
  refine ⟨by simp, (Below.heap_alloc _ _ _ (by simp)).trans (heap_alloc_new _ _), ?_, ((Below.refl _ _).alloc (Nat.le_refl _) _).alloc (by simp) _⟩
  have h := heap_alloc_new (w.alloc o0) o1
  simp only [size_alloc] at h
  exact h
/-- Two cells far from a row are set. -/
theorem own_set2 {base : Nat} {e : TypeId} {size n : Nat} {v : Value} {xs : List Value} {w : World} (ho : w.ownsRow base e size v n xs) (g h : Nat) (hg : g < base) (hh : h < base) (x y : Value) : ((w.setCell ⟨g, 0, none⟩ x).setCell ⟨h, 0, none⟩ y).ownsRow base e size v n xs :=
  ownsRow_other ho fun k hk => by
    have := (ho.lt k hk).1
    rw [heap_setCell_other _ _ _ _ (show k ≠ h by omega), heap_setCell_other _ _ _ _ (show k ≠ g by omega)]
theorem below_set2 {B g h : Nat} {w W : World} (hb : Below B w W) (hg : B ≤ g) (hh : B ≤ h) (x y : Value) : Below B w ((W.setCell ⟨g, 0, none⟩ x).setCell ⟨h, 0, none⟩ y) :=
  (hb.setCell (p := ⟨g, 0, none⟩) hg x).setCell (p := ⟨h, 0, none⟩) hh y
set_option maxHeartbeats 2000000 in
set_option maxRecDepth 100000 in
theorem parse_any (t : ByteArray) (w : World) (ht : t.size ≤ 2000) :
    Calls Try.prog 4 #[.string t] w fun e w' => Below w.heap.size w w' ∧ ∃ v,
      ((∃ es c, readS t = .ok es c ∧ e = .returned (.tuple #[v, .int .i64 0, .int .i64 0]) ∧ w'.ownsRow w.heap.size 55 3 v es.length (((es.map En.tg).map Tg.told).flatMap Tg.cells) ∧ es.length ≤ 8) ∨
       (∃ p, readS t = .bad p ∧ e = .returned (.tuple #[v, .int .i64 7, .int .i64 ((p : Nat) : Int)]) ∧ w'.ownsRow w.heap.size 55 3 v 0 [])) := by
  have h1 : ¬ 2000 < (t.size : Int) := by omega
  have hmf : ∀ (fn : Fn) (first cap : Array Value) (w : World), (Instr.makeFunc fn first cap).run Try.prog w = .ok (.func fn first cap) w := fun _ _ _ _ => rfl
  go_enter Try.func4, Try.ntmps4
  go_wp2_with fail
  obtain ⟨W0, hW0⟩ : ∃ W0, W0 = (w.alloc (.cells #[.string t] 9)).alloc (.cells #[.slice none 0 0] 36) := ⟨_, rfl⟩
  rw [← hW0]
  obtain ⟨hz, r0, r1, hB⟩ := allocs2 _ _ _ _ hW0
  clear hW0
  have hz2 : w.heap.size + 2 ≤ W0.heap.size := by omega
  clear hz
  have hcall := reading_any 10 #[.pointer (some ⟨w.heap.size, 0, none⟩), .pointer (some ⟨w.heap.size + 1, 0, none⟩)] W0
    (fun W => ∃ es c v, readS t = .ok es c ∧ W.heap[w.heap.size + 1]? = some (.cells #[v] 36 (0, 0)) ∧ W.ownsRow (W0.heap.size + 2) 76 34 v es.length (es.flatMap En.ecells) ∧ es.length ≤ 8 ∧ Gr (fun k => k = w.heap.size + 1) W0 W)
    (fun p W => readS t = .bad p ∧ W.heap[w.heap.size + 1]? = some (.cells #[.slice none 0 0] 36 (0, 0)) ∧ Gr (fun k => k = w.heap.size + 1) W0 W)
    (enters_of Try.func10 (by kernel_rfl) rfl) (by
      obtain ⟨W2, hW2⟩ : ∃ W2, W2 = (W0.alloc (.cells #[.int .i64 0] 23)).alloc (.cells #[.int .i64 0] 3) := ⟨_, rfl⟩
      rw [← hW2]
      obtain ⟨hy, q0, q1, hB2⟩ := allocs2 _ _ _ _ hW2
      refine (parseC_any w.heap.size (w.heap.size + 1) t W2 ((hB2.block _ (by omega)).trans r0) ((hB2.block _ (by omega)).trans r1) ht).mono ?_
      rintro e W ⟨hg, h⟩
      refine ⟨⟨(hg.block _ (by omega) (by omega)).trans q0, (hg.block _ (by omega) (by omega)).trans q1⟩, ?_⟩
      have hgw := Gr.after_below hB2 hg (S := fun k => k = w.heap.size + 1) (fun k _ h => h)
      rcases h with ⟨es, c, v, a1, a2, a3, a4, a5⟩ | ⟨p, a1, a2, a3⟩
      · exact Or.inl ⟨a2, es, c, v, a1, a3, by rw [hy] at a4; exact a4, a5, hgw⟩
      · exact Or.inr ⟨p, a2, a1, a3, hgw⟩)
  refine hcall.mono ?_
  clear hcall r0 r1
  rintro e w' (⟨W, ⟨es, c, v, a1, a3, a4, a5, a6⟩, rfl, rfl⟩ | ⟨p, W, ⟨a1, a3, a6⟩, rfl, rfl⟩)
  · dsimp only
    obtain ⟨oa, cap, rfl⟩ := own_slice a4
    have hbW : Below w.heap.size w ((W.setCell ⟨W0.heap.size, 0, none⟩ (.int .i64 0)).setCell ⟨W0.heap.size + 1, 0, none⟩ (.int .i64 0)) := below_set2 (below_two hB a6 (by intro k hk; omega)) (by omega) (by omega) _ _
    have hown := own_set2 a4 W0.heap.size (W0.heap.size + 1) (by omega) (by omega) (.int .i64 0) (.int .i64 0)
    have hrow : ((W.setCell ⟨W0.heap.size, 0, none⟩ (.int .i64 0)).setCell ⟨W0.heap.size + 1, 0, none⟩ (.int .i64 0)).heap[w.heap.size + 1]? = some (.cells #[.slice oa es.length cap] 36 (0, 0)) := by
      rw [heap_setCell_other _ _ _ _ (by show w.heap.size + 1 ≠ W0.heap.size + 1; omega), heap_setCell_other _ _ _ _ (by show w.heap.size + 1 ≠ W0.heap.size; omega)]
      exact a3
    generalize (W.setCell ⟨W0.heap.size, 0, none⟩ (.int .i64 0)).setCell ⟨W0.heap.size + 1, 0, none⟩ (.int .i64 0) = W5 at hbW hown hrow ⊢
    have c1 := cell_of_row W5 _ 0 _ _ _ hrow
    have HOWN := hide hown
    have HBW := hide hbW
    have HA1 := hide a1
    clear hown hbW hrow a1 a3 a4 a6 hB
    go_wp2_with fail
    rw [ecells_tg] at HOWN
    refine (tagsOf_core _ (es.map En.tg) W5 es.length (by simp) a5 _ HOWN.out).mono ?_
    rintro e w7 ⟨hb7, v', rfl, hown7⟩
    dsimp only
    have HB7 := hide (HBW.out.trans (hb7.mono HBW.out.size))
    have HO7 := hide (own_mono hown7 HBW.out.size)
    clear hb7 hown7
    go_wp2_with fail
    go_ret3
    exact ⟨HB7.out, v', Or.inl ⟨es, c, HA1.out, rfl, HO7.out, a5⟩⟩
  · dsimp only
    have hbW : Below w.heap.size w ((W.setCell ⟨W0.heap.size, 0, none⟩ (.int .i64 7)).setCell ⟨W0.heap.size + 1, 0, none⟩ (.int .i64 ((p : Nat) : Int))) := below_set2 (below_two hB a6 (by intro k hk; omega)) (by omega) (by omega) _ _
    have hrow : ((W.setCell ⟨W0.heap.size, 0, none⟩ (.int .i64 7)).setCell ⟨W0.heap.size + 1, 0, none⟩ (.int .i64 ((p : Nat) : Int))).heap[w.heap.size + 1]? = some (.cells #[.slice none 0 0] 36 (0, 0)) := by
      rw [heap_setCell_other _ _ _ _ (by show w.heap.size + 1 ≠ W0.heap.size + 1; omega), heap_setCell_other _ _ _ _ (by show w.heap.size + 1 ≠ W0.heap.size; omega)]
      exact a3
    generalize (W.setCell ⟨W0.heap.size, 0, none⟩ (.int .i64 7)).setCell ⟨W0.heap.size + 1, 0, none⟩ (.int .i64 ((p : Nat) : Int)) = W5 at hbW hrow ⊢
    have c1 := cell_of_row W5 _ 0 _ _ _ hrow
    have HBW := hide hbW
    have HA1 := hide a1
    clear hbW hrow a1 a3 a6 hB
    go_wp2_with fail
    refine (tagsOf_core (.slice none 0 0) [] W5 0 rfl (by decide) 0 (World.ownsRow_nil _ _ _ _)).mono ?_
    rintro e w7 ⟨hb7, v', rfl, hown7⟩
    dsimp only
    have HB7 := hide (HBW.out.trans (hb7.mono HBW.out.size))
    have HO7 := hide (own_mono hown7 HBW.out.size)
    clear hb7 hown7
    go_wp2_with fail
    go_ret3
    exact ⟨HB7.out, v', Or.inr ⟨p, HA1.out, rfl, HO7.out⟩⟩
end Go.Proofs.Ytpgamoielkpakaa
