/-
  PROVED HERE: what the program's Open answers where the disk has no layout, or an empty store at rest.
-/
import Derived.Test.YteicpbcddjjceaaGreatDoorErPure
import Derived.Test.YteicpbcddjjceaaGreatDoorBdW1
import Derived.Test.YteicpbcddjjceaaGreatDoorReading
import Derived.Test.YteicpbcddjjceaaGreatDoorBuilt
import Derived.ChangeKeysEq
namespace Go.Proofs.YteicpbcddjjceaaGreatDoor
open Go.RowKit
theorem StW.put {W : World} {sb : Nat} {s : PSt} {cb tb nc nt b i : Nat} {Dc Dt : DataW Value} {cur : Array Value} {T : TypeId} {v : Value} (h : StW W sb s cb tb nc nt Dc Dt) (hb : W.heap[b]? = some (.cells cur T (0, 0))) (h0 : T ≠ 122) (hin : s.In (W.setCell ⟨b, i, none⟩ v)) (hG : ¬ isG b) :
    StW (W.setCell ⟨b, i, none⟩ v) sb s cb tb nc nt Dc Dt := by
  have hne : ∀ {x n : Nat} {k : TypeId} {D : DataW Value}, W.ownsMap Tryz.prog k heldR x n D → x ≠ b := by
    rintro x n k D ⟨es, clock, h1, _⟩ rfl
    rw [hb] at h1
    cases h1
  refine ⟨hin, h.gl.same (by simp) (fun k hk => heap_setCell_other _ _ _ _ (fun e => ?_)), h.low, (heap_setCell_other _ _ _ _ (by simpa using type_ne h.blk hb (fun e => h0 e.symm))).trans h.blk, owns_same h.cm (heap_setCell_other _ _ _ _ (hne h.cm)), owns_same h.tm (heap_setCell_other _ _ _ _ (hne h.tm)), h.ncb, h.ntb, h.gcb, h.gtb, h.gsb, h.ne⟩
  have e : k = b := e
  subst e
  exact hG hk
theorem ErrV.put {W : World} {ev v : Value} {k : Int} {b i : Nat} {cur : Array Value} {T : TypeId} (h : ErrV W ev k) (hb : W.heap[b]? = some (.cells cur T (0, 0))) (hT : T ≠ 152) : ErrV (W.setCell ⟨b, i, none⟩ v) ev k := by
  rcases h with h | ⟨h0, sv, nm, h1, h2⟩
  · exact .inl h
  · exact .inr ⟨h0, sv, nm, h1, (heap_setCell_other _ _ _ _ (by simpa using type_ne h2 hb (fun e => hT e.symm))).trans h2⟩
/-- What store.Open leaves, told of an earlier world. -/
structure OpD (s : PSt) (w w' : World) (k : Int) (s' : PSt) (sv ev : Value) : Prop where
  ev : ErrV w' ev k
  go : PGo s s' w w'
  r : OpR s.ds k s'.ds
  ok : k = 0 → ∃ sb cb tb, sv = .pointer (some ⟨sb, 0, none⟩) ∧ (w.heap.size ≤ sb ∧ w.heap.size ≤ cb) ∧ StW w' sb s' cb tb 0 0 (.map []) (.map [])
  no : k ≠ 0 → sv = .pointer none
set_option maxHeartbeats 2000000 in
set_option maxRecDepth 100000 in
theorem open1_any (s : PSt) (w W : World) (d gd gf ge : Nat) {L C B : Nat} (h : s.In w) (hgl : Gl w) (hlow : LowS s) (hf : DFit s.ds L C B) (hb : Bud (L + s.R.now.length + 20) (C + s.R.now.length + 20) (B + 36)) (hps : ∀ e ∈ s.R.now, e.path.size ≤ 9223372036854775807) (hcase : rdD s.ds layoutP = none ∨ OpQ s.ds)
    (hB : Below w.heap.size w W) (hbd : BD w d s.b) (h1 : W.heap[gd]? = some (.cells #[.pointer (some ⟨d, 0, none⟩)] 24 (0, 0))) (h2 : W.heap[gf]? = some (.cells #[.pointer none] 66 (0, 0))) (h3 : W.heap[ge]? = some (.cells #[.nilIface] 96 (0, 0))) (l2 : w.heap.size ≤ gf) (l3 : w.heap.size ≤ ge) :
    Calls Tryz.prog 44 #[.pointer (some ⟨gd, 0, none⟩), .pointer (some ⟨gf, 0, none⟩), .pointer (some ⟨ge, 0, none⟩)] W fun e w' => e = .returned (.tuple #[]) ∧ ∃ k s' sv ev, OpD s w w' k s' sv ev ∧ w'.heap[gf]? = some (.cells #[sv] 66 (0, 0)) ∧ w'.heap[ge]? = some (.cells #[ev] 96 (0, 0)) ∧
      ∀ k cur T, W.heap[k]? = some (.cells cur T (0, 0)) → k ≠ gf → k ≠ ge → T ≠ 105 → T ≠ 227 → T ≠ 159 → T ≠ 5 → w'.heap[k]? = some (.cells cur T (0, 0)) := by
  have hi := h.later hB
  have HOP := hide (openS_any s W hi (hgl.later hB) hlow hf hb hps hcase)
  have hbd2 : W.heap[d]? = some (.cells #[.pointer (some ⟨s.b, 0, none⟩)] 49 (0, 0)) := (hB.block d (lt_heap hbd)).trans hbd
  have c0 := cell_of_row _ _ 0 _ _ _ h1
  have c1 := cell_of_row _ _ 0 _ _ _ hbd2
  have H := hide h
  have HB := hide hB
  have HGL := hide hgl
  have HI := hide hi
  have H2 := hide h2
  have H3 := hide h3
  clear h hgl hlow hf hb hps hcase hB hbd h1 h2 h3 hi hbd2
  go_enter Tryz.func44, Tryz.ntmps44
  go_wp2_with fail
  refine (HOP.out).mono ?_
  rintro _ w1 ⟨k, s', sv, ev, rfl, hev, hg, hr, hok, hno⟩
  dsimp only
  obtain ⟨po, rfl⟩ : ∃ po, sv = .pointer po := by
    by_cases hk : k = 0
    · obtain ⟨sb, cb, tb, rfl, -⟩ := hok hk
      exact ⟨_, rfl⟩
    · exact ⟨_, hno hk⟩
  have hg2 : w1.heap[gf]? = some (.cells #[.pointer none] 66 (0, 0)) := hg.keeps HI.out H2.out (by decide) (by decide) (by decide) (by decide)
  have hg3 : w1.heap[ge]? = some (.cells #[.nilIface] 96 (0, 0)) := hg.keeps HI.out H3.out (by decide) (by decide) (by decide) (by decide)
  have q1 := cell_of_row _ _ 0 _ _ _ hg2
  have q2 := frozen_of_row _ _ 0 _ _ hg2
  have q3 := cell_of_row _ _ 0 _ _ _ hg3
  have q4 := frozen_of_row _ _ 0 _ _ hg3
  have hev2 : ev = .nilIface ∨ ∃ ti pp, ev = .iface ti pp := by
    rcases hev with ⟨-, h⟩ | ⟨-, a, b, h, -⟩
    · exact .inl h
    · exact .inr ⟨_, _, h⟩
  have HG := hide hg
  have HEV := hide hev
  have HR := hide hr
  have HOK := hide hok
  have HNO := hide hno
  have G2 := hide hg2
  have G3 := hide hg3
  clear hg hev hr hok hno hg2 hg3
  have hne : ge ≠ gf := by simpa using type_ne G3.out G2.out (by decide)
  have G3' : (w1.setCell ⟨gf, 0, none⟩ (.pointer po)).heap[ge]? = some (.cells #[.nilIface] 96 (0, 0)) := (heap_setCell_other _ _ _ _ hne).trans G3.out
  have q5 := cell_of_row _ _ 0 _ _ _ G3'
  have q6 := frozen_of_row _ _ 0 _ _ G3'
  have hfin : ∃ k s' sv ev', OpD s w ((w1.setCell ⟨gf, 0, none⟩ (.pointer po)).setCell ⟨ge, 0, none⟩ ev) k s' sv ev' ∧ ((w1.setCell ⟨gf, 0, none⟩ (.pointer po)).setCell ⟨ge, 0, none⟩ ev).heap[gf]? = some (.cells #[sv] 66 (0, 0)) ∧ ((w1.setCell ⟨gf, 0, none⟩ (.pointer po)).setCell ⟨ge, 0, none⟩ ev).heap[ge]? = some (.cells #[ev'] 96 (0, 0)) ∧
      ∀ k cur T, W.heap[k]? = some (.cells cur T (0, 0)) → k ≠ gf → k ≠ ge → T ≠ 105 → T ≠ 227 → T ≠ 159 → T ≠ 5 → ((w1.setCell ⟨gf, 0, none⟩ (.pointer po)).setCell ⟨ge, 0, none⟩ ev).heap[k]? = some (.cells cur T (0, 0)) := by
    have g0 := (PGo.refl H.out HB.out).trans HG.out
    have g1 : PGo s s' w (w1.setCell ⟨gf, 0, none⟩ (.pointer po)) := g0.setNew l2 G2.out (by decide) (by decide) (by decide) (by decide)
    have g2 : PGo s s' w ((w1.setCell ⟨gf, 0, none⟩ (.pointer po)).setCell ⟨ge, 0, none⟩ ev) := g1.setNew l3 G3' (by decide) (by decide) (by decide) (by decide)
    refine ⟨k, s', .pointer po, ev, ⟨(HEV.out.put G2.out (by decide)).put G3' (by decide), g2, HR.out, fun hk => ?_, HNO.out⟩, ?_, ?_, ?_⟩
    · obtain ⟨sb, cb, tb, e, hl, hs⟩ := HOK.out hk
      have hlo := HB.out.size
      exact ⟨sb, cb, tb, e, by omega, (hs.put G2.out (by decide) g1.inn (fun e => by have := HGL.out.lt e; omega)).put G3' (by decide) g2.inn (fun e => by have := HGL.out.lt e; omega)⟩
    · rw [heap_setCell_other _ _ _ _ (fun e => hne e.symm), heap_setCell_same _ gf 0 _ _ _ G2.out]
      rfl
    · rw [heap_setCell_same _ ge 0 _ _ _ G3']
      rfl
    · intro k cur T hk n1 n2 t1 t2 t3 t4
      rw [heap_setCell_other _ _ _ _ n2, heap_setCell_other _ _ _ _ n1]
      exact HG.out.keeps HI.out hk t1 t2 t3 t4
  have HFIN := hide hfin
  clear hfin
  have G3H := hide G3'
  clear G3'
  rcases hev2 with rfl | ⟨ti, pp, rfl⟩
  · go_wp2_with fail
    go_end0
    exact ⟨rfl, HFIN.out⟩
  · go_wp2_with fail
    go_end0
    exact ⟨rfl, HFIN.out⟩
theorem errno_ev {w : World} {ev : Value} {k : Int} (h : ErrV w ev k) (hg : w.cell? ⟨0, 0, none⟩ = some errT) : Calls Tryz.prog 41 #[ev] w fun e w' => e = .returned (.int .i64 k) ∧ Below w.heap.size w w' := by
  rcases h with ⟨rfl, rfl⟩ | ⟨_, h⟩
  · exact errno_nil w
  · exact errno_step ev k w h hg
theorem OpD.put {s s' : PSt} {w W : World} {k : Int} {sv ev v : Value} {b i : Nat} {cur : Array Value} {T : TypeId} (h : OpD s w W k s' sv ev) (hg : Gl w) (hb : W.heap[b]? = some (.cells cur T (0, 0))) (hl : w.heap.size ≤ b) (t0 : T ≠ 122) (t1 : T ≠ 105) (t2 : T ≠ 227) (t3 : T ≠ 159) (t4 : T ≠ 5) (t5 : T ≠ 152) : OpD s w (W.setCell ⟨b, i, none⟩ v) k s' sv ev := by
  have g1 := h.go.setNew (v := v) (i := i) hl hb t1 t2 t3 t4
  refine ⟨h.ev.put hb t5, g1, h.r, fun hk => ?_, h.no⟩
  obtain ⟨sb, cb, tb, e, hl2, hs⟩ := h.ok hk
  exact ⟨sb, cb, tb, e, hl2, hs.put hb t0 g1.inn (fun e => by have := hg.lt e; omega)⟩
theorem two_cells (W : World) (T1 T2 : TypeId) (a b : Value) : ∃ X, X = (W.alloc (.cells #[a] T1)).alloc (.cells #[b] T2) ∧ Below W.heap.size W X ∧ X.heap[W.heap.size]? = some (.cells #[a] T1 (0, 0)) ∧ X.heap[W.heap.size + 1]? = some (.cells #[b] T2 (0, 0)) := by
  refine ⟨_, rfl, ((Below.refl _ _).alloc (Nat.le_refl _) _).alloc (by rw [size_alloc]; omega) _, ?_, ?_⟩
  · exact (Below.heap_alloc _ _ _ (by simp)).trans (heap_alloc_new _ _)
  · have := heap_alloc_new (W.alloc (.cells #[a] T1)) (.cells #[b] T2)
    rwa [size_alloc] at this
/-- The program's store: its guard, which is free, and the store within. -/
def BSt (w : World) (xb sb : Nat) : Prop := w.heap[xb]? = some (.cells #[.int .i32 0, .int .u32 0, .pointer (some ⟨sb, 0, none⟩)] 68 (0, 0))
set_option maxHeartbeats 2000000 in
set_option maxRecDepth 100000 in
theorem bOpen_any (s : PSt) (w : World) (d : Nat) {L C B : Nat} (h : s.In w) (hgl : Gl w) (hlow : LowS s) (hf : DFit s.ds L C B) (hb : Bud (L + s.R.now.length + 20) (C + s.R.now.length + 20) (B + 36)) (hps : ∀ e ∈ s.R.now, e.path.size ≤ 9223372036854775807) (hcase : rdD s.ds layoutP = none ∨ OpQ s.ds) (hbd : BD w d s.b) :
    Calls Tryz.prog 17 #[.pointer (some ⟨d, 0, none⟩)] w fun e w' => ∃ k s' sv, e = .returned (.tuple #[sv, .int .i64 k]) ∧ PGo s s' w w' ∧ OpR s.ds k s'.ds ∧
      (k = 0 → ∃ xb sb cb tb, sv = .pointer (some ⟨xb, 0, none⟩) ∧ BSt w' xb sb ∧ (w.heap.size ≤ sb ∧ w.heap.size ≤ cb) ∧ w.heap.size ≤ xb ∧ StW w' sb s' cb tb 0 0 (.map []) (.map [])) ∧ (k ≠ 0 → sv = .pointer none) := by
  have hb3 := three_below w (.cells #[.pointer (some ⟨d, 0, none⟩)] 24) (.cells #[.pointer none] 66) (.cells #[.nilIface] 96)
  have k0 := three0 w #[.pointer (some ⟨d, 0, none⟩)] 24 (.cells #[.pointer none] 66) (.cells #[.nilIface] 96)
  have k1 := three1 w (.cells #[.pointer (some ⟨d, 0, none⟩)] 24) #[.pointer none] 66 (.cells #[.nilIface] 96)
  have k2 := three2 w (.cells #[.pointer (some ⟨d, 0, none⟩)] 24) (.cells #[.pointer none] 66) #[.nilIface] 96
  obtain ⟨W, hW⟩ : ∃ W, W = ((w.alloc (.cells #[.pointer (some ⟨d, 0, none⟩)] 24)).alloc (.cells #[.pointer none] 66)).alloc (.cells #[.nilIface] 96) := ⟨_, rfl⟩
  have hmf : ∀ (fn : Fn) (first cap : Array Value) (w : World), (Instr.makeFunc fn first cap).run Tryz.prog w = .ok (.func fn first cap) w := fun _ _ _ _ => rfl
  have c0 : (w.alloc (.cells #[.pointer (some ⟨d, 0, none⟩)] 24)).cell? ⟨w.heap.size, 0, none⟩ = some (.pointer (some ⟨d, 0, none⟩)) := cell_of_row _ _ 0 _ _ _ (heap_alloc_new _ _)
  rw [← hW] at hb3 k0 k1 k2
  have HW := hide hW
  have hwz : W.heap.size = w.heap.size + 3 := by rw [hW]; simp
  obtain ⟨X, hX, hXB, x0, x1⟩ := two_cells W 32 3 (.int .i64 0) (.int .i64 0)
  have hBX : Below w.heap.size w X := hb3.trans (hXB.mono hb3.size)
  have HRD := hide (reading_any 44 #[.pointer (some ⟨w.heap.size, 0, none⟩), .pointer (some ⟨w.heap.size + 1, 0, none⟩), .pointer (some ⟨w.heap.size + 1 + 1, 0, none⟩)] W
    (fun W1 => (∃ k s' sv ev, OpD s w W1 k s' sv ev ∧ W1.heap[w.heap.size + 1]? = some (.cells #[sv] 66 (0, 0)) ∧ W1.heap[w.heap.size + 1 + 1]? = some (.cells #[ev] 96 (0, 0))) ∧ W1.heap[W.heap.size]? = some (.cells #[.int .i64 0] 32 (0, 0)) ∧ W1.heap[W.heap.size + 1]? = some (.cells #[.int .i64 0] 3 (0, 0))) (fun _ _ => False)
    (enters_of Tryz.func44 (by kernel_rfl) rfl) (by
      rw [← hX]
      refine (open1_any s w X d w.heap.size (w.heap.size + 1) (w.heap.size + 1 + 1) h hgl hlow hf hb hps hcase hBX hbd ((hXB.block _ (lt_heap k0)).trans k0) ((hXB.block _ (lt_heap k1)).trans k1) ((hXB.block _ (lt_heap k2)).trans k2) (by omega) (by omega)).mono ?_
      rintro _ Y ⟨rfl, k, s', sv, ev, y1, y2, y3, y4⟩
      have z0 := y4 _ _ _ x0 (by omega) (by omega) (by decide) (by decide) (by decide) (by decide)
      have z1 := y4 _ _ _ x1 (by omega) (by omega) (by decide) (by decide) (by decide) (by decide)
      exact ⟨⟨z0, z1⟩, .inl ⟨rfl, ⟨k, s', sv, ev, y1, y2, y3⟩, z0, z1⟩⟩))
  have HB3 := hide hb3
  have HGL := hide hgl
  have HLOW := hide hlow
  have H := hide h
  clear hW hX hXB x0 x1 hBX hb3 k0 k1 k2 h hgl hlow hf hb hps hcase hbd
  go_enter Tryz.func17, Tryz.ntmps17
  go_wp2_with fail
  rw [← HW.out]
  refine (HRD.out).mono ?_
  rintro e1 w1 he
  obtain ⟨W1, ⟨⟨k, s', sv, ev, hop, hgf, hge⟩, hr0, hr1⟩, rfl, rfl⟩ : ∃ W1, ((∃ k s' sv ev, OpD s w W1 k s' sv ev ∧ W1.heap[w.heap.size + 1]? = some (.cells #[sv] 66 (0, 0)) ∧ W1.heap[w.heap.size + 1 + 1]? = some (.cells #[ev] 96 (0, 0))) ∧ W1.heap[W.heap.size]? = some (.cells #[.int .i64 0] 32 (0, 0)) ∧ W1.heap[W.heap.size + 1]? = some (.cells #[.int .i64 0] 3 (0, 0))) ∧ e1 = .returned (.tuple #[.int .i64 0, .int .i64 0]) ∧ w1 = (W1.setCell ⟨W.heap.size, 0, none⟩ (.int .i64 0)).setCell ⟨W.heap.size + 1, 0, none⟩ (.int .i64 0) := by
    rcases he with ⟨X, h1, h2, h3⟩ | ⟨p, X, h1, -⟩
    · exact ⟨X, h1, h2, h3⟩
    · exact h1.elim
  dsimp only
  have hn1 : W.heap.size + 1 ≠ W.heap.size := by omega
  have hr1' : (W1.setCell ⟨W.heap.size, 0, none⟩ (.int .i64 0)).heap[W.heap.size + 1]? = some (.cells #[.int .i64 0] 3 (0, 0)) := (heap_setCell_other _ _ _ _ hn1).trans hr1
  have hlo := HB3.out.size
  have hop2 := (hop.put (v := .int .i64 0) (i := 0) HGL.out hr0 (by omega) (by decide) (by decide) (by decide) (by decide) (by decide) (by decide)).put (v := .int .i64 0) (i := 0) HGL.out hr1' (by omega) (by decide) (by decide) (by decide) (by decide) (by decide) (by decide)
  have hgf2 : ((W1.setCell ⟨W.heap.size, 0, none⟩ (.int .i64 0)).setCell ⟨W.heap.size + 1, 0, none⟩ (.int .i64 0)).heap[w.heap.size + 1]? = some (.cells #[sv] 66 (0, 0)) := (heap_setCell_other _ _ _ _ (by simp; omega)).trans ((heap_setCell_other _ _ _ _ (by simp; omega)).trans hgf)
  have hge2 : ((W1.setCell ⟨W.heap.size, 0, none⟩ (.int .i64 0)).setCell ⟨W.heap.size + 1, 0, none⟩ (.int .i64 0)).heap[w.heap.size + 1 + 1]? = some (.cells #[ev] 96 (0, 0)) := (heap_setCell_other _ _ _ _ (by simp; omega)).trans ((heap_setCell_other _ _ _ _ (by simp; omega)).trans hge)
  generalize (W1.setCell ⟨W.heap.size, 0, none⟩ (.int .i64 0)).setCell ⟨W.heap.size + 1, 0, none⟩ (.int .i64 0) = W2 at hop2 hgf2 hge2 ⊢
  have cf := cell_of_row _ _ 0 _ _ _ hgf2
  have ce := cell_of_row _ _ 0 _ _ _ hge2
  have HOP := hide hop2
  have HGF := hide hgf2
  have HER := hide (errno_ev hop2.ev (HGL.out.go HLOW.out hop2.go).1.err)
  clear hop hop2 hgf hge hgf2 hge2 hr0 hr1 hr1' HRD he
  go_wp2_with fail
  refine (HER.out).mono ?_
  rintro _ w3 ⟨rfl, hb3⟩
  dsimp only
  have cf3 := cell_later hb3 cf
  have HB4 := hide hb3
  clear hb3 HER cf ce
  by_cases hk : k = 0
  · subst hk
    obtain ⟨sb, cb, tb, rfl, hl, hs⟩ := HOP.out.ok rfl
    have HS := hide hs
    clear hs
    go_wp2_with fail
    refine bodyPost_ret (results_tmp2 rfl _ _ _) rfl ?_
    have hb5 := HB4.out.alloc HB4.out.size (.cells #[.int .i32 0, .int .u32 0, .pointer (some ⟨sb, 0, none⟩)] 68)
    have hz := HB4.out.size
    have hz2 := HOP.out.go.gr.size
    exact ⟨0, s', _, rfl, HOP.out.go.trans (PGo.refl HOP.out.go.inn hb5), HOP.out.r, fun _ => ⟨_, sb, cb, tb, rfl, heap_alloc_new _ _, hl, by omega, HS.out.later hb5⟩, fun hk => absurd rfl hk⟩
  · have hnp := HOP.out.no hk
    subst hnp
    go_wp2_with fail
    refine bodyPost_ret (results_tmp2 rfl _ _ _) rfl ?_
    exact ⟨k, s', _, rfl, HOP.out.go.trans (PGo.refl HOP.out.go.inn HB4.out), HOP.out.r, fun h => absurd h hk, fun _ => rfl⟩
end Go.Proofs.YteicpbcddjjceaaGreatDoor

/-
  PROVED HERE: what Open leaves on a disk that has crashed or is new, and what a crash leaves then; no walk.
-/
namespace Go.Proofs.YteicpbcddjjceaaGreatDoor
open Go.RowKit
theorem nodup_le {α : Type} [DecidableEq α] : ∀ (l s : List α), l.Pairwise (· ≠ ·) → (∀ x ∈ l, x ∈ s) → l.length ≤ s.length
  | [], _, _, _ => Nat.zero_le _
  | a :: l, s, hn, hs => by
    have h1 := List.pairwise_cons.1 hn
    have ha : a ∈ s := hs a (by simp)
    have := nodup_le l (s.erase a) h1.2 (fun x hx => (List.mem_erase_of_ne (Ne.symm (h1.1 x hx))).2 (hs x (by simp [hx])))
    rw [List.length_erase_of_mem ha] at this
    have : 0 < s.length := List.length_pos_of_mem ha
    simp only [List.length_cons]
    omega
theorem six_len {l : List DE} (hr : Rise l) (hs : ∀ e ∈ l, e.path ∈ six) : l.length ≤ 6 := by
  have := nodup_le (l.map DE.path) six (List.pairwise_map.2 (hr.imp (fun h => less_ne h))) (fun x hx => by
    obtain ⟨e, he, rfl⟩ := List.mem_map.1 hx
    exact hs e he)
  rwa [List.length_map] at this
theorem rmS_all (now : List DE) : rmS (fun _ => true) now = (now.map DE.path).reverse.map sRm := by
  unfold rmS
  rw [List.filter_eq_self.2 (fun _ _ => rfl)]
theorem wrS_begin : wrS beginFl = [sAp p0 ⟨#[]⟩, sAp p1 emptyT, sAp p2 layoutT, sSy p0, sSy p1, sSy p2, sRn p0 journalP, sRn p1 indexP, sRn p2 layoutP, sSd] := by
  rw [← bPath0, ← bPath1, ← bPath2]
  rfl
/-- At rest: no change of paths is under way. -/
structure Er (D : DS) : Prop where
  ea : Ea D
  chg : D.R.chg = []
theorem Er.now {D : DS} (h : Er D) : D.R.now = D.R.safe := by
  have := h.ea.inv.go
  rw [h.chg] at this
  exact this
theorem Er.or {D : DS} (h : Er D) : findE layoutP D.R.now = none ∨ ThreeL D.fd D.R.now := by
  have := h.ea.each 0
  rw [List.take_zero] at this
  rw [h.now]
  exact this
theorem Er.mid {D : DS} (h : Er D) (hn : findE layoutP D.R.now = none) : Mid D := by
  refine ⟨fun m => ?_, h.ea.six, h.ea.dat, h.ea.rise, h.ea.inv⟩
  rw [h.chg, List.take_nil]
  show findE layoutP D.R.safe = none
  rw [← h.now]
  exact hn
theorem begin_pure {D D' : DS} {k : Int} (h : Er D) (hn : findE layoutP D.R.now = none) (hr : 36 ≤ D.R.room) (hb : BgR D k D') : k = 0 ∧ Kp D D' ∧ Ea D' ∧ (D.R.left = -1 → Rest3 D') := by
  rcases hb with ⟨h1, _⟩ | ⟨_, k1, m, D1, h1, h2⟩
  · omega
  · rw [rmS_all] at h1
    obtain ⟨rfl, m1, _, _, kp1, hor⟩ := rm_all _ _ rfl rfl (h.mid hn) h1
    rcases h2 with ⟨h2, _⟩ | ⟨_, m2, D2, h3, h4⟩
    · exact absurd rfl h2
    · rw [wrS_begin] at h3
      have key : k = 0 ∧ Kp D1 D2 ∧ Ea D2 ∧ (D2.R.left = -1 → Rest3 D2) := by
        by_cases hl : D1.R.left = 0
        · obtain ⟨rfl, rfl⟩ := ran_zero (by decide +kernel) hl h3
          exact ⟨rfl, Kp.refl _, m1.ea, fun e => by rw [hl] at e; cases e⟩
        · have hn1 : D1.R.now = [] := hor.resolve_left hl
          obtain ⟨rfl, kp2, hc⟩ := begin10 m1 hn1 (by rw [kp1.1]; exact hr) h3
          rcases hc with ⟨a, b⟩ | ⟨a, b⟩ | ⟨a, b⟩
          · exact ⟨rfl, kp2, a.ea, fun e => by rw [b] at e; cases e⟩
          · exact ⟨rfl, kp2, a, fun e => by rw [b] at e; cases e⟩
          · exact ⟨rfl, kp2, a, fun _ => b⟩
      obtain ⟨rfl, kp2, e2, r2⟩ := key
      rcases h4 with ⟨_, rfl⟩ | ⟨h4, _⟩
      · exact ⟨rfl, kp1.trans kp2, e2, fun e => r2 ((kp1.trans kp2).2 e)⟩
      · exact absurd rfl h4
theorem go_pure {D D' : DS} {k : Int} (h : Er D) (h3 : ThreeL D.fd D.R.now) (hg : GoR D k D') : k = 0 ∧ Kp D D' ∧ Ea D' ∧ Rest3 D' := by
  obtain ⟨k1, m, D1, h1, h2⟩ := hg
  have hrm : rmS foreignB D.R.now = [] := by
    obtain ⟨y, x, z, e, _⟩ := h3
    rw [e]
    have f1 : foreignB indexP = false := by decide +kernel
    have f2 : foreignB journalP = false := by decide +kernel
    have f3 : foreignB layoutP = false := by decide +kernel
    simp [rmS, f1, f2, f3]
  rw [hrm] at h1
  obtain ⟨rfl, _, e1⟩ := h1
  rw [e1] at h2
  rcases h2 with ⟨h2, _⟩ | ⟨_, hs⟩
  · exact absurd rfl h2
  · by_cases hl : D.R.left = 0
    · obtain ⟨rfl, e2⟩ := st_zero hs rfl hl
      rw [e2]
      exact ⟨rfl, Kp.refl _, h.ea, h3, h.now.symm, h.chg⟩
    · obtain ⟨rfl, rfl⟩ := st_sd hs hl
      refine ⟨rfl, ⟨rfl, fun e => wrote_whole e⟩, ⟨fun m => .inr ?_, fun m e he => ?_, h.ea.dat, ?_, h.ea.inv.sync.wrote⟩, h3, rfl, rfl⟩
      · show ThreeL _ (goE _ (List.take m []))
        rw [List.take_nil]
        exact h3
      · have he : e ∈ goE D.R.now (List.take m []) := he
        rw [List.take_nil] at he
        have he : e ∈ D.R.now := he
        have := h.ea.six 0 e
        rw [List.take_zero] at this
        rw [h.now] at he
        exact this he
      · show Rise D.R.now
        rw [h.now]
        exact h.ea.rise
theorem rd_lay {D : DS} : rdD D layoutP = none ↔ findE layoutP D.R.now = none := by
  unfold rdD
  have : ¬ isPathB layoutP = false := by decide
  rw [if_neg this, Option.map_eq_none_iff]
theorem open_pure {D D' : DS} {k : Int} (h : Er D) (hr : 36 ≤ D.R.room) (hb : OpR D k D') : k = 0 ∧ Kp D D' ∧ Ea D' ∧ (D.R.left = -1 → Rest3 D') := by
  rcases hb with ⟨h1, h2⟩ | ⟨⟨t, c, _, _, _, _, _, _, hs⟩, h2⟩
  · exact begin_pure h (rd_lay.1 h1) hr h2
  · rcases h.or with hn | h3
    · rw [rd_lay.2 hn] at hs
      cases hs
    · obtain ⟨a, b, c, d⟩ := go_pure h h3 h2
      exact ⟨a, b, c, fun _ => d⟩
theorem read_empty : ∃ c, readS emptyT = .ok [] c := ⟨23, by kernel_rfl⟩
theorem three_q {D : DS} (h : ThreeL D.fd D.R.now) : OpQ D := by
  obtain ⟨y, x, z, e, fx, fy, fz⟩ := h
  obtain ⟨c, hc⟩ := read_empty
  have q1 : isPathB indexP = true := by decide
  have q2 : isPathB layoutP = true := by decide
  have n1 : indexP ≠ layoutP := by decide
  have n2 : journalP ≠ layoutP := by decide
  have n3 : indexP ≠ p1 := by decide
  have n4 : journalP ≠ p1 := by decide
  have n5 : layoutP ≠ p1 := by decide
  have n6 : indexP ≠ pruningP := by decide
  have n7 : journalP ≠ pruningP := by decide
  have n8 : layoutP ≠ pruningP := by decide
  refine ⟨emptyT, c, ?_, by decide, hc, ?_, ?_, ?_, ?_⟩
  · simp [rdD, e, findE, q1, fy]
  · have f1 : dgB indexP = false := by decide +kernel
    have f2 : dgB journalP = false := by decide +kernel
    have f3 : dgB layoutP = false := by decide +kernel
    rw [e]
    intro d hd
    simp only [List.mem_cons, List.not_mem_nil, or_false] at hd
    rcases hd with rfl | rfl | rfl
    · exact f1
    · exact f2
    · exact f3
  · rw [bPath1]
    simp [rdD, e, findE, n3, n4, n5]
  · simp [rdD, e, findE, n6, n7, n8]
  · simp [rdD, e, findE, q2, n1, n2]
theorem Er.case {D : DS} (h : Er D) : rdD D layoutP = none ∨ OpQ D := by
  rcases h.or with hn | h3
  · exact .inl (rd_lay.2 hn)
  · exact .inr (three_q h3)
/-- Files that are synced whole stay in a crash. -/
theorem cut_whole (d : ByteArray) (k : Int) : cutK (d, (d.size : Int)) k = (d, (d.size : Int)) := by
  have : ((d.size : Int) + min (max k 0) ((d.size : Int) - (d.size : Int))).toNat = d.size := by omega
  unfold cutK
  simp only [this]
  congr 1
  exact ByteArray.ext (by simp [ByteArray.extract_zero_size])
theorem crash_same : ∀ (l : List DE) (fd : Nat → ByteArray × Int) (ks : List Int), (∀ e ∈ l, ∀ k, cutK (fd e.blk) k = fd e.blk) → crashN fd l ks = fd
  | [], _, _, _ => rfl
  | e :: l, fd, ks, h => by
    show crashN (setNd fd e.blk (cutK (fd e.blk) (ks.headD 0))) l ks.tail = fd
    rw [h e (by simp)]
    have : setNd fd e.blk (fd e.blk) = fd := by
      funext x
      unfold setNd
      split
      · next hx => rw [hx]
      · rfl
    rw [this]
    exact crash_same l fd _ (fun x hx => h x (by simp [hx]))
theorem three_crash {fd : Nat → ByteArray × Int} {l : List DE} (h : ThreeL fd l) (ks : List Int) : crashN fd l ks = fd := by
  obtain ⟨y, x, z, rfl, fx, fy, fz⟩ := h
  refine crash_same _ fd ks (fun e he k => ?_)
  simp only [List.mem_cons, List.not_mem_nil, or_false] at he
  rcases he with rfl | rfl | rfl
  · show cutK (fd y) k = fd y
    rw [fy]
    exact cut_whole emptyT k
  · show cutK (fd x) k = fd x
    rw [fx]
    exact cut_whole ⟨#[]⟩ k
  · show cutK (fd z) k = fd z
    rw [fz]
    exact cut_whole layoutT k
/-- What a crash leaves. -/
def crD (D : DS) (n : Nat) (ks : List Int) : DS := ⟨{ D.R with now := goE D.R.safe (D.R.chg.take n), safe := goE D.R.safe (D.R.chg.take n), chg := [], left := -1 }, D.fs, crashN D.fd (goE D.R.safe (D.R.chg.take n)) ks⟩
theorem crash_er {D : DS} {L C B : Nat} (h : Ea D) (hf : DFit D L C B) (n : Nat) (ks : List Int) : Er (crD D n ks) ∧ DFit (crD D n ks) 6 C 36 := by
  have hin : ∀ e ∈ goE D.R.safe (D.R.chg.take n), e.blk ∈ D.fs := fun e he => by
    rcases goE_mem _ he with he | ⟨c, hc, e1⟩
    · exact hf.isafe e he
    · rw [e1]
      exact hf.ichg c (List.mem_of_mem_take hc)
  have hdat : ∀ f ∈ D.fs, FitB 36 (crashN D.fd (goE D.R.safe (D.R.chg.take n)) ks f) := fun f hf' => crashN_fit _ _ _ (fun e he => h.dat _ (hin e he)) f (h.dat f hf')
  have hrise : Rise (goE D.R.safe (D.R.chg.take n)) := go_rise _ h.rise
  have hne : NoEmp (goE D.R.safe (D.R.chg.take n)) := goE_noEmp _ h.inv.ne
  have hinv : Inv (crD D n ks).R := ⟨rfl, hne⟩
  refine ⟨⟨⟨fun m => ?_, fun m e he => ?_, hdat, hrise, hinv⟩, rfl⟩, ?_⟩
  · show findE layoutP (goE (goE D.R.safe (D.R.chg.take n)) (List.take m [])) = none ∨ ThreeL (crashN D.fd (goE D.R.safe (D.R.chg.take n)) ks) (goE (goE D.R.safe (D.R.chg.take n)) (List.take m []))
    rw [List.take_nil]
    rcases h.each n with h1 | h1
    · exact .inl h1
    · refine .inr ?_
      rw [three_crash h1]
      exact h1
  · have he : e ∈ goE (goE D.R.safe (D.R.chg.take n)) (List.take m []) := he
    rw [List.take_nil] at he
    exact h.six n e he
  · have hlen := six_len hrise (fun e he => h.six n e he)
    exact ⟨by show (goE D.R.safe (D.R.chg.take n)).length + 0 ≤ 6; omega, hf.c0, hf.c1, by show (-1 : Int) ≤ -1; omega, by show (-1 : Int) ≤ _; omega, hf.r0, hf.r1, hdat, (fun c hc => by cases hc), hinv, hin, hin, (fun c hc => by cases hc), hrise⟩
end Go.Proofs.YteicpbcddjjceaaGreatDoor

/-
  PROVED HERE: what tagsWith of a store gives: the tags there are and one more.
-/
namespace Go.Proofs.YteicpbcddjjceaaGreatDoor
open Go.RowKit Go.Shelf
def Tryz.laysW5e_ren : Go.Shelf.Ren := ⟨fun | 5 => 118 | 7 => 136 | n => n, fun | 4 => 4 | 20 => 20 | 23 => 120 | 25 => 9 | 3 => 130 | n => n, fun | n => n⟩
theorem Tryz.laysW5e : Go.Proofs.SlLaysW.n5 Tryz.prog Tryz.laysW5e_ren := {
  mixed := by kernel_rfl
  f5 := ⟨"maps.Clone[map[string]blobs/index.Entry,string,blobs/index.Entry]", by decide, Tryz.func118.trans (congrArg some (by kernel_rfl))⟩
  f7 := Tryz.func136.trans (congrArg some (by kernel_rfl))
  t4 := Tryz.underlying4
  a4 := Tryz.isAgg4
  z4 := Tryz.sizeOf4
  v4 := Tryz.zeroValue4
  t20 := Tryz.underlying20
  a20 := Tryz.isAgg20
  z20 := Tryz.sizeOf20
  v20 := Tryz.zeroValue20
  t23 := Tryz.underlying120
  a23 := Tryz.isAgg120
  z23 := Tryz.sizeOf120
  v23 := Tryz.zeroValue120 }
theorem tclone_any (tb n : Nat) (D : DataW Value) (w : World) (h : TM w tb n D) :
    Calls Tryz.prog 118 #[.map (some tb)] w fun e w' => e = .returned (.map (some w.heap.size)) ∧ TM w' w.heap.size n D ∧ Below w.heap.size w w' :=
  (AnyW.maps_Clone_owns Tryz.laysW5e 9 heldR tb n D w h).mono fun _ _ ⟨h1, h2, _, h3⟩ => ⟨h1, h2, h3⟩
theorem buildE2_lit (n : ByteArray) (x0 x1 x2 x3 x4 x5 x6 x7 x8 x9 x10 x11 x12 x13 x14 x15 x16 x17 x18 x19 x20 x21 x22 x23 x24 x25 x26 x27 x28 x29 x30 x31 : Value) (w : World) : (Instr.build 130 #[(0, .string n), (1, .agg #[x0, x1, x2, x3, x4, x5, x6, x7, x8, x9, x10, x11, x12, x13, x14, x15, x16, x17, x18, x19, x20, x21, x22, x23, x24, x25, x26, x27, x28, x29, x30, x31])]).run Tryz.prog w = .ok (.agg #[.string n, x0, x1, x2, x3, x4, x5, x6, x7, x8, x9, x10, x11, x12, x13, x14, x15, x16, x17, x18, x19, x20, x21, x22, x23, x24, x25, x26, x27, x28, x29, x30, x31, .int .i64 0]) w := by kernel_rfl
theorem buildE2 (n : ByteArray) (ds : List Nat) (h : ds.length = 32) (w : World) : (Instr.build 130 #[(0, .string n), (1, .agg (cells8 ds))]).run Tryz.prog w = .ok (.agg (ecellsOf n ds 0)) w := by
  obtain ⟨x0, x1, x2, x3, x4, x5, x6, x7, x8, x9, x10, x11, x12, x13, x14, x15, x16, x17, x18, x19, x20, x21, x22, x23, x24, x25, x26, x27, x28, x29, x30, x31, rfl⟩ := list32 ds h
  exact buildE2_lit n _ _ _ _ _ _ _ _ _ _ _ _ _ _ _ _ _ _ _ _ _ _ _ _ _ _ _ _ _ _ _ _ w
theorem wpList_buildE2 {ops : Array Oper} {Q : Exit → Act → World → Prop} {o : Oper} {rest : List Oper} {a : Act} {w : World} (hgd : o.guard = none) (p0 p1 : Operand) (hop : o.op = Op.build 130 #[(0, p0), (1, p1)]) (n : ByteArray) (ds : List Nat) (hl : ds.length = 32) (h0 : a.eval p0 = .string n) (h1 : a.eval p1 = .agg (cells8 ds))
    (hK : wpList Tryz.prog ops Q rest (a.put o.dst (.agg (ecellsOf n ds 0))) w) : wpList Tryz.prog ops Q (o :: rest) a w := by
  refine wpList_plain hgd fun K' hK' => ?_
  have hr := buildE2 n ds hl w
  unfold Oper.wp
  simp [execOp, hop, h0, h1, hr, Result.andThen]
  exact hK' _ _ hK
theorem Below.of_grown {n b : Nat} {w w' : World} (hg : w.grownBy w' (some b)) (hb : n ≤ b) (hn : n ≤ w.heap.size) : Below n w w' := (Below.refl _ _).grown hg hn (fun k e => by injection e with e; omega)
theorem key_str (n : ByteArray) (h : n.size ≤ 1000000) : keyOf Tryz.prog 9 (.string n) = some (.string n.data.toList) := by
  unfold keyOf
  rw [Tryz.underlying9]
  simp only [mapKey, Tryz.underlying9]
  have h : n.size ≤ maxLen := by unfold maxLen; omega
  simp [h]
set_option maxHeartbeats 2000000 in
set_option maxRecDepth 100000 in
theorem tagsWith_any (sb : Nat) (s : PSt) (cb tb nc nt : Nat) (Dc Dt : DataW Value) (name : ByteArray) (ds : List Nat) (w : World) (h : StW w sb s cb tb nc nt Dc Dt) (hds : ds.length = 32) (hnt : nt ≤ 1000) (hn : name.size ≤ 1000000) :
    Calls Tryz.prog 68 #[.pointer (some ⟨sb, 0, none⟩), .string name, .agg (cells8 ds)] w fun e w' => ∃ b, e = .returned (.map (some b)) ∧ w.heap.size ≤ b ∧ TM w' b (nt + 1) (Dt.put (.string name.data.toList) (.held (.agg (ecellsOf name ds 0)))) ∧ Below w.heap.size w w' := by
  have HCL := hide (tclone_any tb nt Dt)
  have HSC := hide (fun W => sclone_any name W (by omega))
  have hbu := buildE2 name ds hds
  have hbo : Below w.heap.size w (w.alloc (.cells (cells8 ds) 72)) := (Below.refl _ _).alloc (Nat.le_refl _) _
  have c2 := cell_later hbo (cell_of_row _ _ 2 _ _ _ h.blk)
  have hrow : (w.alloc (.cells (cells8 ds) 72)).heap[w.heap.size]? = some (.cells (cells8 ds) 72 (0, 0)) := heap_alloc_new _ _
  have htm := (h.later hbo).tm
  obtain ⟨W, hW⟩ : ∃ W, W = w.alloc (.cells (cells8 ds) 72) := ⟨_, rfl⟩
  rw [← hW] at hbo c2 hrow htm
  have HTM := hide htm
  have HW := hide hW
  have HBO := hide hbo
  have HROW := hide hrow
  clear h hbo htm hW hrow
  go_enter Tryz.func68, Tryz.ntmps68
  go_upto_region 1 with fail
  rw [← HW.out]
  go_wp2_with fail
  refine (HCL.out _ HTM.out).mono ?_
  rintro _ w1 ⟨rfl, htm1, hb1⟩
  dsimp only
  have HTM1 := hide htm1
  have HB1 := hide hb1
  clear htm1 hb1 HCL
  go_wp2_with fail
  refine (HSC.out _).mono ?_
  rintro _ w2 ⟨rfl, hb2⟩
  dsimp only
  have HTM2 := hide (owns_same HTM1.out (hb2.block _ HTM1.out.lt))
  have HR2 := hide ((hb2.block _ (by have := HB1.out.size; have := lt_heap HROW.out; omega)).trans ((HB1.out.block _ (lt_heap HROW.out)).trans HROW.out))
  have HB2 := hide (HB1.out.trans (hb2.mono HB1.out.size))
  clear hb2 HSC
  go_wp2_with (first | (refine wpList_load_row rfl 72 _ rfl w.heap.size rfl 72 _ _ _ HR2.out Tryz.underlying72 rfl (size40 _ hds) ?_) | (refine wpList_buildE2 rfl _ _ rfl name ds hds rfl rfl ?_) | (refine wpList_mapUpdate_own _ rfl _ _ _ 120 rfl 9 130 str_keyed Tryz.underlying120 heldR W.heap.size nt Dt rfl HTM2.out (by unfold maxLen; omega) _ _ (.string name.data.toList) rfl rfl (key_str name (by omega)) _ [] rfl ?_; intro w3 hm3 hg3))
  go_ret
  have hz := HBO.out.size
  have hz2 := HB2.out.size
  exact ⟨_, rfl, hz, hm3, HBO.out.trans ((HB2.out.mono hz).trans (Below.of_grown hg3 hz (by omega)))⟩
end Go.Proofs.YteicpbcddjjceaaGreatDoor

/-
  PROVED HERE: digests as keys of a map, and held against each other; no walk.
-/
namespace Go.Proofs.YteicpbcddjjceaaGreatDoor
open Go.RowKit
theorem lits5 (d n : Nat) (h : n < 256) : Tryz.prog.keyLits (d + 1) 5 [.int .u8 ((n : Nat) : Int)] = some [.int .u8 ((n : Nat) : Int)] := by
  have hw : (Lit.int .u8 ((n : Nat) : Int)).wf = true := by
    have h1 : IntKind.min .u8 = 0 := by decide
    have h2 : IntKind.max .u8 = 255 := by decide
    simp [Lit.wf, h1, h2]
    omega
  unfold Program.keyLits
  rw [Tryz.underlying5]
  simp [hw]
theorem drop8 (ds : List Nat) (i : Nat) (hi : i < ds.length) : (((cells8 ds).toList.drop (i * 1)).take 1) = [.int .u8 ((ds.getD i 0 : Nat) : Int)] := by
  rw [Nat.mul_one]
  have hl : i < (cells8 ds).toList.length := by rw [Array.length_toList, cells8_size]; exact hi
  rw [List.drop_eq_getElem_cons hl, List.take_succ_cons, List.take_zero]
  congr 1
  simp [cells8, hi]
theorem cellsOf5 : Tryz.prog.cellsOf 5 = 1 := by kernel_rfl
theorem mapM_lits (d : Nat) (ds : List Nat) (hlt : ∀ i, ds.getD i 0 < 256) : ∀ (is : List Nat), (∀ i ∈ is, i < ds.length) → is.mapM (fun i => Tryz.prog.keyLits (d + 1) 5 (((cells8 ds).toList.drop (i * Tryz.prog.cellsOf 5)).take (Tryz.prog.cellsOf 5))) = some (is.map fun i => [Lit.int .u8 ((ds.getD i 0 : Nat) : Int)])
  | [], _ => rfl
  | i :: is, h => by
    rw [List.mapM_cons, cellsOf5, drop8 ds i (h i (by simp)), lits5 d _ (hlt i)]
    have ih := mapM_lits d ds hlt is (fun j hj => h j (by simp [hj]))
    rw [cellsOf5] at ih
    rw [ih]
    rfl
theorem flat_lits (ds : List Nat) (h : ds.length = 32) : ((List.range 32).map fun i => [Lit.int .u8 ((ds.getD i 0 : Nat) : Int)]).flatten = ds.map fun n => Lit.int .u8 ((n : Nat) : Int) := by
  have : ((List.range 32).map fun i => [Lit.int .u8 ((ds.getD i 0 : Nat) : Int)]).flatten = (List.range 32).map fun i => Lit.int .u8 ((ds.getD i 0 : Nat) : Int) := by
    rw [← List.flatMap_def]
    simp
    rfl
  rw [this]
  apply List.ext_getElem
  · simp [h]
  · intro i h1 h2
    simp only [List.length_map] at h2
    simp [h2]
/-- A digest as a map's key. -/
def dKey (ds : List Nat) : Lit := .string (keyBytes (ds.map fun n => Lit.int .u8 ((n : Nat) : Int)))
theorem key_dig (ds : List Nat) (h : ds.length = 32) (hlt : ∀ i, ds.getD i 0 < 256) : keyOf Tryz.prog 72 (.agg (cells8 ds)) = some (dKey ds) := by
  have hu := Tryz.underlying72
  have hc : Tryz.prog.cellsOf 72 = 32 := by kernel_rfl
  have hk : Tryz.prog.keyType 72 = true := by kernel_rfl
  have hf : (Value.agg (cells8 ds)).formed Tryz.prog 72 = true := by simp [Value.formed, hu, hc, cells8_size, h]
  have hl : Tryz.prog.keyLits (Tryz.prog.types.size + 1) 72 (cells8 ds).toList = some (ds.map fun n => Lit.int .u8 ((n : Nat) : Int)) := by
    rw [show Tryz.prog.types.size = (Tryz.prog.types.size - 1) + 1 from by kernel_rfl]
    unfold Program.keyLits
    rw [hu]
    simp only []
    rw [if_pos (by rw [hc, Array.length_toList, cells8_size, h]), mapM_lits _ ds hlt _ (fun i hi => by rw [h]; exact List.mem_range.1 hi)]
    exact congrArg some (flat_lits ds h)
  unfold keyOf
  rw [hu]
  simp only [hk, hf, Bool.and_self, if_true]
  show (Tryz.prog.keyLits _ _ (cells8 ds).toList).map _ = _
  rw [hl]
  rfl
theorem lits_inj {a b : List Nat} (h : (a.map fun n => Lit.int .u8 ((n : Nat) : Int)) = b.map fun n => Lit.int .u8 ((n : Nat) : Int)) : a = b := by
  induction a generalizing b with
  | nil => cases b with
    | nil => rfl
    | cons y b => cases h
  | cons x a ih => cases b with
    | nil => cases h
    | cons y b =>
      simp only [List.map_cons] at h
      injection h with h1 h2
      injection h1 with _ h1
      rw [ih h2, Int.ofNat.inj h1]
/-- Two digests held against each other. -/
theorem eq_dig (d : Nat) (a b : List Nat) (ha : a.length = 32) (hb : b.length = 32) (ha' : ∀ i, a.getD i 0 < 256) (hb' : ∀ i, b.getD i 0 < 256) (w : World) :
    (Op.equalIn (d + 2) 72 (.agg (cells8 a)) (.agg (cells8 b))).run Tryz.prog w = .ok (decide (a = b)) w := by
  obtain ⟨i5, hi5⟩ := Option.isSome_iff_exists.1 (show (Tryz.prog.info? 5).isSome = true by kernel_rfl)
  rw [run_equalIn_array w (d + 1) (cells8 a) (cells8 b) Tryz.underlying72 hi5]
  obtain ⟨r, hr, hiff⟩ := run_eqItems_plain w d (e := 5) (by kernel_rfl) (cells8 a) (cells8 b) (List.range 32) _ _ (mapM_lits 0 a ha' _ (fun i hi => by rw [ha]; exact List.mem_range.1 hi)) (mapM_lits 0 b hb' _ (fun i hi => by rw [hb]; exact List.mem_range.1 hi))
  rw [flat_lits a ha, flat_lits b hb] at hiff
  have hi2 : r = true ↔ a = b := hiff.trans ⟨lits_inj, fun h => by rw [h]⟩
  have hd : r = decide (a = b) := by
    cases r with
    | true => exact (decide_eq_true (hi2.1 rfl)).symm
    | false => exact (decide_eq_false (fun h => by cases hi2.2 h)).symm
  rw [← hd]
  exact hr
theorem guard_dig : Tryz.prog.eqGuardType Tryz.prog.depth 72 = false := by kernel_rfl
theorem wpList_eqDig {ops : Array Oper} {Q : Exit → Act → World → Prop} {o : Oper} {rest : List Oper} {c : Act} {w : World} (hgd : o.guard = none) (x y : Operand) (k : TypeId) (hop : o.op = Op.binOp .eql 72 x y k) (a b : List Nat) (ha : a.length = 32) (hb : b.length = 32) (ha' : ∀ i, a.getD i 0 < 256) (hb' : ∀ i, b.getD i 0 < 256) (hx : c.eval x = .agg (cells8 a)) (hy : c.eval y = .agg (cells8 b))
    (hK : wpList Tryz.prog ops Q rest (c.put o.dst (.bool (decide (a = b)))) w) : wpList Tryz.prog ops Q (o :: rest) c w := by
  refine wpList_plain hgd fun K' hK' => ?_
  have hr := eq_dig 9998 a b ha hb ha' hb' w
  unfold Oper.wp execOp
  simp only [hop, hx, hy, eqGuard, binOp, Op.equal, Op.maxDepth, Sem.run_bind, Sem.run_pure, run_program, Result.andThen_ok, guard_dig, hr, Bool.not_true, Bool.not_false, Bool.false_eq_true, if_false, if_true]
  exact hK' _ _ hK
theorem wpList_neDig {ops : Array Oper} {Q : Exit → Act → World → Prop} {o : Oper} {rest : List Oper} {c : Act} {w : World} (hgd : o.guard = none) (x y : Operand) (k : TypeId) (hop : o.op = Op.binOp .neq 72 x y k) (a b : List Nat) (ha : a.length = 32) (hb : b.length = 32) (ha' : ∀ i, a.getD i 0 < 256) (hb' : ∀ i, b.getD i 0 < 256) (hx : c.eval x = .agg (cells8 a)) (hy : c.eval y = .agg (cells8 b))
    (hK : wpList Tryz.prog ops Q rest (c.put o.dst (.bool (!decide (a = b)))) w) : wpList Tryz.prog ops Q (o :: rest) c w := by
  refine wpList_plain hgd fun K' hK' => ?_
  have hr := eq_dig 9998 a b ha hb ha' hb' w
  unfold Oper.wp execOp
  simp only [hop, hx, hy, eqGuard, binOp, Op.equal, Op.maxDepth, Sem.run_bind, Sem.run_pure, run_program, Result.andThen_ok, guard_dig, hr, Bool.not_true, Bool.not_false, Bool.false_eq_true, if_false, if_true]
  exact hK' _ _ hK
end Go.Proofs.YteicpbcddjjceaaGreatDoor
