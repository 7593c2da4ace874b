/-
  PROVED HERE: a store's two maps: what they hold, value for value; the store whole on its disk; no walk.
-/
import Derived.Maps.Ext
import Derived.Maps.RangeWalk
import Derived.DeepKeys4
import Derived.Test.YteicpbcddjjceaaGreatDoorStGoOn
namespace Go.Proofs.YteicpbcddjjceaaGreatDoor
open Go.RowKit
/-- A map's element as it is. -/
def heldR (v : Value) : Option (DataW Value × List MemPlace) := some (.held v, [])
/-- The maps: of contents, of tags. -/
def CM (w : World) (b n : Nat) (D : DataW Value) : Prop := w.ownsMap Tryz.prog 72 heldR b n D
def TM (w : World) (b n : Nat) (D : DataW Value) : Prop := w.ownsMap Tryz.prog 9 heldR b n D
theorem dig_keyed : Maps.Keyed Tryz.prog 72 := Maps.Keyed.of_law (deep_law (P := Tryz.prog) (m := 2) (by decide) (by kernel_rfl) (by kernel_rfl) (by kernel_rfl))
theorem str_keyed : Maps.Keyed Tryz.prog 9 := Maps.string_keyed Tryz.underlying9
theorem owns_same {w w' : World} {k : TypeId} {b n : Nat} {D : DataW Value} (h : w.ownsMap Tryz.prog k heldR b n D) (hb : w'.heap[b]? = w.heap[b]?) : w'.ownsMap Tryz.prog k heldR b n D := by
  obtain ⟨es, clock, h1, F, hs, hD⟩ := h
  exact ⟨es, clock, hb.trans h1, F, hs, hD⟩
/-- The store whole: its block, its two maps, its disk. -/
structure StW (w : World) (sb : Nat) (s : PSt) (cb tb nc nt : Nat) (Dc Dt : DataW Value) : Prop where
  inn : s.In w
  gl : Gl w
  low : LowS s
  blk : w.heap[sb]? = some (.cells #[.pointer (some ⟨s.b, 0, none⟩), .map (some cb), .map (some tb)] 122 (0, 0))
  cm : CM w cb nc Dc
  tm : TM w tb nt Dt
  ncb : ¬ s.own cb
  ntb : ¬ s.own tb
  gcb : ¬ isG cb
  gtb : ¬ isG tb
  gsb : ¬ isG sb
  ne : cb ≠ tb
theorem StW.on {w : World} {sb : Nat} {s : PSt} {cb tb nc nt : Nat} {Dc Dt : DataW Value} (h : StW w sb s cb tb nc nt Dc Dt) : On w sb s := ⟨⟨_, _, h.blk⟩, h.inn, h.gl, h.low⟩
theorem StW.go {w w' : World} {sb : Nat} {s s' : PSt} {cb tb nc nt : Nat} {Dc Dt : DataW Value} (h : StW w sb s cb tb nc nt Dc Dt) (hg : PGo s s' w w') : StW w' sb s' cb tb nc nt Dc Dt := by
  have ho := h.on.go hg
  refine ⟨hg.inn, ho.gl, ho.low, ?_, owns_same h.cm (hg.gr.block _ h.cm.lt h.ncb), owns_same h.tm (hg.gr.block _ h.tm.lt h.ntb), fun e => ?_, fun e => ?_, h.gcb, h.gtb, h.gsb, h.ne⟩
  · rw [hg.b]
    exact hg.keeps h.inn h.blk (by decide) (by decide) (by decide) (by decide)
  · rcases hg.own _ e with e | e
    · exact h.ncb e
    · have := h.cm.lt; omega
  · rcases hg.own _ e with e | e
    · exact h.ntb e
    · have := h.tm.lt; omega
theorem StW.later {w w' : World} {sb : Nat} {s : PSt} {cb tb nc nt : Nat} {Dc Dt : DataW Value} (h : StW w sb s cb tb nc nt Dc Dt) (hb : Below w.heap.size w w') : StW w' sb s cb tb nc nt Dc Dt := h.go (PGo.refl h.inn hb)
theorem PSt.In.typed {s : PSt} {w : World} (h : s.In w) {k : Nat} (hk : s.own k) {cur : Array Value} {T : TypeId} {fr : Nat × Nat} (hc : w.heap[k]? = some (.cells cur T fr)) : T = 105 ∨ T = 227 ∨ T = 159 ∨ T = 5 := by
  have hm : ∀ {b : Nat} {l : List DE}, PM Tryz.prog 9 w b l → k ≠ b := by
    rintro b l ⟨es, clock, h1, _⟩ rfl
    rw [hc] at h1
    cases h1
  have hT : ∀ {cur' : Array Value} {T' : TypeId} {fr' : Nat × Nat}, w.heap[k]? = some (.cells cur' T' fr') → T = T' := by
    intro cur' T' fr' h'
    rw [hc] at h'
    cases h'
    rfl
  rcases hk with rfl | rfl | rfl | e | e | ⟨f, hf, e⟩
  · exact .inl (hT h.is.blk)
  · exact absurd rfl (hm h.is.now)
  · exact absurd rfl (hm h.is.safe)
  · obtain ⟨c, h1⟩ := own_obj h.is.chg k e; exact .inr (.inl (hT h1))
  · exact .inr (.inr (.inl (hT (h.fds k e).blk)))
  · obtain ⟨c, h1⟩ := own_obj (h.fds f hf).row k e; exact .inr (.inr (.inr (hT h1)))
/-- The store has other tags. -/
theorem StW.setTags {w : World} {sb : Nat} {s : PSt} {cb tb nc nt t2 n2 : Nat} {Dc Dt D2 : DataW Value} (h : StW w sb s cb tb nc nt Dc Dt) (ht : TM w t2 n2 D2) (ho : ¬ s.own t2) (hG : ¬ isG t2) (hc : cb ≠ t2) : StW (w.setCell ⟨sb, 2, none⟩ (.map (some t2))) sb s cb t2 nc n2 Dc D2 := by
  have hne : ∀ {x n : Nat} {k : TypeId} {D : DataW Value}, w.ownsMap Tryz.prog k heldR x n D → (w.setCell ⟨sb, 2, none⟩ (.map (some t2))).heap[x]? = w.heap[x]? := by
    rintro x n k D ⟨es, clock, h1, _⟩
    refine heap_setCell_other _ _ _ _ (fun e => ?_)
    have e : x = sb := e
    subst e
    rw [h.blk] at h1
    cases h1
  refine ⟨h.inn.same (fun k hk => heap_setCell_other _ _ _ _ (fun e => ?_)), h.gl.same (by simp) (fun k hk => heap_setCell_other _ _ _ _ (fun e => ?_)), h.low, ?_, owns_same h.cm (hne h.cm), owns_same ht (hne ht), h.ncb, ho, h.gcb, hG, h.gsb, hc⟩
  · have e : k = sb := e
    subst e
    rcases h.inn.typed hk h.blk with h3 | h3 | h3 | h3 <;> exact absurd h3 (by decide)
  · have e : k = sb := e
    subst e
    exact h.gsb hk
  · rw [heap_setCell_same _ sb 2 _ _ _ h.blk]
    rfl
end Go.Proofs.YteicpbcddjjceaaGreatDoor

/-
  PROVED HERE: what store.Open does where the disk has no layout, or an empty store at rest.
-/
namespace Go.Proofs.YteicpbcddjjceaaGreatDoor
open Go.RowKit
/-- The disk is such that an Open begins a store on it, or finds one that is empty and at rest. -/
def OpQ (D : DS) : Prop := ∃ t c, rdD D indexP = some t ∧ t.size ≤ 2000 ∧ readS t = .ok [] c ∧ (∀ e ∈ D.R.now, dgB e.path = false) ∧ rdD D (bPath 1) = none ∧ rdD D pruningP = none ∧ (rdD D layoutP).isSome = true
def OpR (D : DS) (k : Int) (D' : DS) : Prop := (rdD D layoutP = none ∧ BgR D k D') ∨ (OpQ D ∧ GoR D k D')
theorem three_maps (w : World) (b : Nat) : ∃ W, W = ((w.alloc (.map #[] 0)).alloc (.map #[] 0)).alloc (.cells #[.pointer (some ⟨b, 0, none⟩), .map (some w.heap.size), .map (some (w.heap.size + 1))] 122) ∧ Below w.heap.size w W ∧ W.heap.size = w.heap.size + 3 ∧
    CM W w.heap.size 0 (.map []) ∧ TM W (w.heap.size + 1) 0 (.map []) ∧ W.heap[w.heap.size + 1 + 1]? = some (.cells #[.pointer (some ⟨b, 0, none⟩), .map (some w.heap.size), .map (some (w.heap.size + 1))] 122 (0, 0)) := by
  refine ⟨_, rfl, three_below _ _ _ _, by simp, ?_, ?_, ?_⟩
  · exact ((World.ownsMap_made w _ _ _).alloc _).alloc _
  · have := (World.ownsMap_made (w.alloc (.map #[] 0)) Tryz.prog 9 heldR).alloc (.cells #[.pointer (some ⟨b, 0, none⟩), .map (some w.heap.size), .map (some (w.heap.size + 1))] 122)
    rwa [size_alloc] at this
  · have := heap_alloc_new ((w.alloc (.map #[] 0)).alloc (.map #[] 0)) (.cells #[.pointer (some ⟨b, 0, none⟩), .map (some w.heap.size), .map (some (w.heap.size + 1))] 122)
    rwa [size_alloc, size_alloc] at this
set_option maxHeartbeats 2000000 in
set_option maxRecDepth 100000 in
theorem openS_any (s : PSt) (w : World) {L C B : Nat} (h : s.In w) (hgl : Gl w) (hlow : LowS s) (hf : DFit s.ds L C B) (hb : Bud (L + s.R.now.length + 20) (C + s.R.now.length + 20) (B + 36)) (hps : ∀ e ∈ s.R.now, e.path.size ≤ 9223372036854775807) (hcase : rdD s.ds layoutP = none ∨ OpQ s.ds) :
    Calls Tryz.prog 45 #[.pointer (some ⟨s.b, 0, none⟩)] w fun e w' => ∃ k s' sv ev, e = .returned (.tuple #[sv, ev]) ∧ ErrV w' ev k ∧ PGo s s' w w' ∧ OpR s.ds k s'.ds ∧
      (k = 0 → ∃ sb cb tb, sv = .pointer (some ⟨sb, 0, none⟩) ∧ (w.heap.size ≤ sb ∧ w.heap.size ≤ cb) ∧ StW w' sb s' cb tb 0 0 (.map []) (.map [])) ∧ (k ≠ 0 → sv = .pointer none) := by
  obtain ⟨W, hW, hB, hsz, hcm, htm, hblk⟩ := three_maps w s.b
  have hmk1 := fun w => run_makeMap (P := Tryz.prog) 119 w
  have hmk2 := fun w => run_makeMap (P := Tryz.prog) 120 w
  have hst : StW W (w.heap.size + 1 + 1) s w.heap.size (w.heap.size + 1) 0 0 (.map []) (.map []) := ⟨h.later hB, hgl.later hB, hlow, hblk, hcm, htm, fun e => by have := h.lt e; omega, fun e => by have := h.lt e; omega, fun e => by have := hgl.lt e; omega, fun e => by have := hgl.lt e; omega, fun e => by have := hgl.lt e; omega, by omega⟩
  have HST := hide hst
  have HB := hide hB
  have HW := hide hW
  have H := hide h
  have HTH := hide (isThere_any (w.heap.size + 1 + 1) s layoutP W hst.on.sb hst.inn (by decide))
  have HBG := hide (fun (W' : World) (hg : PGo s s W W') => begin_any (w.heap.size + 1 + 1) s W' (hst.on.go hg) hf hb hps)
  have HGN := hide (fun (W' : World) (hg : PGo s s W W') (hq : OpQ s.ds) => by
    obtain ⟨t, c, q1, q2, q3, q4, q5, q6, q7⟩ := hq
    exact goOn_quiet (w.heap.size + 1 + 1) s t c W' (hst.on.go hg) hf hb hps q1 q2 q3 q4 q5 q6)
  have e1 : ∀ (args : Array Value) (w : World), (callFunc 74 args).run Tryz.prog w = .ok (.enter 74 args) w := enters_of Tryz.func74 (by kernel_rfl) rfl
  have e2 : ∀ (args : Array Value) (w : World), (callFunc 76 args).run Tryz.prog w = .ok (.enter 76 args) w := enters_of Tryz.func76 (by kernel_rfl) rfl
  clear hst hB hcm htm hblk h hgl hlow hf hb hps hW
  go_enter Tryz.func45, Tryz.ntmps45
  go_wp2_with fail
  rw [← HW.out]
  refine (HTH.out).mono ?_
  rintro _ w1 ⟨rfl, hg1⟩
  dsimp only
  have HG1 := hide hg1
  clear hg1 HTH HW hmk1 hmk2
  rcases hcase with hno | hq
  · rw [hno]
    dsimp only [Option.isSome]
    go_wp2_with fail
    refine (HBG.out _ HG1.out).mono ?_
    rintro _ w2 ⟨ev, k, s', rfl, hev, hg2, hr⟩
    dsimp only
    have HG2 := hide (HG1.out.trans hg2)
    have HR := hide hr
    clear hg2 hr
    rcases hev with ⟨rfl, rfl⟩ | ⟨hk0, sv, nm, rfl, hsv⟩
    · go_wp2_with fail
      refine bodyPost_ret (results_tmp2 rfl _ _ _) rfl ?_
      exact ⟨0, s', _, _, rfl, .inl ⟨rfl, rfl⟩, (PGo.refl H.out HB.out).trans HG2.out, .inl ⟨hno, HR.out⟩, fun _ => ⟨_, _, _, rfl, by omega, HST.out.go HG2.out⟩, fun hk => absurd rfl hk⟩
    · have HSV := hide hsv
      clear hsv
      go_wp2_with fail
      refine bodyPost_ret (results_tmp2 rfl _ _ _) rfl ?_
      exact ⟨k, s', _, _, rfl, .inr ⟨hk0, sv, nm, rfl, HSV.out⟩, (PGo.refl H.out HB.out).trans HG2.out, .inl ⟨hno, HR.out⟩, fun hk => absurd hk hk0, fun _ => rfl⟩
  · have hy : (rdD s.ds layoutP).isSome = true := by
      obtain ⟨t, c, q1, q2, q3, q4, q5, q6, q7⟩ := hq
      exact q7
    rw [hy]
    have HQ := hide hq
    clear hq hy
    go_wp2_with fail
    refine (HGN.out _ HG1.out HQ.out).mono ?_
    rintro _ w2 ⟨ev, k, s', rfl, hev, hg2, hr⟩
    dsimp only
    have HG2 := hide (HG1.out.trans hg2)
    have HR := hide hr
    clear hg2 hr
    rcases hev with ⟨rfl, rfl⟩ | ⟨hk0, sv, nm, rfl, hsv⟩
    · go_wp2_with fail
      refine bodyPost_ret (results_tmp2 rfl _ _ _) rfl ?_
      exact ⟨0, s', _, _, rfl, .inl ⟨rfl, rfl⟩, (PGo.refl H.out HB.out).trans HG2.out, .inr ⟨HQ.out, HR.out⟩, fun _ => ⟨_, _, _, rfl, by omega, HST.out.go HG2.out⟩, fun hk => absurd rfl hk⟩
    · have HSV := hide hsv
      clear hsv
      go_wp2_with fail
      refine bodyPost_ret (results_tmp2 rfl _ _ _) rfl ?_
      exact ⟨k, s', _, _, rfl, .inr ⟨hk0, sv, nm, rfl, HSV.out⟩, (PGo.refl H.out HB.out).trans HG2.out, .inr ⟨HQ.out, HR.out⟩, fun hk => absurd hk hk0, fun _ => rfl⟩
end Go.Proofs.YteicpbcddjjceaaGreatDoor
