/-
  PROVED HERE: what shown answers of an empty store, and afresh.
-/
import Derived.Test.YteicpbcddjjceaaGreatDoorErHeld
import Derived.Test.YteicpbcddjjceaaGreatDoorBsTags
import Derived.Test.YteicpbcddjjceaaGreatDoorRowLib
namespace Go.Proofs.YteicpbcddjjceaaGreatDoor
open Go.RowKit
theorem row_nil {w : World} {B : Nat} {e : TypeId} {size : Nat} {v : Value} (h : w.ownsRow B e size v 0 []) : ∃ o c, v = .slice o 0 c := own_sl h
set_option maxHeartbeats 2000000 in
set_option maxRecDepth 100000 in
theorem shown_none (N xb sb : Nat) (s : PSt) (cb tb nc nt : Nat) (w : World) (hx : BSt w xb sb) (hG : ¬ isG xb) (hNx : N ≤ xb) (h : StW w sb s cb tb nc nt (.map []) (.map [])) :
    Calls Tryz.prog 34 #[.pointer (some ⟨xb, 0, none⟩)] w fun e w' => e = .returned (.tuple #[.string ⟨#[]⟩, .bool true]) ∧ FB N w w' ∧ BSt w' xb sb ∧ StW w' sb s cb tb nc nt (.map []) (.map []) := by
  have HBB := hide (bBlobs_none N xb sb s cb tb nc nt (.map []) w hx hG hNx h)
  have HTT := hide (fun W (hx : BSt W xb sb) (h : StW W sb s cb tb nc nt (.map []) (.map [])) => bTags_any N xb sb s cb tb nc nt (.map []) (.map []) [] W hx hG hNx h tgs_none (by decide))
  clear hx h
  go_enter Tryz.func34, Tryz.ntmps34
  go_wp2_with fail
  refine (HBB.out).mono ?_
  rintro _ w1 ⟨rfl, hf1, hx1, hs1⟩
  dsimp only
  have HT1 := hide (HTT.out w1 hx1 hs1)
  have HF1 := hide hf1
  clear hf1 hx1 hs1 HBB HTT
  go_wp2_with fail
  refine (HT1.out).mono ?_
  rintro _ w2 ⟨v, rfl, hrow, hf2, hx2, hs2⟩
  dsimp only
  obtain ⟨o2, c2, rfl⟩ := row_nil hrow
  have HF2 := hide (HF1.out.trans hf2)
  have HX2 := hide hx2
  have HS2 := hide hs2
  clear hf2 hx2 hs2 hrow HT1 HF1
  go_wp2_with fail
  go_loopw [8, 9] (fun ov iv wr => ov = .string ⟨#[]⟩ ∧ iv = .int .i64 0 ∧ wr = w2) (fun _ _ _ => 0)
  case atStart => exact ⟨rfl, rfl, rfl⟩
  case round =>
    obtain ⟨rfl, rfl, rfl⟩ := hrel
    go_wp2_with fail
    go_loopw [8, 12] (fun ov iv w' => ov = .string ⟨#[]⟩ ∧ iv = .int .i64 0 ∧ w' = wr) (fun _ _ _ => 0)
    case atStart => exact ⟨rfl, rfl, rfl⟩
    case round =>
      obtain ⟨rfl, rfl, rfl⟩ := hrel
      go_wp2_with fail
      refine bodyPost_ret (results_tmp2 rfl _ _ _) rfl ?_
      exact ⟨rfl, HF2.out, HX2.out, HS2.out⟩
set_option maxHeartbeats 2000000 in
set_option maxRecDepth 100000 in
theorem afresh_any (N : Nat) (s : PSt) (d : Nat) (paths : Int) (kv : Value) (ks : List Int) (w : World) (h : DkW w d s) (hown : ∀ k, s.own k → N ≤ k) (hNw : N ≤ w.heap.size) (hka : KAt (fun k => N ≤ k) w kv ks) (he : Ea s.ds) (h3 : Rest3 s.ds) (hl : s.R.left = -1) (hf : DFit s.ds 100 100 36) (hr : 1000000 ≤ s.R.room) :
    Calls Tryz.prog 10 #[.pointer (some ⟨d, 0, none⟩), .int .i64 paths, kv, .string ⟨#[]⟩] w fun e w' => ∃ xb sb cb tb s', e = .returned (.pointer (some ⟨xb, 0, none⟩)) ∧ Below N w w' ∧ BSt w' xb sb ∧ N ≤ xb ∧ (N ≤ sb ∧ N ≤ cb) ∧ StW w' sb s' cb tb 0 0 (.map []) (.map []) ∧ DkW w' d s' ∧ (∀ k, s'.own k → N ≤ k) ∧ Rest3 s'.ds ∧ Ea s'.ds ∧ DFit s'.ds 100 1000 36 ∧ s'.R.left = -1 ∧ 1000000 ≤ s'.R.room := by
  have HSE := hide (settled_any N s d paths kv ks w h hown hNw hka he h3 hl hf (by decide) (by decide))
  have her : Er s.ds := ⟨he, h3.2.2⟩
  have hfit : DFit s.ds 6 100 36 := by
    have hlen : s.ds.R.safe.length + s.ds.R.chg.length ≤ 6 := by
      obtain ⟨y, x, z, hnow, _⟩ := h3.1
      rw [h3.2.1, h3.2.2, hnow]
      simp
    exact ⟨hlen, hf.c0, hf.c1, hf.l0, hf.l1, hf.r0, hf.r1, hf.dat, hf.chf, hf.inv, hf.inow, hf.isafe, hf.ichg, hf.rise⟩
  have HOP := hide (fun (s' : PSt) (W : World) (hg : PGo s s' w W) (e : s'.ds = s.ds) => bOpen_any s' W d (h.go hg).inn (h.go hg).gl (h.go hg).low (by rw [e]; exact hfit) (show Bud _ _ _ from ⟨by have : s'.R.now.length ≤ 6 := by { rw [show s'.R = s.R from congrArg DS.R e]; exact hfit.nowLen }; omega, by have : s'.R.now.length ≤ 6 := by { rw [show s'.R = s.R from congrArg DS.R e]; exact hfit.nowLen }; omega, by omega⟩) (by rw [show s'.R = s.ds.R from congrArg DS.R e]; exact her.paths) (by rw [e]; exact her.case) (h.go hg).bd)
  have H := hide h
  have HOW := hide hown
  have HER := hide her
  have HFI := hide hfit
  have HLE := hide (show s.ds.R.left = -1 from hl)
  have HRO := hide (show 1000000 ≤ s.ds.R.room from hr)
  clear h hown hka he h3 hl hf hr her hfit
  go_enter Tryz.func10, Tryz.ntmps10
  go_wp2_with fail
  refine (HSE.out).mono ?_
  rintro _ w1 ⟨rfl, s1, hg1, hd1⟩
  dsimp only
  have HO1 := hide (HOP.out s1 w1 hg1 hd1)
  have HG1 := hide hg1
  have HD1 := hide hd1
  have hN1 : N ≤ w1.heap.size := Nat.le_trans hNw hg1.gr.size
  clear hg1 hd1 HSE HOP
  go_wp2_with fail
  refine (HO1.out).mono ?_
  rintro _ w2 ⟨k, s2, sv, rfl, hg2, hop, hok, hno⟩
  dsimp only
  rw [HD1.out] at hop
  obtain ⟨rfl, kp, ea, r3⟩ := open_pure HER.out (by have := HRO.out; omega) hop
  have fit2 := open_fit HER.out (by have := HRO.out; omega) HFI.out hop
  obtain ⟨xb, sb, cb, tb, rfl, hbst, hlsb, hlxb, hst⟩ := hok rfl
  have hGx : ¬ isG xb := fun e => by have := ((H.out.go HG1.out).gl).lt e; omega
  have HSH := hide (shown_none N xb sb s2 cb tb 0 0 w2 hbst hGx (by omega) hst)
  have HG2 := hide (HG1.out.trans hg2)
  have HR3 := hide (r3 HLE.out)
  have HEA := hide ea
  have HF2 := hide fit2
  have HKP := hide kp
  clear hop hok hno hst hbst hg2 r3 ea fit2 kp HO1
  go_wp2_with fail
  refine (HSH.out).mono ?_
  rintro _ w3 ⟨rfl, hf3, hx3, hs3⟩
  dsimp only
  have HF3 := hide hf3
  have HX3 := hide hx3
  have HS3 := hide hs3
  clear hf3 hx3 hs3 HSH
  go_wp2_with fail
  go_ret
  have hb2 : Below N w w2 := HG2.out.low HOW.out hNw
  have hN2 : N ≤ w2.heap.size := Nat.le_trans hNw HG2.out.gr.size
  have hbd : BD w3 d s2.b := HF3.out.keep _ _ _ _ (H.out.go HG2.out).bd (by unfold fT; decide) (by decide)
  refine ⟨xb, sb, cb, tb, s2, rfl, hb2.trans ⟨HF3.out.os, HF3.out.tape, HF3.out.output, HF3.out.size, fun k hk => HF3.out.low k hk (by omega)⟩, HX3.out, by omega, by omega, HS3.out, ⟨HS3.out.inn, hbd, HS3.out.gl, HS3.out.low⟩, HG2.out.ownN HOW.out hNw, HR3.out, HEA.out, HF2.out.mono (by omega) (by omega) (Nat.le_refl _), HKP.out.2 HLE.out, ?_⟩
  have : s2.ds.R.room = s.ds.R.room := HKP.out.1
  show 1000000 ≤ s2.ds.R.room
  rw [this]
  exact HRO.out
end Go.Proofs.YteicpbcddjjceaaGreatDoor

/-
  PROVED HERE: what the program's Parse answers for every text: the index, or the error and the place.
-/
namespace Go.Proofs.YteicpbcddjjceaaGreatDoor
open Go.RowKit
def En.tg (e : En) : Tg := ⟨e.name, e.dig, e.size⟩
theorem ecells_tg (es : List En) : es.flatMap En.ecells = (es.map En.tg).flatMap Tg.ecells := by
  induction es with
  | nil => rfl
  | cons e es ih => rw [List.flatMap_cons, List.map_cons, List.flatMap_cons, ih]; rfl
set_option maxHeartbeats 1000000 in
set_option maxRecDepth 100000 in
theorem parseC_any (bt bn : Nat) (t : ByteArray) (w : World) (h0 : w.heap[bt]? = some (.cells #[.string t] 9 (0, 0))) (h1 : w.heap[bn]? = some (.cells #[.slice none 0 0] 78 (0, 0))) (ht : t.size ≤ 2000) :
    Calls Tryz.prog 57 #[.pointer (some ⟨bt, 0, none⟩), .pointer (some ⟨bn, 0, none⟩)] w fun e w' => Gr (fun k => k = bn) w w' ∧
      ((∃ es c v, readS t = .ok es c ∧ e = .returned (.tuple #[]) ∧ w'.heap[bn]? = some (.cells #[v] 78 (0, 0)) ∧ w'.ownsRow w.heap.size 130 34 v es.length (es.flatMap En.ecells) ∧ es.length ≤ 8) ∨
       (∃ p, readS t = .bad p ∧ e = gaveUp p ∧ w'.heap[bn]? = some (.cells #[.slice none 0 0] 78 (0, 0)))) := by
  have c0 := cell_of_row w bt 0 _ _ _ h0
  have hl := lt_heap h1
  have H1 := hide h1
  clear h0 h1
  go_enter Tryz.func57, Tryz.ntmps57
  go_wp2_with fail
  refine (readI_core t w ht).mono ?_
  rintro e w1 ⟨hb1, (⟨es, c, v, hm1, rfl, hown, hl8⟩ | ⟨p, hm1, rfl⟩)⟩
  · dsimp only
    obtain ⟨oa, cap, rfl⟩ := own_slice hown
    have hbn := (hb1.block bn hl).trans H1.out
    have c2 := cell_of_row w1 bn 0 _ _ _ hbn
    have f2 := frozen_of_row w1 bn 0 _ _ hbn
    have HBN := hide hbn
    have HOWN := hide hown
    have HM1 := hide hm1
    clear hbn hown hm1
    go_wp2_with fail
    go_end0
    refine ⟨(Gr.of_below hb1).trans (Gr.of_grownBy (grownBy_set w1 bn 0 _) rfl), Or.inl ⟨es, c, _, HM1.out, rfl, row_store (i := 0) _ HBN.out, ownsRow_other HOWN.out fun k hk => ?_, hl8⟩⟩
    exact heap_setCell_other _ _ _ _ (fun e => own_ne HOWN.out HBN.out (by decide) (by rw [hk]; exact congrArg some e))
  · dsimp only [gaveUp]
    exact ⟨rfl, Gr.of_below hb1, Or.inr ⟨p, hm1, rfl, (hb1.block bn hl).trans H1.out⟩⟩
set_option maxHeartbeats 1000000 in
set_option maxRecDepth 100000 in
theorem parse_long (t : ByteArray) (w : World) (ht : ¬ t.size ≤ 2000) :
    Calls Tryz.prog 29 #[.string t] w fun e w' => Below w.heap.size w w' ∧ e = .returned (.tuple #[.slice none 0 0, .int .i64 6, .int .i64 0]) := by
  have h1 : 2000 < (t.size : Int) := by omega
  go_enter Tryz.func29, Tryz.ntmps29
  go_wp2
  go_ret3
  exact ⟨(Below.refl _ _).alloc (Nat.le_refl _) _, rfl⟩
theorem allocs2 (w W : World) (o0 o1 : Obj) (hW : W = (w.alloc o0).alloc o1) : W.heap.size = w.heap.size + 2 ∧ W.heap[w.heap.size]? = some o0 ∧ W.heap[w.heap.size + 1]? = some o1 ∧ Below w.heap.size w W := by
  subst hW
  refine ⟨by simp, (Below.heap_alloc _ _ _ (by simp)).trans (heap_alloc_new _ _), ?_, ((Below.refl _ _).alloc (Nat.le_refl _) _).alloc (by simp) _⟩
  have h := heap_alloc_new (w.alloc o0) o1
  simp only [size_alloc] at h
  exact h
/-- Two cells far from a row are set. -/
theorem own_set2 {base : Nat} {e : TypeId} {size n : Nat} {v : Value} {xs : List Value} {w : World} (ho : w.ownsRow base e size v n xs) (g h : Nat) (hg : g < base) (hh : h < base) (x y : Value) : ((w.setCell ⟨g, 0, none⟩ x).setCell ⟨h, 0, none⟩ y).ownsRow base e size v n xs :=
  ownsRow_other ho fun k hk => by
    have := (ho.lt k hk).1
    rw [heap_setCell_other _ _ _ _ (show k ≠ h by omega), heap_setCell_other _ _ _ _ (show k ≠ g by omega)]
theorem below_set2 {B g h : Nat} {w W : World} (hb : Below B w W) (hg : B ≤ g) (hh : B ≤ h) (x y : Value) : Below B w ((W.setCell ⟨g, 0, none⟩ x).setCell ⟨h, 0, none⟩ y) :=
  (hb.setCell (p := ⟨g, 0, none⟩) hg x).setCell (p := ⟨h, 0, none⟩) hh y
set_option maxHeartbeats 2000000 in
set_option maxRecDepth 100000 in
theorem parse_any (t : ByteArray) (w : World) (ht : t.size ≤ 2000) :
    Calls Tryz.prog 29 #[.string t] w fun e w' => Below w.heap.size w w' ∧ ∃ v,
      ((∃ es c, readS t = .ok es c ∧ e = .returned (.tuple #[v, .int .i64 0, .int .i64 0]) ∧ w'.ownsRow w.heap.size 89 3 v es.length (((es.map En.tg).map Tg.told).flatMap Tg.cells) ∧ es.length ≤ 8) ∨
       (∃ p, readS t = .bad p ∧ e = .returned (.tuple #[v, .int .i64 7, .int .i64 ((p : Nat) : Int)]) ∧ w'.ownsRow w.heap.size 89 3 v 0 [])) := by
  have h1 : ¬ 2000 < (t.size : Int) := by omega
  have hmf : ∀ (fn : Fn) (first cap : Array Value) (w : World), (Instr.makeFunc fn first cap).run Tryz.prog w = .ok (.func fn first cap) w := fun _ _ _ _ => rfl
  go_enter Tryz.func29, Tryz.ntmps29
  go_wp2_with fail
  obtain ⟨W0, hW0⟩ : ∃ W0, W0 = (w.alloc (.cells #[.string t] 9)).alloc (.cells #[.slice none 0 0] 78) := ⟨_, rfl⟩
  rw [← hW0]
  obtain ⟨hz, r0, r1, hB⟩ := allocs2 _ _ _ _ hW0
  clear hW0
  have hz2 : w.heap.size + 2 ≤ W0.heap.size := by omega
  clear hz
  have hcall := reading_any 57 #[.pointer (some ⟨w.heap.size, 0, none⟩), .pointer (some ⟨w.heap.size + 1, 0, none⟩)] W0
    (fun W => ∃ es c v, readS t = .ok es c ∧ W.heap[w.heap.size + 1]? = some (.cells #[v] 78 (0, 0)) ∧ W.ownsRow (W0.heap.size + 2) 130 34 v es.length (es.flatMap En.ecells) ∧ es.length ≤ 8 ∧ Gr (fun k => k = w.heap.size + 1) W0 W)
    (fun p W => readS t = .bad p ∧ W.heap[w.heap.size + 1]? = some (.cells #[.slice none 0 0] 78 (0, 0)) ∧ Gr (fun k => k = w.heap.size + 1) W0 W)
    (enters_of Tryz.func57 (by kernel_rfl) rfl) (by
      obtain ⟨W2, hW2⟩ : ∃ W2, W2 = (W0.alloc (.cells #[.int .i64 0] 32)).alloc (.cells #[.int .i64 0] 3) := ⟨_, rfl⟩
      rw [← hW2]
      obtain ⟨hy, q0, q1, hB2⟩ := allocs2 _ _ _ _ hW2
      refine (parseC_any w.heap.size (w.heap.size + 1) t W2 ((hB2.block _ (by omega)).trans r0) ((hB2.block _ (by omega)).trans r1) ht).mono ?_
      rintro e W ⟨hg, h⟩
      refine ⟨⟨(hg.block _ (by omega) (by omega)).trans q0, (hg.block _ (by omega) (by omega)).trans q1⟩, ?_⟩
      have hgw := Gr.after_below hB2 hg (S := fun k => k = w.heap.size + 1) (fun k _ h => h)
      rcases h with ⟨es, c, v, a1, a2, a3, a4, a5⟩ | ⟨p, a1, a2, a3⟩
      · exact Or.inl ⟨a2, es, c, v, a1, a3, by rw [hy] at a4; exact a4, a5, hgw⟩
      · exact Or.inr ⟨p, a2, a1, a3, hgw⟩)
  refine hcall.mono ?_
  clear hcall r0 r1
  rintro e w' (⟨W, ⟨es, c, v, a1, a3, a4, a5, a6⟩, rfl, rfl⟩ | ⟨p, W, ⟨a1, a3, a6⟩, rfl, rfl⟩)
  · dsimp only
    obtain ⟨oa, cap, rfl⟩ := own_slice a4
    have hbW : Below w.heap.size w ((W.setCell ⟨W0.heap.size, 0, none⟩ (.int .i64 0)).setCell ⟨W0.heap.size + 1, 0, none⟩ (.int .i64 0)) := below_set2 (below_two hB a6 (by intro k hk; omega)) (by omega) (by omega) _ _
    have hown := own_set2 a4 W0.heap.size (W0.heap.size + 1) (by omega) (by omega) (.int .i64 0) (.int .i64 0)
    have hrow : ((W.setCell ⟨W0.heap.size, 0, none⟩ (.int .i64 0)).setCell ⟨W0.heap.size + 1, 0, none⟩ (.int .i64 0)).heap[w.heap.size + 1]? = some (.cells #[.slice oa es.length cap] 78 (0, 0)) := by
      rw [heap_setCell_other _ _ _ _ (by show w.heap.size + 1 ≠ W0.heap.size + 1; omega), heap_setCell_other _ _ _ _ (by show w.heap.size + 1 ≠ W0.heap.size; omega)]
      exact a3
    generalize (W.setCell ⟨W0.heap.size, 0, none⟩ (.int .i64 0)).setCell ⟨W0.heap.size + 1, 0, none⟩ (.int .i64 0) = W5 at hbW hown hrow ⊢
    have c1 := cell_of_row W5 _ 0 _ _ _ hrow
    have HOWN := hide hown
    have HBW := hide hbW
    have HA1 := hide a1
    clear hown hbW hrow a1 a3 a4 a6 hB
    go_wp2_with fail
    rw [ecells_tg] at HOWN
    refine (tagsOf_core _ (es.map En.tg) W5 es.length (by simp) a5 _ HOWN.out).mono ?_
    rintro e w7 ⟨hb7, v', rfl, hown7⟩
    dsimp only
    have HB7 := hide (HBW.out.trans (hb7.mono HBW.out.size))
    have HO7 := hide (own_mono hown7 HBW.out.size)
    clear hb7 hown7
    go_wp2_with fail
    go_ret3
    exact ⟨HB7.out, v', Or.inl ⟨es, c, HA1.out, rfl, HO7.out, a5⟩⟩
  · dsimp only
    have hbW : Below w.heap.size w ((W.setCell ⟨W0.heap.size, 0, none⟩ (.int .i64 7)).setCell ⟨W0.heap.size + 1, 0, none⟩ (.int .i64 ((p : Nat) : Int))) := below_set2 (below_two hB a6 (by intro k hk; omega)) (by omega) (by omega) _ _
    have hrow : ((W.setCell ⟨W0.heap.size, 0, none⟩ (.int .i64 7)).setCell ⟨W0.heap.size + 1, 0, none⟩ (.int .i64 ((p : Nat) : Int))).heap[w.heap.size + 1]? = some (.cells #[.slice none 0 0] 78 (0, 0)) := by
      rw [heap_setCell_other _ _ _ _ (by show w.heap.size + 1 ≠ W0.heap.size + 1; omega), heap_setCell_other _ _ _ _ (by show w.heap.size + 1 ≠ W0.heap.size; omega)]
      exact a3
    generalize (W.setCell ⟨W0.heap.size, 0, none⟩ (.int .i64 7)).setCell ⟨W0.heap.size + 1, 0, none⟩ (.int .i64 ((p : Nat) : Int)) = W5 at hbW hrow ⊢
    have c1 := cell_of_row W5 _ 0 _ _ _ hrow
    have HBW := hide hbW
    have HA1 := hide a1
    clear hbW hrow a1 a3 a6 hB
    go_wp2_with fail
    refine (tagsOf_core (.slice none 0 0) [] W5 0 rfl (by decide) 0 (World.ownsRow_nil _ _ _ _)).mono ?_
    rintro e w7 ⟨hb7, v', rfl, hown7⟩
    dsimp only
    have HB7 := hide (HBW.out.trans (hb7.mono HBW.out.size))
    have HO7 := hide (own_mono hown7 HBW.out.size)
    clear hb7 hown7
    go_wp2_with fail
    go_ret3
    exact ⟨HB7.out, v', Or.inr ⟨p, HA1.out, rfl, HO7.out⟩⟩
end Go.Proofs.YteicpbcddjjceaaGreatDoor

/-
  PROVED HERE: what the program's function Print of package blobs answers for every list of entries: the index's text, or that it is none; nothing that was there has turned.
-/
namespace Go.Proofs.YteicpbcddjjceaaGreatDoor
open Go.RowKit
/-- The answer's text and error. -/
def pText (l : List Tg) : ByteArray := if indexB l then ⟨(prTo l l.length ++ [93, 125]).toArray⟩ else ⟨#[]⟩
def pErr (l : List Tg) : Int := if indexB l then 0 else 5
theorem good_facts {l : List Tg} (h : indexB l = true) : l.length ≤ 8 ∧ ∀ k, k < l.length → (l.getD k default).name.size ≤ 20 ∧ 0 ≤ (l.getD k default).size ∧ (l.getD k default).size ≤ 300 := by
  unfold indexB at h
  simp only [Bool.and_eq_true, decide_eq_true_iff] at h
  refine ⟨h.1, fun k hk => ?_⟩
  have := h.2 k hk
  unfold goodB at this
  simp only [Bool.and_eq_true, decide_eq_true_iff] at this
  refine ⟨?_, this.2.2.2.1, this.2.2.2.2⟩
  have h2 := this.2.1
  unfold isTagB at h2
  simp only [Bool.and_eq_true, decide_eq_true_iff] at h2
  exact h2.1.1.2
set_option maxHeartbeats 1000000 in
set_option maxRecDepth 100000 in
theorem ownPrint_any (oa : Option Addr) (ca : Nat) (l : List Tg) (w : World) (ha : TagsAt w oa l) (hsz : ∀ i, (l.getD i default).name.size ≤ 9223372036854775807) (htab : Lib.TabIs Tryz.prog w "internal/strconv.uint64pow10" .u64 Lib.pow10Tab) :
    Calls Tryz.prog 30 #[.slice oa l.length ca] w fun e w' => e = .returned (.tuple #[.string (pText l), .int .i64 (pErr l)]) ∧ Below w.heap.size w w' := by
  have HC := hide (check_any oa ca l w ha hsz)
  have HT := hide htab
  clear ha hsz htab
  generalize hn : l.length = n at HC
  have HN := hide hn
  clear hn
  go_enter Tryz.func30, Tryz.ntmps30
  go_wp2_with fail
  refine HC.out.mono ?_
  rintro e w1 ⟨hb1, h⟩
  rcases h with ⟨hi, v, rfl, hown⟩ | ⟨hi, rfl⟩
  · dsimp only
    obtain ⟨h8, hl⟩ := good_facts hi
    have hp := print_core v l w1 n HN.out (by rw [← HN.out]; exact h8) w.heap.size hown (by rw [HN.out] at hl; exact hl) (tab_later gPow (tab_lt gPow HT.out) HT.out hb1)
    have HP := hide hp
    have e1 : pText l = ⟨(prTo l n ++ [93, 125]).toArray⟩ := by unfold pText; rw [hi, HN.out]; rfl
    have e2 : pErr l = 0 := by unfold pErr; rw [hi]; rfl
    have H12 := hide (And.intro e1 e2)
    clear hp e1 e2 hown hl h8
    go_wp2_with (go_at_call 60; refine HP.out.mono ?_; rintro _ w2 ⟨rfl, hb2⟩)
    (try simp only [Exit.inBlock, Exit.then])
    refine bodyPost_ret (results_tmp2 rfl _ _ _) rfl ?_
    refine ⟨?_, hb1.trans (hb2.mono hb1.size)⟩
    rw [H12.out.1, H12.out.2]
    rfl
  · dsimp only
    have e1 : pText l = ⟨#[]⟩ := by unfold pText; rw [hi]; rfl
    have e2 : pErr l = 5 := by unfold pErr; rw [hi]; rfl
    have H12 := hide (And.intro e1 e2)
    clear e1 e2
    go_wp2
    (try simp only [Exit.inBlock, Exit.then])
    refine bodyPost_ret (results_tmp2 rfl _ _ _) rfl ?_
    refine ⟨?_, hb1⟩
    rw [H12.out.1, H12.out.2]
    rfl
end Go.Proofs.YteicpbcddjjceaaGreatDoor

/-
  PROVED HERE: that valid of the statement answers true of a store at rest that is empty, or has one content and one tag.
-/
namespace Go.Proofs.YteicpbcddjjceaaGreatDoor
open Go.RowKit
set_option maxHeartbeats 4000000 in
set_option maxRecDepth 100000 in
theorem valid_three (s : PSt) (d : Nat) (w : World) (h : DkW w d s) (h3 : ThreeL s.fd s.R.now) :
    Calls Tryz.prog 9 #[.pointer (some ⟨d, 0, none⟩)] w fun e w' => e = .returned (.bool true) ∧ PGo s s w w' := by
  obtain ⟨y, x, z, hnow, fx, fy, fz⟩ := h3
  have n1 : indexP ≠ journalP := by decide
  have n2 : indexP ≠ layoutP := by decide
  have n3 : journalP ≠ layoutP := by decide
  have f1 : findE indexP s.R.now = some y := by rw [hnow]; rfl
  have f2 : findE journalP s.R.now = some x := by rw [hnow]; simp [findE, n1]
  have f3 : findE layoutP s.R.now = some z := by rw [hnow]; simp [findE, n2, n3]
  have HLS := hide (bList_any s d w h (by rw [hnow]; simp))
  have HRL := hide (fun W (hg : PGo s s w W) => bRead_any s d z layoutP W (h.go hg) (by decide) f3)
  have HRI := hide (fun W (hg : PGo s s w W) => bRead_any s d y indexP W (h.go hg) (by decide) f1)
  have HRJ := hide (fun W (hg : PGo s s w W) => bRead_any s d x journalP W (h.go hg) (by decide) f2)
  rw [fz] at HRL
  rw [fy] at HRI
  rw [fx] at HRJ
  have hl3 : s.R.now.length = 3 := by rw [hnow]; rfl
  rw [hl3] at HLS
  have H := hide h
  clear h hnow fx fy fz f1 f2 f3 hl3
  unfold layoutP at HRL
  unfold indexP at HRI
  unfold journalP at HRJ
  go_enter Tryz.func9, Tryz.ntmps9
  go_wp2_with fail
  refine (HLS.out).mono ?_
  rintro _ w1 ⟨v, rfl, hrow, hb1⟩
  dsimp only
  obtain ⟨so, sc, rfl⟩ := own_sl hrow
  have HG1 := hide (PGo.refl H.out.inn hb1)
  clear hrow hb1 HLS
  go_wp2_with fail
  refine (HRL.out _ HG1.out).mono ?_
  rintro _ w2 ⟨rfl, hg2⟩
  dsimp only
  have HG2 := hide (HG1.out.trans hg2)
  clear hg2 HRL
  go_wp2_with fail
  refine (HRI.out _ HG2.out).mono ?_
  rintro _ w3 ⟨rfl, hg3⟩
  dsimp only
  have HG3 := hide (HG2.out.trans hg3)
  clear hg3 HRI
  go_wp2_with fail
  refine (HRJ.out _ HG3.out).mono ?_
  rintro _ w4 ⟨rfl, hg4⟩
  dsimp only
  have HG4 := hide (HG3.out.trans hg4)
  clear hg4 HRJ
  have hlT : layoutT = ⟨#[123, 34, 118, 101, 114, 115, 105, 111, 110, 34, 58, 49, 125]⟩ := rfl
  rw [hlT]
  have HPA := hide (parse_any emptyT w4 (by decide))
  generalize hET : emptyT = ET at *
  clear hlT
  go_wp2_with fail
  refine (HPA.out).mono ?_
  rintro e5 w5 ⟨hb5, v5, hv5⟩
  obtain ⟨o5, c5, rfl⟩ : ∃ o5 c5, e5 = .returned (.tuple #[.slice o5 0 c5, .int .i64 0, .int .i64 0]) := by
    rcases hv5 with ⟨es, c, hr, rfl, hrow, _⟩ | ⟨p, hr, _⟩
    · rw [← hET, read_empty.choose_spec] at hr
      injection hr with hr _
      subst hr
      obtain ⟨o, c, rfl⟩ := own_sl hrow
      exact ⟨o, c, rfl⟩
    · rw [← hET, read_empty.choose_spec] at hr
      cases hr
  dsimp only
  have hg5 : PGo s s w w5 := HG4.out.trans (PGo.refl HG4.out.inn hb5)
  have HPR := hide (ownPrint_any o5 c5 [] w5 (fun i hi => by cases hi) (fun i => by simp; decide) ((H.out.go hg5).gl.tab))
  rw [show pText [] = ET from hET ▸ rfl, show pErr [] = 0 from rfl] at HPR
  have HG5 := hide hg5
  clear hb5 hv5 hg5 hET HPA
  go_wp2_with fail
  refine (HPR.out).mono ?_
  rintro _ w6 ⟨rfl, hb6⟩
  dsimp only
  have HG6 := hide (HG5.out.trans (PGo.refl HG5.out.inn hb6))
  clear hb6 HPR
  go_wp2_with fail
  go_loopw [16] (fun iv w' => iv = .int .i64 0 ∧ w' = w6) (fun _ _ => 0)
  case atStart => exact ⟨rfl, rfl⟩
  case round =>
    obtain ⟨rfl, rfl⟩ := hrel
    go_wp2_with fail
    go_loopw [21] (fun iv w' => iv = .int .i64 0 ∧ w' = wr) (fun _ _ => 0)
    case atStart => exact ⟨rfl, rfl⟩
    case round =>
      obtain ⟨rfl, rfl⟩ := hrel
      go_wp2_with fail
      go_ret
      exact ⟨rfl, HG6.out⟩
end Go.Proofs.YteicpbcddjjceaaGreatDoor
