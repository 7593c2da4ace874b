/-
  PROVED HERE: what load of a store does where the index has no tag and no path is one of a content.
-/
import Derived.Test.YteicpbcddjjceaaGreatDoorStBegin
import Derived.Test.YteicpbcddjjceaaGreatDoorReading
namespace Go.Proofs.YteicpbcddjjceaaGreatDoor
open Go.RowKit
set_option maxHeartbeats 2000000 in
set_option maxRecDepth 100000 in
theorem load_quiet (sb : Nat) (s : PSt) (p t : ByteArray) (c : Nat) (w : World) (h : On w sb s) (hp : p.size ≤ 9223372036854775807) (hrd : rdD s.ds p = some t) (ht : t.size ≤ 2000) (hr : readS t = .ok [] c) (hn : s.R.now.length ≤ 100000000) (hq : ∀ e ∈ s.R.now, dgB e.path = false) :
    Calls Tryz.prog 129 #[.pointer (some ⟨sb, 0, none⟩), .string p] w fun e w' => e = .returned (.tuple #[]) ∧ PGo s s w w' := by
  have HRD := hide (dkRead s p w h.inn hp)
  rw [hrd] at HRD
  dsimp only [Option.getD, Option.isSome] at HRD
  have HR := hide hr
  have HQ := hide hq
  have H := hide h
  obtain ⟨cv, tv, hbl⟩ := h.sb
  have c0 := cell_of_row _ _ 0 _ _ _ hbl
  clear h hr hq hbl hrd
  have hz4 := (zero_of_info Tryz.info72).1
  go_enter Tryz.func129, Tryz.ntmps129
  go_wp2_with fail
  refine (HRD.out).mono ?_
  rintro _ w1 ⟨v, k, rfl, -, -, hg1, hi1⟩
  dsimp only
  have hgo1 : PGo s s w w1 := ⟨rfl, hi1, hg1, fun k hk => .inl hk⟩
  have HGO1 := hide hgo1
  have HON1 := hide (H.out.go hgo1)
  have HRI := hide (fun W => readI_core t W ht)
  clear hgo1 hg1 hi1 HRD c0
  go_wp2_with fail
  refine (HRI.out _).mono ?_
  rintro e2 w2 ⟨hb2, he2⟩
  have he3 : ∃ oa cap, e2 = .returned (.slice oa 0 cap) := by
    rcases he2 with ⟨es, c', v', h1, h2, h3, -⟩ | ⟨pp, h1, -⟩
    · rw [HR.out] at h1
      injection h1 with h1
      subst h1
      obtain ⟨oa, cap, h4⟩ := own_sl h3
      exact ⟨oa, cap, by rw [h2, h4]; rfl⟩
    · rw [HR.out] at h1
      cases h1
  obtain ⟨oa, cap, rfl⟩ := he3
  clear he2
  dsimp only
  have HGO2 := hide (HGO1.out.trans (PGo.refl HGO1.out.inn hb2))
  have HON2 := hide (HON1.out.later hb2)
  clear hb2 HRI HR
  go_wp2_with fail
  go_loopw [24] (fun iv wr => iv = .int .i64 0 ∧ wr = w2) (fun _ _ => 0)
  case atStart => exact ⟨rfl, rfl⟩
  case round =>
    obtain ⟨rfl, rfl⟩ := hrel
    obtain ⟨cv2, tv2, hbl2⟩ := HON2.out.sb
    have c2 := cell_of_row _ _ 0 _ _ _ hbl2
    have HLS := hide (plist_any s.b s.R s.mb s.lb s.cv _ HON2.out.inn.is hn)
    clear hbl2
    go_wp2_with fail
    refine (HLS.out).mono ?_
    rintro _ w3 ⟨v3, rfl, hrow, hb3⟩
    dsimp only
    obtain ⟨ov, cp, hv⟩ := own_sl hrow
    subst hv
    have HRS := hide (own_str hrow)
    have HGO3 := hide (HGO2.out.trans (PGo.refl HGO2.out.inn hb3))
    clear hrow hb3 HLS c2
    obtain ⟨n, hnl⟩ : ∃ n, n = s.R.now.length := ⟨_, rfl⟩
    rw [← hnl] at hn ⊢
    have HNL := hide hnl
    clear hnl
    go_wp2_with fail
    go_loopw [42] (fun iv wr => ∃ j : Nat, j ≤ n ∧ iv = .int .i64 ((j : Nat) : Int) ∧ Below w3.heap.size w3 wr) (fun iv _ => n - (intOf iv).toNat)
    case atStart => exact ⟨0, Nat.zero_le _, rfl, Below.refl _ _⟩
    case round =>
      obtain ⟨j, hj, rfl, hbr⟩ := hrel
      by_cases hlt : j < n
      · obtain ⟨o, cc, hv, hk⟩ := HRS.out
        injection hv with hv1 hv2 hv3
        subst hv1
        clear hv2 hv3
        obtain ⟨g, rfl, hg2⟩ := hk j (by rw [← HNL.out]; exact hlt)
        have hq1 : dgB (s.R.now.getD j DE0).path = false := by
          have hj2 : j < s.R.now.length := by rw [← HNL.out]; exact hlt
          rw [getDE hj2]
          exact HQ.out _ (List.getElem_mem hj2)
        generalize (s.R.now.getD j DE0).path = pp at hg2 hq1
        have r0 := cell_later hbr hg2
        have HDG := hide (digestAt_any pp wr)
        rw [hq1] at HDG
        have HBR := hide hbr
        have d1 : decide (((j : Nat) : Int) < ((n : Nat) : Int)) = true := decide_eq_true (by omega)
        clear hk hg2 hbr
        go_wp2_with fail
        refine (HDG.out).mono ?_
        rintro _ w4 ⟨rfl, hb4⟩
        dsimp only
        have hb5 := HBR.out.trans (hb4.mono HBR.out.size)
        have HB5 := hide hb5
        have hb6 : Below w3.heap.size w3 (w4.alloc (.cells (cells8 (dgV pp)) 72)) := hb5.alloc hb5.size _
        have HB6 := hide hb6
        have hdl := dgV_len pp
        clear hb4 hb5 HDG r0 hb6
        go_wp2_with (refine wpList_store_row rfl 72 _ _ rfl w4.heap.size _ rfl rfl 72 _ (heap_alloc_new _ _) (size40 _ hdl) (by rw [cells8_size, cells8_size, hdl, Sha.zeros_len]) (cells8_one _) ?_; rw [World.setRow_alloc_new])
        exact ⟨⟨j + 1, hlt, by simp, HB6.out⟩, by simp only [intOf]; omega⟩
      · have hjn : j = n := by omega
        subst hjn
        have d1 : decide (((j : Nat) : Int) < ((j : Nat) : Int)) = false := decide_eq_false (by omega)
        have HBR := hide hbr
        clear hbr
        go_wp2_with fail
        go_end0
        exact ⟨rfl, HGO3.out.trans (PGo.refl HGO3.out.inn HBR.out)⟩
end Go.Proofs.YteicpbcddjjceaaGreatDoor

/-
  PROVED HERE: what goOn of a store does where nothing was under way, there is no tag and no content.
-/
namespace Go.Proofs.YteicpbcddjjceaaGreatDoor
open Go.RowKit
/-- What goOn leaves where nothing was under way. -/
def GoR (D : DS) (k : Int) (D' : DS) : Prop := ∃ k1 m D1, Ran D (rmS foreignB D.R.now) k1 m D1 ∧ ((k1 ≠ 0 ∧ k = k1 ∧ D' = D1) ∨ (k1 = 0 ∧ stR D1 sSd k D'))
set_option maxHeartbeats 2000000 in
set_option maxRecDepth 100000 in
theorem goOn_quiet (sb : Nat) (s : PSt) (t : ByteArray) (c : Nat) (w : World) {L C B : Nat} (h : On w sb s) (hf : DFit s.ds L C B) (hb : Bud (L + s.R.now.length + 20) (C + s.R.now.length + 20) (B + 36)) (hps : ∀ e ∈ s.R.now, e.path.size ≤ 9223372036854775807)
    (hrd : rdD s.ds indexP = some t) (ht : t.size ≤ 2000) (hr : readS t = .ok [] c) (hq : ∀ e ∈ s.R.now, dgB e.path = false) (h1 : rdD s.ds (bPath 1) = none) (h2 : rdD s.ds pruningP = none) :
    Calls Tryz.prog 76 #[.pointer (some ⟨sb, 0, none⟩)] w fun e w' => ∃ ev k s', e = .returned ev ∧ ErrV w' ev k ∧ PGo s s' w w' ∧ GoR s.ds k s'.ds := by
  have hn : s.R.now.length ≤ 100000000 := by have := hf.nowLen; have := hb.1; exact Nat.le_trans hf.nowLen (by omega)
  have HBP := hide (besidePath_any 1 (by decide) w h.gl.tab)
  have HT1 := hide (fun (W : World) (hg : PGo s s w W) => isThere_any sb s (bPath 1) W (h.go hg).sb hg.inn (Nat.le_trans (bPath_size 1 (by decide)) (by decide)))
  have HT2 := hide (fun (W : World) (hg : PGo s s w W) => isThere_any sb s pruningP W (h.go hg).sb hg.inn (by decide))
  rw [h1] at HT1
  rw [h2] at HT2
  dsimp only [Option.isSome] at HT1 HT2
  have HLD := hide (fun (W : World) (hg : PGo s s w W) => load_quiet sb s indexP t c W (h.go hg) (by decide) hrd ht hr hn hq)
  have HRM := hide (fun (W : World) (hg : PGo s s w W) => removeAll_any sb s 133 foreignB W (h.go hg) hf (hb.mono (by omega) (by omega) (by omega)) (enters_of Tryz.func133 (by kernel_rfl) rfl) hps (fun p W => (isForeign_any p W).mono (by rintro _ _ ⟨rfl, h⟩; exact ⟨rfl, h⟩)))
  have H := hide h
  have HF := hide hf
  have HB := hide hb
  clear h hf hb hps hrd hr hq h1 h2 hn
  go_enter Tryz.func76, Tryz.ntmps76
  go_wp2_with fail
  refine (HBP.out).mono ?_
  rintro _ w1 ⟨rfl, hb1⟩
  dsimp only
  have HG1 := hide (PGo.refl H.out.inn hb1)
  clear hb1 HBP
  go_wp2_with fail
  refine (HT1.out _ HG1.out).mono ?_
  rintro _ w2 ⟨rfl, hg2⟩
  dsimp only
  have HG2 := hide (HG1.out.trans hg2)
  clear hg2 HG1 HT1
  go_wp2_with fail
  refine (HLD.out _ HG2.out).mono ?_
  rintro _ w3 ⟨rfl, hg3⟩
  dsimp only
  have HG3 := hide (HG2.out.trans hg3)
  clear hg3 HG2 HLD
  go_wp2_with fail
  refine (HT2.out _ HG3.out).mono ?_
  rintro _ w4 ⟨rfl, hg4⟩
  dsimp only
  have HG4 := hide (HG3.out.trans hg4)
  clear hg4 HG3 HT2
  go_wp2_with fail
  refine (HRM.out _ HG4.out).mono ?_
  rintro _ w5 ⟨ev, k1, m, s1, rfl, hev, hg5, hr5⟩
  dsimp only
  have HG5 := hide (HG4.out.trans hg5)
  have HR5 := hide hr5
  clear hg5 hr5 HG4 HRM
  rcases hev with ⟨rfl, rfl⟩ | ⟨hk0, sv, nm, rfl, hsv⟩
  · have ho5 := H.out.go HG5.out
    obtain ⟨cv, tv, hbl⟩ := ho5.sb
    have c0 := cell_of_row _ _ 0 _ _ _ hbl
    have hfit : DFit s1.ds (L + s.R.now.length) (C + s.R.now.length) B := (HF.out.ran HR5.out).mono (by have := rmS_len foreignB s.R.now; exact Nat.add_le_add_left this _) (by have := rmS_len foreignB s.R.now; exact Nat.add_le_add_left this _) (by rw [rmS_szs]; exact Nat.le_refl _)
    have HSD := hide (dk_sd (s := s1) (w := w5) ho5.inn hfit (HB.out.mono (by omega) (by omega) (by omega)))
    clear ho5 hbl hfit
    go_wp2_with fail
    refine (HSD.out).mono ?_
    rintro _ w6 ⟨ev, k, s2, rfl, hv, hg6, hst⟩
    dsimp only
    have HG6 := hide (HG5.out.trans hg6)
    have HST := hide hst
    have HV := hide hv
    clear hg6 hst hv
    go_wp2_with fail
    go_ret
    exact ⟨_, k, s2, rfl, HV.out, HG6.out, 0, m, s1.ds, HR5.out, .inr ⟨rfl, HST.out⟩⟩
  · have HSV := hide hsv
    clear hsv
    go_wp2_with fail
    go_ret
    exact ⟨_, k1, s1, rfl, .inr ⟨hk0, sv, nm, rfl, HSV.out⟩, HG5.out, k1, m, s1.ds, HR5.out, .inl ⟨hk0, rfl, rfl⟩⟩
end Go.Proofs.YteicpbcddjjceaaGreatDoor
