/-
  PROVED HERE: what the statement's own function paths does with a list of paths that came out.
-/
import Derived.Test.YtjipdjkcdoajbaaGreatDoorBkKept
namespace Go.Proofs.YtjipdjkcdoajbaaGreatDoor
open Go.RowKit
theorem strs_cells {w : World} {base g n cap : Nat} {xs : List Value} (h : w.ownsRow base 9 1 (.slice (some ⟨g, 0, none⟩) n cap) n xs) : ∀ j u, xs[j]? = some u → w.cell? ((⟨g, 0, none⟩ : Addr).add j) = some u := by
  intro j u hu
  rcases h.2 with ⟨e, -⟩ | ⟨g2, cap2, cur, e, hb, hg, hc, hm, hcs, htk⟩
  · cases e
  · injection e with e1 e2 e3
    injection e1 with e1
    injection e1 with e1
    subst e1
    have hj := (List.getElem?_eq_some_iff.1 hu).1
    have hlen := h.1
    rw [Addr.add_mid, Nat.zero_add, cell_of_row w g j _ _ _ hg, ← hu, ← htk, List.getElem?_take, if_pos (by omega)]
    simp
theorem strs_one (ps : List ByteArray) : ∀ u ∈ strs ps, u.oneCell' = true := by
  intro u hu
  obtain ⟨x, _, rfl⟩ := List.mem_map.1 hu
  rfl
theorem gr_more {S S' : Nat → Prop} {w w1 w2 : World} (h1 : Gr S w w1) (h2 : Gr S' w1 w2) (hS : ∀ k, k < w.heap.size → S' k → S k) : Gr S w w2 :=
  ⟨h2.os.trans h1.os, h2.tape.trans h1.tape, h2.output.trans h1.output, Nat.le_trans h1.size h2.size, fun k hk hn => (h2.block k (Nat.lt_of_lt_of_le hk h1.size) (fun e => hn (hS k hk e))).trans (h1.block k hk hn)⟩
theorem pbks4 {N came : Nat} {kp wp av : Value} {w : World} {bb : Nat} {bs : List PB} (h : BkP w bb N came kp wp av bs) : BkP ((((w.setCell ⟨bb, 2, none⟩ (.bool false)).setCell ⟨bb, 7, none⟩ (.slice none 0 0)).setCell ⟨bb, 8, none⟩ (.slice none 0 0)).setCell ⟨bb, 1, none⟩ (.int .i64 ((came : Int) + 1))) bb N (came + 1) (.slice none 0 0) (.slice none 0 0) av bs :=
  (((h.put (came' := came) (kp' := kp) (wp' := wp) (by simp [pbks])).put (came' := came) (kp' := .slice none 0 0) (wp' := wp) (by simp [pbks])).put (came' := came) (kp' := .slice none 0 0) (wp' := .slice none 0 0) (by simp [pbks])).put (by simp [pbks])
set_option maxHeartbeats 4000000 in
set_option maxRecDepth 100000 in
theorem paths_any (bb n N came : Nat) (kp wp av lv : Value) (bs : List PB) (kps ls : List ByteArray) (w : World) (h : BkK w bb N came kp wp av bs kps) (hl : w.ownsRow bb 9 1 lv n (strs ls)) (hln : ls.length = n) (hn : n ≤ 100000000) (hN : N ≤ 90000000) (hbs : bs.length ≤ 90000000) (hcm : came ≤ 90000000)
    (dk : ∀ q, lv.ownBlock = some q → kp.ownBlock ≠ some q) (de : ∀ e ∈ bs, ∀ q, lv.ownBlock = some q → e.pv.ownBlock ≠ some q) :
    Calls Tryz.prog 19 #[.pointer (some ⟨bb, 0, none⟩), lv] w fun e w' => e = .returned (.tuple #[]) ∧ ∃ N' kp' wp' av' bs' kps', BkK w' bb N' (came + 1) kp' wp' av' bs' kps' ∧ N' ≤ N + 2 ∧ bs'.length ≤ bs.length + 8 ∧ Gr (fun q => q = bb ∨ av.ownBlock = some q ∨ kp.ownBlock = some q ∨ lv.ownBlock = some q) w w' := by
  obtain ⟨i0, hi, hz0, hz1, hz2⟩ := info_parts Tryz.infoStrP
  have H := hide h
  have HL := hide hl
  clear h
  go_enter Tryz.func19, Tryz.ntmps19
  obtain ⟨ol, cl, hlv⟩ := own_sl hl
  subst hlv
  go_upto_region 1 with fail
  go_cut [4] from 7 (fun wv wx => wx.ownsRow w.heap.size 9 1 wv n (strs ls) ∧ w.grownBy wx none)
  case first =>
    rcases hl.2 with ⟨e, rfl⟩ | ⟨g, cap, cur, e, hb0, hg, hcap, hcm, hcs, htk⟩
    · injection e with e1 e2 e3
      subst e1 e3
      have hl0 : ls = [] := List.eq_nil_of_length_eq_zero hln
      subst hl0
      clear hl
      go_wp2_with fail
      go_meet
      case rel => exact ⟨World.ownsRow_nil _ _ _ _, grownBy_refl _ _⟩
    · injection e with e1 e2 e3
      subst e1 e3
      clear hl hg hcs htk cur
      go_wp2_with (refine wpList_append_own _ rfl _ _ 27 rfl w.heap.size 9 i0 _ 1 16 Tryz.underlying27 hi hz0 hz1 hz2 rfl (by decide) (.slice none 0 0) 0 [] rfl (World.ownsRow_nil _ _ _ _) ⟨g, 0, none⟩ n cl (strs ls) rfl (by rw [strs_len, hln, Nat.mul_one]) (strs_cells HL.out) (strs_one ls) (by unfold maxLen; omega) (by omega) (Nat.le_refl _) ?_; rintro wv w1 hwv hg1 -; have HWV := hide hwv; have HG1 := hide hg1; clear hwv hg1)
      go_meet
      case rel =>
        have hv := HWV.out
        rw [Nat.zero_add, List.nil_append] at hv
        exact ⟨hv, HG1.out⟩
  case rest =>
    obtain ⟨hwv, hg1⟩ := hcut
    have hb1 : Below w.heap.size w wc := ⟨hg1.os, hg1.tape, hg1.output, hg1.size, fun k hk => hg1.block k hk (by simp)⟩
    have HK1 := hide (H.out.later hb1)
    have HL1 := hide (ownsRow_later HL.out hb1)
    have HWV := hide hwv
    obtain ⟨ow, cw, hwv2⟩ := own_sl hwv
    subst hwv2
    obtain ⟨ok, ck, hkp⟩ := own_sl H.out.own
    obtain ⟨op, cp, hwp, _⟩ := H.out.were
    obtain ⟨nk, hnk⟩ : ∃ nk, nk = kps.length := ⟨_, rfl⟩
    rw [← hnk] at hkp hwp
    subst hkp hwp
    have k7 : wc.cell? ⟨bb, 7, none⟩ = some (.slice ok nk ck) := cell_of_row _ _ 7 _ _ _ HK1.out.bk.blk
    have k8 : wc.cell? ⟨bb, 8, none⟩ = some (.slice op nk cp) := cell_of_row _ _ 8 _ _ _ HK1.out.bk.blk
    have HB1 := hide hb1
    have hbd : Below wc.heap.size wc wc.drew := (Below.refl _ _).drew
    have HSS := hide (sameS_any _ _ kps wc.drew (own_ss (HK1.out.later hbd).own) (HK1.out.later hbd).were HK1.out.len)
    have HNK := hide hnk
    clear hwv hg1 hb1 hl hbd hnk
    go_wp2_with fail
    go_region_held3 (fun w' => w'.cell? ⟨bb, 7, none⟩ = some (.slice ok nk ck) ∧ w'.cell? ⟨bb, 8, none⟩ = some (.slice op nk cp)) (first | go_keep | exact ⟨cell_later hb2 k7, cell_later hb2 k8⟩) (first | (go_at_call 18; refine (HSS.out).mono ?_; rintro _ w2 ⟨rfl, hb2⟩))
    have hb12 : Below wc.heap.size wc w2 := ((Below.refl _ _).drew).trans hb2
    have HK2 := hide (HK1.out.later hb12)
    have HL2 := hide (ownsRow_later HL1.out hb12)
    have HW2 := hide (ownsRow_later HWV.out hb12)
    have HB2 := hide (HB1.out.trans (hb12.mono HB1.out.size))
    have k7' : w2.cell? ⟨bb, 7, none⟩ = some (.slice ok nk ck) := cell_of_row _ _ 7 _ _ _ HK2.out.bk.blk
    have hmk := markP_any bb nk N came (.slice ok nk ck) (.slice op nk cp) av (.slice ok nk ck) bs kps w2 HK2.out.bk HNK.out.symm (by rw [HNK.out]; rw [HNK.out] at HK2; exact HK2.out.own.mono_base (Nat.zero_le _)) (by rw [HNK.out]; exact HK2.out.len) (by omega) (by omega) HK2.out.d1
    have HMK := hide hmk
    clear hb2 hb12 k7 k8 hmk
    go_wp2_with fail
    refine (HMK.out).mono ?_
    rintro _ w3 ⟨rfl, hgr3, av3, b3, hbk3, hl3, hn3, he3⟩
    dsimp only
    have hkl : ∀ q, (Value.slice ok nk ck).ownBlock = some q → (Value.slice ol n cl).ownBlock ≠ some q := fun q e1 e2 => dk q e2 e1
    have hkw : ∀ q, (Value.slice ok nk ck).ownBlock = some q → (Value.slice ow n cw).ownBlock ≠ some q := fun q e1 e2 => by
      have h1 := (HWV.out.lt q e2).1
      obtain ⟨cur, hc⟩ := own_obj H.out.own q e1
      have := lt_heap hc
      omega
    have HL3 := hide (own_marked HK2.out.bk hgr3 HL2.out hkl)
    have HW3 := hide (own_marked HK2.out.bk hgr3 HW2.out hkw)
    have HBK3 := hide hbk3
    have HGR3 := hide hgr3
    have HSL := hide (sameS_any (.slice ol n cl) (.slice ow n cw) ls w3 (own_ss (by rw [hln]; exact HL3.out)) (own_ss (by rw [hln]; exact HW3.out)) (by omega))
    clear hbk3 hgr3 k7' hkl hkw
    go_wp2_with fail
    refine (HSL.out).mono ?_
    rintro _ w4 ⟨rfl, hb4⟩
    dsimp only
    have HK4 := hide (HBK3.out.later hb4)
    have HB4 := hide hb4
    have q2 : w4.cell? ⟨bb, 2, none⟩ = some (.bool false) := cell_of_row _ _ 2 _ _ _ HK4.out.blk
    have q1 : w4.cell? ⟨bb, 1, none⟩ = some (.int .i64 (came : Int)) := cell_of_row _ _ 1 _ _ _ HK4.out.blk
    have q7 : w4.cell? ⟨bb, 7, none⟩ = some (.slice ok nk ck) := cell_of_row _ _ 7 _ _ _ HK4.out.blk
    have q8 : w4.cell? ⟨bb, 8, none⟩ = some (.slice op nk cp) := cell_of_row _ _ 8 _ _ _ HK4.out.blk
    have qf := fun j => frozen_of_row w4 bb j _ _ HK4.out.blk
    obtain ⟨w5, hw5⟩ : ∃ w5, w5 = (((w4.setCell ⟨bb, 2, none⟩ (.bool false)).setCell ⟨bb, 7, none⟩ (.slice none 0 0)).setCell ⟨bb, 8, none⟩ (.slice none 0 0)).setCell ⟨bb, 1, none⟩ (.int .i64 ((came : Int) + 1)) := ⟨_, rfl⟩
    have hset : ∀ k, k ≠ bb → w5.heap[k]? = w4.heap[k]? := fun k hk => by
      rw [hw5, heap_setCell_other _ _ _ _ (by simpa using hk), heap_setCell_other _ _ _ _ (by simpa using hk), heap_setCell_other _ _ _ _ (by simpa using hk), heap_setCell_other _ _ _ _ (by simpa using hk)]
    have hk5 := pbks4 HK4.out
    rw [← hw5] at hk5
    have hs9 : ∀ (u : Value) (xs : List Value) (base : Nat), w4.ownsRow base 9 1 u n xs → w5.ownsRow base 9 1 u n xs := fun u xs base ho => own_same ho (fun k hk _ => hset k (by
      obtain ⟨cur, hc⟩ := own_obj ho k hk
      exact type_ne hc HK4.out.blk (by decide)))
    have HK5 := hide hk5
    have HL5 := hide (hs9 _ _ _ (ownsRow_later HL3.out hb4))
    have HW5 := hide (hs9 _ _ _ (ownsRow_later HW3.out hb4))
    have hgr45 : Gr (fun q => q = bb) w4 w5 := by
      refine ⟨by rw [hw5]; rfl, by rw [hw5]; rfl, by rw [hw5]; rfl, ?_, fun k _ hk => hset k hk⟩
      rw [hw5]
      exact Nat.le_trans (grownBy_set w4 bb 2 _).size (Nat.le_trans (grownBy_set _ bb 7 _).size (Nat.le_trans (grownBy_set _ bb 8 _).size (grownBy_set _ bb 1 _).size))
    have hd3 : ∀ e ∈ bs ++ b3, ∀ q, (Value.slice ol n cl).ownBlock = some q → e.pv.ownBlock ≠ some q := by
      intro e he q hq
      rcases List.mem_append.1 he with he | he
      · exact de e he q hq
      · rcases he3 e he with h1 | h1
        · rw [h1]; exact dk q hq
        · intro e2
          have h2 := h1 q e2
          obtain ⟨cur, hc⟩ := own_obj HL.out q hq
          have := lt_heap hc
          have := HB2.out.size
          omega
    have hwl : ∀ q, (Value.slice ol n cl).ownBlock = some q → (Value.slice ow n cw).ownBlock ≠ some q := fun q e1 e2 => by
      have h1 := (HWV.out.lt q e2).1
      obtain ⟨cur, hc⟩ := own_obj HL.out q e1
      have := lt_heap hc
      omega
    have hgr05 : Gr (fun q => q = bb ∨ av.ownBlock = some q ∨ (Value.slice ok nk ck).ownBlock = some q ∨ (Value.slice ol n cl).ownBlock = some q) w w5 := by
      refine gr_more (gr_more (gr_more (Gr.of_below HB2.out) HGR3.out (fun k _ e => ?_)) (Gr.of_below (S := fun _ => False) hb4) (fun k _ e => e.elim)) hgr45 (fun k _ e => .inl e)
      rcases e with e | e | e
      · exact .inl e
      · exact .inr (.inr (.inl e))
      · exact .inr (.inl e)
    have HD3 := hide hd3
    have HWL := hide hwl
    have HG5 := hide hgr05
    have hav3 : ∀ k, k < w.heap.size → av3.ownBlock = some k → av.ownBlock = some k := fun k hk e => by
      rcases hn3 with h1 | h1
      · rw [← h1]; exact e
      · have := h1 k e
        have := HB2.out.size
        omega
    have HAV := hide hav3
    have HMP := hide (markP_any bb n (N + 1) (came + 1) (.slice none 0 0) (.slice none 0 0) av3 (.slice ol n cl) (bs ++ b3) ls w5 HK5.out hln (HL5.out.mono_base (Nat.zero_le _)) hn (by omega) (by rw [List.length_append]; omega) hd3)
    have HW5E := hide hw5
    clear hb4 hset hk5 hs9 hgr45 hd3 hwl hgr05 hav3 hn3 he3 hw5
    by_cases hpar : (came + 1) % 2 = 0
    · have hpar2 : ((came : Int) + 1) % 2 = 0 := by omega
      go_wp2_with fail
      rw [← HW5E.out]
      refine (HMP.out).mono ?_
      rintro _ w6 ⟨rfl, hgr6, av6, b6, hbk6, hl6, hn6, he6⟩
      dsimp only
      have HF := hide hbk6
      have HG6 := hide hgr6
      clear hbk6 hgr6
      go_wp2_with fail
      go_end0
      refine ⟨rfl, _, _, _, av6, _, [], ⟨HF.out, World.ownsRow_nil _ _ _ _, ⟨none, 0, rfl, fun i hi => by cases hi⟩, fun k hk => (by cases hk), fun e _ q hq => (by cases hq), fun q hq => (by cases hq), by decide⟩, by omega, by simp only [List.length_append]; omega, gr_more HG5.out HG6.out (fun k hk e => ?_)⟩
      rcases e with e | e | e
      · exact .inl e
      · exact .inr (.inr (.inr e))
      · exact .inr (.inl (HAV.out k hk e))
    · have hpar2 : ((came : Int) + 1) % 2 = 1 := by omega
      go_wp2_with fail
      rw [← HW5E.out]
      go_end0
      have hb6 := (HK5.out.put (i := 7) (v := .slice ol n cl) (came' := came + 1) (kp' := .slice ol n cl) (wp' := .slice none 0 0) (by simp [pbks])).put (i := 8) (v := .slice ow n cw) (came' := came + 1) (kp' := .slice ol n cl) (wp' := .slice ow n cw) (by simp [pbks])
      have h1 := HK5.out.put (i := 7) (v := .slice ol n cl) (came' := came + 1) (kp' := .slice ol n cl) (wp' := .slice none 0 0) (by simp [pbks])
      have hl6 := own_put (i := 8) (v := .slice ow n cw) h1 (own_put (i := 7) (v := .slice ol n cl) HK5.out HL5.out)
      have hw6 := own_put (i := 8) (v := .slice ow n cw) h1 (own_put (i := 7) (v := .slice ol n cl) HK5.out HW5.out)
      refine ⟨rfl, _, _, _, _, _, ls, ⟨hb6, by rw [hln]; exact hl6, own_ss (by rw [hln]; exact hw6), RowS.own hw6, HD3.out, HWL.out, by rw [hln]; exact hn⟩, by omega, by simp only [List.length_append]; omega, gr_more (gr_more HG5.out (Gr.of_grownBy (S := fun q => q = bb) (grownBy_set w5 bb 7 _) rfl) (fun k _ e => .inl e)) (Gr.of_grownBy (S := fun q => q = bb) (grownBy_set _ bb 8 _) rfl) (fun k _ e => .inl e)⟩
end Go.Proofs.YtjipdjkcdoajbaaGreatDoor
