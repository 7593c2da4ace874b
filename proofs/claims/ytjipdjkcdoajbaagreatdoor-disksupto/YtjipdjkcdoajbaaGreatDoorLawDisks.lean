/-
  PROVED HERE: the statement Disks answers true: whatever script is gone through, step by step, on several disks side by side, the program's disks answer as the document's do, and the lists that came out stay their owner's.
-/
import Derived.Test.YtjipdjkcdoajbaaGreatDoorDisksStep
namespace Go.Proofs.YtjipdjkcdoajbaaGreatDoor
open Go.RowKit
theorem Tryz.infoTwin : (Tryz.prog.info? 39).map (fun i => (i.zero, i.size, i.bytes)) = some (some (.agg #[.pointer none, .pointer none]), 2, 16) := by kernel_rfl
theorem two_one (a b : Option Addr) : ∀ u ∈ [Value.pointer a, Value.pointer b], u.oneCell' = true := by
  intro u hu
  simp only [List.mem_cons, List.not_mem_nil, or_false] at hu
  rcases hu with rfl | rfl <;> rfl
set_option maxHeartbeats 4000000 in
set_option maxRecDepth 100000 in
theorem disks_any (oa : Option Addr) (cap : Nat) (ops : List OpV) (m : Nat) (hm : ops.length = m) (W : World) (hO : OpsAt W oa ops) (hF : ∀ o ∈ ops, OpFit W o) (hB : m + tb ops m ≤ 1048576) (hW : W.cell? ⟨0, 0, none⟩ = some errT) :
    Calls Tryz.prog 3 #[.slice oa m cap] W fun e w' => e = .returned (.bool true) ∧ Below W.heap.size W w' := by
  have HO := hide hO
  have HF := hide hF
  have HW := hide hW
  have HM := hide hm
  obtain ⟨i2, hi2, hz0, hz1, hz2⟩ := info_parts Tryz.infoTwin
  have hmb : m ≤ 1048576 := by omega
  have HB := hide hB
  clear hO hF hW hm hB
  go_enter Tryz.func3, Tryz.ntmps3
  go_wp2_with fail
  go_loopw [3, 5] (fun av iv wr => ∃ (i : Nat) (ps : List (Option Tw)), i ≤ m ∧ iv = .int .i64 ((i : Nat) : Int) ∧ Sc W wr W.heap.size av ps i (tb ops i)) (fun _ iv _ => m - (intOf iv).toNat)
  case atStart => exact ⟨0, [], Nat.zero_le _, rfl, sc_start W⟩
  case round =>
    obtain ⟨i, ps, hi, rfl, hsc⟩ := hrel
    have HS := hide hsc
    by_cases hlt : i < m
    · have hil : i < ops.length := by rw [HM.out]; exact hlt
      obtain ⟨g, o, rfl, hrg⟩ := HO.out i hil
      have hmem : ops.getD i op0 ∈ ops := by rw [List.getD_eq_getElem?_getD, List.getElem?_eq_getElem hil]; exact List.getElem_mem hil
      have hfit := HF.out _ hmem
      have htb := tb_succ hil
      have htl := tb_le (ops := ops) (ops.length - (i + 1)) (i + 1) (by omega)
      rw [HM.out] at htl
      generalize ops.getD i op0 = op at hrg hfit htb
      have hps := hsc.len
      obtain ⟨K, P, A, C, S, T, la, ln, lc⟩ := op
      dsimp only at htb
      have hr2 := rangeAt_later hsc.low hrg
      have e0 := hr2 0 _ rfl
      have e1 := hr2 1 _ rfl
      have e2 := hr2 2 _ rfl
      have e3 := hr2 3 _ rfl
      have e4 := hr2 4 _ rfl
      have e5 := hr2 5 _ rfl
      have e6 := hr2 6 _ rfl
      simp only [Nat.add_zero] at e0
      have hnb : i + tb ops i ≤ 1048576 := by have := HB.out; omega
      have HTB := hide htb
      have HFIT := hide hfit
      obtain ⟨oav, cav, hav⟩ := own_sl hsc.all.row
      subst hav
      have HBO : Hid (Below wr.heap.size wr (wr.alloc (.cells #[.int .i64 K, .int .i64 P, .int .i64 A, .int .i64 C, .string S, .string T, .slice la ln lc] 33))) := (Below.refl _ _).alloc (Nat.le_refl _) _
      have hb63 : ps.length + 1 ≤ maxLen ∧ (ps.length + 1) * 16 ≤ 140737488355328 := by unfold maxLen; omega
      obtain ⟨hb63, hb16⟩ := hb63
      clear hsc hr2 hrg hmem hfit htb htl hil
      by_cases hk1 : K = 1
      · subst hk1
        have HN := hide (tNew A (wr.alloc (.cells #[.int .i64 1, .int .i64 P, .int .i64 A, .int .i64 C, .string S, .string T, .slice la ln lc] 33)) i (tb ops i) HFIT.out.a0 HFIT.out.a1)
        go_wp2_with fail
        refine HN.out.mono ?_
        rintro _ w1 ⟨d, rfl, hb1, hc⟩
        dsimp only
        have c2 : w1.cell? ⟨wr.heap.size, 2, none⟩ = some (.int .i64 A) := cell_later hb1 (cell_of_row _ _ 2 _ _ _ (heap_alloc_new _ _))
        have HC := hide hc
        clear hc hb1 HN e0 e1 e2 e3 e4 e5 e6
        go_wp2_with fail
        refine HC.out.mono ?_
        rintro _ w2 ⟨rb, rfl, ht⟩
        dsimp only
        obtain ⟨hb2, t, ht1, ht2, ht3, ht4, ht5⟩ := ht
        have HS0 := hide (HS.out.later HBO.out)
        have HS2 := hide (HS0.out.later hb2)
        have HOWN := hide (HS2.out.all.row.alloc (.cells #[.pointer (some ⟨d, 0, none⟩), .pointer (some ⟨rb, 0, none⟩)] 39))
        have HT1 := hide ht1
        have HT4 := hide ht4
        have HT5 := hide ht5
        have HB2 := hide hb2
        have HL2 : Hid (W.heap.size ≤ w2.heap.size) := HS2.out.low.size
        clear ht1 ht4 ht5 hb2 c2 HC
        go_wp2_with (refine wpList_append_lies _ rfl _ _ 23 rfl W.heap.size 39 i2 _ 2 16 Tryz.underlying23 hi2 hz0 hz1 hz2 rfl (by decide) _ ps.length _ rfl HOWN.out _ 1 1 [.pointer (some ⟨d, 0, none⟩), .pointer (some ⟨rb, 0, none⟩)] rfl rfl (row_cells (heap_alloc_new _ _)) (two_one _ _) (by decide) hb63 hb16 (by rw [size_alloc]; exact Nat.le_succ_of_le HL2.out) _ rfl ?_; intro g2 cap2 w5 hown5 hgrow hat hlt5; clear hat hlt5)
        have hs5 := Sc.new HS0.out HB2.out HT1.out HT5.out HT4.out ((Below.refl _ _).alloc (Nat.le_refl _) _) hgrow (by rw [oX, oD, ht2, ht3]; exact hown5)
        refine (sc_still hs5 (by omega)).mono ?_
        rintro _ w6 ⟨rfl, hs6⟩
        dsimp only
        have HS6 := hide (hs6.mono (B' := tb ops (i + 1)) (Nat.le_refl _) (by rw [HTB.out]; exact Nat.le_add_right _ _))
        clear hs6 hs5 hown5 hgrow
        go_wp2_with fail
        exact ⟨⟨i + 1, _, hlt, by simp, HS6.out⟩, by simp only [intOf]; omega⟩
      · by_cases hk2 : K = 2
        · subst hk2
          have hs0 := HS.out.later HBO.out
          obtain ⟨X, hX⟩ : ∃ X, X = wr.alloc (.cells #[.int .i64 2, .int .i64 P, .int .i64 A, .int .i64 C, .string S, .string T, .slice la ln lc] 33) := ⟨_, rfl⟩
          rw [← hX] at hs0
          have HS0 := hide hs0
          have HOWN := hide (HS0.out.all.row.alloc (.cells #[.pointer none, .pointer none] 39))
          have HL2 : Hid (W.heap.size ≤ X.heap.size) := HS0.out.low.size
          have HX := hide hX
          clear hs0 hX
          go_upto_region 14 with fail
          rw [← HX.out]
          clear e0 e1 e2 e3 e4 e5 e6 HBO HX
          go_wp2_with (refine wpList_append_lies _ rfl _ _ 23 rfl W.heap.size 39 i2 _ 2 16 Tryz.underlying23 hi2 hz0 hz1 hz2 rfl (by decide) _ ps.length _ rfl HOWN.out _ 1 1 [.pointer none, .pointer none] rfl rfl (row_cells (heap_alloc_new _ _)) (two_one _ _) (by decide) hb63 hb16 (by rw [size_alloc]; exact Nat.le_succ_of_le HL2.out) _ rfl ?_; intro g2 cap2 w5 hown5 hgrow hat hlt5; clear hat hlt5)
          have hs5 := Sc.none HS0.out ((Below.refl _ _).alloc (Nat.le_refl _) _) hgrow hown5
          clear hown5 hgrow
          refine (sc_still hs5 (by omega)).mono ?_
          rintro _ w6 ⟨rfl, hs6⟩
          dsimp only
          have HS6 := hide (hs6.mono (n' := i + 1) (B' := tb ops (i + 1)) (by omega) (by rw [HTB.out]; exact Nat.le_add_right _ _))
          clear hs6 hs5
          go_wp2_with fail
          exact ⟨⟨i + 1, _, hlt, by simp, HS6.out⟩, by simp only [intOf]; omega⟩
        · have b1 : (K == 1) = false := by simp [hk1]
          have b2 : (K == 2) = false := by simp [hk2]
          by_cases hps0 : ps.length = 0
          · have hs5 := HS.out.later HBO.out
            rw [hps0]
            go_wp2_with fail
            refine (sc_still hs5 (by omega)).mono ?_
            rintro _ w6 ⟨rfl, hs6⟩
            dsimp only
            have HS6 := hide (hs6.mono (n' := i + 1) (B' := tb ops (i + 1)) (by omega) (by rw [HTB.out]; exact Nat.le_add_right _ _))
            clear hs6 hs5
            go_wp2_with fail
            exact ⟨⟨i + 1, ps, hlt, by simp, by have h7 := HS6.out; rw [hps0] at h7; exact h7⟩, by simp only [intOf]; omega⟩
          · have hpn : ¬ ((ps.length : Nat) : Int) = 0 := by omega
            have b3 : (((ps.length : Nat) : Int) == 0) = false := by simp [hps0]
            obtain ⟨j, hj⟩ : ∃ j, j = pickN P ps.length := ⟨_, rfl⟩
            have hjl : j < ps.length := by rw [hj]; exact pickN_lt _ _ (by omega)
            have HP := hide (fun w => pick_any P ps.length (by omega) (by omega) HFIT.out.p0 HFIT.out.p1 w)
            rw [← hj] at HP
            have HJ := hide hj
            have HS0 := hide (HS.out.later HBO.out)
            clear hj
            by_cases hk16 : K = 16
            · subst hk16
              have hs0 := HS0.out
              obtain ⟨X, hX⟩ : ∃ X, X = wr.alloc (.cells #[.int .i64 16, .int .i64 P, .int .i64 A, .int .i64 C, .string S, .string T, .slice la ln lc] 33) := ⟨_, rfl⟩
              rw [← hX] at hs0
              have c1 : X.cell? ⟨wr.heap.size, 1, none⟩ = some (.int .i64 P) := by rw [hX]; exact cell_of_row _ _ 1 _ _ _ (heap_alloc_new _ _)
              obtain ⟨ga, ca, hav, r0, r1⟩ := hs0.at j hjl
              injection hav with hv1 hv2 hv3
              subst hv1 hv3
              clear hv2
              have HSX := hide hs0
              have HX := hide hX
              clear hs0 hX HS0
              go_upto_region 17 with fail
              rw [← HX.out]
              clear e0 e1 e2 e3 e4 e5 e6 HBO HX HS
              obtain ⟨xb, hxb⟩ : ∃ xb, xb = wr.heap.size := ⟨_, rfl⟩
              rw [← hxb] at c1 ⊢
              clear hxb
              generalize hpj : ps.getD j none = p at r0 r1
              have HPJ := hide hpj
              clear hpj
              cases p with
              | none =>
                simp only [oX, oD] at r0 r1
                go_wp2_with (go_at_call 6; refine (HP.out _).mono ?_; rintro _ Y ⟨rfl, rfl⟩; dsimp only)
                refine (wCopy_nil _).mono ?_
                rintro _ _ ⟨rfl, rfl⟩
                dsimp only
                go_wp2_with fail
                refine (rdCopy_nil _).mono ?_
                rintro _ _ ⟨rfl, rfl⟩
                dsimp only
                have hsz := HSX.out.later ((Below.refl _ _).alloc (Nat.le_refl _) (.cells #[.pointer none, .pointer none] 39))
                obtain ⟨Z, hZ⟩ : ∃ Z, Z = Y.alloc (.cells #[.pointer none, .pointer none] 39) := ⟨_, rfl⟩
                rw [← hZ] at hsz ⊢
                have HSZ := hide hsz
                have HOWN := hide (hsz.all.row.alloc (.cells #[.pointer none, .pointer none] 39))
                have HL2 : Hid (W.heap.size ≤ Z.heap.size) := hsz.low.size
                clear hsz hZ r0 r1 c1
                go_wp2_with (refine wpList_append_lies _ rfl _ _ 23 rfl W.heap.size 39 i2 _ 2 16 Tryz.underlying23 hi2 hz0 hz1 hz2 rfl (by decide) _ ps.length _ rfl HOWN.out _ 1 1 [.pointer none, .pointer none] rfl rfl (row_cells (heap_alloc_new _ _)) (two_one _ _) (by decide) hb63 hb16 (by rw [size_alloc]; exact Nat.le_succ_of_le HL2.out) _ rfl ?_; intro g2 cap2 w5 hown5 hgrow hat hlt5; clear hat hlt5)
                have hs5 := Sc.none HSZ.out ((Below.refl _ _).alloc (Nat.le_refl _) _) hgrow hown5
                clear hown5 hgrow
                refine (sc_still hs5 (by omega)).mono ?_
                rintro _ w6 ⟨rfl, hs6⟩
                dsimp only
                have HS6 := hide (hs6.mono (n' := i + 1) (B' := tb ops (i + 1)) (by omega) (by rw [HTB.out]; exact Nat.le_add_right _ _))
                clear hs6 hs5
                go_wp2_with fail
                exact ⟨⟨i + 1, _, hlt, by simp, HS6.out⟩, by simp only [intOf]; omega⟩
              | some t =>
                simp only [oX, oD] at r0 r1
                have hti : OIn X i (tb ops i) (some t) := by rw [← HPJ.out]; exact HSX.out.all.inn j
                have HTI := hide hti
                clear hti
                go_wp2_with (go_at_call 6; refine (HP.out _).mono ?_; rintro _ Y ⟨rfl, rfl⟩; dsimp only)
                have hby : Below Y.heap.size Y (Y.alloc (.cells #[.pointer (some ⟨t.d, 0, none⟩), .pointer (some ⟨t.r.b, 0, none⟩)] 39)) := (Below.refl _ _).alloc (Nat.le_refl _) _
                have HSZ := hide (HSX.out.later hby)
                refine (tCopy t _ (HTI.out.1.later hby) HTI.out.2 hnb).mono ?_
                rintro _ w1 ⟨d, rfl, hb1, hc⟩
                dsimp only
                have c2 : w1.cell? ⟨Y.heap.size, 1, none⟩ = some (.pointer (some ⟨t.r.b, 0, none⟩)) := cell_later hb1 (cell_of_row _ _ 1 _ _ _ (heap_alloc_new _ _))
                have HC := hide hc
                clear hc hb1 hby r0 r1 c1
                go_wp2_with fail
                refine HC.out.mono ?_
                rintro _ w2 ⟨rb, rfl, ht⟩
                dsimp only
                obtain ⟨hb2, t2, ht1, ht2, ht3, ht4, ht5⟩ := ht
                have HS2 := hide (HSZ.out.later hb2)
                have HOWN := hide (HS2.out.all.row.alloc (.cells #[.pointer (some ⟨d, 0, none⟩), .pointer (some ⟨rb, 0, none⟩)] 39))
                have HT1 := hide ht1
                have HT4 := hide ht4
                have HT5 := hide ht5
                have HB2 := hide hb2
                have HL2 : Hid (W.heap.size ≤ w2.heap.size) := HS2.out.low.size
                clear ht1 ht4 ht5 hb2 c2 HC
                go_wp2_with (refine wpList_append_lies _ rfl _ _ 23 rfl W.heap.size 39 i2 _ 2 16 Tryz.underlying23 hi2 hz0 hz1 hz2 rfl (by decide) _ ps.length _ rfl HOWN.out _ 1 1 [.pointer (some ⟨d, 0, none⟩), .pointer (some ⟨rb, 0, none⟩)] rfl rfl (row_cells (heap_alloc_new _ _)) (two_one _ _) (by decide) hb63 hb16 (by rw [size_alloc]; exact Nat.le_succ_of_le HL2.out) _ rfl ?_; intro g2 cap2 w5 hown5 hgrow hat hlt5; clear hat hlt5)
                have hs5 := Sc.new HSZ.out HB2.out HT1.out HT5.out HT4.out ((Below.refl _ _).alloc (Nat.le_refl _) _) hgrow (by rw [oX, oD, ht2, ht3]; exact hown5)
                clear hown5 hgrow
                refine (sc_still hs5 (by omega)).mono ?_
                rintro _ w6 ⟨rfl, hs6⟩
                dsimp only
                have HS6 := hide (hs6.mono (n' := i + 1) (B' := tb ops (i + 1)) (by omega) (by rw [HTB.out]; exact Nat.le_add_right _ _))
                clear hs6 hs5
                go_wp2_with fail
                exact ⟨⟨i + 1, _, hlt, by simp, HS6.out⟩, by simp only [intOf]; omega⟩
            · have b4 : (K == 16) = false := by simp [hk16]
              by_cases hlk : 9 ≤ K ∧ K ≤ 12
              · have d1 : decide (9 ≤ K) = true := decide_eq_true hlk.1
                have d2 : decide (K ≤ 12) = true := decide_eq_true hlk.2
                have hs0 := HS0.out
                obtain ⟨X, hX⟩ : ∃ X, X = wr.alloc (.cells #[.int .i64 K, .int .i64 P, .int .i64 A, .int .i64 C, .string S, .string T, .slice la ln lc] 33) := ⟨_, rfl⟩
                rw [← hX] at hs0
                have hxr : X.heap[wr.heap.size]? = some (.cells #[.int .i64 K, .int .i64 P, .int .i64 A, .int .i64 C, .string S, .string T, .slice la ln lc] 33 (0, 0)) := by rw [hX]; exact heap_alloc_new _ _
                have HX := hide hX
                have HXR := hide hxr
                have HSX := hide hs0
                clear hs0 hX HS0 hxr
                go_upto_region 23 with fail
                rw [← HX.out]
                obtain ⟨xb, hxb⟩ : ∃ xb, xb = wr.heap.size := ⟨_, rfl⟩
                rw [← hxb] at HXR ⊢
                have k0 : X.cell? ⟨xb, 0, none⟩ = some (.int .i64 K) := cell_of_row _ _ 0 _ _ _ HXR.out
                have k1 : X.cell? ⟨xb, 1, none⟩ = some (.int .i64 P) := cell_of_row _ _ 1 _ _ _ HXR.out
                have k2 : X.cell? ⟨xb, 2, none⟩ = some (.int .i64 A) := cell_of_row _ _ 2 _ _ _ HXR.out
                have k3 : X.cell? ⟨xb, 3, none⟩ = some (.int .i64 C) := cell_of_row _ _ 3 _ _ _ HXR.out
                have k4 : X.cell? ⟨xb, 4, none⟩ = some (.string S) := cell_of_row _ _ 4 _ _ _ HXR.out
                have k5 : X.cell? ⟨xb, 5, none⟩ = some (.string T) := cell_of_row _ _ 5 _ _ _ HXR.out
                have k6 : X.cell? ⟨xb, 6, none⟩ = some (.slice la ln lc) := cell_of_row _ _ 6 _ _ _ HXR.out
                obtain ⟨ga, ca, hav, r0, r1⟩ := HSX.out.at j hjl
                injection hav with hv1 hv2 hv3
                subst hv1 hv3
                have hcl := sc_looks K P A C S T la ln lc (HSX.out.later (Below.refl _ _).drew) HFIT.out hnb HW.out hjl hlk.1 hlk.2
                obtain ⟨ax, hax⟩ := oX_ptr (ps.getD j none)
                obtain ⟨ad, had⟩ := oD_ptr (ps.getD j none)
                rw [hax, had] at hcl
                rw [hax] at r0
                rw [had] at r1
                have HCL := hide hcl
                clear hcl hax had hv2 e0 e1 e2 e3 e4 e5 e6 HBO HX HS HXR hxb
                go_region_with (first | (go_at_call 6; refine (HP.out _).mono ?_; rintro _ w6 ⟨rfl, hw6⟩; subst hw6) | (go_at_call 9; refine (HCL.out).mono ?_; rintro _ w7 ⟨rfl, ps', hs7⟩))
                all_goals
                  have hs5 := hs7
                  clear hs7 k0 k1 k2 k3 k4 k5 k6 r0 r1
                  go_wp2_with fail
                  refine (sc_still hs5 (by omega)).mono ?_
                  rintro _ w6 ⟨rfl, hs6⟩
                  dsimp only
                  have HS6 := hide (hs6.mono (n' := i + 1) (B' := tb ops (i + 1)) (by omega) (by rw [HTB.out]; exact Nat.le_refl _))
                  clear hs6 hs5
                  go_wp2_with fail
                  exact ⟨⟨i + 1, _, hlt, by simp, HS6.out⟩, by simp only [intOf]; omega⟩
              · by_cases hwk : 3 ≤ K ∧ K ≤ 15
                · have d3 : decide (3 ≤ K) = true := decide_eq_true hwk.1
                  have d4 : decide (K ≤ 15) = true := decide_eq_true hwk.2
                  by_cases h9 : 9 ≤ K
                  · have d1 : decide (9 ≤ K) = true := decide_eq_true h9
                    have d2 : decide (K ≤ 12) = false := decide_eq_false (by omega)
                    have hs0 := HS0.out
                    obtain ⟨X, hX⟩ : ∃ X, X = wr.alloc (.cells #[.int .i64 K, .int .i64 P, .int .i64 A, .int .i64 C, .string S, .string T, .slice la ln lc] 33) := ⟨_, rfl⟩
                    rw [← hX] at hs0
                    have hxr : X.heap[wr.heap.size]? = some (.cells #[.int .i64 K, .int .i64 P, .int .i64 A, .int .i64 C, .string S, .string T, .slice la ln lc] 33 (0, 0)) := by rw [hX]; exact heap_alloc_new _ _
                    have HX := hide hX
                    have HXR := hide hxr
                    have HSX := hide hs0
                    clear hs0 hX HS0 hxr
                    go_upto_region 25 with fail
                    rw [← HX.out]
                    obtain ⟨xb, hxb⟩ : ∃ xb, xb = wr.heap.size := ⟨_, rfl⟩
                    rw [← hxb] at HXR ⊢
                    have k0 : X.cell? ⟨xb, 0, none⟩ = some (.int .i64 K) := cell_of_row _ _ 0 _ _ _ HXR.out
                    have k1 : X.cell? ⟨xb, 1, none⟩ = some (.int .i64 P) := cell_of_row _ _ 1 _ _ _ HXR.out
                    have k2 : X.cell? ⟨xb, 2, none⟩ = some (.int .i64 A) := cell_of_row _ _ 2 _ _ _ HXR.out
                    have k3 : X.cell? ⟨xb, 3, none⟩ = some (.int .i64 C) := cell_of_row _ _ 3 _ _ _ HXR.out
                    have k4 : X.cell? ⟨xb, 4, none⟩ = some (.string S) := cell_of_row _ _ 4 _ _ _ HXR.out
                    have k5 : X.cell? ⟨xb, 5, none⟩ = some (.string T) := cell_of_row _ _ 5 _ _ _ HXR.out
                    have k6 : X.cell? ⟨xb, 6, none⟩ = some (.slice la ln lc) := cell_of_row _ _ 6 _ _ _ HXR.out
                    obtain ⟨ga, ca, hav, r0, r1⟩ := HSX.out.at j hjl
                    injection hav with hv1 hv2 hv3
                    subst hv1 hv3
                    have hcl := sc_writes K P A C S T la ln lc (HSX.out.later (Below.refl _ _).drew) HFIT.out hnb HW.out hjl hwk.1 hwk.2 hlk
                    obtain ⟨ax, hax⟩ := oX_ptr (ps.getD j none)
                    obtain ⟨ad, had⟩ := oD_ptr (ps.getD j none)
                    rw [hax, had] at hcl
                    rw [hax] at r0
                    rw [had] at r1
                    have HCL := hide hcl
                    clear hcl hax had hv2 e0 e1 e2 e3 e4 e5 e6 HBO HX HS HXR hxb
                    go_region_with (first | (go_at_call 6; refine (HP.out _).mono ?_; rintro _ w6 ⟨rfl, hw6⟩; subst hw6) | (go_at_call 10; refine (HCL.out).mono ?_; rintro _ w7 ⟨rfl, ps', hs7⟩))
                    all_goals
                      have hs5 := hs7
                      clear hs7 k0 k1 k2 k3 k4 k5 k6 r0 r1
                      go_wp2_with fail
                      refine (sc_still hs5 (by omega)).mono ?_
                      rintro _ w6 ⟨rfl, hs6⟩
                      dsimp only
                      have HS6 := hide (hs6.mono (n' := i + 1) (B' := tb ops (i + 1)) (by omega) (by rw [HTB.out]; exact Nat.le_refl _))
                      clear hs6 hs5
                      go_wp2_with fail
                      exact ⟨⟨i + 1, _, hlt, by simp, HS6.out⟩, by simp only [intOf]; omega⟩
                  · have d1 : decide (9 ≤ K) = false := decide_eq_false h9
                    have hs0 := HS0.out
                    obtain ⟨X, hX⟩ : ∃ X, X = wr.alloc (.cells #[.int .i64 K, .int .i64 P, .int .i64 A, .int .i64 C, .string S, .string T, .slice la ln lc] 33) := ⟨_, rfl⟩
                    rw [← hX] at hs0
                    have hxr : X.heap[wr.heap.size]? = some (.cells #[.int .i64 K, .int .i64 P, .int .i64 A, .int .i64 C, .string S, .string T, .slice la ln lc] 33 (0, 0)) := by rw [hX]; exact heap_alloc_new _ _
                    have HX := hide hX
                    have HXR := hide hxr
                    have HSX := hide hs0
                    clear hs0 hX HS0 hxr
                    go_upto_region 25 with fail
                    rw [← HX.out]
                    obtain ⟨xb, hxb⟩ : ∃ xb, xb = wr.heap.size := ⟨_, rfl⟩
                    rw [← hxb] at HXR ⊢
                    have k0 : X.cell? ⟨xb, 0, none⟩ = some (.int .i64 K) := cell_of_row _ _ 0 _ _ _ HXR.out
                    have k1 : X.cell? ⟨xb, 1, none⟩ = some (.int .i64 P) := cell_of_row _ _ 1 _ _ _ HXR.out
                    have k2 : X.cell? ⟨xb, 2, none⟩ = some (.int .i64 A) := cell_of_row _ _ 2 _ _ _ HXR.out
                    have k3 : X.cell? ⟨xb, 3, none⟩ = some (.int .i64 C) := cell_of_row _ _ 3 _ _ _ HXR.out
                    have k4 : X.cell? ⟨xb, 4, none⟩ = some (.string S) := cell_of_row _ _ 4 _ _ _ HXR.out
                    have k5 : X.cell? ⟨xb, 5, none⟩ = some (.string T) := cell_of_row _ _ 5 _ _ _ HXR.out
                    have k6 : X.cell? ⟨xb, 6, none⟩ = some (.slice la ln lc) := cell_of_row _ _ 6 _ _ _ HXR.out
                    obtain ⟨ga, ca, hav, r0, r1⟩ := HSX.out.at j hjl
                    injection hav with hv1 hv2 hv3
                    subst hv1 hv3
                    have hcl := sc_writes K P A C S T la ln lc (HSX.out.later (Below.refl _ _).drew) HFIT.out hnb HW.out hjl hwk.1 hwk.2 hlk
                    obtain ⟨ax, hax⟩ := oX_ptr (ps.getD j none)
                    obtain ⟨ad, had⟩ := oD_ptr (ps.getD j none)
                    rw [hax, had] at hcl
                    rw [hax] at r0
                    rw [had] at r1
                    have HCL := hide hcl
                    clear hcl hax had hv2 e0 e1 e2 e3 e4 e5 e6 HBO HX HS HXR hxb
                    go_region_with (first | (go_at_call 6; refine (HP.out _).mono ?_; rintro _ w6 ⟨rfl, hw6⟩; subst hw6) | (go_at_call 10; refine (HCL.out).mono ?_; rintro _ w7 ⟨rfl, ps', hs7⟩))
                    all_goals
                      have hs5 := hs7
                      clear hs7 k0 k1 k2 k3 k4 k5 k6 r0 r1
                      go_wp2_with fail
                      refine (sc_still hs5 (by omega)).mono ?_
                      rintro _ w6 ⟨rfl, hs6⟩
                      dsimp only
                      have HS6 := hide (hs6.mono (n' := i + 1) (B' := tb ops (i + 1)) (by omega) (by rw [HTB.out]; exact Nat.le_refl _))
                      clear hs6 hs5
                      go_wp2_with fail
                      exact ⟨⟨i + 1, _, hlt, by simp, HS6.out⟩, by simp only [intOf]; omega⟩
                · by_cases h3 : 3 ≤ K
                  · have d1 : decide (9 ≤ K) = true := decide_eq_true (by omega)
                    have d2 : decide (K ≤ 12) = false := decide_eq_false (by omega)
                    have d3 : decide (3 ≤ K) = true := decide_eq_true h3
                    have d4 : decide (K ≤ 15) = false := decide_eq_false (by omega)
                    have hs5 := HS0.out
                    go_wp2_with fail
                    refine (sc_still hs5 (by omega)).mono ?_
                    rintro _ w6 ⟨rfl, hs6⟩
                    dsimp only
                    have HS6 := hide (hs6.mono (n' := i + 1) (B' := tb ops (i + 1)) (by omega) (by rw [HTB.out]; exact Nat.le_add_right _ _))
                    clear hs6 hs5
                    go_wp2_with fail
                    exact ⟨⟨i + 1, _, hlt, by simp, HS6.out⟩, by simp only [intOf]; omega⟩
                  · have d1 : decide (9 ≤ K) = false := decide_eq_false (by omega)
                    have d3 : decide (3 ≤ K) = false := decide_eq_false h3
                    have hs5 := HS0.out
                    go_wp2_with fail
                    refine (sc_still hs5 (by omega)).mono ?_
                    rintro _ w6 ⟨rfl, hs6⟩
                    dsimp only
                    have HS6 := hide (hs6.mono (n' := i + 1) (B' := tb ops (i + 1)) (by omega) (by rw [HTB.out]; exact Nat.le_add_right _ _))
                    clear hs6 hs5
                    go_wp2_with fail
                    exact ⟨⟨i + 1, _, hlt, by simp, HS6.out⟩, by simp only [intOf]; omega⟩
    · have e1 : decide (((i : Nat) : Int) < ((m : Nat) : Int)) = false := by simp; omega
      have HLOW := hide hsc.low
      clear hsc
      go_wp2_with fail
      go_ret
      exact ⟨rfl, HLOW.out⟩
end Go.Proofs.YtjipdjkcdoajbaaGreatDoor
