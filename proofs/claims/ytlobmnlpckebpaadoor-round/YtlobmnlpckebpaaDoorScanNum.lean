/-
  PROVED HERE: what the program's function scanNumber of the index's scanner answers: the number, or that it gives up at the number's place.
-/
import Derived.Test.YtlobmnlpckebpaaDoorByteOf
namespace Go.Proofs.YtlobmnlpckebpaaDoor
open Go.RowKit
set_option maxHeartbeats 2000000 in
set_option maxRecDepth 100000 in
theorem scanNum_core (b a kind : Nat) (num : Int) (txt t : ByteArray) (w : World) (hs : ScIs w b t a) (ha : a ≤ t.size) (ht : t.size ≤ 2000) :
    Calls Tryd.prog 71 #[.pointer (some ⟨b, 0, none⟩), tokV kind a num txt] w fun e w' => w.grownBy w' (some b) ∧ ((∃ n c, numS t a a 0 = some (n, c) ∧ e = .returned (.int .i64 ((n : Nat) : Int)) ∧ ScIs w' b t c) ∨ (numS t a a 0 = none ∧ e = gaveUp a)) := by
  have HS := hide hs
  have hbl := lt_heap hs
  clear hs
  unfold tokV
  go_enter Tryd.func71, Tryd.ntmps71
  go_wp2_with fail
  go_loopw [5] (fun nv wr => ∃ (k n : Nat), k ≤ t.size ∧ a ≤ k ∧ k ≤ a + 9 ∧ n < 10 ^ (k - a) ∧ nv = .int .i64 ((n : Nat) : Int) ∧ numS t a k n = numS t a a 0 ∧ ScIs wr b t k ∧ wr.heap[w.heap.size]? = some (.cells #[.int .u8 ((kind : Nat) : Int), .int .i64 ((a : Nat) : Int), .int .i64 num, .string txt] 87 (0, 0)) ∧ w.grownBy wr (some b))
    (fun _ wr => t.size - atOf wr b)
  case atStart =>
    have hb0 : Below w.heap.size w (w.alloc (.cells #[.int .u8 ((kind : Nat) : Int), .int .i64 ((a : Nat) : Int), .int .i64 num, .string txt] 87)) := (Below.refl _ _).alloc (Nat.le_refl _) _
    exact ⟨a, 0, ha, Nat.le_refl _, by omega, by simp, rfl, rfl, HS.out.later hb0, heap_alloc_new _ _, grownBy_below hb0 _⟩
  case round =>
    obtain ⟨k, n, hk, hak, hk9, hn, rfl, he, hsc, htk, hg⟩ := hrel
    have HE := hide he
    have HSC := hide hsc
    have HTK := hide htk
    have HG := hide hg
    have c0 := hsc.c0
    have c1 := hsc.c1
    have t0 : wr.cell? ⟨w.heap.size, 0, none⟩ = some (.int .u8 ((kind : Nat) : Int)) := cell_of_row wr _ 0 _ _ _ htk
    have t1 : wr.cell? ⟨w.heap.size, 1, none⟩ = some (.int .i64 ((a : Nat) : Int)) := cell_of_row wr _ 1 _ _ _ htk
    have t2 : wr.cell? ⟨w.heap.size, 2, none⟩ = some (.int .i64 num) := cell_of_row wr _ 2 _ _ _ htk
    have t3 : wr.cell? ⟨w.heap.size, 3, none⟩ = some (.string txt) := cell_of_row wr _ 3 _ _ _ htk
    have hat := hsc.atOf
    have htl := lt_heap htk
    have hbl2 := lt_heap hsc
    have hn9 : n < 1000000000 := Nat.lt_of_lt_of_le hn (by
      have := Nat.pow_le_pow_right (n := 10) (by omega) (show k - a ≤ 9 by omega)
      simpa using this)
    have HN := hide hn
    clear he hsc htk hg hn
    by_cases hlt : k < t.size
    · have e1 : decide (k < t.size) = true := by simp [hlt]
      obtain ⟨x, hx⟩ : ∃ x : Nat, x = (t[k]'hlt).toNat := ⟨_, rfl⟩
      have hx2 : ((t[k]'hlt).toNat : Int) = (x : Int) := by rw [hx]
      have hx256 : x < 256 := by rw [hx]; exact UInt8.toNat_lt _
      have HX := hide hx
      clear hx
      cases hd : digB x with
      | false =>
        have HC : Hid (∀ w, Calls Tryd.prog 70 #[.int .u8 ((x : Nat) : Int)] w fun e w' => e = .returned (.bool false) ∧ w' = w) := fun w => by
          have := isDigit_any x w
          rwa [hd] at this
        have hnum : numS t a a 0 = some (n, k) := by rw [← HE.out, numS, dif_pos hlt, ← HX.out, hd]; rfl
        have HNUM := hide hnum
        clear hnum hd
        go_wp2
        go_quiet ((go_at_call 70; exact Calls.quiet_of_same (HC.out _)))
        go_wp2
        go_ret
        exact ⟨grownBy_trans HG.out (grownBy_below ((Below.refl _ _).drewN nq) _), Or.inl ⟨n, k, HNUM.out, rfl, HSC.out⟩⟩
      | true =>
        have HC : Hid (∀ w, Calls Tryd.prog 70 #[.int .u8 ((x : Nat) : Int)] w fun e w' => e = .returned (.bool true) ∧ w' = w) := fun w => by
          have := isDigit_any x w
          rwa [hd] at this
        have hx48 : 48 ≤ x ∧ x ≤ 57 := by unfold digB at hd; simpa using hd
        have hnum : numS t a a 0 = if (a < k ∧ n = 0) ∨ ¬ k < a + 9 then none else numS t a (k + 1) (10 * n + (x - 48)) := by rw [← HE.out, numS, dif_pos hlt, ← HX.out, hd]; rfl
        have HNUM := hide hnum
        clear hnum hd
        by_cases hlz : a < k ∧ n = 0
        · obtain ⟨h1, rfl⟩ := hlz
          have hnone : numS t a a 0 = none := by rw [HNUM.out, if_pos (Or.inl ⟨h1, rfl⟩)]
          have HNONE := hide hnone
          have g1 : decide (a < k) = true := by simp [h1]
          have HK := hide (And.intro h1 (And.intro hak hk9))
          clear hnone h1 hak hk9
          go_wp2
          go_quiet ((go_at_call 70; exact Calls.quiet_of_same (HC.out _)))
          go_wp2
          go_quiet (fail)
          go_wp2
          clear HC hx2 hx48 hx256 e1 g1 HX hlt hn9 hat hk HN HE HNUM HSC HTK c0 c1
          refine region_stillI 13 mixed (by kernel_rfl) ?_
          simp only [List.take_succ_cons, List.take_zero, List.drop_succ_cons, List.drop_zero]
          iterate 13 (refine stillI_step (fun K hK => ?_); go_simp; refine hK _ ?_; clear hK K)
          refine stillI_nil ?_
          go_wp2_with (go_at_call 56; refine (must_bad kind a num txt _).mono ?_; rintro _ w1 ⟨rfl, hm⟩; dsimp only [gaveUp])
          exact ⟨rfl, grownBy_trans HG.out (grownBy_below (show Below wr.heap.size wr w1 from ⟨hm.os, hm.tape, hm.output, hm.size, hm.block⟩) _), Or.inr ⟨HNONE.out, rfl⟩⟩
        · have hz : (decide (a < k) = false) ∨ (decide (a < k) = true ∧ ((n : Int) == 0) = false) := by
            by_cases h1 : a < k
            · right; exact ⟨by simp [h1], by have : n ≠ 0 := fun h => hlz ⟨h1, h⟩; simp; omega⟩
            · left; simp [h1]
          by_cases h9 : k < a + 9
          · have hstep : numS t a (k + 1) (10 * n + (x - 48)) = numS t a a 0 := by rw [HNUM.out, if_neg (by omega)]
            have HSTEP := hide hstep
            have g9 : decide (k < a + 9) = true := by simp [h9]
            have g10 : decide ((k : Int) < (a : Int) + 9) = true := by simp; omega
            have G10 := hide g10
            clear g9 g10
            have v1 : IntKind.i64.wrap (10 * (n : Int)) = 10 * (n : Int) := by rw [IntKind.wrap_i64]; omega
            have v2 : IntKind.u8.wrap ((x : Int) - 48) = (x : Int) - 48 := by rw [IntKind.wrap_u8]; omega
            have v3 : IntKind.i64.wrap ((x : Int) - 48) = (x : Int) - 48 := by rw [IntKind.wrap_i64]; omega
            have v4 : IntKind.i64.wrap (10 * (n : Int) + ((x : Int) - 48)) = 10 * (n : Int) + ((x : Int) - 48) := by rw [IntKind.wrap_i64]; omega
            have HK := hide (And.intro hak (And.intro hk9 (And.intro hlz h9)))
            clear hstep hlz h9 hak hk9
            rcases hz with g1 | ⟨g1, g2⟩
            all_goals
              go_wp2
              go_quiet ((go_at_call 70; exact Calls.quiet_of_same (HC.out _)))
              go_wp2
              go_quiet (fail)
              go_wp2
              refine region_stillI 13 mixed (by kernel_rfl) ?_
              simp only [List.take_succ_cons, List.take_zero, List.drop_succ_cons, List.drop_zero]
              iterate 13 (refine stillI_step (fun K hK => ?_); go_simp; refine hK _ ?_; clear hK K)
              refine stillI_nil ?_
              go_wp2_with (go_at_call 56; rw [G10.out]; refine (must_ok kind a num txt _).mono ?_; rintro _ w1 ⟨rfl, hm0⟩; have hm : Below wr.heap.size wr w1 := ⟨hm0.os, hm0.tape, hm0.output, hm0.size, hm0.block⟩; have HSC1 := hide (HSC.out.later hm); have d0 := HSC1.out.c0; have d1 := HSC1.out.c1; have df := fun j => frozen_of_row w1 b j _ _ HSC1.out; clear hm0)
              go_quiet (fail)
              go_wp2
              go_roundw
              case rel =>
                have hkk := HK.out
                have hnn := HN.out
                have htl1 : w.heap.size < w1.heap.size := Nat.lt_of_lt_of_le htl hm.size
                rw [show ((k : Int) + 1) = ((k + 1 : Nat) : Int) by omega]
                refine ⟨k + 1, 10 * n + (x - 48), by omega, by omega, by omega, ?_, ?_, HSTEP.out, ScIs.set (w := w1.drewN nq) HSC1.out (k + 1), ?_, ?_⟩
                · rw [show k + 1 - a = (k - a) + 1 by omega, Nat.pow_succ]
                  omega
                · rw [show 10 * (n : Int) + ((x : Int) - 48) = ((10 * n + (x - 48) : Nat) : Int) by omega]
                · rw [heap_setCell_other _ _ _ _ (by simp; omega)]
                  exact (hm.block _ htl).trans HTK.out
                · exact grownBy_trans (grownBy_trans HG.out (grownBy_below hm _)) (grownBy_trans (grownBy_below ((Below.refl _ _).drewN nq) _) (grownBy_set _ _ _ _))
              case measure =>
                rw [show ((k : Int) + 1) = ((k + 1 : Nat) : Int) by omega, (ScIs.set (w := w1.drewN nq) HSC1.out (k + 1)).atOf, hat]
                omega
          · have hnone : numS t a a 0 = none := by rw [HNUM.out, if_pos (Or.inr h9)]
            have HNONE := hide hnone
            have g10 : decide ((k : Int) < (a : Int) + 9) = false := by simp; omega
            have G10 := hide g10
            have HK := hide (And.intro hak (And.intro hk9 (And.intro hlz h9)))
            clear hnone hlz h9 hak hk9 g10
            rcases hz with g1 | ⟨g1, g2⟩
            all_goals
              go_wp2
              go_quiet ((go_at_call 70; exact Calls.quiet_of_same (HC.out _)))
              go_wp2
              go_quiet (fail)
              go_wp2
              refine region_stillI 13 mixed (by kernel_rfl) ?_
              simp only [List.take_succ_cons, List.take_zero, List.drop_succ_cons, List.drop_zero]
              iterate 13 (refine stillI_step (fun K hK => ?_); go_simp; refine hK _ ?_; clear hK K)
              refine stillI_nil ?_
              go_wp2_with (go_at_call 56; rw [G10.out]; refine (must_bad kind a num txt _).mono ?_; rintro _ w1 ⟨rfl, hm⟩; dsimp only [gaveUp])
              exact ⟨rfl, grownBy_trans HG.out (grownBy_below (show Below wr.heap.size wr w1 from ⟨hm.os, hm.tape, hm.output, hm.size, hm.block⟩) _), Or.inr ⟨HNONE.out, rfl⟩⟩
    · have e1 : decide (k < t.size) = false := by simp [hlt]
      have hnum : numS t a a 0 = some (n, k) := by rw [← HE.out, numS, dif_neg hlt]
      have HNUM := hide hnum
      clear hnum
      go_wp2
      go_quiet (fail)
      go_wp2
      go_ret
      exact ⟨grownBy_trans HG.out (grownBy_below ((Below.refl _ _).drewN nq) _), Or.inl ⟨n, k, HNUM.out, rfl, HSC.out⟩⟩
end Go.Proofs.YtlobmnlpckebpaaDoor
