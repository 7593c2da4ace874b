/-
  PROVED HERE: what the document's answer's functions atMost and root answer for square and cube roots of small numbers: nothing that was there has turned.
-/
import Derived.Test.YtpgamoielkpakaaDoorRefTimes
namespace Go.Proofs.YtpgamoielkpakaaDoor
open Go.RowKit
theorem OwnI.one (w : World) (n : Nat) (B : Nat) (hB : B ≤ w.heap.size) : OwnI (w.alloc (.cells #[.int .i64 ((n : Nat) : Int)] 3)) B (.slice (some ⟨w.heap.size, 0, none⟩) 1 1) [n] := by
  refine ⟨by simp, Or.inr ⟨w.heap.size, 1, #[.int .i64 ((n : Nat) : Int)], rfl, hB, heap_alloc_new w _, by simp, by unfold maxLen; omega, by simp, by simp⟩⟩
theorem noHi_low (p : List Nat) (m j : Nat) (h : j ≤ m) : Sha.noHi p m j = true := by
  induction j with
  | zero => rfl
  | succ j ih => rw [Sha.noHi, if_neg (by omega)]; exact ih (by omega)
theorem zeros_succ (j : Nat) : Sha.zeros (j + 1) = Sha.zeros j ++ [0] := by simp [Sha.zeros, List.replicate_succ']
set_option maxHeartbeats 2000000 in
set_option maxRecDepth 100000 in
theorem atMost_any (t k n : Nat) (w : World) (ht : t < 1099511627776) (hk0 : 0 < k) (hk : k ≤ 3) (hn : n < 65536) :
    Calls Tryd.prog 39 #[.int .i64 ((t : Nat) : Int), .int .i64 ((k : Nat) : Int), .int .i64 ((n : Nat) : Int)] w fun e w' => e = .returned (.bool (Sha.atMostL t k n)) ∧ Below w.heap.size w w' := by
  obtain ⟨i0, hi, hz0, hz1, hz2⟩ := info_parts Tryd.info3
  have hone := OwnI.one w 1 w.heap.size (Nat.le_refl _)
  have HONE := hide hone
  clear hone
  go_enter Tryd.func39, Tryd.ntmps39
  go_wp2
  go_loopw [7, 8] (fun v i wr => ∃ j : Nat, j ≤ k ∧ i = .int .i64 ((j : Nat) : Int) ∧ OwnI wr w.heap.size v (Sha.powL t j) ∧ Below w.heap.size w wr)
    (fun _ i _ => k - (intOf i).toNat)
  case atStart => exact ⟨0, Nat.zero_le _, rfl, HONE.out, (Below.refl _ _).alloc (Nat.le_refl _) _⟩
  case round =>
    obtain ⟨j, hj, rfl, hown, hb⟩ := hrel
    have hsz := hb.size
    have hlen := Sha.powL_len t j
    have hplt := Sha.powL_lt t j
    obtain ⟨p, hp⟩ : ∃ p, p = Sha.powL t j := ⟨_, rfl⟩
    rw [← hp] at hown hlen hplt
    obtain ⟨g, cap, hv, hBg, hgs, hcell⟩ := hown.shape (by omega)
    subst hv
    by_cases hlt : j < k
    · have HC : Hid (∃ _ : True, Calls Tryd.prog 58 #[.slice (some ⟨g, 0, none⟩) p.length cap, .int .i64 ((t : Nat) : Int)] wr fun e w' => ∃ v, e = .returned v ∧ OwnI w' wr.heap.size v (Sha.timesL p t) ∧ Below wr.heap.size wr w') :=
        ⟨trivial, times_any p t g cap wr (by omega) (by omega) hplt ht hgs hcell⟩
      have HP := hide hp
      clear hp hcell hplt
      have hd : decide ((j : Int) < (k : Int)) = true := by simp; omega
      go_wp2_with fail
      obtain ⟨_, hcall⟩ := HC.out
      refine hcall.mono ?_
      clear hcall
      rintro _ w2 ⟨v2, rfl, hown2, hb2⟩
      dsimp only
      go_wp2
      go_roundw
      case rel => exact ⟨j + 1, by omega, by go_num, by rw [Sha.powL, ← HP.out]; exact hown2.base hsz, hb.trans (hb2.mono hsz)⟩
      case measure => simp [intOf]; omega
    · have HP : Hid (p = Sha.powL t k) := by show p = _; rw [hp, show j = k by omega]
      have HCE := hide hcell
      have HPL := hide hplt
      clear hp hcell hplt HONE
      have hd : decide ((j : Int) < (k : Int)) = false := by simp; omega
      rename World => wp
      go_wp2
      go_loopw [9, 10] (fun v i wq => ∃ m : Nat, m ≤ 2 * k ∧ i = .int .i64 ((m : Nat) : Int) ∧ OwnI wq wp.heap.size v (Sha.zeros m) ∧ Below wp.heap.size wp wq)
        (fun _ i _ => 2 * k - (intOf i).toNat)
      case atStart => exact ⟨0, Nat.zero_le _, rfl, OwnI.nil _ _, Below.refl _ _⟩
      case round =>
        obtain ⟨m, hm, rfl, hownq, hbq⟩ := hrel
        have hszq := hbq.size
        by_cases hml : m < 2 * k
        · have hd2 : decide ((m : Int) < 2 * (k : Int)) = true := by simp; omega
          go_wp2_with (at_builtin; refine wpList_append_ownI _ rfl (.tmp 29) (.tmp 30) 32 rfl i0 Tryd.underlying32 hi hz0 hz1 hz2 wp.heap.size _ (Sha.zeros m) rfl (hownq.alloc _) (by simp; omega) ⟨wr.heap.size, 0, none⟩ 1 0 0 rfl (oneI _ _ _) rfl (by rw [Sha.zeros_len]; omega) ?_; intro v2 w2 hown2 hb2)
          go_wp2
          go_roundw
          case rel => exact ⟨m + 1, by omega, by go_num, by rw [zeros_succ]; exact hown2, (hbq.alloc hszq _).trans hb2⟩
          case measure => simp [intOf]; omega
        · have hd2 : decide ((m : Int) < 2 * (k : Int)) = false := by simp; omega
          have hm2 : m = 2 * k := by omega
          go_wp2_with (at_builtin; refine wpList_append_ownI _ rfl (.tmp 32) (.tmp 34) 32 rfl i0 Tryd.underlying32 hi hz0 hz1 hz2 wp.heap.size _ (Sha.zeros m) rfl (hownq.alloc _) (by simp; omega) ⟨wr.heap.size, 0, none⟩ 1 ((n : Nat) : Int) n rfl (oneI _ _ _) rfl (by rw [Sha.zeros_len]; omega) ?_; intro v2 w2 hown2 hb2)
          have hb3 : Below wp.heap.size wp w2 := (hbq.alloc hszq _).trans hb2
          have hbw : Below w.heap.size w w2 := hb.trans (hb3.mono hsz)
          have hq : Sha.zeros m ++ [n] = Sha.qL k n := by rw [hm2]; rfl
          rw [hq] at hown2
          have hql : (Sha.qL k n).length = 2 * k + 1 := by simp [Sha.qL, Sha.zeros_len]
          obtain ⟨gq, cq, hvq, _, hgq, hcq⟩ := hown2.shape (by omega)
          rw [hql] at hvq
          subst hvq
          have hcp : ∀ j, j < p.length → w2.cell? ⟨g, j, none⟩ = some (.int .i64 ((p.getD j 0 : Nat) : Int)) := fun j hj => ((bcell hb3).1 g j hgs).trans (HCE.out j hj)
          have hqlt : ∀ j, (Sha.qL k n).getD j 0 < 65536 := fun j => Sha.getD_app_lt (by omega) (fun j => by simp only [Sha.zeros, List.getD_eq_getElem?_getD, List.getElem?_replicate]; split <;> simp) hn j
          obtain ⟨q, hqq⟩ : ∃ q, q = Sha.qL k n := ⟨_, rfl⟩
          rw [← hqq] at hcq hql hqlt
          have HCQ := hide hcq
          have HQL := hide hqlt
          have HCP := hide hcp
          have HRES : Hid (Sha.atMostL t k n = (Sha.noHi p (2 * k + 1) p.length && Sha.cmpTo p q (2 * k + 1))) := by
            show _ = _
            rw [hqq, HP.out]
            rfl
          clear hcq hqlt hcp hqq hq hown2 hownq hbq hb2 hszq hown hb HCE hd hd2 hm2 hm hml
          have hpl := hlen.1
          have hpl2 : p.length ≤ 13 := by omega
          clear hlen
          go_loop [11] (fun i => ∃ j : Nat, j ≤ p.length ∧ i = .int .i64 ((j : Int) - 1) ∧ Sha.noHi p (2 * k + 1) p.length = Sha.noHi p (2 * k + 1) j) (fun i => (intOf i + 1).toNat)
          case atStart => exact ⟨p.length, Nat.le_refl _, by first | rfl | go_num, rfl⟩
          case round =>
            obtain ⟨j, hj, rfl, hno⟩ := hrel
            have HNO := hide hno
            clear hno
            by_cases hjm : 2 * k + 1 < j
            · obtain ⟨j1, rfl⟩ : ∃ j1, j = j1 + 1 := ⟨j - 1, by omega⟩
              have hcj := HCP.out j1 (by omega)
              obtain ⟨x, hx⟩ : ∃ x, x = p.getD j1 0 := ⟨_, rfl⟩
              rw [← hx] at hcj
              by_cases hx0 : 0 < x
              · have HR : Hid (Sha.atMostL t k n = false) := by
                  show _ = _
                  rw [HRES.out, HNO.out, Sha.noHi, ← hx, if_pos ⟨by omega, hx0⟩]
                  rfl
                clear hx
                go_wp2
                go_ret
                exact ⟨by rw [HR.out]; rfl, hbw⟩
              · have HN2 : Hid (Sha.noHi p (2 * k + 1) p.length = Sha.noHi p (2 * k + 1) j1) := by
                  show _ = _
                  rw [HNO.out, Sha.noHi, ← hx, if_neg (by omega)]
                clear hx
                go_wp2
                go_round
                case rel => exact ⟨j1, by omega, by go_num, HN2.out⟩
                case measure => simp [intOf]
            · have HR1 : Hid (Sha.atMostL t k n = Sha.cmpTo p q (2 * k + 1)) := by
                show _ = _
                rw [HRES.out, HNO.out, noHi_low p _ j (by omega)]
                rfl
              have hd3 : decide (2 * (k : Int) + 1 ≤ (j : Int) - 1) = false := by simp; omega
              clear HRES HNO
              go_wp2
              go_loop [12] (fun i => ∃ r : Nat, r ≤ 2 * k + 1 ∧ i = .int .i64 ((r : Int) - 1) ∧ Sha.cmpTo p q (2 * k + 1) = Sha.cmpTo p q r) (fun i => (intOf i + 1).toNat)
              case atStart => exact ⟨2 * k + 1, Nat.le_refl _, by go_num, rfl⟩
              case round =>
                obtain ⟨r, hr, rfl, hcm⟩ := hrel
                have HCM := hide hcm
                clear hcm
                by_cases hr0 : 0 < r
                · obtain ⟨r1, rfl⟩ : ∃ r1, r = r1 + 1 := ⟨r - 1, by omega⟩
                  have hcj := HCQ.out r1 (by omega)
                  have hyl := HQL.out r1
                  obtain ⟨y, hy⟩ : ∃ y, y = q.getD r1 0 := ⟨_, rfl⟩
                  rw [← hy] at hcj hyl
                  obtain ⟨x, hx⟩ : ∃ x, x = p.getD r1 0 := ⟨_, rfl⟩
                  have hxl := HPL.out r1
                  rw [← hx] at hxl
                  by_cases hrp : r1 < p.length
                  · have hcx := HCP.out r1 hrp
                    rw [← hx] at hcx
                    by_cases hxy : x = y
                    · have HC2 : Hid (Sha.cmpTo p q (2 * k + 1) = Sha.cmpTo p q r1) := by
                        show _ = _
                        rw [HCM.out, Sha.cmpTo, ← hx, ← hy, if_pos hxy]
                      have hne : ((x : Int) != (y : Int)) = false := by simp [hxy]
                      clear hx hy hxy
                      go_wp2
                      go_round
                      case rel => exact ⟨r1, by omega, by go_num, HC2.out⟩
                      case measure => simp [intOf]
                    · have HR : Hid (Sha.atMostL t k n = decide (x < y)) := by
                        show _ = _
                        rw [HR1.out, HCM.out, Sha.cmpTo, ← hx, ← hy, if_neg hxy]
                      have hne : ((x : Int) != (y : Int)) = true := by simp; omega
                      clear hx hy hxy
                      go_wp2
                      go_ret
                      exact ⟨by rw [HR.out]; rfl, hbw⟩
                  · have hx0 : x = 0 := by rw [hx]; simp [List.getD_eq_getElem?_getD, List.getElem?_eq_none (show p.length ≤ r1 by omega)]
                    by_cases hxy : x = y
                    · have HC2 : Hid (Sha.cmpTo p q (2 * k + 1) = Sha.cmpTo p q r1) := by
                        show _ = _
                        rw [HCM.out, Sha.cmpTo, ← hx, ← hy, if_pos hxy]
                      have hne : ((0 : Int) != (y : Int)) = false := by simp; omega
                      clear hx hy hxy hx0
                      go_wp2
                      go_round
                      case rel => exact ⟨r1, by omega, by go_num, HC2.out⟩
                      case measure => simp [intOf]
                    · have HR : Hid (Sha.atMostL t k n = decide (0 < y)) := by
                        show _ = _
                        rw [HR1.out, HCM.out, Sha.cmpTo, ← hx, ← hy, if_neg hxy, hx0]
                      have hne : ((0 : Int) != (y : Int)) = true := by simp; omega
                      clear hx hy hxy hx0
                      go_wp2
                      go_ret
                      exact ⟨by rw [HR.out]; rfl, hbw⟩
                · have HR : Hid (Sha.atMostL t k n = true) := by
                    show _ = _
                    rw [HR1.out, HCM.out, show r = 0 by omega]
                    rfl
                  go_wp2
                  go_ret
                  exact ⟨by rw [HR.out]; rfl, hbw⟩

end Go.Proofs.YtpgamoielkpakaaDoor
