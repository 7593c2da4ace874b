/-
  PROVED HERE: what the document's own call Rename of disks does.
-/
import Derived.Test.YtjipdjkcdoajbaaGreatDoorRdMore
namespace Go.Proofs.YtjipdjkcdoajbaaGreatDoor
open Go.RowKit
set_option maxHeartbeats 1000000 in
set_option maxRecDepth 100000 in
theorem rename_any (b : Nat) (R : RDk) (nd : Nat → ByteArray × Int) (ns : List Nat) (cv : Value) (p q : ByteArray) (w : World) (h : RDN w b R nd ns cv) (hf : Fits R nd ns) (hp : p.size ≤ 9223372036854775807) (hq : q.size ≤ 9223372036854775807) :
    Calls Tryz.prog 27 #[.pointer (some ⟨b, 0, none⟩), .string p, .string q] w fun e w' =>
      (¬ (isPathB p = true ∧ isPathB q = true) → e = .returned (.int .i64 2) ∧ Below w.heap.size w w') ∧
      (isPathB p = true ∧ isPathB q = true → R.left = 0 → e = .returned (.int .i64 0) ∧ Below w.heap.size w w') ∧
      (isPathB p = true ∧ isPathB q = true → R.left ≠ 0 → findE p R.now = none → e = .returned (.int .i64 3) ∧ Below w.heap.size w w') ∧
      (∀ nb, isPathB p = true ∧ isPathB q = true → R.left ≠ 0 → findE p R.now = some nb → e = .returned (.int .i64 0) ∧ ∃ cv', NewOr w cv cv' ∧
        RDN w' b (RDk.wrote (if p = q then R else { R with now := afterE R.now p q nb, chg := R.chg ++ [⟨p, q, nb⟩] })) nd ns cv' ∧ Gr (fun k => k = b ∨ cv.ownBlock = some k) w w') := by
  obtain ⟨nv, sv, hi⟩ := h.is
  have HI := hide hi
  have HNS := hide h.nds
  have HH := hide h
  have HBG := hide (begins_any b R nv sv cv p q w hi hp hq)
  have HFD := hide (fun w' (hb : Below w.heap.size w w') => find_any nv R.now p w' (deAt_own (ownsRow_later hi.now hb)) (by have := hf.now; omega))
  have c1 : w.cell? ⟨b, 1, none⟩ = some nv := cell_of_row _ _ 1 _ _ _ hi.blk
  obtain ⟨on, cn, hnv⟩ := own_sl hi.now
  subst hnv
  clear h hi
  by_cases hpq : isPathB p = true ∧ isPathB q = true
  case neg =>
    rw [if_neg hpq] at HBG
    have key : Calls Tryz.prog 27 #[.pointer (some ⟨b, 0, none⟩), .string p, .string q] w fun e w' => e = .returned (.int .i64 2) ∧ Below w.heap.size w w' := by
      go_enter Tryz.func27, Tryz.ntmps27
      go_wp2_with fail
      refine (HBG.out).mono ?_
      rintro _ w1 ⟨hw, rfl⟩
      subst hw
      dsimp only
      go_wp2_with fail
      go_ret
      exact ⟨rfl, Below.refl _ _⟩
    exact key.mono fun e w' h => ⟨fun _ => h, fun h0 => absurd h0 hpq, fun h0 => absurd h0 hpq, fun _ h0 => absurd h0 hpq⟩
  case pos =>
    rw [if_pos hpq] at HBG
    by_cases hl0 : R.left = 0
    · simp only [hl0, decide_true] at HBG
      have key : Calls Tryz.prog 27 #[.pointer (some ⟨b, 0, none⟩), .string p, .string q] w fun e w' => e = .returned (.int .i64 0) ∧ Below w.heap.size w w' := by
        go_enter Tryz.func27, Tryz.ntmps27
        go_wp2_with fail
        refine (HBG.out).mono ?_
        rintro _ w1 ⟨hw, rfl⟩
        subst hw
        dsimp only
        go_wp2_with fail
        go_ret
        exact ⟨rfl, Below.refl _ _⟩
      exact key.mono fun e w' h => ⟨fun h0 => absurd hpq h0, fun _ _ => h, fun _ h0 => absurd hl0 h0, fun _ _ h0 => absurd hl0 h0⟩
    · simp only [hl0, decide_false] at HBG
      cases hfo : findE p R.now with
      | none =>
        rw [hfo] at HFD
        dsimp only [ptrOf] at HFD
        have key : Calls Tryz.prog 27 #[.pointer (some ⟨b, 0, none⟩), .string p, .string q] w fun e w' => e = .returned (.int .i64 3) ∧ Below w.heap.size w w' := by
          go_enter Tryz.func27, Tryz.ntmps27
          go_wp2_with fail
          refine (HBG.out).mono ?_
          rintro _ w1 ⟨hw, rfl⟩
          subst hw
          dsimp only
          go_wp2_with fail
          refine (HFD.out _ (Below.refl _ _)).mono ?_
          rintro _ w2 ⟨rfl, hb2⟩
          dsimp only
          have HB2 := hide hb2
          clear hb2
          go_wp2_with fail
          go_ret
          exact ⟨rfl, HB2.out⟩
        exact key.mono fun e w' h => ⟨fun h0 => absurd hpq h0, fun _ h0 => absurd h0 hl0, fun _ _ _ => h, (fun _ _ _ h0 => by cases h0)⟩
      | some nb =>
        rw [hfo] at HFD
        dsimp only [ptrOf] at HFD
        have hmem : nb ∈ ns := by
          obtain ⟨e, he, hb⟩ := findE_mem hfo
          rw [← hb]; exact HH.out.inow e he
        by_cases hsame : p = q
        · have key : Calls Tryz.prog 27 #[.pointer (some ⟨b, 0, none⟩), .string p, .string q] w fun e w' => e = .returned (.int .i64 0) ∧ ∃ cv', NewOr w cv cv' ∧
              RDN w' b R.wrote nd ns cv' ∧ Gr (fun k => k = b ∨ cv.ownBlock = some k) w w' := by
            subst hsame
            go_enter Tryz.func27, Tryz.ntmps27
            go_wp2_with fail
            refine (HBG.out).mono ?_
            rintro _ w1 ⟨hw, rfl⟩
            subst hw
            dsimp only
            go_wp2_with fail
            refine (HFD.out _ (Below.refl _ _)).mono ?_
            rintro _ w2 ⟨rfl, hb2⟩
            dsimp only
            have hi2 := HI.out.later hb2
            have hn2 := HNS.out.later hb2
            have n0 : w2.cell? ⟨nb, 0, none⟩ = some (.string (nd nb).1) := cell_of_row _ _ 0 _ _ _ (hn2 nb hmem)
            have n1 : w2.cell? ⟨nb, 1, none⟩ = some (.int .i64 (nd nb).2) := cell_of_row _ _ 1 _ _ _ (hn2 nb hmem)
            have nf := fun j => frozen_of_row w2 nb j _ _ (hn2 nb hmem)
            have HB2 := hide hb2
            have HI2 := hide hi2
            have HN2 := hide hn2
            clear hb2 hi2 hn2
            have HWD := hide (wrote_disk HI2.out HN2.out HH.out.inow HH.out.isafe HH.out.ichg hf.cnt)
            go_wp2_with fail
            refine (HWD.out).mono ?_
            rintro _ w6 ⟨rfl, hr6, hg6⟩
            dsimp only
            have HR6 := hide hr6
            have HG6 := hide (gr_trans' (Gr.refl (fun k => k = b ∨ cv.ownBlock = some k) _) hg6 (.inl rfl))
            clear hr6 hg6
            go_wp2_with fail
            go_ret
            exact ⟨rfl, cv, .inl rfl, HR6.out, gr_below HB2.out HG6.out⟩
          exact key.mono fun e w' h => ⟨fun h0 => absurd hpq h0, fun _ h0 => absurd h0 hl0, (fun _ _ h0 => by cases h0), (fun nb2 _ _ h0 => by injection h0 with h0; subst h0; rw [if_pos hsame]; exact h)⟩
        · have e7 : ¬ p.toList = q.toList := fun e => hsame ((toList_inj _ _).1 e)
          have e6 : (p.toList == q.toList) = false := by rw [beq_eq_false_iff_ne]; exact e7
          have key : Calls Tryz.prog 27 #[.pointer (some ⟨b, 0, none⟩), .string p, .string q] w fun e w' => e = .returned (.int .i64 0) ∧ ∃ cv', NewOr w cv cv' ∧
              RDN w' b (RDk.wrote { R with now := afterE R.now p q nb, chg := R.chg ++ [⟨p, q, nb⟩] }) nd ns cv' ∧ Gr (fun k => k = b ∨ cv.ownBlock = some k) w w' := by
            go_enter Tryz.func27, Tryz.ntmps27
            go_wp2_with fail
            refine (HBG.out).mono ?_
            rintro _ w1 ⟨hw, rfl⟩
            subst hw
            dsimp only
            go_wp2_with fail
            refine (HFD.out _ (Below.refl _ _)).mono ?_
            rintro _ w2 ⟨rfl, hb2⟩
            dsimp only
            have hi2 := HI.out.later hb2
            have hn2 := HNS.out.later hb2
            have n0 : w2.cell? ⟨nb, 0, none⟩ = some (.string (nd nb).1) := cell_of_row _ _ 0 _ _ _ (hn2 nb hmem)
            have n1 : w2.cell? ⟨nb, 1, none⟩ = some (.int .i64 (nd nb).2) := cell_of_row _ _ 1 _ _ _ (hn2 nb hmem)
            have nf := fun j => frozen_of_row w2 nb j _ _ (hn2 nb hmem)
            have HB2 := hide hb2
            have HI2 := hide hi2
            have HN2 := hide hn2
            clear hb2 hi2 hn2
            have HCH := hide (changes_any b nb R _ sv cv p q _ HI2.out hf.now hf.chg)
            go_wp2_with fail
            refine (HCH.out).mono ?_
            rintro _ w5 ⟨rfl, hg5, nv5, cv5, hi5, hno5⟩
            dsimp only
            have HWD := hide (wrote_disk hi5 (nds_changes HI2.out HN2.out hg5) (fun e he => by
                rcases afterE_mem (show e ∈ afterE R.now p q nb from he) with h0 | h0
                · exact HH.out.inow e h0
                · rw [h0]; exact hmem) HH.out.isafe (fun c hc => by
                rcases List.mem_append.1 (show c ∈ R.chg ++ [⟨p, q, nb⟩] from hc) with h0 | h0
                · exact HH.out.ichg c h0
                · simp only [List.mem_singleton] at h0; rw [h0]; exact hmem) hf.cnt)
            have HG5 := hide hg5
            have HNO5 := hide hno5
            clear hi5 hg5 hno5
            go_wp2_with fail
            refine (HWD.out).mono ?_
            rintro _ w6 ⟨rfl, hr6, hg6⟩
            dsimp only
            have HR6 := hide hr6
            have HG6 := hide (gr_trans' HG5.out hg6 (.inl rfl))
            clear hr6 hg6
            go_wp2_with fail
            go_ret
            exact ⟨rfl, cv5, newOr_low HB2.out.size (Nat.le_refl _) HNO5.out, HR6.out, gr_below HB2.out HG6.out⟩
          exact key.mono fun e w' h => ⟨fun h0 => absurd hpq h0, fun _ h0 => absurd h0 hl0, (fun _ _ h0 => by cases h0), (fun nb2 _ _ h0 => by injection h0 with h0; subst h0; rw [if_neg hsame]; exact h)⟩
set_option maxHeartbeats 1000000 in
set_option maxRecDepth 100000 in
theorem rdRead_any (b : Nat) (R : RDk) (nd : Nat → ByteArray × Int) (ns : List Nat) (cv : Value) (p : ByteArray) (w : World) (h : RDN w b R nd ns cv) (hf : Fits R nd ns) (hp : p.size ≤ 9223372036854775807) :
    Calls Tryz.prog 15 #[.pointer (some ⟨b, 0, none⟩), .string p] w fun e w' => Below w.heap.size w w' ∧
      e = .returned (if isPathB p = true then (match findE p R.now with | none => .tuple #[.string ⟨#[]⟩, .int .i64 3] | some nb => .tuple #[.string (nd nb).1, .int .i64 0]) else .tuple #[.string ⟨#[]⟩, .int .i64 2]) := by
  obtain ⟨nv, sv, hi⟩ := h.is
  have hmem : ∀ nb, findE p R.now = some nb → nb ∈ ns := fun nb hfo => by
    obtain ⟨e, he, hb⟩ := findE_mem hfo
    rw [← hb]; exact h.inow e he
  have HFI := hide (file_any b R nv sv cv p w hi hp hf.now)
  have HNS := hide h.nds
  clear h hi
  generalize isPathB p = bp at HFI ⊢
  cases bp with
  | false =>
    simp only [Bool.false_eq_true, if_false] at HFI ⊢
    go_enter Tryz.func15, Tryz.ntmps15
    go_wp2_with fail
    refine (HFI.out).mono ?_
    rintro _ w1 ⟨hb1, rfl⟩
    dsimp only
    have HB1 := hide hb1
    clear hb1
    go_wp2_with fail
    refine bodyPost_ret (results_tmp2 rfl _ _ _) rfl ?_
    exact ⟨HB1.out, rfl⟩
  | true =>
    simp only [if_true] at HFI ⊢
    cases hfo : findE p R.now with
    | none =>
      rw [hfo] at HFI
      dsimp only at HFI ⊢
      go_enter Tryz.func15, Tryz.ntmps15
      go_wp2_with fail
      refine (HFI.out).mono ?_
      rintro _ w1 ⟨hb1, rfl⟩
      dsimp only
      have HB1 := hide hb1
      clear hb1
      go_wp2_with fail
      refine bodyPost_ret (results_tmp2 rfl _ _ _) rfl ?_
      exact ⟨HB1.out, rfl⟩
    | some nb =>
      rw [hfo] at HFI
      dsimp only at HFI ⊢
      go_enter Tryz.func15, Tryz.ntmps15
      go_wp2_with fail
      refine (HFI.out).mono ?_
      rintro _ w1 ⟨hb1, rfl⟩
      dsimp only
      have n0 : w1.cell? ⟨nb, 0, none⟩ = some (.string (nd nb).1) := cell_of_row _ _ 0 _ _ _ (HNS.out.later hb1 nb (hmem nb hfo))
      have HB1 := hide hb1
      clear hb1
      go_wp2_with fail
      refine bodyPost_ret (results_tmp2 rfl _ _ _) rfl ?_
      exact ⟨HB1.out, rfl⟩
end Go.Proofs.YtjipdjkcdoajbaaGreatDoor
