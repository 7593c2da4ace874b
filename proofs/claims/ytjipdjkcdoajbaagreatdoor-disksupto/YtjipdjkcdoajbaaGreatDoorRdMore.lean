/-
  PROVED HERE: what the document's own calls Remove and SyncDir of disks do.
-/
import Derived.Test.YtjipdjkcdoajbaaGreatDoorRdApp
namespace Go.Proofs.YtjipdjkcdoajbaaGreatDoor
open Go.RowKit
/-- A step is counted. -/
theorem wrote_disk {w : World} {b : Nat} {R : RDk} {nd : Nat → ByteArray × Int} {ns : List Nat} {cv nv sv : Value} (hi : RDIs w b R nv sv cv) (hn : NDs w nd ns) (h1 : ∀ e ∈ R.now, e.blk ∈ ns) (h2 : ∀ e ∈ R.safe, e.blk ∈ ns) (h3 : ∀ c ∈ R.chg, c.blk ∈ ns) (hf : Cnt4 R) :
    Calls Tryz.prog 58 #[.pointer (some ⟨b, 0, none⟩)] w fun e w' => e = .returned (.int .i64 0) ∧ RDN w' b R.wrote nd ns cv ∧ w.grownBy w' (some b) := by
  refine (wrote_any b R nv sv cv w hi.blk hf.1 hf.2.1 hf.2.2.1 hf.2.2.2).mono ?_
  rintro e w' ⟨rfl, hg, hb⟩
  have hk : ∀ k, k < w.heap.size → k ≠ b → w'.heap[k]? = w.heap[k]? := fun k hk n => hg.block k hk (fun e => n (by injection e))
  refine ⟨rfl, ⟨⟨nv, sv, hb, ?_, ?_, ?_⟩, ?_, h1, h2, h3⟩, hg⟩
  · exact own_same hi.now (fun k h hk2 => hk k hk2 (hi.nne.1 k h).1)
  · exact own_same hi.safe (fun k h hk2 => hk k hk2 (hi.nne.2 k h).1)
  · exact own_same hi.chg (fun k h hk2 => hk k hk2 (fun e => hi.cne (by rw [← e]; exact h)))
  · intro k hkn
    exact (hk k (lt_of_row (hn k hkn)) (RDN.node_ne hn hi hkn).1).trans (hn k hkn)
/-- The files stay where the paths change. -/
theorem nds_changes {w w5 : World} {b : Nat} {R : RDk} {nd : Nat → ByteArray × Int} {ns : List Nat} {cv nv sv : Value} (hi : RDIs w b R nv sv cv) (hn : NDs w nd ns) (hg : Gr (fun k => k = b ∨ cv.ownBlock = some k) w w5) : NDs w5 nd ns := by
  intro k hk
  obtain ⟨e1, -, -, e4⟩ := RDN.node_ne hn hi hk
  exact (hg.block k (lt_of_row (hn k hk)) (fun hS => hS.elim (fun e => e1 e) (fun e => e4 k e rfl))).trans (hn k hk)
set_option maxHeartbeats 1000000 in
set_option maxRecDepth 100000 in
theorem remove_any (b : Nat) (R : RDk) (nd : Nat → ByteArray × Int) (ns : List Nat) (cv : Value) (p : ByteArray) (w : World) (h : RDN w b R nd ns cv) (hf : Fits R nd ns) (hp : p.size ≤ 9223372036854775807) :
    Calls Tryz.prog 29 #[.pointer (some ⟨b, 0, none⟩), .string p] w fun e w' =>
      (isPathB p = false → e = .returned (.int .i64 2) ∧ Below w.heap.size w w') ∧
      (isPathB p = true → R.left = 0 → e = .returned (.int .i64 0) ∧ Below w.heap.size w w') ∧
      (isPathB p = true → R.left ≠ 0 → findE p R.now = none → e = .returned (.int .i64 3) ∧ Below w.heap.size w w') ∧
      (∀ nb, isPathB p = true → R.left ≠ 0 → findE p R.now = some nb → e = .returned (.int .i64 0) ∧ ∃ cv', NewOr w cv cv' ∧
        RDN w' b (RDk.wrote { R with now := afterE R.now p ⟨#[]⟩ nb, chg := R.chg ++ [⟨p, ⟨#[]⟩, nb⟩] }) nd ns cv' ∧ Gr (fun k => k = b ∨ cv.ownBlock = some k) w w') := by
  obtain ⟨nv, sv, hi⟩ := h.is
  have HI := hide hi
  have HNS := hide h.nds
  have HH := hide h
  have HBG := hide (begins_any b R nv sv cv p p w hi hp hp)
  have HFD := hide (fun w' (hb : Below w.heap.size w w') => find_any nv R.now p w' (deAt_own (ownsRow_later hi.now hb)) (by have := hf.now; omega))
  have c1 : w.cell? ⟨b, 1, none⟩ = some nv := cell_of_row _ _ 1 _ _ _ hi.blk
  obtain ⟨on, cn, hnv⟩ := own_sl hi.now
  subst hnv
  clear h hi
  cases hpp : isPathB p with
  | false =>
    rw [hpp] at HBG
    simp only [Bool.false_eq_true, false_and, if_false] at HBG
    have key : Calls Tryz.prog 29 #[.pointer (some ⟨b, 0, none⟩), .string p] w fun e w' => e = .returned (.int .i64 2) ∧ Below w.heap.size w w' := by
      go_enter Tryz.func29, Tryz.ntmps29
      go_wp2_with fail
      refine (HBG.out).mono ?_
      rintro _ w1 ⟨hw, rfl⟩
      subst hw
      dsimp only
      go_wp2_with fail
      go_ret
      exact ⟨rfl, Below.refl _ _⟩
    exact key.mono fun e w' h => ⟨fun _ => h, (fun h0 => by cases h0), (fun h0 => by cases h0), (fun _ h0 => by cases h0)⟩
  | true =>
    rw [hpp] at HBG
    simp only [and_self, if_true] at HBG
    by_cases hl0 : R.left = 0
    · simp only [hl0, decide_true] at HBG
      have key : Calls Tryz.prog 29 #[.pointer (some ⟨b, 0, none⟩), .string p] w fun e w' => e = .returned (.int .i64 0) ∧ Below w.heap.size w w' := by
        go_enter Tryz.func29, Tryz.ntmps29
        go_wp2_with fail
        refine (HBG.out).mono ?_
        rintro _ w1 ⟨hw, rfl⟩
        subst hw
        dsimp only
        go_wp2_with fail
        go_ret
        exact ⟨rfl, Below.refl _ _⟩
      exact key.mono fun e w' h => ⟨(fun h0 => by cases h0), fun _ _ => h, fun _ h0 => absurd hl0 h0, fun _ _ h0 => absurd hl0 h0⟩
    · simp only [hl0, decide_false] at HBG
      cases hfo : findE p R.now with
      | none =>
        rw [hfo] at HFD
        dsimp only [ptrOf] at HFD
        have key : Calls Tryz.prog 29 #[.pointer (some ⟨b, 0, none⟩), .string p] w fun e w' => e = .returned (.int .i64 3) ∧ Below w.heap.size w w' := by
          go_enter Tryz.func29, Tryz.ntmps29
          go_wp2_with fail
          refine (HBG.out).mono ?_
          rintro _ w1 ⟨hw, rfl⟩
          subst hw
          dsimp only
          go_wp2_with fail
          refine (HFD.out _ (Below.refl _ _)).mono ?_
          rintro _ w2 ⟨rfl, hb2⟩
          dsimp only
          have HB2 := hide hb2
          clear hb2
          go_wp2_with fail
          go_ret
          exact ⟨rfl, HB2.out⟩
        exact key.mono fun e w' h => ⟨(fun h0 => by cases h0), fun _ h0 => absurd h0 hl0, fun _ _ _ => h, (fun _ _ _ h0 => by cases h0)⟩
      | some nb =>
        rw [hfo] at HFD
        dsimp only [ptrOf] at HFD
        have hmem : nb ∈ ns := by
          obtain ⟨e, he, hb⟩ := findE_mem hfo
          rw [← hb]; exact HH.out.inow e he
        have key : Calls Tryz.prog 29 #[.pointer (some ⟨b, 0, none⟩), .string p] w fun e w' => e = .returned (.int .i64 0) ∧ ∃ cv', NewOr w cv cv' ∧
            RDN w' b (RDk.wrote { R with now := afterE R.now p ⟨#[]⟩ nb, chg := R.chg ++ [⟨p, ⟨#[]⟩, nb⟩] }) nd ns cv' ∧ Gr (fun k => k = b ∨ cv.ownBlock = some k) w w' := by
          go_enter Tryz.func29, Tryz.ntmps29
          go_wp2_with fail
          refine (HBG.out).mono ?_
          rintro _ w1 ⟨hw, rfl⟩
          subst hw
          dsimp only
          go_wp2_with fail
          refine (HFD.out _ (Below.refl _ _)).mono ?_
          rintro _ w2 ⟨rfl, hb2⟩
          dsimp only
          have hi2 := HI.out.later hb2
          have hn2 := HNS.out.later hb2
          have n0 : w2.cell? ⟨nb, 0, none⟩ = some (.string (nd nb).1) := cell_of_row _ _ 0 _ _ _ (hn2 nb hmem)
          have n1 : w2.cell? ⟨nb, 1, none⟩ = some (.int .i64 (nd nb).2) := cell_of_row _ _ 1 _ _ _ (hn2 nb hmem)
          have nf := fun j => frozen_of_row w2 nb j _ _ (hn2 nb hmem)
          have HB2 := hide hb2
          have HI2 := hide hi2
          have HN2 := hide hn2
          clear hb2 hi2 hn2
          have HCH := hide (changes_any b nb R _ sv cv p ⟨#[]⟩ _ HI2.out hf.now hf.chg)
          go_wp2_with fail
          refine (HCH.out).mono ?_
          rintro _ w5 ⟨rfl, hg5, nv5, cv5, hi5, hno5⟩
          dsimp only
          have HWD := hide (wrote_disk hi5 (nds_changes HI2.out HN2.out hg5) (fun e he => by
              rcases afterE_mem (show e ∈ afterE R.now p ⟨#[]⟩ nb from he) with h0 | h0
              · exact HH.out.inow e h0
              · rw [h0]; exact hmem) HH.out.isafe (fun c hc => by
              rcases List.mem_append.1 (show c ∈ R.chg ++ [⟨p, ⟨#[]⟩, nb⟩] from hc) with h0 | h0
              · exact HH.out.ichg c h0
              · simp only [List.mem_singleton] at h0; rw [h0]; exact hmem) hf.cnt)
          have HG5 := hide hg5
          have HNO5 := hide hno5
          clear hi5 hg5 hno5
          go_wp2_with fail
          refine (HWD.out).mono ?_
          rintro _ w6 ⟨rfl, hr6, hg6⟩
          dsimp only
          have HR6 := hide hr6
          have HG6 := hide (gr_trans' HG5.out hg6 (.inl rfl))
          clear hr6 hg6
          go_wp2_with fail
          go_ret
          exact ⟨rfl, cv5, newOr_low HB2.out.size (Nat.le_refl _) HNO5.out, HR6.out, gr_below HB2.out HG6.out⟩
        exact key.mono fun e w' h => ⟨(fun h0 => by cases h0), fun _ h0 => absurd h0 hl0, (fun _ _ h0 => by cases h0), (fun nb2 _ _ h0 => by injection h0 with h0; subst h0; exact h)⟩
end Go.Proofs.YtjipdjkcdoajbaaGreatDoor

/-
  PROVED HERE: what the document's own calls SyncDir, Break, Steps, Used and Read of disks do.
-/
namespace Go.Proofs.YtjipdjkcdoajbaaGreatDoor
open Go.RowKit
theorem RDIs.setSafe {w : World} {b : Nat} {R : RDk} {nv sv cv : Value} (h : RDIs w b R nv sv cv) : RDIs ((w.setCell ⟨b, 2, none⟩ nv).setCell ⟨b, 3, none⟩ (.slice none 0 0)) b { R with safe := R.now, chg := [] } nv nv (.slice none 0 0) := by
  have hset : ∀ k, k ≠ b → ((w.setCell ⟨b, 2, none⟩ nv).setCell ⟨b, 3, none⟩ (.slice none 0 0)).heap[k]? = w.heap[k]? := fun k hk => by
    rw [heap_setCell_other _ _ _ _ (by simpa using hk), heap_setCell_other _ _ _ _ (by simpa using hk)]
  refine ⟨?_, ?_, ?_, World.ownsRow_nil _ _ _ _⟩
  · rw [heap_setCell_same _ b 3 _ _ _ (heap_setCell_same _ b 2 _ _ _ h.blk)]; rfl
  · exact own_same h.now (fun k hk _ => hset k (h.nne.1 k hk).1)
  · exact own_same h.now (fun k hk _ => hset k (h.nne.1 k hk).1)
theorem nds_set {w w' : World} {b : Nat} {R : RDk} {nd : Nat → ByteArray × Int} {ns : List Nat} {cv nv sv : Value} (hi : RDIs w b R nv sv cv) (hn : NDs w nd ns) (hg : w.grownBy w' (some b)) : NDs w' nd ns := fun k hk =>
  (hg.block k (lt_of_row (hn k hk)) (fun e => (RDN.node_ne hn hi hk).1 (by injection e))).trans (hn k hk)
set_option maxHeartbeats 1000000 in
set_option maxRecDepth 100000 in
theorem syncDir_any (b : Nat) (R : RDk) (nd : Nat → ByteArray × Int) (ns : List Nat) (cv : Value) (w : World) (h : RDN w b R nd ns cv) (hf : Fits R nd ns) :
    Calls Tryz.prog 35 #[.pointer (some ⟨b, 0, none⟩)] w fun e w' =>
      (R.left = 0 → e = .returned (.int .i64 0) ∧ Below w.heap.size w w') ∧
      (R.left ≠ 0 → e = .returned (.int .i64 0) ∧ RDN w' b (RDk.wrote { R with safe := R.now, chg := [] }) nd ns (.slice none 0 0) ∧ w.grownBy w' (some b)) := by
  obtain ⟨nv, sv, hi⟩ := h.is
  have HI := hide hi
  have HNS := hide h.nds
  have HH := hide h
  have hx : isPathB ⟨#[120]⟩ = true := by decide
  have hbg := begins_any b R nv sv cv ⟨#[120]⟩ ⟨#[120]⟩ w hi (by decide) (by decide)
  rw [hx] at hbg
  simp only [and_self, if_true] at hbg
  have HBG := hide hbg
  have c1 : w.cell? ⟨b, 1, none⟩ = some nv := cell_of_row _ _ 1 _ _ _ hi.blk
  have c2 : w.cell? ⟨b, 2, none⟩ = some sv := cell_of_row _ _ 2 _ _ _ hi.blk
  have c3 : w.cell? ⟨b, 3, none⟩ = some cv := cell_of_row _ _ 3 _ _ _ hi.blk
  have bf := fun j => frozen_of_row w b j _ _ hi.blk
  obtain ⟨on, cn, hnv⟩ := own_sl hi.now
  subst hnv
  clear h hi hbg hx
  by_cases hl0 : R.left = 0
  · simp only [hl0, decide_true] at HBG
    have key : Calls Tryz.prog 35 #[.pointer (some ⟨b, 0, none⟩)] w fun e w' => e = .returned (.int .i64 0) ∧ Below w.heap.size w w' := by
      go_enter Tryz.func35, Tryz.ntmps35
      go_wp2_with fail
      refine (HBG.out).mono ?_
      rintro _ w1 ⟨hw, rfl⟩
      subst hw
      dsimp only
      go_wp2_with fail
      go_ret
      exact ⟨rfl, Below.refl _ _⟩
    exact key.mono fun e w' h => ⟨fun _ => h, fun h0 => absurd hl0 h0⟩
  · simp only [hl0, decide_false] at HBG
    have hgs : w.grownBy ((w.setCell ⟨b, 2, none⟩ (.slice on R.now.length cn)).setCell ⟨b, 3, none⟩ (.slice none 0 0)) (some b) := grownBy_trans (grownBy_set _ _ _ _) (grownBy_set _ _ _ _)
    have HWD := hide (wrote_disk HI.out.setSafe (nds_set HI.out HNS.out hgs) HH.out.inow HH.out.inow (fun c hc => by cases hc) hf.cnt)
    have HGS := hide hgs
    clear hgs
    have key : Calls Tryz.prog 35 #[.pointer (some ⟨b, 0, none⟩)] w fun e w' => e = .returned (.int .i64 0) ∧ RDN w' b (RDk.wrote { R with safe := R.now, chg := [] }) nd ns (.slice none 0 0) ∧ w.grownBy w' (some b) := by
      go_enter Tryz.func35, Tryz.ntmps35
      go_wp2_with fail
      refine (HBG.out).mono ?_
      rintro _ w1 ⟨hw, rfl⟩
      subst hw
      dsimp only
      go_wp2_with fail
      refine (HWD.out).mono ?_
      rintro _ w6 ⟨rfl, hr6, hg6⟩
      dsimp only
      have HR6 := hide hr6
      have HG6 := hide (grownBy_trans HGS.out hg6)
      clear hr6 hg6
      go_wp2_with fail
      go_ret
      exact ⟨rfl, HR6.out, HG6.out⟩
    exact key.mono fun e w' h => ⟨fun h0 => absurd h0 hl0, fun _ => h⟩
set_option maxHeartbeats 1000000 in
set_option maxRecDepth 100000 in
theorem break_any (b : Nat) (R : RDk) (nd : Nat → ByteArray × Int) (ns : List Nat) (cv : Value) (n : Int) (w : World) (h : RDN w b R nd ns cv) :
    Calls Tryz.prog 39 #[.pointer (some ⟨b, 0, none⟩), .int .i64 n] w fun e w' =>
      (n < 0 → e = .returned (.int .i64 5) ∧ w' = w) ∧ (¬ n < 0 → e = .returned (.int .i64 0) ∧ RDN w' b { R with left := n } nd ns cv ∧ w.grownBy w' (some b)) := by
  obtain ⟨nv, sv, hi⟩ := h.is
  have HI := hide hi
  have HH := hide h
  have c5 : w.cell? ⟨b, 5, none⟩ = some (.int .i64 R.left) := cell_of_row _ _ 5 _ _ _ hi.blk
  have bf := fun j => frozen_of_row w b j _ _ hi.blk
  clear h hi
  by_cases hn : n < 0
  · have key : Calls Tryz.prog 39 #[.pointer (some ⟨b, 0, none⟩), .int .i64 n] w fun e w' => e = .returned (.int .i64 5) ∧ w' = w := by
      go_enter Tryz.func39, Tryz.ntmps39
      go_wp2_with fail
      go_ret
      exact ⟨rfl, rfl⟩
    exact key.mono fun e w' h => ⟨fun _ => h, fun h0 => absurd hn h0⟩
  · have hn2 : decide (n < 0) = false := decide_eq_false hn
    have key : Calls Tryz.prog 39 #[.pointer (some ⟨b, 0, none⟩), .int .i64 n] w fun e w' => e = .returned (.int .i64 0) ∧ w' = w.setCell ⟨b, 5, none⟩ (.int .i64 n) := by
      go_enter Tryz.func39, Tryz.ntmps39
      go_wp2_with fail
      go_ret
      exact ⟨rfl, rfl⟩
    refine key.mono fun e w' h => ⟨fun h0 => absurd h0 hn, fun _ => ?_⟩
    obtain ⟨rfl, rfl⟩ := h
    have hg := grownBy_set w b 5 (.int .i64 n)
    have hset : ∀ k, k ≠ b → (w.setCell ⟨b, 5, none⟩ (.int .i64 n)).heap[k]? = w.heap[k]? := fun k hk => heap_setCell_other _ _ _ _ (by simpa using hk)
    refine ⟨rfl, ⟨⟨nv, sv, ?_, ?_, ?_, ?_⟩, nds_set HI.out HH.out.nds hg, HH.out.inow, HH.out.isafe, HH.out.ichg⟩, hg⟩
    · rw [heap_setCell_same _ b 5 _ _ _ HI.out.blk]; rfl
    · exact own_same HI.out.now (fun k hk _ => hset k (HI.out.nne.1 k hk).1)
    · exact own_same HI.out.safe (fun k hk _ => hset k (HI.out.nne.2 k hk).1)
    · exact own_same HI.out.chg (fun k hk _ => hset k (fun e => HI.out.cne (by rw [← e]; exact hk)))
end Go.Proofs.YtjipdjkcdoajbaaGreatDoor
