/-
  PROVED HERE: what the document's own calls Sync and Truncate of disks do.
-/
import Derived.Test.YtjipdjkcdoajbaaGreatDoorRdUse
namespace Go.Proofs.YtjipdjkcdoajbaaGreatDoor
open Go.RowKit
/-- The document's disk, whole: its block, its rows, its files. -/
structure RDN (w : World) (b : Nat) (R : RDk) (nd : Nat → ByteArray × Int) (ns : List Nat) (cv : Value) : Prop where
  is : ∃ nv sv, RDIs w b R nv sv cv
  nds : NDs w nd ns
  inow : ∀ e ∈ R.now, e.blk ∈ ns
  isafe : ∀ e ∈ R.safe, e.blk ∈ ns
  ichg : ∀ c ∈ R.chg, c.blk ∈ ns
theorem RDN.later {w w' : World} {b : Nat} {R : RDk} {nd : Nat → ByteArray × Int} {ns : List Nat} {cv : Value} (h : RDN w b R nd ns cv) (hb : Below w.heap.size w w') : RDN w' b R nd ns cv := by
  obtain ⟨nv, sv, hi⟩ := h.is
  exact ⟨⟨nv, sv, hi.later hb⟩, h.nds.later hb, h.inow, h.isafe, h.ichg⟩
/-- A step more. -/
def RDk.wrote (R : RDk) : RDk := { R with count := R.count + 1, left := if 0 < R.left then R.left - 1 else R.left }
def setNd (nd : Nat → ByteArray × Int) (nb : Nat) (x : ByteArray × Int) : Nat → ByteArray × Int := fun k => if k = nb then x else nd k
/-- A file's block is no row and no disk. -/
theorem RDN.node_ne {w : World} {b : Nat} {R : RDk} {nd : Nat → ByteArray × Int} {ns : List Nat} {cv nv sv : Value} (h : NDs w nd ns) (hi : RDIs w b R nv sv cv) {nb : Nat} (hn : nb ∈ ns) : nb ≠ b ∧ (∀ k, nv.ownBlock = some k → k ≠ nb) ∧ (∀ k, sv.ownBlock = some k → k ≠ nb) ∧ (∀ k, cv.ownBlock = some k → k ≠ nb) := by
  have h1 := h nb hn
  refine ⟨type_ne h1 hi.blk (by decide), fun k hk => ?_, fun k hk => ?_, fun k hk => ?_⟩
  · obtain ⟨cur, hc⟩ := own_obj hi.now k hk; exact type_ne hc h1 (by decide)
  · obtain ⟨cur, hc⟩ := own_obj hi.safe k hk; exact type_ne hc h1 (by decide)
  · obtain ⟨cur, hc⟩ := own_obj hi.chg k hk; exact type_ne hc h1 (by decide)
/-- Behind a file that was written and a step that was counted. -/
theorem RDN.wroteNode {w w1 w2 : World} {b nb : Nat} {R : RDk} {nd : Nat → ByteArray × Int} {ns : List Nat} {cv nv sv : Value} {x : ByteArray × Int} (hi : RDIs w b R nv sv cv) (hn : NDs w nd ns) (h1 : ∀ e ∈ R.now, e.blk ∈ ns) (h2 : ∀ e ∈ R.safe, e.blk ∈ ns) (h3 : ∀ c ∈ R.chg, c.blk ∈ ns) (hm : nb ∈ ns)
    (hg1 : w.grownBy w1 (some nb)) (hb1 : w1.heap[nb]? = some (.cells #[.string x.1, .int .i64 x.2] 63 (0, 0))) (hg2 : w1.grownBy w2 (some b))
    (hb2 : w2.heap[b]? = some (.cells #[.int .i64 R.room, nv, sv, cv, .int .i64 R.wrote.count, .int .i64 R.wrote.left] 57 (0, 0))) :
    RDN w2 b R.wrote (setNd nd nb x) ns cv ∧ Gr (fun k => k = b ∨ k ∈ ns) w w2 := by
  obtain ⟨e1, e2, e3, e4⟩ := RDN.node_ne hn hi hm
  have hk : ∀ k, k < w.heap.size → k ≠ nb → k ≠ b → w2.heap[k]? = w.heap[k]? := fun k hk n1 n2 => (hg2.block k (Nat.lt_of_lt_of_le hk hg1.size) (fun e => n2 (by injection e))).trans (hg1.block k hk (fun e => n1 (by injection e)))
  refine ⟨⟨⟨nv, sv, hb2, ?_, ?_, ?_⟩, ?_, h1, h2, h3⟩, ?_⟩
  · exact own_same hi.now (fun k hk1 hk2 => hk k hk2 (e2 k hk1) (hi.nne.1 k hk1).1)
  · exact own_same hi.safe (fun k hk1 hk2 => hk k hk2 (e3 k hk1) (hi.nne.2 k hk1).1)
  · exact own_same hi.chg (fun k hk1 hk2 => hk k hk2 (e4 k hk1) (fun e => hi.cne (by rw [← e]; exact hk1)))
  · intro k hkn
    by_cases e : k = nb
    · subst e
      have : setNd nd k x k = x := by simp [setNd]
      rw [this]
      exact (hg2.block k (lt_of_row hb1) (fun e => e1 (by injection e))).trans hb1
    · have : setNd nd nb x k = nd k := by simp [setNd, e]
      rw [this]
      exact (hk k (lt_of_row (hn k hkn)) e (RDN.node_ne hn hi hkn).1).trans (hn k hkn)
  · exact ⟨hg2.os.trans hg1.os, hg2.tape.trans hg1.tape, hg2.output.trans hg1.output, Nat.le_trans hg1.size hg2.size, fun k hk1 hs => hk k hk1 (fun e => hs (.inr (by rw [e]; exact hm))) (fun e => hs (.inl e))⟩
theorem gr_below {S : Nat → Prop} {w w2 w' : World} (hb : Below w.heap.size w w2) (h : Gr S w2 w') : Gr S w w' :=
  ⟨h.os.trans hb.os, h.tape.trans hb.tape, h.output.trans hb.output, Nat.le_trans hb.size h.size, fun k hk hs => (h.block k (Nat.lt_of_lt_of_le hk hb.size) hs).trans (hb.block k hk)⟩
/-- The sizes of a disk that the walks ask for. -/
structure Fits (R : RDk) (nd : Nat → ByteArray × Int) (ns : List Nat) : Prop where
  now : R.now.length ≤ 100000000
  safe : R.safe.length ≤ 100000000
  chg : R.chg.length ≤ 100000000
  c0 : 0 ≤ R.count
  c1 : R.count < 1000000000000
  l0 : -1 ≤ R.left
  l1 : R.left ≤ 9223372036854775807
  r0 : 0 ≤ R.room
  r1 : R.room ≤ 9223372036854775807
  used : usedE nd R.now ≤ 1000000000000
  data : ∀ b ∈ ns, (nd b).1.size ≤ 1000000000000 ∧ 0 ≤ (nd b).2 ∧ (nd b).2 ≤ ((nd b).1.size : Int)
def Cnt4 (R : RDk) : Prop := 0 ≤ R.count ∧ R.count < 1000000000000 ∧ -1 ≤ R.left ∧ R.left ≤ 9223372036854775807
theorem Fits.cnt {R : RDk} {nd : Nat → ByteArray × Int} {ns : List Nat} (h : Fits R nd ns) : Cnt4 R := ⟨h.c0, h.c1, h.l0, h.l1⟩
/-- A file was written: then the step is counted. -/
theorem wrote_node {w w3 : World} {b nb : Nat} {R : RDk} {nd : Nat → ByteArray × Int} {ns : List Nat} {cv nv sv : Value} {x : ByteArray × Int} (hi : RDIs w b R nv sv cv) (hn : NDs w nd ns) (h1 : ∀ e ∈ R.now, e.blk ∈ ns) (h2 : ∀ e ∈ R.safe, e.blk ∈ ns) (h3 : ∀ c ∈ R.chg, c.blk ∈ ns) (hm : nb ∈ ns) (hf : Cnt4 R)
    (hg : w.grownBy w3 (some nb)) (hb : w3.heap[nb]? = some (.cells #[.string x.1, .int .i64 x.2] 63 (0, 0))) :
    Calls Tryz.prog 58 #[.pointer (some ⟨b, 0, none⟩)] w3 fun e w' => e = .returned (.int .i64 0) ∧ RDN w' b R.wrote (setNd nd nb x) ns cv ∧ Gr (fun k => k = b ∨ k ∈ ns) w w' := by
  have hbb := (hg.block b (lt_of_row hi.blk) (fun e => (RDN.node_ne hn hi hm).1 (by injection e with e; exact e.symm))).trans hi.blk
  refine (wrote_any b R nv sv cv w3 hbb hf.1 hf.2.1 hf.2.2.1 hf.2.2.2).mono ?_
  rintro e w' ⟨rfl, hg4, hb4⟩
  exact ⟨rfl, RDN.wroteNode hi hn h1 h2 h3 hm hg hb hg4 hb4⟩
set_option maxHeartbeats 1000000 in
set_option maxRecDepth 100000 in
theorem sync_any (b : Nat) (R : RDk) (nd : Nat → ByteArray × Int) (ns : List Nat) (cv : Value) (p : ByteArray) (w : World) (h : RDN w b R nd ns cv) (hf : Fits R nd ns) (hp : p.size ≤ 9223372036854775807) :
    Calls Tryz.prog 33 #[.pointer (some ⟨b, 0, none⟩), .string p] w fun e w' =>
      (isPathB p = false → e = .returned (.int .i64 2) ∧ Below w.heap.size w w') ∧
      (isPathB p = true → R.left = 0 → e = .returned (.int .i64 0) ∧ Below w.heap.size w w') ∧
      (isPathB p = true → R.left ≠ 0 → findE p R.now = none → e = .returned (.int .i64 3) ∧ Below w.heap.size w w') ∧
      (∀ nb, isPathB p = true → R.left ≠ 0 → findE p R.now = some nb → e = .returned (.int .i64 0) ∧ RDN w' b R.wrote (setNd nd nb ((nd nb).1, ((nd nb).1.size : Int))) ns cv ∧ Gr (fun k => k = b ∨ k ∈ ns) w w') := by
  obtain ⟨nv, sv, hi⟩ := h.is
  have HI := hide hi
  have HNS := hide h.nds
  have HH := hide h
  have HBG := hide (begins_any b R nv sv cv p p w hi hp hp)
  have HFD := hide (fun w' (hb : Below w.heap.size w w') => find_any nv R.now p w' (deAt_own (ownsRow_later hi.now hb)) (by have := hf.now; omega))
  have c1 : w.cell? ⟨b, 1, none⟩ = some nv := cell_of_row _ _ 1 _ _ _ hi.blk
  obtain ⟨on, cn, hnv⟩ := own_sl hi.now
  subst hnv
  clear h hi
  cases hpp : isPathB p with
  | false =>
    rw [hpp] at HBG
    simp only [Bool.false_eq_true, false_and, if_false] at HBG
    have key : Calls Tryz.prog 33 #[.pointer (some ⟨b, 0, none⟩), .string p] w fun e w' => e = .returned (.int .i64 2) ∧ Below w.heap.size w w' := by
      go_enter Tryz.func33, Tryz.ntmps33
      go_wp2_with fail
      refine (HBG.out).mono ?_
      rintro _ w1 ⟨hw, rfl⟩
      subst hw
      dsimp only
      go_wp2_with fail
      go_ret
      exact ⟨rfl, Below.refl _ _⟩
    exact key.mono fun e w' h => ⟨fun _ => h, (fun h0 => by cases h0), (fun h0 => by cases h0), (fun _ h0 => by cases h0)⟩
  | true =>
    rw [hpp] at HBG
    simp only [and_self, if_true] at HBG
    by_cases hl0 : R.left = 0
    · simp only [hl0, decide_true] at HBG
      have key : Calls Tryz.prog 33 #[.pointer (some ⟨b, 0, none⟩), .string p] w fun e w' => e = .returned (.int .i64 0) ∧ Below w.heap.size w w' := by
        go_enter Tryz.func33, Tryz.ntmps33
        go_wp2_with fail
        refine (HBG.out).mono ?_
        rintro _ w1 ⟨hw, rfl⟩
        subst hw
        dsimp only
        go_wp2_with fail
        go_ret
        exact ⟨rfl, Below.refl _ _⟩
      exact key.mono fun e w' h => ⟨(fun h0 => by cases h0), fun _ _ => h, fun _ h0 => absurd hl0 h0, fun _ _ h0 => absurd hl0 h0⟩
    · simp only [hl0, decide_false] at HBG
      cases hfo : findE p R.now with
      | none =>
        rw [hfo] at HFD
        dsimp only [ptrOf] at HFD
        have key : Calls Tryz.prog 33 #[.pointer (some ⟨b, 0, none⟩), .string p] w fun e w' => e = .returned (.int .i64 3) ∧ Below w.heap.size w w' := by
          go_enter Tryz.func33, Tryz.ntmps33
          go_wp2_with fail
          refine (HBG.out).mono ?_
          rintro _ w1 ⟨hw, rfl⟩
          subst hw
          dsimp only
          go_wp2_with fail
          refine (HFD.out _ (Below.refl _ _)).mono ?_
          rintro _ w2 ⟨rfl, hb2⟩
          dsimp only
          have HB2 := hide hb2
          clear hb2
          go_wp2_with fail
          go_ret
          exact ⟨rfl, HB2.out⟩
        exact key.mono fun e w' h => ⟨(fun h0 => by cases h0), fun _ h0 => absurd h0 hl0, fun _ _ _ => h, (fun _ _ _ h0 => by cases h0)⟩
      | some nb =>
        rw [hfo] at HFD
        dsimp only [ptrOf] at HFD
        have hmem : nb ∈ ns := by
          obtain ⟨e, he, hb⟩ := findE_mem hfo
          rw [← hb]; exact HH.out.inow e he
        have key : Calls Tryz.prog 33 #[.pointer (some ⟨b, 0, none⟩), .string p] w fun e w' => e = .returned (.int .i64 0) ∧ RDN w' b R.wrote (setNd nd nb ((nd nb).1, ((nd nb).1.size : Int))) ns cv ∧ Gr (fun k => k = b ∨ k ∈ ns) w w' := by
          go_enter Tryz.func33, Tryz.ntmps33
          go_wp2_with fail
          refine (HBG.out).mono ?_
          rintro _ w1 ⟨hw, rfl⟩
          subst hw
          dsimp only
          go_wp2_with fail
          refine (HFD.out _ (Below.refl _ _)).mono ?_
          rintro _ w2 ⟨rfl, hb2⟩
          dsimp only
          have hi2 := HI.out.later hb2
          have hn2 := HNS.out.later hb2
          have n0 : w2.cell? ⟨nb, 0, none⟩ = some (.string (nd nb).1) := cell_of_row _ _ 0 _ _ _ (hn2 nb hmem)
          have n1 : w2.cell? ⟨nb, 1, none⟩ = some (.int .i64 (nd nb).2) := cell_of_row _ _ 1 _ _ _ (hn2 nb hmem)
          have nf := fun j => frozen_of_row w2 nb j _ _ (hn2 nb hmem)
          have HB2 := hide hb2
          have HI2 := hide hi2
          have HN2 := hide hn2
          clear hb2 hi2 hn2
          have hbb : (w2.setCell ⟨nb, 1, none⟩ (.int .i64 ((nd nb).1.size : Int))).heap[b]? = some (.cells #[.int .i64 R.room, .slice on R.now.length cn, sv, cv, .int .i64 R.count, .int .i64 R.left] 57 (0, 0)) := by
            rw [heap_setCell_other _ _ _ _ (by simpa using (RDN.node_ne HN2.out HI2.out hmem).1.symm)]
            exact HI2.out.blk
          have HWR := hide (wrote_any b R _ sv cv _ hbb hf.c0 hf.c1 hf.l0 hf.l1)
          have hnb : (w2.setCell ⟨nb, 1, none⟩ (.int .i64 ((nd nb).1.size : Int))).heap[nb]? = some (.cells #[.string (nd nb).1, .int .i64 ((nd nb).1.size : Int)] 63 (0, 0)) := by
            rw [heap_setCell_same _ nb 1 _ _ _ (HN2.out nb hmem)]; rfl
          have HNB := hide hnb
          clear hbb hnb
          go_wp2_with fail
          refine (HWR.out).mono ?_
          rintro _ w4 ⟨rfl, hg4, hb4⟩
          dsimp only
          have hfin := RDN.wroteNode (x := ((nd nb).1, ((nd nb).1.size : Int))) HI2.out HN2.out HH.out.inow HH.out.isafe HH.out.ichg hmem (grownBy_set _ _ _ _) HNB.out hg4 hb4
          have HFIN := hide hfin
          clear hg4 hb4 hfin
          go_wp2_with fail
          go_ret
          exact ⟨rfl, HFIN.out.1, gr_below HB2.out HFIN.out.2⟩
        exact key.mono fun e w' h => ⟨(fun h0 => by cases h0), fun _ h0 => absurd h0 hl0, (fun _ _ h0 => by cases h0), (fun nb2 _ _ h0 => by injection h0 with h0; subst h0; exact h)⟩
end Go.Proofs.YtjipdjkcdoajbaaGreatDoor
