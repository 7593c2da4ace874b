/-
  PROVED HERE: what the document's own call Truncate of disks does.
-/
import Derived.Test.YtjipdjkcdoajbaaGreatDoorRdOps
namespace Go.Proofs.YtjipdjkcdoajbaaGreatDoor
open Go.RowKit
set_option maxHeartbeats 1000000 in
set_option maxRecDepth 100000 in
theorem truncate_any (b : Nat) (R : RDk) (nd : Nat → ByteArray × Int) (ns : List Nat) (cv : Value) (p : ByteArray) (n : Int) (w : World) (h : RDN w b R nd ns cv) (hf : Fits R nd ns) (hp : p.size ≤ 9223372036854775807) (hn0 : -9223372036854775808 ≤ n) (hn1 : n ≤ 9223372036854775807) :
    Calls Tryz.prog 31 #[.pointer (some ⟨b, 0, none⟩), .string p, .int .i64 n] w fun e w' =>
      (isPathB p = false → e = .returned (.int .i64 2) ∧ Below w.heap.size w w') ∧
      (isPathB p = true → R.left = 0 → e = .returned (.int .i64 0) ∧ Below w.heap.size w w') ∧
      (isPathB p = true → R.left ≠ 0 → findE p R.now = none → e = .returned (.int .i64 3) ∧ Below w.heap.size w w') ∧
      (∀ nb, isPathB p = true → R.left ≠ 0 → findE p R.now = some nb → ((n < 0 ∨ ((nd nb).1.size : Int) < n) ∧ e = .returned (.int .i64 5) ∧ Below w.heap.size w w') ∨
        (0 ≤ n ∧ n ≤ ((nd nb).1.size : Int) ∧ e = .returned (.int .i64 0) ∧ RDN w' b R.wrote (setNd nd nb ((nd nb).1.extract 0 n.toNat, if n < (nd nb).2 then n else (nd nb).2)) ns cv ∧ Gr (fun k => k = b ∨ k ∈ ns) w w')) := by
  obtain ⟨nv, sv, hi⟩ := h.is
  have HI := hide hi
  have HNS := hide h.nds
  have HH := hide h
  have HBG := hide (begins_any b R nv sv cv p p w hi hp hp)
  have HFD := hide (fun w' (hb : Below w.heap.size w w') => find_any nv R.now p w' (deAt_own (ownsRow_later hi.now hb)) (by have := hf.now; omega))
  have c1 : w.cell? ⟨b, 1, none⟩ = some nv := cell_of_row _ _ 1 _ _ _ hi.blk
  obtain ⟨on, cn, hnv⟩ := own_sl hi.now
  subst hnv
  clear h hi
  cases hpp : isPathB p with
  | false =>
    rw [hpp] at HBG
    simp only [Bool.false_eq_true, false_and, if_false] at HBG
    have key : Calls Tryz.prog 31 #[.pointer (some ⟨b, 0, none⟩), .string p, .int .i64 n] w fun e w' => e = .returned (.int .i64 2) ∧ Below w.heap.size w w' := by
      go_enter Tryz.func31, Tryz.ntmps31
      go_wp2_with fail
      refine (HBG.out).mono ?_
      rintro _ w1 ⟨hw, rfl⟩
      subst hw
      dsimp only
      go_wp2_with fail
      go_ret
      exact ⟨rfl, Below.refl _ _⟩
    exact key.mono fun e w' h => ⟨fun _ => h, (fun h0 => by cases h0), (fun h0 => by cases h0), (fun _ h0 => by cases h0)⟩
  | true =>
    rw [hpp] at HBG
    simp only [and_self, if_true] at HBG
    by_cases hl0 : R.left = 0
    · simp only [hl0, decide_true] at HBG
      have key : Calls Tryz.prog 31 #[.pointer (some ⟨b, 0, none⟩), .string p, .int .i64 n] w fun e w' => e = .returned (.int .i64 0) ∧ Below w.heap.size w w' := by
        go_enter Tryz.func31, Tryz.ntmps31
        go_wp2_with fail
        refine (HBG.out).mono ?_
        rintro _ w1 ⟨hw, rfl⟩
        subst hw
        dsimp only
        go_wp2_with fail
        go_ret
        exact ⟨rfl, Below.refl _ _⟩
      exact key.mono fun e w' h => ⟨(fun h0 => by cases h0), fun _ _ => h, fun _ h0 => absurd hl0 h0, fun _ _ h0 => absurd hl0 h0⟩
    · simp only [hl0, decide_false] at HBG
      cases hfo : findE p R.now with
      | none =>
        rw [hfo] at HFD
        dsimp only [ptrOf] at HFD
        have key : Calls Tryz.prog 31 #[.pointer (some ⟨b, 0, none⟩), .string p, .int .i64 n] w fun e w' => e = .returned (.int .i64 3) ∧ Below w.heap.size w w' := by
          go_enter Tryz.func31, Tryz.ntmps31
          go_wp2_with fail
          refine (HBG.out).mono ?_
          rintro _ w1 ⟨hw, rfl⟩
          subst hw
          dsimp only
          go_wp2_with fail
          refine (HFD.out _ (Below.refl _ _)).mono ?_
          rintro _ w2 ⟨rfl, hb2⟩
          dsimp only
          have HB2 := hide hb2
          clear hb2
          go_wp2_with fail
          go_ret
          exact ⟨rfl, HB2.out⟩
        exact key.mono fun e w' h => ⟨(fun h0 => by cases h0), fun _ h0 => absurd h0 hl0, fun _ _ _ => h, (fun _ _ _ h0 => by cases h0)⟩
      | some nb =>
        rw [hfo] at HFD
        dsimp only [ptrOf] at HFD
        have hmem : nb ∈ ns := by
          obtain ⟨e, he, hb⟩ := findE_mem hfo
          rw [← hb]; exact HH.out.inow e he
        obtain ⟨hd1, hd2, hd3⟩ := hf.data nb hmem
        by_cases hbad : n < 0 ∨ ((nd nb).1.size : Int) < n
        · have key : Calls Tryz.prog 31 #[.pointer (some ⟨b, 0, none⟩), .string p, .int .i64 n] w fun e w' => e = .returned (.int .i64 5) ∧ Below w.heap.size w w' := by
            by_cases hneg : n < 0
            · go_enter Tryz.func31, Tryz.ntmps31
              go_wp2_with fail
              refine (HBG.out).mono ?_
              rintro _ w1 ⟨hw, rfl⟩
              subst hw
              dsimp only
              go_wp2_with fail
              refine (HFD.out _ (Below.refl _ _)).mono ?_
              rintro _ w2 ⟨rfl, hb2⟩
              dsimp only
              have hi2 := HI.out.later hb2
              have hn2 := HNS.out.later hb2
              have n0 : w2.cell? ⟨nb, 0, none⟩ = some (.string (nd nb).1) := cell_of_row _ _ 0 _ _ _ (hn2 nb hmem)
              have n1 : w2.cell? ⟨nb, 1, none⟩ = some (.int .i64 (nd nb).2) := cell_of_row _ _ 1 _ _ _ (hn2 nb hmem)
              have nf := fun j => frozen_of_row w2 nb j _ _ (hn2 nb hmem)
              have HB2 := hide hb2
              have HI2 := hide hi2
              have HN2 := hide hn2
              clear hb2 hi2 hn2
              go_wp2_with fail
              go_ret
              exact ⟨rfl, HB2.out⟩
            · have hneg2 : decide (n < 0) = false := by simp; omega
              have hgt : ((nd nb).1.size : Int) < n := by omega
              go_enter Tryz.func31, Tryz.ntmps31
              go_wp2_with fail
              refine (HBG.out).mono ?_
              rintro _ w1 ⟨hw, rfl⟩
              subst hw
              dsimp only
              go_wp2_with fail
              refine (HFD.out _ (Below.refl _ _)).mono ?_
              rintro _ w2 ⟨rfl, hb2⟩
              dsimp only
              have hi2 := HI.out.later hb2
              have hn2 := HNS.out.later hb2
              have n0 : w2.cell? ⟨nb, 0, none⟩ = some (.string (nd nb).1) := cell_of_row _ _ 0 _ _ _ (hn2 nb hmem)
              have n1 : w2.cell? ⟨nb, 1, none⟩ = some (.int .i64 (nd nb).2) := cell_of_row _ _ 1 _ _ _ (hn2 nb hmem)
              have nf := fun j => frozen_of_row w2 nb j _ _ (hn2 nb hmem)
              have HB2 := hide hb2
              have HI2 := hide hi2
              have HN2 := hide hn2
              clear hb2 hi2 hn2
              go_wp2_with fail
              go_ret
              exact ⟨rfl, HB2.out⟩
          exact key.mono fun e w' h => ⟨(fun h0 => by cases h0), fun _ h0 => absurd h0 hl0, (fun _ _ h0 => by cases h0), (fun nb2 _ _ h0 => by injection h0 with h0; subst h0; exact .inl ⟨hbad, h⟩)⟩
        · have hneg2 : decide (n < 0) = false := by simp; omega
          have hgt2 : decide (((nd nb).1.size : Int) < n) = false := by simp; omega
          have hge : 0 ≤ n := by omega
          have hle : n ≤ ((nd nb).1.size : Int) := by omega
          have key : Calls Tryz.prog 31 #[.pointer (some ⟨b, 0, none⟩), .string p, .int .i64 n] w fun e w' => e = .returned (.int .i64 0) ∧ RDN w' b R.wrote (setNd nd nb ((nd nb).1.extract 0 n.toNat, if n < (nd nb).2 then n else (nd nb).2)) ns cv ∧ Gr (fun k => k = b ∨ k ∈ ns) w w' := by
            by_cases hcut : n < (nd nb).2
            · rw [if_pos hcut]
              go_enter Tryz.func31, Tryz.ntmps31
              go_wp2_with fail
              refine (HBG.out).mono ?_
              rintro _ w1 ⟨hw, rfl⟩
              subst hw
              dsimp only
              go_wp2_with fail
              refine (HFD.out _ (Below.refl _ _)).mono ?_
              rintro _ w2 ⟨rfl, hb2⟩
              dsimp only
              have hi2 := HI.out.later hb2
              have hn2 := HNS.out.later hb2
              have n0 : w2.cell? ⟨nb, 0, none⟩ = some (.string (nd nb).1) := cell_of_row _ _ 0 _ _ _ (hn2 nb hmem)
              have n1 : w2.cell? ⟨nb, 1, none⟩ = some (.int .i64 (nd nb).2) := cell_of_row _ _ 1 _ _ _ (hn2 nb hmem)
              have nf := fun j => frozen_of_row w2 nb j _ _ (hn2 nb hmem)
              have HB2 := hide hb2
              have HI2 := hide hi2
              have HN2 := hide hn2
              clear hb2 hi2 hn2
              have HWN := hide (wrote_node (x := ((nd nb).1.extract 0 n.toNat, n)) HI2.out HN2.out HH.out.inow HH.out.isafe HH.out.ichg hmem hf.cnt (w3 := (w2.setCell ⟨nb, 0, none⟩ (.string ((nd nb).1.extract 0 n.toNat))).setCell ⟨nb, 1, none⟩ (.int .i64 n)) (grownBy_trans (grownBy_set _ _ _ _) (grownBy_set _ _ _ _)) (by rw [heap_setCell_same _ nb 1 _ _ _ (heap_setCell_same _ nb 0 _ _ _ (HN2.out nb hmem))]; rfl))
              go_wp2_with fail
              refine (HWN.out).mono ?_
              rintro _ w4 ⟨rfl, hr4, hg4⟩
              dsimp only
              have HR4 := hide hr4
              have HG4 := hide hg4
              clear hr4 hg4
              go_wp2_with fail
              go_ret
              exact ⟨rfl, HR4.out, gr_below HB2.out HG4.out⟩
            · rw [if_neg hcut]
              have hcut2 : decide (n < (nd nb).2) = false := by simp; omega
              go_enter Tryz.func31, Tryz.ntmps31
              go_wp2_with fail
              refine (HBG.out).mono ?_
              rintro _ w1 ⟨hw, rfl⟩
              subst hw
              dsimp only
              go_wp2_with fail
              refine (HFD.out _ (Below.refl _ _)).mono ?_
              rintro _ w2 ⟨rfl, hb2⟩
              dsimp only
              have hi2 := HI.out.later hb2
              have hn2 := HNS.out.later hb2
              have n0 : w2.cell? ⟨nb, 0, none⟩ = some (.string (nd nb).1) := cell_of_row _ _ 0 _ _ _ (hn2 nb hmem)
              have n1 : w2.cell? ⟨nb, 1, none⟩ = some (.int .i64 (nd nb).2) := cell_of_row _ _ 1 _ _ _ (hn2 nb hmem)
              have nf := fun j => frozen_of_row w2 nb j _ _ (hn2 nb hmem)
              have HB2 := hide hb2
              have HI2 := hide hi2
              have HN2 := hide hn2
              clear hb2 hi2 hn2
              have HWN := hide (wrote_node (x := ((nd nb).1.extract 0 n.toNat, (nd nb).2)) HI2.out HN2.out HH.out.inow HH.out.isafe HH.out.ichg hmem hf.cnt (w3 := w2.setCell ⟨nb, 0, none⟩ (.string ((nd nb).1.extract 0 n.toNat))) (grownBy_set _ _ _ _) (by rw [heap_setCell_same _ nb 0 _ _ _ (HN2.out nb hmem)]; rfl))
              go_wp2_with fail
              refine (HWN.out).mono ?_
              rintro _ w4 ⟨rfl, hr4, hg4⟩
              dsimp only
              have HR4 := hide hr4
              have HG4 := hide hg4
              clear hr4 hg4
              go_wp2_with fail
              go_ret
              exact ⟨rfl, HR4.out, gr_below HB2.out HG4.out⟩
          exact key.mono fun e w' h => ⟨(fun h0 => by cases h0), fun _ h0 => absurd h0 hl0, (fun _ _ h0 => by cases h0), (fun nb2 _ _ h0 => by injection h0 with h0; subst h0; exact .inr ⟨hge, hle, h⟩)⟩
end Go.Proofs.YtjipdjkcdoajbaaGreatDoor
