/-
  PROVED HERE: what the document's own functions after, wrote, begins and used of disks do.
-/
import Derived.Test.YtjipdjkcdoajbaaGreatDoorRdLib
namespace Go.Proofs.YtjipdjkcdoajbaaGreatDoor
open Go.RowKit
/-- A row of entries; it may be shared: nobody writes it again. -/
abbrev Ens (w : World) (v : Value) (l : List DE) : Prop := w.ownsRow 0 61 2 v l.length (l.flatMap DE.cells)
/-- A change of paths. -/
structure CH where
  frm : ByteArray
  too : ByteArray
  blk : Nat
def CH.cells (c : CH) : List Value := [.string c.frm, .string c.too, .pointer (some ⟨c.blk, 0, none⟩)]
/-- The document's disk: what its block says. -/
structure RDk where
  room : Int
  now : List DE
  safe : List DE
  chg : List CH
  count : Int
  left : Int
structure RDIs (w : World) (b : Nat) (R : RDk) (nv sv cv : Value) : Prop where
  blk : w.heap[b]? = some (.cells #[.int .i64 R.room, nv, sv, cv, .int .i64 R.count, .int .i64 R.left] 57 (0, 0))
  now : Ens w nv R.now
  safe : Ens w sv R.safe
  chg : w.ownsRow 0 134 3 cv R.chg.length (R.chg.flatMap CH.cells)
/-- The entries behind a change of paths. -/
def afterE (l : List DE) (frm too : ByteArray) (nb : Nat) : List DE :=
  let l1 := if frm = ⟨#[]⟩ then l else withE frm none l true
  if too = ⟨#[]⟩ then l1 else withE too (some nb) l1 false
theorem toList_empty (s : ByteArray) (h : s ≠ ⟨#[]⟩) : s.toList.isEmpty = false := by
  cases e : s.toList.isEmpty with
  | false => rfl
  | true => exact absurd ((toList_inj s ⟨#[]⟩).1 ((List.isEmpty_iff.1 e).trans (by rw [ByteArray.toList_eq]))) h
set_option maxHeartbeats 1000000 in
set_option maxRecDepth 100000 in
theorem after_any (v : Value) (l : List DE) (frm too : ByteArray) (nb : Nat) (w : World) (h : Ens w v l) (hl : l.length ≤ 100000000) :
    Calls Tryz.prog 76 #[v, .agg #[.string frm, .string too, .pointer (some ⟨nb, 0, none⟩)]] w fun e w' => ∃ v', e = .returned v' ∧ Below w.heap.size w w' ∧ Ens w' v' (afterE l frm too nb) := by
  have H := hide h
  have HW1 := hide (fun w' (hb : Below w.heap.size w w') => with_any v l frm none w' ((deAt_own h).later hb) (by omega))
  have HW2 := hide (fun v2 (l2 : List DE) w' (h2 : DEAt w' v2 l2) (hl2 : l2.length ≤ 1000000000) => with_any v2 l2 too (some nb) w' h2 hl2)
  have hb0 : Below w.heap.size w (w.alloc (.cells #[.string frm, .string too, .pointer (some ⟨nb, 0, none⟩)] 134)) := (Below.refl _ _).alloc (Nat.le_refl _) _
  have HB0 := hide hb0
  have hwl : (withE frm none l true).length ≤ 1000000000 := by have := withE_len frm none l true; omega
  clear h hb0
  by_cases h1 : frm = ⟨#[]⟩
  · subst h1
    by_cases h2 : too = ⟨#[]⟩
    · subst h2
      have ha : afterE l ⟨#[]⟩ ⟨#[]⟩ nb = l := by simp [afterE]
      rw [ha]
      go_enter Tryz.func76, Tryz.ntmps76
      go_wp2_with fail
      go_ret
      exact ⟨_, rfl, HB0.out, ownsRow_later H.out HB0.out⟩
    · have e2 := toList_empty too h2
      have ha : afterE l ⟨#[]⟩ too nb = withE too (some nb) l false := by simp [afterE, h2]
      rw [ha]
      clear h2
      go_enter Tryz.func76, Tryz.ntmps76
      go_wp2_with fail
      refine (HW2.out v l _ (deAt_own (ownsRow_later H.out HB0.out)) (by omega)).mono ?_
      rintro _ w2 ⟨v2, rfl, hb2, ho2⟩
      dsimp only
      go_wp2_with fail
      go_ret
      exact ⟨_, rfl, HB0.out.trans (hb2.mono HB0.out.size), ho2.mono_base (Nat.zero_le _)⟩
  · have e1 := toList_empty frm h1
    by_cases h2 : too = ⟨#[]⟩
    · subst h2
      have ha : afterE l frm ⟨#[]⟩ nb = withE frm none l true := by simp [afterE, h1]
      rw [ha]
      clear h1
      go_enter Tryz.func76, Tryz.ntmps76
      go_wp2_with fail
      refine (HW1.out _ HB0.out).mono ?_
      rintro _ w2 ⟨v2, rfl, hb2, ho2⟩
      dsimp only
      have c1 : w2.cell? ⟨w.heap.size, 1, none⟩ = some (.string ⟨#[]⟩) := cell_later hb2 (by rw [cell_of_row _ _ _ _ _ _ (heap_alloc_new _ _)]; rfl)
      have HB2 := hide (HB0.out.trans (hb2.mono HB0.out.size))
      have HO2 := hide ho2
      clear hb2 ho2
      go_wp2_with fail
      go_ret
      exact ⟨_, rfl, HB2.out, HO2.out.mono_base (Nat.zero_le _)⟩
    · have e2 := toList_empty too h2
      have ha : afterE l frm too nb = withE too (some nb) (withE frm none l true) false := by simp [afterE, h1, h2]
      rw [ha]
      clear h1 h2
      go_enter Tryz.func76, Tryz.ntmps76
      go_wp2_with fail
      refine (HW1.out _ HB0.out).mono ?_
      rintro _ w2 ⟨v2, rfl, hb2, ho2⟩
      dsimp only
      have c1 : w2.cell? ⟨w.heap.size, 1, none⟩ = some (.string too) := cell_later hb2 (by rw [cell_of_row _ _ _ _ _ _ (heap_alloc_new _ _)]; rfl)
      have c2 : w2.cell? ⟨w.heap.size, 2, none⟩ = some (.pointer (some ⟨nb, 0, none⟩)) := cell_later hb2 (by rw [cell_of_row _ _ _ _ _ _ (heap_alloc_new _ _)]; rfl)
      have HB2 := hide (HB0.out.trans (hb2.mono HB0.out.size))
      have HO2 := hide ho2
      clear hb2 ho2
      go_wp2_with fail
      refine (HW2.out v2 _ _ (deAt_own HO2.out) hwl).mono ?_
      rintro _ w3 ⟨v3, rfl, hb3, ho3⟩
      dsimp only
      have HB3 := hide (HB2.out.trans (hb3.mono HB2.out.size))
      have HO3 := hide ho3
      clear hb3 ho3
      go_wp2_with fail
      go_ret
      exact ⟨_, rfl, HB3.out, HO3.out.mono_base (Nat.zero_le _)⟩
theorem RDIs.later {w w' : World} {b : Nat} {R : RDk} {nv sv cv : Value} (h : RDIs w b R nv sv cv) (hb : Below w.heap.size w w') : RDIs w' b R nv sv cv :=
  ⟨(hb.block b (lt_of_row h.blk)).trans h.blk, ownsRow_later h.now hb, ownsRow_later h.safe hb, ownsRow_later h.chg hb⟩
set_option maxHeartbeats 1000000 in
set_option maxRecDepth 100000 in
theorem newDisk_any (room : Int) (w : World) (h0 : -9223372036854775808 ≤ room) (h1 : room ≤ 9223372036854775807) :
    Calls Tryz.prog 5 #[.int .i64 room] w fun e w' => e = .returned (.pointer (some ⟨w.heap.size, 0, none⟩)) ∧ Below w.heap.size w w' ∧ RDIs w' w.heap.size ⟨if room < 0 then 0 else room, [], [], [], 0, -1⟩ (.slice none 0 0) (.slice none 0 0) (.slice none 0 0) := by
  go_enter Tryz.func5, Tryz.ntmps5
  by_cases h : room < 0
  · go_wp2_with fail
    go_ret
    exact ⟨rfl, (Below.refl _ _).alloc (Nat.le_refl _) _, heap_alloc_new _ _, World.ownsRow_nil _ _ _ _, World.ownsRow_nil _ _ _ _, World.ownsRow_nil _ _ _ _⟩
  · have e1 : decide (room < 0) = false := by simp; omega
    go_wp2_with fail
    go_ret
    exact ⟨rfl, (Below.refl _ _).alloc (Nat.le_refl _) _, heap_alloc_new _ _, World.ownsRow_nil _ _ _ _, World.ownsRow_nil _ _ _ _, World.ownsRow_nil _ _ _ _⟩
set_option maxHeartbeats 1000000 in
set_option maxRecDepth 100000 in
theorem begins_nil (p q : ByteArray) (w : World) : Calls Tryz.prog 55 #[.pointer none, .string p, .string q] w fun e w' => e = .returned (.tuple #[.bool true, .int .i64 1]) ∧ w' = w := by
  go_enter Tryz.func55, Tryz.ntmps55
  go_wp2_with fail
  refine bodyPost_ret (results_tmp2 rfl _ _ _) rfl ?_
  exact ⟨rfl, rfl⟩
set_option maxHeartbeats 1000000 in
set_option maxRecDepth 100000 in
theorem begins_any (b : Nat) (R : RDk) (nv sv cv : Value) (p q : ByteArray) (w : World) (h : RDIs w b R nv sv cv) (hp : p.size ≤ 9223372036854775807) (hq : q.size ≤ 9223372036854775807) :
    Calls Tryz.prog 55 #[.pointer (some ⟨b, 0, none⟩), .string p, .string q] w fun e w' => w' = w ∧ e = .returned (if isPathB p = true ∧ isPathB q = true then .tuple #[.bool (decide (R.left = 0)), .int .i64 0] else .tuple #[.bool true, .int .i64 2]) := by
  have c5 : w.cell? ⟨b, 5, none⟩ = some (.int .i64 R.left) := cell_of_row _ _ 5 _ _ _ h.blk
  have HP := hide (isPath_any p w hp)
  have HQ := hide (isPath_any q w hq)
  clear h
  generalize isPathB p = bp at HP ⊢
  generalize isPathB q = bq at HQ ⊢
  cases bp with
  | false =>
    simp only [Bool.false_eq_true, false_and, if_false]
    go_enter Tryz.func55, Tryz.ntmps55
    go_wp2_with fail
    refine (HP.out).mono ?_
    rintro _ w1 ⟨rfl, hw⟩
    subst hw
    dsimp only
    go_wp2_with fail
    refine (HQ.out).mono ?_
    rintro _ w2 ⟨rfl, hw⟩
    subst hw
    dsimp only
    go_wp2_with fail
    refine bodyPost_ret (results_tmp2 rfl _ _ _) rfl ?_
    exact ⟨rfl, rfl⟩
  | true =>
    cases bq with
    | false =>
      simp only [Bool.false_eq_true, and_false, if_false]
      go_enter Tryz.func55, Tryz.ntmps55
      go_wp2_with fail
      refine (HP.out).mono ?_
      rintro _ w1 ⟨rfl, hw⟩
      subst hw
      dsimp only
      go_wp2_with fail
      refine (HQ.out).mono ?_
      rintro _ w2 ⟨rfl, hw⟩
      subst hw
      dsimp only
      go_wp2_with fail
      refine bodyPost_ret (results_tmp2 rfl _ _ _) rfl ?_
      exact ⟨rfl, rfl⟩
    | true =>
      simp only [and_self, if_true]
      obtain ⟨r, hr⟩ : ∃ r, r = decide (R.left = 0) := ⟨_, rfl⟩
      rw [← hr]
      have er : (R.left == 0) = r := by rw [hr]; rfl
      have HR := hide hr
      clear hr
      go_enter Tryz.func55, Tryz.ntmps55
      go_wp2_with fail
      refine (HP.out).mono ?_
      rintro _ w1 ⟨rfl, hw⟩
      subst hw
      dsimp only
      go_wp2_with fail
      refine (HQ.out).mono ?_
      rintro _ w2 ⟨rfl, hw⟩
      subst hw
      dsimp only
      go_wp2_with fail
      refine bodyPost_ret (results_tmp2 rfl _ _ _) rfl ?_
      exact ⟨rfl, rfl⟩
set_option maxHeartbeats 1000000 in
set_option maxRecDepth 100000 in
theorem wrote_any (b : Nat) (R : RDk) (nv sv cv : Value) (w : World) (hblk : w.heap[b]? = some (.cells #[.int .i64 R.room, nv, sv, cv, .int .i64 R.count, .int .i64 R.left] 57 (0, 0))) (hc0 : 0 ≤ R.count) (hc1 : R.count < 1000000000000) (hl0 : -1 ≤ R.left) (hl1 : R.left ≤ 9223372036854775807) :
    Calls Tryz.prog 58 #[.pointer (some ⟨b, 0, none⟩)] w fun e w' => e = .returned (.int .i64 0) ∧ w.grownBy w' (some b) ∧ w'.heap[b]? = some (.cells #[.int .i64 R.room, nv, sv, cv, .int .i64 (R.count + 1), .int .i64 (if 0 < R.left then R.left - 1 else R.left)] 57 (0, 0)) := by
  have c4 : w.cell? ⟨b, 4, none⟩ = some (.int .i64 R.count) := cell_of_row _ _ 4 _ _ _ hblk
  have c5 : w.cell? ⟨b, 5, none⟩ = some (.int .i64 R.left) := cell_of_row _ _ 5 _ _ _ hblk
  have hf := fun j => frozen_of_row w b j _ _ hblk
  have H := hide hblk
  generalize R.count = cnt at c4 H hc0 hc1 ⊢
  generalize R.left = lf at c5 H hl0 hl1 ⊢
  clear hblk
  by_cases h : 0 < lf
  · rw [if_pos h]
    go_enter Tryz.func58, Tryz.ntmps58
    go_wp2_with fail
    go_ret
    refine ⟨rfl, grownBy_trans (grownBy_set _ _ _ _) (grownBy_set _ _ _ _), ?_⟩
    rw [heap_setCell_same _ b 5 _ _ _ (heap_setCell_same w b 4 _ _ _ H.out)]
    rfl
  · rw [if_neg h]
    have e1 : decide (0 < lf) = false := by simp; omega
    go_enter Tryz.func58, Tryz.ntmps58
    go_wp2_with fail
    go_ret
    refine ⟨rfl, grownBy_set _ _ _ _, ?_⟩
    rw [heap_setCell_same w b 4 _ _ _ H.out]
    rfl
end Go.Proofs.YtjipdjkcdoajbaaGreatDoor
