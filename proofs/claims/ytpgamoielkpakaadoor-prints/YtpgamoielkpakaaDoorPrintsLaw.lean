/-
  PROVED HERE: blobslaw.Prints answers true for every list of entries; nothing that was there has turned.
-/
import Derived.Test.YtpgamoielkpakaaDoorRefPrint
import Derived.Test.YtpgamoielkpakaaDoorRowT
namespace Go.Proofs.YtpgamoielkpakaaDoor
open Go.RowKit
def beyond : Tg := ⟨⟨#[98, 101, 121, 111, 110, 100]⟩, ⟨#[]⟩, 0⟩
set_option maxHeartbeats 2000000 in
set_option maxRecDepth 100000 in
theorem prints_any (oa : Option Addr) (ca : Nat) (l : List Tg) (w : World) (n : Nat) (hn : l.length = n) (ha : TagsAt w oa l) (hsz : ∀ i, (l.getD i default).name.size ≤ 9223372036854775807 ∧ (l.getD i default).dig.size ≤ 9223372036854775807)
    (htab : Lib.TabIs Tryd.prog w "internal/strconv.uint64pow10" .u64 Lib.pow10Tab) (hb : n * 40 ≤ 140737488351232) :
    Calls Tryd.prog 5 #[.slice oa n ca] w fun e w' => e = .returned (.bool true) ∧ Below w.heap.size w w' := by
  have HA := hide ha
  have HN := hide hn
  have HSZ := hide hsz
  have HT := hide htab
  clear ha hn hsz htab
  obtain ⟨i0, hi, hz0, hz1, hz2⟩ := info_parts Tryd.info26b
  have hmk : ∀ w : World, (Instr.makeSlice 24 (.int .i64 ((n : Int) + 8)) (.int .i64 ((n : Int) + 8))).run Tryd.prog w = .ok (.slice (some ⟨w.heap.size, 0, none⟩) (n + 8) (n + 8)) (w.alloc (.cells (rowT (List.replicate (n + 8) default)) 26)) := fun w => by
    have := run_make (P := Tryd.prog) w 24 26 i0 _ Tryd.underlying24 hi hz0 .i64 .i64 ((n : Int) + 8) ((n : Int) + 8) (by omega) (Int.le_refl _) (by rw [hz2]; omega) (by omega)
    rw [hz1, show ((n : Int) + 8).toNat = n + 8 by omega, madeT] at this
    exact this
  clear hi hz0 hz1 hz2
  obtain ⟨w1, hcp, hrow, hb1⟩ := copied (w.alloc (.cells (rowT (List.replicate (n + 8) default)) 26)) 3 w.heap.size (n + 8) (n + 8) ca oa l (List.replicate (n + 8) default) (by rw [HN.out]; omega) (by rw [HN.out, List.length_replicate]; omega) (heap_alloc_new _ _) (HA.out.later ((Below.refl _ _).alloc (Nat.le_refl _) _))
  rw [HN.out] at hcp hrow
  rw [List.drop_replicate, show n + 8 - n = 8 by omega] at hrow
  have hbw : Below w.heap.size w w1 := ((Below.refl _ _).alloc (Nat.le_refl _) _).trans hb1
  have HROW := hide hrow
  clear hrow hb1
  obtain ⟨pT, hpT⟩ : ∃ pT, pT = pText l := ⟨_, rfl⟩
  obtain ⟨pE, hpE⟩ : ∃ pE, pE = pErr l := ⟨_, rfl⟩
  have C9 : ∀ w cb oa, TagsAt w oa l → Lib.TabIs Tryd.prog w "internal/strconv.uint64pow10" .u64 Lib.pow10Tab → Calls Tryd.prog 9 #[.slice oa n cb] w fun e w' => e = .returned (.tuple #[.string pT, .int .i64 pE]) ∧ Below w.heap.size w w' := fun w cb oa h1 h2 => by
    have := ownPrint_any oa cb l w h1 (fun i => (HSZ.out i).1) h2
    rwa [HN.out, ← hpT, ← hpE] at this
  have C10 : ∀ w cb oa, TagsAt w oa l → Calls Tryd.prog 10 #[.slice oa n cb] w fun e w' => e = .returned (.tuple #[.string pT, .int .i64 pE]) ∧ Below w.heap.size w w' := fun w cb oa h1 => by
    have := refPrint_any oa cb l w h1 HSZ.out
    rwa [HN.out, ← hpT, ← hpE] at this
  have C11 : ∀ w cb cc oa ob, TagsAt w oa l → TagsAt w ob l → Calls Tryd.prog 11 #[.slice oa n cb, .slice ob n cc] w fun e w' => e = .returned (.bool true) ∧ Below w.heap.size w w' := fun w cb cc oa ob h1 h2 => by
    have := sameT_any oa ob cb cc l l w h1 h2 (by rw [HN.out]; omega)
    rw [HN.out] at this
    simpa using this
  have HC9 := hide C9
  have HC10 := hide C10
  have HC11 := hide C11
  clear C9 C10 C11 hpT hpE HSZ
  go_enter Tryd.func5, Tryd.ntmps5
  go_wp2
  have hs1 := hbw.size
  have hwg := lt_of_row HROW.out
  go_loopw [6] (fun i wr => ∃ k p : Nat, k ≤ 8 ∧ p = n + k ∧ i = .int .i64 ((p : Nat) : Int) ∧ wr.heap[w.heap.size]? = some (.cells (rowT (l ++ (List.replicate k beyond ++ List.replicate (8 - k) default))) 26 (0, 0)) ∧ wr.heap[w1.heap.size]? = some (.cells beyond.cells.toArray 26 (0, 0)) ∧ Below w.heap.size w wr)
    (fun i _ => n + 8 - (intOf i).toNat)
  case atStart => exact ⟨0, n, by omega, rfl, rfl, (Below.heap_alloc _ _ _ hwg).trans HROW.out, heap_alloc_new _ _, hbw.alloc hs1 _⟩
  case round =>
    clear hcp hmk
    obtain ⟨k, p, hk, hp, rfl, hr, hm, hbel⟩ := hrel
    have HR := hide hr
    have HM := hide hm
    have HP := hide hp
    have hpn : (p : Int) ≤ (n : Int) + 8 := by omega
    have hpl : l.length = n := HN.out
    have hwl := lt_of_row hm
    by_cases hlt : k < 8
    · have hlt2 : (p : Int) < (n : Int) + 8 := by omega
      have c1 : wr.cell? ⟨w1.heap.size, 0, none⟩ = some (.string ⟨#[98, 101, 121, 111, 110, 100]⟩) := cell_of_row wr _ 0 _ _ _ hm
      have c2 : wr.cell? ⟨w1.heap.size, 1, none⟩ = some (.string ⟨#[]⟩) := cell_of_row wr _ 1 _ _ _ hm
      have c3 : wr.cell? ⟨w1.heap.size, 2, none⟩ = some (.int .i64 0) := cell_of_row wr _ 2 _ _ _ hm
      have XX : wr.rangeAt w.heap.size (p * 3) (default : Tg).cells := by
        have := rowT_cells hr p (by simp only [List.length_append, List.length_replicate]; omega)
        have e : (l ++ (List.replicate k beyond ++ List.replicate (8 - k) default)).getD p default = (default : Tg) := by
          rw [List.getD_eq_getElem?_getD, List.getElem?_append_right (by omega), List.getElem?_append_right (by rw [List.length_replicate]; omega), List.getElem?_replicate]
          split <;> rfl
        rwa [e] at this
      have hf := fun j => frozen_of_row wr w.heap.size j _ _ hr
      clear hr hm hp hpl
      have x0 : (wr.cell? ⟨w.heap.size, p * 3, none⟩) = some (.string ⟨#[]⟩) := XX 0 _ rfl
      have x1 : (wr.cell? ⟨w.heap.size, p * 3 + 1, none⟩) = some (.string ⟨#[]⟩) := XX 1 _ rfl
      have x2 : (wr.cell? ⟨w.heap.size, p * 3 + 2, none⟩) = some (.int .i64 0) := XX 2 _ rfl
      clear XX
      go_wp2
      go_roundw
      case rel =>
        refine ⟨k + 1, p + 1, by omega, by have := HP.out; omega, by go_num, ?_, ?_, ((hbel.setCell (Nat.le_refl _) _).setCell (Nat.le_refl _) _).setCell (Nat.le_refl _) _⟩
        · refine (rowT_set HR.out p (by have := HP.out; have := HN.out; simp only [List.length_append, List.length_replicate]; omega) beyond).trans ?_
          congr 2
          have e1 := HP.out
          have e2 := HN.out
          rw [List.set_append_right _ _ (by omega), List.set_append_right _ _ (by rw [List.length_replicate]; omega), List.length_replicate, e2, show p - n - k = 0 by omega, show 8 - k = (8 - (k + 1)) + 1 by omega, List.replicate_succ, List.set_cons_zero, List.replicate_succ']
          simp
        · rw [heap_setCell_other _ _ _ _ (by simp; omega), heap_setCell_other _ _ _ _ (by simp; omega), heap_setCell_other _ _ _ _ (by simp; omega)]
          exact HM.out
      case measure => simp [intOf]; omega
    · have hk8 : k = 8 := by omega
      subst hk8
      have hr8 : wr.heap[w.heap.size]? = some (.cells (rowT (l ++ List.replicate 8 beyond)) 26 (0, 0)) := by
        have := hr
        rwa [show (8 : Nat) - 8 = 0 by omega, List.replicate_zero, List.append_nil] at this
      have HR8 := hide hr8
      have hT1 : TagsAt wr (some ⟨w.heap.size, 0, none⟩) l := rowT_tags hr8
      have HT1 := hide hT1
      have hlt2 : ¬ (p : Int) < (n : Int) + 8 := by omega
      have hwr := lt_of_row hr8
      clear hr hm hp hpl hr8 hT1
      go_wp2_with fail
      refine (HC9.out wr (n + 8) _ HT1.out (tab_later gPow (tab_lt gPow HT.out) HT.out hbel)).mono ?_
      rintro _ w2 ⟨rfl, hb2⟩
      dsimp only
      have hbel2 : Below w.heap.size w w2 := hbel.trans (hb2.mono hbel.size)
      go_wp2_with fail
      refine (HC10.out w2 ca oa (HA.out.later hbel2)).mono ?_
      rintro _ w3 ⟨rfl, hb3⟩
      dsimp only
      have hbel3 : Below w.heap.size w w3 := hbel2.trans (hb3.mono hbel2.size)
      go_wp2_with fail
      refine (HC11.out w3 (n + 8) ca _ oa (HT1.out.later (hb2.trans (hb3.mono hb2.size))) (HA.out.later hbel3)).mono ?_
      rintro _ w4 ⟨rfl, hb4⟩
      dsimp only
      have hbel4 : Below w.heap.size w w4 := hbel3.trans (hb4.mono hbel3.size)
      have hb24 : Below wr.heap.size wr w4 := (hb2.trans (hb3.mono hb2.size)).trans (hb4.mono (Nat.le_trans hb2.size hb3.size))
      have hr4 : w4.heap[w.heap.size]? = some (.cells (rowT (l ++ List.replicate 8 beyond)) 26 (0, 0)) := (hb24.block _ hwr).trans HR8.out
      have hm4 : w4.heap[w1.heap.size]? = some (.cells beyond.cells.toArray 26 (0, 0)) := (hb24.block _ hwl).trans HM.out
      have HR4 := hide hr4
      have HM4 := hide hm4
      clear hb2 hb3 hb4 hb24 hr4 hm4 hbel2 hbel3
      go_wp2
      go_loopw [11, 12] (fun sm i wv => ∃ q r : Nat, q ≤ 8 ∧ r = n + q ∧ i = .int .i64 ((r : Nat) : Int) ∧ sm = .bool true ∧ Below w4.heap.size w4 wv)
        (fun _ i _ => n + 8 - (intOf i).toNat)
      case atStart => exact ⟨0, n, by omega, rfl, rfl, rfl, Below.refl _ _⟩
      case round =>
        obtain ⟨q, r, hq, hr, rfl, rfl, hbv⟩ := hrel
        have HRQ := hide hr
        have hl4 := lt_of_row HR4.out
        have hl5 := lt_of_row HM4.out
        by_cases hlt3 : q < 8
        · have rlt : (r : Int) < (n : Int) + 8 := by omega
          have XX : wr.rangeAt w.heap.size (r * 3) beyond.cells := by
            have hx := rowT_cells ((hbv.block _ hl4).trans HR4.out) r (by have := HN.out; simp only [List.length_append, List.length_replicate]; omega)
            have e : (l ++ List.replicate 8 beyond).getD r default = beyond := by
              have := HN.out
              rw [List.getD_eq_getElem?_getD, List.getElem?_append_right (by omega), List.getElem?_replicate, if_pos (by omega)]
              rfl
            rwa [e] at hx
          have hmv := (hbv.block _ hl5).trans HM4.out
          have x0 : wr.cell? ⟨w.heap.size, r * 3, none⟩ = some (.string ⟨#[98, 101, 121, 111, 110, 100]⟩) := XX 0 _ rfl
          have x1 : wr.cell? ⟨w.heap.size, r * 3 + 1, none⟩ = some (.string ⟨#[]⟩) := XX 1 _ rfl
          have x2 : wr.cell? ⟨w.heap.size, r * 3 + 2, none⟩ = some (.int .i64 0) := XX 2 _ rfl
          have c1 : wr.cell? ⟨w1.heap.size, 0, none⟩ = some (.string ⟨#[98, 101, 121, 111, 110, 100]⟩) := cell_of_row wr _ 0 _ _ _ hmv
          have c2 : wr.cell? ⟨w1.heap.size, 1, none⟩ = some (.string ⟨#[]⟩) := cell_of_row wr _ 1 _ _ _ hmv
          have c3 : wr.cell? ⟨w1.heap.size, 2, none⟩ = some (.int .i64 0) := cell_of_row wr _ 2 _ _ _ hmv
          have heq := fun w => eql26 beyond beyond w
          rw [show decide (beyond = beyond) = true by simp] at heq
          simp only [Tg.cells, beyond] at heq
          clear XX hmv hr
          go_wp2
          go_region
          all_goals go_wp2
          all_goals
            go_roundw
            case rel => exact ⟨q + 1, r + 1, by omega, by have := HRQ.out; omega, by go_num, rfl, hbv.drew⟩
            case measure => simp [intOf]; omega
        · have rlt : ¬ (r : Int) < (n : Int) + 8 := by omega
          go_wp2
          go_ret
          refine ⟨?_, hbel4.trans (hbv.mono hbel4.size)⟩
          simp
end Go.Proofs.YtpgamoielkpakaaDoor
