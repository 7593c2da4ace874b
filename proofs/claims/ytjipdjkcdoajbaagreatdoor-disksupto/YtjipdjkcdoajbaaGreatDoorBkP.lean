/-
  PROVED HERE: what the statement's own function markP does.
-/
import Derived.Test.YtjipdjkcdoajbaaGreatDoorBkFrame
import Derived.Test.YtjipdjkcdoajbaaGreatDoorKeepApp2
import Derived.Deep.RegionLaw
import Derived.Deep.AppendLies
import Derived.Deep.CutRange
namespace Go.Proofs.YtjipdjkcdoajbaaGreatDoor
open Go.RowKit
theorem Tryz.infoBookP : (Tryz.prog.info? 82).map (fun i => (i.zero, i.size, i.bytes)) = some (some (.agg #[.int .i64 0, .int .i64 0, .slice none 0 0, .slice none 0 0, .slice none 0 0]), 5, 88) := by kernel_rfl
theorem Tryz.infoStrP : (Tryz.prog.info? 9).map (fun i => (i.zero, i.size, i.bytes)) = some (some (.string ⟨#[]⟩), 1, 16) := by kernel_rfl
theorem pb_one (b : PB) (h : ∃ o n c, b.pv = .slice o n c) : ∀ u ∈ b.cells, u.oneCell' = true := by
  obtain ⟨o, n, c, h⟩ := h
  intro u hu
  simp only [PB.cells, h, List.mem_cons, List.not_mem_nil, or_false] at hu
  rcases hu with rfl | rfl | rfl | rfl | rfl <;> rfl
/-- What the region of the books reads. -/
def B3P (bb N : Nat) (ac : Value) (w' : World) : Prop := w'.cell? ⟨bb, 0, none⟩ = some (.int .i64 (N : Int)) ∧ w'.cell? ⟨bb, 9, none⟩ = some ac ∧ w'.frozen? ⟨bb, 9, none⟩ = false
theorem B3P.block {bb N : Nat} {ac : Value} {w w' : World} (h : B3P bb N ac w) (hb : w'.heap[bb]? = w.heap[bb]?) : B3P bb N ac w' :=
  ⟨(World.cell?_of_block (a := ⟨bb, 0, none⟩) hb).trans h.1, (World.cell?_of_block (a := ⟨bb, 9, none⟩) hb).trans h.2.1, (World.frozen?_of_block (a := ⟨bb, 9, none⟩) hb).trans h.2.2⟩
theorem B3P.grew {bb N : Nat} {ac : Value} {w w5 : World} {o : Obj} {r : Option Nat} (h : B3P bb N ac w) (hb : bb < w.heap.size) (hg : (w.alloc o).drew.grownBy w5 r) (hr : r ≠ some bb) : B3P bb N ac w5 :=
  h.block ((hg.block bb (by show bb < (w.alloc o).heap.size; rw [size_alloc]; omega) (fun e => hr e.symm)).trans (Below.heap_alloc w o bb hb))
set_option maxHeartbeats 4000000 in
set_option maxRecDepth 100000 in
theorem markP_any (bb n N came : Nat) (kp wp av lv : Value) (bs : List PB) (ps : List ByteArray) (w : World) (h : BkP w bb N came kp wp av bs) (hp : ps.length = n) (hl : w.ownsRow 0 9 1 lv n (strs ps)) (hn : n ≤ 100000000) (hN : N ≤ 100000000) (hbs : bs.length ≤ 100000000)
    (d3 : ∀ e ∈ bs, ∀ q, lv.ownBlock = some q → e.pv.ownBlock ≠ some q) :
    Calls Tryz.prog 50 #[.pointer (some ⟨bb, 0, none⟩), lv] w fun e w' => e = .returned (.tuple #[]) ∧ Gr (pS bb lv av) w w' ∧
      ∃ av' bs4, BkP w' bb (N + 1) came kp wp av' (bs ++ bs4) ∧ bs4.length = 4 ∧ NewOr w av av' ∧ ∀ e ∈ bs4, NewOr w lv e.pv := by
  have c0 : w.cell? ⟨bb, 0, none⟩ = some (.int .i64 (N : Int)) := cell_of_row _ _ 0 _ _ _ h.blk
  have hf := fun j => frozen_of_row w bb j _ _ h.blk
  have H := hide h
  have HL := hide hl
  have HMK := hide (mark_str (N + 1) (by omega))
  obtain ⟨o1, cap1, hlv⟩ := own_sl hl
  subst hlv
  obtain ⟨ms, hms⟩ : ∃ ms, ms = markS (N + 1) := ⟨_, rfl⟩
  rw [← hms] at HMK
  have HMS := hide hms
  have c0' : (w.setCell ⟨bb, 0, none⟩ (.int .i64 ((N : Int) + 1))).cell? ⟨bb, 0, none⟩ = some (.int .i64 ((N : Int) + 1)) := by
    have := cell_of_row _ _ 0 _ _ _ (heap_setCell_same _ bb 0 _ _ (.int .i64 ((N : Int) + 1)) h.blk)
    exact this
  clear h hl hms
  go_enter Tryz.func50, Tryz.ntmps50
  go_wp2_with fail
  refine (HMK.out _).mono ?_
  rintro _ w1 ⟨rfl, hb1⟩
  dsimp only
  have HW1 := hide (MFP.start H.out HL.out hb1)
  clear hb1 c0'
  go_wp2_with fail
  go_loopw [5] (fun iv wr => ∃ k : Nat, k ≤ n ∧ iv = .int .i64 ((k : Nat) : Int) ∧ MFP w wr bb (N + 1) came kp wp av (.slice o1 n cap1) bs n ps k) (fun iv _ => n - (intOf iv).toNat)
  case atStart => exact ⟨0, Nat.zero_le _, rfl, HW1.out⟩
  case round =>
    clear HW1
    obtain ⟨k, hk, rfl, hmf⟩ := hrel
    have HMF := hide hmf
    by_cases hlt : k < n
    · obtain ⟨g, cap, cur, e, -, hg, hc, -, hcs, -⟩ := hmf.lst.2.resolve_left (fun h => by omega)
      injection e with e1 e2 e3
      subst e1 e3
      have gf := fun j => frozen_of_row wr g j _ _ hg
      obtain ⟨v0, g0⟩ : ∃ v0, wr.cell? ⟨g, k, none⟩ = some v0 := ⟨cur[k]'(by omega), by rw [cell_of_row _ _ _ _ _ _ hg]; exact Array.getElem?_eq_getElem _⟩
      clear hmf hg hcs cur
      go_wp2_with fail
      have hst := HMF.out.step hp hlt (fun e he => d3 e he g rfl)
      rw [← HMS.out] at hst
      exact ⟨⟨k + 1, hlt, by simp, hst⟩, by simp only [intOf]; omega⟩
    · have hkn : k = n := by omega
      subst hkn
      have hmg0 := MGP.start HMF.out hp d3
      obtain ⟨N1, hN1⟩ : ∃ N1, N1 = N + 1 := ⟨_, rfl⟩
      rw [← hN1] at hmg0 HMS ⊢
      have HMG := hide hmg0
      have HN1 := hide hN1
      have hN1b : N1 ≤ 100000001 := by omega
      obtain ⟨i0, hi, hz0, hz1, hz2⟩ := info_parts Tryz.infoStrP
      obtain ⟨i1, hj, hy0, hy1, hy2⟩ := info_parts Tryz.infoBookP
      clear hmf hmg0 hN1 HMF
      go_wp2_with fail
      go_loopw [1, 6] (fun lc kv wr => ∃ (q : Nat) (ac : Value) (bk : List PB), q ≤ 4 ∧ kv = .int .i64 ((q : Nat) : Int) ∧ bk.length = q ∧ MGP w wr bb N1 came kp wp av (.slice o1 k cap1) bs (k + q) lc ac bk) (fun _ kv _ => 4 - (intOf kv).toNat)
      case atStart => exact ⟨0, av, [], by omega, rfl, rfl, HMG.out⟩
      case round =>
        clear HMG
        obtain ⟨q, ac, bk, hq, rfl, hbk, hmg⟩ := hrel
        have HMG := hide hmg
        have b0 : wr.cell? ⟨bb, 0, none⟩ = some (.int .i64 (N1 : Int)) := cell_of_row _ _ 0 _ _ _ hmg.bks.blk
        have b9 : wr.cell? ⟨bb, 9, none⟩ = some ac := cell_of_row _ _ 9 _ _ _ hmg.bks.blk
        have bf := fun j => frozen_of_row wr bb j _ _ hmg.bks.blk
        obtain ⟨oc, cc, hlc⟩ := own_sl hmg.lst
        subst hlc
        obtain ⟨oa, ca, hac⟩ := own_sl hmg.bks.all
        subst hac
        by_cases hq4 : q < 4
        · have hb40 : k + q + 1 ≤ maxLen ∧ (k + q + 1) * 16 ≤ 140737488355328 ∧ k + q ≤ 100000010 := by unfold maxLen; omega
          obtain ⟨hb40, hb41, hkq⟩ := hb40
          obtain ⟨M, hM⟩ : ∃ M, M = (bs ++ bk).length := ⟨_, rfl⟩
          rw [← hM] at hmg HMG
          have hal := (World.ownsRow.alloc hmg.bks.all (.cells #[.int .i64 3, .int .i64 (N1 : Int), .slice none 0 0, .slice none 0 0, .slice oc (k + q) cc] 82))
          have hal2 := ownsRow_later hal ((Below.refl _ _).drew)
          have hbl : M ≤ 100000004 := by rw [hM, List.length_append]; omega
          rw [← hM] at b9 hal2
          have HAL := hide hal2
          have HM := hide hM
          have hbbl := lt_of_row hmg.bks.blk
          have HNB : Hid ((Value.slice oa M ca).ownBlock ≠ some bb) := fun e => by
            obtain ⟨cur, hc⟩ := own_obj hmg.bks.all bb e
            exact type_ne hc hmg.bks.blk (by decide) rfl
          have HB3 : Hid (B3P bb N1 (.slice oa M ca) wr) := ⟨b0, b9, bf 9⟩
          have hbf := bf 9
          have HONE := hide (pb_one ⟨.slice oc (k + q) cc, N1, k + q⟩ ⟨_, _, _, rfl⟩)
          have hb63 : M + 1 ≤ maxLen ∧ (M + 1) * 88 ≤ 140737488355328 := by unfold maxLen; omega
          obtain ⟨hb63, hb88⟩ := hb63
          clear hal hal2 hM hmg bf
          go_upto_region 9 with fail
          go_cut [] from 29 to 51 (fun wx => ∃ ac', MGP w wx bb N1 came kp wp av (.slice o1 k cap1) bs (k + q) (.slice oc (k + q) cc) ac' (bk ++ [⟨.slice oc (k + q) cc, N1, k + q⟩]))
          case first =>
            go_region_law (refine step_append_lies _ (by rfl) _ _ _ (by rfl) bb 82 i1 _ 5 88 Tryz.underlying28 hj hy0 hy1 hy2 (by rfl) (by decide) _ M _ (by rfl) HAL.out _ 1 1 [.int .i64 3, .int .i64 (N1 : Int), .slice none 0 0, .slice none 0 0, .slice oc (k + q) cc] (by rfl) (by rfl) (row_cells (heap_alloc_new _ _)) HONE.out (by decide) hb63 hb88 (by show bb ≤ (wr.alloc _).heap.size; rw [size_alloc]; omega) _ rfl ?_; intro g2 cap2 w5 hown5 hgrow hat hlt5; obtain ⟨s0, s9, sf⟩ := HB3.out.grew hbbl hgrow HNB.out)
            all_goals
              have hmg5 := HMG.out.book (X := (wr.alloc (.cells #[.int .i64 3, .int .i64 (N1 : Int), .slice none 0 0, .slice none 0 0, .slice oc (k + q) cc] 82)).drew) (w5 := w5) (g2 := g2) (cap2 := cap2) (M := M) hkq HM.out.symm ((Below.refl _ _).alloc (Nat.le_refl _) _).drew hgrow hown5 (hat.imp id (fun e => by rw [e]; show wr.heap.size ≤ (wr.alloc _).heap.size; rw [size_alloc]; exact Nat.le_succ _))
              clear hown5 hgrow hat hlt5 s0 s9 sf
              go_wp2_with fail
              go_meet
              case rel => exact ⟨_, hmg5⟩
          case rest =>
            obtain ⟨ac', hmg5⟩ := hcut
            have HMG5 := hide hmg5
            have HL5 := hide (hmg5.lst.alloc (.cells #[.string ms] 9))
            clear hmg5 HAL HB3 HNB HONE b0 b9
            go_wp2_with (refine wpList_append_keep2 _ rfl _ _ 27 rfl 0 9 i0 _ 1 16 Tryz.underlying27 hi hz0 hz1 hz2 rfl (by decide) _ (k + q) _ rfl HL5.out _ 1 1 [.string ms] rfl rfl (row_cells (heap_alloc_new _ _)) (by intro u hu; rw [List.mem_singleton.1 hu]; rfl) hb40 hb41 (Nat.zero_le _) ?_; intro v7 w7 ho7 hg7 hk7 hn7 hr7)
            refine ⟨⟨q + 1, ac', bk ++ [⟨.slice oc (k + q) cc, N1, k + q⟩], by omega, by simp, by simp [hbk], ?_⟩, by simp only [intOf]; omega⟩
            exact HMG5.out.grow ((Below.refl _ _).alloc (Nat.le_refl _) _) (by rw [← HMS.out]; rw [← HMS.out] at ho7; exact ho7) hg7 hk7 hn7 (fun g hg => by obtain ⟨cur, hc⟩ := hr7 g hg; exact ⟨cur, _, hc⟩)
        · have e4 : decide (((q : Nat) : Int) < 4) = false := by simp; omega
          go_wp2_with fail
          go_end0
          have hq5 : q = 4 := by omega
          subst hq5
          have hbks := HMG.out.bks
          rw [HN1.out] at hbks
          exact ⟨rfl, HMG.out.gr, _, bk, hbks, hbk, HMG.out.na, fun e he => (HMG.out.each e he).1⟩
end Go.Proofs.YtjipdjkcdoajbaaGreatDoor
