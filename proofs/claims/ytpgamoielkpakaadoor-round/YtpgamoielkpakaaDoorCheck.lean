/-
  PROVED HERE: what the program's function Check of package index answers for every list of entries: the entries, where the list is an index; nothing that was there has turned.
-/
import Derived.Test.YtpgamoielkpakaaDoorPrintLib
namespace Go.Proofs.YtpgamoielkpakaaDoor
open Go.RowKit
set_option maxHeartbeats 2000000 in
set_option maxRecDepth 100000 in
theorem check_core (oa : Option Addr) (ca : Nat) (l : List Tg) (w : World) (n : Nat) (hn : l.length = n) (h8 : n ≤ 8) (ha : TagsAt w oa l) (hsz : ∀ i, (l.getD i default).name.size ≤ 9223372036854775807) :
    Calls Tryd.prog 24 #[.slice oa n ca] w fun e w' => Below w.heap.size w w' ∧ (((∀ k, k < n → goodB l k = true) ∧ ∃ v, e = .returned (.tuple #[v, .bool true]) ∧ w'.ownsRow w.heap.size 72 34 v n (l.flatMap Tg.ecells)) ∨ (¬ (∀ k, k < n → goodB l k = true) ∧ e = .returned (.tuple #[.slice none 0 0, .bool false]))) := by
  have HA := hide ha
  have HN := hide hn
  have HSZ := hide hsz
  clear ha hn hsz
  have n8 : ¬ 8 < (n : Int) := by omega
  have hz4 := (zero_of_info Tryd.info40).1
  obtain ⟨i0, hi, hz0, hz1, hz2⟩ := info_parts Tryd.info72
  go_enter Tryd.func24, Tryd.ntmps24
  go_wp2
  go_loopw [4, 5, 15] (fun v la i wr => ∃ k : Nat, k ≤ n ∧ i = .int .i64 ((k : Nat) : Int) ∧ la = .string (lastName l k) ∧ wr.ownsRow w.heap.size 72 34 v k ((l.take k).flatMap Tg.ecells) ∧ Below w.heap.size w wr ∧ (∀ j, j < k → goodB l j = true))
    (fun _ _ i _ => n - (intOf i).toNat)
  case atStart => exact ⟨0, Nat.zero_le _, rfl, rfl, World.ownsRow_nil _ _ _ _, Below.refl _ _, fun j hj => by omega⟩
  case round =>
    obtain ⟨k, hk, rfl, rfl, hown, hbel, hall⟩ := hrel
    have HO := hide hown
    have HALL := hide hall
    clear hown hall
    by_cases hlt : k < n
    · obtain ⟨b1, o1, rfl, x1⟩ := HA.out k (by rw [HN.out]; exact hlt)
      have x2 := rangeAt_later hbel x1
      clear x1
      have hs1 := HSZ.out k
      have hgood : goodB l k = (isDigB (l.getD k default).dig && (isTagB (l.getD k default).name && (!leB (l.getD k default).name (lastName l k) && (decide (0 ≤ (l.getD k default).size) && decide ((l.getD k default).size ≤ 300))))) := rfl
      generalize hx : l.getD k default = tx at x2 hs1 hgood
      have HX := hide hx
      clear hx
      generalize hla : lastName l k = la at hgood
      have HLA := hide hla
      clear hla
      obtain ⟨n1, d1, z1⟩ := tx
      have c1 := x2 0 _ rfl
      have c2 := x2 1 _ rfl
      have c3 := x2 2 _ rfl
      simp only [Nat.add_zero] at c1
      clear x2
      dsimp only at hs1 hgood
      have HG := hide hgood
      clear hgood
      have hw := HO.out.alloc (.cells #[.string n1, .string d1, .int .i64 z1] 26)
      go_wp2_with fail
      refine (read_any d1 _).mono ?_
      rintro _ w1 ⟨rfl, hb1⟩
      dsimp only
      have HO1 := hide (ownsRow_later hw hb1)
      clear hw
      generalize hrd : rd d1 = ds
      have hdl : ds.length = 32 := by rw [← hrd]; exact rd_len _
      have HRD := hide hrd
      clear hrd
      have t0 : w1.heap[wr.heap.size]? = some (.cells #[.string n1, .string d1, .int .i64 z1] 26 (0, 0)) := (hb1.block _ (by rw [size_alloc]; omega)).trans (heap_alloc_new _ _)
      have t1 : w1.cell? ⟨wr.heap.size, 0, none⟩ = some (.string n1) := cell_of_row w1 wr.heap.size 0 _ _ _ t0
      have t2 : w1.cell? ⟨wr.heap.size, 1, none⟩ = some (.string d1) := cell_of_row w1 wr.heap.size 1 _ _ _ t0
      have t3 : w1.cell? ⟨wr.heap.size, 2, none⟩ = some (.int .i64 z1) := cell_of_row w1 wr.heap.size 2 _ _ _ t0
      have tl := lt_of_row t0
      have hbw : Below w.heap.size w w1 := (hbel.alloc hbel.size _).trans (hb1.mono (by rw [size_alloc]; have := hbel.size; omega))
      have hbs := hbw.size
      have HT0 := hide t0
      clear hb1 t0
      cases hdig : isDigB d1 with
      | false =>
        go_wp2_with (refine wpList_store_row rfl 40 _ _ rfl w1.heap.size _ rfl rfl 40 _ (heap_alloc_new _ _) (size40 _ hdl) (by rw [cells8_size, cells8_size, hdl, Sha.zeros_len]) (cells8_one _) ?_; rw [World.setRow_alloc_new])
        (try simp only [Exit.inBlock, Exit.then])
        refine bodyPost_ret (results_tmp2 rfl _ _ _) rfl ?_
        refine ⟨hbw.alloc hbs _, Or.inr ⟨fun h => ?_, rfl⟩⟩
        have := h k hlt
        rw [HG.out, hdig] at this
        cases this
      | true =>
        cases htag : isTagB n1 with
        | false =>
          go_wp2_with (first | (refine wpList_store_row rfl 40 _ _ rfl w1.heap.size _ rfl rfl 40 _ (heap_alloc_new _ _) (size40 _ hdl) (by rw [cells8_size, cells8_size, hdl, Sha.zeros_len]) (cells8_one _) ?_; rw [World.setRow_alloc_new]) | (go_at_call 44; refine (ownTag_any _ _ hs1).mono ?_; rintro e w' ⟨rfl, rfl⟩))
          (try simp only [Exit.inBlock, Exit.then])
          refine bodyPost_ret (results_tmp2 rfl _ _ _) rfl ?_
          refine ⟨hbw.alloc hbs _, Or.inr ⟨fun h => ?_, rfl⟩⟩
          have := h k hlt
          rw [HG.out, htag, Bool.false_and, Bool.and_false] at this
          cases this
        | true =>
          rcases leB_cases n1 la with ⟨hle, q1⟩ | ⟨hle, q1, rfl⟩ | ⟨hle, q1, q2, q3⟩
          · have HL := hide hle
            clear hle
            go_wp2_with (first | (refine wpList_store_row rfl 40 _ _ rfl w1.heap.size _ rfl rfl 40 _ (heap_alloc_new _ _) (size40 _ hdl) (by rw [cells8_size, cells8_size, hdl, Sha.zeros_len]) (cells8_one _) ?_; rw [World.setRow_alloc_new]) | (go_at_call 44; refine (ownTag_any _ _ hs1).mono ?_; rintro e w' ⟨rfl, rfl⟩))
            (try simp only [Exit.inBlock, Exit.then])
            refine bodyPost_ret (results_tmp2 rfl _ _ _) rfl ?_
            refine ⟨hbw.alloc hbs _, Or.inr ⟨fun h => ?_, rfl⟩⟩
            have := h k hlt
            rw [HG.out, HL.out, Bool.not_true, Bool.false_and, Bool.and_false, Bool.and_false] at this
            cases this
          · have HL := hide hle
            clear hle
            go_wp2_with (first | (refine wpList_store_row rfl 40 _ _ rfl w1.heap.size _ rfl rfl 40 _ (heap_alloc_new _ _) (size40 _ hdl) (by rw [cells8_size, cells8_size, hdl, Sha.zeros_len]) (cells8_one _) ?_; rw [World.setRow_alloc_new]) | (go_at_call 44; refine (ownTag_any _ _ hs1).mono ?_; rintro e w' ⟨rfl, rfl⟩))
            (try simp only [Exit.inBlock, Exit.then])
            refine bodyPost_ret (results_tmp2 rfl _ _ _) rfl ?_
            refine ⟨hbw.alloc hbs _, Or.inr ⟨fun h => ?_, rfl⟩⟩
            have := h k hlt
            rw [HG.out, HL.out, Bool.not_true, Bool.false_and, Bool.and_false, Bool.and_false] at this
            cases this
          · have HL := hide hle
            clear hle
            cases hsize : (decide (0 ≤ z1) && decide (z1 ≤ 300)) with
            | false =>
              have hcall : ∀ w, Calls Tryd.prog 45 #[.int .i64 z1] w fun e w' => e = .returned (.bool false) ∧ w' = w := fun w => by
                have := isSize_any z1 w
                rwa [hsize] at this
              have HC := hide hcall
              clear hcall
              go_wp2_with (first | (refine wpList_store_row rfl 40 _ _ rfl w1.heap.size _ rfl rfl 40 _ (heap_alloc_new _ _) (size40 _ hdl) (by rw [cells8_size, cells8_size, hdl, Sha.zeros_len]) (cells8_one _) ?_; rw [World.setRow_alloc_new]) | (go_at_call 44; refine (ownTag_any _ _ hs1).mono ?_; rintro e w' ⟨rfl, rfl⟩) | (go_at_call 45; refine (HC.out _).mono ?_; rintro e w' ⟨rfl, rfl⟩))
              (try simp only [Exit.inBlock, Exit.then])
              refine bodyPost_ret (results_tmp2 rfl _ _ _) rfl ?_
              refine ⟨hbw.alloc hbs _, Or.inr ⟨fun h => ?_, rfl⟩⟩
              have := h k hlt
              rw [HG.out, hsize, Bool.and_false, Bool.and_false, Bool.and_false] at this
              cases this
            | true =>
              have hcall : ∀ w, Calls Tryd.prog 45 #[.int .i64 z1] w fun e w' => e = .returned (.bool true) ∧ w' = w := fun w => by
                have := isSize_any z1 w
                rwa [hsize] at this
              have HC := hide hcall
              have hg2 : goodB l k = true := by rw [HG.out, hdig, htag, HL.out, hsize]; rfl
              have HG2 := hide hg2
              clear hcall hg2 hsize
              have hne4 : Value.ownBlock u4 ≠ some wr.heap.size := fun e => by have := (HO.out.lt _ e).2; omega
              have hD := heap_alloc_new w1 (.cells (cells8 ds) 40 (0, 0))
              have HO2 := hide ((HO1.out.alloc (.cells (cells8 ds) 40 (0, 0))).alloc (.cells (ecellsOf n1 ds z1) 72 (0, 0)))
              have hE := row_cells (heap_alloc_new (w1.alloc (.cells (cells8 ds) 40 (0, 0))) (.cells (ecellsOf n1 ds z1) 72 (0, 0)))
              have HE := hide hE
              clear hE
              go_wp2_with (first | (refine wpList_store_row rfl 40 _ _ rfl w1.heap.size _ rfl rfl 40 _ (heap_alloc_new _ _) (size40 _ hdl) (by rw [cells8_size, cells8_size, hdl, Sha.zeros_len]) (cells8_one _) ?_; rw [World.setRow_alloc_new]) | (refine wpList_load_row rfl 40 _ rfl w1.heap.size rfl 40 _ _ _ hD Tryd.underlying40 rfl (size40 _ hdl) ?_) | (go_at_call 44; refine (ownTag_any _ _ hs1).mono ?_; rintro e w' ⟨rfl, rfl⟩) | (go_at_call 45; refine (HC.out _).mono ?_; rintro e w' ⟨rfl, rfl⟩) | (refine wpList_build71 rfl _ _ _ rfl n1 ds z1 hdl rfl rfl rfl ?_) | (refine wpList_slice47 rfl _ rfl n1 ds z1 hdl rfl ?_) | (refine wpList_append_own _ rfl _ _ 47 rfl w.heap.size 72 i0 _ 34 56 Tryd.underlying47 hi hz0 hz1 hz2 (ecellsOf_size _ _ _ (Sha.zeros_len _)) (by decide) _ k _ rfl HO2.out _ 1 1 (ecellsOf n1 ds z1).toList rfl (by rw [Array.length_toList, ecellsOf_size _ _ _ hdl]) HE.out (ecellsOf_one _ _ _) (by unfold maxLen; omega) (by omega) (by simp; omega) ?_; rintro v2 w2 hv2 hg2 _; have t4 : w2.cell? ⟨wr.heap.size, 0, none⟩ = some (.string n1) := cell_of_row w2 wr.heap.size 0 _ _ _ (grown_keeps hg2 ((Below.heap_alloc (w1.alloc (.cells (cells8 ds) 40 (0, 0))) _ _ (by rw [size_alloc]; omega)).trans ((Below.heap_alloc w1 _ _ tl).trans HT0.out)) hne4); have HV2 := hide hv2; have HG3 := hide hg2; clear hv2 hg2))
              go_roundw
              case rel =>
                refine ⟨k + 1, by omega, by go_num, ?_, ?_, ?_, ?_⟩
                · show Value.string n1 = .string (l.getD k default).name
                  rw [HX.out]
                · have e := take_flat l k (by rw [HN.out]; exact hlt) Tg.ecells
                  rw [e, HX.out]
                  have e2 : Tg.ecells ⟨n1, d1, z1⟩ = (ecellsOf n1 ds z1).toList := by
                    show (ecellsOf n1 (rd d1) z1).toList = _
                    rw [HRD.out]
                  rw [e2]
                  exact HV2.out
                · exact grown_below ((hbw.alloc hbs _).alloc (by rw [size_alloc]; omega) _) HG3.out HO2.out (Nat.le_refl _) (by rw [size_alloc, size_alloc]; omega)
                · intro j hj
                  by_cases e : j = k
                  · subst e; exact HG2.out
                  · exact HALL.out j (by omega)
              case measure => simp [intOf]; omega
    · have hkn : k = n := by omega
      subst hkn
      go_wp2
      (try simp only [Exit.inBlock, Exit.then])
      refine bodyPost_ret (results_tmp2 rfl _ _ _) rfl ?_
      refine ⟨hbel, Or.inl ⟨HALL.out, u4, rfl, ?_⟩⟩
      have := HO.out
      rwa [List.take_of_length_le (by rw [HN.out]; exact Nat.le_refl _)] at this

set_option maxHeartbeats 1000000 in
set_option maxRecDepth 100000 in
theorem check_long (oa : Option Addr) (ca : Nat) (w : World) (n : Nat) (h8 : 8 < n) :
    Calls Tryd.prog 24 #[.slice oa n ca] w fun e w' => e = .returned (.tuple #[.slice none 0 0, .bool false]) ∧ Below w.heap.size w w' := by
  have n8 : 8 < (n : Int) := by omega
  go_enter Tryd.func24, Tryd.ntmps24
  go_wp2
  (try simp only [Exit.inBlock, Exit.then])
  refine bodyPost_ret (results_tmp2 rfl _ _ _) rfl ?_
  exact ⟨rfl, Below.refl _ _⟩

theorem check_any (oa : Option Addr) (ca : Nat) (l : List Tg) (w : World) (ha : TagsAt w oa l) (hsz : ∀ i, (l.getD i default).name.size ≤ 9223372036854775807) :
    Calls Tryd.prog 24 #[.slice oa l.length ca] w fun e w' => Below w.heap.size w w' ∧ ((indexB l = true ∧ ∃ v, e = .returned (.tuple #[v, .bool true]) ∧ w'.ownsRow w.heap.size 72 34 v l.length (l.flatMap Tg.ecells)) ∨ (indexB l = false ∧ e = .returned (.tuple #[.slice none 0 0, .bool false]))) := by
  by_cases h8 : l.length ≤ 8
  · refine (check_core oa ca l w l.length rfl h8 ha hsz).mono ?_
    rintro e w' ⟨hb, h⟩
    refine ⟨hb, h.imp (fun ⟨h1, h2⟩ => ⟨?_, h2⟩) (fun ⟨h1, h2⟩ => ⟨?_, h2⟩)⟩
    · unfold indexB; simp only [h8, decide_true, Bool.true_and, decide_eq_true_iff]; exact h1
    · unfold indexB; simp only [h8, decide_true, Bool.true_and, decide_eq_false_iff_not]; exact h1
  · refine (check_long oa ca w l.length (by omega)).mono ?_
    rintro e w' ⟨he, hb⟩
    exact ⟨hb, Or.inr ⟨by simp [indexB, h8], he⟩⟩
end Go.Proofs.YtpgamoielkpakaaDoor
