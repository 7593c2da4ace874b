/-
  PROVED HERE: what the document's own calls Steps, Used and List of disks answer, and what all of them answer of no disk.
-/
import Derived.Test.YtjipdjkcdoajbaaGreatDoorRdRen
namespace Go.Proofs.YtjipdjkcdoajbaaGreatDoor
open Go.RowKit
set_option maxHeartbeats 1000000 in
set_option maxRecDepth 100000 in
theorem rdSteps_any (b : Nat) (R : RDk) (nd : Nat → ByteArray × Int) (ns : List Nat) (cv : Value) (w : World) (h : RDN w b R nd ns cv) :
    Calls Tryz.prog 23 #[.pointer (some ⟨b, 0, none⟩)] w fun e w' => Below w.heap.size w w' ∧ e = .returned (.tuple #[.int .i64 R.count, .int .i64 0]) := by
  obtain ⟨nv, sv, hi⟩ := h.is
  have c4 : w.cell? ⟨b, 4, none⟩ = some (.int .i64 R.count) := cell_of_row _ _ 4 _ _ _ hi.blk
  clear h hi
  go_enter Tryz.func23, Tryz.ntmps23
  go_wp2_with fail
  refine bodyPost_ret (results_tmp2 rfl _ _ _) rfl ?_
  exact ⟨Below.refl _ _, rfl⟩
set_option maxHeartbeats 1000000 in
set_option maxRecDepth 100000 in
theorem rdUsed_any (b : Nat) (R : RDk) (nd : Nat → ByteArray × Int) (ns : List Nat) (cv : Value) (w : World) (h : RDN w b R nd ns cv) (hf : Fits R nd ns) :
    Calls Tryz.prog 21 #[.pointer (some ⟨b, 0, none⟩)] w fun e w' => Below w.heap.size w w' ∧ e = .returned (.tuple #[.int .i64 ((usedE nd R.now : Nat) : Int), .int .i64 0]) := by
  obtain ⟨nv, sv, hi⟩ := h.is
  have HU := hide (used_any b R nv sv cv nd ns w hi h.nds h.inow hf.now hf.used)
  clear h hi
  go_enter Tryz.func21, Tryz.ntmps21
  go_wp2_with fail
  refine (HU.out).mono ?_
  rintro _ w1 ⟨rfl, hb1⟩
  dsimp only
  have HB1 := hide hb1
  clear hb1
  go_wp2_with fail
  refine bodyPost_ret (results_tmp2 rfl _ _ _) rfl ?_
  exact ⟨HB1.out, rfl⟩
theorem Tryz.infoStrD : (Tryz.prog.info? 9).map (fun i => (i.zero, i.size, i.bytes)) = some (some (.string ⟨#[]⟩), 1, 16) := by kernel_rfl
theorem small_e {k n : Nat} (hk : k ≤ n) (hn : n ≤ 100000000) : k + 1 ≤ maxLen ∧ (k + 1) * 16 ≤ 140737488355328 := by unfold maxLen; omega
set_option maxHeartbeats 1000000 in
set_option maxRecDepth 100000 in
theorem rdList_any (b : Nat) (R : RDk) (nd : Nat → ByteArray × Int) (ns : List Nat) (cv : Value) (w : World) (h : RDN w b R nd ns cv) (hf : Fits R nd ns) :
    Calls Tryz.prog 17 #[.pointer (some ⟨b, 0, none⟩)] w fun e w' => Below w.heap.size w w' ∧ ∃ v, e = .returned (.tuple #[v, .int .i64 0]) ∧ w'.ownsRow w.heap.size 9 1 v R.now.length (R.now.map fun e => Value.string e.path) := by
  obtain ⟨i0, hi0, hz0, hz1, hz2⟩ := info_parts Tryz.infoStrD
  obtain ⟨nv, sv, hi⟩ := h.is
  have hda := deAt_own hi.now
  obtain ⟨oa, c, hnv, hr⟩ := hda
  have c1 : w.cell? ⟨b, 1, none⟩ = some nv := cell_of_row _ _ 1 _ _ _ hi.blk
  subst hnv
  have hl := hf.now
  clear h hi hf
  generalize R.now = l at c1 hr hl ⊢
  obtain ⟨n, hnl⟩ : ∃ n, n = l.length := ⟨_, rfl⟩
  rw [← hnl] at c1 hr hl ⊢
  have HR := hide hr
  have HNL := hide hnl
  clear hr hnl
  go_enter Tryz.func17, Tryz.ntmps17
  go_wp2_with fail
  go_loopw [4, 5] (fun ov iv wr => ∃ k : Nat, k ≤ n ∧ iv = .int .i64 ((k : Nat) : Int) ∧ wr.ownsRow w.heap.size 9 1 ov k ((l.take k).map fun e => Value.string e.path) ∧ Below w.heap.size w wr) (fun _ iv _ => n - (intOf iv).toNat)
  case atStart => exact ⟨0, Nat.zero_le _, rfl, World.ownsRow_nil _ _ _ _, Below.refl _ _⟩
  case round =>
    obtain ⟨k, hk, rfl, ho, hb⟩ := hrel
    have c1r := cell_later hb c1
    have HB := hide hb
    have HO := hide ho
    have hbs := hb.size
    have hb1 : k + 1 ≤ maxLen ∧ (k + 1) * 16 ≤ 140737488355328 := small_e hk hl
    obtain ⟨hm1, hm2⟩ := hb1
    by_cases hlt : k < n
    · obtain ⟨g, rfl, hrg⟩ := HR.out k hlt
      obtain ⟨⟨ep, eb⟩, hE⟩ : ∃ e, e = l.getD k DE0 := ⟨_, rfl⟩
      rw [← hE] at hrg
      have t0 := cell_later hb (hrg 0 _ rfl)
      simp only [Nat.add_zero] at t0
      have HE := hide hE
      clear hb ho hrg hE c1
      go_wp2_with (refine wpList_append_own _ rfl _ _ 27 rfl w.heap.size 9 i0 _ 1 16 Tryz.underlying27 hi0 hz0 hz1 hz2 rfl (by decide) _ k _ rfl (HO.out.alloc _) _ 1 1 [.string ep] rfl rfl (row_cells (heap_alloc_new _ _)) (fun u hu => by simp only [List.mem_singleton] at hu; rw [hu]; rfl) hm1 hm2 (by rw [size_alloc]; omega) ?_; rintro v2 w2 hv hg _; have HV2 := hide hv; have HG2 := hide hg; clear hv hg)
      refine ⟨⟨k + 1, by omega, by go_num, ?_, ?_⟩, by simp [intOf]; omega⟩
      · have hk2 : k < l.length := by rw [← HNL.out]; exact hlt
        have ht : l.take (k + 1) = l.take k ++ [⟨ep, eb⟩] := by
          rw [List.take_add_one, List.getElem?_eq_getElem hk2, HE.out, List.getD_eq_getElem?_getD, List.getElem?_eq_getElem hk2]; rfl
        rw [ht, List.map_append]
        exact HV2.out
      · exact grown_below (HB.out.alloc hbs _) HG2.out (HO.out.alloc _) (Nat.le_refl _) (by rw [size_alloc]; omega)
    · have e1 : decide (((k : Nat) : Int) < ((n : Nat) : Int)) = false := by simp; omega
      have hkn : k = n := by omega
      subst hkn
      clear hb ho c1
      go_wp2_with fail
      refine bodyPost_ret (results_tmp2 rfl _ _ _) rfl ?_
      refine ⟨HB.out, _, rfl, ?_⟩
      have h := HO.out
      rw [HNL.out, List.take_length] at h
      rw [HNL.out]
      exact h
set_option maxHeartbeats 1000000 in
set_option maxRecDepth 100000 in
theorem file_nil (p : ByteArray) (w : World) : Calls Tryz.prog 48 #[.pointer none, .string p] w fun e w' => e = .returned (.tuple #[.pointer none, .int .i64 1]) ∧ w' = w := by
  go_enter Tryz.func48, Tryz.ntmps48
  go_wp2_with fail
  refine bodyPost_ret (results_tmp2 rfl _ _ _) rfl ?_
  exact ⟨rfl, rfl⟩
set_option maxHeartbeats 1000000 in
set_option maxRecDepth 100000 in
theorem rdAppend_nil (p q : ByteArray) (w : World) : Calls Tryz.prog 25 #[.pointer none, .string p, .string q] w fun e w' => e = .returned (.int .i64 1) ∧ w' = w := by
  have HB := hide (begins_nil p p w)
  go_enter Tryz.func25, Tryz.ntmps25
  go_wp2_with fail
  refine (HB.out).mono ?_
  rintro _ w1 ⟨rfl, hw⟩
  subst hw
  dsimp only
  go_wp2_with fail
  go_ret
  exact ⟨rfl, rfl⟩
set_option maxHeartbeats 1000000 in
set_option maxRecDepth 100000 in
theorem rdRename_nil (p q : ByteArray) (w : World) : Calls Tryz.prog 27 #[.pointer none, .string p, .string q] w fun e w' => e = .returned (.int .i64 1) ∧ w' = w := by
  have HB := hide (begins_nil p q w)
  go_enter Tryz.func27, Tryz.ntmps27
  go_wp2_with fail
  refine (HB.out).mono ?_
  rintro _ w1 ⟨rfl, hw⟩
  subst hw
  dsimp only
  go_wp2_with fail
  go_ret
  exact ⟨rfl, rfl⟩
set_option maxHeartbeats 1000000 in
set_option maxRecDepth 100000 in
theorem rdRemove_nil (p : ByteArray) (w : World) : Calls Tryz.prog 29 #[.pointer none, .string p] w fun e w' => e = .returned (.int .i64 1) ∧ w' = w := by
  have HB := hide (begins_nil p p w)
  go_enter Tryz.func29, Tryz.ntmps29
  go_wp2_with fail
  refine (HB.out).mono ?_
  rintro _ w1 ⟨rfl, hw⟩
  subst hw
  dsimp only
  go_wp2_with fail
  go_ret
  exact ⟨rfl, rfl⟩
set_option maxHeartbeats 1000000 in
set_option maxRecDepth 100000 in
theorem rdTruncate_nil (p : ByteArray) (n : Int) (w : World) : Calls Tryz.prog 31 #[.pointer none, .string p, .int .i64 n] w fun e w' => e = .returned (.int .i64 1) ∧ w' = w := by
  have HB := hide (begins_nil p p w)
  go_enter Tryz.func31, Tryz.ntmps31
  go_wp2_with fail
  refine (HB.out).mono ?_
  rintro _ w1 ⟨rfl, hw⟩
  subst hw
  dsimp only
  go_wp2_with fail
  go_ret
  exact ⟨rfl, rfl⟩
set_option maxHeartbeats 1000000 in
set_option maxRecDepth 100000 in
theorem rdSync_nil (p : ByteArray) (w : World) : Calls Tryz.prog 33 #[.pointer none, .string p] w fun e w' => e = .returned (.int .i64 1) ∧ w' = w := by
  have HB := hide (begins_nil p p w)
  go_enter Tryz.func33, Tryz.ntmps33
  go_wp2_with fail
  refine (HB.out).mono ?_
  rintro _ w1 ⟨rfl, hw⟩
  subst hw
  dsimp only
  go_wp2_with fail
  go_ret
  exact ⟨rfl, rfl⟩
set_option maxHeartbeats 1000000 in
set_option maxRecDepth 100000 in
theorem rdSyncDir_nil  (w : World) : Calls Tryz.prog 35 #[.pointer none] w fun e w' => e = .returned (.int .i64 1) ∧ w' = w := by
  have HB := hide (begins_nil ⟨#[120]⟩ ⟨#[120]⟩ w)
  go_enter Tryz.func35, Tryz.ntmps35
  go_wp2_with fail
  refine (HB.out).mono ?_
  rintro _ w1 ⟨rfl, hw⟩
  subst hw
  dsimp only
  go_wp2_with fail
  go_ret
  exact ⟨rfl, rfl⟩
set_option maxHeartbeats 1000000 in
set_option maxRecDepth 100000 in
theorem rdRead_nil (p : ByteArray) (w : World) : Calls Tryz.prog 15 #[.pointer none, .string p] w fun e w' => e = .returned (.tuple #[.string ⟨#[]⟩, .int .i64 1]) ∧ w' = w := by
  have HB := hide (file_nil p w)
  go_enter Tryz.func15, Tryz.ntmps15
  go_wp2_with fail
  refine (HB.out).mono ?_
  rintro _ w1 ⟨rfl, hw⟩
  subst hw
  dsimp only
  go_wp2_with fail
  refine bodyPost_ret (results_tmp2 rfl _ _ _) rfl ?_
  exact ⟨rfl, rfl⟩
set_option maxHeartbeats 1000000 in
set_option maxRecDepth 100000 in
theorem rdSpoil_nil (p : ByteArray) (n m : Int) (w : World) : Calls Tryz.prog 37 #[.pointer none, .string p, .int .i64 n, .int .i64 m] w fun e w' => e = .returned (.int .i64 1) ∧ w' = w := by
  have HB := hide (file_nil p w)
  go_enter Tryz.func37, Tryz.ntmps37
  go_wp2_with fail
  refine (HB.out).mono ?_
  rintro _ w1 ⟨rfl, hw⟩
  subst hw
  dsimp only
  go_wp2_with fail
  go_ret
  exact ⟨rfl, rfl⟩
set_option maxHeartbeats 1000000 in
set_option maxRecDepth 100000 in
theorem rdList_nil  (w : World) : Calls Tryz.prog 17 #[.pointer none] w fun e w' => e = .returned (.tuple #[.slice none 0 0, .int .i64 1]) ∧ w' = w := by
  go_enter Tryz.func17, Tryz.ntmps17
  go_wp2_with fail
  refine bodyPost_ret (results_tmp2 rfl _ _ _) rfl ?_
  exact ⟨rfl, rfl⟩
set_option maxHeartbeats 1000000 in
set_option maxRecDepth 100000 in
theorem rdUsed_nil  (w : World) : Calls Tryz.prog 21 #[.pointer none] w fun e w' => e = .returned (.tuple #[.int .i64 0, .int .i64 1]) ∧ w' = w := by
  go_enter Tryz.func21, Tryz.ntmps21
  go_wp2_with fail
  refine bodyPost_ret (results_tmp2 rfl _ _ _) rfl ?_
  exact ⟨rfl, rfl⟩
set_option maxHeartbeats 1000000 in
set_option maxRecDepth 100000 in
theorem rdSteps_nil  (w : World) : Calls Tryz.prog 23 #[.pointer none] w fun e w' => e = .returned (.tuple #[.int .i64 0, .int .i64 1]) ∧ w' = w := by
  go_enter Tryz.func23, Tryz.ntmps23
  go_wp2_with fail
  refine bodyPost_ret (results_tmp2 rfl _ _ _) rfl ?_
  exact ⟨rfl, rfl⟩
set_option maxHeartbeats 1000000 in
set_option maxRecDepth 100000 in
theorem rdBreak_nil (n : Int) (w : World) : Calls Tryz.prog 39 #[.pointer none, .int .i64 n] w fun e w' => e = .returned (.int .i64 1) ∧ w' = w := by
  go_enter Tryz.func39, Tryz.ntmps39
  go_wp2_with fail
  go_ret
  exact ⟨rfl, rfl⟩
set_option maxHeartbeats 1000000 in
set_option maxRecDepth 100000 in
theorem rdCrash_nil (n : Int) (v : Value) (w : World) : Calls Tryz.prog 67 #[.pointer none, .int .i64 n, v] w fun e w' => e = .returned (.int .i64 1) ∧ w' = w := by
  go_enter Tryz.func67, Tryz.ntmps67
  go_wp2_with fail
  go_ret
  exact ⟨rfl, rfl⟩
set_option maxHeartbeats 1000000 in
set_option maxRecDepth 100000 in
theorem rdCopy_nil  (w : World) : Calls Tryz.prog 8 #[.pointer none] w fun e w' => e = .returned (.tuple #[.pointer none, .int .i64 1]) ∧ w' = w := by
  go_enter Tryz.func8, Tryz.ntmps8
  go_wp2_with fail
  refine bodyPost_ret (results_tmp2 rfl _ _ _) rfl ?_
  exact ⟨rfl, rfl⟩
end Go.Proofs.YtjipdjkcdoajbaaGreatDoor
