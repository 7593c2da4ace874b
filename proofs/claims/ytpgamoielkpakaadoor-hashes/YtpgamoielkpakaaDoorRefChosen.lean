/-
  PROVED HERE: what the document's answer's functions chosen and most answer for all numbers of 32 bits: nothing that was there has turned.
-/
import Derived.Test.YtpgamoielkpakaaDoorRefMixed
namespace Go.Proofs.YtpgamoielkpakaaDoor
open Go.RowKit

/-- Three rows, each laid behind a callee that turns nothing old. -/
theorem three_rows {w w1 w2 w3 : World} {A B : Obj} (C : Obj) (h1 : Below w.heap.size w w1) (h2 : Below (w1.alloc A).heap.size (w1.alloc A) w2) (h3 : Below (w2.alloc B).heap.size (w2.alloc B) w3) :
    (w3.alloc C).heap[w1.heap.size]? = some A ∧ (w3.alloc C).heap[w2.heap.size]? = some B ∧ (w3.alloc C).heap[w3.heap.size]? = some C ∧ Below w.heap.size w (w3.alloc C) ∧ w1.heap.size < w2.heap.size ∧ w2.heap.size < w3.heap.size ∧ w.heap.size ≤ w1.heap.size := by
  have s1 := h1.size
  have s2 := h2.size
  have s3 := h3.size
  rw [size_alloc] at s2 s3
  have a1 : w2.heap[w1.heap.size]? = some A := (h2.block _ (by rw [size_alloc]; omega)).trans (heap_alloc_new w1 A)
  have a2 : w3.heap[w1.heap.size]? = some A := (h3.block _ (by rw [size_alloc]; omega)).trans ((Below.heap_alloc w2 B _ (by omega)).trans a1)
  have b2 : w3.heap[w2.heap.size]? = some B := (h3.block _ (by rw [size_alloc]; omega)).trans (heap_alloc_new w2 B)
  refine ⟨(Below.heap_alloc w3 C _ (by omega)).trans a2, (Below.heap_alloc w3 C _ (by omega)).trans b2, heap_alloc_new w3 C, ?_, by omega, by omega, s1⟩
  have t1 : Below w.heap.size w w2 := (h1.alloc s1 A).trans (h2.mono (by rw [size_alloc]; omega))
  have t2 : Below w.heap.size w w3 := (t1.alloc (by omega) B).trans (h3.mono (by rw [size_alloc]; omega))
  exact t2.alloc (by omega) C

set_option maxHeartbeats 1000000 in
set_option maxRecDepth 100000 in
theorem chosen_core (nx ny nz : Nat) (x y z : List Nat) (w : World) (hx : x.length = 32) (hy : y.length = 32) (hz : z.length = 32) (hx1 : ∀ j, x.getD j 0 ≤ 1) (hy1 : ∀ j, y.getD j 0 ≤ 1) (hz1 : ∀ j, z.getD j 0 ≤ 1) (hr1 : ∀ j, (Sha.choTo x y z 32).getD j 0 ≤ 1)
    (HX : Hid (∀ w, Calls Tryd.prog 59 #[.int .i64 ((nx : Nat) : Int)] w fun e w' => e = .returned (.agg (cellsI x)) ∧ Below w.heap.size w w'))
    (HY : Hid (∀ w, Calls Tryd.prog 59 #[.int .i64 ((ny : Nat) : Int)] w fun e w' => e = .returned (.agg (cellsI y)) ∧ Below w.heap.size w w'))
    (HZ : Hid (∀ w, Calls Tryd.prog 59 #[.int .i64 ((nz : Nat) : Int)] w fun e w' => e = .returned (.agg (cellsI z)) ∧ Below w.heap.size w w')) :
    Calls Tryd.prog 41 #[.int .i64 ((nx : Nat) : Int), .int .i64 ((ny : Nat) : Int), .int .i64 ((nz : Nat) : Int)] w fun e w' => e = .returned (.int .i64 ((Sha.numTo (Sha.choTo x y z 32) 32 : Nat) : Int)) ∧ Below w.heap.size w w' := by
  have hzz := (zero_of_info Tryd.info94).1
  have H1X := hide hx1
  have H1Y := hide hy1
  have H1Z := hide hz1
  have H1R := hide hr1
  clear hx1 hy1 hz1 hr1
  go_enter Tryd.func41, Tryd.ntmps41
  go_wp2_with fail
  refine (HX.out _).mono ?_
  rintro _ w1 ⟨rfl, hb1⟩
  dsimp only
  go_wp2_with (refine wpList_store_row rfl 94 _ _ rfl w1.heap.size _ rfl rfl 94 _ (heap_alloc_new _ _) (size94 hx) (sizeI (Sha.zeros_len _) hx) (cellsI_one _) ?_; rw [World.setRow_alloc_new])
  refine (HY.out _).mono ?_
  rintro _ w2 ⟨rfl, hb2⟩
  dsimp only
  go_wp2_with (refine wpList_store_row rfl 94 _ _ rfl w2.heap.size _ rfl rfl 94 _ (heap_alloc_new _ _) (size94 hy) (sizeI (Sha.zeros_len _) hy) (cellsI_one _) ?_; rw [World.setRow_alloc_new])
  refine (HZ.out _).mono ?_
  rintro _ w3 ⟨rfl, hb3⟩
  dsimp only
  go_wp2_with (refine wpList_store_row rfl 94 _ _ rfl w3.heap.size _ rfl rfl 94 _ (heap_alloc_new _ _) (size94 hz) (sizeI (Sha.zeros_len _) hz) (cellsI_one _) ?_; rw [World.setRow_alloc_new])
  obtain ⟨q1, q2, q3, q4, q5, q6, q7⟩ := three_rows (.cells (cellsI z) 94 (0, 0)) hb1 hb2 hb3
  clear hb1 hb2 hb3
  go_loopw [10] (fun i wr => ∃ k : Nat, k ≤ 32 ∧ i = .int .i64 ((k : Nat) : Int) ∧ wr.heap[w1.heap.size]? = some (.cells (cellsI x) 94 (0, 0)) ∧ wr.heap[w2.heap.size]? = some (.cells (cellsI (Sha.choTo x y z k)) 94 (0, 0)) ∧ wr.heap[w3.heap.size]? = some (.cells (cellsI z) 94 (0, 0)) ∧ Below w.heap.size w wr)
    (fun i _ => 32 - (intOf i).toNat)
  case atStart => exact ⟨0, Nat.zero_le _, rfl, q1, q2, q3, q4⟩
  case round =>
    clear q1 q2 q3 q4
    obtain ⟨k, hk, rfl, r1, r2, r3, hb⟩ := hrel
    by_cases hlt : k < 32
    · have cx := rowI_cell r1 k (by omega)
      have cz := rowI_cell r3 k (by omega)
      have cy := rowI_cell r2 k (by rw [Sha.choTo_len]; omega)
      have fy := frozen_of_row _ _ k _ _ r2
      obtain ⟨xk, hxk⟩ : ∃ xk, xk = x.getD k 0 := ⟨_, rfl⟩
      obtain ⟨zk, hzk⟩ : ∃ zk, zk = z.getD k 0 := ⟨_, rfl⟩
      rw [← hxk] at cx
      rw [← hzk] at cz
      by_cases h0 : xk = 0
      · have HV : Hid (Sha.choTo x y z (k + 1) = (Sha.choTo x y z k).set k zk) := by
          show _ = _
          rw [Sha.choTo, ← hxk, if_pos h0, ← hzk]
        have ht : ((xk : Int) == 0) = true := by simp [h0]
        clear hxk hzk h0
        go_wp2
        go_roundw
        case rel => exact ⟨k + 1, by omega, by go_num, (heap_setCell_other _ _ _ _ (by simp; omega)).trans r1, by rw [HV.out]; exact rowI_store _ r2, (heap_setCell_other _ _ _ _ (by simp; omega)).trans r3, hb.setCell (by simp; omega) _⟩
        case measure => simp [intOf]; omega
      · have HV : Hid (Sha.choTo x y z (k + 1) = Sha.choTo x y z k) := by
          show _ = _
          rw [Sha.choTo, ← hxk, if_neg h0]
        have ht : ((xk : Int) == 0) = false := by simp [h0]
        clear hxk hzk h0
        go_wp2
        go_roundw
        case rel => exact ⟨k + 1, by omega, by go_num, r1, by rw [HV.out]; exact r2, r3, hb⟩
        case measure => simp [intOf]; omega
    · have HK : Hid (k = 32) := by show k = 32; omega
      have hl : (Sha.choTo x y z k).length = 32 := by rw [Sha.choTo_len]; assumption
      have H1 : Hid (∀ j, (Sha.choTo x y z k).getD j 0 ≤ 1) := by show ∀ j, _; rw [HK.out]; exact H1R.out
      obtain ⟨o, ho⟩ : ∃ o, o = Sha.choTo x y z k := ⟨_, rfl⟩
      rw [← ho] at hl H1 r2
      have HO := hide ho
      clear ho
      go_wp2_with (refine wpList_load_row rfl 94 _ rfl w2.heap.size rfl 94 _ _ _ r2 Tryd.underlying94 rfl (size94 hl) ?_)
      refine (number_any o _ hl H1.out).mono ?_
      rintro _ w4 ⟨rfl, hb4⟩
      dsimp only
      go_wp2
      go_ret
      exact ⟨by rw [HO.out, HK.out]; rfl, hb.trans (hb4.mono hb.size)⟩

set_option maxHeartbeats 1000000 in
set_option maxRecDepth 100000 in
theorem most_core (nx ny nz : Nat) (x y z : List Nat) (w : World) (hx : x.length = 32) (hy : y.length = 32) (hz : z.length = 32) (hx1 : ∀ j, x.getD j 0 ≤ 1) (hy1 : ∀ j, y.getD j 0 ≤ 1) (hz1 : ∀ j, z.getD j 0 ≤ 1) (hr1 : ∀ j, (Sha.mosTo x y z 32).getD j 0 ≤ 1)
    (HX : Hid (∀ w, Calls Tryd.prog 59 #[.int .i64 ((nx : Nat) : Int)] w fun e w' => e = .returned (.agg (cellsI x)) ∧ Below w.heap.size w w'))
    (HY : Hid (∀ w, Calls Tryd.prog 59 #[.int .i64 ((ny : Nat) : Int)] w fun e w' => e = .returned (.agg (cellsI y)) ∧ Below w.heap.size w w'))
    (HZ : Hid (∀ w, Calls Tryd.prog 59 #[.int .i64 ((nz : Nat) : Int)] w fun e w' => e = .returned (.agg (cellsI z)) ∧ Below w.heap.size w w')) :
    Calls Tryd.prog 42 #[.int .i64 ((nx : Nat) : Int), .int .i64 ((ny : Nat) : Int), .int .i64 ((nz : Nat) : Int)] w fun e w' => e = .returned (.int .i64 ((Sha.numTo (Sha.mosTo x y z 32) 32 : Nat) : Int)) ∧ Below w.heap.size w w' := by
  have hzz := (zero_of_info Tryd.info94).1
  have H1X := hide hx1
  have H1Y := hide hy1
  have H1Z := hide hz1
  have H1R := hide hr1
  clear hx1 hy1 hz1 hr1
  go_enter Tryd.func42, Tryd.ntmps42
  go_wp2_with fail
  refine (HX.out _).mono ?_
  rintro _ w1 ⟨rfl, hb1⟩
  dsimp only
  go_wp2_with (refine wpList_store_row rfl 94 _ _ rfl w1.heap.size _ rfl rfl 94 _ (heap_alloc_new _ _) (size94 hx) (sizeI (Sha.zeros_len _) hx) (cellsI_one _) ?_; rw [World.setRow_alloc_new])
  refine (HY.out _).mono ?_
  rintro _ w2 ⟨rfl, hb2⟩
  dsimp only
  go_wp2_with (refine wpList_store_row rfl 94 _ _ rfl w2.heap.size _ rfl rfl 94 _ (heap_alloc_new _ _) (size94 hy) (sizeI (Sha.zeros_len _) hy) (cellsI_one _) ?_; rw [World.setRow_alloc_new])
  refine (HZ.out _).mono ?_
  rintro _ w3 ⟨rfl, hb3⟩
  dsimp only
  go_wp2_with (refine wpList_store_row rfl 94 _ _ rfl w3.heap.size _ rfl rfl 94 _ (heap_alloc_new _ _) (size94 hz) (sizeI (Sha.zeros_len _) hz) (cellsI_one _) ?_; rw [World.setRow_alloc_new])
  obtain ⟨q1, q2, q3, q4, q5, q6, q7⟩ := three_rows (.cells (cellsI z) 94 (0, 0)) hb1 hb2 hb3
  clear hb1 hb2 hb3
  go_loopw [10] (fun i wr => ∃ k : Nat, k ≤ 32 ∧ i = .int .i64 ((k : Nat) : Int) ∧ wr.heap[w1.heap.size]? = some (.cells (cellsI (Sha.mosTo x y z k)) 94 (0, 0)) ∧ wr.heap[w2.heap.size]? = some (.cells (cellsI y) 94 (0, 0)) ∧ wr.heap[w3.heap.size]? = some (.cells (cellsI z) 94 (0, 0)) ∧ Below w.heap.size w wr)
    (fun i _ => 32 - (intOf i).toNat)
  case atStart => exact ⟨0, Nat.zero_le _, rfl, q1, q2, q3, q4⟩
  case round =>
    clear q1 q2 q3 q4
    obtain ⟨k, hk, rfl, r1, r2, r3, hb⟩ := hrel
    by_cases hlt : k < 32
    · have cx := rowI_cell r1 k (by rw [Sha.mosTo_len]; omega)
      have cz := rowI_cell r3 k (by omega)
      have cy := rowI_cell r2 k (by omega)
      have fx := frozen_of_row _ _ k _ _ r1
      rw [Sha.mosTo_past x y z k k (Nat.le_refl _)] at cx
      have x1 := H1X.out k
      have y1 := H1Y.out k
      have z1 := H1Z.out k
      obtain ⟨xk, hxk⟩ : ∃ xk, xk = x.getD k 0 := ⟨_, rfl⟩
      obtain ⟨yk, hyk⟩ : ∃ yk, yk = y.getD k 0 := ⟨_, rfl⟩
      obtain ⟨zk, hzk⟩ : ∃ zk, zk = z.getD k 0 := ⟨_, rfl⟩
      rw [← hxk] at cx x1
      rw [← hyk] at cy y1
      rw [← hzk] at cz z1
      have HV : Hid (Sha.mosTo x y z (k + 1) = (Sha.mosTo x y z k).set k ((xk + yk + zk) / 2)) := by
        show _ = _
        rw [Sha.mosTo, ← hxk, ← hyk, ← hzk]
      clear hxk hyk hzk
      go_wp2
      go_region
      go_wp2
      go_roundw
      case rel =>
        rw [show ((xk : Int) + (yk : Int) + (zk : Int)) / 2 = (((xk + yk + zk) / 2 : Nat) : Int) by omega]
        exact ⟨k + 1, by omega, by go_num, by rw [HV.out]; exact rowI_store _ r1, (heap_setCell_other _ _ _ _ (by simp; omega)).trans r2, (heap_setCell_other _ _ _ _ (by simp; omega)).trans r3, (hb.setCell (by simp; omega) _).drew⟩
      case measure => simp [intOf]; omega
    · have HK : Hid (k = 32) := by show k = 32; omega
      have hl : (Sha.mosTo x y z k).length = 32 := by rw [Sha.mosTo_len]; assumption
      have H1 : Hid (∀ j, (Sha.mosTo x y z k).getD j 0 ≤ 1) := by show ∀ j, _; rw [HK.out]; exact H1R.out
      obtain ⟨o, ho⟩ : ∃ o, o = Sha.mosTo x y z k := ⟨_, rfl⟩
      rw [← ho] at hl H1 r1
      have HO := hide ho
      clear ho
      go_wp2_with (refine wpList_load_row rfl 94 _ rfl w1.heap.size rfl 94 _ _ _ r1 Tryd.underlying94 rfl (size94 hl) ?_)
      refine (number_any o _ hl H1.out).mono ?_
      rintro _ w4 ⟨rfl, hb4⟩
      dsimp only
      go_wp2
      go_ret
      exact ⟨by rw [HO.out, HK.out]; rfl, hb.trans (hb4.mono hb.size)⟩

theorem chosen_any (e f g : Nat) (w : World) (he : e < 4294967296) (hf : f < 4294967296) (hg : g < 4294967296) :
    Calls Tryd.prog 41 #[.int .i64 ((e : Nat) : Int), .int .i64 ((f : Nat) : Int), .int .i64 ((g : Nat) : Int)] w fun r w' => r = .returned (.int .i64 ((Sha.chs e f g : Nat) : Int)) ∧ Below w.heap.size w w' := by
  have h := chosen_core e f g (Sha.bitsL e) (Sha.bitsL f) (Sha.bitsL g) w (Sha.bitsL_len e) (Sha.bitsL_len f) (Sha.bitsL_len g) (Sha.bitsL_le e) (Sha.bitsL_le f) (Sha.bitsL_le g) (Sha.choTo_le e f g) (fun w => bits_any e w he) (fun w => bits_any f w hf) (fun w => bits_any g w hg)
  rw [Sha.chosen_eq e f g he] at h
  exact h
theorem most_any (a b c : Nat) (w : World) (ha : a < 4294967296) (hb : b < 4294967296) (hc : c < 4294967296) :
    Calls Tryd.prog 42 #[.int .i64 ((a : Nat) : Int), .int .i64 ((b : Nat) : Int), .int .i64 ((c : Nat) : Int)] w fun r w' => r = .returned (.int .i64 ((Sha.maj a b c : Nat) : Int)) ∧ Below w.heap.size w w' := by
  have h := most_core a b c (Sha.bitsL a) (Sha.bitsL b) (Sha.bitsL c) w (Sha.bitsL_len a) (Sha.bitsL_len b) (Sha.bitsL_len c) (Sha.bitsL_le a) (Sha.bitsL_le b) (Sha.bitsL_le c) (Sha.mosTo_le a b c) (fun w => bits_any a w ha) (fun w => bits_any b w hb) (fun w => bits_any c w hc)
  rw [Sha.most_eq a b c ha hb] at h
  exact h
end Go.Proofs.YtpgamoielkpakaaDoor
