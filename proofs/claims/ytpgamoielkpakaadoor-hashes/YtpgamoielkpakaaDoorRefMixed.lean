/-
  PROVED HERE: what the document's answer's functions mixed, chosen and most answer for all numbers of 32 bits: nothing that was there has turned.
-/
import Derived.Test.YtpgamoielkpakaaDoorRefBits
namespace Go.Proofs.YtpgamoielkpakaaDoor
open Go.RowKit

set_option maxHeartbeats 1000000 in
set_option maxRecDepth 100000 in
theorem mixed_core (x : Nat) (f : List Nat) (a b c : Nat) (moved : Bool) (w : World) (hf : f.length = 32) (hf1 : ∀ j, f.getD j 0 ≤ 1)
    (HB : Hid (∀ w, Calls Tryd.prog 59 #[.int .i64 ((x : Nat) : Int)] w fun e w' => e = .returned (.agg (cellsI f)) ∧ Below w.heap.size w w'))
    (ha : 0 < a) (ha2 : a < 32) (hb : 0 < b) (hb2 : b < 32) (hc : 0 < c) (hc2 : c < 32) :
    Calls Tryd.prog 40 #[.int .i64 ((x : Nat) : Int), .int .i64 ((a : Nat) : Int), .int .i64 ((b : Nat) : Int), .int .i64 ((c : Nat) : Int), .bool moved] w fun e w' => e = .returned (.int .i64 ((Sha.numTo (Sha.mixTo f a b c moved 32) 32 : Nat) : Int)) ∧ Below w.heap.size w w' := by
  have hz := (zero_of_info Tryd.info94).1
  have HF := hide hf1
  clear hf1
  go_enter Tryd.func40, Tryd.ntmps40
  go_wp2_with fail
  refine (HB.out _).mono ?_
  rintro _ w1 ⟨rfl, hb1⟩
  dsimp only
  go_wp2_with (refine wpList_store_row rfl 94 _ _ rfl w1.heap.size _ rfl rfl 94 _ (heap_alloc_new _ _) (size94 hf) (sizeI (Sha.zeros_len _) hf) (cellsI_one _) ?_; rw [World.setRow_alloc_new])
  go_loopw [13] (fun i wr => ∃ k : Nat, k ≤ 32 ∧ i = .int .i64 ((k : Nat) : Int) ∧ wr.heap[w1.heap.size]? = some (.cells (cellsI f) 94 (0, 0)) ∧ wr.heap[w1.heap.size + 1]? = some (.cells (cellsI (Sha.mixTo f a b c moved k)) 94 (0, 0)) ∧ Below w1.heap.size w1 wr)
    (fun i _ => 32 - (intOf i).toNat)
  case atStart => exact ⟨0, Nat.zero_le _, rfl, heap_alloc2_old _ _ _, heap_alloc2_new _ _ _, ((Below.refl _ _).alloc (Nat.le_refl _) _).alloc (by simp) _⟩
  case round =>
    obtain ⟨k, hk, rfl, hr, hv, hbw⟩ := hrel
    by_cases hlt : k < 32
    · obtain ⟨ia, hia⟩ : ∃ ia, ia = (k + 32 - a) % 32 := ⟨_, rfl⟩
      obtain ⟨ib, hib⟩ : ∃ ib, ib = (k + 32 - b) % 32 := ⟨_, rfl⟩
      obtain ⟨ic, hic⟩ : ∃ ic, ic = (k + 32 - c) % 32 := ⟨_, rfl⟩
      have ra : ((k : Int) + 32 - (a : Int)) % 32 = (ia : Int) := by omega
      have rb : ((k : Int) + 32 - (b : Int)) % 32 = (ib : Int) := by omega
      have rc : ((k : Int) + 32 - (c : Int)) % 32 = (ic : Int) := by omega
      have la : ia < 32 := by omega
      have lb : ib < 32 := by omega
      have lc : ic < 32 := by omega
      have ca := rowI_cell hr ia (by omega)
      have cb := rowI_cell hr ib (by omega)
      have cc := rowI_cell hr ic (by omega)
      have co := rowI_cell hv k (by rw [Sha.mixTo_len]; omega)
      have fo := frozen_of_row _ _ k _ _ hv
      have xa1 := HF.out ia
      have xb1 := HF.out ib
      have xc1 := HF.out ic
      obtain ⟨xa, hxa⟩ : ∃ xa, xa = f.getD ia 0 := ⟨_, rfl⟩
      obtain ⟨xb, hxb⟩ : ∃ xb, xb = f.getD ib 0 := ⟨_, rfl⟩
      obtain ⟨xc, hxc⟩ : ∃ xc, xc = f.getD ic 0 := ⟨_, rfl⟩
      rw [← hxa] at ca xa1
      rw [← hxb] at cb xb1
      rw [← hxc] at cc xc1
      have HV : Hid (Sha.mixTo f a b c moved (k + 1) = (Sha.mixTo f a b c moved k).set k ((xa + xb + (if moved && decide (k < c) then 0 else xc)) % 2)) := by
        show _ = _
        rw [Sha.mixTo, ← hia, ← hib, ← hic, ← hxa, ← hxb, ← hxc]
      clear hia hib hic hxa hxb hxc
      cases moved
      · have e0 : (if (false && decide (k < c)) = true then 0 else xc) = xc := by simp
        rw [e0] at HV
        go_wp2
        go_region
        go_wp2
        go_roundw
        case rel =>
          refine ⟨k + 1, by omega, by go_num, (heap_setCell_other _ _ _ _ (by simp)).trans hr, ?_, (hbw.setCell (by simp) _).drew⟩
          rw [HV.out]
          rw [show ((xa : Int) + (xb : Int) + (xc : Int)) % 2 = (((xa + xb + xc) % 2 : Nat) : Int) by omega]
          exact rowI_store _ hv
        case measure => simp [intOf]; omega
      · by_cases hkc : k < c
        · have e0 : (if (true && decide (k < c)) = true then 0 else xc) = 0 := by simp [hkc]
          rw [e0] at HV
          go_wp2
          go_region
          go_wp2
          go_roundw
          case rel =>
            refine ⟨k + 1, by omega, by go_num, (heap_setCell_other _ _ _ _ (by simp)).trans hr, ?_, (hbw.setCell (by simp) _).drew⟩
            rw [HV.out]
            rw [show ((xa : Int) + (xb : Int)) % 2 = (((xa + xb + 0) % 2 : Nat) : Int) by omega]
            exact rowI_store _ hv
          case measure => simp [intOf]; omega
        · have e0 : (if (true && decide (k < c)) = true then 0 else xc) = xc := by simp [hkc]
          rw [e0] at HV
          go_wp2
          go_region
          go_wp2
          go_roundw
          case rel =>
            refine ⟨k + 1, by omega, by go_num, (heap_setCell_other _ _ _ _ (by simp)).trans hr, ?_, (hbw.setCell (by simp) _).drew⟩
            rw [HV.out]
            rw [show ((xa : Int) + (xb : Int) + (xc : Int)) % 2 = (((xa + xb + xc) % 2 : Nat) : Int) by omega]
            exact rowI_store _ hv
          case measure => simp [intOf]; omega
    · have HK : Hid (k = 32) := by show k = 32; omega
      have hl := Sha.mixTo_len f a b c moved k
      have H1 : Hid (∀ j, (Sha.mixTo f a b c moved k).getD j 0 ≤ 1) := by show ∀ j, _; rw [HK.out]; exact Sha.mixTo_le f a b c moved
      obtain ⟨o, ho⟩ : ∃ o, o = Sha.mixTo f a b c moved k := ⟨_, rfl⟩
      rw [← ho] at hl H1 hv
      have HO := hide ho
      clear ho
      go_wp2_with (refine wpList_load_row rfl 94 _ rfl (w1.heap.size + 1) rfl 94 _ _ _ hv Tryd.underlying94 rfl (size94 hl) ?_)
      refine (number_any o _ hl H1.out).mono ?_
      rintro _ w2 ⟨rfl, hb2⟩
      dsimp only
      go_wp2
      go_ret
      have hw1 := hb1.size
      have hw2 := hbw.size
      exact ⟨by rw [HO.out, HK.out]; rfl, hb1.trans ((hbw.mono hw1).trans (hb2.mono (by omega)))⟩

theorem mixed_big (x : Nat) (a b c : Int) (w : World) (hx : x < 4294967296) (ha : 0 < a) (ha2 : a < 32) (hb : 0 < b) (hb2 : b < 32) (hc : 0 < c) (hc2 : c < 32) :
    Calls Tryd.prog 40 #[.int .i64 ((x : Nat) : Int), .int .i64 a, .int .i64 b, .int .i64 c, .bool false] w fun e w' => e = .returned (.int .i64 ((Sha.big3 x a.toNat b.toNat c.toNat : Nat) : Int)) ∧ Below w.heap.size w w' := by
  obtain ⟨a, rfl⟩ := Int.eq_ofNat_of_zero_le (Int.le_of_lt ha)
  obtain ⟨b, rfl⟩ := Int.eq_ofNat_of_zero_le (Int.le_of_lt hb)
  obtain ⟨c, rfl⟩ := Int.eq_ofNat_of_zero_le (Int.le_of_lt hc)
  have h := mixed_core x (Sha.bitsL x) a b c false w (Sha.bitsL_len x) (Sha.bitsL_le x) (fun w => bits_any x w hx) (by omega) (by omega) (by omega) (by omega) (by omega) (by omega)
  rw [Sha.mixed_big3 x a b c hx (by omega) (by omega) (by omega) (by omega) (by omega) (by omega)] at h
  exact h
theorem mixed_small (x : Nat) (a b c : Int) (w : World) (hx : x < 4294967296) (ha : 0 < a) (ha2 : a < 32) (hb : 0 < b) (hb2 : b < 32) (hc : 0 < c) (hc2 : c < 32) :
    Calls Tryd.prog 40 #[.int .i64 ((x : Nat) : Int), .int .i64 a, .int .i64 b, .int .i64 c, .bool true] w fun e w' => e = .returned (.int .i64 ((Sha.sm3 x a.toNat b.toNat c.toNat : Nat) : Int)) ∧ Below w.heap.size w w' := by
  obtain ⟨a, rfl⟩ := Int.eq_ofNat_of_zero_le (Int.le_of_lt ha)
  obtain ⟨b, rfl⟩ := Int.eq_ofNat_of_zero_le (Int.le_of_lt hb)
  obtain ⟨c, rfl⟩ := Int.eq_ofNat_of_zero_le (Int.le_of_lt hc)
  have h := mixed_core x (Sha.bitsL x) a b c true w (Sha.bitsL_len x) (Sha.bitsL_le x) (fun w => bits_any x w hx) (by omega) (by omega) (by omega) (by omega) (by omega) (by omega)
  rw [Sha.mixed_sm3 x a b c hx (by omega) (by omega) (by omega) (by omega) (by omega) (by omega)] at h
  exact h
end Go.Proofs.YtpgamoielkpakaaDoor
