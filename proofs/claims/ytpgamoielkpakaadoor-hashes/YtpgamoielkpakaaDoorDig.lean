/-
  PROVED HERE: what the program's function digestOf answers for every eight numbers of 32 bits: their 32 bytes; nothing that was there has turned.
-/
import Derived.Test.YtpgamoielkpakaaDoorAll
import Derived.Test.YtpgamoielkpakaaDoorShaTwo
import Derived.Test.YtpgamoielkpakaaDoorDigLib
namespace Go.Proofs.YtpgamoielkpakaaDoor
open Go.RowKit
theorem idx58_0 (x0 x1 x2 x3 x4 x5 x6 x7 : Value) (w : World) : (Instr.index 59 (.agg #[x0, x1, x2, x3, x4, x5, x6, x7]) (.int .i64 0)).run Tryd.prog w = .ok x0 w := by kernel_rfl
theorem idx58_1 (x0 x1 x2 x3 x4 x5 x6 x7 : Value) (w : World) : (Instr.index 59 (.agg #[x0, x1, x2, x3, x4, x5, x6, x7]) (.int .i64 1)).run Tryd.prog w = .ok x1 w := by kernel_rfl
theorem idx58_2 (x0 x1 x2 x3 x4 x5 x6 x7 : Value) (w : World) : (Instr.index 59 (.agg #[x0, x1, x2, x3, x4, x5, x6, x7]) (.int .i64 2)).run Tryd.prog w = .ok x2 w := by kernel_rfl
theorem idx58_3 (x0 x1 x2 x3 x4 x5 x6 x7 : Value) (w : World) : (Instr.index 59 (.agg #[x0, x1, x2, x3, x4, x5, x6, x7]) (.int .i64 3)).run Tryd.prog w = .ok x3 w := by kernel_rfl
theorem idx58_4 (x0 x1 x2 x3 x4 x5 x6 x7 : Value) (w : World) : (Instr.index 59 (.agg #[x0, x1, x2, x3, x4, x5, x6, x7]) (.int .i64 4)).run Tryd.prog w = .ok x4 w := by kernel_rfl
theorem idx58_5 (x0 x1 x2 x3 x4 x5 x6 x7 : Value) (w : World) : (Instr.index 59 (.agg #[x0, x1, x2, x3, x4, x5, x6, x7]) (.int .i64 5)).run Tryd.prog w = .ok x5 w := by kernel_rfl
theorem idx58_6 (x0 x1 x2 x3 x4 x5 x6 x7 : Value) (w : World) : (Instr.index 59 (.agg #[x0, x1, x2, x3, x4, x5, x6, x7]) (.int .i64 6)).run Tryd.prog w = .ok x6 w := by kernel_rfl
theorem idx58_7 (x0 x1 x2 x3 x4 x5 x6 x7 : Value) (w : World) : (Instr.index 59 (.agg #[x0, x1, x2, x3, x4, x5, x6, x7]) (.int .i64 7)).run Tryd.prog w = .ok x7 w := by kernel_rfl
theorem idx58 (s : Sha.St) (k : Nat) (hk : k < 8) (w : World) : (Instr.index 59 (.agg (vals s)) (.int .i64 ((k : Nat) : Int))).run Tryd.prog w = .ok (.int .u32 ((s.list.getD k 0 : Nat) : Int)) w := by
  match k, hk with
  | 0, _ => exact idx58_0 _ _ _ _ _ _ _ _ w
  | 1, _ => exact idx58_1 _ _ _ _ _ _ _ _ w
  | 2, _ => exact idx58_2 _ _ _ _ _ _ _ _ w
  | 3, _ => exact idx58_3 _ _ _ _ _ _ _ _ w
  | 4, _ => exact idx58_4 _ _ _ _ _ _ _ _ w
  | 5, _ => exact idx58_5 _ _ _ _ _ _ _ _ w
  | 6, _ => exact idx58_6 _ _ _ _ _ _ _ _ w
  | 7, _ => exact idx58_7 _ _ _ _ _ _ _ _ w

set_option maxHeartbeats 1000000 in
set_option maxRecDepth 100000 in
theorem digest_any (s : Sha.St) (w : World) :
    Calls Tryd.prog 37 #[.agg (vals s)] w fun e w' => e = .returned (.agg (cells8 (Sha.digest s))) ∧ Below w.heap.size w w' := by
  have hz4 := (zero_of_info Tryd.info40).1
  go_enter Tryd.func37, Tryd.ntmps37
  go_wp2
  go_loopw [7] (fun i wr => ∃ k : Nat, k ≤ 8 ∧ i = .int .i64 ((k : Nat) : Int) ∧ wr.heap[w.heap.size + 1]? = some (.cells (cells8 (Sha.zeros 32)) 40 (0, 0)) ∧ wr.heap[w.heap.size + 2]? = some (.cells (cells8 (Sha.dBytes s.list k)) 40 (0, 0)) ∧ Below w.heap.size w wr)
    (fun i _ => 8 - (intOf i).toNat)
  case atStart => exact ⟨0, by omega, rfl, (alloc3 _ _ _ _).1, (alloc3 _ _ _ _).2, (((Below.refl _ _).alloc (Nat.le_refl _) _).alloc (by simp) _).alloc (by simp; omega) _⟩
  case round =>
    obtain ⟨k, hk, rfl, hr, hv, hb⟩ := hrel
    by_cases hlt : k < 8
    · have hidx := fun w => idx58 s k hlt w
      have c0 := row8_cell hv (4 * k) (by rw [Sha.dBytes_len]; omega)
      have c1 := row8_cell hv (4 * k + 1) (by rw [Sha.dBytes_len]; omega)
      have c2 := row8_cell hv (4 * k + 2) (by rw [Sha.dBytes_len]; omega)
      have c3 := row8_cell hv (4 * k + 3) (by rw [Sha.dBytes_len]; omega)
      have f := fun j => frozen_of_row wr (w.heap.size + 2) j _ _ hv
      generalize hx : s.list.getD k 0 = x at hidx
      have HX := hide hx
      clear hx
      have hzb := lt_of_row hv
      go_wp2
      go_roundw
      case rel =>
        rw [show (x : Int) / 16777216 % 256 = ((x / 16777216 % 256 : Nat) : Int) by omega, show (x : Int) / 65536 % 256 = ((x / 65536 % 256 : Nat) : Int) by omega, show (x : Int) / 256 % 256 = ((x / 256 % 256 : Nat) : Int) by omega, show (x : Int) % 256 = ((x % 256 : Nat) : Int) by omega]
        refine ⟨k + 1, by omega, by go_num, ?_, ?_, (((hb.setCell (by simp; omega) _).setCell (by simp; omega) _).setCell (by simp; omega) _).setCell (by simp; omega) _⟩
        · rw [heap_setCell_other _ _ _ _ (by simp), heap_setCell_other _ _ _ _ (by simp), heap_setCell_other _ _ _ _ (by simp), heap_setCell_other _ _ _ _ (by simp)]
          exact hr
        · refine (row8_store _ (row8_store _ (row8_store _ (row8_store _ hv)))).trans ?_
          rw [← HX.out]
          rfl
      case measure => simp [intOf]; omega
    · have hk8 : k = 8 := by omega
      subst hk8
      go_wp2_with (first | (refine wpList_load_row rfl 40 _ rfl (w.heap.size + 1 + 1) rfl 40 _ _ _ hv Tryd.underlying40 rfl (by rw [cells8_size, Sha.dBytes_len]; exact size40_32) ?_) | (refine wpList_store_row rfl 40 _ _ rfl (w.heap.size + 1) _ rfl rfl 40 _ hr (by rw [cells8_size, Sha.dBytes_len]; exact size40_32) (by rw [cells8_size, cells8_size, Sha.dBytes_len, Sha.zeros_len]) (cells8_one _) ?_))
      exact bodyPost_ret (results_cell_row Tryd.results37 _ _ (w.heap.size + 1) 40 _ (0, 0) _ rfl (setRow_heap _ _ _ _ _ _ hr) Tryd.underlying40 rfl (by rw [cells8_size, Sha.dBytes_len]; exact size40_32)) rfl ⟨rfl, hb.setRow (by omega) _⟩
end Go.Proofs.YtpgamoielkpakaaDoor
