/-
  PROVED HERE: what the document's answer's functions bits, number, mixed, chosen and most answer for all numbers of 32 bits: nothing that was there has turned.
-/
import Derived.Test.YtpgamoielkpakaaDoorRefNum
import Derived.Test.YtpgamoielkpakaaDoorHash
namespace Go.Proofs.YtpgamoielkpakaaDoor
open Go.RowKit
def cellsI (ws : List Nat) : Array Value := (ws.map fun n => Value.int .i64 ((n : Nat) : Int)).toArray
theorem cellsI_at (ws : List Nat) (i : Nat) (h : i < ws.length) : (cellsI ws)[i]? = some (.int .i64 ((ws.getD i 0 : Nat) : Int)) := by
  simp [cellsI, h, List.getD_eq_getElem?_getD]
theorem cellsI_set (ws : List Nat) (i n : Nat) : (cellsI ws).setIfInBounds i (.int .i64 ((n : Nat) : Int)) = cellsI (ws.set i n) := by
  simp [cellsI, List.map_set]
theorem cellsI_size (ws : List Nat) : (cellsI ws).size = ws.length := by simp [cellsI]
theorem cellsI_one (ws : List Nat) : (cellsI ws).all (·.oneCell') = true := by simp [cellsI, Value.oneCell']
theorem rowI_store {w : World} {g i : Nat} {ws : List Nat} {t : TypeId} (n : Nat) (hg : w.heap[g]? = some (.cells (cellsI ws) t (0, 0))) :
    (w.setCell ⟨g, i, none⟩ (.int .i64 ((n : Nat) : Int))).heap[g]? = some (.cells (cellsI (ws.set i n)) t (0, 0)) := by
  rw [heap_setCell_same w g i _ t _ hg, cellsI_set]
theorem rowI_cell {w : World} {g : Nat} {ws : List Nat} {t : TypeId} (hg : w.heap[g]? = some (.cells (cellsI ws) t (0, 0))) (i : Nat) (h : i < ws.length) :
    w.cell? ⟨g, i, none⟩ = some (.int .i64 ((ws.getD i 0 : Nat) : Int)) := by
  rw [cell_of_row w g i _ t _ hg, cellsI_at ws i h]
theorem Tryd.info94 : (Tryd.prog.info? 94).map (fun i => (i.zero, i.size)) = some (some (.agg (cellsI (Sha.zeros 32))), 32) := by kernel_rfl
theorem size94_32 : (Tryd.prog.info? 94).map (·.size) = some 32 := by kernel_rfl
theorem size94 {ws : List Nat} (h : ws.length = 32) : (Tryd.prog.info? 94).map (·.size) = some (cellsI ws).size := by rw [cellsI_size, h]; exact size94_32
theorem sizeI {a b : List Nat} (ha : a.length = 32) (hb : b.length = 32) : (cellsI a).size = (cellsI b).size := by rw [cellsI_size, cellsI_size, ha, hb]

set_option maxHeartbeats 1000000 in
set_option maxRecDepth 100000 in
theorem bits_any (n : Nat) (w : World) (hn : n < 4294967296) :
    Calls Tryd.prog 59 #[.int .i64 ((n : Nat) : Int)] w fun e w' => e = .returned (.agg (cellsI (Sha.bitsL n))) ∧ Below w.heap.size w w' := by
  have hz := (zero_of_info Tryd.info94).1
  go_enter Tryd.func59, Tryd.ntmps59
  go_wp2
  go_loopw [0, 4] (fun m i wr => ∃ k : Nat, k ≤ 32 ∧ i = .int .i64 (31 - (k : Int)) ∧ m = .int .i64 ((n / 2 ^ k : Nat) : Int) ∧ wr.heap[w.heap.size]? = some (.cells (cellsI (Sha.zeros 32)) 94 (0, 0)) ∧ wr.heap[w.heap.size + 1]? = some (.cells (cellsI (Sha.bitsTo n k)) 94 (0, 0)) ∧ Below w.heap.size w wr)
    (fun _ i _ => (intOf i + 1).toNat)
  case atStart => exact ⟨0, Nat.zero_le _, rfl, by simp, heap_alloc2_old _ _ _, heap_alloc2_new _ _ _, ((Below.refl _ _).alloc (Nat.le_refl _) _).alloc (by simp) _⟩
  case round =>
    obtain ⟨k, hk, rfl, rfl, hr, hv, hb⟩ := hrel
    by_cases hlt : k < 32
    · have hc := rowI_cell hv (31 - k) (by rw [Sha.bitsTo_len]; omega)
      have hf := frozen_of_row _ _ (31 - k) _ _ hv
      have hm : n / 2 ^ k ≤ n := Nat.div_le_self _ _
      obtain ⟨m, hmm⟩ : ∃ m, m = n / 2 ^ k := ⟨_, rfl⟩
      rw [← hmm] at hm ⊢
      have HM := hide hmm
      clear hmm
      go_wp2
      go_roundw
      case rel =>
        rw [show (m : Int) % 2 = ((m % 2 : Nat) : Int) by omega]
        refine ⟨k + 1, by omega, by go_num, ?_, (heap_setCell_other _ _ _ _ (by simp)).trans hr, ?_, hb.setCell (by simp) _⟩
        · rw [Nat.pow_succ, ← Nat.div_div_eq_div_mul, ← HM.out]
          rfl
        · refine (rowI_store _ hv).trans ?_
          rw [HM.out]
          rfl
      case measure => simp [intOf]; omega
    · have hk32 : k = 32 := by omega
      subst hk32
      go_wp2_with (first | (refine wpList_load_row rfl 94 _ rfl (w.heap.size + 1) rfl 94 _ _ _ hv Tryd.underlying94 rfl (size94 (Sha.bitsTo_len _ _)) ?_) | (refine wpList_store_row rfl 94 _ _ rfl w.heap.size _ rfl rfl 94 _ hr (size94 (Sha.bitsTo_len _ _)) (sizeI (Sha.zeros_len _) (Sha.bitsTo_len _ _)) (cellsI_one _) ?_))
      exact bodyPost_ret (results_cell_row Tryd.results59 _ _ w.heap.size 94 _ (0, 0) _ rfl (setRow_heap _ _ _ _ _ _ hr) Tryd.underlying94 rfl (size94 (Sha.bitsTo_len _ _))) rfl ⟨rfl, hb.setRow (Nat.le_refl _) _⟩

set_option maxHeartbeats 1000000 in
set_option maxRecDepth 100000 in
theorem number_any (l : List Nat) (w : World) (hl : l.length = 32) (h1 : ∀ j, l.getD j 0 ≤ 1) :
    Calls Tryd.prog 60 #[.agg (cellsI l)] w fun e w' => e = .returned (.int .i64 ((Sha.numTo l 32 : Nat) : Int)) ∧ Below w.heap.size w w' := by
  have HB := hide (Sha.numTo_lt l h1)
  have H1 := hide h1
  clear h1
  go_enter Tryd.func60, Tryd.ntmps60
  go_wp2
  go_loop [3, 4] (fun n i => ∃ k : Nat, k ≤ 32 ∧ i = .int .i64 ((k : Nat) : Int) ∧ n = .int .i64 ((Sha.numTo l k : Nat) : Int)) (fun _ i => 32 - (intOf i).toNat)
  case atStart => exact ⟨0, Nat.zero_le _, rfl, rfl⟩
  case round =>
    obtain ⟨k, hk, rfl, rfl⟩ := hrel
    by_cases hlt : k < 32
    · have hc := cellsI_at l k (by omega)
      have hx := H1.out k
      have hb := HB.out k
      have hp : 2 ^ k ≤ 2 ^ 31 := Nat.pow_le_pow_right (by omega) (by omega)
      obtain ⟨x, hxx⟩ : ∃ x, x = l.getD k 0 := ⟨_, rfl⟩
      obtain ⟨m, hmm⟩ : ∃ m, m = Sha.numTo l k := ⟨_, rfl⟩
      rw [← hxx] at hc hx
      have hm31 : m < 2147483648 := by omega
      rw [← hmm]
      have HX := hide hxx
      have HM := hide hmm
      clear hxx hmm hb hp
      go_wp2
      go_round
      case rel => exact ⟨k + 1, by omega, by go_num, by rw [Sha.numTo, ← HX.out, ← HM.out]; go_num⟩
      case measure => simp [intOf]; omega
    · have HK : Hid (k = 32) := by show k = 32; omega
      go_wp2
      go_ret
      exact ⟨by rw [← HK.out]; rfl, (Below.refl _ _).alloc (Nat.le_refl _) _⟩
end Go.Proofs.YtpgamoielkpakaaDoor
