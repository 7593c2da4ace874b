/-
  PROVED HERE: what the program's function wordsOf answers for every block of 64 bytes: the 64 numbers of the document; nothing that was there has turned.
-/
import Derived.Test.YtpgamoielkpakaaDoorTurn
import Derived.Test.YtpgamoielkpakaaDoorCells
import Derived.Deep.RegionHeld3
namespace Go.Proofs.YtpgamoielkpakaaDoor
open Go.RowKit
theorem Tryd.info109 : (Tryd.prog.info? 109).map (fun i => (i.zero, i.size)) = some (some (.agg (cells32 (Sha.zeros 64))), 64) := by kernel_rfl
theorem word_val (s : ByteArray) (k : Nat) (t : ByteArray) (hs : s.size = 64) (hk : k < 16) (hq : s.extract (4 * k) (4 * k + 4) = t) {h0 : 0 < t.size} {h1 : 1 < t.size} {h2 : 2 < t.size} {h3 : 3 < t.size} :
    bits BinOp.or IntKind.u32 (bits BinOp.or IntKind.u32 (bits BinOp.or IntKind.u32 (((t[0]'h0).toNat : Int) % 4294967296 * 16777216 % 4294967296) (((t[1]'h1).toNat : Int) % 4294967296 * 65536 % 4294967296)) (((t[2]'h2).toNat : Int) % 4294967296 * 256 % 4294967296)) (((t[3]'h3).toNat : Int) % 4294967296)
      = ((Sha.wordAt s.data.toList k : Nat) : Int) := by
  have at_ : ∀ i (h : i < t.size), i < 4 → (t[i]'h).toNat = Sha.byteAt s.data.toList (4 * k + i) := by
    subst hq
    intro i h hi
    have hlt : 4 * k + i < s.data.size := by have : s.data.size = 64 := hs; omega
    have e : (s.extract (4 * k) (4 * k + 4))[i]'h = s.data[4 * k + i] := by
      simp [ByteArray.getElem_extract]
      rfl
    rw [e]
    have hg : s.data[4 * k + i]? = some s.data[4 * k + i] := Array.getElem?_eq_getElem hlt
    simp [Sha.byteAt, hg]
  have b : ∀ i, Sha.byteAt s.data.toList i < 256 := fun i => UInt8.toNat_lt _
  rw [at_ 0 h0 (by omega), at_ 1 h1 (by omega), at_ 2 h2 (by omega), at_ 3 h3 (by omega)]
  have b0 := b (4 * k + 0)
  have b1 := b (4 * k + 1)
  have b2 := b (4 * k + 2)
  have b3 := b (4 * k + 3)
  rw [show ((Sha.byteAt s.data.toList (4 * k + 0) : Nat) : Int) % 4294967296 * 16777216 % 4294967296 = ((Sha.byteAt s.data.toList (4 * k) * 16777216 : Nat) : Int) by rw [Nat.add_zero] at *; omega,
    show ((Sha.byteAt s.data.toList (4 * k + 1) : Nat) : Int) % 4294967296 * 65536 % 4294967296 = ((Sha.byteAt s.data.toList (4 * k + 1) * 65536 : Nat) : Int) by omega,
    show ((Sha.byteAt s.data.toList (4 * k + 2) : Nat) : Int) % 4294967296 * 256 % 4294967296 = ((Sha.byteAt s.data.toList (4 * k + 2) * 256 : Nat) : Int) by omega,
    show ((Sha.byteAt s.data.toList (4 * k + 3) : Nat) : Int) % 4294967296 = ((Sha.byteAt s.data.toList (4 * k + 3) : Nat) : Int) by omega]
  rw [Nat.add_zero] at b0
  have o1 : Sha.byteAt s.data.toList (4 * k) * 16777216 ||| Sha.byteAt s.data.toList (4 * k + 1) * 65536 < 4294967296 := by
    have := Nat.or_lt_two_pow (n := 32) (x := Sha.byteAt s.data.toList (4 * k) * 16777216) (y := Sha.byteAt s.data.toList (4 * k + 1) * 65536) (by omega) (by omega)
    omega
  have o2 : (Sha.byteAt s.data.toList (4 * k) * 16777216 ||| Sha.byteAt s.data.toList (4 * k + 1) * 65536) ||| Sha.byteAt s.data.toList (4 * k + 2) * 256 < 4294967296 := by
    have := Nat.or_lt_two_pow (n := 32) (x := Sha.byteAt s.data.toList (4 * k) * 16777216 ||| Sha.byteAt s.data.toList (4 * k + 1) * 65536) (y := Sha.byteAt s.data.toList (4 * k + 2) * 256) (by omega) (by omega)
    omega
  rw [u32_or_nat _ _ (by omega) (by omega), u32_or_nat _ _ o1 (by omega), u32_or_nat _ _ o2 (by omega)]
  rfl

theorem wTwo_next (bs : List UInt8) (j : Nat) (hj : 16 ≤ j) : Sha.wTwo bs (j + 1 - 16) = (Sha.wTwo bs (j - 16)).set j (Sha.wNext (Sha.wTwo bs (j - 16)) j) := by
  obtain ⟨m, rfl⟩ : ∃ m, j = m + 16 := ⟨j - 16, by omega⟩
  rw [show m + 16 + 1 - 16 = m + 1 by omega, show m + 16 - 16 = m by omega]
  rfl
theorem wNext_val (bs : List UInt8) (j : Nat) (a2 a7 a15 a16 : Nat) (h2 : a2 = (Sha.wTwo bs (j - 16)).getD (j - 2) 0) (h7 : a7 = (Sha.wTwo bs (j - 16)).getD (j - 7) 0) (h15 : a15 = (Sha.wTwo bs (j - 16)).getD (j - 15) 0) (h16 : a16 = (Sha.wTwo bs (j - 16)).getD (j - 16) 0) :
    (((((Sha.sm3 a2 17 19 10 : Nat) : Int) + (a7 : Int)) % 4294967296 + ((Sha.sm3 a15 7 18 3 : Nat) : Int)) % 4294967296 + (a16 : Int)) % 4294967296 = ((Sha.wNext (Sha.wTwo bs (j - 16)) j : Nat) : Int) := by
  unfold Sha.wNext
  rw [← h2, ← h7, ← h15, ← h16]
  omega

set_option maxHeartbeats 1000000 in
theorem words_any (s : ByteArray) (w : World) (hs : s.size = 64) :
    Calls Tryd.prog 74 #[.string s] w fun e w' => e = .returned (.agg (cells32 (Sha.words s.data.toList))) ∧ Below w.heap.size w w' := by
  have hz := (zero_of_info Tryd.info109).1
  go_enter Tryd.func74, Tryd.ntmps74
  go_wp2
  go_loopw [7] (fun i wr => ∃ k : Nat, k ≤ 16 ∧ i = .int .i64 k ∧ wr.heap[w.heap.size]? = some (.cells (cells32 (Sha.zeros 64)) 109 (0, 0)) ∧ wr.heap[w.heap.size + 1]? = some (.cells (cells32 (Sha.wOne s.data.toList k)) 109 (0, 0)) ∧ Below w.heap.size w wr)
    (fun i _ => 16 - (intOf i).toNat)
  case atStart => exact ⟨0, Nat.zero_le _, rfl, heap_alloc2_old _ _ _, heap_alloc2_new _ _ _, ((Below.refl _ _).alloc (Nat.le_refl _) _).alloc (by simp) _⟩
  case round =>
    obtain ⟨k, hk, rfl, hr, hv, hb⟩ := hrel
    by_cases hlt : k < 16
    · have hc := row32_cell hv k (by rw [Sha.wOne_len]; omega)
      have hf := frozen_of_row _ _ k _ _ hv
      have hz := hb.size
      go_wp2
      generalize hq : s.extract (4 * k) (4 * k + 4) = t
      have ht : t.size = 4 := by rw [← hq]; simp; omega
      have HQ := hide hq
      clear hq
      go_region
      go_wp2
      go_roundw
      case rel => exact ⟨k + 1, by omega, by go_num, (heap_setCell_other _ _ _ _ (by simp)).trans hr, by rw [word_val s k t hs hlt HQ.out]; exact row32_store _ hv, (hb.setCell (by simp) _).drew⟩
      case measure => simp [intOf]; omega
    · have HK : Hid (k = 16) := by show k = 16; omega
      have hv0 : wr.heap[w.heap.size + 1]? = some (.cells (cells32 (Sha.wTwo s.data.toList (16 - 16))) 109 (0, 0)) := by rw [hv, HK.out]; rfl
      go_wp2
      go_loopw [6] (fun i wr => ∃ j : Nat, 16 ≤ j ∧ j ≤ 64 ∧ i = .int .i64 j ∧ wr.heap[w.heap.size]? = some (.cells (cells32 (Sha.zeros 64)) 109 (0, 0)) ∧ wr.heap[w.heap.size + 1]? = some (.cells (cells32 (Sha.wTwo s.data.toList (j - 16))) 109 (0, 0)) ∧ Below w.heap.size w wr)
        (fun i _ => 64 - (intOf i).toNat)
      case atStart => exact ⟨16, by omega, by omega, rfl, hr, hv0, hb⟩
      case round =>
        clear hr hv hv0 hb hlt hk HK
        obtain ⟨j, hj, hj2, rfl, hr, hv, hb⟩ := hrel
        by_cases hlt : j < 64
        · obtain ⟨a2, ha2⟩ : ∃ a2, a2 = (Sha.wTwo s.data.toList (j - 16)).getD (j - 2) 0 := ⟨_, rfl⟩
          obtain ⟨a7, ha7⟩ : ∃ a7, a7 = (Sha.wTwo s.data.toList (j - 16)).getD (j - 7) 0 := ⟨_, rfl⟩
          obtain ⟨a15, ha15⟩ : ∃ a15, a15 = (Sha.wTwo s.data.toList (j - 16)).getD (j - 15) 0 := ⟨_, rfl⟩
          obtain ⟨a16, ha16⟩ : ∃ a16, a16 = (Sha.wTwo s.data.toList (j - 16)).getD (j - 16) 0 := ⟨_, rfl⟩
          obtain ⟨aj, haj⟩ : ∃ aj, aj = (Sha.wTwo s.data.toList (j - 16)).getD j 0 := ⟨_, rfl⟩
          have hc2 := row32_cell hv (j - 2) (by rw [Sha.wTwo_len]; omega)
          have hc7 := row32_cell hv (j - 7) (by rw [Sha.wTwo_len]; omega)
          have hc15 := row32_cell hv (j - 15) (by rw [Sha.wTwo_len]; omega)
          have hc16 := row32_cell hv (j - 16) (by rw [Sha.wTwo_len]; omega)
          have hcj := row32_cell hv j (by rw [Sha.wTwo_len]; omega)
          rw [← ha2] at hc2
          rw [← ha7] at hc7
          rw [← ha15] at hc15
          rw [← ha16] at hc16
          rw [← haj] at hcj
          have hf := frozen_of_row _ _ j _ _ hv
          have hz := hb.size
          have hl2 : a2 < 4294967296 := by rw [ha2]; exact Sha.wTwo_lt _ _ _
          have hl15 : a15 < 4294967296 := by rw [ha15]; exact Sha.wTwo_lt _ _ _
          have Ha2 := hide ha2
          have Ha7 := hide ha7
          have Ha15 := hide ha15
          have Ha16 := hide ha16
          clear ha2 ha7 ha15 ha16 haj
          have g2 : (2 : Int) ≤ (j : Int) := by omega
          have e2 : ¬ j - 2 = j := by omega
          have d2 : ¬ j = j - 2 := by omega
          have g7 : (7 : Int) ≤ (j : Int) := by omega
          have e7 : ¬ j - 7 = j := by omega
          have d7 : ¬ j = j - 7 := by omega
          have g15 : (15 : Int) ≤ (j : Int) := by omega
          have e15 : ¬ j - 15 = j := by omega
          have d15 : ¬ j = j - 15 := by omega
          have g16 : (16 : Int) ≤ (j : Int) := by omega
          have e16 : ¬ j - 16 = j := by omega
          have d16 : ¬ j = j - 16 := by omega
          have k2 : (j : Int) - 2 < 64 := by omega
          have k7 : (j : Int) - 7 < 64 := by omega
          have k15 : (j : Int) - 15 < 64 := by omega
          have k16 : (j : Int) - 16 < 64 := by omega
          have kj : (j : Int) < 64 := by omega
          have q2 : IntKind.i64.wrap ((j : Int) - 2) = (j : Int) - 2 := by rw [IntKind.wrap_i64]; omega
          have q7 : IntKind.i64.wrap ((j : Int) - 7) = (j : Int) - 7 := by rw [IntKind.wrap_i64]; omega
          have q15 : IntKind.i64.wrap ((j : Int) - 15) = (j : Int) - 15 := by rw [IntKind.wrap_i64]; omega
          have q16 : IntKind.i64.wrap ((j : Int) - 16) = (j : Int) - 16 := by rw [IntKind.wrap_i64]; omega
          have n2 : ((j : Int) - 2).toNat = j - 2 := by omega
          have n7 : ((j : Int) - 7).toNat = j - 7 := by omega
          have n15 : ((j : Int) - 15).toNat = j - 15 := by omega
          have n16 : ((j : Int) - 16).toNat = j - 16 := by omega
          go_wp2
          go_region_held3 (fun w' => w'.cell? ⟨w.heap.size + 1, j - 2, none⟩ = some (.int .u32 ((a2 : Nat) : Int)) ∧ w'.cell? ⟨w.heap.size + 1, j - 7, none⟩ = some (.int .u32 ((a7 : Nat) : Int)) ∧ w'.cell? ⟨w.heap.size + 1, j - 15, none⟩ = some (.int .u32 ((a15 : Nat) : Int)) ∧ w'.cell? ⟨w.heap.size + 1, j - 16, none⟩ = some (.int .u32 ((a16 : Nat) : Int))) (first | go_keep | (refine ⟨?_, ?_, ?_, ?_⟩ <;> (rw [cell_off _ _ _ _ _ (by assumption)]; go_keep)))
            (((go_at_call 85; refine (turned2_any _ _ _ _ _ (by omega) (by omega) (by omega) (by omega) (by omega) (by omega) (by omega)).mono ?_; rintro e w' ⟨rfl, n, rfl⟩)))
          go_wp2
          go_roundw
          case rel =>
            have HV := wNext_val s.data.toList j a2 a7 a15 a16 Ha2.out Ha7.out Ha15.out Ha16.out
            rw [HV]
            refine ⟨j + 1, by omega, by omega, by go_num, (heap_setCell_other _ _ _ _ (by simp)).trans hr, ?_, (hb.drewN _).setCell (by simp) _⟩
            rw [wTwo_next s.data.toList j hj]
            exact row32_store _ hv
          case measure => simp [intOf]; omega
        · have hj64 : j = 64 := by omega
          subst hj64
          go_wp2_with (first | (refine wpList_load_row rfl 109 _ rfl (w.heap.size + 1) rfl 109 _ _ _ hv Tryd.underlying109 rfl (by rw [cells32_size, Sha.wTwo_len]; kernel_rfl) ?_) | (refine wpList_store_row rfl 109 _ _ rfl w.heap.size _ rfl rfl 109 _ hr (by rw [cells32_size, Sha.wTwo_len]; kernel_rfl) (by rw [cells32_size, cells32_size, Sha.wTwo_len, Sha.zeros_len]) (cells32_one _) ?_))
          exact bodyPost_ret (results_cell_row Tryd.results74 _ _ w.heap.size 109 _ (0, 0) _ rfl (setRow_heap _ _ _ _ _ _ hr) Tryd.underlying109 rfl (by rw [cells32_size, Sha.wTwo_len]; kernel_rfl)) rfl ⟨rfl, hb.setRow (Nat.le_refl _) _⟩
end Go.Proofs.YtpgamoielkpakaaDoor
