/-
  PROVED HERE: what the document's answer's function padded answers for every content: nothing that was there has turned.
-/
import Derived.Test.YtpgamoielkpakaaDoorRefOwn
namespace Go.Proofs.YtpgamoielkpakaaDoor
open Go.RowKit
/-- The eight bytes of a length, laid from the end. -/
def lenTo (n : Nat) : Nat → List Nat
  | 0 => Sha.zeros 8
  | k + 1 => (lenTo n k).set (7 - k) (n / 256 ^ k % 256)
theorem lenTo_len (n k : Nat) : (lenTo n k).length = 8 := by
  induction k with
  | zero => simp [lenTo, Sha.zeros]
  | succ k ih => simp [lenTo, ih]
theorem lenTo_at (n k j : Nat) (hk : k ≤ 8) (hj : j < 8) (h : 8 - k ≤ j) : (lenTo n k).getD j 0 = n / 256 ^ (7 - j) % 256 := by
  induction k with
  | zero => omega
  | succ k ih =>
    have hl := lenTo_len n k
    simp only [lenTo, List.getD_eq_getElem?_getD, List.getElem?_set] at *
    by_cases e : 7 - k = j
    · subst e
      rw [if_pos rfl, if_pos (by omega), show 7 - (7 - k) = k by omega]
      rfl
    · rw [if_neg e]
      exact ih (by omega) (by omega)
theorem mk8 (w : World) : (Instr.makeSlice 63 (.int .i64 8) (.int .i64 8)).run Tryd.prog w = .ok (.slice (some ⟨w.heap.size, 0, none⟩) 8 8) (w.alloc (.cells (cells8 (Sha.zeros 8)) 5)) := by kernel_rfl
def strLen : Value → Nat | .string b => b.size | _ => 0
theorem app_list (s : ByteArray) (c : UInt8) : (s ++ (⟨#[c]⟩ : ByteArray)).data.toList = s.data.toList ++ [c] := by simp
theorem app_size (s : ByteArray) (c : UInt8) : (s ++ (⟨#[c]⟩ : ByteArray)).size = s.size + 1 := by
  rw [ByteArray.size_append]
  rfl
/-- The eight bytes of a length. -/
def len8 (n : Nat) : List UInt8 := (List.range 8).map fun j => UInt8.ofNat (n / 2 ^ (8 * (7 - j)) % 256)
theorem len8_fill (l : List UInt8) (n : Nat) : Sha.fillL l n 8 = l ++ len8 n := by
  simp [Sha.fillL, len8, List.range_succ]
theorem fill_app (tb s : ByteArray) (h : tb.data.toList = Sha.fillZ s.data.toList (Sha.gap s.size)) (hs : s.size * 8 < 18446744073709551616) : (tb ++ (⟨(len8 (s.size * 8)).toArray⟩ : ByteArray)) = ⟨(Sha.fill s.data.toList s.size).toArray⟩ := by
  have e : (tb ++ (⟨(len8 (s.size * 8)).toArray⟩ : ByteArray)).data.toList = Sha.fill s.data.toList s.size := by
    rw [ByteArray.data_append, Array.toList_append, h]
    unfold Sha.fill
    rw [show s.data.toList.length = s.size by simp, Nat.mod_eq_of_lt hs, len8_fill]
  apply ByteArray.ext
  rw [← Array.toList_inj, e]
theorem len8_text {w : World} {g n : Nat} (hv : w.heap[g]? = some (.cells (cells8 (lenTo n 8)) 5 (0, 0))) : (convert 63 9 (.slice (some ⟨g, 0, none⟩) 8 8)).run Tryd.prog w = .ok (.string ⟨(len8 n).toArray⟩) w := by
  refine run_convert_bytes_back (P := Tryd.prog) w 63 9 5 ⟨g, 0, none⟩ 8 (len8 n) Tryd.underlying63 Tryd.underlying5 Tryd.underlying9 (fun j hj => ?_)
  have hj8 : j < 8 := by simpa [len8] using hj
  have hadd : (⟨g, 0, none⟩ : Addr).add j = ⟨g, j, none⟩ := by unfold Addr.add; split <;> simp_all
  rw [hadd, row8_cell hv j (by rw [lenTo_len]; omega), lenTo_at n 8 j (by omega) hj8 (by omega)]
  have e : ((len8 n)[j]).toNat = n / 256 ^ (7 - j) % 256 := by
    simp only [len8, List.getElem_map, List.getElem_range]
    rw [UInt8.toNat_ofNat', show (256 : Nat) ^ (7 - j) = 2 ^ (8 * (7 - j)) by rw [Nat.pow_mul]]
    omega
  exact congrArg (fun x : Nat => some (Value.int .u8 ((x : Nat) : Int))) e.symm
theorem len8_size (n : Nat) : (ByteArray.mk (len8 n).toArray).size = 8 := by
  show (len8 n).toArray.size = 8
  simp [len8]
set_option maxHeartbeats 1000000 in
set_option maxRecDepth 100000 in
theorem padded_any (s : ByteArray) (w : World) (hs : s.size ≤ 140737488351232) :
    Calls Tryd.prog 21 #[.string s] w fun e w' => e = .returned (.string ⟨(Sha.fill s.data.toList s.size).toArray⟩) ∧ Below w.heap.size w w' := by
  have hmk := mk8
  go_enter Tryd.func21, Tryd.ntmps21
  go_wp2
  go_loop [4] (fun t => ∃ (k : Nat) (tb : ByteArray), k ≤ Sha.gap s.size ∧ t = .string tb ∧ tb.data.toList = Sha.fillZ s.data.toList k) (fun t => s.size + 200 - strLen t)
  case atStart => exact ⟨0, s ++ ⟨#[128]⟩, Nat.zero_le _, rfl, app_list _ _⟩
  case round =>
    obtain ⟨k, tb, hk, rfl, htb⟩ := hrel
    have hl := Sha.fillZ_len s.data.toList k
    have hsl : s.data.toList.length = s.size := by simp
    have hg63 : Sha.gap s.size < 64 := Nat.mod_lt _ (by omega)
    have hm : tb.size = s.size + 1 + k := by
      have : tb.data.toList.length = tb.size := by simp
      rw [← this, htb, hl, hsl]
    have HT := hide htb
    clear htb hl hsl
    by_cases hlt : k < Sha.gap s.size
    · have ht : ((tb.size : Int) % 64 != 56) = true := by
        have : (s.size + 1 + k) % 64 ≠ 56 := by unfold Sha.gap at hlt hk; omega
        simp; omega
      have hm2 : tb.size ≤ 140737488351632 := by omega
      have HM := hide hm
      clear hm
      go_wp2
      go_round
      case rel => exact ⟨k + 1, tb ++ ⟨#[0]⟩, by omega, rfl, by rw [app_list, HT.out]; rfl⟩
      case measure =>
        have := HM.out
        have e := app_size tb 0
        simp only [strLen]
        show s.size + 200 - (tb ++ (⟨#[0]⟩ : ByteArray)).size < _
        rw [e]
        omega
    · have ht : ((tb.size : Int) % 64 != 56) = false := by
        have : (s.size + 1 + k) % 64 = 56 := by unfold Sha.gap at hlt hk; omega
        simp; omega
      have hm2 : tb.size ≤ 140737488351632 := by omega
      have HT2 : Hid (tb.data.toList = Sha.fillZ s.data.toList (Sha.gap s.size)) := by show _ = _; rw [HT.out, show k = Sha.gap s.size by omega]
      clear HT hm hlt hk hg63
      go_wp2
      go_loopw [3, 6] (fun m i wr => ∃ j : Nat, j ≤ 8 ∧ i = .int .i64 (7 - (j : Int)) ∧ m = .int .i64 ((s.size * 8 / 256 ^ j : Nat) : Int) ∧ wr.heap[w.heap.size]? = some (.cells (cells8 (lenTo (s.size * 8) j)) 5 (0, 0)) ∧ Below w.heap.size w wr)
        (fun _ i _ => (intOf i + 1).toNat)
      case atStart => exact ⟨0, by omega, rfl, by go_num, heap_alloc_new _ _, (Below.refl _ _).alloc (Nat.le_refl _) _⟩
      case round =>
        obtain ⟨j, hj, rfl, rfl, hv, hb⟩ := hrel
        have hd := Nat.div_le_self (s.size * 8) (256 ^ j)
        obtain ⟨m, hm⟩ : ∃ m, m = s.size * 8 / 256 ^ j := ⟨_, rfl⟩
        rw [← hm] at hd ⊢
        by_cases hjl : j < 8
        · have hc := row8_cell hv (7 - j) (by rw [lenTo_len]; omega)
          have hf := frozen_of_row _ _ (7 - j) _ _ hv
          have HM := hide hm
          clear hm
          go_wp2
          go_roundw
          case rel =>
            rw [show (m : Int) % 256 = ((m % 256 : Nat) : Int) by omega]
            refine ⟨j + 1, by omega, by go_num, ?_, ?_, hb.setCell (by simp) _⟩
            · rw [Nat.pow_succ, ← Nat.div_div_eq_div_mul, ← HM.out]
              rfl
            · refine (row8_store _ hv).trans ?_
              rw [HM.out]
              rfl
          case measure => simp [intOf]; omega
        · have HJ : Hid (j = 8) := by show j = 8; omega
          have hcv : (convert 63 9 (.slice (some ⟨w.heap.size, 0, none⟩) 8 8)).run Tryd.prog wr = .ok (.string ⟨(len8 (s.size * 8)).toArray⟩) wr := by
            rw [HJ.out] at hv
            exact len8_text hv
          have HL8 : Hid ((tb ++ (⟨(len8 (s.size * 8)).toArray⟩ : ByteArray)) = ⟨(Sha.fill s.data.toList s.size).toArray⟩) := by
            show _ = _
            exact fill_app tb s HT2.out (by omega)
          obtain ⟨l8, hl8⟩ : ∃ l8 : ByteArray, l8 = ⟨(len8 (s.size * 8)).toArray⟩ := ⟨_, rfl⟩
          have hl8s : l8.size = 8 := by rw [hl8]; exact len8_size _
          rw [← hl8] at hcv HL8
          clear hm hl8 hmk hv
          go_wp2
          go_ret
          exact ⟨by rw [← HL8.out]; rfl, hb⟩
end Go.Proofs.YtpgamoielkpakaaDoor
