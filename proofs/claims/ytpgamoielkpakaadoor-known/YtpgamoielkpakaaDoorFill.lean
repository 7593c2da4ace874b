/-
  PROVED HERE: what the program's function fillUp answers for every rest of fewer than 64 bytes: the rest filled up to whole blocks; nothing that was there has turned.
-/
import Derived.Test.YtpgamoielkpakaaDoorText
import Derived.Test.YtpgamoielkpakaaDoorOwnB
namespace Go.Proofs.YtpgamoielkpakaaDoor
open Go.RowKit
theorem one_new (w : World) (n : Int) (t : TypeId) : (w.alloc (.cells #[.int .u8 n] t)).cell? ⟨w.heap.size, 0, none⟩ = some (.int .u8 n) := by
  rw [cell_of_row _ _ 0 _ t _ (heap_alloc_new w _)]
  rfl
theorem one_new2 (w : World) (A : Obj) (n : Int) (t : TypeId) : ((w.alloc A).alloc (.cells #[.int .u8 n] t)).drew.cell? ⟨w.heap.size + 1, 0, none⟩ = some (.int .u8 n) := by
  exact cell_of_row _ _ 0 #[.int .u8 n] t (0, 0) (heap_alloc2_new w A _)
theorem size2d (w : World) (A B : Obj) : w.heap.size ≤ ((w.alloc A).alloc B).drew.heap.size := by
  show _ ≤ ((w.alloc A).alloc B).heap.size
  rw [size_alloc2]
  omega
def lenOfV : Value → Nat | .slice _ n _ => n | _ => 0
theorem lenByte (n j : Nat) : ((n : Int) * 8) / 2 ^ (8 * (7 - j)) % 256 = (((UInt8.ofNat (n * 8 / 2 ^ (8 * (7 - j)) % 256)).toNat : Nat) : Int) := by
  have : (UInt8.ofNat (n * 8 / 2 ^ (8 * (7 - j)) % 256)).toNat = n * 8 / 2 ^ (8 * (7 - j)) % 256 := by
    rw [UInt8.toNat_ofNat']
    omega
  rw [this, Int.natCast_emod, Int.natCast_ediv, Int.natCast_mul, Int.natCast_pow]
  rfl
theorem OwnB.shape {w : World} {B : Nat} {v : Value} {l : List UInt8} (h : OwnB w B v l) (m : Nat) (hm : l.length = m) : ∃ g cap, v = .slice (some ⟨g, 0, none⟩) m cap := by
  obtain ⟨g, cap, hv, _⟩ := h
  exact ⟨g, cap, by rw [hv, hm]⟩
theorem OwnB.text {w : World} {B : Nat} {v : Value} {l : List UInt8} (h : OwnB w B v l) : (convert 63 9 v).run Tryd.prog w = .ok (.string ⟨l.toArray⟩) w := by
  obtain ⟨g, cap, rfl, _, _, h1, _⟩ := h
  refine run_convert_bytes_back (P := Tryd.prog) w 63 9 5 ⟨g, 0, none⟩ cap l Tryd.underlying63 Tryd.underlying5 Tryd.underlying9 (fun j hj => ?_)
  have hadd : (⟨g, 0, none⟩ : Addr).add j = ⟨g, j, none⟩ := by unfold Addr.add; split <;> simp_all
  rw [hadd]
  exact h1 j hj
set_option maxHeartbeats 1000000 in
set_option maxRecDepth 100000 in
theorem fill_any (s : ByteArray) (n : Nat) (w : World) (hs : s.size < 64) (hn : n ≤ 140737488355328) :
    Calls Tryd.prog 38 #[.string s, .int .i64 ((n : Nat) : Int)] w fun e w' => e = .returned (.string ⟨(Sha.fill s.data.toList n).toArray⟩) ∧ Below w.heap.size w w' := by
  have hcv := fun w s => run_bytes_of_string (P := Tryd.prog) w 9 63 5 s Tryd.underlying9 Tryd.underlying63 Tryd.underlying5
  obtain ⟨i0, hi, hz0, hz1, hz2⟩ := info_parts Tryd.info5
  go_enter Tryd.func38, Tryd.ntmps38
  go_wp2_with (at_builtin; refine wpList_append_ownB _ rfl (.tmp 9) (.tmp 10) 63 rfl i0 Tryd.underlying63 hi hz0 hz1 hz2 w.heap.size _ s.data.toList rfl (((OwnB.of_string w s _ w.heap.size (Nat.le_refl _)).alloc _).drew) (size2d _ _ _) ⟨w.heap.size + 1, 0, none⟩ 1 128 128 rfl (one_new2 _ _ _ _) rfl (by simp; omega) ?_; intro v1 w1 hown1 hb1)
  have hbw : Below w.heap.size w w1 := (((Below.refl _ _).alloc (Nat.le_refl _) _).alloc (by simp) _).drew.trans hb1
  clear hb1
  go_loopw [5] (fun v wr => ∃ k : Nat, k ≤ Sha.gap s.size ∧ OwnB wr w.heap.size v (Sha.fillZ s.data.toList k) ∧ Below w.heap.size w wr)
    (fun v _ => 200 - lenOfV v)
  case atStart => exact ⟨0, Nat.zero_le _, hown1, hbw⟩
  case round =>
    clear hown1 hbw
    obtain ⟨k, hk, hown, hb⟩ := hrel
    have hlen := Sha.fillZ_len s.data.toList k
    have hsl : s.data.toList.length = s.size := by simp
    have hg63 : Sha.gap s.size < 64 := Nat.mod_lt _ (by omega)
    obtain ⟨m, hm⟩ : ∃ m, m = (Sha.fillZ s.data.toList k).length := ⟨_, rfl⟩
    obtain ⟨g, cap, hv⟩ := hown.shape m hm.symm
    have hm2 : m = s.size + 1 + k := by omega
    have hsz := hb.size
    rename_i v _
    subst hv
    by_cases hlt : k < Sha.gap s.size
    · have ht : ((m : Int) % 64 != 56) = true := by
        have : (s.size + 1 + k) % 64 ≠ 56 := by unfold Sha.gap at hlt hk; omega
        simp; omega
      have HM := hide hm2
      clear hm hlen hsl hm2
      have hm3 : m < 200 := by have := HM.out; omega
      clear hcv
      go_wp2_with (at_builtin; refine wpList_append_ownB _ rfl (.tmp 16) (.tmp 17) 63 rfl i0 Tryd.underlying63 hi hz0 hz1 hz2 w.heap.size _ (Sha.fillZ s.data.toList k) rfl (hown.alloc _) (by simp; omega) ⟨wr.heap.size, 0, none⟩ 1 0 0 rfl (one_new _ _ _) rfl (by rw [Sha.fillZ_len]; simp; omega) ?_; intro v2 w2 hown2 hb2)
      go_roundw
      case rel => exact ⟨k + 1, by omega, hown2, (hb.alloc hsz _).trans hb2⟩
      case measure =>
        obtain ⟨g2, cap2, hv2⟩ := hown2.shape (m + 1) (by simp [Sha.fillZ_len]; have := HM.out; omega)
        rw [hv2]
        simp [lenOfV]
        omega
    · have ht : ((m : Int) % 64 != 56) = false := by
        have : (s.size + 1 + k) % 64 = 56 := by unfold Sha.gap at hlt hk; omega
        simp; omega
      have HK : Hid (k = Sha.gap s.size) := by show k = _; omega
      obtain ⟨F, hF⟩ : ∃ F, F = Sha.fillZ s.data.toList k := ⟨_, rfl⟩
      rw [← hF] at hown
      have hFl : F.length < 128 := by rw [hF]; omega
      have HF := hide hF
      clear hF hm hlen hsl hm2 hcv hlt hk
      go_wp2
      go_loopw [5, 22] (fun v i wr => ∃ j : Nat, j ≤ 8 ∧ i = .int .i64 ((j : Nat) : Int) ∧ OwnB wr w.heap.size v (Sha.fillL F (n * 8) j) ∧ Below w.heap.size w wr)
        (fun _ i _ => 8 - (intOf i).toNat)
      case atStart => exact ⟨0, Nat.zero_le _, rfl, hown, hb⟩
      case round =>
        clear hown hb hsz
        obtain ⟨j, hj, rfl, hown, hb⟩ := hrel
        have hlen := Sha.fillL_len F (n * 8) j
        have hsz := hb.size
        by_cases hjl : j < 8
        · have hval := lenByte n j
          have HVAL := hide hval
          clear hval
          go_wp2_with (at_builtin; refine wpList_append_ownB _ rfl (.tmp 25) (.tmp 32) 63 rfl i0 Tryd.underlying63 hi hz0 hz1 hz2 w.heap.size _ (Sha.fillL F (n * 8) j) rfl (hown.alloc _) (by simp; omega) ⟨wr.heap.size, 0, none⟩ 1 _ _ rfl (one_new _ _ _) HVAL.out (by omega) ?_; intro v2 w2 hown2 hb2)
          go_roundw
          case rel => exact ⟨j + 1, by omega, by go_num, hown2, (hb.alloc hsz _).trans hb2⟩
          case measure => simp [intOf]; omega
        · have HJ : Hid (j = 8) := by show j = 8; omega
          have hcb := hown.text
          rename_i v _
          obtain ⟨g3, cap3, hv3⟩ := hown.shape _ rfl
          have HL : Hid (Sha.fillL F (n * 8) j = Sha.fill s.data.toList n) := by
            show _ = _
            rw [HJ.out, HF.out, HK.out]
            unfold Sha.fill
            rw [show s.data.toList.length = s.size by simp, Nat.mod_eq_of_lt (show n * 8 < 18446744073709551616 by omega)]
          generalize Sha.fillL F (n * 8) j = L at *
          subst hv3
          clear hlen hown
          go_wp2
          go_ret
          exact ⟨by rw [← HL.out]; rfl, hb⟩
end Go.Proofs.YtpgamoielkpakaaDoor
