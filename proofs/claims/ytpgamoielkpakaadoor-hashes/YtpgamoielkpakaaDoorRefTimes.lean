/-
  PROVED HERE: what the document's answer's function times answers for digits of 16 bits and a number below 2 to the 40: nothing that was there has turned.
-/
import Derived.Test.YtpgamoielkpakaaDoorRefRoot
import Derived.Test.YtpgamoielkpakaaDoorRefOwn
namespace Go.Proofs.YtpgamoielkpakaaDoor
open Go.RowKit
set_option maxHeartbeats 1000000 in
set_option maxRecDepth 100000 in
theorem times_any (p : List Nat) (t g cap : Nat) (w : World) (h0 : 0 < p.length) (hl : p.length < 1000) (hp : ∀ j, p.getD j 0 < 65536) (ht : t < 1099511627776) (hg : g < w.heap.size)
    (hc : ∀ j, j < p.length → w.cell? ⟨g, j, none⟩ = some (.int .i64 ((p.getD j 0 : Nat) : Int))) :
    Calls Tryd.prog 58 #[.slice (some ⟨g, 0, none⟩) p.length cap, .int .i64 ((t : Nat) : Int)] w fun e w' => ∃ v, e = .returned v ∧ OwnI w' w.heap.size v (Sha.timesL p t) ∧ Below w.heap.size w w' := by
  obtain ⟨i0, hi, hz0, hz1, hz2⟩ := info_parts Tryd.info3
  have HC := hide hc
  have HP := hide hp
  clear hc hp
  go_enter Tryd.func58, Tryd.ntmps58
  go_wp2
  go_loopw [5, 6, 7] (fun v c i wr => ∃ k : Nat, k ≤ p.length ∧ i = .int .i64 ((k : Nat) : Int) ∧ c = .int .i64 ((Sha.tmCar p t k : Nat) : Int) ∧ OwnI wr w.heap.size v (Sha.tmOut p t k) ∧ Below w.heap.size w wr)
    (fun _ _ i _ => p.length - (intOf i).toNat)
  case atStart => exact ⟨0, Nat.zero_le _, rfl, rfl, OwnI.nil _ _, Below.refl _ _⟩
  case round =>
    obtain ⟨k, hk, rfl, rfl, hown, hb⟩ := hrel
    have hsz := hb.size
    have hcar := Sha.tmCar_le p t HP.out k
    obtain ⟨c, hcc⟩ : ∃ c, c = Sha.tmCar p t k := ⟨_, rfl⟩
    rw [← hcc] at hcar ⊢
    by_cases hlt : k < p.length
    · have hck := ((bcell hb).1 g k hg).trans (HC.out k hlt)
      have hpk := HP.out k
      obtain ⟨x, hx⟩ : ∃ x, x = p.getD k 0 := ⟨_, rfl⟩
      rw [← hx] at hck hpk
      have hmul : x * t ≤ 65535 * t := Nat.mul_le_mul_right t (by omega)
      have HV : Hid (Sha.tmOut p t (k + 1) = Sha.tmOut p t k ++ [(x * t + c) % 65536] ∧ Sha.tmCar p t (k + 1) = (x * t + c) / 65536) := by
        show _ ∧ _
        rw [Sha.tmOut, Sha.tmCar, ← hx, ← hcc]
        exact ⟨rfl, rfl⟩
      obtain ⟨y, hy⟩ : ∃ y, y = x * t := ⟨_, rfl⟩
      have ry : (x : Int) * (t : Int) = (y : Int) := by rw [hy, Int.natCast_mul]
      rw [← hy] at hmul HV
      have hy2 : y ≤ 72056494526300160 := by omega
      clear hx hcc hy hmul
      go_wp2_with (at_builtin; refine wpList_append_ownI _ rfl (.tmp 23) (.tmp 26) 32 rfl i0 Tryd.underlying32 hi hz0 hz1 hz2 w.heap.size _ (Sha.tmOut p t k) rfl (hown.alloc _) (by simp; omega) ⟨wr.heap.size, 0, none⟩ 1 _ ((y + c) % 65536) rfl (oneI _ _ _) (by omega) (by rw [Sha.tmOut_len]; omega) ?_; intro v2 w2 hown2 hb2)
      go_wp2
      go_roundw
      case rel => exact ⟨k + 1, by omega, by go_num, by rw [HV.out.2]; go_num, by rw [HV.out.1]; exact hown2, (hb.alloc hsz _).trans hb2⟩
      case measure => simp [intOf]; omega
    · have HF : Hid (Sha.timesL p t = Sha.tmFin 4 (Sha.tmOut p t k) c) := by
        show _ = _
        have : k = p.length := by omega
        rw [hcc, this]
        rfl
      obtain ⟨o, ho⟩ : ∃ o, o = Sha.tmOut p t k := ⟨_, rfl⟩
      have hol : o.length < 1000 := by rw [ho, Sha.tmOut_len]; omega
      rw [← ho] at hown HF
      clear ho hcc HC HP
      go_wp2
      go_loopw [5, 6] (fun v i wr => ∃ (n c : Nat) (o : List Nat), n ≤ 4 ∧ i = .int .i64 ((c : Nat) : Int) ∧ c < 65536 ^ n ∧ c < 1099511627776 ∧ o.length + n < 2000 ∧ Sha.timesL p t = Sha.tmFin n o c ∧ OwnI wr w.heap.size v o ∧ Below w.heap.size w wr)
        (fun _ i _ => (intOf i).toNat)
      case atStart => exact ⟨4, c, o, by omega, rfl, by omega, by omega, by omega, HF.out, hown, hb⟩
      case round =>
        clear hown hb hsz HF hcar
        obtain ⟨n, c, o, hn, rfl, hc, hc40, hol2, hF, hown, hb⟩ := hrel
        have hsz := hb.size
        by_cases h0c : 0 < c
        · obtain ⟨m, rfl⟩ : ∃ m, n = m + 1 := ⟨n - 1, by cases n with
            | zero => simp at hc; omega
            | succ n => rfl⟩
          have hF2 : Sha.timesL p t = Sha.tmFin m (o ++ [c % 65536]) (c / 65536) := by
            rw [hF, Sha.tmFin, if_neg (by omega)]
          have hdc : c / 65536 < 65536 ^ m := Nat.div_lt_of_lt_mul (by rw [Nat.pow_succ, Nat.mul_comm] at hc; exact hc)
          have HF2 := hide hF2
          have HDC := hide hdc
          clear hF hF2 hc hdc
          go_wp2_with (at_builtin; refine wpList_append_ownI _ rfl (.tmp 32) (.tmp 35) 32 rfl i0 Tryd.underlying32 hi hz0 hz1 hz2 w.heap.size _ o rfl (hown.alloc _) (by simp; omega) ⟨wr.heap.size, 0, none⟩ 1 _ (c % 65536) rfl (oneI _ _ _) (by omega) (by omega) ?_; intro v2 w2 hown2 hb2)
          go_wp2
          go_roundw
          case rel => exact ⟨m, c / 65536, o ++ [c % 65536], by omega, by go_num, HDC.out, by omega, by simp; omega, HF2.out, hown2, (hb.alloc hsz _).trans hb2⟩
          case measure => simp [intOf]; omega
        · have hc0 : c = 0 := by omega
          have hFo : Sha.timesL p t = o := by
            rw [hF, hc0]
            cases n <;> simp [Sha.tmFin]
          have HFo := hide hFo
          clear hF hFo hc hc0
          go_wp2
          go_ret
          exact ⟨_, rfl, by rw [HFo.out]; exact hown, hb⟩
end Go.Proofs.YtpgamoielkpakaaDoor
