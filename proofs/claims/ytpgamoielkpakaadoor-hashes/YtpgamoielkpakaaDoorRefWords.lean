/-
  PROVED HERE: what the document's answer's function schedule answers for every block of 64 bytes: the 64 numbers; nothing that was there has turned.
-/
import Derived.Test.YtpgamoielkpakaaDoorRefSched
import Derived.Test.YtpgamoielkpakaaDoorRefOwn
import Derived.Test.YtpgamoielkpakaaDoorRefMixed
namespace Go.Proofs.YtpgamoielkpakaaDoor
open Go.RowKit
theorem byte_at (s : ByteArray) (i : Nat) (h : i < s.size) : (s[i]'h).toNat = Sha.byteAt s.data.toList i := by
  have hg : s.data[i]? = some s.data[i] := Array.getElem?_eq_getElem h
  simp [Sha.byteAt, hg]
  rfl
theorem rem_val (a b c d : Nat) (ha : a < 4294967296) (hb : b < 4294967296) (hc : c < 4294967296) (hd : d < 4294967296) :
    (IntKind.i64.wrap (IntKind.i64.wrap (IntKind.i64.wrap ((a : Int) + (b : Int)) + (c : Int)) + (d : Int))).tmod 4294967296 = (((a + b + c + d) % 4294967296 : Nat) : Int) := by
  have e1 : IntKind.i64.wrap ((a : Int) + (b : Int)) = (a : Int) + (b : Int) := by rw [IntKind.wrap_i64]; omega
  have e2 : IntKind.i64.wrap ((a : Int) + (b : Int) + (c : Int)) = (a : Int) + (b : Int) + (c : Int) := by rw [IntKind.wrap_i64]; omega
  have e3 : IntKind.i64.wrap ((a : Int) + (b : Int) + (c : Int) + (d : Int)) = (a : Int) + (b : Int) + (c : Int) + (d : Int) := by rw [IntKind.wrap_i64]; omega
  rw [e1, e2, e3, Int.tmod_eq_emod_of_nonneg (by omega)]
  omega
theorem oneId (w : World) (n : Int) (t : TypeId) : (w.alloc (.cells #[.int .i64 n] t)).drew.cell? ⟨w.heap.size, 0, none⟩ = some (.int .i64 n) := oneI w n t
theorem size1d (w : World) (A : Obj) {B : Nat} (h : B ≤ w.heap.size) : B ≤ (w.alloc A).drew.heap.size := by
  show _ ≤ (w.alloc A).heap.size
  rw [size_alloc]
  omega
set_option maxHeartbeats 1000000 in
set_option maxRecDepth 100000 in
theorem sched_any (s : ByteArray) (w : World) (hs : s.size = 64) :
    Calls Tryd.prog 23 #[.string s] w fun e w' => ∃ v, e = .returned v ∧ OwnI w' w.heap.size v (Sha.words s.data.toList) ∧ Below w.heap.size w w' := by
  obtain ⟨i0, hi, hz0, hz1, hz2⟩ := info_parts Tryd.info3
  go_enter Tryd.func23, Tryd.ntmps23
  go_wp2
  go_loopw [3, 4] (fun v i wr => ∃ k : Nat, k ≤ 16 ∧ i = .int .i64 ((k : Nat) : Int) ∧ OwnI wr w.heap.size v (Sha.scA s.data.toList k) ∧ Below w.heap.size w wr)
    (fun _ i _ => 16 - (intOf i).toNat)
  case atStart => exact ⟨0, Nat.zero_le _, rfl, OwnI.nil _ _, Below.refl _ _⟩
  case round =>
    obtain ⟨k, hk, rfl, hown, hb⟩ := hrel
    have hsz := hb.size
    by_cases hlt : k < 16
    · have hd : decide ((k : Int) < 16) = true := by simp; omega
      go_wp2
      go_loop [5, 6] (fun n i => ∃ j : Nat, j ≤ 4 ∧ i = .int .i64 ((j : Nat) : Int) ∧ n = .int .i64 ((Sha.nTo s.data.toList k j : Nat) : Int)) (fun _ i => 4 - (intOf i).toNat)
      case atStart => exact ⟨0, Nat.zero_le _, rfl, rfl⟩
      case round =>
        obtain ⟨j, hj, rfl, rfl⟩ := hrel
        by_cases hjl : j < 4
        · have hn := Sha.nTo_lt s.data.toList k j
          have hp : 256 ^ j ≤ 256 ^ 3 := Nat.pow_le_pow_right (by omega) (by omega)
          obtain ⟨m, hm⟩ : ∃ m, m = Sha.nTo s.data.toList k j := ⟨_, rfl⟩
          rw [← hm] at hn ⊢
          have hm2 : m < 16777216 := by omega
          have hlt4 : 4 * k + j < s.size := by omega
          have hby := byte_at s (4 * k + j) hlt4
          have hb8 := UInt8.toNat_lt (s[4 * k + j]'hlt4)
          have HBY := hide hby
          have HM := hide hm
          clear hm hn hp hby
          go_wp2
          go_round
          case rel => exact ⟨j + 1, by omega, by go_num, by rw [Sha.nTo, ← HM.out, ← HBY.out]; go_num⟩
          case measure => simp [intOf]; omega
        · have HJ : Hid (Sha.nTo s.data.toList k j = Sha.wordAt s.data.toList k) := by
            show _ = _
            rw [show j = 4 by omega]
            exact Sha.nTo_four _ _
          go_wp2_with (at_builtin; refine wpList_append_ownI _ rfl (.tmp 28) (.tmp 30) 32 rfl i0 Tryd.underlying32 hi hz0 hz1 hz2 w.heap.size _ (Sha.scA s.data.toList k) rfl (hown.alloc _) (by simp; omega) ⟨wr.heap.size, 0, none⟩ 1 _ _ rfl (oneI _ _ _) (congrArg _ HJ.out) (by rw [Sha.scA_len]; omega) ?_; intro v2 w2 hown2 hb2)
          go_roundw
          case rel => exact ⟨k + 1, by omega, by go_num, hown2, (hb.alloc hsz _).trans hb2⟩
          case measure => simp [intOf]; omega
    · have hown0 : OwnI wr w.heap.size u3 (Sha.scB s.data.toList (16 - 16)) := by
        have : k = 16 := by omega
        subst this
        exact hown
      have hd : decide ((k : Int) < 16) = false := by simp; omega
      go_wp2
      go_loopw [3, 7] (fun v i wr => ∃ j : Nat, 16 ≤ j ∧ j ≤ 64 ∧ i = .int .i64 ((j : Nat) : Int) ∧ OwnI wr w.heap.size v (Sha.scB s.data.toList (j - 16)) ∧ Below w.heap.size w wr)
        (fun _ i _ => 64 - (intOf i).toNat)
      case atStart => exact ⟨16, by omega, by omega, rfl, hown0, hb⟩
      case round =>
        clear hown0 hown hb hsz hlt hk
        obtain ⟨j, hj, hj2, rfl, hown, hb⟩ := hrel
        have hsz := hb.size
        have hlen := Sha.scB_len s.data.toList (j - 16)
        have hlt32 := fun i => Sha.scB_lt s.data.toList (j - 16) i (by omega)
        obtain ⟨L, hL⟩ : ∃ L, L = Sha.scB s.data.toList (j - 16) := ⟨_, rfl⟩
        rw [← hL] at hown hlen hlt32
        have hlen2 : L.length = j := by omega
        have HL := hide hL
        clear hL hlen
        obtain ⟨g, cap, hv, hBg, hgs, hcell⟩ := hown.shape (by omega)
        rw [hlen2] at hv
        subst hv
        by_cases hjl : j < 64
        · have c2 := hcell (j - 2) (by omega)
          have c7 := hcell (j - 7) (by omega)
          have c15 := hcell (j - 15) (by omega)
          have c16 := hcell (j - 16) (by omega)
          have l2 := hlt32 (j - 2)
          have l7 := hlt32 (j - 7)
          have l15 := hlt32 (j - 15)
          have l16 := hlt32 (j - 16)
          obtain ⟨a2, ha2⟩ : ∃ a2, a2 = L.getD (j - 2) 0 := ⟨_, rfl⟩
          obtain ⟨a7, ha7⟩ : ∃ a7, a7 = L.getD (j - 7) 0 := ⟨_, rfl⟩
          obtain ⟨a15, ha15⟩ : ∃ a15, a15 = L.getD (j - 15) 0 := ⟨_, rfl⟩
          obtain ⟨a16, ha16⟩ : ∃ a16, a16 = L.getD (j - 16) 0 := ⟨_, rfl⟩
          rw [← ha2] at c2 l2
          rw [← ha7] at c7 l7
          rw [← ha15] at c15 l15
          rw [← ha16] at c16 l16
          have hs2 := Sha.sm3_lt (a := 17) (b := 19) (c := 10) l2
          have hs15 := Sha.sm3_lt (a := 7) (b := 18) (c := 3) l15
          have HN : Hid (Sha.wNext L j = (Sha.sm3 a2 17 19 10 + a7 + Sha.sm3 a15 7 18 3 + a16) % 4294967296) := by
            show _ = _
            rw [Sha.wNext, ← ha2, ← ha7, ← ha15, ← ha16]
          clear ha2 ha7 ha15 ha16 hcell hlt32
          obtain ⟨s2, hss2⟩ : ∃ s2, s2 = Sha.sm3 a2 17 19 10 := ⟨_, rfl⟩
          obtain ⟨s15, hss15⟩ : ∃ s15, s15 = Sha.sm3 a15 7 18 3 := ⟨_, rfl⟩
          have HM2 : Hid (∀ w, Calls Tryd.prog 40 #[.int .i64 ((a2 : Nat) : Int), .int .i64 17, .int .i64 19, .int .i64 10, .bool true] w fun e w' => e = .returned (.int .i64 ((s2 : Nat) : Int)) ∧ Below w.heap.size w w') := by
            intro w
            rw [hss2]
            exact mixed_small a2 17 19 10 w l2 (by decide) (by decide) (by decide) (by decide) (by decide) (by decide)
          have HM15 : Hid (∀ w, Calls Tryd.prog 40 #[.int .i64 ((a15 : Nat) : Int), .int .i64 7, .int .i64 18, .int .i64 3, .bool true] w fun e w' => e = .returned (.int .i64 ((s15 : Nat) : Int)) ∧ Below w.heap.size w w') := by
            intro w
            rw [hss15]
            exact mixed_small a15 7 18 3 w l15 (by decide) (by decide) (by decide) (by decide) (by decide) (by decide)
          rw [← hss2] at hs2 HN
          rw [← hss15] at hs15 HN
          clear hss2 hss15
          go_wp2_with fail
          refine (HM2.out _).mono ?_
          rintro _ w1 ⟨rfl, hb1⟩
          dsimp only
          have hown1 := hown.kept hb1
          have d15 := (bcell hb1).1 g (j - 15) hgs
          rw [c15] at d15
          go_wp2_with fail
          refine (HM15.out _).mono ?_
          rintro _ w2 ⟨rfl, hb2⟩
          dsimp only
          have hs1 := hb1.size
          have hs2' := hb2.size
          have hown2 := hown1.kept hb2
          have e7 : w2.cell? ⟨g, j - 7, none⟩ = some (.int .i64 ((a7 : Nat) : Int)) := ((bcell hb2).1 g (j - 7) (by omega)).trans (((bcell hb1).1 g (j - 7) hgs).trans c7)
          have e16 : w2.cell? ⟨g, j - 16, none⟩ = some (.int .i64 ((a16 : Nat) : Int)) := ((bcell hb2).1 g (j - 16) (by omega)).trans (((bcell hb1).1 g (j - 16) hgs).trans c16)
          have hbw2 : Below w.heap.size w w2 := hb.trans ((hb1.mono hsz).trans (hb2.mono (by omega)))
          clear hb1 hb2 c2 c7 c15 c16 d15 hown hown1 hb
          have g7 : (7 : Int) ≤ (j : Int) := by omega
          have g16 : (16 : Int) ≤ (j : Int) := by omega
          have k7 : (j : Int) - 7 < (j : Int) := by omega
          have k16 : (j : Int) - 16 < (j : Int) := by omega
          have q7 : IntKind.i64.wrap ((j : Int) - 7) = (j : Int) - 7 := by rw [IntKind.wrap_i64]; omega
          have q16 : IntKind.i64.wrap ((j : Int) - 16) = (j : Int) - 16 := by rw [IntKind.wrap_i64]; omega
          have n7 : ((j : Int) - 7).toNat = j - 7 := by omega
          have n16 : ((j : Int) - 16).toNat = j - 16 := by omega
          go_wp2_with fail
          go_region_law ((refine step_append_ownI _ rfl (.tmp 48) (.tmp 65) 32 rfl i0 Tryd.underlying32 hi hz0 hz1 hz2 w.heap.size _ L rfl ((hown2.alloc _).drew) (size1d _ _ (by omega)) ⟨w2.heap.size, 0, none⟩ 1 _ _ rfl (oneId _ _ _) (rem_val s2 a7 s15 a16 hs2 l7 hs15 l16) (by omega) ?_; intro v3 w3 hown3 hb3))
          all_goals
            go_wp2
            go_roundw
            case rel =>
              refine ⟨j + 1, by omega, by omega, by go_num, ?_, ((hbw2.alloc (by omega) _).drew).trans hb3⟩
              have e1 : Sha.scB s.data.toList (j + 1 - 16) = L ++ [(s2 + a7 + s15 + a16) % 4294967296] := by
                rw [show j + 1 - 16 = (j - 16) + 1 by omega, Sha.scB, ← HL.out, show j - 16 + 16 = j by omega, HN.out]
              rw [e1]
              exact hown3
            case measure => simp [intOf]; omega
        · have HJ : Hid (L = Sha.words s.data.toList) := by
            show L = _
            rw [HL.out, show j - 16 = 48 by omega]
            exact Sha.scB_words _
          clear hcell hlt32
          go_wp2
          go_ret
          exact ⟨_, rfl, by rw [← HJ.out]; exact hown, hb⟩
end Go.Proofs.YtpgamoielkpakaaDoor
