/-
  PROVED HERE: what the document's answer's function root answers for square and cube roots of small numbers: nothing that was there has turned.
-/
import Derived.Test.YtpgamoielkpakaaDoorRefMost
namespace Go.Proofs.YtpgamoielkpakaaDoor
open Go.RowKit
set_option maxHeartbeats 1000000 in
set_option maxRecDepth 100000 in
theorem root_core (n k R : Nat) (w : World) (hk0 : 0 < k) (hk : k ≤ 3) (hn : n < 65536) (hR : ∀ j, j = 37 → ∀ r, r = Sha.rootTo n k j → R = r % 4294967296) :
    Calls Tryd.prog 20 #[.int .i64 ((n : Nat) : Int), .int .i64 ((k : Nat) : Int)] w fun e w' => e = .returned (.int .i64 ((R : Nat) : Int)) ∧ Below w.heap.size w w' := by
  have HRR := hide hR
  clear hR
  go_enter Tryd.func20, Tryd.ntmps20
  go_wp2
  go_loopw [5, 6] (fun r i wr => ∃ j : Nat, j ≤ 37 ∧ i = .int .i64 (36 - (j : Int)) ∧ r = .int .i64 ((Sha.rootTo n k j : Nat) : Int) ∧ Below w.heap.size w wr)
    (fun _ i _ => (intOf i + 1).toNat)
  case atStart => exact ⟨0, by omega, rfl, rfl, Below.refl _ _⟩
  case round =>
    obtain ⟨j, hj, rfl, rfl, hb⟩ := hrel
    have hlt := Sha.rootTo_lt n k j hj
    have hsz := hb.size
    obtain ⟨r, hr⟩ : ∃ r, r = Sha.rootTo n k j := ⟨_, rfl⟩
    rw [← hr] at hlt ⊢
    by_cases hjl : j < 37
    · obtain ⟨m, hm⟩ : ∃ m, m = 2 ^ (36 - j) := ⟨_, rfl⟩
      rw [show 37 - j = (36 - j) + 1 by omega, Nat.pow_succ, ← hm] at hlt
      have hrm : r + 2 * m ≤ 137438953472 := by omega
      obtain ⟨T, hT⟩ : ∃ T, T = r + m := ⟨_, rfl⟩
      have hTl : T < 1099511627776 := by omega
      have HTT : Hid ((T : Int) = (r : Int) + (m : Int)) := by show _ = _; omega
      have HC : Hid (∀ w, Calls Tryd.prog 39 #[.int .i64 ((r : Int) + (m : Int)), .int .i64 ((k : Nat) : Int), .int .i64 ((n : Nat) : Int)] w fun e w' => e = .returned (.bool (Sha.atMostL T k n)) ∧ Below w.heap.size w w') := by
        intro w
        rw [← HTT.out]
        exact atMost_any T k n w hTl hk0 hk hn
      have hsh : wrap64 ((2 : Int) ^ (36 - j)) = (m : Int) := by
        have e : (2 : Int) ^ (36 - j) = (m : Int) := by rw [hm, Int.natCast_pow]; rfl
        rw [e]
        exact IntWalk.wrap64_in _ ⟨by omega, by omega⟩
      have HV : Hid (∀ P : Nat → Prop, P (if Sha.atMostL T k n then T else r) → P (Sha.rootTo n k (j + 1))) := by
        intro P hP
        rw [Sha.rootTo, ← hr, ← hm, ← hT]
        exact hP
      have hd : decide ((j : Int) ≤ 36) = true := by simp; omega
      clear hm hr hlt hT
      generalize Sha.atMostL T k n = bb at HC HV
      go_wp2_with fail
      refine (HC.out _).mono ?_
      rintro _ w2 ⟨rfl, hb2⟩
      dsimp only
      cases bb
      · clear hsh HC
        go_wp2
        go_roundw
        case rel => exact ⟨j + 1, by omega, by go_num, HV.out (fun x => Value.int .i64 ((r : Nat) : Int) = .int .i64 ((x : Nat) : Int)) rfl, hb.trans (hb2.mono hsz)⟩
        case measure => simp [intOf]; omega
      · clear hsh HC
        go_wp2
        go_roundw
        case rel => exact ⟨j + 1, by omega, by go_num, HV.out (fun x => Value.int .i64 ((r : Int) + (m : Int)) = .int .i64 ((x : Nat) : Int)) (by rw [← HTT.out]; rfl), hb.trans (hb2.mono hsz)⟩
        case measure => simp [intOf]; omega
    · have HR : Hid (R = r % 4294967296) := HRR.out j (by omega) r hr
      clear hr HRR
      go_wp2
      go_ret
      exact ⟨by rw [HR.out]; exact ret_int (by omega), hb⟩
theorem root_any (n k : Nat) (w : World) (hk0 : 0 < k) (hk : k ≤ 3) (hn : n < 65536) :
    Calls Tryd.prog 20 #[.int .i64 ((n : Nat) : Int), .int .i64 ((k : Nat) : Int)] w fun e w' => e = .returned (.int .i64 ((Sha.rootL n k : Nat) : Int)) ∧ Below w.heap.size w w' :=
  root_core n k (Sha.rootL n k) w hk0 hk hn (fun j hj r hr => by subst hj; subst hr; rfl)
end Go.Proofs.YtpgamoielkpakaaDoor
