/-
  PROVED HERE: what the small functions on letters answer for every byte and every string: isDigit, isSmallOrDigit, isSize of the program; isDigest of the document's answer; nothing turns.
-/
import Derived.Test.YtpgamoielkpakaaTagRows
import Derived.Test.YtpgamoielkpakaaShelf
import Derived.Test.YtpgamoielkpakaaDigOk
namespace Go.Proofs.Ytpgamoielkpakaa
open Go.RowKit

theorem all_iff (s : ByteArray) (p : UInt8 → Bool) : s.data.toList.all p = true ↔ ∀ i (h : i < s.size), p s[i] = true := by
  rw [List.all_eq_true]
  constructor
  · intro h i hi
    exact h _ (Array.mem_toList_iff.2 (Array.getElem_mem (xs := s.data) hi))
  · intro h x hx
    obtain ⟨i, hi, rfl⟩ := List.getElem_of_mem hx
    exact h i (by simpa using hi)

set_option maxRecDepth 100000 in
theorem isDigit_any (c : Nat) (w : World) : Calls Try.prog 42 #[.int .u8 ((c : Nat) : Int)] w fun e w' => e = .returned (.bool (digB c)) ∧ w' = w := by
  obtain ⟨r, hr⟩ : ∃ r, r = digB c := ⟨_, rfl⟩
  rw [← hr]
  unfold digB at hr
  have hc : ((c : Int) < 48 ∧ r = false) ∨ (48 ≤ (c : Int) ∧ (c : Int) ≤ 57 ∧ r = true) ∨ (57 < (c : Int) ∧ r = false) := by
    rw [hr]; simp; omega
  clear hr
  rcases hc with ⟨h, rfl⟩ | ⟨h, h', rfl⟩ | ⟨h, rfl⟩
  all_goals
    go_enter Try.func42, Try.ntmps42
    go_wp2
    go_ret
    simp [h]
  all_goals omega
set_option maxRecDepth 100000 in
theorem isSmallOrDigit_any (c : Nat) (w : World) : Calls Try.prog 62 #[.int .u8 ((c : Nat) : Int)] w fun e w' => e = .returned (.bool (plainB c)) ∧ w' = w := by
  obtain ⟨r, hr⟩ : ∃ r, r = plainB c := ⟨_, rfl⟩
  rw [← hr]
  unfold plainB at hr
  have hc : ((c : Int) < 97 ∧ r = digB c) ∨ (97 ≤ (c : Int) ∧ (c : Int) ≤ 122 ∧ r = true) ∨ (122 < (c : Int) ∧ r = digB c) := by
    rw [hr]
    rcases (show c < 97 ∨ (97 ≤ c ∧ c ≤ 122) ∨ 122 < c by omega) with h | ⟨h, h'⟩ | h
    · left; refine ⟨by omega, ?_⟩; simp [show ¬ 97 ≤ c by omega]
    · right; left; refine ⟨by omega, by omega, ?_⟩; simp [h, h']
    · right; right; refine ⟨by omega, ?_⟩; simp [show ¬ c ≤ 122 by omega]
  clear hr
  rcases hc with ⟨h, rfl⟩ | ⟨h, h', rfl⟩ | ⟨h, rfl⟩
  all_goals
    go_enter Try.func62, Try.ntmps62
    go_wp2_with (go_at_call 42; refine (isDigit_any _ _).mono ?_; rintro e w' ⟨rfl, rfl⟩)
    go_ret
    simp
  omega
set_option maxRecDepth 100000 in
theorem isSize_any (n : Int) (w : World) : Calls Try.prog 60 #[.int .i64 n] w fun e w' => e = .returned (.bool (decide (0 ≤ n) && decide (n ≤ 300))) ∧ w' = w := by
  rcases (show n < 0 ∨ (0 ≤ n ∧ n ≤ 300) ∨ 300 < n by omega) with h | ⟨h, h'⟩ | h
  all_goals
    go_enter Try.func60, Try.ntmps60
    go_wp2
    go_ret
    simp
  all_goals omega

set_option maxHeartbeats 1000000 in
set_option maxRecDepth 100000 in
theorem isDigest_any (s : ByteArray) (w : World) (hs : s.size ≤ 9223372036854775807) : Calls Try.prog 47 #[.string s] w fun e w' => e = .returned (.bool (isDigB s)) ∧ w' = w := by
  obtain ⟨r, hr⟩ : ∃ r, r = isDigB s := ⟨_, rfl⟩
  rw [← hr]
  have HR := hide hr
  clear hr
  go_enter Try.func47, Try.ntmps47
  go_wp2
  go_loop [3] (fun i => ∃ k : Nat, k ≤ s.size ∧ i = .int .i64 ((k : Nat) : Int) ∧ ∀ j (h : j < s.size), j < k → hexB (s[j]).toNat = true) (fun i => s.size - (intOf i).toNat)
  case atStart => exact ⟨0, by omega, rfl, fun j _ hj => by omega⟩
  case round =>
    obtain ⟨k, hk, rfl, hall⟩ := hrel
    have HA := hide hall
    clear hall
    by_cases hlt : k < s.size
    · obtain ⟨x, hx⟩ : ∃ x : Nat, x = (s[k]'hlt).toNat := ⟨_, rfl⟩
      have hx2 : ((s[k]'hlt).toNat : Int) = (x : Int) := by rw [hx]
      have HX := hide hx
      clear hx
      have hc : ((¬ 48 ≤ (x : Int) ∧ (x : Int) ≤ 57 ∧ ¬ 97 ≤ (x : Int) ∧ (x : Int) ≤ 102) ∨ (48 ≤ (x : Int) ∧ ¬ (x : Int) ≤ 57 ∧ ¬ 97 ≤ (x : Int) ∧ (x : Int) ≤ 102) ∨ (48 ≤ (x : Int) ∧ ¬ (x : Int) ≤ 57 ∧ 97 ≤ (x : Int) ∧ ¬ (x : Int) ≤ 102)) ∨ ((48 ≤ (x : Int) ∧ (x : Int) ≤ 57 ∧ ¬ 97 ≤ (x : Int) ∧ (x : Int) ≤ 102) ∨ (48 ≤ (x : Int) ∧ ¬ (x : Int) ≤ 57 ∧ 97 ≤ (x : Int) ∧ (x : Int) ≤ 102)) := by omega
      rcases hc with hc | hc
      · have hbad : isDigB s = false := by
          unfold isDigB
          cases hq : s.data.toList.all (fun c => hexB c.toNat) with
          | false => simp
          | true =>
            exfalso
            have := (all_iff s _).1 hq k hlt
            rw [← HX.out] at this
            simp [hexB, digB] at this
            omega
        have HBad := hide hbad
        clear hbad
        rcases hc with ⟨c1, c2, c3, c4⟩ | ⟨c1, c2, c3, c4⟩ | ⟨c1, c2, c3, c4⟩
        all_goals go_wp2
        all_goals
          go_ret
          refine ⟨?_, rfl⟩
          rw [HR.out, HBad.out]
          rfl
      · have hgood : hexB x = true := by simp [hexB, digB]; omega
        have HG := hide hgood
        clear hgood
        rcases hc with ⟨c1, c2, c3, c4⟩ | ⟨c1, c2, c3, c4⟩
        all_goals go_wp2
        all_goals
          go_round
          case rel =>
            refine ⟨k + 1, by omega, by go_num, fun j h hj => ?_⟩
            by_cases e : j = k
            · subst e
              rw [← HX.out]
              exact HG.out
            · exact HA.out j h (by omega)
          case measure => simp [intOf]; omega
    · go_wp2
      go_ret
      refine ⟨?_, rfl⟩
      rw [HR.out]
      have hq : s.data.toList.all (fun c => hexB c.toNat) = true := (all_iff s _).2 fun j h => HA.out j h (by omega)
      unfold isDigB
      rw [hq, Bool.and_true]
      by_cases h64 : s.size = 64
      · simp [h64]
      · have : ((s.size : Int) == 64) = false := by simp; omega
        simp [h64, this]
end Go.Proofs.Ytpgamoielkpakaa
