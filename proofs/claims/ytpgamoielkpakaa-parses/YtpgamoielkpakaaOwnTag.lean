/-
  PROVED HERE: what isTag of the program's package index answers for every string; nothing turns.
-/
import Derived.Test.YtpgamoielkpakaaLetters
namespace Go.Proofs.Ytpgamoielkpakaa
open Go.RowKit

theorem sign_index (x : Nat) (hx : x < 256) : decide (Lib.indexByte [46, 95, 45] ((x : Int).toNat.toUInt8) < 0) = !signB x := by
  have h : ∀ n, n < 256 → decide (Lib.indexByte [46, 95, 45] (Nat.toUInt8 n) < 0) = !signB n := by decide +kernel
  rw [show ((x : Int).toNat) = x by omega]
  exact h x hx
theorem toNat_lt_256 (c : UInt8) : c.toNat < 256 := c.toNat_lt

set_option maxHeartbeats 2000000 in
set_option maxRecDepth 100000 in
theorem ownTag_any (s : ByteArray) (w : World) (hs : s.size ≤ 9223372036854775807) : Calls Try.prog 58 #[.string s] w fun e w' => e = .returned (.bool (isTagB s)) ∧ w' = w := by
  obtain ⟨r, hr⟩ : ∃ r, r = isTagB s := ⟨_, rfl⟩
  rw [← hr]
  have HR := hide hr
  clear hr
  by_cases h1 : 1 ≤ s.size
  · by_cases h20 : s.size ≤ 20
    · have c1 : ¬ (s.size : Int) < 1 := by omega
      have c2 : ¬ 20 < (s.size : Int) := by omega
      have c3 : (s.size : Int) ≤ 20 := by omega
      have c4 : 1 ≤ (s.size : Int) := by omega
      have c5 : 0 < s.size := by omega
      obtain ⟨x0, hx0⟩ : ∃ x : Nat, x = (s[0]'c5).toNat := ⟨_, rfl⟩
      have hy0 : ((s[0]'c5).toNat : Int) = (x0 : Int) := by rw [hx0]
      have hz0 : plainB (s.data.toList.getD 0 0).toNat = plainB x0 := by
        rw [hx0]
        have h1 : 0 < s.data.size := c5
        rw [List.getD_eq_getElem?_getD, Array.getElem?_toList, Array.getElem?_eq_getElem h1]
        rfl
      have HZ := hide hz0
      clear hx0 hz0
      cases hp0 : plainB x0 with
      | false =>
        go_enter Try.func58, Try.ntmps58
        go_wp2_with (go_at_call 62; refine (isSmallOrDigit_any _ _).mono ?_; rintro e w' ⟨rfl, rfl⟩)
        go_ret
        refine ⟨?_, rfl⟩
        rw [HR.out]
        unfold isTagB
        rw [HZ.out, hp0]
        simp
      | true =>
        have HP0 := hide hp0
        go_enter Try.func58, Try.ntmps58
        go_wp2_with (go_at_call 62; refine (isSmallOrDigit_any _ _).mono ?_; rintro e w' ⟨rfl, rfl⟩)
        go_loop [20] (fun i => ∃ k : Nat, k ≤ s.size ∧ i = .int .i64 ((k : Nat) : Int) ∧ ∀ j (h : j < s.size), j < k → (plainB (s[j]).toNat || signB (s[j]).toNat) = true) (fun i => s.size - (intOf i).toNat)
        case atStart => exact ⟨0, by omega, rfl, fun j _ hj => by omega⟩
        case round =>
          obtain ⟨k, hk, rfl, hall⟩ := hrel
          have HA := hide hall
          clear hall hy0 hp0
          by_cases hlt : k < s.size
          · obtain ⟨x, hx⟩ : ∃ x : Nat, x = (s[k]'hlt).toNat := ⟨_, rfl⟩
            have hx2 : ((s[k]'hlt).toNat : Int) = (x : Int) := by rw [hx]
            have hi := sign_index x (by rw [hx]; exact toNat_lt_256 _)
            have HX := hide hx
            clear hx
            obtain ⟨ix, hix⟩ : ∃ ix, ix = Lib.indexByte [46, 95, 45] ((x : Int).toNat.toUInt8) := ⟨_, rfl⟩
            rw [← hix] at hi
            have hcall : ∀ w, Calls Try.prog 41 #[.string ⟨#[46, 95, 45]⟩, .int .u8 (x : Int)] w fun e w' => e = .returned (.int .i64 ix) ∧ w' = w := fun w => by
              have := Try.strings_IndexByte ⟨#[46, 95, 45]⟩ (x : Int) w
              rw [hix]
              exact this
            have HC := hide hcall
            clear hcall hix
            cases hp : plainB x with
            | true =>
              have HP := hide hp
              go_wp2_with (go_at_call 62; refine (isSmallOrDigit_any _ _).mono ?_; rintro e w' ⟨rfl, rfl⟩)
              go_round
              case rel =>
                refine ⟨k + 1, by omega, by go_num, fun j h hj => ?_⟩
                by_cases e : j = k
                · subst e
                  rw [← HX.out, HP.out]
                  rfl
                · exact HA.out j h (by omega)
              case measure => simp [intOf]; omega
            | false =>
              have HP := hide hp
              cases hsg : signB x with
              | true =>
                have HS := hide hsg
                rw [hsg] at hi
                have hi2 : ¬ ix < 0 := by simpa using hi
                clear hi
                go_wp2_with (first | (go_at_call 62; refine (isSmallOrDigit_any _ _).mono ?_; rintro e w' ⟨rfl, rfl⟩) | (go_at_call 41; refine (HC.out _).mono ?_; rintro e w' ⟨rfl, rfl⟩))
                go_round
                case rel =>
                  refine ⟨k + 1, by omega, by go_num, fun j h hj => ?_⟩
                  by_cases e : j = k
                  · subst e
                    rw [← HX.out, HS.out, Bool.or_true]
                  · exact HA.out j h (by omega)
                case measure => simp [intOf]; omega
              | false =>
                have HS := hide hsg
                rw [hsg] at hi
                have hi2 : ix < 0 := by simpa using hi
                clear hi
                go_wp2_with (first | (go_at_call 62; refine (isSmallOrDigit_any _ _).mono ?_; rintro e w' ⟨rfl, rfl⟩) | (go_at_call 41; refine (HC.out _).mono ?_; rintro e w' ⟨rfl, rfl⟩))
                go_ret
                refine ⟨?_, rfl⟩
                rw [HR.out]
                have : s.data.toList.all (fun c => plainB c.toNat || signB c.toNat) = false := by
                  cases hq : s.data.toList.all (fun c => plainB c.toNat || signB c.toNat) with
                  | false => rfl
                  | true =>
                    have := (all_iff s _).1 hq k hlt
                    simp only [← HX.out, HP.out, HS.out] at this
                    cases this
                unfold isTagB
                rw [this, Bool.and_false]
                rfl
          · go_wp2
            go_ret
            refine ⟨?_, rfl⟩
            rw [HR.out]
            have : s.data.toList.all (fun c => plainB c.toNat || signB c.toNat) = true := (all_iff s _).2 fun j h => HA.out j h (by omega)
            unfold isTagB
            rw [this, HZ.out, HP0.out]
            simp [h1, h20]
    · have c1 : ¬ (s.size : Int) < 1 := by omega
      have c2 : 20 < (s.size : Int) := by omega
      go_enter Try.func58, Try.ntmps58
      go_wp2
      go_ret
      refine ⟨?_, rfl⟩
      rw [HR.out]
      simp [isTagB, h20]
  · have c1 : (s.size : Int) < 1 := by omega
    go_enter Try.func58, Try.ntmps58
    go_wp2
    go_ret
    refine ⟨?_, rfl⟩
    rw [HR.out]
    simp [isTagB, h1]
end Go.Proofs.Ytpgamoielkpakaa
