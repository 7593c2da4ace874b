/-
  PROVED HERE: what isTag of the document's answer answers for every string; nothing turns.
-/
import Derived.Test.YtpgamoielkpakaaLetters
namespace Go.Proofs.Ytpgamoielkpakaa
open Go.RowKit

/-- A byte that may stand at place k of a tag. -/
def okB (k c : Nat) : Bool := plainB c || (decide (0 < k) && signB c)
theorem isTagB_iff (s : ByteArray) : isTagB s = (decide (1 ≤ s.size) && decide (s.size ≤ 20) && decide (∀ i (h : i < s.size), okB i s[i].toNat = true)) := by
  unfold isTagB
  by_cases h0 : 1 ≤ s.size
  · have e0 : s.data.toList.getD 0 0 = s[0]'(by omega) := by
      have h1 : 0 < s.data.size := h0
      show s.data.toList.getD 0 0 = s.data[0]
      rw [List.getD_eq_getElem?_getD, Array.getElem?_toList, Array.getElem?_eq_getElem h1]
      rfl
    rw [e0]
    by_cases h20 : s.size ≤ 20
    · simp only [h0, h20, decide_true, Bool.true_and]
      rw [Bool.eq_iff_iff, Bool.and_eq_true, all_iff, decide_eq_true_iff]
      constructor
      · rintro ⟨p, q⟩ i hi
        by_cases hz : i = 0
        · subst hz; unfold okB; rw [p]; rfl
        · have := q i hi
          unfold okB
          simp only [Bool.or_eq_true] at this ⊢
          rcases this with t | t
          · exact Or.inl t
          · right; simp [t]; omega
      · intro q
        refine ⟨by simpa [okB] using q 0 (by omega), fun i hi => ?_⟩
        have := q i hi
        unfold okB at this
        simp only [Bool.or_eq_true, Bool.and_eq_true] at this ⊢
        rcases this with t | t
        · exact Or.inl t
        · exact Or.inr t.2
    · simp [h20]
  · simp [h0]

set_option maxHeartbeats 2000000 in
set_option maxRecDepth 100000 in
theorem refTag_any (s : ByteArray) (w : World) (hs : s.size ≤ 9223372036854775807) : Calls Try.prog 46 #[.string s] w fun e w' => e = .returned (.bool (isTagB s)) ∧ w' = w := by
  obtain ⟨r, hr⟩ : ∃ r, r = isTagB s := ⟨_, rfl⟩
  rw [← hr]
  rw [isTagB_iff] at hr
  have HR := hide hr
  clear hr
  go_enter Try.func46, Try.ntmps46
  go_wp2
  go_loop [3] (fun i => ∃ k : Nat, k ≤ s.size ∧ i = .int .i64 ((k : Nat) : Int) ∧ ∀ j (h : j < s.size), j < k → okB j (s[j]).toNat = true) (fun i => s.size - (intOf i).toNat)
  case atStart => exact ⟨0, by omega, rfl, fun j _ hj => by omega⟩
  case round =>
    obtain ⟨k, hk, rfl, hall⟩ := hrel
    have HA := hide hall
    clear hall
    by_cases hlt : k < s.size
    · obtain ⟨x, hx⟩ : ∃ x : Nat, x = (s[k]'hlt).toNat := ⟨_, rfl⟩
      have hx2 : ((s[k]'hlt).toNat : Int) = (x : Int) := by rw [hx]
      have HX := hide hx
      clear hx
      cases hok : okB k x with
      | false =>
        have hbad : decide (∀ i (h : i < s.size), okB i s[i].toNat = true) = false := by
          rw [decide_eq_false_iff_not]
          intro h
          have := h k hlt
          rw [← HX.out, hok] at this
          cases this
        have HBad := hide hbad
        clear hbad
        have hc : (¬ 48 ≤ (x : Int) ∨ (48 ≤ (x : Int) ∧ ¬ (x : Int) ≤ 57 ∧ ¬ 97 ≤ (x : Int)) ∨ (48 ≤ (x : Int) ∧ ¬ (x : Int) ≤ 57 ∧ 97 ≤ (x : Int) ∧ ¬ (x : Int) ≤ 122)) ∧ (k = 0 ∨ (0 < (k : Int) ∧ ((x : Int) == 46) = false ∧ ((x : Int) == 95) = false ∧ ((x : Int) == 45) = false)) := by
          simp [okB, plainB, signB, digB] at hok
          constructor
          · omega
          · by_cases hk0 : k = 0
            · exact Or.inl hk0
            · right
              have := hok.2 (by omega)
              refine ⟨by omega, ?_, ?_, ?_⟩ <;> simp <;> omega
        have HOK := hide hok
        clear hok
        obtain ⟨hc, hk0⟩ := hc
        rcases hk0 with rfl | ⟨k1, e1, e2, e3⟩
        all_goals rcases hc with c1 | ⟨c1, c2, c3⟩ | ⟨c1, c2, c3, c4⟩
        all_goals go_wp2
        all_goals first | (exfalso; omega) | skip
        all_goals
          go_ret
          refine ⟨?_, rfl⟩
          rw [HR.out, HBad.out, Bool.and_false]
          rfl
      | true =>
        have HOK := hide hok
        have hc : ((48 ≤ (x : Int) ∧ (x : Int) ≤ 57) ∨ (48 ≤ (x : Int) ∧ ¬ (x : Int) ≤ 57 ∧ 97 ≤ (x : Int) ∧ (x : Int) ≤ 122)) ∨ (0 < (k : Int) ∧ (x = 46 ∨ x = 95 ∨ x = 45)) := by
          simp [okB, plainB, signB, digB] at hok
          omega
        clear hok
        rcases hc with hc | ⟨k1, hc⟩
        · rcases hc with ⟨c1, c2⟩ | ⟨c1, c2, c3, c4⟩
          all_goals go_wp2
          all_goals
            go_round
            case rel =>
              refine ⟨k + 1, by omega, by go_num, fun j h hj => ?_⟩
              by_cases e : j = k
              · subst e
                rw [← HX.out]
                exact HOK.out
              · exact HA.out j h (by omega)
            case measure => simp [intOf]; omega
        · rcases hc with rfl | rfl | rfl
          all_goals go_wp2
          all_goals
            go_round
            case rel =>
              refine ⟨k + 1, by omega, by go_num, fun j h hj => ?_⟩
              by_cases e : j = k
              · subst e
                rw [← HX.out]
                exact HOK.out
              · exact HA.out j h (by omega)
            case measure => simp [intOf]; omega
    · have hq : decide (∀ i (h : i < s.size), okB i s[i].toNat = true) = true := by
        rw [decide_eq_true_iff]
        exact fun j h => HA.out j h (by omega)
      have HQ := hide hq
      clear hq
      have hc : (¬ 1 ≤ (s.size : Int) ∧ decide (1 ≤ s.size) = false) ∨ (1 ≤ (s.size : Int) ∧ decide (1 ≤ s.size) = true) := by
        by_cases h1 : 1 ≤ s.size
        · right; exact ⟨by omega, by simp [h1]⟩
        · left; exact ⟨by omega, by simp [h1]⟩
      have hd : decide (s.size ≤ 20) = decide ((s.size : Int) ≤ 20) := by apply decide_eq_decide.2; omega
      have HD := hide hd
      clear hd
      rcases hc with ⟨c1, c2⟩ | ⟨c1, c2⟩
      all_goals
        have HC := hide c2
        clear c2
        go_wp2
        go_ret
        refine ⟨?_, rfl⟩
        rw [HR.out, HQ.out, Bool.and_true, HC.out, HD.out]
        first | rfl | (simp; done)
end Go.Proofs.Ytpgamoielkpakaa
