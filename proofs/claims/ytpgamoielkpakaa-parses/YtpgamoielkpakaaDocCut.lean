/-
  PROVED HERE: what the document's own functions sign and counted answer: one of the six signs; the number that begins at a place, as the program's reader by places reads it; nothing turns.
-/
import Derived.Test.YtpgamoielkpakaaRows
import Derived.Test.YtpgamoielkpakaaCells
import Derived.Test.YtpgamoielkpakaaDigOk
import Derived.OwnWalk
import Derived.WalkSpells
import Derived.WalkLawsBesides
import Derived.Deep.QuietTactic
import Derived.BigQuiet
import Derived.Test.YtpgamoielkpakaaOwnLib
namespace Go.Proofs.Ytpgamoielkpakaa
open Go.RowKit
set_option maxHeartbeats 1000000 in
set_option maxRecDepth 100000 in
theorem sign_any (c : Nat) (w : World) : Calls Try.prog 32 #[.int .u8 ((c : Nat) : Int)] w fun e w' => e = .returned (.bool (markB c)) ∧ w' = w := by
  obtain ⟨r, hr⟩ : ∃ r, r = markB c := ⟨_, rfl⟩
  rw [← hr]
  have h : (((c : Int) == 123) = true ∧ r = true) ∨ (((c : Int) == 123) = false ∧ ((c : Int) == 125) = true ∧ r = true) ∨ (((c : Int) == 123) = false ∧ ((c : Int) == 125) = false ∧ ((c : Int) == 91) = true ∧ r = true) ∨
      (((c : Int) == 123) = false ∧ ((c : Int) == 125) = false ∧ ((c : Int) == 91) = false ∧ ((c : Int) == 93) = true ∧ r = true) ∨
      (((c : Int) == 123) = false ∧ ((c : Int) == 125) = false ∧ ((c : Int) == 91) = false ∧ ((c : Int) == 93) = false ∧ ((c : Int) == 58) = true ∧ r = true) ∨
      (((c : Int) == 123) = false ∧ ((c : Int) == 125) = false ∧ ((c : Int) == 91) = false ∧ ((c : Int) == 93) = false ∧ ((c : Int) == 58) = false ∧ ((c : Int) == 44) = r) := by
    unfold markB at hr
    have e : ∀ n : Nat, ((c : Int) == (n : Int)) = decide (c = n) := by
      intro n
      rw [Bool.eq_iff_iff, beq_iff_eq, decide_eq_true_iff]; omega
    rw [show ((c : Int) == 123) = decide (c = 123) from e 123, show ((c : Int) == 125) = decide (c = 125) from e 125, show ((c : Int) == 91) = decide (c = 91) from e 91, show ((c : Int) == 93) = decide (c = 93) from e 93, show ((c : Int) == 58) = decide (c = 58) from e 58, show ((c : Int) == 44) = decide (c = 44) from e 44]
    cases h1 : decide (c = 123) <;> cases h2 : decide (c = 125) <;> cases h3 : decide (c = 91) <;> cases h4 : decide (c = 93) <;> cases h5 : decide (c = 58) <;> simp [hr, h1, h2, h3, h4, h5]
  clear hr
  go_enter Try.func32, Try.ntmps32
  rcases h with ⟨h1, rfl⟩ | ⟨h1, h2, rfl⟩ | ⟨h1, h2, h3, rfl⟩ | ⟨h1, h2, h3, h4, rfl⟩ | ⟨h1, h2, h3, h4, h5, rfl⟩ | ⟨h1, h2, h3, h4, h5, h6⟩
  all_goals go_wp2
  all_goals go_ret
  all_goals first | exact ⟨rfl, rfl⟩ | exact ⟨by rw [h6], rfl⟩
/-- How far a number is gone through: it is one so far, or it is none. -/
def Cnt (t : ByteArray) (i k n : Nat) (z : Bool) : Prop :=
  (numS t i k n = numS t i i 0 ∧ k ≤ i + 9 ∧ (k = i → n = 0) ∧ (i < k → (n = 0 ↔ z = true)) ∧ (z = true → k ≤ i + 1)) ∨
  (numS t i i 0 = none ∧ (i + 10 ≤ k ∨ (i + 2 ≤ k ∧ z = true)))
theorem Cnt.step {t : ByteArray} {i k n x : Nat} {z : Bool} (hi : i ≤ k) (hk : k < t.size) (hx : x = (t[k]).toNat) (hd : digB x = true) (hz : k = i → z = decide (x = 48)) (h : Cnt t i k n z) :
    Cnt t i (k + 1) (if k < i + 10 then 10 * n + (x - 48) else n) z := by
  have hx2 : 48 ≤ x ∧ x ≤ 57 := by unfold digB at hd; simpa using hd
  rcases h with ⟨h1, h2, h0, h3, h4⟩ | ⟨h1, h2⟩
  · rw [numS, dif_pos hk, ← hx, if_pos hd] at h1
    rw [if_pos (by omega)]
    by_cases hb : (i < k ∧ n = 0) ∨ ¬ k < i + 9
    · rw [if_pos hb] at h1
      right
      refine ⟨h1.symm, ?_⟩
      rcases hb with ⟨h5, h6⟩ | h5
      · right; exact ⟨by omega, (h3 h5).1 h6⟩
      · left; omega
    · rw [if_neg hb] at h1
      left
      refine ⟨h1, by omega, by omega, fun _ => ?_, fun hzt => ?_⟩
      · by_cases hik : k = i
        · rw [hz hik, h0 hik, decide_eq_true_iff]; omega
        · have h5 := h3 (by omega)
          constructor
          · intro h6; omega
          · intro h6; have := h5.2 h6; omega
      · by_cases hik : k = i
        · omega
        · have h5 := (h3 (by omega)).2 hzt; omega
  · right
    refine ⟨h1, ?_⟩
    rcases h2 with h2 | h2
    · left; omega
    · right; exact ⟨by omega, h2.2⟩
theorem Cnt.over {t : ByteArray} {i k n : Nat} {z : Bool} (hi : i < k) (hk : ∀ h : k < t.size, digB (t[k]).toNat = false) (h : Cnt t i k n z) :
    (numS t i i 0 = some (n, k) ∧ k ≤ i + 9 ∧ (k = i + 1 ∨ z = false)) ∨ (numS t i i 0 = none ∧ (i + 10 ≤ k ∨ (i + 2 ≤ k ∧ k ≤ i + 9 ∧ z = true))) := by
  rcases h with ⟨h1, h2, h0, h3, h4⟩ | ⟨h1, h2⟩
  · left
    refine ⟨?_, h2, ?_⟩
    · rw [← h1, numS]
      split
      · rename_i hl; rw [hk hl]; rfl
      · rfl
    · cases z with
      | false => right; rfl
      | true => left; have := h4 rfl; omega
  · right
    refine ⟨h1, ?_⟩
    by_cases h5 : i + 10 ≤ k
    · left; exact h5
    · right; rcases h2 with h2 | h2
      · exact absurd h2 h5
      · exact ⟨h2.1, by omega, h2.2⟩
set_option maxHeartbeats 2000000 in
set_option maxRecDepth 100000 in
theorem counted_any (t : ByteArray) (i : Nat) (hi : i < t.size) (hdi : digB (t[i]).toNat = true) (ht : t.size ≤ 2000) (w : World) :
    Calls Try.prog 34 #[.string t, .int .i64 ((i : Nat) : Int)] w fun e w' => Below w.heap.size w w' ∧ ((∃ n k, numS t i i 0 = some (n, k) ∧ e = .returned (.tuple #[.int .i64 ((n : Nat) : Int), .int .i64 ((k : Nat) : Int), .bool true])) ∨
      (numS t i i 0 = none ∧ ∃ n k, e = .returned (.tuple #[n, k, .bool false]))) := by
  obtain ⟨y, hy⟩ : ∃ y : Nat, y = (t[i]).toNat := ⟨_, rfl⟩
  have hy2 : ((t[i]).toNat : Int) = (y : Int) := by rw [hy]
  have HDI := hide hdi
  have HY := hide hy
  clear hdi hy
  go_enter Try.func34, Try.ntmps34
  go_wp2
  go_loop [7, 8] (fun nv kv => ∃ (k n : Nat), k ≤ t.size ∧ i ≤ k ∧ n < 10000000000 ∧ (k < i + 10 → n < 10 ^ (k - i)) ∧ nv = .int .i64 ((n : Nat) : Int) ∧ kv = .int .i64 ((k : Nat) : Int) ∧ Cnt t i k n (decide (y = 48)) ∧ (k = i → k < t.size ∧ digB y = true))
    (fun _ kv => t.size - (intOf kv).toNat)
  case atStart => exact ⟨i, 0, by omega, by omega, by omega, by simp, rfl, rfl, Or.inl ⟨rfl, by omega, fun _ => rfl, fun h => absurd h (by omega), fun _ => by omega⟩, fun _ => ⟨hi, by rw [HY.out]; exact HDI.out⟩⟩
  case round =>
    obtain ⟨k, n, hk, hik, hn, hp, rfl, rfl, hc, hf⟩ := hrel
    have HC := hide hc
    have HF := hide hf
    have HP := hide hp
    clear hc hf hp
    by_cases hlt : k < t.size
    · obtain ⟨x, hx⟩ : ∃ x : Nat, x = (t[k]'hlt).toNat := ⟨_, rfl⟩
      have hx2 : ((t[k]'hlt).toNat : Int) = (x : Int) := by rw [hx]
      have hx256 : x < 256 := by rw [hx]; exact UInt8.toNat_lt _
      have HX := hide hx
      clear hx
      cases hd : digB x with
      | true =>
        have hst := Cnt.step hik hlt HX.out hd (fun h => by subst h; rw [HX.out, HY.out]) HC.out
        have HST := hide hst
        have hx48 : 48 ≤ (x : Int) ∧ (x : Int) ≤ 57 := by unfold digB at hd; simp at hd; omega
        obtain ⟨x1, x2⟩ := hx48
        have HD := hide hd
        clear hst hd
        by_cases h10 : k < i + 10
        · have v2 : IntKind.u8.wrap ((x : Int) - 48) = (x : Int) - 48 := by rw [IntKind.wrap_u8]; omega
          have hpp := HP.out h10
          have hpw : (10 : Nat) ^ (k + 1 - i) = 10 * 10 ^ (k - i) := by rw [show k + 1 - i = (k - i) + 1 by omega, Nat.pow_succ]; omega
          have hle : (10 : Nat) ^ (k + 1 - i) ≤ 10 ^ 10 := Nat.pow_le_pow_right (by omega) (by omega)
          have hst : Cnt t i (k + 1) (10 * n + (x - 48)) (decide (y = 48)) := by have := HST.out; rwa [if_pos h10] at this
          have HST2 := hide hst
          have hn2 : 10 * n + (x - 48) < 10 ^ (k + 1 - i) := by omega
          have HN2 := hide (And.intro hn2 (Nat.lt_of_lt_of_le hn2 hle))
          clear hst hpp hpw hle hn2
          go_wp2
          go_round
          case rel =>
            refine ⟨k + 1, 10 * n + (x - 48), by omega, by omega, by have := HN2.out.2; simpa using this, fun _ => HN2.out.1, by go_num, by go_num, HST2.out, fun h => absurd h (by omega)⟩
          case measure => simp [intOf]; omega
        · have hst : Cnt t i (k + 1) n (decide (y = 48)) := by have := HST.out; rwa [if_neg h10] at this
          have HST2 := hide hst
          clear hst
          go_wp2
          go_round
          case rel =>
            refine ⟨k + 1, n, by omega, by omega, hn, fun h => absurd h (by omega), rfl, by go_num, HST2.out, fun h => absurd h (by omega)⟩
          case measure => simp [intOf]; omega
      | false =>
        have hxc : (¬ 48 ≤ (x : Int)) ∨ (48 ≤ (x : Int) ∧ ¬ (x : Int) ≤ 57) := by unfold digB at hd; simp at hd; omega
        have hgt : i < k := by
          apply Classical.byContradiction
          intro h
          have hki : k = i := by omega
          subst hki
          have hxy : x = y := by rw [HX.out, HY.out]
          subst hxy
          rw [(HF.out rfl).2] at hd
          cases hd
        have hov := Cnt.over hgt (fun _ => by rw [← HX.out]; exact hd) HC.out
        have H0 := hide hov
        have hcase : (k ≤ i + 9 ∧ k = i + 1) ∨ (k ≤ i + 9 ∧ k ≠ i + 1 ∧ y ≠ 48) ∨ (i + 10 ≤ k) ∨ (k ≤ i + 9 ∧ k ≠ i + 1 ∧ y = 48) := by
          rcases hov with ⟨a1, a2, a3⟩ | ⟨a1, a2⟩
          · rcases a3 with a3 | a3
            · exact Or.inl ⟨a2, a3⟩
            · by_cases hk1 : k = i + 1
              · exact Or.inl ⟨a2, hk1⟩
              · exact Or.inr (Or.inl ⟨a2, hk1, by simpa using a3⟩)
          · rcases a2 with a2 | ⟨a2, a3, a4⟩
            · exact Or.inr (Or.inr (Or.inl a2))
            · exact Or.inr (Or.inr (Or.inr ⟨a3, by omega, by simpa using a4⟩))
        clear hov
        have HGT := hide hgt
        rcases hcase with ⟨q1, q2⟩ | ⟨q1, q2, q3⟩ | q1 | ⟨q1, q2, q3⟩
        · have hans : numS t i i 0 = some (n, k) := by
            rcases H0.out with h | h
            · exact h.1
            · exfalso; have := h.2; omega
          have HANS := hide hans
          clear hans H0
          have g1 : decide ((k : Int) - (i : Int) ≤ 9) = true := by simp; omega
          have g2 : ((k : Int) - (i : Int) == 1) = true := by simp; omega
          clear q1 q2 hgt
          rcases hxc with c1 | ⟨c1, c2⟩
          all_goals
            go_wp2
            go_quiet (fail)
            go_wp2
            go_ret3
            exact ⟨(Below.refl _ _).drewN nq, Or.inl ⟨n, k, HANS.out, rfl⟩⟩
        · have hans : numS t i i 0 = some (n, k) := by
            rcases H0.out with h | h
            · exact h.1
            · exfalso
              rcases h.2 with h2 | h2
              · omega
              · have := h2.2.2; simp at this; omega
          have HANS := hide hans
          clear hans H0
          have g1 : decide ((k : Int) - (i : Int) ≤ 9) = true := by simp; omega
          have g2 : ((k : Int) - (i : Int) == 1) = false := by simp; omega
          have q4 : ((y : Int) == 48) = false := by simp; omega
          have q5 : ((y : Int) != 48) = true := by simp; omega
          clear q1 q2 q3 hgt
          rcases hxc with c1 | ⟨c1, c2⟩
          all_goals
            go_wp2
            go_quiet (fail)
            go_wp2
            go_ret3
            exact ⟨(Below.refl _ _).drewN nq, Or.inl ⟨n, k, HANS.out, rfl⟩⟩
        · have hans : numS t i i 0 = none := by
            rcases H0.out with h | h
            · exfalso; have := h.2.1; omega
            · exact h.1
          have HANS := hide hans
          clear hans H0
          have g1 : decide ((k : Int) - (i : Int) ≤ 9) = false := by simp; omega
          clear q1 hgt
          rcases hxc with c1 | ⟨c1, c2⟩
          all_goals
            go_wp2
            go_quiet (fail)
            go_wp2
            go_ret3
            exact ⟨(Below.refl _ _).drewN nq, Or.inr ⟨HANS.out, _, _, rfl⟩⟩
        · have hans : numS t i i 0 = none := by
            rcases H0.out with h | h
            · exfalso
              rcases h.2.2 with h2 | h2
              · exact q2 h2
              · simp at h2; omega
            · exact h.1
          have HANS := hide hans
          clear hans H0
          have g1 : decide ((k : Int) - (i : Int) ≤ 9) = true := by simp; omega
          have g2 : ((k : Int) - (i : Int) == 1) = false := by simp; omega
          have q4 : ((y : Int) == 48) = true := by simp; omega
          have q5 : ((y : Int) != 48) = false := by simp; omega
          clear q1 q2 q3 hgt
          rcases hxc with c1 | ⟨c1, c2⟩
          all_goals
            go_wp2
            go_quiet (fail)
            go_wp2
            go_ret3
            exact ⟨(Below.refl _ _).drewN nq, Or.inr ⟨HANS.out, _, _, rfl⟩⟩
    · have hgt : i < k := by
        apply Classical.byContradiction
        intro h
        have hki : k = i := by omega
        subst hki
        have := (HF.out rfl).1; omega
      have hov := Cnt.over hgt (fun h => absurd h hlt) HC.out
      have H0 := hide hov
      have hcase : (k ≤ i + 9 ∧ k = i + 1) ∨ (k ≤ i + 9 ∧ k ≠ i + 1 ∧ y ≠ 48) ∨ (i + 10 ≤ k) ∨ (k ≤ i + 9 ∧ k ≠ i + 1 ∧ y = 48) := by
        rcases hov with ⟨a1, a2, a3⟩ | ⟨a1, a2⟩
        · rcases a3 with a3 | a3
          · exact Or.inl ⟨a2, a3⟩
          · by_cases hk1 : k = i + 1
            · exact Or.inl ⟨a2, hk1⟩
            · exact Or.inr (Or.inl ⟨a2, hk1, by simpa using a3⟩)
        · rcases a2 with a2 | ⟨a2, a3, a4⟩
          · exact Or.inr (Or.inr (Or.inl a2))
          · exact Or.inr (Or.inr (Or.inr ⟨a3, by omega, by simpa using a4⟩))
      clear hov
      have HGT := hide hgt
      rcases hcase with ⟨q1, q2⟩ | ⟨q1, q2, q3⟩ | q1 | ⟨q1, q2, q3⟩
      · have hans : numS t i i 0 = some (n, k) := by
          rcases H0.out with h | h
          · exact h.1
          · exfalso; have := h.2; omega
        have HANS := hide hans
        clear hans H0
        have g1 : decide ((k : Int) - (i : Int) ≤ 9) = true := by simp; omega
        have g2 : ((k : Int) - (i : Int) == 1) = true := by simp; omega
        clear q1 q2 hgt
        go_wp2
        go_quiet (fail)
        go_wp2
        go_ret3
        exact ⟨(Below.refl _ _).drewN nq, Or.inl ⟨n, k, HANS.out, rfl⟩⟩
      · have hans : numS t i i 0 = some (n, k) := by
          rcases H0.out with h | h
          · exact h.1
          · exfalso
            rcases h.2 with h2 | h2
            · omega
            · have := h2.2.2; simp at this; omega
        have HANS := hide hans
        clear hans H0
        have g1 : decide ((k : Int) - (i : Int) ≤ 9) = true := by simp; omega
        have g2 : ((k : Int) - (i : Int) == 1) = false := by simp; omega
        have q4 : ((y : Int) == 48) = false := by simp; omega
        have q5 : ((y : Int) != 48) = true := by simp; omega
        clear q1 q2 q3 hgt
        go_wp2
        go_quiet (fail)
        go_wp2
        go_ret3
        exact ⟨(Below.refl _ _).drewN nq, Or.inl ⟨n, k, HANS.out, rfl⟩⟩
      · have hans : numS t i i 0 = none := by
          rcases H0.out with h | h
          · exfalso; have := h.2.1; omega
          · exact h.1
        have HANS := hide hans
        clear hans H0
        have g1 : decide ((k : Int) - (i : Int) ≤ 9) = false := by simp; omega
        clear q1 hgt
        go_wp2
        go_quiet (fail)
        go_wp2
        go_ret3
        exact ⟨(Below.refl _ _).drewN nq, Or.inr ⟨HANS.out, _, _, rfl⟩⟩
      · have hans : numS t i i 0 = none := by
          rcases H0.out with h | h
          · exfalso
            rcases h.2.2 with h2 | h2
            · exact q2 h2
            · simp at h2; omega
          · exact h.1
        have HANS := hide hans
        clear hans H0
        have g1 : decide ((k : Int) - (i : Int) ≤ 9) = true := by simp; omega
        have g2 : ((k : Int) - (i : Int) == 1) = false := by simp; omega
        have q4 : ((y : Int) == 48) = true := by simp; omega
        have q5 : ((y : Int) != 48) = false := by simp; omega
        clear q1 q2 q3 hgt
        go_wp2
        go_quiet (fail)
        go_wp2
        go_ret3
        exact ⟨(Below.refl _ _).drewN nq, Or.inr ⟨HANS.out, _, _, rfl⟩⟩
end Go.Proofs.Ytpgamoielkpakaa

/-
  PROVED HERE: what the document's own function quoted answers: the string that begins at a place, as the program's reader by places reads it; nothing turns.
-/
namespace Go.Proofs.Ytpgamoielkpakaa
open Go.RowKit
theorem docStr_none {t : ByteArray} {k : Nat} {acc : List UInt8} (h : byteS t k = none) : strS t k acc = none := by
  rw [strS]; split
  · rfl
  · rename_i x hx; rw [h] at hx; cases hx
theorem docStr_some {t : ByteArray} {k x : Nat} {acc : List UInt8} (h : byteS t k = some x) : strS t k acc = if x = 34 then some (acc, k + 1) else if x = 92 then (match byteS t (k + 1) with
    | none => none
    | some y => if y = 34 ∨ y = 92 then strS t (k + 2) (acc ++ [UInt8.ofNat y]) else none) else strS t (k + 1) (acc ++ [UInt8.ofNat x]) := by
  rw [strS]; split
  · rename_i hx; rw [h] at hx; cases hx
  · rename_i x' hx
    rw [h] at hx
    injection hx with hx
    subst hx
    rfl
theorem extract_one (t : ByteArray) (k : Nat) (h : k < t.size) (acc : List UInt8) (x : Nat) (hx : x = (t[k]).toNat) : (⟨acc.toArray⟩ : ByteArray) ++ t.extract k (k + 1) = ⟨(acc ++ [UInt8.ofNat x]).toArray⟩ := by
  have h1 : UInt8.ofNat x = t[k] := by rw [hx]; simp
  rw [h1]
  apply ByteArray.ext
  apply Array.ext'
  rw [ByteArray.data_append, ByteArray.data_extract]
  have h2 : k < t.data.toList.length := by simpa using h
  simp only [Array.toList_append, Array.toList_extract, List.extract_eq_take_drop, Nat.add_sub_cancel_left]
  rw [List.drop_eq_getElem_cons h2]
  simp
  rfl
set_option maxHeartbeats 2000000 in
set_option maxRecDepth 100000 in
theorem quoted_any (t : ByteArray) (i : Nat) (hi : i < t.size) (ht : t.size ≤ 2000) (w : World) :
    Calls Try.prog 33 #[.string t, .int .i64 ((i : Nat) : Int)] w fun e w' => Below w.heap.size w w' ∧ ((∃ l k, strS t (i + 1) [] = some (l, k) ∧ e = .returned (.tuple #[.string ⟨l.toArray⟩, .int .i64 ((k : Nat) : Int), .bool true])) ∨
      (strS t (i + 1) [] = none ∧ e = .returned (.tuple #[.string ⟨#[]⟩, .int .i64 0, .bool false]))) := by
  go_enter Try.func33, Try.ntmps33
  go_wp2
  go_loop [7, 8] (fun sv kv => ∃ (k : Nat) (acc : List UInt8), k ≤ t.size ∧ i < k ∧ acc.length ≤ k ∧ sv = .string ⟨acc.toArray⟩ ∧ kv = .int .i64 ((k : Nat) : Int) ∧ strS t k acc = strS t (i + 1) [])
    (fun _ kv => t.size - (intOf kv).toNat)
  case atStart => exact ⟨i + 1, [], by omega, by omega, by simp, rfl, by go_num, rfl⟩
  case round =>
    obtain ⟨k, acc, hk, hik, hacc, rfl, rfl, he⟩ := hrel
    have HE := hide he
    clear he
    by_cases hlt : k < t.size
    · obtain ⟨x, hx⟩ : ∃ x : Nat, x = (t[k]'hlt).toNat := ⟨_, rfl⟩
      have hx2 : ((t[k]'hlt).toNat : Int) = (x : Int) := by rw [hx]
      have hx256 : x < 256 := by rw [hx]; exact UInt8.toNat_lt _
      have HX := hide hx
      clear hx
      by_cases h34 : x = 34
      · subst h34
        have hb : byteS t k = some 34 := by unfold byteS; rw [dif_pos hlt, ← HX.out]; rfl
        have hans : strS t (i + 1) [] = some (acc, k + 1) := by rw [← HE.out, docStr_some hb]; rfl
        have HANS := hide hans
        clear hb hans
        go_wp2
        go_ret3
        exact ⟨Below.refl _ _, Or.inl ⟨acc, k + 1, HANS.out, by go_num⟩⟩
      · have e34 : ((x : Int) == 34) = false := by simp; omega
        by_cases h92 : x = 92
        · subst h92
          have hb : byteS t k = some 92 := by unfold byteS; rw [dif_pos hlt, ← HX.out]; rfl
          have hst : strS t (i + 1) [] = (match byteS t (k + 1) with | none => none | some y => if y = 34 ∨ y = 92 then strS t (k + 2) (acc ++ [UInt8.ofNat y]) else none) := by rw [← HE.out, docStr_some hb]; rfl
          have HST := hide hst
          clear hb hst
          by_cases hl2 : k + 1 < t.size
          · obtain ⟨y, hy⟩ : ∃ y : Nat, y = (t[k + 1]'hl2).toNat := ⟨_, rfl⟩
            have hy2 : ((t[k + 1]'hl2).toNat : Int) = (y : Int) := by rw [hy]
            have hne : ¬ (k : Int) + 1 = (t.size : Int) := by omega
            have HY := hide hy
            clear hy
            by_cases hok : y = 34 ∨ y = 92
            · have hb2 : byteS t (k + 1) = some y := by unfold byteS; rw [dif_pos hl2, ← HY.out, if_pos (by omega)]
              have hst : strS t (k + 2) (acc ++ [UInt8.ofNat y]) = strS t (i + 1) [] := by rw [HST.out, hb2]; dsimp only; rw [if_pos hok]
              have HST2 := hide hst
              have HEX := hide (extract_one t (k + 1) hl2 acc y HY.out)
              have hyc : (((y : Int) != 92) = false) ∨ (((y : Int) != 92) = true ∧ ((y : Int) != 34) = false) := by
                rcases hok with rfl | rfl
                · right; exact ⟨rfl, rfl⟩
                · left; rfl
              clear hb2 hst hok
              rcases hyc with y1 | ⟨y1, y2⟩
              all_goals
                go_wp2
                go_round
                case rel => exact ⟨k + 2, acc ++ [UInt8.ofNat y], by omega, by omega, by simp; omega, by rw [HEX.out], by go_num, HST2.out⟩
                case measure => simp [intOf]; omega
            · have hans : strS t (i + 1) [] = none := by
                rw [HST.out]
                unfold byteS
                rw [dif_pos hl2, ← HY.out]
                by_cases hr : 32 ≤ y ∧ y ≤ 126
                · rw [if_pos hr]; dsimp only; rw [if_neg hok]
                · rw [if_neg hr]
              have HANS := hide hans
              have y1 : ((y : Int) != 92) = true := by simp; omega
              have y2 : ((y : Int) != 34) = true := by simp; omega
              clear hans hok
              go_wp2
              go_ret3
              exact ⟨Below.refl _ _, Or.inr ⟨HANS.out, rfl⟩⟩
          · have hans : strS t (i + 1) [] = none := by
              rw [HST.out]
              unfold byteS
              rw [dif_neg hl2]
            have HANS := hide hans
            have heq : ((k : Int) + 1 == (t.size : Int)) = true := by simp; omega
            clear hans
            go_wp2
            go_ret3
            exact ⟨Below.refl _ _, Or.inr ⟨HANS.out, rfl⟩⟩
        · have e92 : ((x : Int) == 92) = false := by simp; omega
          by_cases hr : 32 ≤ x ∧ x ≤ 126
          · have hb : byteS t k = some x := by unfold byteS; rw [dif_pos hlt, ← HX.out, if_pos hr]
            have hst : strS t (k + 1) (acc ++ [UInt8.ofNat x]) = strS t (i + 1) [] := by rw [← HE.out, docStr_some hb, if_neg h34, if_neg h92]
            have HST := hide hst
            have hex := extract_one t k hlt acc x HX.out
            have HEX := hide hex
            have r1 : ¬ (x : Int) < 32 := by omega
            have r2 : ¬ 126 < (x : Int) := by omega
            clear hb hst hex hr
            go_wp2
            go_round
            case rel => exact ⟨k + 1, acc ++ [UInt8.ofNat x], by omega, by omega, by simp; omega, by rw [HEX.out], by go_num, HST.out⟩
            case measure => simp [intOf]; omega
          · have hb : byteS t k = none := by unfold byteS; rw [dif_pos hlt, ← HX.out, if_neg hr]
            have hans : strS t (i + 1) [] = none := by rw [← HE.out, docStr_none hb]
            have HANS := hide hans
            have hr2 : (x : Int) < 32 ∨ (¬ (x : Int) < 32 ∧ 126 < (x : Int)) := by omega
            clear hb hans hr
            rcases hr2 with r1 | ⟨r1, r2⟩
            all_goals
              go_wp2
              go_ret3
              exact ⟨Below.refl _ _, Or.inr ⟨HANS.out, rfl⟩⟩
    · have hb : byteS t k = none := by unfold byteS; rw [dif_neg hlt]
      have hans : strS t (i + 1) [] = none := by rw [← HE.out, docStr_none hb]
      have HANS := hide hans
      clear hb hans
      go_wp2
      go_ret3
      exact ⟨Below.refl _ _, Or.inr ⟨HANS.out, rfl⟩⟩
end Go.Proofs.Ytpgamoielkpakaa

/-
  PROVED HERE: what the document's own function cut answers for every text of at most 2,000 bytes: its tokens, in a row of its own; nothing that was there has turned.
-/
namespace Go.Proofs.Ytpgamoielkpakaa
open Go.RowKit
/-- A token's cells. -/
def Tk.cells (x : Tk) : List Value := [.int .u8 ((x.kind : Nat) : Int), .int .i64 ((x.pl : Nat) : Int), .string ⟨x.txt.toArray⟩, .int .i64 ((x.num : Nat) : Int)]
theorem Try.infoTk : (Try.prog.info? 47).map (fun i => (i.zero, i.size, i.bytes)) = some (some (.agg #[.int .u8 0, .int .i64 0, .string ⟨#[]⟩, .int .i64 0]), 4, 40) := by kernel_rfl
theorem tk_one (x : Tk) : ∀ u ∈ x.cells, u.oneCell' = true := by
  intro u hu
  unfold Tk.cells at hu
  simp only [List.mem_cons, List.not_mem_nil, or_false] at hu
  rcases hu with rfl | rfl | rfl | rfl <;> rfl
/-- The tokens at a place, by the byte that stands there. -/
theorem cut_step (t : ByteArray) (i : Nat) :
    (∀ h : i < t.size, spB (t[i]).toNat = true → cutL t i = cutL t (i + 1)) ∧
    (∀ h : i < t.size, spB (t[i]).toNat = false → markB (t[i]).toNat = true → cutL t i = ⟨(t[i]).toNat, i, [], 0⟩ :: cutL t (i + 1)) ∧
    (∀ h : i < t.size, (t[i]).toNat = 34 → ∀ l c, strS t (i + 1) [] = some (l, c) → cutL t i = ⟨115, i, l, 0⟩ :: cutL t c) ∧
    (∀ h : i < t.size, (t[i]).toNat = 34 → strS t (i + 1) [] = none → cutL t i = [⟨63, i, [], 0⟩]) ∧
    (∀ h : i < t.size, digB (t[i]).toNat = true → ∀ n c, numS t i i 0 = some (n, c) → cutL t i = ⟨110, i, [], n⟩ :: cutL t c) ∧
    (∀ h : i < t.size, digB (t[i]).toNat = true → numS t i i 0 = none → cutL t i = [⟨63, i, [], 0⟩]) ∧
    (∀ h : i < t.size, spB (t[i]).toNat = false → markB (t[i]).toNat = false → (t[i]).toNat ≠ 34 → digB (t[i]).toNat = false → cutL t i = [⟨63, i, [], 0⟩]) ∧
    (¬ i < t.size → cutL t i = [⟨0, i, [], 0⟩]) := by
  have hn : ∀ h : i < t.size, spB (t[i]).toNat = false → skipS t i = i := fun h hs => by rw [skipS, dif_pos h, hs]; rfl
  have dsp : ∀ x, digB x = true → spB x = false ∧ markB x = false := by
    intro x hx
    unfold digB at hx; unfold spB markB
    simp at hx ⊢; omega
  refine ⟨fun h hs => ?_, fun h hs hm => ?_, fun h hq l c e => ?_, fun h hq e => ?_, fun h hd n c e => ?_, fun h hd e => ?_, fun h hs hm hq hd => ?_, fun h => ?_⟩
  · have e : skipS t i = skipS t (i + 1) := by rw [skipS, dif_pos h, if_pos hs]
    rw [cutL, e, ← cutL]
  · have e := hn h hs
    have e2 : nextAt t i = .tok (t[i]).toNat i 0 [] (i + 1) := by unfold nextAt; rw [dif_pos h, if_pos hm]
    have hk : (t[i]).toNat ≠ 0 := fun h0 => by rw [h0] at hm; exact absurd hm (by decide)
    have hk2 : kindD (t[i]).toNat = (t[i]).toNat := by
      unfold kindD
      generalize (t[i]).toNat = x at hm
      rw [if_neg (fun h0 => by rw [h0] at hm; exact absurd hm (by decide)), if_neg (fun h0 => by rw [h0] at hm; exact absurd hm (by decide))]
    rw [cutL_tok (by rw [e]; exact e2) hk, e, hk2]
  · have hs : spB (t[i]).toNat = false := by rw [hq]; decide
    have e0 := hn h hs
    have e2 : nextAt t i = .tok 34 i 0 l c := by
      unfold nextAt; rw [dif_pos h, hq, e]; rfl
    rw [cutL_tok (by rw [e0]; exact e2) (by decide), e0]; rfl
  · have hs : spB (t[i]).toNat = false := by rw [hq]; decide
    have e0 := hn h hs
    have e2 : nextAt t i = .bad i := by
      unfold nextAt; rw [dif_pos h, hq, e]; rfl
    rw [cutL_bad (by rw [e0]; exact e2), e0]
  · obtain ⟨h1, h2⟩ := dsp _ hd
    have e0 := hn h h1
    have e2 : nextAt t i = .tok 48 i n [] c := by
      unfold nextAt; rw [dif_pos h, h2, hd, e]; rfl
    rw [cutL_tok (by rw [e0]; exact e2) (by decide), e0]; rfl
  · obtain ⟨h1, h2⟩ := dsp _ hd
    have e0 := hn h h1
    have e2 : nextAt t i = .bad i := by
      unfold nextAt; rw [dif_pos h, h2, hd, e]; rfl
    rw [cutL_bad (by rw [e0]; exact e2), e0]
  · have e0 := hn h hs
    have e2 : nextAt t i = .bad i := by
      unfold nextAt; rw [dif_pos h, hm, hd, if_neg (by decide), if_neg (by decide), if_neg hq]
    rw [cutL_bad (by rw [e0]; exact e2), e0]
  · have e0 : skipS t i = i := by rw [skipS, dif_neg h]
    have e2 : nextAt t i = .tok 0 i 0 [] i := by unfold nextAt; rw [dif_neg h]
    rw [cutL_end (by rw [e0]; exact e2), e0]
theorem four_one (k i : Int) (s : ByteArray) (n : Int) : ∀ u ∈ [Value.int .u8 k, .int .i64 i, .string s, .int .i64 n], u.oneCell' = true := by
  intro u hu
  simp only [List.mem_cons, List.not_mem_nil, or_false] at hu
  rcases hu with rfl | rfl | rfl | rfl <;> rfl
set_option maxHeartbeats 2000000 in
set_option maxRecDepth 100000 in
theorem cut_any (t : ByteArray) (ht : t.size ≤ 2000) (w : World) :
    Calls Try.prog 13 #[.string t] w fun e w' => Below w.heap.size w w' ∧ ∃ v, e = .returned v ∧ w'.ownsRow w.heap.size 47 4 v (cutL t 0).length ((cutL t 0).flatMap Tk.cells) ∧ (cutL t 0).length ≤ t.size + 1 := by
  obtain ⟨i0, hi, hz0, hz1, hz2⟩ := info_parts Try.infoTk
  go_enter Try.func13, Try.ntmps13
  go_wp2
  go_loopw [3, 4] (fun v iv wr => ∃ (i : Nat) (pre : List Tk), i ≤ t.size ∧ pre.length ≤ i ∧ iv = .int .i64 ((i : Nat) : Int) ∧ pre ++ cutL t i = cutL t 0 ∧ wr.ownsRow w.heap.size 47 4 v pre.length (pre.flatMap Tk.cells) ∧ Below w.heap.size w wr)
    (fun _ iv _ => t.size - (intOf iv).toNat)
  case atStart => exact ⟨0, [], by omega, by simp, rfl, rfl, World.ownsRow_nil _ _ _ _, Below.refl _ _⟩
  case round =>
    obtain ⟨i, pre, hi1, hpl, rfl, he, hown, hbel⟩ := hrel
    have HE := hide he
    have HO := hide hown
    have HB := hide hbel
    have hbs := hbel.size
    clear he hown hbel
    by_cases hlt : i < t.size
    · obtain ⟨x, hx⟩ : ∃ x : Nat, x = (t[i]'hlt).toNat := ⟨_, rfl⟩
      have hx2 : ((t[i]'hlt).toNat : Int) = (x : Int) := by rw [hx]
      have hx256 : x < 256 := by rw [hx]; exact UInt8.toNat_lt _
      have HX := hide hx
      clear hx
      have HSG := hide (sign_any x)
      cases hs : spB x with
      | true =>
        have hc := (cut_step t i).1 hlt (by rw [← HX.out]; exact hs)
        have HC := hide hc
        have hs4 : x = 9 ∨ x = 10 ∨ x = 13 ∨ x = 32 := by
          unfold spB at hs
          simp at hs
          omega
        have hmf : markB x = false := by rcases hs4 with rfl | rfl | rfl | rfl <;> rfl
        rw [hmf] at HSG
        clear hc hs hmf
        rcases hs4 with rfl | rfl | rfl | rfl
        all_goals
          go_wp2_with (go_at_call 32; refine (HSG.out _).mono ?_; rintro _ w' ⟨rfl, rfl⟩)
          go_roundw
          case rel => exact ⟨i + 1, pre, by omega, by omega, by go_num, by rw [← HE.out, HC.out], HO.out, HB.out⟩
          case measure => simp [intOf]; omega
      | false =>
        have hs4 : ((x : Int) == 9) = false ∧ ((x : Int) == 10) = false ∧ ((x : Int) == 13) = false ∧ ((x : Int) == 32) = false := by
          unfold spB at hs
          simp at hs
          refine ⟨?_, ?_, ?_, ?_⟩ <;> simp <;> omega
        obtain ⟨s1, s2, s3, s4⟩ := hs4
        have HSP := hide hs
        clear hs
        cases hm : markB x with
        | true =>
          rw [hm] at HSG
          have hc := (cut_step t i).2.1 hlt (by rw [← HX.out]; exact HSP.out) (by rw [← HX.out]; exact hm)
          rw [← HX.out] at hc
          have HC := hide hc
          clear hc hm
          go_wp2_with (first | (go_at_call 32; refine (HSG.out _).mono ?_; rintro _ w' ⟨rfl, rfl⟩) | (refine wpList_append_own _ rfl _ _ 42 rfl w.heap.size 47 i0 _ 4 40 Try.underlying42 hi hz0 hz1 hz2 rfl (by decide) _ pre.length _ rfl (HO.out.alloc _) _ 1 1 [.int .u8 ((x : Nat) : Int), .int .i64 ((i : Nat) : Int), .string ⟨#[]⟩, .int .i64 0] rfl rfl (row_cells (heap_alloc_new _ _)) (four_one _ _ _ _) (by unfold maxLen; omega) (by omega) (by simp; omega) ?_; rintro v2 w2 hv2 hg2 _; have HV2 := hide hv2; have HG2 := hide hg2; clear hv2 hg2))
          go_roundw
          case rel =>
            refine ⟨i + 1, pre ++ [⟨x, i, [], 0⟩], by omega, by simp; omega, by go_num, ?_, ?_, ?_⟩
            · rw [← HE.out, HC.out]; simp
            · rw [List.length_append, List.flatMap_append]; exact HV2.out
            · exact grown_below (HB.out.alloc hbs _) HG2.out (HO.out.alloc _) (Nat.le_refl _) (by simp; omega)
          case measure => simp [intOf]; omega
        | false =>
          rw [hm] at HSG
          have HM := hide hm
          clear hm
          by_cases h34 : x = 34
          · subst h34
            go_wp2_with (go_at_call 32; refine (HSG.out _).mono ?_; rintro _ w' ⟨rfl, rfl⟩)
            refine (quoted_any t i hlt ht _).mono ?_
            rintro e w3 ⟨hb3, hc3⟩
            have HO3 := hide (ownsRow_later HO.out hb3)
            have HB3 := hide (HB.out.trans (hb3.mono hbs))
            have hbs3 := HB3.out.size
            clear hb3
            rcases hc3 with ⟨l, k, hq, rfl⟩ | ⟨hq, rfl⟩
            · dsimp only
              have hc := (cut_step t i).2.2.1 hlt (by rw [← HX.out]) _ _ hq
              have HC := hide hc
              have hto := strS_to t (i + 1) [] _ _ hq
              clear hc hq
              go_wp2_with (refine wpList_append_own _ rfl _ _ 42 rfl w.heap.size 47 i0 _ 4 40 Try.underlying42 hi hz0 hz1 hz2 rfl (by decide) _ pre.length _ rfl (HO3.out.alloc _) _ 1 1 [.int .u8 115, .int .i64 ((i : Nat) : Int), .string ⟨l.toArray⟩, .int .i64 0] rfl rfl (row_cells (heap_alloc_new _ _)) (four_one _ _ _ _) (by unfold maxLen; omega) (by omega) (by simp; omega) ?_; rintro v2 w2 hv2 hg2 _; have HV2 := hide hv2; have HG2 := hide hg2; clear hv2 hg2)
              go_roundw
              case rel =>
                refine ⟨k, pre ++ [⟨115, i, l, 0⟩], by omega, by simp; omega, rfl, ?_, ?_, ?_⟩
                · rw [← HE.out, HC.out]; simp
                · rw [List.length_append, List.flatMap_append]; exact HV2.out
                · exact grown_below (HB3.out.alloc hbs3 _) HG2.out (HO3.out.alloc _) (Nat.le_refl _) (by simp; omega)
              case measure => simp [intOf]; omega
            · dsimp only
              have hc := (cut_step t i).2.2.2.1 hlt (by rw [← HX.out]) hq
              have HC := hide hc
              clear hc hq
              go_wp2_with (refine wpList_append_own _ rfl _ _ 42 rfl w.heap.size 47 i0 _ 4 40 Try.underlying42 hi hz0 hz1 hz2 rfl (by decide) _ pre.length _ rfl (HO3.out.alloc _) _ 1 1 [.int .u8 63, .int .i64 ((i : Nat) : Int), .string ⟨#[]⟩, .int .i64 0] rfl rfl (row_cells (heap_alloc_new _ _)) (four_one _ _ _ _) (by unfold maxLen; omega) (by omega) (by simp; omega) ?_; rintro v2 w2 hv2 hg2 _; have HV2 := hide hv2; have HG2 := hide hg2; clear hv2 hg2)
              go_ret
              have hcut : cutL t 0 = pre ++ [⟨63, i, [], 0⟩] := by rw [← HE.out, HC.out]
              rw [hcut]
              refine ⟨grown_below (HB3.out.alloc hbs3 _) HG2.out (HO3.out.alloc _) (Nat.le_refl _) (by simp; omega), _, rfl, ?_, by simp; omega⟩
              rw [List.length_append, List.flatMap_append]
              exact HV2.out
          · have e34 : ((x : Int) == 34) = false := by simp; omega
            cases hd : digB x with
            | true =>
              have hx48 : 48 ≤ (x : Int) ∧ (x : Int) ≤ 57 := by unfold digB at hd; simp at hd; omega
              obtain ⟨x1, x2⟩ := hx48
              have HD := hide hd
              clear hd
              go_wp2_with (go_at_call 32; refine (HSG.out _).mono ?_; rintro _ w' ⟨rfl, rfl⟩)
              refine (counted_any t i hlt (by rw [← HX.out]; exact HD.out) ht _).mono ?_
              rintro e w3 ⟨hb3, hc3⟩
              have HO3 := hide (ownsRow_later HO.out hb3)
              have HB3 := hide (HB.out.trans (hb3.mono hbs))
              have hbs3 := HB3.out.size
              clear hb3
              rcases hc3 with ⟨n, k, hq, rfl⟩ | ⟨hq, n9, k9, rfl⟩
              · dsimp only
                have hc := (cut_step t i).2.2.2.2.1 hlt (by rw [← HX.out]; exact HD.out) _ _ hq
                have HC := hide hc
                have hto := numS_past t i hlt (by rw [← HX.out]; exact HD.out) _ _ hq
                clear hc hq
                go_wp2_with (refine wpList_append_own _ rfl _ _ 42 rfl w.heap.size 47 i0 _ 4 40 Try.underlying42 hi hz0 hz1 hz2 rfl (by decide) _ pre.length _ rfl (HO3.out.alloc _) _ 1 1 [.int .u8 110, .int .i64 ((i : Nat) : Int), .string ⟨#[]⟩, .int .i64 ((n : Nat) : Int)] rfl rfl (row_cells (heap_alloc_new _ _)) (four_one _ _ _ _) (by unfold maxLen; omega) (by omega) (by simp; omega) ?_; rintro v2 w2 hv2 hg2 _; have HV2 := hide hv2; have HG2 := hide hg2; clear hv2 hg2)
                go_roundw
                case rel =>
                  refine ⟨k, pre ++ [⟨110, i, [], n⟩], by omega, by simp; omega, rfl, ?_, ?_, ?_⟩
                  · rw [← HE.out, HC.out]; simp
                  · rw [List.length_append, List.flatMap_append]; exact HV2.out
                  · exact grown_below (HB3.out.alloc hbs3 _) HG2.out (HO3.out.alloc _) (Nat.le_refl _) (by simp; omega)
                case measure => simp [intOf]; omega
              · dsimp only
                have hc := (cut_step t i).2.2.2.2.2.1 hlt (by rw [← HX.out]; exact HD.out) hq
                have HC := hide hc
                clear hc hq
                go_wp2_with (refine wpList_append_own _ rfl _ _ 42 rfl w.heap.size 47 i0 _ 4 40 Try.underlying42 hi hz0 hz1 hz2 rfl (by decide) _ pre.length _ rfl (HO3.out.alloc _) _ 1 1 [.int .u8 63, .int .i64 ((i : Nat) : Int), .string ⟨#[]⟩, .int .i64 0] rfl rfl (row_cells (heap_alloc_new _ _)) (four_one _ _ _ _) (by unfold maxLen; omega) (by omega) (by simp; omega) ?_; rintro v2 w2 hv2 hg2 _; have HV2 := hide hv2; have HG2 := hide hg2; clear hv2 hg2)
                go_ret
                have hcut : cutL t 0 = pre ++ [⟨63, i, [], 0⟩] := by rw [← HE.out, HC.out]
                rw [hcut]
                refine ⟨grown_below (HB3.out.alloc hbs3 _) HG2.out (HO3.out.alloc _) (Nat.le_refl _) (by simp; omega), _, rfl, ?_, by simp; omega⟩
                rw [List.length_append, List.flatMap_append]
                exact HV2.out
            | false =>
              have hc := (cut_step t i).2.2.2.2.2.2.1 hlt (by rw [← HX.out]; exact HSP.out) (by rw [← HX.out]; exact HM.out) (by rw [← HX.out]; exact h34) (by rw [← HX.out]; exact hd)
              have HC := hide hc
              have hxc : (¬ 48 ≤ (x : Int)) ∨ (48 ≤ (x : Int) ∧ ¬ (x : Int) ≤ 57) := by unfold digB at hd; simp at hd; omega
              clear hc hd
              rcases hxc with c1 | ⟨c1, c2⟩
              all_goals
                go_wp2_with (first | (go_at_call 32; refine (HSG.out _).mono ?_; rintro _ w' ⟨rfl, rfl⟩) | (refine wpList_append_own _ rfl _ _ 42 rfl w.heap.size 47 i0 _ 4 40 Try.underlying42 hi hz0 hz1 hz2 rfl (by decide) _ pre.length _ rfl (HO.out.alloc _) _ 1 1 [.int .u8 63, .int .i64 ((i : Nat) : Int), .string ⟨#[]⟩, .int .i64 0] rfl rfl (row_cells (heap_alloc_new _ _)) (four_one _ _ _ _) (by unfold maxLen; omega) (by omega) (by simp; omega) ?_; rintro v2 w2 hv2 hg2 _; have HV2 := hide hv2; have HG2 := hide hg2; clear hv2 hg2))
                go_ret
                have hcut : cutL t 0 = pre ++ [⟨63, i, [], 0⟩] := by rw [← HE.out, HC.out]
                rw [hcut]
                refine ⟨grown_below (HB.out.alloc hbs _) HG2.out (HO.out.alloc _) (Nat.le_refl _) (by simp; omega), _, rfl, ?_, by simp; omega⟩
                rw [List.length_append, List.flatMap_append]
                exact HV2.out
    · have hc := (cut_step t i).2.2.2.2.2.2.2 hlt
      have HC := hide hc
      clear hc
      have hie : i = t.size := by omega
      go_wp2_with (refine wpList_append_own _ rfl _ _ 42 rfl w.heap.size 47 i0 _ 4 40 Try.underlying42 hi hz0 hz1 hz2 rfl (by decide) _ pre.length _ rfl (HO.out.alloc _) _ 1 1 [.int .u8 0, .int .i64 ((t.size : Nat) : Int), .string ⟨#[]⟩, .int .i64 0] rfl rfl (row_cells (heap_alloc_new _ _)) (four_one _ _ _ _) (by unfold maxLen; omega) (by omega) (by simp; omega) ?_; rintro v2 w2 hv2 hg2 _; have HV2 := hide hv2; have HG2 := hide hg2; clear hv2 hg2)
      go_ret
      have hcut : cutL t 0 = pre ++ [⟨0, t.size, [], 0⟩] := by rw [← HE.out, HC.out, hie]
      rw [hcut]
      refine ⟨grown_below (HB.out.alloc hbs _) HG2.out (HO.out.alloc _) (Nat.le_refl _) (by simp; omega), _, rfl, ?_, by simp; omega⟩
      rw [List.length_append, List.flatMap_append]
      exact HV2.out
end Go.Proofs.Ytpgamoielkpakaa
