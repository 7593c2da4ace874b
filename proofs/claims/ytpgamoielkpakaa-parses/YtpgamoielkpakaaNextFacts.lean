/-
  PROVED HERE: how far the scanner's functions go, and how long what they gather is.
-/
import Derived.Test.YtpgamoielkpakaaSize
namespace Go.Proofs.Ytpgamoielkpakaa
open Go.RowKit
theorem strS_far (t : ByteArray) : ∀ (d a : Nat) (acc l : List UInt8) (c : Nat), t.size - a = d → strS t a acc = some (l, c) → c ≤ t.size ∧ a < c ∧ l.length ≤ acc.length + (t.size - a) := by
  intro d
  induction d using Nat.strongRecOn with
  | _ d ih =>
    intro a acc l c hd h
    cases hb : byteS t a with
    | none => rw [strS_none hb] at h; cases h
    | some x =>
      rw [strS_some hb] at h
      have hlt := byteS_lt hb
      by_cases h1 : x = 34
      · rw [if_pos h1] at h
        cases h
        omega
      · rw [if_neg h1] at h
        by_cases h2 : x = 92
        · rw [if_pos h2] at h
          cases hb2 : byteS t (a + 1) with
          | none => rw [hb2] at h; cases h
          | some y =>
            rw [hb2] at h
            have hlt2 := byteS_lt hb2
            dsimp only at h
            split at h
            · have := ih (t.size - (a + 2)) (by omega) (a + 2) _ l c rfl h
              simp only [List.length_append, List.length_singleton] at this
              omega
            · cases h
        · rw [if_neg h2] at h
          have := ih (t.size - (a + 1)) (by omega) (a + 1) _ l c rfl h
          simp only [List.length_append, List.length_singleton] at this
          omega
theorem numS_far (t : ByteArray) (p : Nat) : ∀ (d a n m c : Nat), t.size - a = d → a ≤ t.size → numS t p a n = some (m, c) → c ≤ t.size ∧ a ≤ c := by
  intro d
  induction d using Nat.strongRecOn with
  | _ d ih =>
    intro a n m c hd ha h
    rw [numS] at h
    split at h
    · split at h
      · split at h
        · cases h
        · have := ih (t.size - (a + 1)) (by omega) (a + 1) _ m c rfl (by omega) h
          omega
      · cases h; omega
    · cases h; omega
theorem numS_step (t : ByteArray) (p m c : Nat) (hp : p < t.size) (hd : digB (t[p]).toNat = true) (h : numS t p p 0 = some (m, c)) : p < c := by
  rw [numS, dif_pos hp, hd, if_pos rfl] at h
  split at h
  · cases h
  · have := numS_far t p _ (p + 1) _ m c rfl (by omega) h
    omega
theorem skipS_ge (t : ByteArray) (a : Nat) : a ≤ skipS t a := by
  rw [skipS]
  split
  · split
    · have := skipS_ge t (a + 1); omega
    · omega
  · omega
termination_by t.size - a
theorem nextS_far {t : ByteArray} {a k p n c : Nat} {l : List UInt8} (ha : a ≤ t.size) (h : nextS t a = .tok k p n l c) : c ≤ t.size ∧ a ≤ c ∧ l.length ≤ t.size ∧ (k ≠ 0 → a < c) := by
  have h1 := skipS_ge t a
  have h2 := skipS_le t a ha
  unfold nextS nextAt at h
  generalize skipS t a = q at h h1 h2
  split at h
  · rename_i hq
    split at h
    · cases h
      simp; omega
    · split at h
      · rename_i hd
        cases hn : numS t q q 0 with
        | none => rw [hn] at h; cases h
        | some r =>
          obtain ⟨m, c'⟩ := r
          rw [hn] at h
          have f1 := numS_far t q _ q 0 _ _ rfl h2 hn
          have f2 := numS_step t q _ _ hq hd hn
          cases h
          simp; omega
      · split at h
        · cases hn : strS t (q + 1) [] with
          | none => rw [hn] at h; cases h
          | some r =>
            obtain ⟨m, c'⟩ := r
            rw [hn] at h
            have := strS_far t _ (q + 1) [] _ _ rfl hn
            simp at this
            cases h
            refine ⟨this.1, by omega, by omega, fun _ => by omega⟩
        · cases h
  · cases h
    simp; omega
end Go.Proofs.Ytpgamoielkpakaa
