/-
  PROVED HERE: nothing of the program: filling up the whole content or its rest alone comes to one; the text of eight numbers by bytes and by half bytes is one: plain mathematics.
-/
import Derived.Test.YtpgamoielkpakaaDoorRefNum
namespace Go.Proofs.YtpgamoielkpakaaDoor.Sha
theorem fillZ_app (a b : List UInt8) (k : Nat) : fillZ (a ++ b) k = a ++ fillZ b k := by
  induction k with
  | zero => simp [fillZ]
  | succ k ih => simp [fillZ, ih]
theorem fillL_app (a b : List UInt8) (n k : Nat) : fillL (a ++ b) n k = a ++ fillL b n k := by
  induction k with
  | zero => simp [fillL]
  | succ k ih => simp [fillL, ih]
theorem fill_split (a b : List UInt8) (n : Nat) (h : a.length % 64 = 0) : fill (a ++ b) n = a ++ fill b n := by
  unfold fill
  have hg : gap (a ++ b).length = gap b.length := by rw [List.length_append]; unfold gap; omega
  rw [hg, fillZ_app, fillL_app]
theorem allTo_left (s : St) (a b : List UInt8) (k : Nat) (h : 64 * k ≤ a.length) : allTo s (a ++ b) k = allTo s a k := by
  induction k with
  | zero => rfl
  | succ k ih =>
    rw [allTo, allTo, ih (by omega), List.drop_append_of_le_length (by omega), List.take_append_of_le_length (by rw [List.length_drop]; omega)]
theorem allTo_app (s : St) (a b : List UInt8) (p q : Nat) (h : a.length = 64 * p) : allTo s (a ++ b) (p + q) = allTo (allTo s a p) b q := by
  induction q with
  | zero => exact allTo_left s a b p (by omega)
  | succ q ih =>
    have hd : (a ++ b).drop (64 * (p + q)) = b.drop (64 * q) := by
      rw [show 64 * (p + q) = a.length + 64 * q by omega, List.drop_length_add_append]
    rw [← Nat.add_assoc, allTo, allTo, ih, hd]
theorem state_eq (l : List UInt8) : allTo start (fill l l.length) ((fill l l.length).length / 64) = state l := by
  have hw : (l.take (whole l)).length = 64 * (l.length / 64) := by rw [List.length_take]; unfold whole; omega
  have e : fill l l.length = l.take (whole l) ++ fill (l.drop (whole l)) l.length := by
    have := fill_split (l.take (whole l)) (l.drop (whole l)) l.length (by omega)
    rw [List.take_append_drop] at this
    exact this
  have hm := fill_mod (l.drop (whole l)) l.length
  rw [e, List.length_append, hw, show (64 * (l.length / 64) + (fill (l.drop (whole l)) l.length).length) / 64 = l.length / 64 + (fill (l.drop (whole l)) l.length).length / 64 by omega, allTo_app _ _ _ _ _ hw]
  rfl

theorem dBytes_at (l : List Nat) (k i : Nat) (hi : i < k) (hk : k ≤ 8) : (dBytes l k).getD (4 * i) 0 = l.getD i 0 / 16777216 % 256 ∧ (dBytes l k).getD (4 * i + 1) 0 = l.getD i 0 / 65536 % 256 ∧ (dBytes l k).getD (4 * i + 2) 0 = l.getD i 0 / 256 % 256 ∧ (dBytes l k).getD (4 * i + 3) 0 = l.getD i 0 % 256 := by
  induction k with
  | zero => omega
  | succ k ih =>
    have hl := dBytes_len l k
    by_cases e : i = k
    · subst e
      simp only [dBytes, List.getD_eq_getElem?_getD, List.getElem?_set, List.length_set]
      simp [hl, show 4 * i < 32 by omega, show 4 * i + 1 < 32 by omega, show 4 * i + 2 < 32 by omega, show 4 * i + 3 < 32 by omega]
    · have := ih (by omega) (by omega)
      simp only [dBytes, List.getD_eq_getElem?_getD, List.getElem?_set] at *
      refine ⟨?_, ?_, ?_, ?_⟩
      · rw [if_neg (by omega), if_neg (by omega), if_neg (by omega), if_neg (by omega)]; exact this.1
      · rw [if_neg (by omega), if_neg (by omega), if_neg (by omega), if_neg (by omega)]; exact this.2.1
      · rw [if_neg (by omega), if_neg (by omega), if_neg (by omega), if_neg (by omega)]; exact this.2.2.1
      · rw [if_neg (by omega), if_neg (by omega), if_neg (by omega), if_neg (by omega)]; exact this.2.2.2
end Go.Proofs.YtpgamoielkpakaaDoor.Sha
