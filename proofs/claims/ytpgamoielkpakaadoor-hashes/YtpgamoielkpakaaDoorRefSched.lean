/-
  PROVED HERE: nothing of the program: the document's answer's 64 numbers of a block, appended one by one, are those of the program: plain mathematics.
-/
import Derived.Test.YtpgamoielkpakaaDoorRefNum
import Derived.Laws.BitsAllLaws
namespace Go.Proofs.YtpgamoielkpakaaDoor.Sha
def nTo (bs : List UInt8) (i : Nat) : Nat → Nat
  | 0 => 0
  | k + 1 => 256 * nTo bs i k + byteAt bs (4 * i + k)
theorem nTo_lt (bs : List UInt8) (i k : Nat) : nTo bs i k < 256 ^ k := by
  induction k with
  | zero => simp [nTo]
  | succ k ih => have := byteAt_lt bs (4 * i + k); simp only [nTo, Nat.pow_succ]; omega
theorem word4_sum (a b c d : Nat) (hb : b < 256) (hc : c < 256) (hd : d < 256) : word4 a b c d = ((a * 256 + b) * 256 + c) * 256 + d := by
  unfold word4
  rw [nat_join 24 (a * 16777216) (b * 65536) (by omega) (by omega), nat_join 16 (a * 16777216 + b * 65536) (c * 256) (by omega) (by omega), nat_join 8 (a * 16777216 + b * 65536 + c * 256) d (by omega) (by omega)]
  omega
theorem nTo_four (bs : List UInt8) (i : Nat) : nTo bs i 4 = wordAt bs i := by
  unfold wordAt
  rw [word4_sum _ _ _ _ (byteAt_lt _ _) (byteAt_lt _ _) (byteAt_lt _ _)]
  simp only [nTo, Nat.add_zero]
  omega
def scA (bs : List UInt8) : Nat → List Nat
  | 0 => []
  | k + 1 => scA bs k ++ [wordAt bs k]
def scB (bs : List UInt8) : Nat → List Nat
  | 0 => scA bs 16
  | k + 1 => scB bs k ++ [wNext (scB bs k) (k + 16)]
theorem scA_len (bs : List UInt8) (k : Nat) : (scA bs k).length = k := by
  induction k with
  | zero => rfl
  | succ k ih => simp [scA, ih]
theorem scB_len (bs : List UInt8) (k : Nat) : (scB bs k).length = k + 16 := by
  induction k with
  | zero => exact scA_len bs 16
  | succ k ih => simp [scB, ih]
theorem getD_app (l m : List Nat) (j : Nat) (h : j < l.length) : (l ++ m).getD j 0 = l.getD j 0 := by
  simp [List.getD_eq_getElem?_getD, List.getElem?_append_left h]
theorem getD_last (l : List Nat) (x : Nat) : (l ++ [x]).getD l.length 0 = x := by simp [List.getD_eq_getElem?_getD]
theorem getD_set_ne (l : List Nat) (k j x : Nat) (h : k ≠ j) : (l.set k x).getD j 0 = l.getD j 0 := by
  simp [List.getD_eq_getElem?_getD, h]
theorem getD_set_same (l : List Nat) (k x : Nat) (h : k < l.length) : (l.set k x).getD k 0 = x := by
  simp [List.getD_eq_getElem?_getD, h]
theorem scA_at (bs : List UInt8) (k j : Nat) (hk : k ≤ 64) (hj : j < k) : (scA bs k).getD j 0 = (wOne bs k).getD j 0 := by
  induction k with
  | zero => omega
  | succ k ih =>
    have hl := scA_len bs k
    by_cases e : j = k
    · subst e
      have := getD_last (scA bs j) (wordAt bs j)
      rw [hl] at this
      rw [scA, this, wOne, getD_set_same _ _ _ (by rw [wOne_len]; omega)]
    · rw [scA, getD_app _ _ _ (by omega), ih (by omega) (by omega), wOne, getD_set_ne _ _ _ _ (by omega)]
theorem wNext_congr (l m : List Nat) (i : Nat) (hi : 16 ≤ i) (h : ∀ j, j < i → l.getD j 0 = m.getD j 0) : wNext l i = wNext m i := by
  unfold wNext
  rw [h (i - 2) (by omega), h (i - 7) (by omega), h (i - 15) (by omega), h (i - 16) (by omega)]
theorem scB_at (bs : List UInt8) (k j : Nat) (hk : k ≤ 48) (hj : j < k + 16) : (scB bs k).getD j 0 = (wTwo bs k).getD j 0 := by
  induction k generalizing j with
  | zero => exact scA_at bs 16 j (by omega) (by omega)
  | succ k ih =>
    have hl := scB_len bs k
    by_cases e : j = k + 16
    · subst e
      have := getD_last (scB bs k) (wNext (scB bs k) (k + 16))
      rw [hl] at this
      rw [scB, this, wTwo, getD_set_same _ _ _ (by rw [wTwo_len]; omega)]
      exact wNext_congr _ _ _ (by omega) fun j hj => ih j (by omega) hj
    · rw [scB, getD_app _ _ _ (by omega), ih j (by omega) (by omega), wTwo, getD_set_ne _ _ _ _ (by omega)]
theorem scB_words (bs : List UInt8) : scB bs 48 = words bs := by
  have h1 := scB_len bs 48
  have h2 := words_len bs
  apply List.ext_getElem (by omega)
  intro j hj1 hj2
  have := scB_at bs 48 j (by omega) (by omega)
  have hj3 : j < (wTwo bs 48).length := hj2
  simp only [List.getD_eq_getElem?_getD, List.getElem?_eq_getElem hj1, List.getElem?_eq_getElem hj3, Option.getD_some] at this
  exact this
theorem scB_lt (bs : List UInt8) (k j : Nat) (hk : k ≤ 48) : (scB bs k).getD j 0 < 4294967296 := by
  by_cases hj : j < k + 16
  · rw [scB_at bs k j hk hj]; exact wTwo_lt bs k j
  · have hl := scB_len bs k
    simp [List.getD_eq_getElem?_getD, List.getElem?_eq_none (show (scB bs k).length ≤ j by omega)]
end Go.Proofs.YtpgamoielkpakaaDoor.Sha
