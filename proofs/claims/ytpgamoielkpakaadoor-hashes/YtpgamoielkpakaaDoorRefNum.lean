/-
  PROVED HERE: nothing of the program: the document's answer on bits, one by one, against numbers of 32 bits: plain mathematics.
-/
import Derived.Test.YtpgamoielkpakaaDoorShaTwo
namespace Go.Proofs.YtpgamoielkpakaaDoor.Sha

/-- The bits behind k rounds, the least first laid at the end. -/
def bitsTo (n : Nat) : Nat → List Nat
  | 0 => zeros 32
  | k + 1 => (bitsTo n k).set (31 - k) (n / 2 ^ k % 2)
theorem bitsTo_len (n k : Nat) : (bitsTo n k).length = 32 := by
  induction k with
  | zero => simp [bitsTo, zeros]
  | succ k ih => simp [bitsTo, ih]
theorem bitsTo_at (n k j : Nat) (hk : k ≤ 32) (hj : j < 32) (h : 32 - k ≤ j) : (bitsTo n k).getD j 0 = n / 2 ^ (31 - j) % 2 := by
  induction k with
  | zero => omega
  | succ k ih =>
    have hl := bitsTo_len n k
    simp only [bitsTo, List.getD_eq_getElem?_getD, List.getElem?_set] at *
    by_cases e : 31 - k = j
    · subst e
      rw [if_pos rfl, if_pos (by omega), show 31 - (31 - k) = k by omega]
      rfl
    · rw [if_neg e]
      exact ih (by omega) (by omega)
def bitsL (n : Nat) : List Nat := bitsTo n 32
theorem bitsL_len (n : Nat) : (bitsL n).length = 32 := bitsTo_len n 32
theorem bitsL_at (n j : Nat) (hj : j < 32) : (bitsL n).getD j 0 = n / 2 ^ (31 - j) % 2 := bitsTo_at n 32 j (by omega) hj (by omega)
theorem bitsL_le (n j : Nat) : (bitsL n).getD j 0 ≤ 1 := by
  by_cases hj : j < 32
  · rw [bitsL_at n j hj]; omega
  · have hl := bitsL_len n
    simp [List.getD_eq_getElem?_getD, List.getElem?_eq_none (show (bitsL n).length ≤ j by omega)]

def numTo (l : List Nat) : Nat → Nat
  | 0 => 0
  | k + 1 => 2 * numTo l k + l.getD k 0
theorem numTo_lt (l : List Nat) (h : ∀ j, l.getD j 0 ≤ 1) (k : Nat) : numTo l k < 2 ^ k := by
  induction k with
  | zero => simp [numTo]
  | succ k ih => have := h k; simp only [numTo, Nat.pow_succ]; omega
theorem numTo_div (l : List Nat) (y : Nat) (hy : y < 4294967296) (h : ∀ j, j < 32 → l.getD j 0 = y / 2 ^ (31 - j) % 2) (k : Nat) (hk : k ≤ 32) : numTo l k = y / 2 ^ (32 - k) := by
  induction k with
  | zero => simp only [numTo]; exact (Nat.div_eq_of_lt (by omega)).symm
  | succ k ih =>
    rw [numTo, ih (by omega), h k (by omega), show 32 - (k + 1) = 31 - k by omega, show 32 - k = (31 - k) + 1 by omega, Nat.pow_succ, ← Nat.div_div_eq_div_mul]
    omega
theorem numTo_eq (l : List Nat) (y : Nat) (hy : y < 4294967296) (h : ∀ j, j < 32 → l.getD j 0 = y / 2 ^ (31 - j) % 2) : numTo l 32 = y := by
  rw [numTo_div l y hy h 32 (by omega)]
  simp

theorem bit_toNat (y m : Nat) : y / 2 ^ m % 2 = (y.testBit m).toNat := (Nat.toNat_testBit y m).symm
theorem rotr_bit (x r m : Nat) (hx : x < 4294967296) (h0 : 0 < r) (hr : r < 32) (hm : m < 32) : (rotr x r).testBit m = x.testBit (if m + r < 32 then m + r else m + r - 32) := by
  unfold rotr
  rw [Nat.testBit_or, show (4294967296 : Nat) = 2 ^ 32 from rfl, Nat.testBit_mod_two_pow, Nat.testBit_mul_two_pow, Nat.testBit_div_two_pow]
  have big : ∀ i, 32 ≤ i → x.testBit i = false := fun i hi => Nat.testBit_lt_two_pow (Nat.lt_of_lt_of_le hx (by have := Nat.pow_le_pow_right (n := 2) (by omega) hi; omega))
  split
  · next h => simp [show ¬ 32 - r ≤ m by omega, Nat.add_comm]
  · next h =>
    rw [big (m + r) (by omega)]
    simp [hm, show 32 - r ≤ m by omega, show m - (32 - r) = m + r - 32 by omega]

def mixTo (f : List Nat) (a b c : Nat) (moved : Bool) : Nat → List Nat
  | 0 => zeros 32
  | k + 1 => (mixTo f a b c moved k).set k ((f.getD ((k + 32 - a) % 32) 0 + f.getD ((k + 32 - b) % 32) 0 + (if moved && decide (k < c) then 0 else f.getD ((k + 32 - c) % 32) 0)) % 2)
theorem mixTo_len (f : List Nat) (a b c : Nat) (moved : Bool) (k : Nat) : (mixTo f a b c moved k).length = 32 := by
  induction k with
  | zero => simp [mixTo, zeros]
  | succ k ih => simp [mixTo, ih]
theorem mixTo_at (f : List Nat) (a b c : Nat) (moved : Bool) (k j : Nat) (hk : k ≤ 32) (hj : j < k) : (mixTo f a b c moved k).getD j 0 = (f.getD ((j + 32 - a) % 32) 0 + f.getD ((j + 32 - b) % 32) 0 + (if moved && decide (j < c) then 0 else f.getD ((j + 32 - c) % 32) 0)) % 2 := by
  induction k with
  | zero => omega
  | succ k ih =>
    have hl := mixTo_len f a b c moved k
    simp only [mixTo, List.getD_eq_getElem?_getD, List.getElem?_set] at *
    by_cases e : k = j
    · subst e
      rw [if_pos rfl, if_pos (by omega)]
      rfl
    · rw [if_neg e]
      exact ih (by omega) (by omega)
theorem mixTo_le (f : List Nat) (a b c : Nat) (moved : Bool) (j : Nat) : (mixTo f a b c moved 32).getD j 0 ≤ 1 := by
  by_cases hj : j < 32
  · rw [mixTo_at f a b c moved 32 j (by omega) hj]; omega
  · have hl := mixTo_len f a b c moved 32
    simp [List.getD_eq_getElem?_getD, List.getElem?_eq_none (show (mixTo f a b c moved 32).length ≤ j by omega)]

theorem turn_at (x r j : Nat) (hx : x < 4294967296) (h0 : 0 < r) (hr : r < 32) (hj : j < 32) : (bitsL x).getD ((j + 32 - r) % 32) 0 = ((rotr x r).testBit (31 - j)).toNat := by
  rw [bitsL_at x _ (Nat.mod_lt _ (by omega)), bit_toNat, rotr_bit x r (31 - j) hx h0 hr (by omega)]
  congr 2
  split <;> omega
theorem xor3 (p q r : Bool) : (p.toNat + q.toNat + r.toNat) % 2 = ((p ^^ q) ^^ r).toNat := by cases p <;> cases q <;> cases r <;> rfl
theorem mixed_big3 (x a b c : Nat) (hx : x < 4294967296) (ha : 0 < a) (ha2 : a < 32) (hb : 0 < b) (hb2 : b < 32) (hc : 0 < c) (hc2 : c < 32) : numTo (mixTo (bitsL x) a b c false 32) 32 = big3 x a b c := by
  refine numTo_eq _ _ (big3_lt hx) fun j hj => ?_
  rw [mixTo_at _ _ _ _ _ 32 j (by omega) hj, turn_at x a j hx ha ha2 hj, turn_at x b j hx hb hb2 hj, bit_toNat]
  simp only [Bool.false_and, Bool.false_eq_true, if_false]
  rw [turn_at x c j hx hc hc2 hj, xor3]
  unfold big3
  rw [Nat.testBit_xor, Nat.testBit_xor]
theorem mixed_sm3 (x a b c : Nat) (hx : x < 4294967296) (ha : 0 < a) (ha2 : a < 32) (hb : 0 < b) (hb2 : b < 32) (hc : 0 < c) (hc2 : c < 32) : numTo (mixTo (bitsL x) a b c true 32) 32 = sm3 x a b c := by
  refine numTo_eq _ _ (sm3_lt hx) fun j hj => ?_
  rw [mixTo_at _ _ _ _ _ 32 j (by omega) hj, turn_at x a j hx ha ha2 hj, turn_at x b j hx hb hb2 hj, bit_toNat]
  have e : (if (true && decide (j < c)) = true then 0 else (bitsL x).getD ((j + 32 - c) % 32) 0) = ((x / 2 ^ c).testBit (31 - j)).toNat := by
    rw [Nat.testBit_div_two_pow]
    by_cases h : j < c
    · have : x.testBit (31 - j + c) = false := Nat.testBit_lt_two_pow (Nat.lt_of_lt_of_le hx (by have := Nat.pow_le_pow_right (n := 2) (by omega) (show 32 ≤ 31 - j + c by omega); omega))
      simp [h, this]
    · simp only [h, decide_false, Bool.and_false, Bool.false_eq_true, if_false]
      rw [show (j + 32 - c) % 32 = j - c by omega, bitsL_at x _ (by omega), bit_toNat, show 31 - (j - c) = 31 - j + c by omega, Nat.add_comm]
  rw [e, xor3]
  unfold sm3
  rw [Nat.testBit_xor, Nat.testBit_xor]

def choTo (x y z : List Nat) : Nat → List Nat
  | 0 => y
  | k + 1 => if x.getD k 0 = 0 then (choTo x y z k).set k (z.getD k 0) else choTo x y z k
theorem choTo_len (x y z : List Nat) (k : Nat) : (choTo x y z k).length = y.length := by
  induction k with
  | zero => rfl
  | succ k ih => simp only [choTo]; split <;> simp [ih]
theorem choTo_past (x y z : List Nat) (k j : Nat) (h : k ≤ j) : (choTo x y z k).getD j 0 = y.getD j 0 := by
  induction k with
  | zero => rfl
  | succ k ih =>
    have := ih (by omega)
    simp only [choTo]
    split
    · simp only [List.getD_eq_getElem?_getD, List.getElem?_set] at *
      rw [if_neg (by omega)]
      exact this
    · exact this
theorem choTo_at (x y z : List Nat) (k j : Nat) (hj : j < k) (hl : k ≤ y.length) : (choTo x y z k).getD j 0 = if x.getD j 0 = 0 then z.getD j 0 else y.getD j 0 := by
  induction k with
  | zero => omega
  | succ k ih =>
    have hlen := choTo_len x y z k
    simp only [choTo]
    by_cases e : k = j
    · subst e
      split
      · simp only [List.getD_eq_getElem?_getD, List.getElem?_set]
        rw [if_pos (by simp), if_pos (by omega)]
        rfl
      · exact choTo_past x y z k k (Nat.le_refl _)
    · have := ih (by omega) (by omega)
      split
      · simp only [List.getD_eq_getElem?_getD, List.getElem?_set] at *
        rw [if_neg e]
        exact this
      · exact this
theorem not_bit (e m : Nat) (he : e < 4294967296) (hm : m < 32) : (4294967295 - e).testBit m = !e.testBit m := by
  rw [show 4294967295 - e = 2 ^ 32 - (e + 1) by omega, Nat.testBit_two_pow_sub_succ (by omega)]
  simp [hm]
theorem chosen_eq (e f g : Nat) (he : e < 4294967296) : numTo (choTo (bitsL e) (bitsL f) (bitsL g) 32) 32 = chs e f g := by
  refine numTo_eq _ _ (chs_lt he) fun j hj => ?_
  rw [choTo_at _ _ _ 32 j hj (by rw [bitsL_len]; omega), bitsL_at e j hj, bitsL_at f j hj, bitsL_at g j hj, bit_toNat, bit_toNat, bit_toNat, bit_toNat]
  unfold chs
  rw [Nat.testBit_xor, Nat.testBit_and, Nat.testBit_and, not_bit e _ he (by omega)]
  cases e.testBit (31 - j) <;> cases f.testBit (31 - j) <;> cases g.testBit (31 - j) <;> rfl

def mosTo (x y z : List Nat) : Nat → List Nat
  | 0 => x
  | k + 1 => (mosTo x y z k).set k ((x.getD k 0 + y.getD k 0 + z.getD k 0) / 2)
theorem mosTo_len (x y z : List Nat) (k : Nat) : (mosTo x y z k).length = x.length := by
  induction k with
  | zero => rfl
  | succ k ih => simp [mosTo, ih]
theorem mosTo_past (x y z : List Nat) (k j : Nat) (h : k ≤ j) : (mosTo x y z k).getD j 0 = x.getD j 0 := by
  induction k with
  | zero => rfl
  | succ k ih =>
    have := ih (by omega)
    simp only [mosTo, List.getD_eq_getElem?_getD, List.getElem?_set] at *
    rw [if_neg (by omega)]
    exact this
theorem mosTo_at (x y z : List Nat) (k j : Nat) (hj : j < k) (hl : k ≤ x.length) : (mosTo x y z k).getD j 0 = (x.getD j 0 + y.getD j 0 + z.getD j 0) / 2 := by
  induction k with
  | zero => omega
  | succ k ih =>
    have hlen := mosTo_len x y z k
    simp only [mosTo, List.getD_eq_getElem?_getD, List.getElem?_set] at *
    by_cases e : k = j
    · subst e
      rw [if_pos rfl, if_pos (by omega)]
      rfl
    · rw [if_neg e]
      exact ih (by omega) (by omega)
theorem most_eq (a b c : Nat) (ha : a < 4294967296) (hb : b < 4294967296) : numTo (mosTo (bitsL a) (bitsL b) (bitsL c) 32) 32 = maj a b c := by
  refine numTo_eq _ _ (maj_lt ha hb) fun j hj => ?_
  rw [mosTo_at _ _ _ 32 j hj (by rw [bitsL_len]; omega), bitsL_at a j hj, bitsL_at b j hj, bitsL_at c j hj, bit_toNat, bit_toNat, bit_toNat, bit_toNat]
  unfold maj
  rw [Nat.testBit_xor, Nat.testBit_xor, Nat.testBit_and, Nat.testBit_and, Nat.testBit_and]
  cases a.testBit (31 - j) <;> cases b.testBit (31 - j) <;> cases c.testBit (31 - j) <;> rfl
theorem le_one_of {l : List Nat} {y : Nat} (hl : l.length = 32) (h : ∀ j, j < 32 → l.getD j 0 = y / 2 ^ (31 - j) % 2) (j : Nat) : l.getD j 0 ≤ 1 := by
  by_cases hj : j < 32
  · rw [h j hj]; omega
  · simp [List.getD_eq_getElem?_getD, List.getElem?_eq_none (show l.length ≤ j by omega)]
theorem choTo_le (e f g j : Nat) : (choTo (bitsL e) (bitsL f) (bitsL g) 32).getD j 0 ≤ 1 := by
  by_cases hj : j < 32
  · rw [choTo_at _ _ _ 32 j hj (by rw [bitsL_len]; omega)]
    have := bitsL_le f j
    have := bitsL_le g j
    split <;> omega
  · have hl := choTo_len (bitsL e) (bitsL f) (bitsL g) 32
    have := bitsL_len f
    simp [List.getD_eq_getElem?_getD, List.getElem?_eq_none (show (choTo (bitsL e) (bitsL f) (bitsL g) 32).length ≤ j by omega)]
theorem mosTo_le (a b c j : Nat) : (mosTo (bitsL a) (bitsL b) (bitsL c) 32).getD j 0 ≤ 1 := by
  by_cases hj : j < 32
  · rw [mosTo_at _ _ _ 32 j hj (by rw [bitsL_len]; omega)]
    have := bitsL_le a j
    have := bitsL_le b j
    have := bitsL_le c j
    omega
  · have hl := mosTo_len (bitsL a) (bitsL b) (bitsL c) 32
    have := bitsL_len a
    simp [List.getD_eq_getElem?_getD, List.getElem?_eq_none (show (mosTo (bitsL a) (bitsL b) (bitsL c) 32).length ≤ j by omega)]
end Go.Proofs.YtpgamoielkpakaaDoor.Sha
