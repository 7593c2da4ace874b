/-
  PROVED HERE: nothing of the program: how the document's answer reckons roots and primes, as plain functions; their values by the kernel.
-/
import Derived.Test.YtpgamoielkpakaaDoorShaTwo
namespace Go.Proofs.YtpgamoielkpakaaDoor.Sha
/-- The carry, and the digits, behind k digits. -/
def tmCar (p : List Nat) (t : Nat) : Nat → Nat
  | 0 => 0
  | k + 1 => (p.getD k 0 * t + tmCar p t k) / 65536
def tmOut (p : List Nat) (t : Nat) : Nat → List Nat
  | 0 => []
  | k + 1 => tmOut p t k ++ [(p.getD k 0 * t + tmCar p t k) % 65536]
def tmFin : Nat → List Nat → Nat → List Nat
  | 0, o, _ => o
  | n + 1, o, c => if c = 0 then o else tmFin n (o ++ [c % 65536]) (c / 65536)
def timesL (p : List Nat) (t : Nat) : List Nat := tmFin 4 (tmOut p t p.length) (tmCar p t p.length)
theorem tmCar_le (p : List Nat) (t : Nat) (hp : ∀ j, p.getD j 0 < 65536) (k : Nat) : tmCar p t k ≤ t := by
  induction k with
  | zero => simp [tmCar]
  | succ k ih =>
    have h1 : p.getD k 0 * t ≤ 65535 * t := Nat.mul_le_mul_right t (by have := hp k; omega)
    simp only [tmCar]
    omega
theorem tmOut_len (p : List Nat) (t k : Nat) : (tmOut p t k).length = k := by
  induction k with
  | zero => rfl
  | succ k ih => simp [tmOut, ih]
theorem getD_app_lt {B : Nat} {l : List Nat} {x : Nat} (hB : 0 < B) (h : ∀ j, l.getD j 0 < B) (hx : x < B) (j : Nat) : (l ++ [x]).getD j 0 < B := by
  by_cases hj : j < l.length
  · have := h j
    simpa [List.getD_eq_getElem?_getD, List.getElem?_append_left hj] using this
  · simp only [List.getD_eq_getElem?_getD, List.getElem?_append_right (show l.length ≤ j by omega)]
    match h2 : j - l.length with
    | 0 => simpa using hx
    | n + 1 => simpa using hB
theorem tmOut_lt (p : List Nat) (t k j : Nat) : (tmOut p t k).getD j 0 < 65536 := by
  induction k generalizing j with
  | zero => simp [tmOut]
  | succ k ih => exact getD_app_lt (by omega) ih (Nat.mod_lt _ (by omega)) j
theorem tmFin_lt (n : Nat) (o : List Nat) (c : Nat) (h : ∀ j, o.getD j 0 < 65536) : ∀ j, (tmFin n o c).getD j 0 < 65536 := by
  induction n generalizing o c with
  | zero => exact h
  | succ n ih =>
    intro j
    simp only [tmFin]
    split
    · exact h j
    · exact ih _ _ (getD_app_lt (by omega) h (Nat.mod_lt _ (by omega))) j
theorem tmFin_len (n : Nat) (o : List Nat) (c : Nat) : o.length ≤ (tmFin n o c).length ∧ (tmFin n o c).length ≤ o.length + n := by
  induction n generalizing o c with
  | zero => simp [tmFin]
  | succ n ih =>
    simp only [tmFin]
    split
    · omega
    · have := ih (o ++ [c % 65536]) (c / 65536)
      simp at this
      omega
theorem timesL_lt (p : List Nat) (t j : Nat) : (timesL p t).getD j 0 < 65536 := tmFin_lt _ _ _ (tmOut_lt p t _) j
theorem timesL_len (p : List Nat) (t : Nat) : p.length ≤ (timesL p t).length ∧ (timesL p t).length ≤ p.length + 4 := by
  have h := tmFin_len 4 (tmOut p t p.length) (tmCar p t p.length)
  rw [tmOut_len] at h
  exact h
def powL (t : Nat) : Nat → List Nat
  | 0 => [1]
  | k + 1 => timesL (powL t k) t
theorem powL_lt (t k j : Nat) : (powL t k).getD j 0 < 65536 := by
  cases k with
  | zero => match j with
    | 0 => simp [powL]
    | n + 1 => simp [powL]
  | succ k => exact timesL_lt _ _ j
theorem powL_len (t k : Nat) : 1 ≤ (powL t k).length ∧ (powL t k).length ≤ 1 + 4 * k := by
  induction k with
  | zero => simp [powL]
  | succ k ih => have := timesL_len (powL t k) t; simp only [powL]; omega
/-- n times 2 to the 32 k, in digits. -/
def qTo (j : Nat) : List Nat := zeros j
def qL (k n : Nat) : List Nat := zeros (2 * k) ++ [n]
/-- No digit from place m on up to place i. -/
def noHi (p : List Nat) (m : Nat) : Nat → Bool
  | 0 => true
  | i + 1 => if m ≤ i ∧ 0 < p.getD i 0 then false else noHi p m i
def cmpTo (p q : List Nat) : Nat → Bool
  | 0 => true
  | i + 1 => if p.getD i 0 = q.getD i 0 then cmpTo p q i else decide (p.getD i 0 < q.getD i 0)
def atMostL (t k n : Nat) : Bool := noHi (powL t k) (2 * k + 1) (powL t k).length && cmpTo (powL t k) (qL k n) (2 * k + 1)
def rootTo (n k : Nat) : Nat → Nat
  | 0 => 0
  | j + 1 => if atMostL (rootTo n k j + 2 ^ (36 - j)) k n then rootTo n k j + 2 ^ (36 - j) else rootTo n k j
theorem rootTo_lt (n k j : Nat) (hj : j ≤ 37) : rootTo n k j + 2 ^ (37 - j) ≤ 2 ^ 37 := by
  induction j with
  | zero => simp [rootTo]
  | succ j ih =>
    have h := ih (by omega)
    rw [show 37 - j = (36 - j) + 1 by omega, Nat.pow_succ] at h
    rw [show 37 - (j + 1) = 36 - j by omega]
    simp only [rootTo]
    split <;> omega
def rootL (n k : Nat) : Nat := rootTo n k 37 % 4294967296
/-- The primes below f + 2. -/
def primesTo : Nat → List Nat
  | 0 => []
  | f + 1 => if (primesTo f).all (fun q => (f + 2) % q != 0) then primesTo f ++ [f + 2] else primesTo f
set_option maxRecDepth 100000 in
theorem primes_310 : (primesTo 310).length = 64 := by decide +kernel
set_option maxRecDepth 100000 in
theorem primes_309 : (primesTo 309).length = 63 := by decide +kernel
theorem primesTo_mono (a b : Nat) (h : a ≤ b) : (primesTo a).length ≤ (primesTo b).length := by
  induction b with
  | zero => simp [show a = 0 by omega]
  | succ b ih =>
    by_cases e : a = b + 1
    · simp [e]
    · have := ih (by omega)
      simp only [primesTo]
      split
      · simp; omega
      · exact this
set_option maxRecDepth 100000 in
theorem roots3 : (primesTo 310).map (fun n => rootL n 3) = kTab := by decide +kernel
set_option maxRecDepth 100000 in
theorem roots2 : ((primesTo 310).take 8).map (fun n => rootL n 2) = [1779033703, 3144134277, 1013904242, 2773480762, 1359893119, 2600822924, 528734635, 1541459225] := by decide +kernel
end Go.Proofs.YtpgamoielkpakaaDoor.Sha
