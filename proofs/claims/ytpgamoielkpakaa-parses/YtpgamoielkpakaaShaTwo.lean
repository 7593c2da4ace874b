/-
  PROVED HERE: nothing of the program: more of the hash's plain mathematics: all blocks, the bytes that are added, the digest and its text.
-/
import Derived.Test.YtpgamoielkpakaaSha
namespace Go.Proofs.Ytpgamoielkpakaa.Sha

theorem block_ok (s : St) (bs : List UInt8) : (block s bs).Ok := add_ok _ _
/-- The eight numbers behind k blocks. -/
def allTo (s : St) (l : List UInt8) : Nat → St
  | 0 => s
  | k + 1 => block (allTo s l k) ((l.drop (64 * k)).take 64)
theorem allTo_ok {s : St} (h : s.Ok) (l : List UInt8) (k : Nat) : (allTo s l k).Ok := by
  cases k with
  | zero => exact h
  | succ k => exact block_ok _ _

def start : St := ⟨1779033703, 3144134277, 1013904242, 2773480762, 1359893119, 2600822924, 528734635, 1541459225⟩
theorem start_ok : start.Ok := ⟨by decide, by decide, by decide, by decide, by decide, by decide, by decide, by decide⟩

/-- The 32 bytes of eight numbers, as they are laid four a round. -/
def dBytes (l : List Nat) : Nat → List Nat
  | 0 => zeros 32
  | i + 1 => ((((dBytes l i).set (4 * i) (l.getD i 0 / 16777216 % 256)).set (4 * i + 1) (l.getD i 0 / 65536 % 256)).set (4 * i + 2) (l.getD i 0 / 256 % 256)).set (4 * i + 3) (l.getD i 0 % 256)
theorem dBytes_len (l : List Nat) (i : Nat) : (dBytes l i).length = 32 := by
  induction i with
  | zero => simp [dBytes, zeros]
  | succ i ih => simp [dBytes, ih]
theorem getD_set_lt' {B : Nat} {ws : List Nat} (hB : 0 < B) (h : ∀ i, ws.getD i 0 < B) (k n : Nat) (hn : n < B) (i : Nat) : (ws.set k n).getD i 0 < B := by
  have := h i
  simp only [List.getD_eq_getElem?_getD, List.getElem?_set] at *
  split
  · split
    · exact hn
    · exact hB
  · exact this
theorem dBytes_lt (l : List Nat) (k i : Nat) : (dBytes l k).getD i 0 < 256 := by
  induction k generalizing i with
  | zero =>
    simp only [dBytes, zeros, List.getD_eq_getElem?_getD, List.getElem?_replicate]
    split <;> simp
  | succ k ih =>
    have p : 0 < 256 := by omega
    exact getD_set_lt' p (getD_set_lt' p (getD_set_lt' p (getD_set_lt' p ih _ _ (Nat.mod_lt _ p)) _ _ (Nat.mod_lt _ p)) _ _ (Nat.mod_lt _ p)) _ _ (Nat.mod_lt _ p) i
def St.list (s : St) : List Nat := [s.a, s.b, s.c, s.d, s.e, s.f, s.g, s.h]
def digest (s : St) : List Nat := dBytes s.list 8

/-- The letter of a number below 16. -/
def letters : List UInt8 := [48, 49, 50, 51, 52, 53, 54, 55, 56, 57, 97, 98, 99, 100, 101, 102]
def hexd (n : Nat) : UInt8 := letters.getD n 0
/-- The text behind k bytes. -/
def textTo (bs : List Nat) : Nat → List UInt8
  | 0 => []
  | k + 1 => textTo bs k ++ [hexd (bs.getD k 0 / 16), hexd (bs.getD k 0 % 16)]
theorem textTo_len (bs : List Nat) (k : Nat) : (textTo bs k).length = 2 * k := by
  induction k with
  | zero => rfl
  | succ k ih => simp [textTo, ih]; omega

/-- What stands behind k noughts of the filling, then behind k bytes of the length. -/
def fillZ (l : List UInt8) : Nat → List UInt8
  | 0 => l ++ [128]
  | k + 1 => fillZ l k ++ [0]
theorem fillZ_len (l : List UInt8) (k : Nat) : (fillZ l k).length = l.length + 1 + k := by
  induction k with
  | zero => simp [fillZ]
  | succ k ih => simp [fillZ, ih]; omega
def fillL (l : List UInt8) (n : Nat) : Nat → List UInt8
  | 0 => l
  | k + 1 => fillL l n k ++ [UInt8.ofNat (n / 2 ^ (8 * (7 - k)) % 256)]
theorem fillL_len (l : List UInt8) (n k : Nat) : (fillL l n k).length = l.length + k := by
  induction k with
  | zero => simp [fillL]
  | succ k ih => simp [fillL, ih]; omega
/-- How many noughts. -/
def gap (n : Nat) : Nat := (119 - n % 64) % 64
def fill (l : List UInt8) (n : Nat) : List UInt8 := fillL (fillZ l (gap l.length)) (n * 8 % 18446744073709551616) 8
theorem fill_len (l : List UInt8) (n : Nat) : (fill l n).length = l.length + 9 + gap l.length := by
  simp only [fill, fillL_len, fillZ_len]; omega
theorem fill_mod (l : List UInt8) (n : Nat) : (fill l n).length % 64 = 0 := by
  rw [fill_len]; unfold gap; omega

def whole (l : List UInt8) : Nat := l.length / 64 * 64
def state (l : List UInt8) : St :=
  allTo (allTo start (l.take (whole l)) (l.length / 64)) (fill (l.drop (whole l)) l.length) ((fill (l.drop (whole l)) l.length).length / 64)
theorem state_ok (l : List UInt8) : (state l).Ok := allTo_ok (allTo_ok start_ok _ _) _ _
def hash (l : List UInt8) : List UInt8 := textTo (digest (state l)) 32

set_option maxRecDepth 100000 in
theorem hash_empty : hash [] = [101, 51, 98, 48, 99, 52, 52, 50, 57, 56, 102, 99, 49, 99, 49, 52, 57, 97, 102, 98, 102, 52, 99, 56, 57, 57, 54, 102, 98, 57, 50, 52, 50, 55, 97, 101, 52, 49, 101, 52, 54, 52, 57, 98, 57, 51, 52, 99, 97, 52, 57, 53, 57, 57, 49, 98, 55, 56, 53, 50, 98, 56, 53, 53] := by decide +kernel
set_option maxRecDepth 100000 in
theorem hash_abc : hash [97, 98, 99] = [98, 97, 55, 56, 49, 54, 98, 102, 56, 102, 48, 49, 99, 102, 101, 97, 52, 49, 52, 49, 52, 48, 100, 101, 53, 100, 97, 101, 50, 50, 50, 51, 98, 48, 48, 51, 54, 49, 97, 51, 57, 54, 49, 55, 55, 97, 57, 99, 98, 52, 49, 48, 102, 102, 54, 49, 102, 50, 48, 48, 49, 53, 97, 100] := by decide +kernel
end Go.Proofs.Ytpgamoielkpakaa.Sha
