/-
  PROVED HERE: blobslaw.Hashes answers true for every content within the reach, in every world that holds the table of cube roots: nothing that was there has turned.
-/
import Derived.Test.YtpgamoielkpakaaDoorRefEnd
import Derived.Test.YtpgamoielkpakaaDoorRefHash
namespace Go.Proofs.YtpgamoielkpakaaDoor
open Go.RowKit
theorem nibs8 (x : Nat) : nibs x 8 = [Sha.hexd (x / 16777216 % 256 / 16), Sha.hexd (x / 16777216 % 256 % 16), Sha.hexd (x / 65536 % 256 / 16), Sha.hexd (x / 65536 % 256 % 16), Sha.hexd (x / 256 % 256 / 16), Sha.hexd (x / 256 % 256 % 16), Sha.hexd (x % 256 / 16), Sha.hexd (x % 256 % 16)] := by
  have e0 : x / 268435456 % 16 = x / 16777216 % 256 / 16 := by omega
  have e1 : x / 16777216 % 16 = x / 16777216 % 256 % 16 := by omega
  have e2 : x / 1048576 % 16 = x / 65536 % 256 / 16 := by omega
  have e3 : x / 65536 % 16 = x / 65536 % 256 % 16 := by omega
  have e4 : x / 4096 % 16 = x / 256 % 256 / 16 := by omega
  have e5 : x / 256 % 16 = x / 256 % 256 % 16 := by omega
  have e6 : x / 16 % 16 = x % 256 / 16 := by omega
  have e7 : x % 16 = x % 256 % 16 := by omega
  have h : nibs x 8 = [Sha.hexd (x / 268435456 % 16), Sha.hexd (x / 16777216 % 16), Sha.hexd (x / 1048576 % 16), Sha.hexd (x / 65536 % 16), Sha.hexd (x / 4096 % 16), Sha.hexd (x / 256 % 16), Sha.hexd (x / 16 % 16), Sha.hexd (x / 1 % 16)] := rfl
  rw [h, Nat.div_one, e0, e1, e2, e3, e4, e5, e6, e7]
theorem textN_to (l : List Nat) (i : Nat) (hi : i ≤ 8) : textN l i = Sha.textTo (Sha.dBytes l 8) (4 * i) := by
  induction i with
  | zero => rfl
  | succ i ih =>
    obtain ⟨d0, d1, d2, d3⟩ := Sha.dBytes_at l 8 i (by omega) (by omega)
    rw [textN, ih (by omega), nibs8, show 4 * (i + 1) = 4 * i + 3 + 1 by omega, Sha.textTo, Sha.textTo, Sha.textTo, Sha.textTo, d0, d1, d2, d3]
    simp
theorem textN_eq (st : Sha.St) : textN st.list 8 = Sha.textTo (Sha.digest st) 32 := textN_to st.list 8 (Nat.le_refl _)
theorem getD_map_ge (P : List Nat) (f : Nat → Nat) (j : Nat) (hj : j < P.length) : (P.map f).getD j 0 = f (P.getD j 0) := by
  simp [List.getD_eq_getElem?_getD, hj]
theorem getD_take (P : List Nat) (n j : Nat) (hj : j < n) : (P.take n).getD j 0 = P.getD j 0 := by
  simp [List.getD_eq_getElem?_getD, hj]
set_option maxRecDepth 100000 in
theorem kTab_lt : ∀ j, Sha.kTab.getD j 0 < 4294967296 := by
  intro j
  by_cases hj : j < 64
  · have : ∀ j : Fin 64, Sha.kTab.getD j.val 0 < 4294967296 := by decide
    exact this ⟨j, hj⟩
  · have hl : Sha.kTab.length = 64 := by decide
    simp [List.getD_eq_getElem?_getD, List.getElem?_eq_none (show Sha.kTab.length ≤ j by omega)]
set_option maxRecDepth 100000 in
theorem start_hTo : cellsI (hTo (((Sha.primesTo 310).take 8).map (fun n => Sha.rootL n 2)) 64) = valsI Sha.start := by
  rw [Sha.roots2]
  have h : hTo [1779033703, 3144134277, 1013904242, 2773480762, 1359893119, 2600822924, 528734635, 1541459225] 64 = [1779033703, 3144134277, 1013904242, 2773480762, 1359893119, 2600822924, 528734635, 1541459225] := by decide
  rw [h]
  rfl
theorem refHash_any (s : ByteArray) (w : World) (hs : s.size ≤ 140737488351232) :
    Calls Tryd.prog 8 #[.string s] w fun e w' => e = .returned (.string ⟨(Sha.hash s.data.toList).toArray⟩) ∧ Below w.heap.size w w' := by
  have hP := Sha.primes_310
  have hpl : ∀ j, (Sha.primesTo 310).getD j 0 < 65536 := fun j => by
    by_cases hj : j < (Sha.primesTo 310).length
    · have := (primesTo_ge 310 j hj).2
      omega
    · simp [List.getD_eq_getElem?_getD, List.getElem?_eq_none (show (Sha.primesTo 310).length ≤ j by omega)]
  have hsl : s.data.toList.length = s.size := by simp
  have h := refHash_core s w (Sha.primesTo 310) (((Sha.primesTo 310).take 8).map (fun n => Sha.rootL n 2)) ((Sha.primesTo 310).map (fun n => Sha.rootL n 3)) hP hpl hs
    (fun w => primes_any w)
    (fun j hj w => by
      rw [getD_map_ge _ _ _ (by rw [List.length_take]; omega), getD_take _ _ _ hj]
      exact root_any _ 2 w (by omega) (by omega) (hpl j))
    (fun j hj w => by
      rw [getD_map_ge _ _ _ (by omega)]
      exact root_any _ 3 w (by omega) (by omega) (hpl j))
    (by rw [List.length_map]; exact hP) (fun j => by rw [Sha.roots3]) kTab_lt (fun Q hQ => by rw [start_hTo] at hQ; exact hQ)
    (Sha.fill s.data.toList s.size) (fun w => padded_any s w hs) (Sha.fill_mod _ _) (by rw [Sha.fill_len, hsl]; have : Sha.gap s.size < 64 := Nat.mod_lt _ (by omega); omega)
    (fun k => Sha.allTo Sha.start (Sha.fill s.data.toList s.size) k) (fun _ h => h) (fun k => Sha.allTo_ok Sha.start_ok _ k) (fun _ _ h => h)
  have e := Sha.state_eq s.data.toList
  rw [hsl] at e
  rw [e, textN_eq] at h
  exact h
end Go.Proofs.YtpgamoielkpakaaDoor
