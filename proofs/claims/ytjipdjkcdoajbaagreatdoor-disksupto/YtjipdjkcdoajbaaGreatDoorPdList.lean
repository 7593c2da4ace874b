/-
  PROVED HERE: what the program's own List of disks answers: the paths, the lesser first.
-/
import Derived.Test.YtjipdjkcdoajbaaGreatDoorPdSet
import Derived.Test.YtjipdjkcdoajbaaGreatDoorPdIter
namespace Go.Proofs.YtjipdjkcdoajbaaGreatDoor
open Go.RowKit Go.Sort
def pathVs (l : List DE) : List Value := l.map fun e => .string e.path
theorem keys_sorted {l : List DE} (hr : Rise l) {ss : List (List UInt8)} (hp : ss.Perm (strKeys (dOf l))) : (ss.mergeSort (fun x y => decide (x ≤ y))).map encStr = pathVs l ∧ ss.length = l.length := by
  have hk : strKeys (dOf l) = l.map fun e => e.path.data.toList := by
    show (l.map dE).map (fun p => strOf p.1) = _
    rw [List.map_map]
    rfl
  have hlt : ∀ x y : ByteArray, lessB x y = true → x.data.toList < y.data.toList := by
    intro x y h
    unfold lessB at h
    rw [bytesLess_eq, ByteArray.toList_eq, ByteArray.toList_eq] at h
    exact of_decide_eq_true h
  refine ⟨?_, ?_⟩
  · rw [mergeSort_of_perm hp, hk]
    have hs : (l.map fun e => e.path.data.toList).Pairwise (fun x y => decide (x ≤ y) = true) := by
      rw [List.pairwise_map]
      refine hr.imp ?_
      intro x y hxy
      have := hlt _ _ hxy
      exact decide_eq_true (List.le_of_lt this)
    rw [List.mergeSort_of_pairwise hs, List.map_map]
    rfl
  · rw [hp.length_eq, hk, List.length_map]
set_option maxHeartbeats 1000000 in
set_option maxRecDepth 100000 in
theorem psorted_any (mb : Nat) (l : List DE) (w : World) (h : PM Tryz.prog 9 w mb l) (hl : l.length ≤ 100000000) :
    Calls Tryz.prog 72 #[.map (some mb)] w fun e w' => ∃ v, e = .returned v ∧ w'.ownsRow w.heap.size 9 1 v l.length (pathVs l) ∧ Below w.heap.size w w' := by
  have HK := hide (callsIn_wide.1 (Tryz.maps_KeysL (some mb) w))
  have hsz : Maps.size (dOf l) = l.length := by simp [dOf, Maps.size]
  have HS := hide (callsIn_wide.1 (Tryz.slices_SortedL mb l.length (dOf l) ptrRd w h (by rw [hsz]; unfold maxLen; omega) (by rw [hsz]; omega)))
  have HR := hide (h.rise (Maps.string_keyed Tryz.underlying9))
  clear h hsz
  go_enter Tryz.func72, Tryz.ntmps72
  go_wp2_with fail
  refine (HK.out).mono ?_
  rintro _ w1 ⟨rfl, hw⟩
  subst hw
  dsimp only
  go_wp2_with fail
  refine (HS.out).mono ?_
  rintro _ w2 ⟨v, ss, rfl, hperm, hrow, _, hb⟩
  dsimp only
  obtain ⟨e1, e2⟩ := keys_sorted HR.out hperm
  rw [e1, e2] at hrow
  have hfin : w2.ownsRow w.heap.size 9 1 v l.length (pathVs l) ∧ Below w.heap.size w w2 :=
    ⟨hrow.mono_base (by rw [size_alloc]; omega), ((Below.refl _ _).alloc (Nat.le_refl _) _).trans (hb.mono (by rw [size_alloc]; omega))⟩
  have HFIN := hide hfin
  clear hperm hrow hb e1 e2 hfin
  go_wp2_with fail
  go_ret
  exact ⟨_, rfl, HFIN.out.1, HFIN.out.2⟩
set_option maxHeartbeats 1000000 in
set_option maxRecDepth 100000 in
theorem plist_any (b : Nat) (R : RDk) (mb lb : Nat) (cv : Value) (w : World) (h : PDIs w b R mb lb cv) (hl : R.now.length ≤ 100000000) :
    Calls Tryz.prog 49 #[.pointer (some ⟨b, 0, none⟩)] w fun e w' => ∃ v, e = .returned v ∧ w'.ownsRow w.heap.size 9 1 v R.now.length (pathVs R.now) ∧ Below w.heap.size w w' := by
  have c1 : w.cell? ⟨b, 1, none⟩ = some (.map (some mb)) := cell_of_row _ _ 1 _ _ _ h.blk
  have HS := hide (psorted_any mb R.now w h.now hl)
  clear h
  go_enter Tryz.func49, Tryz.ntmps49
  go_wp2_with fail
  refine (HS.out).mono ?_
  rintro _ w2 ⟨v, rfl, hrow, hb⟩
  dsimp only
  have HR := hide hrow
  have HB := hide hb
  clear hrow hb
  go_wp2_with fail
  go_ret
  exact ⟨_, rfl, HR.out, HB.out⟩
end Go.Proofs.YtjipdjkcdoajbaaGreatDoor
