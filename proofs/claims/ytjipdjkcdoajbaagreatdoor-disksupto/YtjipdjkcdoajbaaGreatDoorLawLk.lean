/-
  PROVED HERE: the statement's own step that writes on a pair of disks, one kind after the other.
-/
import Derived.Test.YtjipdjkcdoajbaaGreatDoorTwinOpt
namespace Go.Proofs.YtjipdjkcdoajbaaGreatDoor
open Go.RowKit
theorem oX_ptr (p : Option Tw) : ∃ a, oX p = .pointer a := by cases p <;> exact ⟨_, rfl⟩
theorem oD_ptr (p : Option Tw) : ∃ a, oD p = .pointer a := by cases p <;> exact ⟨_, rfl⟩
theorem two_below (w : World) (A B : Obj) : Below w.heap.size w ((w.alloc A).alloc B) := ((Below.refl _ _).alloc (Nat.le_refl _) _).alloc (by rw [size_alloc]; omega) _
set_option maxHeartbeats 1000000 in
set_option maxRecDepth 100000 in
theorem wrAppend (p : Option Tw) (K A C : Int) (S T : ByteArray) (la : Option Addr) (ln lc : Nat) (w : World) {n B : Nat} (h : OIn w n B p) (hn : n + B ≤ 1048576) (hS : S.size ≤ 9223372036854775807) (hT : T.size ≤ 1048576) (hg : w.cell? ⟨0, 0, none⟩ = some errT) :
    Calls Tryz.prog 10 #[.agg #[oX p, oD p], .agg #[.int .i64 3, .int .i64 K, .int .i64 A, .int .i64 C, .string S, .string T, .slice la ln lc]] w fun e w' => e = .returned (.bool true) ∧ ∃ p', OGo w w' (n + 1) (B + T.size) p p' := by
  obtain ⟨ax, hx⟩ := oX_ptr p
  obtain ⟨ad, hd⟩ := oD_ptr p
  have hb2 := two_below w (.cells #[oX p, oD p] 39) (.cells #[.int .i64 3, .int .i64 K, .int .i64 A, .int .i64 C, .string S, .string T, .slice la ln lc] 33)
  have h2 := h.later hb2
  have hc := oAppend p S T _ h2 hn hS hT (cell_later hb2 hg)
  rw [hx, hd] at hb2 h2 hc
  rw [hx, hd]
  have HC := hide hc
  have HB := hide hb2
  have HI := hide h2
  clear h hg h2 hc hb2
  go_enter Tryz.func10, Tryz.ntmps10
  go_wp2_with fail
  refine HC.out.mono ?_
  rintro _ w1 ⟨k, rfl, hgr, hc2⟩
  dsimp only
  have k1 := HI.out.keeps hgr (heap_alloc2_old _ _ _) (by decide) (by decide) (by decide) (by decide) (by unfold dTy; decide)
  have k2 := HI.out.keeps hgr (heap_alloc2_new _ _ _) (by decide) (by decide) (by decide) (by decide) (by unfold dTy; decide)
  have c1 : w1.cell? ⟨w.heap.size, 1, none⟩ = some (.pointer ad) := cell_of_row _ _ 1 _ _ _ k1
  have d2 : w1.cell? ⟨w.heap.size + 1, 2, none⟩ = some (.int .i64 A) := cell_of_row _ _ 2 _ _ _ k2
  have d3 : w1.cell? ⟨w.heap.size + 1, 3, none⟩ = some (.int .i64 C) := cell_of_row _ _ 3 _ _ _ k2
  have d4 : w1.cell? ⟨w.heap.size + 1, 4, none⟩ = some (.string S) := cell_of_row _ _ 4 _ _ _ k2
  have d5 : w1.cell? ⟨w.heap.size + 1, 5, none⟩ = some (.string T) := cell_of_row _ _ 5 _ _ _ k2
  have HC2 := hide hc2
  clear hc2 hgr k1 k2
  go_wp2_with fail
  refine HC2.out.mono ?_
  rintro _ w2 ⟨rfl, p', hp'⟩
  dsimp only
  have HP := hide hp'
  clear hp'
  go_wp2_with fail
  go_ret
  exact ⟨rfl, p', HP.out.from HB.out⟩
set_option maxHeartbeats 1000000 in
set_option maxRecDepth 100000 in
theorem wrRename (p : Option Tw) (K A C : Int) (S T : ByteArray) (la : Option Addr) (ln lc : Nat) (w : World) {n B : Nat} (h : OIn w n B p) (hn : n + B ≤ 1048576) (hS : S.size ≤ 9223372036854775807) (hT : T.size ≤ 9223372036854775807) (hg : w.cell? ⟨0, 0, none⟩ = some errT) :
    Calls Tryz.prog 10 #[.agg #[oX p, oD p], .agg #[.int .i64 4, .int .i64 K, .int .i64 A, .int .i64 C, .string S, .string T, .slice la ln lc]] w fun e w' => e = .returned (.bool true) ∧ ∃ p', OGo w w' (n + 1) B p p' := by
  obtain ⟨ax, hx⟩ := oX_ptr p
  obtain ⟨ad, hd⟩ := oD_ptr p
  have hb2 := two_below w (.cells #[oX p, oD p] 39) (.cells #[.int .i64 4, .int .i64 K, .int .i64 A, .int .i64 C, .string S, .string T, .slice la ln lc] 33)
  have h2 := h.later hb2
  have hc := oRename p S T _ h2 hn hS hT (cell_later hb2 hg)
  rw [hx, hd] at hb2 h2 hc
  rw [hx, hd]
  have HC := hide hc
  have HB := hide hb2
  have HI := hide h2
  clear h hg h2 hc hb2
  go_enter Tryz.func10, Tryz.ntmps10
  go_wp2_with fail
  refine HC.out.mono ?_
  rintro _ w1 ⟨k, rfl, hgr, hc2⟩
  dsimp only
  have k1 := HI.out.keeps hgr (heap_alloc2_old _ _ _) (by decide) (by decide) (by decide) (by decide) (by unfold dTy; decide)
  have k2 := HI.out.keeps hgr (heap_alloc2_new _ _ _) (by decide) (by decide) (by decide) (by decide) (by unfold dTy; decide)
  have c1 : w1.cell? ⟨w.heap.size, 1, none⟩ = some (.pointer ad) := cell_of_row _ _ 1 _ _ _ k1
  have d2 : w1.cell? ⟨w.heap.size + 1, 2, none⟩ = some (.int .i64 A) := cell_of_row _ _ 2 _ _ _ k2
  have d3 : w1.cell? ⟨w.heap.size + 1, 3, none⟩ = some (.int .i64 C) := cell_of_row _ _ 3 _ _ _ k2
  have d4 : w1.cell? ⟨w.heap.size + 1, 4, none⟩ = some (.string S) := cell_of_row _ _ 4 _ _ _ k2
  have d5 : w1.cell? ⟨w.heap.size + 1, 5, none⟩ = some (.string T) := cell_of_row _ _ 5 _ _ _ k2
  have HC2 := hide hc2
  clear hc2 hgr k1 k2
  go_wp2_with fail
  refine HC2.out.mono ?_
  rintro _ w2 ⟨rfl, p', hp'⟩
  dsimp only
  have HP := hide hp'
  clear hp'
  go_wp2_with fail
  go_ret
  exact ⟨rfl, p', HP.out.from HB.out⟩
set_option maxHeartbeats 1000000 in
set_option maxRecDepth 100000 in
theorem wrRemove (p : Option Tw) (K A C : Int) (S T : ByteArray) (la : Option Addr) (ln lc : Nat) (w : World) {n B : Nat} (h : OIn w n B p) (hn : n + B ≤ 1048576) (hS : S.size ≤ 9223372036854775807) (hg : w.cell? ⟨0, 0, none⟩ = some errT) :
    Calls Tryz.prog 10 #[.agg #[oX p, oD p], .agg #[.int .i64 5, .int .i64 K, .int .i64 A, .int .i64 C, .string S, .string T, .slice la ln lc]] w fun e w' => e = .returned (.bool true) ∧ ∃ p', OGo w w' (n + 1) B p p' := by
  obtain ⟨ax, hx⟩ := oX_ptr p
  obtain ⟨ad, hd⟩ := oD_ptr p
  have hb2 := two_below w (.cells #[oX p, oD p] 39) (.cells #[.int .i64 5, .int .i64 K, .int .i64 A, .int .i64 C, .string S, .string T, .slice la ln lc] 33)
  have h2 := h.later hb2
  have hc := oRemove p S _ h2 hn hS (cell_later hb2 hg)
  rw [hx, hd] at hb2 h2 hc
  rw [hx, hd]
  have HC := hide hc
  have HB := hide hb2
  have HI := hide h2
  clear h hg h2 hc hb2
  go_enter Tryz.func10, Tryz.ntmps10
  go_wp2_with fail
  refine HC.out.mono ?_
  rintro _ w1 ⟨k, rfl, hgr, hc2⟩
  dsimp only
  have k1 := HI.out.keeps hgr (heap_alloc2_old _ _ _) (by decide) (by decide) (by decide) (by decide) (by unfold dTy; decide)
  have k2 := HI.out.keeps hgr (heap_alloc2_new _ _ _) (by decide) (by decide) (by decide) (by decide) (by unfold dTy; decide)
  have c1 : w1.cell? ⟨w.heap.size, 1, none⟩ = some (.pointer ad) := cell_of_row _ _ 1 _ _ _ k1
  have d2 : w1.cell? ⟨w.heap.size + 1, 2, none⟩ = some (.int .i64 A) := cell_of_row _ _ 2 _ _ _ k2
  have d3 : w1.cell? ⟨w.heap.size + 1, 3, none⟩ = some (.int .i64 C) := cell_of_row _ _ 3 _ _ _ k2
  have d4 : w1.cell? ⟨w.heap.size + 1, 4, none⟩ = some (.string S) := cell_of_row _ _ 4 _ _ _ k2
  have d5 : w1.cell? ⟨w.heap.size + 1, 5, none⟩ = some (.string T) := cell_of_row _ _ 5 _ _ _ k2
  have HC2 := hide hc2
  clear hc2 hgr k1 k2
  go_wp2_with fail
  refine HC2.out.mono ?_
  rintro _ w2 ⟨rfl, p', hp'⟩
  dsimp only
  have HP := hide hp'
  clear hp'
  go_wp2_with fail
  go_ret
  exact ⟨rfl, p', HP.out.from HB.out⟩
set_option maxHeartbeats 1000000 in
set_option maxRecDepth 100000 in
theorem wrTruncate (p : Option Tw) (K A C : Int) (S T : ByteArray) (la : Option Addr) (ln lc : Nat) (w : World) {n B : Nat} (h : OIn w n B p) (hn : n + B ≤ 1048576) (hS : S.size ≤ 9223372036854775807) (hA0 : -9223372036854775808 ≤ A) (hA1 : A ≤ 9223372036854775807) (hg : w.cell? ⟨0, 0, none⟩ = some errT) :
    Calls Tryz.prog 10 #[.agg #[oX p, oD p], .agg #[.int .i64 6, .int .i64 K, .int .i64 A, .int .i64 C, .string S, .string T, .slice la ln lc]] w fun e w' => e = .returned (.bool true) ∧ ∃ p', OGo w w' (n + 1) B p p' := by
  obtain ⟨ax, hx⟩ := oX_ptr p
  obtain ⟨ad, hd⟩ := oD_ptr p
  have hb2 := two_below w (.cells #[oX p, oD p] 39) (.cells #[.int .i64 6, .int .i64 K, .int .i64 A, .int .i64 C, .string S, .string T, .slice la ln lc] 33)
  have h2 := h.later hb2
  have hc := oTruncate p S A _ h2 hn hS hA0 hA1 (cell_later hb2 hg)
  rw [hx, hd] at hb2 h2 hc
  rw [hx, hd]
  have HC := hide hc
  have HB := hide hb2
  have HI := hide h2
  clear h hg h2 hc hb2
  go_enter Tryz.func10, Tryz.ntmps10
  go_wp2_with fail
  refine HC.out.mono ?_
  rintro _ w1 ⟨k, rfl, hgr, hc2⟩
  dsimp only
  have k1 := HI.out.keeps hgr (heap_alloc2_old _ _ _) (by decide) (by decide) (by decide) (by decide) (by unfold dTy; decide)
  have k2 := HI.out.keeps hgr (heap_alloc2_new _ _ _) (by decide) (by decide) (by decide) (by decide) (by unfold dTy; decide)
  have c1 : w1.cell? ⟨w.heap.size, 1, none⟩ = some (.pointer ad) := cell_of_row _ _ 1 _ _ _ k1
  have d2 : w1.cell? ⟨w.heap.size + 1, 2, none⟩ = some (.int .i64 A) := cell_of_row _ _ 2 _ _ _ k2
  have d3 : w1.cell? ⟨w.heap.size + 1, 3, none⟩ = some (.int .i64 C) := cell_of_row _ _ 3 _ _ _ k2
  have d4 : w1.cell? ⟨w.heap.size + 1, 4, none⟩ = some (.string S) := cell_of_row _ _ 4 _ _ _ k2
  have d5 : w1.cell? ⟨w.heap.size + 1, 5, none⟩ = some (.string T) := cell_of_row _ _ 5 _ _ _ k2
  have HC2 := hide hc2
  clear hc2 hgr k1 k2
  go_wp2_with fail
  refine HC2.out.mono ?_
  rintro _ w2 ⟨rfl, p', hp'⟩
  dsimp only
  have HP := hide hp'
  clear hp'
  go_wp2_with fail
  go_ret
  exact ⟨rfl, p', HP.out.from HB.out⟩
set_option maxHeartbeats 1000000 in
set_option maxRecDepth 100000 in
theorem wrSync (p : Option Tw) (K A C : Int) (S T : ByteArray) (la : Option Addr) (ln lc : Nat) (w : World) {n B : Nat} (h : OIn w n B p) (hn : n + B ≤ 1048576) (hS : S.size ≤ 9223372036854775807) (hg : w.cell? ⟨0, 0, none⟩ = some errT) :
    Calls Tryz.prog 10 #[.agg #[oX p, oD p], .agg #[.int .i64 7, .int .i64 K, .int .i64 A, .int .i64 C, .string S, .string T, .slice la ln lc]] w fun e w' => e = .returned (.bool true) ∧ ∃ p', OGo w w' (n + 1) B p p' := by
  obtain ⟨ax, hx⟩ := oX_ptr p
  obtain ⟨ad, hd⟩ := oD_ptr p
  have hb2 := two_below w (.cells #[oX p, oD p] 39) (.cells #[.int .i64 7, .int .i64 K, .int .i64 A, .int .i64 C, .string S, .string T, .slice la ln lc] 33)
  have h2 := h.later hb2
  have hc := oSync p S _ h2 hn hS (cell_later hb2 hg)
  rw [hx, hd] at hb2 h2 hc
  rw [hx, hd]
  have HC := hide hc
  have HB := hide hb2
  have HI := hide h2
  clear h hg h2 hc hb2
  go_enter Tryz.func10, Tryz.ntmps10
  go_wp2_with fail
  refine HC.out.mono ?_
  rintro _ w1 ⟨k, rfl, hgr, hc2⟩
  dsimp only
  have k1 := HI.out.keeps hgr (heap_alloc2_old _ _ _) (by decide) (by decide) (by decide) (by decide) (by unfold dTy; decide)
  have k2 := HI.out.keeps hgr (heap_alloc2_new _ _ _) (by decide) (by decide) (by decide) (by decide) (by unfold dTy; decide)
  have c1 : w1.cell? ⟨w.heap.size, 1, none⟩ = some (.pointer ad) := cell_of_row _ _ 1 _ _ _ k1
  have d2 : w1.cell? ⟨w.heap.size + 1, 2, none⟩ = some (.int .i64 A) := cell_of_row _ _ 2 _ _ _ k2
  have d3 : w1.cell? ⟨w.heap.size + 1, 3, none⟩ = some (.int .i64 C) := cell_of_row _ _ 3 _ _ _ k2
  have d4 : w1.cell? ⟨w.heap.size + 1, 4, none⟩ = some (.string S) := cell_of_row _ _ 4 _ _ _ k2
  have d5 : w1.cell? ⟨w.heap.size + 1, 5, none⟩ = some (.string T) := cell_of_row _ _ 5 _ _ _ k2
  have HC2 := hide hc2
  clear hc2 hgr k1 k2
  go_wp2_with fail
  refine HC2.out.mono ?_
  rintro _ w2 ⟨rfl, p', hp'⟩
  dsimp only
  have HP := hide hp'
  clear hp'
  go_wp2_with fail
  go_ret
  exact ⟨rfl, p', HP.out.from HB.out⟩
set_option maxHeartbeats 1000000 in
set_option maxRecDepth 100000 in
theorem wrSyncDir (p : Option Tw) (K A C : Int) (S T : ByteArray) (la : Option Addr) (ln lc : Nat) (w : World) {n B : Nat} (h : OIn w n B p) (hn : n + B ≤ 1048576) (hg : w.cell? ⟨0, 0, none⟩ = some errT) :
    Calls Tryz.prog 10 #[.agg #[oX p, oD p], .agg #[.int .i64 8, .int .i64 K, .int .i64 A, .int .i64 C, .string S, .string T, .slice la ln lc]] w fun e w' => e = .returned (.bool true) ∧ ∃ p', OGo w w' (n + 1) B p p' := by
  obtain ⟨ax, hx⟩ := oX_ptr p
  obtain ⟨ad, hd⟩ := oD_ptr p
  have hb2 := two_below w (.cells #[oX p, oD p] 39) (.cells #[.int .i64 8, .int .i64 K, .int .i64 A, .int .i64 C, .string S, .string T, .slice la ln lc] 33)
  have h2 := h.later hb2
  have hc := oSyncDir p  _ h2 hn  (cell_later hb2 hg)
  rw [hx, hd] at hb2 h2 hc
  rw [hx, hd]
  have HC := hide hc
  have HB := hide hb2
  have HI := hide h2
  clear h hg h2 hc hb2
  go_enter Tryz.func10, Tryz.ntmps10
  go_wp2_with fail
  refine HC.out.mono ?_
  rintro _ w1 ⟨k, rfl, hgr, hc2⟩
  dsimp only
  have k1 := HI.out.keeps hgr (heap_alloc2_old _ _ _) (by decide) (by decide) (by decide) (by decide) (by unfold dTy; decide)
  have k2 := HI.out.keeps hgr (heap_alloc2_new _ _ _) (by decide) (by decide) (by decide) (by decide) (by unfold dTy; decide)
  have c1 : w1.cell? ⟨w.heap.size, 1, none⟩ = some (.pointer ad) := cell_of_row _ _ 1 _ _ _ k1
  have d2 : w1.cell? ⟨w.heap.size + 1, 2, none⟩ = some (.int .i64 A) := cell_of_row _ _ 2 _ _ _ k2
  have d3 : w1.cell? ⟨w.heap.size + 1, 3, none⟩ = some (.int .i64 C) := cell_of_row _ _ 3 _ _ _ k2
  have d4 : w1.cell? ⟨w.heap.size + 1, 4, none⟩ = some (.string S) := cell_of_row _ _ 4 _ _ _ k2
  have d5 : w1.cell? ⟨w.heap.size + 1, 5, none⟩ = some (.string T) := cell_of_row _ _ 5 _ _ _ k2
  have HC2 := hide hc2
  clear hc2 hgr k1 k2
  go_wp2_with fail
  refine HC2.out.mono ?_
  rintro _ w2 ⟨rfl, p', hp'⟩
  dsimp only
  have HP := hide hp'
  clear hp'
  go_wp2_with fail
  go_ret
  exact ⟨rfl, p', HP.out.from HB.out⟩
set_option maxHeartbeats 1000000 in
set_option maxRecDepth 100000 in
theorem wrSpoil (p : Option Tw) (K A C : Int) (S T : ByteArray) (la : Option Addr) (ln lc : Nat) (w : World) {n B : Nat} (h : OIn w n B p) (hn : n + B ≤ 1048576) (hS : S.size ≤ 9223372036854775807) (hg : w.cell? ⟨0, 0, none⟩ = some errT) :
    Calls Tryz.prog 10 #[.agg #[oX p, oD p], .agg #[.int .i64 13, .int .i64 K, .int .i64 A, .int .i64 C, .string S, .string T, .slice la ln lc]] w fun e w' => e = .returned (.bool true) ∧ ∃ p', OGo w w' (n + 1) B p p' := by
  obtain ⟨ax, hx⟩ := oX_ptr p
  obtain ⟨ad, hd⟩ := oD_ptr p
  have hb2 := two_below w (.cells #[oX p, oD p] 39) (.cells #[.int .i64 13, .int .i64 K, .int .i64 A, .int .i64 C, .string S, .string T, .slice la ln lc] 33)
  have h2 := h.later hb2
  have hc := oSpoil p S A C _ h2 hn hS (cell_later hb2 hg)
  rw [hx, hd] at hb2 h2 hc
  rw [hx, hd]
  have HC := hide hc
  have HB := hide hb2
  have HI := hide h2
  clear h hg h2 hc hb2
  go_enter Tryz.func10, Tryz.ntmps10
  go_wp2_with fail
  refine HC.out.mono ?_
  rintro _ w1 ⟨k, rfl, hgr, hc2⟩
  dsimp only
  have k1 := HI.out.keeps hgr (heap_alloc2_old _ _ _) (by decide) (by decide) (by decide) (by decide) (by unfold dTy; decide)
  have k2 := HI.out.keeps hgr (heap_alloc2_new _ _ _) (by decide) (by decide) (by decide) (by decide) (by unfold dTy; decide)
  have c1 : w1.cell? ⟨w.heap.size, 1, none⟩ = some (.pointer ad) := cell_of_row _ _ 1 _ _ _ k1
  have d2 : w1.cell? ⟨w.heap.size + 1, 2, none⟩ = some (.int .i64 A) := cell_of_row _ _ 2 _ _ _ k2
  have d3 : w1.cell? ⟨w.heap.size + 1, 3, none⟩ = some (.int .i64 C) := cell_of_row _ _ 3 _ _ _ k2
  have d4 : w1.cell? ⟨w.heap.size + 1, 4, none⟩ = some (.string S) := cell_of_row _ _ 4 _ _ _ k2
  have d5 : w1.cell? ⟨w.heap.size + 1, 5, none⟩ = some (.string T) := cell_of_row _ _ 5 _ _ _ k2
  have HC2 := hide hc2
  clear hc2 hgr k1 k2
  go_wp2_with fail
  refine HC2.out.mono ?_
  rintro _ w2 ⟨rfl, p', hp'⟩
  dsimp only
  have HP := hide hp'
  clear hp'
  go_wp2_with fail
  go_ret
  exact ⟨rfl, p', HP.out.from HB.out⟩
set_option maxHeartbeats 1000000 in
set_option maxRecDepth 100000 in
theorem wrBreak (p : Option Tw) (K A C : Int) (S T : ByteArray) (la : Option Addr) (ln lc : Nat) (w : World) {n B : Nat} (h : OIn w n B p) (hA : A ≤ 9223372036854775807) (hg : w.cell? ⟨0, 0, none⟩ = some errT) :
    Calls Tryz.prog 10 #[.agg #[oX p, oD p], .agg #[.int .i64 14, .int .i64 K, .int .i64 A, .int .i64 C, .string S, .string T, .slice la ln lc]] w fun e w' => e = .returned (.bool true) ∧ ∃ p', OGo w w' (n + 1) B p p' := by
  obtain ⟨ax, hx⟩ := oX_ptr p
  obtain ⟨ad, hd⟩ := oD_ptr p
  have hb2 := two_below w (.cells #[oX p, oD p] 39) (.cells #[.int .i64 14, .int .i64 K, .int .i64 A, .int .i64 C, .string S, .string T, .slice la ln lc] 33)
  have h2 := h.later hb2
  have hc := oBreak p A _ h2 hA (cell_later hb2 hg)
  rw [hx, hd] at hb2 h2 hc
  rw [hx, hd]
  have HC := hide hc
  have HB := hide hb2
  have HI := hide h2
  clear h hg h2 hc hb2
  go_enter Tryz.func10, Tryz.ntmps10
  go_wp2_with fail
  refine HC.out.mono ?_
  rintro _ w1 ⟨k, rfl, hgr, hc2⟩
  dsimp only
  have k1 := HI.out.keeps hgr (heap_alloc2_old _ _ _) (by decide) (by decide) (by decide) (by decide) (by unfold dTy; decide)
  have k2 := HI.out.keeps hgr (heap_alloc2_new _ _ _) (by decide) (by decide) (by decide) (by decide) (by unfold dTy; decide)
  have c1 : w1.cell? ⟨w.heap.size, 1, none⟩ = some (.pointer ad) := cell_of_row _ _ 1 _ _ _ k1
  have d2 : w1.cell? ⟨w.heap.size + 1, 2, none⟩ = some (.int .i64 A) := cell_of_row _ _ 2 _ _ _ k2
  have d3 : w1.cell? ⟨w.heap.size + 1, 3, none⟩ = some (.int .i64 C) := cell_of_row _ _ 3 _ _ _ k2
  have d4 : w1.cell? ⟨w.heap.size + 1, 4, none⟩ = some (.string S) := cell_of_row _ _ 4 _ _ _ k2
  have d5 : w1.cell? ⟨w.heap.size + 1, 5, none⟩ = some (.string T) := cell_of_row _ _ 5 _ _ _ k2
  have HC2 := hide hc2
  clear hc2 hgr k1 k2
  go_wp2_with fail
  refine HC2.out.mono ?_
  rintro _ w2 ⟨rfl, p', hp'⟩
  dsimp only
  have HP := hide hp'
  clear hp'
  go_wp2_with fail
  go_ret
  exact ⟨rfl, p', HP.out.from HB.out⟩
end Go.Proofs.YtjipdjkcdoajbaaGreatDoor

/-
  PROVED HERE: the statement's own step that asks a pair of disks: Read, Used, Steps.
-/
namespace Go.Proofs.YtjipdjkcdoajbaaGreatDoor
open Go.RowKit
def OLook (fP : Nat) (aP : Array Value) (fR : Nat) (aR : Array Value) (p : Option Tw) (w : World) (n B : Nat) (V : Value → Prop) : Prop :=
  Calls Tryz.prog fP aP w fun e w1 => ∃ v k, V v ∧ e = .returned (.tuple #[v, .int .i64 k]) ∧ Gr (oOwn p) w w1 ∧ Calls Tryz.prog fR aR w1 fun e w2 => e = .returned (.tuple #[v, .int .i64 k]) ∧ OGo w w2 n B p p
theorem LCalls.opt {fP fR : Nat} {aP aR : Array Value} {t : Tw} {w : World} {n B : Nat} {V : Value → Prop} (h : LCalls fP aP fR aR t w V) (hb : TB t.r n B) : OLook fP aP fR aR (some t) w n B V := by
  refine h.mono ?_
  rintro _ w1 ⟨v, k, hv, rfl, hg, hc⟩
  refine ⟨v, k, hv, rfl, hg, hc.mono ?_⟩
  rintro _ w2 ⟨rfl, h1⟩
  exact ⟨rfl, h1, hb⟩
theorem lNil {fP fR : Nat} {aP aR : Array Value} {w : World} {n B : Nat} {V : Value → Prop} {v : Value} (hv : V v) (hp : Calls Tryz.prog fP aP w fun e w' => e = .returned (.tuple #[v, .int .i64 1]) ∧ w' = w) (hr : Calls Tryz.prog fR aR w fun e w' => e = .returned (.tuple #[v, .int .i64 1]) ∧ w' = w) : OLook fP aP fR aR none w n B V := by
  refine hp.mono ?_
  rintro _ w1 ⟨rfl, rfl⟩
  refine ⟨v, 1, hv, rfl, Gr.refl _ _, hr.mono ?_⟩
  rintro _ w2 ⟨rfl, rfl⟩
  exact ⟨rfl, Below.refl _ _⟩
theorem oRead (t : Option Tw) (p : ByteArray) (w : World) {n B : Nat} (h : OIn w n B t) (hn : n + B ≤ 1048576) (hp : p.size ≤ 9223372036854775807) (hg : w.cell? ⟨0, 0, none⟩ = some errT) :
    OLook 14 #[oX t, .string p] 15 #[oD t, .string p] t w n B (fun v => ∃ s : ByteArray, s.size ≤ 1048576 ∧ v = .string s) := by
  cases t with
  | none => exact lNil ⟨_, by decide, rfl⟩ (wRead_nil p w) (rdRead_nil p w)
  | some t => exact (tRead t p w h.1 h.2 hn hp hg).opt h.2
theorem oUsed (t : Option Tw) (w : World) {n B : Nat} (h : OIn w n B t) (hn : n + B ≤ 1048576) :
    OLook 20 #[oX t] 21 #[oD t] t w n B (fun v => ∃ i : Int, v = .int .i64 i) := by
  cases t with
  | none => exact lNil ⟨_, rfl⟩ (wUsed_nil w) (rdUsed_nil w)
  | some t => exact (tUsed t w h.1 h.2 hn).opt h.2
theorem oSteps (t : Option Tw) (w : World) {n B : Nat} (h : OIn w n B t) :
    OLook 22 #[oX t] 23 #[oD t] t w n B (fun v => ∃ i : Int, v = .int .i64 i) := by
  cases t with
  | none => exact lNil ⟨_, rfl⟩ (wSteps_nil w) (rdSteps_nil w)
  | some t => exact (tSteps t w h.1).opt h.2
set_option maxHeartbeats 1000000 in
set_option maxRecDepth 100000 in
theorem lkRead (p : Option Tw) (bv : Value) (K A C : Int) (S T : ByteArray) (la : Option Addr) (ln lc : Nat) (w : World) {n B : Nat} (h : OIn w n B p) (hn : n + B ≤ 1048576) (hS : S.size ≤ 9223372036854775807) (hg : w.cell? ⟨0, 0, none⟩ = some errT) :
    Calls Tryz.prog 9 #[.agg #[oX p, oD p], bv, .agg #[.int .i64 9, .int .i64 K, .int .i64 A, .int .i64 C, .string S, .string T, .slice la ln lc]] w fun e w' => e = .returned (.bool true) ∧ OGo w w' n B p p := by
  obtain ⟨ax, hx⟩ := oX_ptr p
  obtain ⟨ad, hd⟩ := oD_ptr p
  have hb2 := two_below w (.cells #[oX p, oD p] 39) (.cells #[.int .i64 9, .int .i64 K, .int .i64 A, .int .i64 C, .string S, .string T, .slice la ln lc] 33)
  have h2 := h.later hb2
  have hc := oRead p S _ h2 hn hS (cell_later hb2 hg)
  rw [hx, hd] at hb2 h2 hc
  rw [hx, hd]
  have HC := hide hc
  have HB := hide hb2
  have HI := hide h2
  clear h h2 hc hb2
  go_enter Tryz.func9, Tryz.ntmps9
  go_wp2_with fail
  refine HC.out.mono ?_
  rintro _ w1 ⟨_, k, ⟨s, hs, rfl⟩, rfl, hgr, hc2⟩
  dsimp only
  have k1 := HI.out.keeps hgr (heap_alloc2_old _ _ _) (by decide) (by decide) (by decide) (by decide) (by unfold dTy; decide)
  have k2 := HI.out.keeps hgr (heap_alloc2_new _ _ _) (by decide) (by decide) (by decide) (by decide) (by unfold dTy; decide)
  have c1 : w1.cell? ⟨w.heap.size, 1, none⟩ = some (.pointer ad) := cell_of_row _ _ 1 _ _ _ k1
  have d4 : w1.cell? ⟨w.heap.size + 1, 4, none⟩ = some (.string S) := cell_of_row _ _ 4 _ _ _ k2
  have HC2 := hide hc2
  clear hc2 hgr k1 k2
  go_wp2_with fail
  refine HC2.out.mono ?_
  rintro _ w2 ⟨rfl, hp'⟩
  dsimp only
  have HP := hide hp'
  clear hp'
  go_wp2_with fail
  go_ret
  exact ⟨rfl, HP.out.from HB.out⟩
set_option maxHeartbeats 1000000 in
set_option maxRecDepth 100000 in
theorem lkUsed (p : Option Tw) (bv : Value) (K A C : Int) (S T : ByteArray) (la : Option Addr) (ln lc : Nat) (w : World) {n B : Nat} (h : OIn w n B p) (hn : n + B ≤ 1048576) :
    Calls Tryz.prog 9 #[.agg #[oX p, oD p], bv, .agg #[.int .i64 11, .int .i64 K, .int .i64 A, .int .i64 C, .string S, .string T, .slice la ln lc]] w fun e w' => e = .returned (.bool true) ∧ OGo w w' n B p p := by
  obtain ⟨ax, hx⟩ := oX_ptr p
  obtain ⟨ad, hd⟩ := oD_ptr p
  have hb2 := two_below w (.cells #[oX p, oD p] 39) (.cells #[.int .i64 11, .int .i64 K, .int .i64 A, .int .i64 C, .string S, .string T, .slice la ln lc] 33)
  have h2 := h.later hb2
  have hc := oUsed p _ h2 hn
  rw [hx, hd] at hb2 h2 hc
  rw [hx, hd]
  have HC := hide hc
  have HB := hide hb2
  have HI := hide h2
  clear h h2 hc hb2
  go_enter Tryz.func9, Tryz.ntmps9
  go_wp2_with fail
  refine HC.out.mono ?_
  rintro _ w1 ⟨_, k, ⟨i, rfl⟩, rfl, hgr, hc2⟩
  dsimp only
  have k1 := HI.out.keeps hgr (heap_alloc2_old _ _ _) (by decide) (by decide) (by decide) (by decide) (by unfold dTy; decide)
  have k2 := HI.out.keeps hgr (heap_alloc2_new _ _ _) (by decide) (by decide) (by decide) (by decide) (by unfold dTy; decide)
  have c1 : w1.cell? ⟨w.heap.size, 1, none⟩ = some (.pointer ad) := cell_of_row _ _ 1 _ _ _ k1
  have d4 : w1.cell? ⟨w.heap.size + 1, 4, none⟩ = some (.string S) := cell_of_row _ _ 4 _ _ _ k2
  have HC2 := hide hc2
  clear hc2 hgr k1 k2
  go_wp2_with fail
  refine HC2.out.mono ?_
  rintro _ w2 ⟨rfl, hp'⟩
  dsimp only
  have HP := hide hp'
  clear hp'
  go_wp2_with fail
  go_ret
  exact ⟨rfl, HP.out.from HB.out⟩
set_option maxHeartbeats 1000000 in
set_option maxRecDepth 100000 in
theorem lkSteps (p : Option Tw) (bv : Value) (K A C : Int) (S T : ByteArray) (la : Option Addr) (ln lc : Nat) (w : World) {n B : Nat} (h : OIn w n B p) :
    Calls Tryz.prog 9 #[.agg #[oX p, oD p], bv, .agg #[.int .i64 12, .int .i64 K, .int .i64 A, .int .i64 C, .string S, .string T, .slice la ln lc]] w fun e w' => e = .returned (.bool true) ∧ OGo w w' n B p p := by
  obtain ⟨ax, hx⟩ := oX_ptr p
  obtain ⟨ad, hd⟩ := oD_ptr p
  have hb2 := two_below w (.cells #[oX p, oD p] 39) (.cells #[.int .i64 12, .int .i64 K, .int .i64 A, .int .i64 C, .string S, .string T, .slice la ln lc] 33)
  have h2 := h.later hb2
  have hc := oSteps p _ h2
  rw [hx, hd] at hb2 h2 hc
  rw [hx, hd]
  have HC := hide hc
  have HB := hide hb2
  have HI := hide h2
  clear h h2 hc hb2
  go_enter Tryz.func9, Tryz.ntmps9
  go_wp2_with fail
  refine HC.out.mono ?_
  rintro _ w1 ⟨_, k, ⟨i, rfl⟩, rfl, hgr, hc2⟩
  dsimp only
  have k1 := HI.out.keeps hgr (heap_alloc2_old _ _ _) (by decide) (by decide) (by decide) (by decide) (by unfold dTy; decide)
  have k2 := HI.out.keeps hgr (heap_alloc2_new _ _ _) (by decide) (by decide) (by decide) (by decide) (by unfold dTy; decide)
  have c1 : w1.cell? ⟨w.heap.size, 1, none⟩ = some (.pointer ad) := cell_of_row _ _ 1 _ _ _ k1
  have d4 : w1.cell? ⟨w.heap.size + 1, 4, none⟩ = some (.string S) := cell_of_row _ _ 4 _ _ _ k2
  have HC2 := hide hc2
  clear hc2 hgr k1 k2
  go_wp2_with fail
  refine HC2.out.mono ?_
  rintro _ w2 ⟨rfl, hp'⟩
  dsimp only
  have HP := hide hp'
  clear hp'
  go_wp2_with fail
  go_ret
  exact ⟨rfl, HP.out.from HB.out⟩
end Go.Proofs.YtjipdjkcdoajbaaGreatDoor
