/-
  PROVED HERE: what the program's function byteOf of the index's scanner answers: the next byte of a string, or that it gives up at the string's place.
-/
import Derived.Test.YtpgamoielkpakaaScan
import Derived.StillTailTactics
namespace Go.Proofs.Ytpgamoielkpakaa
open Go.RowKit
/-- The still head of a region, behind a name that nothing lays open. -/
structure StillI (P : Program) (ops : Array Oper) (w : World) (Q : Act → Prop) (l : List Oper) (a : Act) : Prop where
  out : wpStill P ops w Q l a
theorem stillI_step {P : Program} {ops : Array Oper} {w : World} {Q : Act → Prop} {a : Act} {o : Oper} {rest : List Oper}
    (h : ∀ K : Act → Prop, (∀ a, StillI P ops w Q rest a → K a) → if Region.wanted o (yielded ops a.tmps) then o.still P a w K else K (a.put o.dst undef)) : StillI P ops w Q (o :: rest) a :=
  ⟨wpStill_step fun K hK => h K fun a' h' => hK a' h'.out⟩
theorem stillI_nil {P : Program} {ops : Array Oper} {w : World} {Q : Act → Prop} {a : Act} (h : Q a) : StillI P ops w Q [] a := ⟨wpStill_nil h⟩
theorem region_stillI {P : Program} {id : Nat} {Q : Exit → Act → World → Prop} {a : Act} {w : World} {l : List Oper} (n : Nat) (hm : P.follows .mixedOrders = true) (hB : Region.lexTailB .any l.toArray n = true)
    (h : StillI P l.toArray w.drew (fun a' => wpList P l.toArray Q (l.drop n) a' w.drew) (l.take n) a) : (Code.region id l.toArray true).wp P Q a w :=
  wp_region_still_tail n hm hB h.out
theorem mixed : Try.prog.follows .mixedOrders = true := by kernel_rfl
theorem lt_heap {w : World} {g : Nat} {o : Obj} (h : w.heap[g]? = some o) : g < w.heap.size := (Array.getElem?_eq_some_iff.1 h).1
theorem ScIs.later {w w' : World} {b a : Nat} {t : ByteArray} (h : ScIs w b t a) (hb : Below w.heap.size w w') : ScIs w' b t a := (hb.block b (lt_heap h)).trans h
theorem Try.zero87 : ∀ w : World, (zeroValue 69).run Try.prog w = .ok (.agg #[.int .u8 0, .int .i64 0, .int .i64 0, .string ⟨#[]⟩]) w := Try.zeroValue69
set_option maxHeartbeats 1000000 in
set_option maxRecDepth 100000 in
theorem byteOf_ok (b a kind place : Nat) (num : Int) (txt t : ByteArray) (w : World) (x : Nat) (hs : ScIs w b t a) (ha : a < t.size) (ht : t.size ≤ 2000) (hx : x = (t[a]'ha).toNat) (h1 : 32 ≤ x) (h2 : x ≤ 126) :
    Calls Try.prog 49 #[.pointer (some ⟨b, 0, none⟩), tokV kind place num txt] w fun e w' => e = .returned (.int .u8 ((x : Nat) : Int)) ∧ w.grownBy w' (some b) ∧ ScIs w' b t (a + 1) := by
  have hx2 : ((t[a]'ha).toNat : Int) = (x : Int) := by rw [hx]
  have HS := hide hs
  have c0 := hs.c0
  have c1 := hs.c1
  have hbl := lt_heap hs
  clear hx hs
  have e1 : decide (a < t.size) = true := by simp [ha]
  unfold tokV
  go_enter Try.func49, Try.ntmps49
  go_wp2_with fail
  go_region_held3 (fun w' => w'.cell? ⟨b, 0, none⟩ = some (.string t) ∧ w'.cell? ⟨b, 1, none⟩ = some (.int .i64 ((a : Nat) : Int)) ∧ w'.cell? ⟨w.heap.size, 0, none⟩ = some (.int .u8 ((kind : Nat) : Int)) ∧ w'.cell? ⟨w.heap.size, 1, none⟩ = some (.int .i64 ((place : Nat) : Int)) ∧ w'.cell? ⟨w.heap.size, 2, none⟩ = some (.int .i64 num) ∧ w'.cell? ⟨w.heap.size, 3, none⟩ = some (.string txt))
    (first | go_keep | (refine ⟨?_, ?_, ?_, ?_, ?_, ?_⟩ <;> (refine cell_later hm ?_; go_keep)))
    ((go_at_call 30; refine (must_ok kind place num txt _).mono ?_; rintro _ w1 ⟨rfl, hm⟩))
  have d0 : w1.cell? ⟨b, 0, none⟩ = some (.string t) := cell_later hm (by go_keep)
  have d1 : w1.cell? ⟨b, 1, none⟩ = some (.int .i64 ((a : Nat) : Int)) := cell_later hm (by go_keep)
  have f0 : w1.cell? ⟨w.heap.size, 0, none⟩ = some (.int .u8 ((kind : Nat) : Int)) := cell_later hm (by go_keep)
  have f1 : w1.cell? ⟨w.heap.size, 1, none⟩ = some (.int .i64 ((place : Nat) : Int)) := cell_later hm (by go_keep)
  have f2 : w1.cell? ⟨w.heap.size, 2, none⟩ = some (.int .i64 num) := cell_later hm (by go_keep)
  have f3 : w1.cell? ⟨w.heap.size, 3, none⟩ = some (.string txt) := cell_later hm (by go_keep)
  have hb1 : Below w.heap.size w w1 := (((Below.refl _ _).alloc (Nat.le_refl _) _).drew).trans (hm.mono (by simp))
  have HS1 := hide (HS.out.later hb1)
  have hs1 := hb1.size
  clear hm c0 c1
  have g1 : decide ((32 : Int) ≤ (x : Int)) = true := by simp; omega
  have g2 : decide ((x : Int) ≤ 126) = true := by simp; omega
  go_wp2
  go_quiet (fail)
  go_wp2_with (go_at_call 30; refine (must_ok kind place num txt _).mono ?_; rintro _ w2 ⟨rfl, hm2⟩; have HS2 : Hid (ScIs w2 b t a) := ScIs.later (w := w1.drewN nq) HS1.out hm2; have p1 := HS2.out.c1; have pf := fun j => frozen_of_row w2 b j _ _ HS2.out)
  go_ret
  rw [show ((a : Int) + 1) = ((a + 1 : Nat) : Int) by omega]
  refine ⟨rfl, ?_, HS2.out.set (a + 1)⟩
  exact grownBy_trans (grownBy_below (hb1.trans ((Below.drewN (Below.refl _ _) nq).trans (hm2.mono (Nat.le_refl _)) |>.mono hs1)) _) (grownBy_set _ _ _ _)

set_option maxHeartbeats 1000000 in
set_option maxRecDepth 100000 in
theorem byteOf_end (b a kind place : Nat) (num : Int) (txt t : ByteArray) (w : World) (hs : ScIs w b t a) (ha : ¬ a < t.size) :
    Calls Try.prog 49 #[.pointer (some ⟨b, 0, none⟩), tokV kind place num txt] w fun e w' => e = gaveUp place ∧ w.grownBy w' (some b) := by
  have HS := hide hs
  have c0 := hs.c0
  have c1 := hs.c1
  have hbl := lt_heap hs
  clear hs
  have e1 : decide (a < t.size) = false := by simp [ha]
  unfold tokV
  go_enter Try.func49, Try.ntmps49
  go_wp2_with fail
  refine wp_region_still_tail 11 mixed (by kernel_rfl) ?_
  change wpStill Try.prog _ (w.alloc (.cells #[.int .u8 ((kind : Nat) : Int), .int .i64 ((place : Nat) : Int), .int .i64 num, .string txt] 69)).drew (fun a' => wpList Try.prog _ _ _ a' (w.alloc (.cells #[.int .u8 ((kind : Nat) : Int), .int .i64 ((place : Nat) : Int), .int .i64 num, .string txt] 69)).drew) _ _
  simp only [List.take_succ_cons, List.take_zero, List.drop_succ_cons, List.drop_zero]
  iterate 11 still_step
  refine wpStill_nil ?_
  go_wp2_with (go_at_call 30; refine (must_bad kind place num txt _).mono ?_; rintro _ w1 ⟨rfl, hm⟩; dsimp only [gaveUp])
  exact ⟨rfl, rfl, grownBy_below ((((Below.refl _ _).alloc (Nat.le_refl _) _).drew).trans (hm.mono (by simp))) _⟩

set_option maxHeartbeats 1000000 in
set_option maxRecDepth 100000 in
theorem byteOf_odd (b a kind place : Nat) (num : Int) (txt t : ByteArray) (w : World) (x : Nat) (hs : ScIs w b t a) (ha : a < t.size) (hx : x = (t[a]'ha).toNat) (h12 : ¬ (32 ≤ x ∧ x ≤ 126)) :
    Calls Try.prog 49 #[.pointer (some ⟨b, 0, none⟩), tokV kind place num txt] w fun e w' => e = gaveUp place ∧ w.grownBy w' (some b) := by
  have hx2 : ((t[a]'ha).toNat : Int) = (x : Int) := by rw [hx]
  have HS := hide hs
  have c0 := hs.c0
  have c1 := hs.c1
  have hbl := lt_heap hs
  clear hx hs
  have e1 : decide (a < t.size) = true := by simp [ha]
  unfold tokV
  go_enter Try.func49, Try.ntmps49
  go_wp2_with fail
  go_region_held3 (fun w' => w'.cell? ⟨b, 0, none⟩ = some (.string t) ∧ w'.cell? ⟨b, 1, none⟩ = some (.int .i64 ((a : Nat) : Int)) ∧ w'.cell? ⟨w.heap.size, 0, none⟩ = some (.int .u8 ((kind : Nat) : Int)) ∧ w'.cell? ⟨w.heap.size, 1, none⟩ = some (.int .i64 ((place : Nat) : Int)) ∧ w'.cell? ⟨w.heap.size, 2, none⟩ = some (.int .i64 num) ∧ w'.cell? ⟨w.heap.size, 3, none⟩ = some (.string txt))
    (first | go_keep | (refine ⟨?_, ?_, ?_, ?_, ?_, ?_⟩ <;> (refine cell_later hm ?_; go_keep)))
    ((go_at_call 30; refine (must_ok kind place num txt _).mono ?_; rintro _ w1 ⟨rfl, hm⟩))
  have d0 : w1.cell? ⟨b, 0, none⟩ = some (.string t) := cell_later hm (by go_keep)
  have d1 : w1.cell? ⟨b, 1, none⟩ = some (.int .i64 ((a : Nat) : Int)) := cell_later hm (by go_keep)
  have f0 : w1.cell? ⟨w.heap.size, 0, none⟩ = some (.int .u8 ((kind : Nat) : Int)) := cell_later hm (by go_keep)
  have f1 : w1.cell? ⟨w.heap.size, 1, none⟩ = some (.int .i64 ((place : Nat) : Int)) := cell_later hm (by go_keep)
  have f2 : w1.cell? ⟨w.heap.size, 2, none⟩ = some (.int .i64 num) := cell_later hm (by go_keep)
  have f3 : w1.cell? ⟨w.heap.size, 3, none⟩ = some (.string txt) := cell_later hm (by go_keep)
  have hb1 : Below w.heap.size w w1 := (((Below.refl _ _).alloc (Nat.le_refl _) _).drew).trans (hm.mono (by simp))
  have hs1 := hb1.size
  clear hm c0 c1
  have hcase : (decide ((32 : Int) ≤ (x : Int)) = false) ∨ (decide ((32 : Int) ≤ (x : Int)) = true ∧ decide ((x : Int) ≤ 126) = false) := by
    by_cases g : 32 ≤ x
    · right; exact ⟨by simp; omega, by simp; omega⟩
    · left; simp; omega
  rcases hcase with g1 | ⟨g1, g2⟩
  all_goals
    go_wp2
    go_quiet (fail)
    go_wp2_with (go_at_call 30; refine (must_bad kind place num txt _).mono ?_; rintro _ w2 ⟨rfl, hm2⟩; dsimp only [gaveUp])
    exact ⟨rfl, rfl, grownBy_below (hb1.trans ((Below.drewN (Below.refl _ _) nq).trans (hm2.mono (Nat.le_refl _)) |>.mono hs1)) _⟩
theorem byteS_256 {t : ByteArray} {a x : Nat} (h : byteS t a = some x) : x < 256 := by
  unfold byteS at h
  split at h
  · split at h
    · injection h with h; subst h; exact UInt8.toNat_lt _
    · cases h
  · cases h
theorem byteOf_any (b a kind place : Nat) (num : Int) (txt t : ByteArray) (w : World) (hs : ScIs w b t a) (ht : t.size ≤ 2000) :
    Calls Try.prog 49 #[.pointer (some ⟨b, 0, none⟩), tokV kind place num txt] w fun e w' => w.grownBy w' (some b) ∧ ((∃ x, byteS t a = some x ∧ e = .returned (.int .u8 ((x : Nat) : Int)) ∧ ScIs w' b t (a + 1)) ∨ (byteS t a = none ∧ e = gaveUp place)) := by
  by_cases ha : a < t.size
  · by_cases hx : 32 ≤ (t[a]'ha).toNat ∧ (t[a]'ha).toNat ≤ 126
    · refine (byteOf_ok b a kind place num txt t w _ hs ha ht rfl hx.1 hx.2).mono ?_
      rintro e w' ⟨he, hg, hsc⟩
      exact ⟨hg, Or.inl ⟨_, by unfold byteS; rw [dif_pos ha, if_pos hx], he, hsc⟩⟩
    · refine (byteOf_odd b a kind place num txt t w _ hs ha rfl hx).mono ?_
      rintro e w' ⟨he, hg⟩
      exact ⟨hg, Or.inr ⟨by unfold byteS; rw [dif_pos ha, if_neg hx], he⟩⟩
  · refine (byteOf_end b a kind place num txt t w hs ha).mono ?_
    rintro e w' ⟨he, hg⟩
    exact ⟨hg, Or.inr ⟨by unfold byteS; rw [dif_neg ha], he⟩⟩
end Go.Proofs.Ytpgamoielkpakaa
