/-
  PROVED HERE: what the program's small functions of the index's scanner answer: must, skipSpaces: or that they give up, with which place.
-/
import Derived.Test.YtpgamoielkpakaaLetters
import Derived.Test.YtpgamoielkpakaaDigOk
namespace Go.Proofs.Ytpgamoielkpakaa
open Go.RowKit
/-- A token by value. -/
def tokV (kind : Nat) (place : Nat) (num : Int) (txt : ByteArray) : Value := .agg #[.int .u8 ((kind : Nat) : Int), .int .i64 ((place : Nat) : Int), .int .i64 num, .string txt]
/-- The reader gives up at a place. -/
def gaveUp (p : Nat) : Ending := .panicked [{ v := .iface 85 (.int .i64 ((p : Nat) : Int)), recovered := false }]
set_option maxRecDepth 100000 in
theorem must_ok (kind place : Nat) (num : Int) (txt : ByteArray) (w : World) : Calls Try.prog 30 #[tokV kind place num txt, .bool true] w fun e w' => e = .returned (.tuple #[]) ∧ Below w.heap.size w w' := by
  unfold tokV
  go_enter Try.func30, Try.ntmps30
  go_wp2
  go_end0
  exact ⟨rfl, (Below.refl _ _).alloc (Nat.le_refl _) _⟩
set_option maxRecDepth 100000 in
theorem must_bad (kind place : Nat) (num : Int) (txt : ByteArray) (w : World) : Calls Try.prog 30 #[tokV kind place num txt, .bool false] w fun e w' => e = gaveUp place ∧ Below w.heap.size w w' := by
  unfold tokV
  go_enter Try.func30, Try.ntmps30
  go_wp2
  exact ⟨rfl, rfl, (Below.refl _ _).alloc (Nat.le_refl _) _⟩
/-- The scanner lies in block b: the text, and how far it is gone through. -/
def ScIs (w : World) (b : Nat) (t : ByteArray) (a : Nat) : Prop := w.heap[b]? = some (.cells #[.string t, .int .i64 ((a : Nat) : Int)] 66 (0, 0))
theorem ScIs.c0 {w : World} {b a : Nat} {t : ByteArray} (h : ScIs w b t a) : w.cell? ⟨b, 0, none⟩ = some (.string t) := cell_of_row w b 0 _ _ _ h
theorem ScIs.c1 {w : World} {b a : Nat} {t : ByteArray} (h : ScIs w b t a) : w.cell? ⟨b, 1, none⟩ = some (.int .i64 ((a : Nat) : Int)) := cell_of_row w b 1 _ _ _ h
theorem ScIs.set {w : World} {b a : Nat} {t : ByteArray} (h : ScIs w b t a) (a' : Nat) : ScIs (w.setCell ⟨b, 1, none⟩ (.int .i64 ((a' : Nat) : Int))) b t a' := by
  unfold ScIs
  rw [heap_setCell_same w b 1 _ 66 _ h]
  rfl
def atOf (w : World) (b : Nat) : Nat := match w.cell? ⟨b, 1, none⟩ with | some (.int _ n) => n.toNat | _ => 0
theorem ScIs.atOf {w : World} {b a : Nat} {t : ByteArray} (h : ScIs w b t a) : atOf w b = a := by unfold Go.Proofs.Ytpgamoielkpakaa.atOf; rw [h.c1]; simp
theorem grownBy_refl (w : World) (r : Option Nat) : w.grownBy w r := ⟨rfl, rfl, rfl, Nat.le_refl _, fun _ _ _ => rfl⟩
theorem grownBy_trans {w w1 w2 : World} {r : Option Nat} (h1 : w.grownBy w1 r) (h2 : w1.grownBy w2 r) : w.grownBy w2 r :=
  ⟨h2.os.trans h1.os, h2.tape.trans h1.tape, h2.output.trans h1.output, Nat.le_trans h1.size h2.size, fun k hk hne => (h2.block k (Nat.lt_of_lt_of_le hk h1.size) hne).trans (h1.block k hk hne)⟩
theorem grownBy_set (w : World) (b o : Nat) (v : Value) : w.grownBy (w.setCell ⟨b, o, none⟩ v) (some b) :=
  ⟨rfl, rfl, rfl, by simp, fun k _ hne => heap_setCell_other _ _ _ _ (fun e => hne (by rw [e]))⟩
theorem grownBy_below {w w1 : World} (h : Below w.heap.size w w1) (r : Option Nat) : w.grownBy w1 r := ⟨h.os, h.tape, h.output, h.size, fun k hk _ => h.block k hk⟩
theorem sp_index (x : Nat) (hx : x < 256) : decide (0 ≤ Lib.indexByte [9, 10, 13, 32] ((x : Int).toNat.toUInt8)) = spB x := by
  have h : ∀ n, n < 256 → decide (0 ≤ Lib.indexByte [9, 10, 13, 32] (Nat.toUInt8 n)) = spB n := by decide +kernel
  rw [show ((x : Int).toNat) = x by omega]
  exact h x hx
set_option maxHeartbeats 1000000 in
set_option maxRecDepth 100000 in
theorem skip_any (b a : Nat) (t : ByteArray) (w : World) (hs : ScIs w b t a) (ha : a ≤ t.size) (ht : t.size ≤ 2000) :
    Calls Try.prog 40 #[.pointer (some ⟨b, 0, none⟩)] w fun e w' => e = .returned (.tuple #[]) ∧ w.grownBy w' (some b) ∧ ScIs w' b t (skipS t a) := by
  have HS := hide hs
  go_enter Try.func40, Try.ntmps40
  go_wp2
  go_loopw [] (fun wr => ∃ k : Nat, k ≤ t.size ∧ skipS t k = skipS t a ∧ ScIs wr b t k ∧ w.grownBy wr (some b))
    (fun wr => t.size - atOf wr b)
  case atStart => exact ⟨a, ha, rfl, hs, grownBy_refl _ _⟩
  case round =>
    clear hs
    obtain ⟨k, hk, he, hr, hg⟩ := hrel
    have HE := hide he
    have HG := hide hg
    have HR := hide hr
    have c0 := hr.c0
    have c1 := hr.c1
    have hf := fun j => frozen_of_row wr b j _ _ hr
    have hat := hr.atOf
    clear hr he hg
    by_cases hlt : k < t.size
    · have e1 : decide (k < t.size) = true := by simp [hlt]
      obtain ⟨x, hx⟩ : ∃ x : Nat, x = (t[k]'hlt).toNat := ⟨_, rfl⟩
      have hx2 : ((t[k]'hlt).toNat : Int) = (x : Int) := by rw [hx]
      have hi := sp_index x (by rw [hx]; exact UInt8.toNat_lt _)
      have HX := hide hx
      clear hx
      obtain ⟨ix, hix⟩ : ∃ ix, ix = Lib.indexByte [9, 10, 13, 32] ((x : Int).toNat.toUInt8) := ⟨_, rfl⟩
      rw [← hix] at hi
      have hcall : ∀ w, Calls Try.prog 41 #[.string ⟨#[9, 10, 13, 32]⟩, .int .u8 (x : Int)] w fun e w' => e = .returned (.int .i64 ix) ∧ w' = w := fun w => by
        have := Try.strings_IndexByte ⟨#[9, 10, 13, 32]⟩ (x : Int) w
        rw [hix]
        exact this
      have HC := hide hcall
      clear hcall hix
      cases hsp : spB x with
      | true =>
        have HSP := hide hsp
        rw [hsp] at hi
        go_wp2
        go_quiet ((go_at_call 41; exact Calls.quiet_of_same (HC.out _)))
        go_wp2
        go_roundw
        case rel =>
          rw [show ((k : Int) + 1) = ((k + 1 : Nat) : Int) by omega]
          refine ⟨k + 1, by omega, ?_, ScIs.set (w := wr.drewN nq) HR.out (k + 1), grownBy_trans HG.out (grownBy_trans (grownBy_below ((Below.refl _ _).drewN nq) _) (grownBy_set _ _ _ _))⟩
          rw [← HE.out]
          conv => rhs; rw [skipS, dif_pos hlt, ← HX.out, HSP.out]
          rfl
        case measure =>
          rw [show ((k : Int) + 1) = ((k + 1 : Nat) : Int) by omega, (ScIs.set (w := wr.drewN nq) HR.out (k + 1)).atOf, hat]
          omega
      | false =>
        have HSP := hide hsp
        rw [hsp] at hi
        go_wp2
        go_quiet ((go_at_call 41; exact Calls.quiet_of_same (HC.out _)))
        go_wp2
        go_end0
        refine ⟨rfl, grownBy_trans HG.out (grownBy_below ((Below.refl _ _).drewN nq) _), ?_⟩
        have e : skipS t a = k := by
          rw [← HE.out, skipS, dif_pos hlt, ← HX.out, HSP.out]
          rfl
        rw [e]
        exact HR.out
    · have e1 : decide (k < t.size) = false := by simp [hlt]
      go_wp2
      go_quiet (fail)
      go_wp2
      go_end0
      refine ⟨rfl, grownBy_trans HG.out (grownBy_below ((Below.refl _ _).drewN nq) _), ?_⟩
      have e : skipS t a = k := by rw [← HE.out, skipS, dif_neg hlt]
      rw [e]
      exact HR.out
end Go.Proofs.Ytpgamoielkpakaa
