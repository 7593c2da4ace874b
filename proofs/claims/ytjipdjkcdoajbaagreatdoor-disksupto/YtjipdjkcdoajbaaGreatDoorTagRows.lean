/-
  PROVED HERE: small facts on rows of entries (a tag's name, its digest, its size), and what the law's own function sameT answers for all lists of entries: nothing turns.
-/
import Derived.Test.YtjipdjkcdoajbaaGreatDoorGrLib
import Derived.Deep.RegionHeld3
import Derived.Deep.MidRow
import Derived.Laws.StructEq
namespace Go.Proofs.YtjipdjkcdoajbaaGreatDoor
open Go.RowKit

structure Tg where
  name : ByteArray
  dig : ByteArray
  size : Int
  deriving DecidableEq
instance : Inhabited Tg := ⟨⟨⟨#[]⟩, ⟨#[]⟩, 0⟩⟩
def Tg.cells (t : Tg) : List Value := [.string t.name, .string t.dig, .int .i64 t.size]

/-- The entries l lie at a slice's address, each in three cells. -/
def TagsAt (w : World) (oa : Option Addr) (l : List Tg) : Prop :=
  ∀ i, i < l.length → ∃ b o, oa = some ⟨b, o, none⟩ ∧ w.rangeAt b (o + i * 3) (l.getD i default).cells
theorem rangeAt_later {w w' : World} {b o : Nat} {cs : List Value} (hb : Below w.heap.size w w') (h : w.rangeAt b o cs) : w'.rangeAt b o cs := fun j v hj => cell_later hb (h j v hj)
theorem TagsAt.later {w w' : World} {oa : Option Addr} {l : List Tg} (hb : Below w.heap.size w w') (h : TagsAt w oa l) : TagsAt w' oa l := fun i hi => by
  obtain ⟨b, o, e, hr⟩ := h i hi
  exact ⟨b, o, e, rangeAt_later hb hr⟩
theorem Below.drewN {B : Nat} {w w' : World} (h : Below B w w') (n : Nat) : Below B w (w'.drewN n) := ⟨h.os, h.tape, h.output, h.size, h.block⟩
theorem info26 : (Tryz.prog.info? 84).map (·.size) = some 3 := by kernel_rfl
theorem load26 {w : World} {b o : Nat} (t : Tg) (h : w.rangeAt b o t.cells) : (Instr.loadAt 84 (.pointer (some ⟨b, o, none⟩))).run Tryz.prog w = .ok (.agg t.cells.toArray) w :=
  run_loadAt_mid w b o 84 t.cells _ h Tryz.underlying84 rfl info26

theorem toList_inj (a b : ByteArray) : a.toList = b.toList ↔ a = b := by
  rw [ByteArray.toList_eq, ByteArray.toList_eq]
  obtain ⟨⟨x⟩⟩ := a
  obtain ⟨⟨y⟩⟩ := b
  simp
theorem run_equal26 (x y : Tg) (w : World) : (Op.equalIn 10000 84 (.agg x.cells.toArray) (.agg y.cells.toArray)).run Tryz.prog w = .ok (decide (x = y)) w := by
  obtain ⟨n1, d1, z1⟩ := x
  obtain ⟨n2, d2, z2⟩ := y
  rw [show 10000 = 9999 + 1 from rfl]
  simp [Tg.cells, go_sem, Tryz.underlying84, Tryz.underlying9, Tryz.underlying3]
  simp only [toList_inj]
  by_cases h1 : n1 = n2 <;> by_cases h2 : d1 = d2 <;> by_cases h3 : z1 = z2 <;> simp [h1, h2, h3]
theorem neq26 (x y : Tg) (w : World) : (binOp .neq 84 (.agg x.cells.toArray) (.agg y.cells.toArray)).run Tryz.prog w = .ok (.bool (!decide (x = y))) w := by
  rw [run_neq_struct, run_equal26]; rfl
theorem eql26 (x y : Tg) (w : World) : (binOp .eql 84 (.agg x.cells.toArray) (.agg y.cells.toArray)).run Tryz.prog w = .ok (.bool (decide (x = y))) w := by
  rw [run_eql_struct, run_equal26]; rfl

set_option maxHeartbeats 1000000 in
set_option maxRecDepth 100000 in
theorem sameT_len (oa ob : Option Addr) (ca cb n n' : Nat) (w : World) (hne : n ≠ n') :
    Calls Tryz.prog 41 #[.slice oa n ca, .slice ob n' cb] w fun e w' => e = .returned (.bool false) ∧ Below w.heap.size w w' := by
  go_enter Tryz.func41, Tryz.ntmps41
  have e : ((n : Int) != (n' : Int)) = true := by simp; omega
  go_wp2
  go_ret
  simp [Below.refl]

set_option maxHeartbeats 1000000 in
set_option maxRecDepth 100000 in
theorem sameT_eq (oa ob : Option Addr) (ca cb n : Nat) (l m : List Tg) (w : World) (ha : TagsAt w oa l) (hb : TagsAt w ob m) (hl : l.length = n) (hm : m.length = n) (hn : n ≤ 9223372036854775807) :
    Calls Tryz.prog 41 #[.slice oa n ca, .slice ob n cb] w fun e w' => e = .returned (.bool (decide (l = m))) ∧ Below w.heap.size w w' := by
  have HA := hide ha
  have HB := hide hb
  have HL := hide hl
  have HM := hide hm
  clear ha hb hl hm
  obtain ⟨r, hr⟩ : ∃ r, r = decide (l = m) := ⟨_, rfl⟩
  rw [← hr]
  have HR := hide hr
  clear hr
  go_enter Tryz.func41, Tryz.ntmps41
  go_wp2
  go_loopw [5] (fun i wr => ∃ k : Nat, k ≤ n ∧ i = .int .i64 ((k : Nat) : Int) ∧ Below w.heap.size w wr ∧ ∀ j, j < k → l.getD j default = m.getD j default)
      (fun i _ => n - (intOf i).toNat)
  case atStart => exact ⟨0, Nat.zero_le _, rfl, Below.refl _ _, fun j hj => by omega⟩
  case round =>
      obtain ⟨k, hk, rfl, hbel, heq⟩ := hrel
      have HE := hide heq
      clear heq
      by_cases hlt : k < n
      · obtain ⟨b1, o1, rfl, x1⟩ := HA.out k (by rw [HL.out]; exact hlt)
        obtain ⟨b2, o2, rfl, y1⟩ := HB.out k (by rw [HM.out]; exact hlt)
        have x2 := rangeAt_later hbel x1
        have y2 := rangeAt_later hbel y1
        clear x1 y1
        generalize hx : l.getD k default = tx at x2
        generalize hy : m.getD k default = ty at y2
        have HXY := hide (And.intro hx hy)
        clear hx hy
        obtain ⟨n1, d1, z1⟩ := tx
        obtain ⟨n2, d2, z2⟩ := ty
        have c1 := x2 0 _ rfl
        have c2 := x2 1 _ rfl
        have c3 := x2 2 _ rfl
        have e1 := y2 0 _ rfl
        have e2 := y2 1 _ rfl
        have e3 := y2 2 _ rfl
        simp only [Nat.add_zero] at c1 e1
        clear x2 y2
        go_wp2
        obtain ⟨q, hq⟩ : ∃ q, q = !decide ((⟨n1, d1, z1⟩ : Tg) = ⟨n2, d2, z2⟩) := ⟨_, rfl⟩
        have hneq := fun w => neq26 ⟨n1, d1, z1⟩ ⟨n2, d2, z2⟩ w
        rw [← hq] at hneq
        have HQ := hide hq
        clear hq
        simp only [Tg.cells] at hneq
        cases q
        all_goals
          go_region_held3 (fun w' => w'.cell? ⟨b1, o1 + k * 3, none⟩ = some (.string n1) ∧ w'.cell? ⟨b1, o1 + k * 3 + 1, none⟩ = some (.string d1) ∧ w'.cell? ⟨b1, o1 + k * 3 + 2, none⟩ = some (.int .i64 z1) ∧ w'.cell? ⟨b2, o2 + k * 3, none⟩ = some (.string n2) ∧ w'.cell? ⟨b2, o2 + k * 3 + 1, none⟩ = some (.string d2) ∧ w'.cell? ⟨b2, o2 + k * 3 + 2, none⟩ = some (.int .i64 z2)) (go_keep) (fail)
        all_goals go_wp2
        · go_roundw
          case rel =>
            refine ⟨k + 1, by omega, by go_num, hbel.drew, fun j hj => ?_⟩
            by_cases e : j = k
            · subst e
              rw [HXY.out.1, HXY.out.2]
              simpa using HQ.out
            · exact HE.out j (by omega)
          case measure => simp [intOf]; omega
        · go_ret
          refine ⟨?_, hbel.drew⟩
          rw [HR.out]
          have hne : l ≠ m := fun e => by
            have h1 := HXY.out.1
            rw [e, HXY.out.2] at h1
            simp [h1] at HQ
            exact HQ.out.elim
          simp [hne]
      · go_wp2
        go_ret
        refine ⟨?_, hbel⟩
        rw [HR.out]
        have he : l = m := by
          apply List.ext_getElem (by rw [HL.out, HM.out])
          intro i h1 h2
          have h3 := HL.out
          have := HE.out i (by omega)
          simpa [List.getD_eq_getElem?_getD, h1, h2] using this
        simp [he]
theorem sameT_any (oa ob : Option Addr) (ca cb : Nat) (l m : List Tg) (w : World) (ha : TagsAt w oa l) (hb : TagsAt w ob m) (hla : l.length ≤ 9223372036854775807) :
    Calls Tryz.prog 41 #[.slice oa l.length ca, .slice ob m.length cb] w fun e w' => e = .returned (.bool (decide (l = m))) ∧ Below w.heap.size w w' := by
  by_cases h : l.length = m.length
  · have := sameT_eq oa ob ca cb l.length l m w ha hb rfl h.symm hla
    rw [h] at this ⊢
    exact this
  · have hne : l ≠ m := fun e => h (by rw [e])
    have := sameT_len oa ob ca cb l.length m.length w h
    simpa [hne] using this
end Go.Proofs.YtjipdjkcdoajbaaGreatDoor
