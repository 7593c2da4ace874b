/-
  PROVED HERE: an entry of the program's own (a name, a digest by value, a size) is built, and laid as a row of its own: 34 cells; strings held against each other.
-/
import Derived.Test.YtpgamoielkpakaaRead
namespace Go.Proofs.Ytpgamoielkpakaa
open Go.RowKit
def ecellsOf (n : ByteArray) (ds : List Nat) (z : Int) : Array Value := (Value.string n :: ((cells8 ds).toList ++ [.int .i64 z])).toArray
theorem build71_lit (n : ByteArray) (x0 x1 x2 x3 x4 x5 x6 x7 x8 x9 x10 x11 x12 x13 x14 x15 x16 x17 x18 x19 x20 x21 x22 x23 x24 x25 x26 x27 x28 x29 x30 x31 : Value) (z : Int) (w : World) : (Instr.build 76 #[(0, .string n), (1, .agg #[x0, x1, x2, x3, x4, x5, x6, x7, x8, x9, x10, x11, x12, x13, x14, x15, x16, x17, x18, x19, x20, x21, x22, x23, x24, x25, x26, x27, x28, x29, x30, x31]), (2, .int .i64 z)]).run Try.prog w = .ok (.agg #[.string n, x0, x1, x2, x3, x4, x5, x6, x7, x8, x9, x10, x11, x12, x13, x14, x15, x16, x17, x18, x19, x20, x21, x22, x23, x24, x25, x26, x27, x28, x29, x30, x31, .int .i64 z]) w := by kernel_rfl
theorem slice47_lit (y0 y1 y2 y3 y4 y5 y6 y7 y8 y9 y10 y11 y12 y13 y14 y15 y16 y17 y18 y19 y20 y21 y22 y23 y24 y25 y26 y27 y28 y29 y30 y31 y32 y33 : Value) (w : World) : (Instr.buildSlice 36 1 #[(0, .agg #[y0, y1, y2, y3, y4, y5, y6, y7, y8, y9, y10, y11, y12, y13, y14, y15, y16, y17, y18, y19, y20, y21, y22, y23, y24, y25, y26, y27, y28, y29, y30, y31, y32, y33])]).run Try.prog w = .ok (.slice (some ⟨w.heap.size, 0, none⟩) 1 1) (w.alloc (.cells #[y0, y1, y2, y3, y4, y5, y6, y7, y8, y9, y10, y11, y12, y13, y14, y15, y16, y17, y18, y19, y20, y21, y22, y23, y24, y25, y26, y27, y28, y29, y30, y31, y32, y33] 76)) := by kernel_rfl
theorem list32 (ds : List Nat) (h : ds.length = 32) : ∃ x0 x1 x2 x3 x4 x5 x6 x7 x8 x9 x10 x11 x12 x13 x14 x15 x16 x17 x18 x19 x20 x21 x22 x23 x24 x25 x26 x27 x28 x29 x30 x31, ds = [x0, x1, x2, x3, x4, x5, x6, x7, x8, x9, x10, x11, x12, x13, x14, x15, x16, x17, x18, x19, x20, x21, x22, x23, x24, x25, x26, x27, x28, x29, x30, x31] := by
  obtain ⟨x0, ds, rfl⟩ := List.exists_cons_of_length_eq_add_one h
  replace h := Nat.succ.inj h
  obtain ⟨x1, ds, rfl⟩ := List.exists_cons_of_length_eq_add_one h
  replace h := Nat.succ.inj h
  obtain ⟨x2, ds, rfl⟩ := List.exists_cons_of_length_eq_add_one h
  replace h := Nat.succ.inj h
  obtain ⟨x3, ds, rfl⟩ := List.exists_cons_of_length_eq_add_one h
  replace h := Nat.succ.inj h
  obtain ⟨x4, ds, rfl⟩ := List.exists_cons_of_length_eq_add_one h
  replace h := Nat.succ.inj h
  obtain ⟨x5, ds, rfl⟩ := List.exists_cons_of_length_eq_add_one h
  replace h := Nat.succ.inj h
  obtain ⟨x6, ds, rfl⟩ := List.exists_cons_of_length_eq_add_one h
  replace h := Nat.succ.inj h
  obtain ⟨x7, ds, rfl⟩ := List.exists_cons_of_length_eq_add_one h
  replace h := Nat.succ.inj h
  obtain ⟨x8, ds, rfl⟩ := List.exists_cons_of_length_eq_add_one h
  replace h := Nat.succ.inj h
  obtain ⟨x9, ds, rfl⟩ := List.exists_cons_of_length_eq_add_one h
  replace h := Nat.succ.inj h
  obtain ⟨x10, ds, rfl⟩ := List.exists_cons_of_length_eq_add_one h
  replace h := Nat.succ.inj h
  obtain ⟨x11, ds, rfl⟩ := List.exists_cons_of_length_eq_add_one h
  replace h := Nat.succ.inj h
  obtain ⟨x12, ds, rfl⟩ := List.exists_cons_of_length_eq_add_one h
  replace h := Nat.succ.inj h
  obtain ⟨x13, ds, rfl⟩ := List.exists_cons_of_length_eq_add_one h
  replace h := Nat.succ.inj h
  obtain ⟨x14, ds, rfl⟩ := List.exists_cons_of_length_eq_add_one h
  replace h := Nat.succ.inj h
  obtain ⟨x15, ds, rfl⟩ := List.exists_cons_of_length_eq_add_one h
  replace h := Nat.succ.inj h
  obtain ⟨x16, ds, rfl⟩ := List.exists_cons_of_length_eq_add_one h
  replace h := Nat.succ.inj h
  obtain ⟨x17, ds, rfl⟩ := List.exists_cons_of_length_eq_add_one h
  replace h := Nat.succ.inj h
  obtain ⟨x18, ds, rfl⟩ := List.exists_cons_of_length_eq_add_one h
  replace h := Nat.succ.inj h
  obtain ⟨x19, ds, rfl⟩ := List.exists_cons_of_length_eq_add_one h
  replace h := Nat.succ.inj h
  obtain ⟨x20, ds, rfl⟩ := List.exists_cons_of_length_eq_add_one h
  replace h := Nat.succ.inj h
  obtain ⟨x21, ds, rfl⟩ := List.exists_cons_of_length_eq_add_one h
  replace h := Nat.succ.inj h
  obtain ⟨x22, ds, rfl⟩ := List.exists_cons_of_length_eq_add_one h
  replace h := Nat.succ.inj h
  obtain ⟨x23, ds, rfl⟩ := List.exists_cons_of_length_eq_add_one h
  replace h := Nat.succ.inj h
  obtain ⟨x24, ds, rfl⟩ := List.exists_cons_of_length_eq_add_one h
  replace h := Nat.succ.inj h
  obtain ⟨x25, ds, rfl⟩ := List.exists_cons_of_length_eq_add_one h
  replace h := Nat.succ.inj h
  obtain ⟨x26, ds, rfl⟩ := List.exists_cons_of_length_eq_add_one h
  replace h := Nat.succ.inj h
  obtain ⟨x27, ds, rfl⟩ := List.exists_cons_of_length_eq_add_one h
  replace h := Nat.succ.inj h
  obtain ⟨x28, ds, rfl⟩ := List.exists_cons_of_length_eq_add_one h
  replace h := Nat.succ.inj h
  obtain ⟨x29, ds, rfl⟩ := List.exists_cons_of_length_eq_add_one h
  replace h := Nat.succ.inj h
  obtain ⟨x30, ds, rfl⟩ := List.exists_cons_of_length_eq_add_one h
  replace h := Nat.succ.inj h
  obtain ⟨x31, ds, rfl⟩ := List.exists_cons_of_length_eq_add_one h
  replace h := Nat.succ.inj h
  obtain rfl := List.eq_nil_of_length_eq_zero h
  exact ⟨x0, x1, x2, x3, x4, x5, x6, x7, x8, x9, x10, x11, x12, x13, x14, x15, x16, x17, x18, x19, x20, x21, x22, x23, x24, x25, x26, x27, x28, x29, x30, x31, rfl⟩
theorem build71 (n : ByteArray) (ds : List Nat) (z : Int) (h : ds.length = 32) (w : World) : (Instr.build 76 #[(0, .string n), (1, .agg (cells8 ds)), (2, .int .i64 z)]).run Try.prog w = .ok (.agg (ecellsOf n ds z)) w := by
  obtain ⟨x0, x1, x2, x3, x4, x5, x6, x7, x8, x9, x10, x11, x12, x13, x14, x15, x16, x17, x18, x19, x20, x21, x22, x23, x24, x25, x26, x27, x28, x29, x30, x31, rfl⟩ := list32 ds h
  exact build71_lit n _ _ _ _ _ _ _ _ _ _ _ _ _ _ _ _ _ _ _ _ _ _ _ _ _ _ _ _ _ _ _ _ z w
theorem slice47 (n : ByteArray) (ds : List Nat) (z : Int) (h : ds.length = 32) (w : World) : (Instr.buildSlice 36 1 #[(0, .agg (ecellsOf n ds z))]).run Try.prog w = .ok (.slice (some ⟨w.heap.size, 0, none⟩) 1 1) (w.alloc (.cells (ecellsOf n ds z) 76)) := by
  obtain ⟨x0, x1, x2, x3, x4, x5, x6, x7, x8, x9, x10, x11, x12, x13, x14, x15, x16, x17, x18, x19, x20, x21, x22, x23, x24, x25, x26, x27, x28, x29, x30, x31, rfl⟩ := list32 ds h
  exact slice47_lit _ _ _ _ _ _ _ _ _ _ _ _ _ _ _ _ _ _ _ _ _ _ _ _ _ _ _ _ _ _ _ _ _ _ w
theorem ecellsOf_size (n : ByteArray) (ds : List Nat) (z : Int) (h : ds.length = 32) : (ecellsOf n ds z).size = 34 := by simp [ecellsOf, cells8_size, h]
theorem ecellsOf_one (n : ByteArray) (ds : List Nat) (z : Int) : ∀ u ∈ (ecellsOf n ds z).toList, u.oneCell' = true := by
  intro u hu
  simp only [ecellsOf, List.mem_cons, List.mem_append, List.not_mem_nil, or_false] at hu
  rcases hu with rfl | hu | rfl
  · rfl
  · have := cells8_one ds
    rw [Array.all_eq_true_iff_forall_mem] at this
    exact this u (by simpa using hu)
  · rfl

theorem leq9 (a b : ByteArray) (w : World) : (binOp .leq 9 (.string a) (.string b)).run Try.prog w = .ok (.bool (leB a b)) w := by
  simp [binOp, Op.stringOp, leB]
theorem bytesLess_not : ∀ a b : List UInt8, (!Op.bytesLess a b) = (Op.bytesLess b a || b == a)
  | [], [] => rfl
  | [], _ :: _ => by simp [Op.bytesLess]
  | _ :: _, [] => by simp [Op.bytesLess]
  | x :: a, y :: b => by
    have ih := bytesLess_not a b
    simp only [Op.bytesLess]
    rcases (show x < y ∨ x = y ∨ y < x by
      rcases Nat.lt_trichotomy x.toNat y.toNat with h | h | h
      · exact Or.inl (UInt8.lt_iff_toNat_lt.2 h)
      · exact Or.inr (Or.inl (UInt8.toNat_inj.1 h))
      · exact Or.inr (Or.inr (UInt8.lt_iff_toNat_lt.2 h))) with h | h | h
    · have h1 : ¬ y < x := UInt8.lt_asymm h
      have h2 : ¬ y = x := fun e => by subst e; exact UInt8.lt_irrefl _ h
      simp [h, h1, h2]
    · subst h
      simp [UInt8.lt_irrefl] at ih ⊢
      rw [ih]
    · have h1 : ¬ x < y := UInt8.lt_asymm h
      have h2 : ¬ x = y := fun e => by subst e; exact UInt8.lt_irrefl _ h
      simp [h, h1, h2]
theorem leB_cases (a b : ByteArray) : (leB a b = true ∧ Op.bytesLess a.toList b.toList = true) ∨ (leB a b = true ∧ Op.bytesLess a.toList b.toList = false ∧ a = b) ∨ (leB a b = false ∧ Op.bytesLess a.toList b.toList = false ∧ (¬ a.toList = b.toList) ∧ (a.toList == b.toList) = false) := by
  unfold leB
  cases h1 : Op.bytesLess a.toList b.toList with
  | true => left; simp
  | false =>
    by_cases h2 : a.toList = b.toList
    · right; left; exact ⟨by simp [h2], rfl, (toList_inj a b).1 h2⟩
    · right; right; exact ⟨by simp [h2], rfl, h2, by simp [h2]⟩
theorem wpList_build71 {ops : Array Oper} {rest : List Oper} {op : Oper} {a : Act} {w : World} {Q : Exit → Act → World → Prop} (hgd : op.guard = none) (x y z : Operand) (ho : op.op = .build 76 #[(0, x), (1, y), (2, z)])
    (n : ByteArray) (ds : List Nat) (k : Int) (hl : ds.length = 32) (hx : a.eval x = .string n) (hy : a.eval y = .agg (cells8 ds)) (hz : a.eval z = .int .i64 k)
    (h : wpList Try.prog ops Q rest (a.put op.dst (.agg (ecellsOf n ds k))) w) : wpList Try.prog ops Q (op :: rest) a w :=
  wpList_plain hgd fun _ hK => by
    have := build71 n ds k hl w
    unfold Oper.wp execOp
    simp only [ho, hx, hy, hz, List.map_toArray, List.map_cons, List.map_nil, Sem.run_bind, Sem.run_pure, this, Result.andThen_ok]
    exact hK _ _ h
theorem wpList_slice47 {ops : Array Oper} {rest : List Oper} {op : Oper} {a : Act} {w : World} {Q : Exit → Act → World → Prop} (hgd : op.guard = none) (x : Operand) (ho : op.op = .buildSlice 36 1 #[(0, x)])
    (n : ByteArray) (ds : List Nat) (k : Int) (hl : ds.length = 32) (hx : a.eval x = .agg (ecellsOf n ds k))
    (h : wpList Try.prog ops Q rest (a.put op.dst (.slice (some ⟨w.heap.size, 0, none⟩) 1 1)) (w.alloc (.cells (ecellsOf n ds k) 76))) : wpList Try.prog ops Q (op :: rest) a w :=
  wpList_plain hgd fun _ hK => by
    have := slice47 n ds k hl w
    unfold Oper.wp execOp
    simp only [ho, hx, List.map_toArray, List.map_cons, List.map_nil, Sem.run_bind, Sem.run_pure, this, Result.andThen_ok]
    exact hK _ _ h
theorem geq9 (a b : ByteArray) (w : World) : (binOp .geq 9 (.string a) (.string b)).run Try.prog w = .ok (.bool (leB b a)) w := by
  have : leB b a = !Op.bytesLess a.toList b.toList := (bytesLess_not _ _).symm
  rw [this]
  simp [binOp, Op.stringOp]
theorem leB_empty (a : ByteArray) (h : 1 ≤ a.size) : leB a ⟨#[]⟩ = false := by
  have hl : a.toList ≠ [] := by
    rw [ByteArray.toList_eq]
    intro e
    have : a.data.toList.length = 0 := by rw [e]; rfl
    have h2 : 1 ≤ a.data.size := h
    rw [Array.length_toList] at this
    omega
  have e0 : (ByteArray.mk #[]).toList = [] := by rw [ByteArray.toList_eq]
  unfold leB
  rw [e0]
  cases hq : a.toList with
  | nil => exact absurd hq hl
  | cons x t => rfl
end Go.Proofs.Ytpgamoielkpakaa
