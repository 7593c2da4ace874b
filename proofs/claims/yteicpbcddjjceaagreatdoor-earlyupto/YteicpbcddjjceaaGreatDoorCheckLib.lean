/-
  PROVED HERE: an entry of the program's own (a name, a digest by value, a size) is built, and laid as a row of its own: 34 cells; strings held against each other.
-/
import Derived.Test.YteicpbcddjjceaaGreatDoorRead
import Derived.Test.YteicpbcddjjceaaGreatDoorDigLib
import Derived.Test.YteicpbcddjjceaaGreatDoorShelf
import Derived.Laws.AppendOwn
import Derived.Deep.MidRow
namespace Go.Proofs.YteicpbcddjjceaaGreatDoor
open Go.RowKit
def ecellsOf (n : ByteArray) (ds : List Nat) (z : Int) : Array Value := (Value.string n :: ((cells8 ds).toList ++ [.int .i64 z])).toArray
theorem build71_lit (n : ByteArray) (x0 x1 x2 x3 x4 x5 x6 x7 x8 x9 x10 x11 x12 x13 x14 x15 x16 x17 x18 x19 x20 x21 x22 x23 x24 x25 x26 x27 x28 x29 x30 x31 : Value) (z : Int) (w : World) : (Instr.build 130 #[(0, .string n), (1, .agg #[x0, x1, x2, x3, x4, x5, x6, x7, x8, x9, x10, x11, x12, x13, x14, x15, x16, x17, x18, x19, x20, x21, x22, x23, x24, x25, x26, x27, x28, x29, x30, x31]), (2, .int .i64 z)]).run Tryz.prog w = .ok (.agg #[.string n, x0, x1, x2, x3, x4, x5, x6, x7, x8, x9, x10, x11, x12, x13, x14, x15, x16, x17, x18, x19, x20, x21, x22, x23, x24, x25, x26, x27, x28, x29, x30, x31, .int .i64 z]) w := by kernel_rfl
theorem slice47_lit (y0 y1 y2 y3 y4 y5 y6 y7 y8 y9 y10 y11 y12 y13 y14 y15 y16 y17 y18 y19 y20 y21 y22 y23 y24 y25 y26 y27 y28 y29 y30 y31 y32 y33 : Value) (w : World) : (Instr.buildSlice 78 1 #[(0, .agg #[y0, y1, y2, y3, y4, y5, y6, y7, y8, y9, y10, y11, y12, y13, y14, y15, y16, y17, y18, y19, y20, y21, y22, y23, y24, y25, y26, y27, y28, y29, y30, y31, y32, y33])]).run Tryz.prog w = .ok (.slice (some ⟨w.heap.size, 0, none⟩) 1 1) (w.alloc (.cells #[y0, y1, y2, y3, y4, y5, y6, y7, y8, y9, y10, y11, y12, y13, y14, y15, y16, y17, y18, y19, y20, y21, y22, y23, y24, y25, y26, y27, y28, y29, y30, y31, y32, y33] 130)) := by kernel_rfl
theorem list32 (ds : List Nat) (h : ds.length = 32) : ∃ x0 x1 x2 x3 x4 x5 x6 x7 x8 x9 x10 x11 x12 x13 x14 x15 x16 x17 x18 x19 x20 x21 x22 x23 x24 x25 x26 x27 x28 x29 x30 x31, ds = [x0, x1, x2, x3, x4, x5, x6, x7, x8, x9, x10, x11, x12, x13, x14, x15, x16, x17, x18, x19, x20, x21, x22, x23, x24, x25, x26, x27, x28, x29, x30, x31] := by
  obtain ⟨x0, ds, rfl⟩ := List.exists_cons_of_length_eq_add_one h
  replace h := Nat.succ.inj h
  obtain ⟨x1, ds, rfl⟩ := List.exists_cons_of_length_eq_add_one h
  replace h := Nat.succ.inj h
  obtain ⟨x2, ds, rfl⟩ := List.exists_cons_of_length_eq_add_one h
  replace h := Nat.succ.inj h
  obtain ⟨x3, ds, rfl⟩ := List.exists_cons_of_length_eq_add_one h
  replace h := Nat.succ.inj h
  obtain ⟨x4, ds, rfl⟩ := List.exists_cons_of_length_eq_add_one h
  replace h := Nat.succ.inj h
  obtain ⟨x5, ds, rfl⟩ := List.exists_cons_of_length_eq_add_one h
  replace h := Nat.succ.inj h
  obtain ⟨x6, ds, rfl⟩ := List.exists_cons_of_length_eq_add_one h
  replace h := Nat.succ.inj h
  obtain ⟨x7, ds, rfl⟩ := List.exists_cons_of_length_eq_add_one h
  replace h := Nat.succ.inj h
  obtain ⟨x8, ds, rfl⟩ := List.exists_cons_of_length_eq_add_one h
  replace h := Nat.succ.inj h
  obtain ⟨x9, ds, rfl⟩ := List.exists_cons_of_length_eq_add_one h
  replace h := Nat.succ.inj h
  obtain ⟨x10, ds, rfl⟩ := List.exists_cons_of_length_eq_add_one h
  replace h := Nat.succ.inj h
  obtain ⟨x11, ds, rfl⟩ := List.exists_cons_of_length_eq_add_one h
  replace h := Nat.succ.inj h
  obtain ⟨x12, ds, rfl⟩ := List.exists_cons_of_length_eq_add_one h
  replace h := Nat.succ.inj h
  obtain ⟨x13, ds, rfl⟩ := List.exists_cons_of_length_eq_add_one h
  replace h := Nat.succ.inj h
  obtain ⟨x14, ds, rfl⟩ := List.exists_cons_of_length_eq_add_one h
  replace h := Nat.succ.inj h
  obtain ⟨x15, ds, rfl⟩ := List.exists_cons_of_length_eq_add_one h
  replace h := Nat.succ.inj h
  obtain ⟨x16, ds, rfl⟩ := List.exists_cons_of_length_eq_add_one h
  replace h := Nat.succ.inj h
  obtain ⟨x17, ds, rfl⟩ := List.exists_cons_of_length_eq_add_one h
  replace h := Nat.succ.inj h
  obtain ⟨x18, ds, rfl⟩ := List.exists_cons_of_length_eq_add_one h
  replace h := Nat.succ.inj h
  obtain ⟨x19, ds, rfl⟩ := List.exists_cons_of_length_eq_add_one h
  replace h := Nat.succ.inj h
  obtain ⟨x20, ds, rfl⟩ := List.exists_cons_of_length_eq_add_one h
  replace h := Nat.succ.inj h
  obtain ⟨x21, ds, rfl⟩ := List.exists_cons_of_length_eq_add_one h
  replace h := Nat.succ.inj h
  obtain ⟨x22, ds, rfl⟩ := List.exists_cons_of_length_eq_add_one h
  replace h := Nat.succ.inj h
  obtain ⟨x23, ds, rfl⟩ := List.exists_cons_of_length_eq_add_one h
  replace h := Nat.succ.inj h
  obtain ⟨x24, ds, rfl⟩ := List.exists_cons_of_length_eq_add_one h
  replace h := Nat.succ.inj h
  obtain ⟨x25, ds, rfl⟩ := List.exists_cons_of_length_eq_add_one h
  replace h := Nat.succ.inj h
  obtain ⟨x26, ds, rfl⟩ := List.exists_cons_of_length_eq_add_one h
  replace h := Nat.succ.inj h
  obtain ⟨x27, ds, rfl⟩ := List.exists_cons_of_length_eq_add_one h
  replace h := Nat.succ.inj h
  obtain ⟨x28, ds, rfl⟩ := List.exists_cons_of_length_eq_add_one h
  replace h := Nat.succ.inj h
  obtain ⟨x29, ds, rfl⟩ := List.exists_cons_of_length_eq_add_one h
  replace h := Nat.succ.inj h
  obtain ⟨x30, ds, rfl⟩ := List.exists_cons_of_length_eq_add_one h
  replace h := Nat.succ.inj h
  obtain ⟨x31, ds, rfl⟩ := List.exists_cons_of_length_eq_add_one h
  replace h := Nat.succ.inj h
  obtain rfl := List.eq_nil_of_length_eq_zero h
  exact ⟨x0, x1, x2, x3, x4, x5, x6, x7, x8, x9, x10, x11, x12, x13, x14, x15, x16, x17, x18, x19, x20, x21, x22, x23, x24, x25, x26, x27, x28, x29, x30, x31, rfl⟩
theorem build71 (n : ByteArray) (ds : List Nat) (z : Int) (h : ds.length = 32) (w : World) : (Instr.build 130 #[(0, .string n), (1, .agg (cells8 ds)), (2, .int .i64 z)]).run Tryz.prog w = .ok (.agg (ecellsOf n ds z)) w := by
  obtain ⟨x0, x1, x2, x3, x4, x5, x6, x7, x8, x9, x10, x11, x12, x13, x14, x15, x16, x17, x18, x19, x20, x21, x22, x23, x24, x25, x26, x27, x28, x29, x30, x31, rfl⟩ := list32 ds h
  exact build71_lit n _ _ _ _ _ _ _ _ _ _ _ _ _ _ _ _ _ _ _ _ _ _ _ _ _ _ _ _ _ _ _ _ z w
theorem slice47 (n : ByteArray) (ds : List Nat) (z : Int) (h : ds.length = 32) (w : World) : (Instr.buildSlice 78 1 #[(0, .agg (ecellsOf n ds z))]).run Tryz.prog w = .ok (.slice (some ⟨w.heap.size, 0, none⟩) 1 1) (w.alloc (.cells (ecellsOf n ds z) 130)) := by
  obtain ⟨x0, x1, x2, x3, x4, x5, x6, x7, x8, x9, x10, x11, x12, x13, x14, x15, x16, x17, x18, x19, x20, x21, x22, x23, x24, x25, x26, x27, x28, x29, x30, x31, rfl⟩ := list32 ds h
  exact slice47_lit _ _ _ _ _ _ _ _ _ _ _ _ _ _ _ _ _ _ _ _ _ _ _ _ _ _ _ _ _ _ _ _ _ _ w
theorem ecellsOf_size (n : ByteArray) (ds : List Nat) (z : Int) (h : ds.length = 32) : (ecellsOf n ds z).size = 34 := by simp [ecellsOf, cells8_size, h]
theorem ecellsOf_one (n : ByteArray) (ds : List Nat) (z : Int) : ∀ u ∈ (ecellsOf n ds z).toList, u.oneCell' = true := by
  intro u hu
  simp only [ecellsOf, List.mem_cons, List.mem_append, List.not_mem_nil, or_false] at hu
  rcases hu with rfl | hu | rfl
  · rfl
  · have := cells8_one ds
    rw [Array.all_eq_true_iff_forall_mem] at this
    exact this u (by simpa using hu)
  · rfl

theorem leq9 (a b : ByteArray) (w : World) : (binOp .leq 9 (.string a) (.string b)).run Tryz.prog w = .ok (.bool (leB a b)) w := by
  simp [binOp, Op.stringOp, leB]
theorem bytesLess_not : ∀ a b : List UInt8, (!Op.bytesLess a b) = (Op.bytesLess b a || b == a)
  | [], [] => rfl
  | [], _ :: _ => by simp [Op.bytesLess]
  | _ :: _, [] => by simp [Op.bytesLess]
  | x :: a, y :: b => by
    have ih := bytesLess_not a b
    simp only [Op.bytesLess]
    rcases (show x < y ∨ x = y ∨ y < x by
      rcases Nat.lt_trichotomy x.toNat y.toNat with h | h | h
      · exact Or.inl (UInt8.lt_iff_toNat_lt.2 h)
      · exact Or.inr (Or.inl (UInt8.toNat_inj.1 h))
      · exact Or.inr (Or.inr (UInt8.lt_iff_toNat_lt.2 h))) with h | h | h
    · have h1 : ¬ y < x := UInt8.lt_asymm h
      have h2 : ¬ y = x := fun e => by subst e; exact UInt8.lt_irrefl _ h
      simp [h, h1, h2]
    · subst h
      simp [UInt8.lt_irrefl] at ih ⊢
      rw [ih]
    · have h1 : ¬ x < y := UInt8.lt_asymm h
      have h2 : ¬ x = y := fun e => by subst e; exact UInt8.lt_irrefl _ h
      simp [h, h1, h2]
theorem leB_cases (a b : ByteArray) : (leB a b = true ∧ Op.bytesLess a.toList b.toList = true) ∨ (leB a b = true ∧ Op.bytesLess a.toList b.toList = false ∧ a = b) ∨ (leB a b = false ∧ Op.bytesLess a.toList b.toList = false ∧ (¬ a.toList = b.toList) ∧ (a.toList == b.toList) = false) := by
  unfold leB
  cases h1 : Op.bytesLess a.toList b.toList with
  | true => left; simp
  | false =>
    by_cases h2 : a.toList = b.toList
    · right; left; exact ⟨by simp [h2], rfl, (toList_inj a b).1 h2⟩
    · right; right; exact ⟨by simp [h2], rfl, h2, by simp [h2]⟩
theorem wpList_build71 {ops : Array Oper} {rest : List Oper} {op : Oper} {a : Act} {w : World} {Q : Exit → Act → World → Prop} (hgd : op.guard = none) (x y z : Operand) (ho : op.op = .build 130 #[(0, x), (1, y), (2, z)])
    (n : ByteArray) (ds : List Nat) (k : Int) (hl : ds.length = 32) (hx : a.eval x = .string n) (hy : a.eval y = .agg (cells8 ds)) (hz : a.eval z = .int .i64 k)
    (h : wpList Tryz.prog ops Q rest (a.put op.dst (.agg (ecellsOf n ds k))) w) : wpList Tryz.prog ops Q (op :: rest) a w :=
  wpList_plain hgd fun _ hK => by
    have := build71 n ds k hl w
    unfold Oper.wp execOp
    simp only [ho, hx, hy, hz, List.map_toArray, List.map_cons, List.map_nil, Sem.run_bind, Sem.run_pure, this, Result.andThen_ok]
    exact hK _ _ h
theorem wpList_slice47 {ops : Array Oper} {rest : List Oper} {op : Oper} {a : Act} {w : World} {Q : Exit → Act → World → Prop} (hgd : op.guard = none) (x : Operand) (ho : op.op = .buildSlice 78 1 #[(0, x)])
    (n : ByteArray) (ds : List Nat) (k : Int) (hl : ds.length = 32) (hx : a.eval x = .agg (ecellsOf n ds k))
    (h : wpList Tryz.prog ops Q rest (a.put op.dst (.slice (some ⟨w.heap.size, 0, none⟩) 1 1)) (w.alloc (.cells (ecellsOf n ds k) 130))) : wpList Tryz.prog ops Q (op :: rest) a w :=
  wpList_plain hgd fun _ hK => by
    have := slice47 n ds k hl w
    unfold Oper.wp execOp
    simp only [ho, hx, List.map_toArray, List.map_cons, List.map_nil, Sem.run_bind, Sem.run_pure, this, Result.andThen_ok]
    exact hK _ _ h
theorem geq9 (a b : ByteArray) (w : World) : (binOp .geq 9 (.string a) (.string b)).run Tryz.prog w = .ok (.bool (leB b a)) w := by
  have : leB b a = !Op.bytesLess a.toList b.toList := (bytesLess_not _ _).symm
  rw [this]
  simp [binOp, Op.stringOp]
theorem leB_empty (a : ByteArray) (h : 1 ≤ a.size) : leB a ⟨#[]⟩ = false := by
  have hl : a.toList ≠ [] := by
    rw [ByteArray.toList_eq]
    intro e
    have : a.data.toList.length = 0 := by rw [e]; rfl
    have h2 : 1 ≤ a.data.size := h
    rw [Array.length_toList] at this
    omega
  have e0 : (ByteArray.mk #[]).toList = [] := by rw [ByteArray.toList_eq]
  unfold leB
  rw [e0]
  cases hq : a.toList with
  | nil => exact absurd hq hl
  | cons x t => rfl
end Go.Proofs.YteicpbcddjjceaaGreatDoor

/-
  PROVED HERE: what isTag of the program's package index answers for every string; nothing turns.
-/
namespace Go.Proofs.YteicpbcddjjceaaGreatDoor
open Go.RowKit

theorem sign_index (x : Nat) (hx : x < 256) : decide (Lib.indexByte [46, 95, 45] ((x : Int).toNat.toUInt8) < 0) = !signB x := by
  have h : ∀ n, n < 256 → decide (Lib.indexByte [46, 95, 45] (Nat.toUInt8 n) < 0) = !signB n := by decide +kernel
  rw [show ((x : Int).toNat) = x by omega]
  exact h x hx
theorem toNat_lt_256 (c : UInt8) : c.toNat < 256 := c.toNat_lt

set_option maxHeartbeats 2000000 in
set_option maxRecDepth 100000 in
theorem ownTag_any (s : ByteArray) (w : World) (hs : s.size ≤ 9223372036854775807) : Calls Tryz.prog 35 #[.string s] w fun e w' => e = .returned (.bool (isTagB s)) ∧ w' = w := by
  obtain ⟨r, hr⟩ : ∃ r, r = isTagB s := ⟨_, rfl⟩
  rw [← hr]
  have HR := hide hr
  clear hr
  by_cases h1 : 1 ≤ s.size
  · by_cases h20 : s.size ≤ 20
    · have c1 : ¬ (s.size : Int) < 1 := by omega
      have c2 : ¬ 20 < (s.size : Int) := by omega
      have c3 : (s.size : Int) ≤ 20 := by omega
      have c4 : 1 ≤ (s.size : Int) := by omega
      have c5 : 0 < s.size := by omega
      obtain ⟨x0, hx0⟩ : ∃ x : Nat, x = (s[0]'c5).toNat := ⟨_, rfl⟩
      have hy0 : ((s[0]'c5).toNat : Int) = (x0 : Int) := by rw [hx0]
      have hz0 : plainB (s.data.toList.getD 0 0).toNat = plainB x0 := by
        rw [hx0]
        have h1 : 0 < s.data.size := c5
        rw [List.getD_eq_getElem?_getD, Array.getElem?_toList, Array.getElem?_eq_getElem h1]
        rfl
      have HZ := hide hz0
      clear hx0 hz0
      cases hp0 : plainB x0 with
      | false =>
        go_enter Tryz.func35, Tryz.ntmps35
        go_wp2_with (go_at_call 64; refine (isSmallOrDigit_any _ _).mono ?_; rintro e w' ⟨rfl, rfl⟩)
        go_ret
        refine ⟨?_, rfl⟩
        rw [HR.out]
        unfold isTagB
        rw [HZ.out, hp0]
        simp
      | true =>
        have HP0 := hide hp0
        go_enter Tryz.func35, Tryz.ntmps35
        go_wp2_with (go_at_call 64; refine (isSmallOrDigit_any _ _).mono ?_; rintro e w' ⟨rfl, rfl⟩)
        go_loop [20] (fun i => ∃ k : Nat, k ≤ s.size ∧ i = .int .i64 ((k : Nat) : Int) ∧ ∀ j (h : j < s.size), j < k → (plainB (s[j]).toNat || signB (s[j]).toNat) = true) (fun i => s.size - (intOf i).toNat)
        case atStart => exact ⟨0, by omega, rfl, fun j _ hj => by omega⟩
        case round =>
          obtain ⟨k, hk, rfl, hall⟩ := hrel
          have HA := hide hall
          clear hall hy0 hp0
          by_cases hlt : k < s.size
          · obtain ⟨x, hx⟩ : ∃ x : Nat, x = (s[k]'hlt).toNat := ⟨_, rfl⟩
            have hx2 : ((s[k]'hlt).toNat : Int) = (x : Int) := by rw [hx]
            have hi := sign_index x (by rw [hx]; exact toNat_lt_256 _)
            have HX := hide hx
            clear hx
            obtain ⟨ix, hix⟩ : ∃ ix, ix = Lib.indexByte [46, 95, 45] ((x : Int).toNat.toUInt8) := ⟨_, rfl⟩
            rw [← hix] at hi
            have hcall : ∀ w, Calls Tryz.prog 65 #[.string ⟨#[46, 95, 45]⟩, .int .u8 (x : Int)] w fun e w' => e = .returned (.int .i64 ix) ∧ w' = w := fun w => by
              have := Tryz.strings_IndexByte ⟨#[46, 95, 45]⟩ (x : Int) w
              rw [hix]
              exact this
            have HC := hide hcall
            clear hcall hix
            cases hp : plainB x with
            | true =>
              have HP := hide hp
              go_wp2_with (go_at_call 64; refine (isSmallOrDigit_any _ _).mono ?_; rintro e w' ⟨rfl, rfl⟩)
              go_round
              case rel =>
                refine ⟨k + 1, by omega, by go_num, fun j h hj => ?_⟩
                by_cases e : j = k
                · subst e
                  rw [← HX.out, HP.out]
                  rfl
                · exact HA.out j h (by omega)
              case measure => simp [intOf]; omega
            | false =>
              have HP := hide hp
              cases hsg : signB x with
              | true =>
                have HS := hide hsg
                rw [hsg] at hi
                have hi2 : ¬ ix < 0 := by simpa using hi
                clear hi
                go_wp2_with (first | (go_at_call 64; refine (isSmallOrDigit_any _ _).mono ?_; rintro e w' ⟨rfl, rfl⟩) | (go_at_call 65; refine (HC.out _).mono ?_; rintro e w' ⟨rfl, rfl⟩))
                go_round
                case rel =>
                  refine ⟨k + 1, by omega, by go_num, fun j h hj => ?_⟩
                  by_cases e : j = k
                  · subst e
                    rw [← HX.out, HS.out, Bool.or_true]
                  · exact HA.out j h (by omega)
                case measure => simp [intOf]; omega
              | false =>
                have HS := hide hsg
                rw [hsg] at hi
                have hi2 : ix < 0 := by simpa using hi
                clear hi
                go_wp2_with (first | (go_at_call 64; refine (isSmallOrDigit_any _ _).mono ?_; rintro e w' ⟨rfl, rfl⟩) | (go_at_call 65; refine (HC.out _).mono ?_; rintro e w' ⟨rfl, rfl⟩))
                go_ret
                refine ⟨?_, rfl⟩
                rw [HR.out]
                have : s.data.toList.all (fun c => plainB c.toNat || signB c.toNat) = false := by
                  cases hq : s.data.toList.all (fun c => plainB c.toNat || signB c.toNat) with
                  | false => rfl
                  | true =>
                    have := (all_iff s _).1 hq k hlt
                    simp only [← HX.out, HP.out, HS.out] at this
                    cases this
                unfold isTagB
                rw [this, Bool.and_false]
                rfl
          · go_wp2
            go_ret
            refine ⟨?_, rfl⟩
            rw [HR.out]
            have : s.data.toList.all (fun c => plainB c.toNat || signB c.toNat) = true := (all_iff s _).2 fun j h => HA.out j h (by omega)
            unfold isTagB
            rw [this, HZ.out, HP0.out]
            simp [h1, h20]
    · have c1 : ¬ (s.size : Int) < 1 := by omega
      have c2 : 20 < (s.size : Int) := by omega
      go_enter Tryz.func35, Tryz.ntmps35
      go_wp2
      go_ret
      refine ⟨?_, rfl⟩
      rw [HR.out]
      simp [isTagB, h20]
  · have c1 : (s.size : Int) < 1 := by omega
    go_enter Tryz.func35, Tryz.ntmps35
    go_wp2
    go_ret
    refine ⟨?_, rfl⟩
    rw [HR.out]
    simp [isTagB, h1]
end Go.Proofs.YteicpbcddjjceaaGreatDoor

/-
  PROVED HERE: rows that one owns stay one's own while others come; no text of the program.
-/
namespace Go.Proofs.YteicpbcddjjceaaGreatDoor
open Go.RowKit
theorem lt_of_row' {w : World} {g : Nat} {o : Obj} (h : w.heap[g]? = some o) : g < w.heap.size := (Array.getElem?_eq_some_iff.1 h).1
theorem ownsRow_later {w w' : World} {base : Nat} {e : TypeId} {size : Nat} {v : Value} {n : Nat} {xs : List Value} (h : w.ownsRow base e size v n xs) (hb : Below w.heap.size w w') : w'.ownsRow base e size v n xs := by
  refine ⟨h.1, h.2.imp id ?_⟩
  rintro ⟨g, cap, cur, e1, e2, e3, e4⟩
  exact ⟨g, cap, cur, e1, e2, (hb.block g (lt_of_row' e3)).trans e3, e4⟩
theorem row_cells {w : World} {g : Nat} {cs : Array Value} {t : TypeId} {fr : Nat × Nat} (h : w.heap[g]? = some (.cells cs t fr)) : ∀ j u, cs.toList[j]? = some u → w.cell? ((⟨g, 0, none⟩ : Addr).add j) = some u := by
  intro j u hj
  rw [Addr.add_mid, cell_of_row w g (0 + j) _ _ _ h]
  simpa using hj
theorem grown_below {B : Nat} {a w w' : World} {v : Value} {base : Nat} {e : TypeId} {size n : Nat} {xs : List Value} (h : Below B a w) (hg : w.grownBy w' v.ownBlock) (ho : w.ownsRow base e size v n xs) (hB : B ≤ base) (hs : B ≤ w.heap.size) : Below B a w' :=
  h.grown hg hs fun k hk => Nat.le_trans hB (ho.lt k hk).1

theorem grown_keeps {w w2 : World} {v : Value} (hg : w.grownBy w2 v.ownBlock) {g : Nat} {o : Obj} (h : w.heap[g]? = some o) (hne : v.ownBlock ≠ some g) : w2.heap[g]? = some o :=
  (hg.block g (lt_of_row' h) (fun e => hne e.symm)).trans h
end Go.Proofs.YteicpbcddjjceaaGreatDoor

/-
  PROVED HERE: an entry's cells, and which lists are an index.
-/
namespace Go.Proofs.YteicpbcddjjceaaGreatDoor
open Go.RowKit

/-- An entry's cells: the name, the digest's 32 bytes, the size. -/
def Tg.ecells (t : Tg) : List Value := (ecellsOf t.name (rd t.dig) t.size).toList
theorem Tg.ecells_len (t : Tg) : t.ecells.length = 34 := by
  show (ecellsOf t.name (rd t.dig) t.size).toList.length = 34
  rw [Array.length_toList, ecellsOf_size _ _ _ (rd_len _)]
def lastName (l : List Tg) : Nat → ByteArray
  | 0 => ⟨#[]⟩
  | k + 1 => (l.getD k default).name
/-- May entry k stand there? -/
def goodB (l : List Tg) (k : Nat) : Bool :=
  isDigB (l.getD k default).dig && (isTagB (l.getD k default).name && (!leB (l.getD k default).name (lastName l k) && (decide (0 ≤ (l.getD k default).size) && decide ((l.getD k default).size ≤ 300))))
def indexB (l : List Tg) : Bool := decide (l.length ≤ 8) && decide (∀ k, k < l.length → goodB l k = true)

theorem Tryz.info130 : (Tryz.prog.info? 130).map (fun i => (i.zero, i.size, i.bytes)) = some (some (.agg (ecellsOf ⟨#[]⟩ (Sha.zeros 32) 0)), 34, 56) := by kernel_rfl
theorem take_flat (l : List Tg) (k : Nat) (h : k < l.length) (f : Tg → List Value) : (l.take (k + 1)).flatMap f = (l.take k).flatMap f ++ f (l.getD k default) := by
  rw [List.take_succ_eq_append_getElem h, List.flatMap_append]
  simp [List.getD_eq_getElem?_getD, h]

end Go.Proofs.YteicpbcddjjceaaGreatDoor
