/-
  PROVED HERE: what the program's function takeAll answers for every eight numbers and every text of whole blocks: nothing that was there has turned.
-/
import Derived.Test.YteicpbcddjjceaaGreatDoorBlock
import Derived.Test.YteicpbcddjjceaaGreatDoorDigLib
import Derived.Test.YteicpbcddjjceaaGreatDoorShelf
import Derived.ArgAppend
import Derived.Laws.IdiomStrings
import Derived.Test.YteicpbcddjjceaaGreatDoorRead
namespace Go.Proofs.YteicpbcddjjceaaGreatDoor
open Go.RowKit
theorem store8 {w : World} {g : Nat} {t : TypeId} {x0 x1 x2 x3 x4 x5 x6 x7 : Value} (y0 y1 y2 y3 y4 y5 y6 y7 : Value) (h : w.heap[g]? = some (.cells #[x0, x1, x2, x3, x4, x5, x6, x7] t (0, 0))) :
    ((((((((w.setCell ⟨g, 0, none⟩ y0).setCell ⟨g, 1, none⟩ y1).setCell ⟨g, 2, none⟩ y2).setCell ⟨g, 3, none⟩ y3).setCell ⟨g, 4, none⟩ y4).setCell ⟨g, 5, none⟩ y5).setCell ⟨g, 6, none⟩ y6).setCell ⟨g, 7, none⟩ y7).heap[g]? = some (.cells #[y0, y1, y2, y3, y4, y5, y6, y7] t (0, 0)) := by
  have h0 := heap_setCell_same w g 0 _ t y0 h
  simp only [List.setIfInBounds_toArray, List.set_cons_zero] at h0
  have h1 := heap_setCell_same _ g 1 _ t y1 h0
  simp only [List.setIfInBounds_toArray, List.set_cons_zero, List.set_cons_succ] at h1
  have h2 := heap_setCell_same _ g 2 _ t y2 h1
  simp only [List.setIfInBounds_toArray, List.set_cons_zero, List.set_cons_succ] at h2
  have h3 := heap_setCell_same _ g 3 _ t y3 h2
  simp only [List.setIfInBounds_toArray, List.set_cons_zero, List.set_cons_succ] at h3
  have h4 := heap_setCell_same _ g 4 _ t y4 h3
  simp only [List.setIfInBounds_toArray, List.set_cons_zero, List.set_cons_succ] at h4
  have h5 := heap_setCell_same _ g 5 _ t y5 h4
  simp only [List.setIfInBounds_toArray, List.set_cons_zero, List.set_cons_succ] at h5
  have h6 := heap_setCell_same _ g 6 _ t y6 h5
  simp only [List.setIfInBounds_toArray, List.set_cons_zero, List.set_cons_succ] at h6
  have h7 := heap_setCell_same _ g 7 _ t y7 h6
  simpa only [List.setIfInBounds_toArray, List.set_cons_zero, List.set_cons_succ] using h7
theorem HasK.below {w w1 : World} {B : Nat} (h : HasK w) (hb : Below B w w1) (hB : 2 < B) : HasK w1 :=
  ⟨by have := h.1; have := hb.size; omega, fun i hi => (hb.cell (p := ⟨2, i, none⟩) hB).trans (h.2 i hi)⟩
theorem HasK.drew {w : World} (h : HasK w) : HasK w.drew := h

set_option maxHeartbeats 1000000 in
set_option maxRecDepth 100000 in
theorem all_any (s : Sha.St) (bs : ByteArray) (w : World) (hs : s.Ok) (hm : bs.size ≤ maxLen - 64) (hsz : bs.size % 64 = 0) (hK : HasK w) :
    Calls Tryz.prog 111 #[.agg (vals s), .string bs] w fun e w' => e = .returned (.agg (vals (Sha.allTo s bs.data.toList (bs.size / 64)))) ∧ Below w.heap.size w w' := by
  unfold maxLen at hm
  have hz8 := (zero_of_info Tryz.info196).1
  have hK1 := hK.1
  go_enter Tryz.func111, Tryz.ntmps111
  go_wp2
  go_loopw [5] (fun i wr => ∃ k : Nat, 64 * k ≤ bs.size ∧ i = .int .i64 ((64 * k : Nat) : Int) ∧ wr.heap[w.heap.size]? = some (.cells (vals (Sha.allTo s bs.data.toList k)) 196 (0, 0)) ∧ wr.heap[w.heap.size + 1]? = some (.cells zero8 196 (0, 0)) ∧ Below w.heap.size w wr)
    (fun i _ => bs.size - (intOf i).toNat)
  case atStart => exact ⟨0, by omega, rfl, heap_alloc2_old _ _ _, heap_alloc2_new _ _ _, ((Below.refl _ _).alloc (Nat.le_refl _) _).alloc (by simp) _⟩
  case round =>
    obtain ⟨k, hk, rfl, hv, hr, hb⟩ := hrel
    have hok := Sha.allTo_ok hs bs.data.toList k
    obtain ⟨st, hst⟩ : ∃ st, st = Sha.allTo s bs.data.toList k := ⟨_, rfl⟩
    rw [← hst] at hok hv
    have HST := hide hst
    clear hst
    obtain ⟨at_, hat⟩ : ∃ at_, at_ = 64 * k := ⟨_, rfl⟩
    rw [← hat] at hk ⊢
    have HAT := hide hat
    clear hat
    by_cases hlt : at_ < bs.size
    · have hlt2 : at_ + 64 ≤ bs.size := by have := HAT.out; omega
      obtain ⟨c0, c1, c2, c3, c4, c5, c6, c7⟩ := cells_of8 hv
      have hKr : HasK wr := hK.below hb hK1
      have hzb := hb.size
      have HC : Hid (Calls Tryz.prog 165 #[.agg (vals st), .string (bs.extract at_ (at_ + 64))] wr.drew fun e w1 => e = .returned (.agg (vals (Sha.block st (bs.extract at_ (at_ + 64)).data.toList))) ∧ Below w.heap.size w w1 ∧ w.heap.size < w1.heap.size ∧ w1.heap[w.heap.size]? = some (.cells (vals st) 196 (0, 0)) ∧ w1.heap[w.heap.size + 1]? = some (.cells zero8 196 (0, 0))) := by
        have hlt1 := lt_of_row hr
        refine (block_any st _ wr.drew hok (by simp; omega) hKr.drew).mono ?_
        rintro e w1 ⟨rfl, hb1⟩
        exact ⟨rfl, (hb.drew).trans (hb1.mono (by show _ ≤ wr.heap.size; omega)), by have := hb1.size; have e1 : wr.drew.heap.size = wr.heap.size := rfl; omega, (hb1.block _ (by show _ < wr.heap.size; omega)).trans hv, (hb1.block _ (by show _ < wr.heap.size; omega)).trans hr⟩
      have q1 : IntKind.i64.wrap ((at_ : Int) + 64) = (at_ : Int) + 64 := by rw [IntKind.wrap_i64]; omega
      have q2 : (0 : Int) ≤ (at_ : Int) + 64 := by omega
      have q3 : (at_ : Int) + 64 ≤ (bs.size : Int) := by omega
      have q4 : ((at_ : Int) + 64).toNat = at_ + 64 := by omega
      have q5 : at_ ≤ bs.size := by omega
      have q6 : (at_ : Int) ≤ (at_ : Int) + 64 := by omega
      go_wp2
      go_region_with ((go_at_call 165; refine (HC.out).mono ?_; rintro e w1 ⟨rfl, hbw1, hz1, hv1, hr1⟩; obtain ⟨d0, d1, d2, d3, d4, d5, d6, d7⟩ := cells_of8 hv1; have f0 := fun j => frozen_of_row w1 w.heap.size j _ _ hv1))
      generalize hst2 : Sha.block st (List.take 64 (List.drop at_ bs.data.toList)) = st2
      have HST2 := hide hst2
      clear hst2 d0 d1 d2 d3 d4 d5 d6 d7 f0 c0 c1 c2 c3 c4 c5 c6 c7
      go_wp2
      go_roundw
      case rel =>
        refine ⟨k + 1, by have := HAT.out; omega, by have := HAT.out; go_num, ?_, ?_, ?_⟩
        · refine (store8 _ _ _ _ _ _ _ _ hv1).trans ?_
          rw [← HST2.out, HST.out, HAT.out]
          rfl
        · rw [heap_setCell_other _ _ _ _ (by simp), heap_setCell_other _ _ _ _ (by simp), heap_setCell_other _ _ _ _ (by simp), heap_setCell_other _ _ _ _ (by simp), heap_setCell_other _ _ _ _ (by simp), heap_setCell_other _ _ _ _ (by simp), heap_setCell_other _ _ _ _ (by simp), heap_setCell_other _ _ _ _ (by simp)]
          exact hr1
        · exact (((((((hbw1.setCell (by simp) _).setCell (by simp) _).setCell (by simp) _).setCell (by simp) _).setCell (by simp) _).setCell (by simp) _).setCell (by simp) _).setCell (by simp) _
      case measure => simp [intOf]; omega
    · have hke : Hid (k = bs.size / 64) := by show k = _; have := HAT.out; omega
      go_wp2_with (first | (refine wpList_load_row rfl 196 _ rfl w.heap.size rfl 196 _ _ _ hv Tryz.underlying196 rfl (size58 _ _ _ _ _ _ _ _) ?_) | (refine wpList_store_row rfl 196 _ _ rfl (w.heap.size + 1) _ rfl rfl 196 _ hr (size58 _ _ _ _ _ _ _ _) (sizes8 _ _ _ _ _ _ _ _ _ _ _ _ _ _ _ _) (ints8_one _ _ _ _ _ _ _ _) ?_))
      rw [← hke.out, ← HST.out]
      exact bodyPost_ret (results_cell_row Tryz.results111 _ _ (w.heap.size + 1) 196 _ (0, 0) _ rfl (setRow_heap _ _ _ _ _ _ hr) Tryz.underlying196 rfl (size58 _ _ _ _ _ _ _ _)) rfl ⟨rfl, hb.setRow (by omega) _⟩
end Go.Proofs.YteicpbcddjjceaaGreatDoor

/-
  PROVED HERE: what the program's function digestOf answers for every eight numbers of 32 bits: their 32 bytes; nothing that was there has turned.
-/
namespace Go.Proofs.YteicpbcddjjceaaGreatDoor
open Go.RowKit
theorem idx58_0 (x0 x1 x2 x3 x4 x5 x6 x7 : Value) (w : World) : (Instr.index 196 (.agg #[x0, x1, x2, x3, x4, x5, x6, x7]) (.int .i64 0)).run Tryz.prog w = .ok x0 w := by kernel_rfl
theorem idx58_1 (x0 x1 x2 x3 x4 x5 x6 x7 : Value) (w : World) : (Instr.index 196 (.agg #[x0, x1, x2, x3, x4, x5, x6, x7]) (.int .i64 1)).run Tryz.prog w = .ok x1 w := by kernel_rfl
theorem idx58_2 (x0 x1 x2 x3 x4 x5 x6 x7 : Value) (w : World) : (Instr.index 196 (.agg #[x0, x1, x2, x3, x4, x5, x6, x7]) (.int .i64 2)).run Tryz.prog w = .ok x2 w := by kernel_rfl
theorem idx58_3 (x0 x1 x2 x3 x4 x5 x6 x7 : Value) (w : World) : (Instr.index 196 (.agg #[x0, x1, x2, x3, x4, x5, x6, x7]) (.int .i64 3)).run Tryz.prog w = .ok x3 w := by kernel_rfl
theorem idx58_4 (x0 x1 x2 x3 x4 x5 x6 x7 : Value) (w : World) : (Instr.index 196 (.agg #[x0, x1, x2, x3, x4, x5, x6, x7]) (.int .i64 4)).run Tryz.prog w = .ok x4 w := by kernel_rfl
theorem idx58_5 (x0 x1 x2 x3 x4 x5 x6 x7 : Value) (w : World) : (Instr.index 196 (.agg #[x0, x1, x2, x3, x4, x5, x6, x7]) (.int .i64 5)).run Tryz.prog w = .ok x5 w := by kernel_rfl
theorem idx58_6 (x0 x1 x2 x3 x4 x5 x6 x7 : Value) (w : World) : (Instr.index 196 (.agg #[x0, x1, x2, x3, x4, x5, x6, x7]) (.int .i64 6)).run Tryz.prog w = .ok x6 w := by kernel_rfl
theorem idx58_7 (x0 x1 x2 x3 x4 x5 x6 x7 : Value) (w : World) : (Instr.index 196 (.agg #[x0, x1, x2, x3, x4, x5, x6, x7]) (.int .i64 7)).run Tryz.prog w = .ok x7 w := by kernel_rfl
theorem idx58 (s : Sha.St) (k : Nat) (hk : k < 8) (w : World) : (Instr.index 196 (.agg (vals s)) (.int .i64 ((k : Nat) : Int))).run Tryz.prog w = .ok (.int .u32 ((s.list.getD k 0 : Nat) : Int)) w := by
  match k, hk with
  | 0, _ => exact idx58_0 _ _ _ _ _ _ _ _ w
  | 1, _ => exact idx58_1 _ _ _ _ _ _ _ _ w
  | 2, _ => exact idx58_2 _ _ _ _ _ _ _ _ w
  | 3, _ => exact idx58_3 _ _ _ _ _ _ _ _ w
  | 4, _ => exact idx58_4 _ _ _ _ _ _ _ _ w
  | 5, _ => exact idx58_5 _ _ _ _ _ _ _ _ w
  | 6, _ => exact idx58_6 _ _ _ _ _ _ _ _ w
  | 7, _ => exact idx58_7 _ _ _ _ _ _ _ _ w

set_option maxHeartbeats 1000000 in
set_option maxRecDepth 100000 in
theorem digest_any (s : Sha.St) (w : World) :
    Calls Tryz.prog 112 #[.agg (vals s)] w fun e w' => e = .returned (.agg (cells8 (Sha.digest s))) ∧ Below w.heap.size w w' := by
  have hz4 := (zero_of_info Tryz.info72).1
  go_enter Tryz.func112, Tryz.ntmps112
  go_wp2
  go_loopw [7] (fun i wr => ∃ k : Nat, k ≤ 8 ∧ i = .int .i64 ((k : Nat) : Int) ∧ wr.heap[w.heap.size + 1]? = some (.cells (cells8 (Sha.zeros 32)) 72 (0, 0)) ∧ wr.heap[w.heap.size + 2]? = some (.cells (cells8 (Sha.dBytes s.list k)) 72 (0, 0)) ∧ Below w.heap.size w wr)
    (fun i _ => 8 - (intOf i).toNat)
  case atStart => exact ⟨0, by omega, rfl, (alloc3 _ _ _ _).1, (alloc3 _ _ _ _).2, (((Below.refl _ _).alloc (Nat.le_refl _) _).alloc (by simp) _).alloc (by simp; omega) _⟩
  case round =>
    obtain ⟨k, hk, rfl, hr, hv, hb⟩ := hrel
    by_cases hlt : k < 8
    · have hidx := fun w => idx58 s k hlt w
      have c0 := row8_cell hv (4 * k) (by rw [Sha.dBytes_len]; omega)
      have c1 := row8_cell hv (4 * k + 1) (by rw [Sha.dBytes_len]; omega)
      have c2 := row8_cell hv (4 * k + 2) (by rw [Sha.dBytes_len]; omega)
      have c3 := row8_cell hv (4 * k + 3) (by rw [Sha.dBytes_len]; omega)
      have f := fun j => frozen_of_row wr (w.heap.size + 2) j _ _ hv
      generalize hx : s.list.getD k 0 = x at hidx
      have HX := hide hx
      clear hx
      have hzb := lt_of_row hv
      go_wp2
      go_roundw
      case rel =>
        rw [show (x : Int) / 16777216 % 256 = ((x / 16777216 % 256 : Nat) : Int) by omega, show (x : Int) / 65536 % 256 = ((x / 65536 % 256 : Nat) : Int) by omega, show (x : Int) / 256 % 256 = ((x / 256 % 256 : Nat) : Int) by omega, show (x : Int) % 256 = ((x % 256 : Nat) : Int) by omega]
        refine ⟨k + 1, by omega, by go_num, ?_, ?_, (((hb.setCell (by simp; omega) _).setCell (by simp; omega) _).setCell (by simp; omega) _).setCell (by simp; omega) _⟩
        · rw [heap_setCell_other _ _ _ _ (by simp), heap_setCell_other _ _ _ _ (by simp), heap_setCell_other _ _ _ _ (by simp), heap_setCell_other _ _ _ _ (by simp)]
          exact hr
        · refine (row8_store _ (row8_store _ (row8_store _ (row8_store _ hv)))).trans ?_
          rw [← HX.out]
          rfl
      case measure => simp [intOf]; omega
    · have hk8 : k = 8 := by omega
      subst hk8
      go_wp2_with (first | (refine wpList_load_row rfl 72 _ rfl (w.heap.size + 1 + 1) rfl 72 _ _ _ hv Tryz.underlying72 rfl (by rw [cells8_size, Sha.dBytes_len]; exact size40_32) ?_) | (refine wpList_store_row rfl 72 _ _ rfl (w.heap.size + 1) _ rfl rfl 72 _ hr (by rw [cells8_size, Sha.dBytes_len]; exact size40_32) (by rw [cells8_size, cells8_size, Sha.dBytes_len, Sha.zeros_len]) (cells8_one _) ?_))
      exact bodyPost_ret (results_cell_row Tryz.results112 _ _ (w.heap.size + 1) 72 _ (0, 0) _ rfl (setRow_heap _ _ _ _ _ _ hr) Tryz.underlying72 rfl (by rw [cells8_size, Sha.dBytes_len]; exact size40_32)) rfl ⟨rfl, hb.setRow (by omega) _⟩
end Go.Proofs.YteicpbcddjjceaaGreatDoor

/-
  PROVED HERE: a law on append for a slice of bytes that the call itself made, whatever marks its array bears: no text of the program.
-/
namespace Go.Proofs.YteicpbcddjjceaaGreatDoor
open Go.RowKit

/-- The slice v of bytes lies in a block from B on; it holds l; what it has behind l may be written. -/
def OwnB (w : World) (B : Nat) (v : Value) (l : List UInt8) : Prop :=
  ∃ g cap, v = .slice (some ⟨g, 0, none⟩) l.length cap ∧ B ≤ g ∧ g < w.heap.size ∧ (∀ j (hj : j < l.length), w.cell? ⟨g, j, none⟩ = some (.int .u8 ((l[j].toNat : Nat) : Int))) ∧
    (∀ j, l.length ≤ j → j < cap → (w.cell? ⟨g, j, none⟩).isSome = true ∧ w.frozen? ⟨g, j, none⟩ = false)

theorem OwnB.kept {w w' : World} {B : Nat} {v : Value} {l : List UInt8} (h : OwnB w B v l) (hb : ∀ k, k < w.heap.size → w'.heap[k]? = w.heap[k]?) (hs : w.heap.size ≤ w'.heap.size) : OwnB w' B v l := by
  obtain ⟨g, cap, hv, hB, hg, h1, h2⟩ := h
  have hc : ∀ j, w'.cell? ⟨g, j, none⟩ = w.cell? ⟨g, j, none⟩ := fun j => World.cell?_of_block (w := w) (hb g hg)
  have hf : ∀ j, w'.frozen? ⟨g, j, none⟩ = w.frozen? ⟨g, j, none⟩ := fun j => World.frozen?_of_block (w := w) (hb g hg)
  exact ⟨g, cap, hv, hB, by omega, fun j hj => (hc j).trans (h1 j hj), fun j hj hk => by rw [hc, hf]; exact h2 j hj hk⟩
theorem OwnB.alloc {w : World} {B : Nat} {v : Value} {l : List UInt8} (h : OwnB w B v l) (o : Obj) : OwnB (w.alloc o) B v l :=
  h.kept (fun k hk => Below.heap_alloc w o k hk) (by rw [size_alloc]; omega)
theorem OwnB.drew {w : World} {B : Nat} {v : Value} {l : List UInt8} (h : OwnB w B v l) : OwnB w.drew B v l := h

/-- What '[]byte(s)' lays is so. -/
theorem OwnB.of_string (w : World) (s : ByteArray) (cap B : Nat) (hB : B ≤ w.heap.size) :
    OwnB (w.alloc (.cells (bytesRow s cap) 5 ((bytesRow s cap).size, (bytesRow s cap).size + 1))) B (.slice (some ⟨w.heap.size, 0, none⟩) s.size cap) s.data.toList := by
  have hh : (w.alloc (.cells (bytesRow s cap) 5 ((bytesRow s cap).size, (bytesRow s cap).size + 1))).heap[w.heap.size]? = some (.cells (bytesRow s cap) 5 ((bytesRow s cap).size, (bytesRow s cap).size + 1)) := heap_alloc_new w _
  have hl : s.data.toList.length = s.size := by simp
  have hrs : (bytesRow s cap).size = s.size + (cap - s.size) := by simp [bytesRow]
  refine ⟨w.heap.size, cap, by rw [hl], hB, by rw [size_alloc]; omega, fun j hj => ?_, fun j hj hk => ?_⟩
  · rw [cell_of_row _ _ j _ _ _ hh]
    rw [hl] at hj
    have hj2 : j < s.data.size := hj
    have hj3 : j < (s.data.map (fun b => Value.int .u8 ((b.toNat : Nat) : Int))).size := by simpa using hj2
    unfold bytesRow
    rw [Array.getElem?_append_left hj3, Array.getElem?_map, Array.getElem?_eq_getElem hj2]
    simp
  · rw [hl] at hj
    constructor
    · rw [cell_of_row _ _ j _ _ _ hh]
      have : j < (bytesRow s cap).size := by omega
      simp [this]
    · have : ¬ ((bytesRow s cap).size ≤ j) := by omega
      simp only [World.frozen?, hh]
      simp [this]

/-- append of one byte. -/
theorem wpList_append_ownB {P : Program} (w : World) {ops : Array Oper} {rest : List Oper} {o : Oper} {a : Act} {Q : Exit → Act → World → Prop}
    (hg : o.guard = none) (s x : Operand) (t : TypeId) (hop : o.op = Op.call { callee := Callee.builtin Builtin.append, args := #[s, x], argTypes := #[t, t] })
    (i : TypeInfo) (h1 : P.underlying t = some (.slice 5)) (h2 : P.info? 5 = some i) (h3 : i.zero = some (.int .u8 0)) (h4 : i.size = 1) (h5 : i.bytes = 1)
    (B : Nat) (v : Value) (l : List UInt8) (hs : a.eval s = v) (hown : OwnB w B v l) (hB : B ≤ w.heap.size)
    (ad : Addr) (c : Nat) (n : Int) (b : UInt8) (hx : a.eval x = .slice (some ad) 1 c) (hc : w.cell? ad = some (.int .u8 n)) (hn : n = ((b.toNat : Nat) : Int)) (hl : l.length + 1 ≤ 140737488355328)
    (h : ∀ v' w', OwnB w' B v' (l ++ [b]) → Below B w w' → wpList P ops Q rest (a.put o.dst v') w') : wpList P ops Q (o :: rest) a w := by
  obtain ⟨g, cap, rfl, hBg, hgs, hcl, hsp⟩ := hown
  subst hn
  have holds : ∀ j u, (l.map fun b => Value.int .u8 ((b.toNat : Nat) : Int))[j]? = some u → w.cell? ⟨g, 0 + j, none⟩ = some u := by
    intro j u hj
    have hj' : j < l.length := by have := (List.getElem?_eq_some_iff.1 hj).1; simpa using this
    rw [Nat.zero_add, hcl j hj']
    simpa [hj'] using hj
  have hnew : ∀ j u, [Value.int .u8 ((b.toNat : Nat) : Int)][j]? = some u → w.cell? (ad.add j) = some u := by
    intro j u hj
    match j, hj with
    | 0, hj =>
      have : ad.add 0 = ad := by unfold Addr.add; split <;> simp_all
      rw [this, hc]
      simpa using hj
  refine wpList_append_arg w hg s x t hop 5 i (.int .u8 0) 1 1 h1 h2 h3 h4 h5 rfl (by omega) g 0 l.length cap (l.map fun b => Value.int .u8 ((b.toNat : Nat) : Int)) hs (by simp) holds ad 1 c [Value.int .u8 ((b.toNat : Nat) : Int)] hx (by simp) hnew (by simp [Value.oneCell'])
    (fun hr j hj => by
      have hj0 : j = 0 := by simpa using hj
      subst hj0
      have := hsp l.length (Nat.le_refl _) (by omega)
      simpa using this) (by unfold maxLen; omega) (by omega) (fun hr => ?_) (fun hr v' w' hown' hgrow => ?_)
  · have e : 0 + l.length * 1 = l.length := by omega
    rw [e]
    have hsome := hsp l.length (Nat.le_refl _) (by omega)
    obtain ⟨u, hu⟩ := Option.isSome_iff_exists.1 hsome.1
    refine h _ _ ⟨g, cap, by simp, hBg, ?_, ?_, ?_⟩ ?_
    · show g < (w.setCell ⟨g, l.length, none⟩ _).heap.size
      simp [World.setCell]
      exact hgs
    · intro j hj
      show (w.setCell ⟨g, l.length, none⟩ _).cell? ⟨g, j, none⟩ = _
      by_cases hjl : j = l.length
      · subst hjl
        rw [World.cell?_setCell_same _ _ _ hu]
        simp
      · have hj2 : j < l.length := by simp at hj; omega
        rw [cell_off w g l.length j _ (fun e => hjl e.symm), hcl j hj2]
        simp [List.getElem_append_left hj2]
    · intro j hj hk
      have hjl : ¬ l.length = j := by simp at hj; omega
      show ((w.setCell ⟨g, l.length, none⟩ _).cell? ⟨g, j, none⟩).isSome = true ∧ (w.setCell ⟨g, l.length, none⟩ _).frozen? ⟨g, j, none⟩ = false
      rw [cell_off w g l.length j _ hjl]
      have := hsp j (by simp at hj; omega) hk
      refine ⟨this.1, ?_⟩
      simpa using this.2
    · exact (Below.refl B w).setCell (p := ⟨g, l.length, none⟩) hBg _
  · obtain ⟨hlen, hv⟩ := hown'
    rcases hv with ⟨_, h0⟩ | ⟨g', cap', cur, hv', hb', hh', hn', _, hcs, htake⟩
    · omega
    · refine h v' w' ⟨g', cap', by rw [hv']; simp, by omega, ((Array.getElem?_eq_some_iff.1 hh').1), ?_, ?_⟩ ((Below.refl B w).grown hgrow hB (fun k hk => by cases hk))
      · intro j hj
        rw [cell_of_row _ _ j _ _ _ hh']
        have hj2 : j < l.length + 1 := by simpa using hj
        have e : cur[j]? = (List.map (fun b => Value.int .u8 ((b.toNat : Nat) : Int)) (l ++ [b]))[j]? := by
          have : (cur.toList.take ((l.length + 1) * 1))[j]? = cur[j]? := by
            rw [List.getElem?_take, if_pos (by omega)]
            simp
          rw [← this, htake]
          simp
        rw [e, List.getElem?_map, List.getElem?_eq_getElem hj]
        rfl
      · intro j hj hk
        have hjc : j < cur.size := by omega
        refine ⟨by rw [cell_of_row _ _ j _ _ _ hh']; simp [hjc], frozen_of_row _ _ _ _ _ hh'⟩
end Go.Proofs.YteicpbcddjjceaaGreatDoor

/-
  PROVED HERE: what the program's function fillUp answers for every rest of fewer than 64 bytes: the rest filled up to whole blocks; nothing that was there has turned.
-/
namespace Go.Proofs.YteicpbcddjjceaaGreatDoor
open Go.RowKit
theorem one_new (w : World) (n : Int) (t : TypeId) : (w.alloc (.cells #[.int .u8 n] t)).cell? ⟨w.heap.size, 0, none⟩ = some (.int .u8 n) := by
  rw [cell_of_row _ _ 0 _ t _ (heap_alloc_new w _)]
  rfl
theorem one_new2 (w : World) (A : Obj) (n : Int) (t : TypeId) : ((w.alloc A).alloc (.cells #[.int .u8 n] t)).drew.cell? ⟨w.heap.size + 1, 0, none⟩ = some (.int .u8 n) := by
  exact cell_of_row _ _ 0 #[.int .u8 n] t (0, 0) (heap_alloc2_new w A _)
theorem size2d (w : World) (A B : Obj) : w.heap.size ≤ ((w.alloc A).alloc B).drew.heap.size := by
  show _ ≤ ((w.alloc A).alloc B).heap.size
  rw [size_alloc2]
  omega
def lenOfV : Value → Nat | .slice _ n _ => n | _ => 0
theorem lenByte (n j : Nat) : ((n : Int) * 8) / 2 ^ (8 * (7 - j)) % 256 = (((UInt8.ofNat (n * 8 / 2 ^ (8 * (7 - j)) % 256)).toNat : Nat) : Int) := by
  have : (UInt8.ofNat (n * 8 / 2 ^ (8 * (7 - j)) % 256)).toNat = n * 8 / 2 ^ (8 * (7 - j)) % 256 := by
    rw [UInt8.toNat_ofNat']
    omega
  rw [this, Int.natCast_emod, Int.natCast_ediv, Int.natCast_mul, Int.natCast_pow]
  rfl
theorem OwnB.shape {w : World} {B : Nat} {v : Value} {l : List UInt8} (h : OwnB w B v l) (m : Nat) (hm : l.length = m) : ∃ g cap, v = .slice (some ⟨g, 0, none⟩) m cap := by
  obtain ⟨g, cap, hv, _⟩ := h
  exact ⟨g, cap, by rw [hv, hm]⟩
theorem OwnB.text {w : World} {B : Nat} {v : Value} {l : List UInt8} (h : OwnB w B v l) : (convert 124 9 v).run Tryz.prog w = .ok (.string ⟨l.toArray⟩) w := by
  obtain ⟨g, cap, rfl, _, _, h1, _⟩ := h
  refine run_convert_bytes_back (P := Tryz.prog) w 124 9 5 ⟨g, 0, none⟩ cap l Tryz.underlying124 Tryz.underlying5 Tryz.underlying9 (fun j hj => ?_)
  have hadd : (⟨g, 0, none⟩ : Addr).add j = ⟨g, j, none⟩ := by unfold Addr.add; split <;> simp_all
  rw [hadd]
  exact h1 j hj
set_option maxHeartbeats 1000000 in
set_option maxRecDepth 100000 in
theorem fill_any (s : ByteArray) (n : Nat) (w : World) (hs : s.size < 64) (hn : n ≤ 140737488355328) :
    Calls Tryz.prog 113 #[.string s, .int .i64 ((n : Nat) : Int)] w fun e w' => e = .returned (.string ⟨(Sha.fill s.data.toList n).toArray⟩) ∧ Below w.heap.size w w' := by
  have hcv := fun w s => run_bytes_of_string (P := Tryz.prog) w 9 124 5 s Tryz.underlying9 Tryz.underlying124 Tryz.underlying5
  obtain ⟨i0, hi, hz0, hz1, hz2⟩ := info_parts Tryz.info5
  go_enter Tryz.func113, Tryz.ntmps113
  go_wp2_with (at_builtin; refine wpList_append_ownB _ rfl (.tmp 9) (.tmp 10) 124 rfl i0 Tryz.underlying124 hi hz0 hz1 hz2 w.heap.size _ s.data.toList rfl (((OwnB.of_string w s _ w.heap.size (Nat.le_refl _)).alloc _).drew) (size2d _ _ _) ⟨w.heap.size + 1, 0, none⟩ 1 128 128 rfl (one_new2 _ _ _ _) rfl (by simp; omega) ?_; intro v1 w1 hown1 hb1)
  have hbw : Below w.heap.size w w1 := (((Below.refl _ _).alloc (Nat.le_refl _) _).alloc (by simp) _).drew.trans hb1
  clear hb1
  go_loopw [5] (fun v wr => ∃ k : Nat, k ≤ Sha.gap s.size ∧ OwnB wr w.heap.size v (Sha.fillZ s.data.toList k) ∧ Below w.heap.size w wr)
    (fun v _ => 200 - lenOfV v)
  case atStart => exact ⟨0, Nat.zero_le _, hown1, hbw⟩
  case round =>
    clear hown1 hbw
    obtain ⟨k, hk, hown, hb⟩ := hrel
    have hlen := Sha.fillZ_len s.data.toList k
    have hsl : s.data.toList.length = s.size := by simp
    have hg63 : Sha.gap s.size < 64 := Nat.mod_lt _ (by omega)
    obtain ⟨m, hm⟩ : ∃ m, m = (Sha.fillZ s.data.toList k).length := ⟨_, rfl⟩
    obtain ⟨g, cap, hv⟩ := hown.shape m hm.symm
    have hm2 : m = s.size + 1 + k := by omega
    have hsz := hb.size
    rename_i v _
    subst hv
    by_cases hlt : k < Sha.gap s.size
    · have ht : ((m : Int) % 64 != 56) = true := by
        have : (s.size + 1 + k) % 64 ≠ 56 := by unfold Sha.gap at hlt hk; omega
        simp; omega
      have HM := hide hm2
      clear hm hlen hsl hm2
      have hm3 : m < 200 := by have := HM.out; omega
      clear hcv
      go_wp2_with (at_builtin; refine wpList_append_ownB _ rfl (.tmp 16) (.tmp 17) 124 rfl i0 Tryz.underlying124 hi hz0 hz1 hz2 w.heap.size _ (Sha.fillZ s.data.toList k) rfl (hown.alloc _) (by simp; omega) ⟨wr.heap.size, 0, none⟩ 1 0 0 rfl (one_new _ _ _) rfl (by rw [Sha.fillZ_len]; simp; omega) ?_; intro v2 w2 hown2 hb2)
      go_roundw
      case rel => exact ⟨k + 1, by omega, hown2, (hb.alloc hsz _).trans hb2⟩
      case measure =>
        obtain ⟨g2, cap2, hv2⟩ := hown2.shape (m + 1) (by simp [Sha.fillZ_len]; have := HM.out; omega)
        rw [hv2]
        simp [lenOfV]
        omega
    · have ht : ((m : Int) % 64 != 56) = false := by
        have : (s.size + 1 + k) % 64 = 56 := by unfold Sha.gap at hlt hk; omega
        simp; omega
      have HK : Hid (k = Sha.gap s.size) := by show k = _; omega
      obtain ⟨F, hF⟩ : ∃ F, F = Sha.fillZ s.data.toList k := ⟨_, rfl⟩
      rw [← hF] at hown
      have hFl : F.length < 128 := by rw [hF]; omega
      have HF := hide hF
      clear hF hm hlen hsl hm2 hcv hlt hk
      go_wp2
      go_loopw [5, 22] (fun v i wr => ∃ j : Nat, j ≤ 8 ∧ i = .int .i64 ((j : Nat) : Int) ∧ OwnB wr w.heap.size v (Sha.fillL F (n * 8) j) ∧ Below w.heap.size w wr)
        (fun _ i _ => 8 - (intOf i).toNat)
      case atStart => exact ⟨0, Nat.zero_le _, rfl, hown, hb⟩
      case round =>
        clear hown hb hsz
        obtain ⟨j, hj, rfl, hown, hb⟩ := hrel
        have hlen := Sha.fillL_len F (n * 8) j
        have hsz := hb.size
        by_cases hjl : j < 8
        · have hval := lenByte n j
          have HVAL := hide hval
          clear hval
          go_wp2_with (at_builtin; refine wpList_append_ownB _ rfl (.tmp 25) (.tmp 32) 124 rfl i0 Tryz.underlying124 hi hz0 hz1 hz2 w.heap.size _ (Sha.fillL F (n * 8) j) rfl (hown.alloc _) (by simp; omega) ⟨wr.heap.size, 0, none⟩ 1 _ _ rfl (one_new _ _ _) HVAL.out (by omega) ?_; intro v2 w2 hown2 hb2)
          go_roundw
          case rel => exact ⟨j + 1, by omega, by go_num, hown2, (hb.alloc hsz _).trans hb2⟩
          case measure => simp [intOf]; omega
        · have HJ : Hid (j = 8) := by show j = 8; omega
          have hcb := hown.text
          rename_i v _
          obtain ⟨g3, cap3, hv3⟩ := hown.shape _ rfl
          have HL : Hid (Sha.fillL F (n * 8) j = Sha.fill s.data.toList n) := by
            show _ = _
            rw [HJ.out, HF.out, HK.out]
            unfold Sha.fill
            rw [show s.data.toList.length = s.size by simp, Nat.mod_eq_of_lt (show n * 8 < 18446744073709551616 by omega)]
          generalize Sha.fillL F (n * 8) j = L at *
          subst hv3
          clear hlen hown
          go_wp2
          go_ret
          exact ⟨by rw [← HL.out]; rfl, hb⟩
end Go.Proofs.YteicpbcddjjceaaGreatDoor
