/-
  PROVED HERE: a law on append for a slice of numbers that the call itself made: no text of the program.
-/
import Derived.Test.YtpgamoielkpakaaDoorRefBits
namespace Go.Proofs.YtpgamoielkpakaaDoor
open Go.RowKit
/-- The slice v of numbers lies in a block from B on (or is nil) and holds l. -/
def OwnI (w : World) (B : Nat) (v : Value) (l : List Nat) : Prop := w.ownsRow B 3 1 v l.length (l.map fun n => Value.int .i64 ((n : Nat) : Int))
theorem OwnI.nil (w : World) (B : Nat) : OwnI w B (.slice none 0 0) [] := World.ownsRow_nil _ _ _ _
theorem OwnI.shape {w : World} {B : Nat} {v : Value} {l : List Nat} (h : OwnI w B v l) (h0 : 0 < l.length) :
    ∃ g cap, v = .slice (some ⟨g, 0, none⟩) l.length cap ∧ B ≤ g ∧ g < w.heap.size ∧ ∀ j, j < l.length → w.cell? ⟨g, j, none⟩ = some (.int .i64 ((l.getD j 0 : Nat) : Int)) := by
  rcases h.2 with ⟨_, hn⟩ | ⟨g, cap, cur, hv, hb, hh, hn, _, hcs, htake⟩
  · omega
  · refine ⟨g, cap, hv, hb, (Array.getElem?_eq_some_iff.1 hh).1, fun j hj => ?_⟩
    rw [cell_of_row _ _ j _ _ _ hh]
    have e : (cur.toList.take (l.length * 1))[j]? = cur[j]? := by
      rw [List.getElem?_take, if_pos (by omega)]
      simp
    rw [← e, htake]
    simp [hj, List.getD_eq_getElem?_getD]
theorem OwnI.kept {w w' : World} {B : Nat} {v : Value} {l : List Nat} (h : OwnI w B v l) (hb : Below w.heap.size w w') : OwnI w' B v l := by
  refine ⟨h.1, ?_⟩
  rcases h.2 with hn | ⟨g, cap, cur, hv, hB, hh, r⟩
  · exact Or.inl hn
  · exact Or.inr ⟨g, cap, cur, hv, hB, (hb.block g (Array.getElem?_eq_some_iff.1 hh).1).trans hh, r⟩
theorem OwnI.alloc {w : World} {B : Nat} {v : Value} {l : List Nat} (h : OwnI w B v l) (o : Obj) : OwnI (w.alloc o) B v l := h.kept ((Below.refl _ _).alloc (Nat.le_refl _) o)
theorem OwnI.drew {w : World} {B : Nat} {v : Value} {l : List Nat} (h : OwnI w B v l) : OwnI w.drew B v l := h
theorem OwnI.base {w : World} {B B' : Nat} {v : Value} {l : List Nat} (h : OwnI w B v l) (hB : B' ≤ B) : OwnI w B' v l := by
  refine ⟨h.1, ?_⟩
  rcases h.2 with hn | ⟨g, cap, cur, hv, hb, r⟩
  · exact Or.inl hn
  · exact Or.inr ⟨g, cap, cur, hv, by omega, r⟩
theorem OwnI.own {w : World} {B : Nat} {v : Value} {l : List Nat} (h : OwnI w B v l) : ∀ k, v.ownBlock = some k → B ≤ k := by
  intro k hk
  rcases h.2 with ⟨rfl, _⟩ | ⟨g, cap, cur, rfl, hb, _⟩
  · simp [Value.ownBlock] at hk
  · simp [Value.ownBlock] at hk
    omega
theorem oneI (w : World) (n : Int) (t : TypeId) : (w.alloc (.cells #[.int .i64 n] t)).cell? ⟨w.heap.size, 0, none⟩ = some (.int .i64 n) := by
  rw [cell_of_row _ _ 0 _ t _ (heap_alloc_new w _)]
  rfl
theorem Tryd.info3 : (Tryd.prog.info? 3).map (fun i => (i.zero, i.size, i.bytes)) = some (some (.int .i64 0), 1, 8) := by kernel_rfl

theorem run_append_ownI {P : Program} (w : World) (t ty : TypeId) (i : TypeInfo) (h1 : P.underlying t = some (.slice 3)) (h2 : P.info? 3 = some i) (h3 : i.zero = some (.int .i64 0)) (h4 : i.size = 1) (h5 : i.bytes = 8)
    (B : Nat) (v : Value) (l : List Nat) (hown : OwnI w B v l) (hB : B ≤ w.heap.size) (ad : Addr) (c : Nat) (n : Int) (b : Nat) (hc : w.cell? ad = some (.int .i64 n)) (hn : n = ((b : Nat) : Int)) (hl : l.length < 100000) :
    ∃ v' w', (Builtin.append_ #[t, t] ty #[v, .slice (some ad) 1 c]).run P w = .ok v' w' ∧ OwnI w' B v' (l ++ [b]) ∧ Below B w w' := by
  subst hn
  have hnew : ∀ j u, [Value.int .i64 ((b : Nat) : Int)][j]? = some u → w.cell? (ad.add j) = some u := by
    intro j u hj
    match j, hj with
    | 0, hj =>
      have : ad.add 0 = ad := by unfold Addr.add; split <;> simp_all
      rw [this, hc]
      simpa using hj
  obtain ⟨v', w', hr, ho, hg, _⟩ := run_append_own (P := P) w B t ty 3 i (.int .i64 0) 1 8 h1 h2 h3 h4 h5 rfl (by omega) v l.length _ hown ad 1 c [Value.int .i64 ((b : Nat) : Int)] (by simp) hnew (by simp [Value.oneCell']) (by unfold maxLen; omega) (by omega) hB
  refine ⟨v', w', hr, ?_, (Below.refl B w).grown hg hB hown.own⟩
  unfold OwnI
  simpa using ho
theorem wpList_append_ownI {P : Program} (w : World) {ops : Array Oper} {rest : List Oper} {o : Oper} {a : Act} {Q : Exit → Act → World → Prop}
    (hg : o.guard = none) (s x : Operand) (t : TypeId) (hop : o.op = Op.call { callee := Callee.builtin Builtin.append, args := #[s, x], argTypes := #[t, t] })
    (i : TypeInfo) (h1 : P.underlying t = some (.slice 3)) (h2 : P.info? 3 = some i) (h3 : i.zero = some (.int .i64 0)) (h4 : i.size = 1) (h5 : i.bytes = 8)
    (B : Nat) (v : Value) (l : List Nat) (hs : a.eval s = v) (hown : OwnI w B v l) (hB : B ≤ w.heap.size)
    (ad : Addr) (c : Nat) (n : Int) (b : Nat) (hx : a.eval x = .slice (some ad) 1 c) (hc : w.cell? ad = some (.int .i64 n)) (hn : n = ((b : Nat) : Int)) (hl : l.length < 100000)
    (h : ∀ v' w', OwnI w' B v' (l ++ [b]) → Below B w w' → wpList P ops Q rest (a.put o.dst v') w') : wpList P ops Q (o :: rest) a w := by
  obtain ⟨v', w', hr, ho, hb⟩ := run_append_ownI (P := P) w t o.type i h1 h2 h3 h4 h5 B v l hown hB ad c n b hc hn hl
  refine wpList_plain hg fun K hK' => ?_
  unfold Oper.wp
  simp [execOp, hop, resolve, invoke, builtin, hs, hx, hr, Result.andThen]
  exact hK' _ _ (h v' w' ho hb)
/-- The same at a step of a region that draws its order. -/
theorem step_append_ownI {P : Program} (w : World) {ops : Array Oper} {o : Oper} {a : Act} {K : Act → World → Prop} {Q : Exit → Act → World → Prop} {E : Prop}
    (hg : o.guard = none) (s x : Operand) (t : TypeId) (hop : o.op = Op.call { callee := Callee.builtin Builtin.append, args := #[s, x], argTypes := #[t, t] })
    (i : TypeInfo) (h1 : P.underlying t = some (.slice 3)) (h2 : P.info? 3 = some i) (h3 : i.zero = some (.int .i64 0)) (h4 : i.size = 1) (h5 : i.bytes = 8)
    (B : Nat) (v : Value) (l : List Nat) (hs : a.eval s = v) (hown : OwnI w B v l) (hB : B ≤ w.heap.size)
    (ad : Addr) (c : Nat) (n : Int) (b : Nat) (hx : a.eval x = .slice (some ad) 1 c) (hc : w.cell? ad = some (.int .i64 n)) (hn : n = ((b : Nat) : Int)) (hl : l.length < 100000)
    (h : ∀ v' w', OwnI w' B v' (l ++ [b]) → Below B w w' → K (a.put o.dst v') w') : if Region.wanted o (yielded ops a.tmps) = true then Oper.wp P o a w K Q else E := by
  have hw : Region.wanted o (yielded ops a.tmps) = true := by simp [Region.wanted, hg]
  rw [if_pos hw]
  obtain ⟨v', w', hr, ho, hb⟩ := run_append_ownI (P := P) w t o.type i h1 h2 h3 h4 h5 B v l hown hB ad c n b hc hn hl
  unfold Oper.wp
  simp [execOp, hop, resolve, invoke, builtin, hs, hx, hr, Result.andThen]
  exact h v' w' ho hb
end Go.Proofs.YtpgamoielkpakaaDoor
