/-
  PROVED HERE: slices.AppendSeq and Collect of an iterator of tags: a row with what it gives.
-/
import Derived.RangeFuncNested
import Derived.RangeFuncLeaves
import Derived.Test.YteicpbcddjjceaaGreatDoorStVals
import Derived.Test.YteicpbcddjjceaaGreatDoorStRemove
import Derived.Test.YteicpbcddjjceaaGreatDoorRowLib
namespace Go.Proofs.YteicpbcddjjceaaGreatDoor
open Go.RowKit Go.Shelf Go.Maps Go.Sort
attribute [local go_sem] Oper.semAt_some
def EV.cs (x : EV) : List Value := x.1.cells.toList
/-- Between two rounds of AppendSeq. -/
def AI (w : World) (pre : List EV) (W : World) : Prop := ∃ sv, W.heap[w.heap.size]? = some (.cells #[sv] 78 (0, 0)) ∧ W.ownsRow w.heap.size 130 34 sv pre.length (pre.flatMap EV.cs) ∧ Below w.heap.size w W
theorem wpListIn_slice47 {F : Fence} {m : Nat} {ops : Array Oper} {rest : List Oper} {op : Oper} {a : Act} {w : World} {Q : Exit → Act → World → Prop} (hgd : op.guard = none) (x : Operand) (ho : op.op = .buildSlice 78 1 #[(0, x)])
    (n : ByteArray) (ds : List Nat) (k : Int) (hl : ds.length = 32) (hx : a.eval x = .agg (ecellsOf n ds k))
    (h : wpListIn F m Tryz.prog ops Q rest (a.put op.dst (.slice (some ⟨w.heap.size, 0, none⟩) 1 1)) (w.alloc (.cells (ecellsOf n ds k) 130))) : wpListIn F m Tryz.prog ops Q (op :: rest) a w := by
  refine wpListIn_plain hgd fun K hK' => ?_
  have hr := slice47 n ds k hl w
  unfold Oper.wpIn
  refine ⟨?_, ?_⟩
  · simp [Oper.about, ho]
  · rw [Oper.semAt_plain F _ _ (by rw [ho]; intro c hc'; cases hc')]
    unfold execOp
    simp only [ho, hx, List.map_toArray, List.map_cons, List.map_nil, Sem.run_bind, Sem.run_pure, hr, Result.andThen_ok]
    exact hK' _ _ h
theorem new_cells (W : World) (cs : Array Value) (T : TypeId) : ∀ j u, cs.toList[j]? = some u → (W.alloc (.cells cs T)).cell? ((⟨W.heap.size, 0, none⟩ : Addr).add j) = some u := by
  intro j u hu
  have hadd : (⟨W.heap.size, 0, none⟩ : Addr).add j = ⟨W.heap.size, j, none⟩ := by unfold Addr.add; split <;> simp_all
  rw [hadd, cell_of_row _ _ j _ _ _ (heap_alloc_new _ _)]
  simpa using hu
theorem own_ge {w : World} {B : Nat} {e : TypeId} {size n : Nat} {v : Value} {l : List Value} (h : w.ownsRow B e size v n l) : ∀ k, v.ownBlock = some k → B ≤ k := by
  intro k hk
  obtain ⟨_, h2⟩ := h
  rcases h2 with ⟨rfl, _⟩ | ⟨g', cap', cur, rfl, hB, _⟩
  · cases hk
  · have : some g' = some k := hk
    injection this with this
    omega
theorem ai_own (w : World) (B : Nat) (hB : w.heap.size ≤ B) : OwnFrom B (AI w) := by
  rintro pre X Y row ⟨sv, h1, h2, h3⟩ hgr hr
  have key : ∀ (k : Nat) (cur : Array Value) (T : TypeId), X.heap[k]? = some (.cells cur T (0, 0)) → Y.heap[k]? = X.heap[k]? := fun k cur T hc => hgr.block k (lt_heap hc) (fun e => by
    obtain ⟨o, x2, x3⟩ := (hr k e.symm).2
    rw [hc] at x2
    cases x2
    cases x3)
  refine ⟨sv, (key _ _ _ h1).trans h1, own_same h2 (fun k hk _ => ?_), h3.grown hgr h3.size (fun k e => by have := (hr k e).1; omega)⟩
  obtain ⟨c, hc⟩ := own_obj h2 k hk
  exact key _ _ _ hc
/-- A round's own variable. -/
def AX (w : World) (g : Nat) (lb : Array Value) (x : EV) (a : Act) (W : World) : Prop := ∃ vb, w.heap.size < vb ∧ a = { tmps := #[.slice none 0 0, .func (.func g) #[] lb, .pointer (some ⟨w.heap.size, 0, none⟩), undef, .slice none 0 0, .pointer (some ⟨vb, 0, none⟩), .func (.func g) #[] lb, x.1, undef, undef, undef, undef, undef], defers := [] } ∧ W.heap[vb]? = some (.cells x.1.cells 130 (0, 0))
theorem ax_own (w : World) (g : Nat) (lb : Array Value) (B : Nat) (x : EV) (a : Act) : OwnFrom B (fun (_ : Unit) W => AX w g lb x a W) := by
  rintro _ X Y row ⟨vb, h0, h1, h2⟩ hgr hr
  exact ⟨vb, h0, h1, (hgr.block vb (lt_heap h2) (fun e => by
    obtain ⟨o, x2, x3⟩ := (hr vb e.symm).2
    rw [h2] at x2
    cases x2
    cases x3)).trans h2⟩
set_option maxRecDepth 100000 in
set_option maxHeartbeats 4000000 in
theorem appendSeq_in (n : Nat) (hn : 5 ≤ n) (g : Nat) (lb : Array Value) (eg : ∀ args w, (callFunc g args).run Tryz.prog w = .ok (.enter g args) w) (S : List EV → Prop) (N : Nat) (hN : N ≤ 1000) (w : World)
    (hseq : SeqStopsK Fence.wide (n - 1) Tryz.prog g lb (fun x : EV => #[x.1]) KeepsWalks S (fun _ => True) N w) :
    CallsIn Fence.wide n Tryz.prog 195 #[.slice none 0 0, .func (.func g) #[] lb] w fun e w' => ∃ v xs, e = .returned v ∧ S xs ∧ w'.ownsRow w.heap.size 130 34 v xs.length (xs.flatMap EV.cs) ∧ Below w.heap.size w w' := by
  have hz71 := (zero_of_info Tryz.info71b).1
  obtain ⟨i0, hi, hz0, hz1, hz2⟩ := info_parts Tryz.info130
  refine callsIn_of_wp_marks Tryz.func195 rfl trivial ?_ rfl
  simp only [Tryz.ntmps195, List.size_toArray, List.length_cons, List.length_nil, Nat.reduceAdd, Nat.reduceSub, Array.replicate_succ, Array.replicate_zero, List.push_toArray, List.append_toArray, List.nil_append, List.cons_append]
  gi_wp2_with fail
  obtain ⟨w1, hw1⟩ : ∃ w1, w1 = w.alloc (.cells #[.slice none 0 0] 78) := ⟨_, rfl⟩
  have hb1 : Below w.heap.size w w1 := by rw [hw1]; exact (Below.refl _ _).alloc (Nat.le_refl _) _
  have hx1 : w1.heap[w.heap.size]? = some (.cells #[.slice none 0 0] 78 (0, 0)) := by rw [hw1]; exact heap_alloc_new _ _
  have hs1 : w1.heap.size = w.heap.size + 1 := by rw [hw1, size_alloc]
  rw [← hw1]
  refine wpIn_rangeFunc_ownH (F := Fence.wide) (n := n) rfl (by omega) (gf := g) (lb := lb) rfl trivial eg hseq KeepsWalks.trans (walksK_b (w := w1)) hb1 (fun _ => rfl)
    (AI w) (fun _ _ _ => False) (ai_own w _ (by omega)) (fun _ _ _ _ _ h _ _ => h.elim)
    ⟨_, hx1, World.ownsRow_nil _ _ _ _, hb1⟩ (AX w g lb) (ax_own w g lb _) ?assign ?body ?done ?stop
  case assign =>
    rintro l pre ⟨_, en, ds, z, hds, rfl⟩ W K hI hK
    have hgr := World.grownBy_alloc W (.cells (ecellsOf en ds z) 130) none
    have hIX := ai_own w W.heap.size (by obtain ⟨sv, i1, i2, i3⟩ := hI; exact i3.size) pre W _ none hI hgr (fun r e => by cases e)
    have hvb : w.heap.size < W.heap.size := by
      obtain ⟨sv, i1, i2, i3⟩ := hI
      exact lt_heap i1
    have HK := hide (hK _ (W.alloc (.cells (ecellsOf en ds z) 130)) ⟨by simp, fun k o _ hk _ => (Below.heap_alloc _ _ _ (lt_heap hk)).trans hk⟩ ⟨by simp, fun k o hk _ => (Below.heap_alloc _ _ _ (lt_heap hk)).trans hk⟩ hIX ⟨W.heap.size, hvb, rfl, heap_alloc_new _ _⟩)
    clear hI hIX hK hgr
    gi_wp2_with (first
      | (refine wpListIn_store_row rfl 130 _ _ rfl W.heap.size _ rfl rfl 130 _ (heap_alloc_new _ _) (size71 _ _ _ hds) (by rw [ecellsOf_size _ _ _ hds, ecellsOf_size _ _ _ (Sha.zeros_len _)]) (Array.all_eq_true_iff_forall_mem.2 fun u hu => ecellsOf_one _ _ _ u (by simpa using hu)) ?_; rw [World.setRow_alloc_new])
      | gi_in)
    exact HK.out
  case body =>
    rintro l pre ⟨_, en, ds, z, hds, rfl⟩ a' W hl ⟨r, hr⟩ ⟨sv, i1, i2, i3⟩ ⟨vb, hvb, rfl, hv⟩ hlen
    obtain ⟨so, sc, rfl⟩ := own_sl i2
    have ce := cell_of_row _ _ 0 _ _ _ i1
    have HI2 := hide i2
    have HI1 := hide i1
    have HI3 := hide i3
    have HV := hide hv
    have hwW : w.heap.size < W.heap.size := lt_heap i1
    have HBOX : Hid (∀ w2 : World, (W.alloc (.cells (ecellsOf en ds z) 130)).grownBy w2 (Value.slice so pre.length sc).ownBlock → w2.heap[w.heap.size]? = some (.cells #[.slice so pre.length sc] 78 (0, 0))) := hide (fun w2 hg2 => by
      refine (hg2.block _ (by rw [size_alloc]; omega) (fun e => ?_)).trans ((Below.heap_alloc _ _ _ hwW).trans i1)
      obtain ⟨c, hc⟩ := own_obj i2 _ e.symm
      rw [i1] at hc
      injection hc with hc
      injection hc with _ hc
      exact absurd hc (by decide))
    have HEC := hide (new_cells W (ecellsOf en ds z) 130)
    clear i1 i2 i3 hv
    dsimp only
    gi_wp2_with (first
      | (refine wpListIn_load_row rfl 130 _ rfl vb rfl 130 _ _ _ HV.out Tryz.underlying130 rfl (size71 _ _ _ hds) ?_)
      | (refine wpListIn_slice47 rfl _ rfl en ds z hds rfl ?_)
      | (refine wpListIn_append_own _ rfl _ _ 78 rfl w.heap.size 130 i0 _ 34 56 Tryz.underlying78 hi hz0 hz1 hz2 (ecellsOf_size _ _ _ (Sha.zeros_len _)) (by decide) _ pre.length _ rfl (ownsRow_later HI2.out ((Below.refl _ _).alloc (Nat.le_refl _) _)) _ 1 1 (ecellsOf en ds z).toList rfl (by rw [Array.length_toList, ecellsOf_size _ _ _ hds]) HEC.out (ecellsOf_one _ _ _) (by unfold maxLen; omega) (by omega) (by simp; omega) ?_; rintro v2 w2 hv2 hg2 -; obtain ⟨so2, sc2, rfl⟩ := own_sl hv2; have hbx := HBOX.out w2 hg2; have cb := cell_of_row _ _ 0 _ _ _ hbx; have fb := frozen_of_row _ _ 0 _ _ hbx; have HV2 := hide hv2; have HG2 := hide hg2; have HBX := hide hbx; clear hv2 hg2 hbx)
      | gi_in)
    have hoth : ∀ (k : Nat) (o : Obj), W.heap[k]? = some o → o.isCells = false → (w2.setCell ⟨w.heap.size, 0, none⟩ (.slice so2 (pre.length + 1) sc2)).heap[k]? = some o := by
      intro k o hk ho
      rw [heap_setCell_other _ _ _ _ (fun e => ?_)]
      · refine (HG2.out.block k (by rw [size_alloc]; have := lt_heap hk; omega) (fun e => ?_)).trans ((Below.heap_alloc _ _ _ (lt_heap hk)).trans hk)
        obtain ⟨c, hc⟩ := own_obj HI2.out _ e.symm
        rw [hc] at hk
        cases hk
        cases ho
      · have e : k = w.heap.size := e
        subst e
        rw [HI1.out] at hk
        cases hk
        cases ho
    have hsz : W.heap.size ≤ (w2.setCell ⟨w.heap.size, 0, none⟩ (.slice so2 (pre.length + 1) sc2)).heap.size := by
      have := HG2.out.size
      simp only [size_alloc] at this
      simp
      omega
    refine ⟨⟨hsz, fun k o _ hk ho => hoth k o hk ho⟩, ⟨hsz, fun k o hk ho => hoth k o hk (Obj.not_cells_of_walk ho)⟩, .slice so2 (pre.length + 1) sc2, ?_, ?_, ?_⟩
    · rw [heap_setCell_same _ w.heap.size 0 _ _ _ HBX.out]
      rfl
    · have hrow := own_same (w' := w2.setCell ⟨w.heap.size, 0, none⟩ (.slice so2 (pre.length + 1) sc2)) HV2.out (fun k hk _ => heap_setCell_other _ _ _ _ (fun e => by
        have e : k = w.heap.size := e
        subst e
        obtain ⟨c, hc⟩ := own_obj HV2.out _ hk
        rw [HBX.out] at hc
        injection hc with hc
        injection hc with _ hc
        exact absurd hc (by decide)))
      rw [List.flatMap_append, List.length_append]
      simp only [List.flatMap_cons, List.flatMap_nil, List.append_nil]
      exact hrow
    · have h1 : Below w.heap.size w w2 := (HI3.out.alloc HI3.out.size _).grown HG2.out (by rw [size_alloc]; omega) (fun k e => own_ge HI2.out k e)
      exact ⟨h1.os, h1.tape, h1.output, by simpa using h1.size, fun k hk => (heap_setCell_other _ _ _ _ (fun e => by have e : k = w.heap.size := e; omega)).trans (h1.block k hk)⟩
  case done =>
    rintro D xs W hD hS ⟨sv, i1, i2, i3⟩ hK
    obtain ⟨so, sc, rfl⟩ := own_sl i2
    have ce := cell_of_row _ _ 0 _ _ _ i1
    have HI2 := hide i2
    have HI3 := hide i3
    have HI1 := hide i1
    clear i1 i2 i3
    gi_wp2
    refine ⟨by simp, .inl ⟨_, _, rfl, run_takeDeferred hK, ?_⟩⟩
    refine ⟨_, results_tmp rfl _ _ _, _, xs, rfl, hS, own_same HI2.out (fun k hk _ => World.putObj_heap_other (fun e => ?_)), HI3.out.grown (grown_put _ _ _) HI3.out.size (fun k e => by injection e with e; omega)⟩
    subst e
    obtain ⟨c, hc⟩ := own_obj HI2.out k hk
    rw [hc] at hK
    cases hK
  case stop =>
    rintro D c pre W hD _ h
    exact h.elim
set_option maxRecDepth 100000 in
set_option maxHeartbeats 1000000 in
theorem collect_in (n : Nat) (hn : 6 ≤ n) (g : Nat) (lb : Array Value) (eg : ∀ args w, (callFunc g args).run Tryz.prog w = .ok (.enter g args) w) (S : List EV → Prop) (N : Nat) (hN : N ≤ 1000) (w : World)
    (hseq : SeqStopsK Fence.wide (n - 1 - 1) Tryz.prog g lb (fun x : EV => #[x.1]) KeepsWalks S (fun _ => True) N w) :
    CallsIn Fence.wide n Tryz.prog 149 #[.func (.func g) #[] lb] w fun e w' => ∃ v xs, e = .returned v ∧ S xs ∧ w'.ownsRow w.heap.size 130 34 v xs.length (xs.flatMap EV.cs) ∧ Below w.heap.size w w' := by
  have f1 : Fence.wide.fn 195 := trivial
  have HA := hide (appendSeq_in (n - 1) (by omega) g lb eg S N hN w hseq)
  refine callsIn_of_wp Tryz.func149 rfl trivial ?_ rfl
  simp only [Tryz.ntmps149, List.size_toArray, List.length_cons, List.length_nil, Nat.reduceAdd, Nat.reduceSub, Array.replicate_succ, Array.replicate_zero, List.push_toArray, List.append_toArray, List.nil_append, List.cons_append]
  gi_wp2_with fail
  refine ⟨fun _ => by omega, ?_⟩
  refine (HA.out).mono ?_
  rintro _ w1 ⟨v, xs, rfl, h1, h2, h3⟩
  dsimp only
  have H2 := hide h2
  clear h2
  gi_wp2_with fail
  go_ret
  exact ⟨_, xs, rfl, h1, H2.out, h3⟩
end Go.Proofs.YteicpbcddjjceaaGreatDoor

/-
  PROVED HERE: slices.SortFunc of no more than one tag, or digest: it leaves the row.
-/
namespace Go.Proofs.YteicpbcddjjceaaGreatDoor
open Go.RowKit
set_option maxRecDepth 100000 in
set_option maxHeartbeats 1000000 in
theorem bitsLen64_one (n : Nat) (hn : n ≤ 1) (w : World) : Calls Tryz.prog 194 #[.int .u64 ((n : Nat) : Int)] w fun e w' => ∃ k, e = .returned (.int .i64 k) ∧ w' = w := by
  have h2 : n = 0 ∨ n = 1 := by omega
  rcases h2 with rfl | rfl
  · go_enter Tryz.func194, Tryz.ntmps194
    go_wp2_with fail
    go_ret
    exact ⟨_, rfl, rfl⟩
  · go_enter Tryz.func194, Tryz.ntmps194
    go_wp2_with fail
    go_ret
    exact ⟨_, rfl, rfl⟩
set_option maxRecDepth 100000 in
set_option maxHeartbeats 1000000 in
theorem bitsLen_one (n : Nat) (hn : n ≤ 1) (w : World) : Calls Tryz.prog 146 #[.int .u64 ((n : Nat) : Int)] w fun e w' => ∃ k, e = .returned (.int .i64 k) ∧ w' = w := by
  have HL := hide (bitsLen64_one n hn w)
  have hw : IntKind.wrap .u64 ((n : Nat) : Int) = ((n : Nat) : Int) := by
    have h2 : n = 0 ∨ n = 1 := by omega
    rcases h2 with rfl | rfl <;> decide
  go_enter Tryz.func146, Tryz.ntmps146
  go_wp2_with fail
  refine (HL.out).mono ?_
  rintro _ w1 ⟨k, rfl, rfl⟩
  dsimp only
  go_wp2_with fail
  go_ret
  exact ⟨_, rfl, rfl⟩
set_option maxRecDepth 100000 in
set_option maxHeartbeats 1000000 in
theorem insE_one (o : Option Addr) (n c : Nat) (hn : n ≤ 1) (f : Value) (w : World) : Calls Tryz.prog 223 #[.slice o n c, .int .i64 0, .int .i64 ((n : Nat) : Int), f] w fun e w' => e = .returned (.tuple #[]) ∧ w' = w := by
  have d1 : decide ((1 : Int) < ((n : Nat) : Int)) = false := decide_eq_false (by omega)
  go_enter Tryz.func223, Tryz.ntmps223
  go_wp2_with fail
  go_loopw [8] (fun iv wr => iv = .int .i64 1 ∧ wr = w) (fun _ _ => 0)
  case atStart => exact ⟨rfl, rfl⟩
  case round =>
    obtain ⟨rfl, rfl⟩ := hrel
    go_wp2_with fail
    go_end0
    exact ⟨rfl, rfl⟩
set_option maxRecDepth 100000 in
set_option maxHeartbeats 1000000 in
theorem pdqE_one (o : Option Addr) (n c : Nat) (hn : n ≤ 1) (k : Int) (f : Value) (w : World) : Calls Tryz.prog 196 #[.slice o n c, .int .i64 0, .int .i64 ((n : Nat) : Int), .int .i64 k, f] w fun e w' => e = .returned (.tuple #[]) ∧ w' = w := by
  have HI := hide (insE_one o n c hn f w)
  have d1 : decide (((n : Nat) : Int) ≤ 12) = true := decide_eq_true (by omega)
  go_enter Tryz.func196, Tryz.ntmps196
  go_wp2_with fail
  go_loopw [1, 2] (fun av bv wr => av = .int .i64 0 ∧ bv = .int .i64 ((n : Nat) : Int) ∧ wr = w) (fun _ _ _ => 0)
  case atStart => exact ⟨rfl, rfl, rfl⟩
  case round =>
    obtain ⟨rfl, rfl, rfl⟩ := hrel
    go_wp2_with fail
    refine (HI.out).mono ?_
    rintro _ w1 ⟨rfl, rfl⟩
    dsimp only
    go_wp2_with fail
    refine bodyPost_ret (results_none rfl _ _ _) rfl ?_
    exact ⟨rfl, rfl⟩
set_option maxRecDepth 100000 in
set_option maxHeartbeats 1000000 in
theorem sortE_one (o : Option Addr) (n c : Nat) (hn : n ≤ 1) (f : Value) (w : World) : Calls Tryz.prog 150 #[.slice o n c, f] w fun e w' => e = .returned (.tuple #[]) ∧ w' = w := by
  have HB := hide (bitsLen_one n hn w)
  have HP := hide (fun k => pdqE_one o n c hn k f w)
  have hw : IntKind.wrap .u64 ((n : Nat) : Int) = ((n : Nat) : Int) := by
    have h2 : n = 0 ∨ n = 1 := by omega
    rcases h2 with rfl | rfl <;> decide
  go_enter Tryz.func150, Tryz.ntmps150
  go_wp2_with fail
  refine (HB.out).mono ?_
  rintro _ w1 ⟨k, rfl, rfl⟩
  dsimp only
  go_wp2_with fail
  refine (HP.out _).mono ?_
  rintro _ w1 ⟨rfl, rfl⟩
  dsimp only
  go_wp2_with fail
  go_end0
  exact ⟨rfl, rfl⟩
set_option maxRecDepth 100000 in
set_option maxHeartbeats 1000000 in
theorem insD_one (o : Option Addr) (n c : Nat) (hn : n ≤ 1) (f : Value) (w : World) : Calls Tryz.prog 185 #[.slice o n c, .int .i64 0, .int .i64 ((n : Nat) : Int), f] w fun e w' => e = .returned (.tuple #[]) ∧ w' = w := by
  have d1 : decide ((1 : Int) < ((n : Nat) : Int)) = false := decide_eq_false (by omega)
  go_enter Tryz.func185, Tryz.ntmps185
  go_wp2_with fail
  go_loopw [8] (fun iv wr => iv = .int .i64 1 ∧ wr = w) (fun _ _ => 0)
  case atStart => exact ⟨rfl, rfl⟩
  case round =>
    obtain ⟨rfl, rfl⟩ := hrel
    go_wp2_with fail
    go_end0
    exact ⟨rfl, rfl⟩
set_option maxRecDepth 100000 in
set_option maxHeartbeats 1000000 in
theorem pdqD_one (o : Option Addr) (n c : Nat) (hn : n ≤ 1) (k : Int) (f : Value) (w : World) : Calls Tryz.prog 145 #[.slice o n c, .int .i64 0, .int .i64 ((n : Nat) : Int), .int .i64 k, f] w fun e w' => e = .returned (.tuple #[]) ∧ w' = w := by
  have HI := hide (insD_one o n c hn f w)
  have d1 : decide (((n : Nat) : Int) ≤ 12) = true := decide_eq_true (by omega)
  go_enter Tryz.func145, Tryz.ntmps145
  go_wp2_with fail
  go_loopw [1, 2] (fun av bv wr => av = .int .i64 0 ∧ bv = .int .i64 ((n : Nat) : Int) ∧ wr = w) (fun _ _ _ => 0)
  case atStart => exact ⟨rfl, rfl, rfl⟩
  case round =>
    obtain ⟨rfl, rfl, rfl⟩ := hrel
    go_wp2_with fail
    refine (HI.out).mono ?_
    rintro _ w1 ⟨rfl, rfl⟩
    dsimp only
    go_wp2_with fail
    refine bodyPost_ret (results_none rfl _ _ _) rfl ?_
    exact ⟨rfl, rfl⟩
set_option maxRecDepth 100000 in
set_option maxHeartbeats 1000000 in
theorem sortD_one (o : Option Addr) (n c : Nat) (hn : n ≤ 1) (f : Value) (w : World) : Calls Tryz.prog 92 #[.slice o n c, f] w fun e w' => e = .returned (.tuple #[]) ∧ w' = w := by
  have HB := hide (bitsLen_one n hn w)
  have HP := hide (fun k => pdqD_one o n c hn k f w)
  have hw : IntKind.wrap .u64 ((n : Nat) : Int) = ((n : Nat) : Int) := by
    have h2 : n = 0 ∨ n = 1 := by omega
    rcases h2 with rfl | rfl <;> decide
  go_enter Tryz.func92, Tryz.ntmps92
  go_wp2_with fail
  refine (HB.out).mono ?_
  rintro _ w1 ⟨k, rfl, rfl⟩
  dsimp only
  go_wp2_with fail
  refine (HP.out _).mono ?_
  rintro _ w1 ⟨rfl, rfl⟩
  dsimp only
  go_wp2_with fail
  go_end0
  exact ⟨rfl, rfl⟩
end Go.Proofs.YteicpbcddjjceaaGreatDoor

/-
  PROVED HERE: what sorted gives of no tag, and of one.
-/
namespace Go.Proofs.YteicpbcddjjceaaGreatDoor
open Go.RowKit Go.Shelf Go.Maps Go.Sort
theorem allV_len {D : DataW Value} {xs : List EV} (h : AllV D xs) : xs.length = (strKeys D).length := by
  obtain ⟨ps, h1, -, rfl⟩ := h
  rw [List.length_map, ← h1.length_eq, List.length_map]
theorem allV_none {xs : List EV} (h : AllV (.map []) xs) : xs = [] := by
  have := allV_len h
  exact List.length_eq_zero_iff.1 this
theorem allV_one {name : ByteArray} {ds : List Nat} {z : Int} {xs : List EV} (h : AllV (oneT name ds z) xs) : xs.flatMap EV.cs = (ecellsOf name ds z).toList ∧ xs.length = 1 := by
  obtain ⟨ps, h1, h2, rfl⟩ := h
  have hk : strKeys (oneT name ds z) = [name.data.toList] := rfl
  rw [hk] at h1
  have h3 := List.perm_singleton.1 h1
  obtain ⟨p, rfl⟩ : ∃ p, ps = [p] := by
    have hl := congrArg List.length h3
    simp only [List.length_map, List.length_cons, List.length_nil] at hl
    exact List.length_eq_one_iff.1 hl
  simp only [List.map_cons, List.map_nil] at h3
  injection h3 with h3
  have h4 := h2 p (by simp) .nil
  rw [h3, at_one] at h4
  injection h4 with h4
  refine ⟨?_, rfl⟩
  simp only [List.map_cons, List.map_nil, List.flatMap_cons, List.flatMap_nil, List.append_nil]
  unfold EV.cs
  rw [← h4]
  rfl
theorem allE_none : AllE (.map []) := fun kl v h => by
  simp [DataW.atKey] at h
theorem allE_one (name : ByteArray) (ds : List Nat) (z : Int) (h : ds.length = 32) : AllE (oneT name ds z) := fun kl v hv => by
  simp only [oneT, DataW.atKey, List.find?_cons, List.find?_nil] at hv
  cases hs : (Lit.string name.data.toList).sameKey kl with
  | true =>
    rw [hs] at hv
    injection hv with hv
    exact ⟨name, ds, z, h, hv.symm⟩
  | false =>
    rw [hs] at hv
    cases hv
set_option maxRecDepth 100000 in
set_option maxHeartbeats 1000000 in
theorem sortedFunc_any (tb nn Bm : Nat) (D : DataW Value) (f : Value) (w : World) (h : TM w tb nn D) (hm : w.cell? ⟨Bm, 0, none⟩ = some (.map (some tb))) (hE : AllE D) (hsz : (strKeys D).length ≤ 1) :
    Calls Tryz.prog 96 #[.func (.func 151) #[] #[.pointer (some ⟨Bm, 0, none⟩)], f] w fun e w' => ∃ v xs, e = .returned v ∧ AllV D xs ∧ w'.ownsRow w.heap.size 130 34 v xs.length (xs.flatMap EV.cs) ∧ Below w.heap.size w w' := by
  have hN : Maps.size D ≤ 1000 := by
    have : Maps.size D = (strKeys D).length := by cases D <;> simp [Maps.size, strKeys]
    omega
  have HC := hide (callsIn_wide.1 (collect_in 8 (by decide) 151 #[.pointer (some ⟨Bm, 0, none⟩)] (enters_of Tryz.func151 (by kernel_rfl) rfl) (AllV D) (Maps.size D) hN w (vals_stops Fence.wide 6 trivial rfl (by decide) Bm tb nn D hE w hm h)))
  have HS := hide hsz
  clear h hm hE hsz hN
  go_enter Tryz.func96, Tryz.ntmps96
  go_wp2_with fail
  refine (HC.out).mono ?_
  rintro _ w1 ⟨v, xs, rfl, hV, hrow, hb⟩
  dsimp only
  obtain ⟨so, sc, rfl⟩ := own_sl hrow
  have HR := hide hrow
  have HV := hide hV
  have HSO := hide (sortE_one so xs.length sc (by rw [allV_len hV]; exact HS.out) f w1)
  have HB := hide hb
  clear hrow hV hb HC
  go_wp2_with fail
  refine (HSO.out).mono ?_
  rintro _ w2 ⟨rfl, rfl⟩
  dsimp only
  go_wp2_with fail
  go_ret
  exact ⟨_, xs, rfl, HV.out, HR.out, HB.out⟩
set_option maxRecDepth 100000 in
set_option maxHeartbeats 1000000 in
theorem sorted_any (tb nn : Nat) (D : DataW Value) (w : World) (h : TM w tb nn D) (hE : AllE D) (hsz : (strKeys D).length ≤ 1) :
    Calls Tryz.prog 55 #[.map (some tb)] w fun e w' => ∃ v xs, e = .returned v ∧ AllV D xs ∧ w'.ownsRow w.heap.size 130 34 v xs.length (xs.flatMap EV.cs) ∧ Below w.heap.size w w' := by
  have HVL := hide (callsIn_wide.1 (vals_in Fence.wide 3 trivial rfl (some tb) w))
  have H := hide h
  have HE := hide hE
  have HS := hide hsz
  have hmf : ∀ (fn : Fn) (first cap : Array Value) (w : World), (Instr.makeFunc fn first cap).run Tryz.prog w = .ok (.func fn first cap) w := fun _ _ _ _ => rfl
  clear h hE hsz
  go_enter Tryz.func55, Tryz.ntmps55
  go_wp2_with fail
  refine (HVL.out).mono ?_
  rintro _ w1 ⟨rfl, hw1⟩
  dsimp only
  have hb1 : Below w.heap.size w w1 := by rw [hw1]; exact (Below.refl _ _).alloc (Nat.le_refl _) _
  have hx1 : w1.heap[w.heap.size]? = some (.cells #[.map (some tb)] 120 (0, 0)) := by rw [hw1]; exact heap_alloc_new _ _
  have HSF := hide (fun f => sortedFunc_any tb nn w.heap.size D f w1 (owns_same H.out (hb1.block _ H.out.lt)) (cell_of_row _ _ 0 _ _ _ hx1) HE.out HS.out)
  have HB1 := hide hb1
  clear hb1 hx1 hw1 HVL
  go_wp2_with fail
  refine (HSF.out _).mono ?_
  rintro _ w2 ⟨v, xs, rfl, hV, hrow, hb⟩
  dsimp only
  have HR := hide hrow
  have HV := hide hV
  have HB := hide hb
  clear hrow hV hb HSF
  go_wp2_with fail
  go_ret
  have hz := HB1.out.size
  exact ⟨_, xs, rfl, HV.out, HR.out.mono_base hz, HB1.out.trans (HB.out.mono hz)⟩
end Go.Proofs.YteicpbcddjjceaaGreatDoor

/-
  PROVED HERE: a digest's text is a digest's, and is read as that digest; no walk.
-/
namespace Go.Proofs.YteicpbcddjjceaaGreatDoor
open Go.RowKit
/-- A digest's text. -/
def dtx (ds : List Nat) : ByteArray := ⟨(Sha.textTo ds 32).toArray⟩
theorem dtx_size (ds : List Nat) : (dtx ds).size = 64 := by unfold dtx; rw [bytes_size, Sha.textTo_len]
theorem hexd_ok (n : Nat) (h : n < 16) : hexB (Sha.hexd n).toNat = true := by
  have : ∀ n, n < 16 → hexB (Sha.hexd n).toNat = true := by decide +kernel
  exact this n h
theorem hexd_inj {a b : Nat} (ha : a < 16) (hb : b < 16) (h : Sha.hexd a = Sha.hexd b) : a = b := by
  have : ∀ a, a < 16 → ∀ b, b < 16 → Sha.hexd a = Sha.hexd b → a = b := by decide +kernel
  exact this a ha b hb h
theorem textTo_ok (bs : List Nat) (hlt : ∀ i, bs.getD i 0 < 256) (k : Nat) : ∀ c ∈ Sha.textTo bs k, hexB c.toNat = true := by
  induction k with
  | zero => intro c hc; cases hc
  | succ k ih =>
    intro c hc
    have := hlt k
    simp only [Sha.textTo, List.mem_append, List.mem_cons, List.not_mem_nil, or_false] at hc
    rcases hc with hc | rfl | rfl
    · exact ih c hc
    · exact hexd_ok _ (by omega)
    · exact hexd_ok _ (by omega)
theorem textTo_inj {a b : List Nat} (ha : ∀ i, a.getD i 0 < 256) (hb : ∀ i, b.getD i 0 < 256) : ∀ k, Sha.textTo a k = Sha.textTo b k → ∀ i, i < k → a.getD i 0 = b.getD i 0
  | 0, _, i, hi => absurd hi (by omega)
  | k + 1, h, i, hi => by
    simp only [Sha.textTo] at h
    have h1 := List.append_inj h (by rw [Sha.textTo_len, Sha.textTo_len])
    by_cases hk : i < k
    · exact textTo_inj ha hb k h1.1 i hk
    · have e : i = k := by omega
      subst e
      have h2 := h1.2
      injection h2 with h2 h3
      injection h3 with h3
      have a1 := ha i
      have b1 := hb i
      have := hexd_inj (by omega) (by omega) h2
      have := hexd_inj (by omega) (by omega) h3
      omega
theorem dtx_dig (ds : List Nat) (hlt : ∀ i, ds.getD i 0 < 256) : isDigB (dtx ds) = true := by
  unfold isDigB
  rw [dtx_size]
  simp only [decide_true, Bool.true_and, List.all_eq_true]
  intro c hc
  exact textTo_ok ds hlt 32 c (by simpa [dtx] using hc)
theorem rd_dtx (ds : List Nat) (h : ds.length = 32) (hlt : ∀ i, ds.getD i 0 < 256) : rd (dtx ds) = ds := by
  have h1 := rd_text (dtx_dig ds hlt)
  have h2 := textTo_inj (rd_lt (dtx ds)) hlt 32 (h1.trans rfl)
  apply List.ext_getElem
  · rw [rd_len, h]
  · intro i a b
    have := h2 i (by omega)
    simpa [List.getD_eq_getElem?_getD, List.getElem?_eq_getElem a, List.getElem?_eq_getElem b] using this
end Go.Proofs.YteicpbcddjjceaaGreatDoor
