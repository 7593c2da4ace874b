/-
  PROVED HERE: blobslaw.Disks holds, as the given card's second form says it: whatever script of steps is gone through on disks, several of them side by side, copies too, every answer of the program's disks is the one of the document's own, and the lists that came out stay their owner's; conditions: the script is of bulk at most 1048576, and the package variable that the row lists reads as the program's own text lays it (the card ties it).
-/
import Derived.Test.YtjipdjkcdoajbaaGreatDoorLawDisks
import Derived.Test.YtjipdjkcdoajbaaGreatDoorCards
import Derived.Test.YtjipdjkcdoajbaaGreatDoorTie
import Derived.ProofKit
import Derived.OpenShut
import Derived.SizedLaws
import Derived.Deep.DeepHandedRow
import Derived.Deep.Strs
import Derived.Carry
import Derived.LaidHandle
namespace Go.Proofs.YtjipdjkcdoajbaaGreatDoor.disks
open Go.ChangeShapes Go.WideShapes Go.ChangeAt Go.RowKit Go.Deep
open Go.WideMaps Go.WideElems

theorem own : ownKnob Tryz.prog.godebug = none := by kernel_rfl
theorem cellsOp : Tryz.prog.cellsOf 33 = 7 := by kernel_rfl
theorem cells9 : Tryz.prog.cellsOf 9 = 1 := by kernel_rfl
theorem cells3 : Tryz.prog.cellsOf 3 = 1 := by kernel_rfl
theorem cellsL : Tryz.prog.cellsOf 31 = 1 := by kernel_rfl
theorem laidOut : laidOutB Tryz.prog = true := by kernel_rfl
theorem gErr : Tryz.prog.globalNamed "errors.errorType" = some 0 := by kernel_rfl
theorem rTy : (Tryz.prog.cutTypes.find? (·.1 == "internal/reflectlite.rtype")).map (·.2) = some 159 := by kernel_rfl
theorem oneRow : ((List.range Tryz.prog.types.size).filter fun t => Tryz.prog.rowNamed t [101, 114, 114, 111, 114]) = [99] := by kernel_rfl
/-- What the row's list gives: the variable's one cell. -/
theorem errCell {W : World} (h : laidMetH Tryz.prog Rows.disksUptoRow.laid W) : W.cell? ⟨0, 0, none⟩ = some errT := by
  have h' : laidMet Tryz.prog [] W ∧ handlesMet Tryz.prog Rows.disksUptoRow.laid W := h
  obtain ⟨name, u, ty, e1, e2, e3, e4, e5⟩ := h'.2 _ (List.mem_singleton.2 rfl)
  have en : name = [101, 114, 114, 111, 114] := (Option.some.inj e1).symm
  subst en
  obtain rfl := Option.some.inj (rTy.symm.trans e2)
  have hm : ty ∈ (List.range Tryz.prog.types.size).filter fun t => Tryz.prog.rowNamed t [101, 114, 114, 111, 114] := List.mem_filter.2 ⟨List.mem_range.2 e3, e4⟩
  rw [oneRow] at hm
  obtain rfl := List.mem_singleton.1 hm
  have hh : typeHandle Tryz.prog 99 = .pointer (some ⟨1, 99, none⟩) := by kernel_rfl
  rw [hh] at e5
  have h9 := World.var?_cell gErr e5 0
  simpa [errT] using h9
theorem wf_range {n : Int} (h : (Lit.int .i64 n).wf = true) : -9223372036854775808 ≤ n ∧ n ≤ 9223372036854775807 := by
  simp [Lit.wf, IntKind.min, IntKind.max, IntKind.bits, IntKind.signed] at h
  omega
theorem bulk_pos {H : Type} (d : DataW H) : 1 ≤ Rows.uptoBulk d := by
  cases d with
  | lit l => cases l <;> simp [Rows.uptoBulk]
  | _ => simp [Rows.uptoBulk]
theorem bulk_len {H : Type} : ∀ l : List (DataW H), l.length ≤ Rows.uptoBulkAll l
  | [] => Nat.zero_le _
  | d :: l => by
    have h1 := bulk_pos d
    have h2 := bulk_len l
    simp only [Rows.uptoBulkAll, List.length_cons]
    omega
theorem bulk_part {H : Type} {d : DataW H} : ∀ {l : List (DataW H)}, d ∈ l → Rows.uptoBulk d ≤ Rows.uptoBulkAll l
  | [], h => by cases h
  | x :: l, h => by
    simp only [Rows.uptoBulkAll]
    rcases List.mem_cons.1 h with rfl | h
    · omega
    · have := bulk_part h
      omega
/-- Rows that each hold their own text and one thing more. -/
theorem bulk_rows {H : Type} (D : Nat → DataW H) (T : Nat → OpV) : ∀ n, (∀ i, i < n → (T i).T.size + 1 ≤ Rows.uptoBulk (D i)) → n + (((List.range n).map T).map fun o => o.T.size).sum ≤ Rows.uptoBulkAll ((List.range n).map D)
  | 0, _ => Nat.zero_le _
  | n + 1, h => by
    have h1 := bulk_rows D T n (fun i hi => h i (by omega))
    have h2 := h n (by omega)
    have h3 : ∀ a b : List (DataW H), Rows.uptoBulkAll (a ++ b) = Rows.uptoBulkAll a + Rows.uptoBulkAll b := by
      intro a b
      induction a with
      | nil => simp [Rows.uptoBulkAll]
      | cons x a ih => simp only [List.cons_append, Rows.uptoBulkAll, ih]; omega
    rw [List.range_succ, List.map_append, List.map_append, List.map_append, List.sum_append, h3]
    simp only [List.map_cons, List.map_nil, List.sum_cons, List.sum_nil, Rows.uptoBulkAll]
    omega
instance : Inhabited OpV := ⟨op0⟩
set_option maxRecDepth 100000 in
/-- One row of the script, by its seven cells. -/
theorem op_of {H : Type} {enc : TypeId × Value → H} {W : World} {n : Nat} {cs : List Value} {d : DataW H} {pl : List MemPlace} (h : DataW.trod enc Tryz.prog W 0 (fun _ => true) true n 33 cs = some (d, pl)) (hb : Rows.uptoBulk d ≤ 1048576) :
    ∃ o : OpV, cs = o.cells ∧ OpFit W o ∧ o.T.size + 1 ≤ Rows.uptoBulk d := by
  obtain ⟨xs, m, _, hx, hl, hlen, hf⟩ := DataW.trod_struct Tryz.underlying33 h
  rw [cellsOp] at hl
  match cs, hl with
  | [v0, v1, v2, v3, v4, v5, v6], _ =>
    match xs, hlen with
    | [y0, y1, y2, y3, y4, y5, y6], _ =>
      have u0 : DataW.trod enc Tryz.prog W 0 (fun _ => true) true m 3 (([v0, v1, v2, v3, v4, v5, v6].drop 0).take (Tryz.prog.cellsOf 3)) = some y0 := hf 0 _ rfl
      have u1 : DataW.trod enc Tryz.prog W 0 (fun _ => true) true m 3 (([v0, v1, v2, v3, v4, v5, v6].drop 1).take (Tryz.prog.cellsOf 3)) = some y1 := hf 1 _ rfl
      have u2 : DataW.trod enc Tryz.prog W 0 (fun _ => true) true m 3 (([v0, v1, v2, v3, v4, v5, v6].drop 2).take (Tryz.prog.cellsOf 3)) = some y2 := hf 2 _ rfl
      have u3 : DataW.trod enc Tryz.prog W 0 (fun _ => true) true m 3 (([v0, v1, v2, v3, v4, v5, v6].drop 3).take (Tryz.prog.cellsOf 3)) = some y3 := hf 3 _ rfl
      have u4 : DataW.trod enc Tryz.prog W 0 (fun _ => true) true m 9 (([v0, v1, v2, v3, v4, v5, v6].drop 4).take (Tryz.prog.cellsOf 9)) = some y4 := hf 4 _ rfl
      have u5 : DataW.trod enc Tryz.prog W 0 (fun _ => true) true m 9 (([v0, v1, v2, v3, v4, v5, v6].drop 5).take (Tryz.prog.cellsOf 9)) = some y5 := hf 5 _ rfl
      have u6 : DataW.trod enc Tryz.prog W 0 (fun _ => true) true m 31 (([v0, v1, v2, v3, v4, v5, v6].drop 6).take (Tryz.prog.cellsOf 31)) = some y6 := hf 6 _ rfl
      simp only [cells9, cells3, cellsL, List.drop_zero, List.drop_succ_cons, List.take_succ_cons, List.take_zero] at u0 u1 u2 u3 u4 u5 u6
      obtain ⟨z0, e0, _, w0⟩ := DataW.trod_int Tryz.underlying3 u0
      obtain ⟨z1, e1, _, w1⟩ := DataW.trod_int Tryz.underlying3 u1
      obtain ⟨z2, e2, _, w2⟩ := DataW.trod_int Tryz.underlying3 u2
      obtain ⟨z3, e3, _, w3⟩ := DataW.trod_int Tryz.underlying3 u3
      obtain ⟨s4, e4, _, h4⟩ := DataW.trod_string Tryz.underlying9 u4
      obtain ⟨s5, e5, d5, h5⟩ := DataW.trod_string Tryz.underlying9 u5
      simp only [List.cons.injEq, and_true] at e0 e1 e2 e3 e4 e5
      have hd : d = .agg ([y0, y1, y2, y3, y4, y5, y6].map (·.1)) := (Prod.mk.inj hx).1
      have p0 := bulk_pos y0.1
      have p1 := bulk_pos y1.1
      have p2 := bulk_pos y2.1
      have p3 := bulk_pos y3.1
      have p4 := bulk_pos y4.1
      have p6 := bulk_pos y6.1
      have q5 : Rows.uptoBulk y5.1 = s5.size + 1 := by
        rw [d5]
        simp only [Rows.uptoBulk, Array.length_toList]
        rfl
      have hbk : Rows.uptoBulk d = Rows.uptoBulk y0.1 + (Rows.uptoBulk y1.1 + (Rows.uptoBulk y2.1 + (Rows.uptoBulk y3.1 + (Rows.uptoBulk y4.1 + (Rows.uptoBulk y5.1 + (Rows.uptoBulk y6.1 + 0)))))) + 1 := by
        rw [hd]
        simp only [List.map_cons, List.map_nil, Rows.uptoBulk, Rows.uptoBulkAll]
      unfold maxLen at h4
      have hls : ∃ la ln lc, v6 = .slice la ln lc ∧ ln ≤ 1048576 ∧ ∃ ks : List Int, ks.length = ln ∧ KAt (fun k => W.heap.size ≤ k) W (.slice la ln lc) ks := by
        rcases open_ints Tryz.underlying31 Tryz.underlying3 cells3 u6 with ⟨hcs0, hx6⟩ | ⟨a, len', cap', zs, hcs0, _, hl6, hm6, hlen6, hx6, hcell, hwf⟩
        · simp only [List.cons.injEq, and_true] at hcs0
          exact ⟨none, 0, 0, hcs0, by decide, [], rfl, none, 0, rfl, fun i hi => by cases hi⟩
        · simp only [List.cons.injEq, and_true] at hcs0
          have hle : len' ≤ zs.length := by rw [hlen6]; split <;> omega
          have hlk : (zs.take len').length = len' := by rw [List.length_take]; omega
          have hbl : len' ≤ Rows.uptoBulk y6.1 := by
            rw [hx6]
            simp only [Rows.uptoBulk]
            have h7 := bulk_len (H := H) (lits .i64 (zs.take len'))
            rw [show (lits (H := H) .i64 (zs.take len')).length = len' by simp only [lits, List.length_map]; exact hlk] at h7
            omega
          refine ⟨some a, len', cap', hcs0, by omega, zs.take len', hlk, some a, cap', by rw [hlk], fun i hi => ?_⟩
          have hi' : i < len' := by rw [hlk] at hi; exact hi
          have hc0 := hcell i (by omega)
          have hspot : a.spot = none := by
            have := World.cell?_spot (hcell 0 (by omega))
            simpa [Addr.add] using this
          obtain ⟨b, o, sp⟩ := a
          dsimp only at hspot
          subst hspot
          rw [Addr.add_mid] at hc0
          have e : (zs.take len').getD i 0 = zs.getD i 0 := by simp [List.getD_eq_getElem?_getD, hi']
          exact ⟨b, o, rfl, Nat.not_le.2 (World.block_lt_of_cell? _ _ hc0), by rw [e]; exact hc0⟩
      obtain ⟨la, ln, lc, e6, hln, hks⟩ := hls
      refine ⟨⟨z0, z1, z2, z3, s4, s5, la, ln, lc⟩, by rw [e0, e1, e2, e3, e4, e5, e6]; rfl, ⟨(wf_range w1).1, (wf_range w1).2, (wf_range w2).1, (wf_range w2).2, by show s4.size ≤ _; omega, by show s5.size ≤ _; omega, hks, hln⟩, by show s5.size + 1 ≤ _; omega⟩
set_option maxRecDepth 100000 in
/-- What the walk gives, for every argument of that bulk and every world that holds the variable. -/
theorem contract (H : Type) (enc : TypeId × Value → H) (W : World) (base : Nat) (args : Array Value) (ds gs : List (DataW H)) (before : List MemPlace)
    (hval : ∀ (j : Nat) t v, Tryz.f3.params[j]? = some t → args[j]? = some v → Value.okWide Tryz.prog W .any base t v)
    (hW : DataW.Whole enc Tryz.prog Tryz.f3.params.toList Rows.disksSpec.vars false W args.toList ds gs before)
    (hk : Rows.uptoSmall H (ds ++ gs) = true) (hL : laidMetH Tryz.prog Rows.disksUptoRow.laid W) :
    Calls Tryz.prog 3 args W fun e W' => ∃ v, e = .returned v ∧ Rows.disksSpec.post enc Tryz.prog Tryz.f3 false true false false W args v W' := by
  have hbk : Rows.uptoBulkAll (ds ++ gs) ≤ 1048576 := of_decide_eq_true hk
  have hW' := hW
  obtain ⟨p, q, hA0, hV, rfl, hfz, hnd⟩ := hW
  have hA : DataW.TrodAll enc Tryz.prog W 0 (fun _ => true) true Tryz.f3.params.toList args.toList ds p := hA0
  rw [Tryz.params3] at hA hval
  obtain ⟨v0, vs0, d0, ds0, p0, q0, hargs, rfl, rfl, h0, r0⟩ := trodAll_cons hA
  obtain ⟨rfl, rfl, rfl⟩ := trodAll_nil r0
  obtain rfl : args = #[v0] := by cases args; simp_all
  obtain ⟨rfl, rfl⟩ := trodVars_none hV
  obtain ⟨a0, len, cap, rfl⟩ := okWide_slice Tryz.underlying22 (hval 0 22 v0 rfl rfl)
  clear hA0
  simp only [List.append_nil] at hW'
  simp only [List.append_nil, Rows.uptoBulkAll, Nat.add_zero] at hbk
  have hlt : ∀ x ∈ p0, x.block < W.heap.size := fun x hx => hA.lt x (by simpa using hx)
  have key : ∃ ops : List OpV, ops.length = len ∧ OpsAt W a0 ops ∧ (∀ o ∈ ops, OpFit W o) ∧ len + tb ops len ≤ 1048576 := by
    obtain ⟨fuel0, hf⟩ := h0
    rcases open_slice Tryz.underlying22 hf with ⟨hcs0, hx⟩ | ⟨a, len', cap', m, fu, D, Pl, hcs0, _, hl, hm, hmm, hx, hel⟩
    · simp [Value.cells] at hcs0
      obtain ⟨rfl, rfl, rfl⟩ := hcs0
      exact ⟨[], rfl, fun i hi => by simp at hi, fun o ho => (by cases ho), by decide⟩
    · simp [Value.cells] at hcs0
      obtain ⟨rfl, rfl, rfl⟩ := hcs0
      simp only [Prod.mk.injEq] at hx
      obtain ⟨rfl, _⟩ := hx
      have hlm : len ≤ m := by rw [hmm]; simp; omega
      simp only [Rows.uptoBulk] at hbk
      obtain ⟨T, hT⟩ := choose_lt (α := OpV) (n := len) (p := fun i t => W.cells? 0 (a.add (i * 7)) 7 = some t.cells ∧ OpFit W t ∧ t.T.size + 1 ≤ Rows.uptoBulk (D i)) (fun i hi => by
        obtain ⟨cs', h1, h2⟩ := hel i (by omega)
        rw [cellsOp] at h1
        have hpart : Rows.uptoBulk (D i) ≤ Rows.uptoBulkAll ((List.range len).map D) := bulk_part (List.mem_map_of_mem (List.mem_range.2 hi))
        obtain ⟨t, rfl, h3, h4⟩ := op_of h2 (by omega)
        exact ⟨t, h1, h3, h4⟩)
      refine ⟨(List.range len).map T, by simp, ?_, ?_, ?_⟩
      · intro i hi
        have hi' : i < len := by simpa using hi
        have e : ((List.range len).map T).getD i op0 = T i := by simp [List.getD_eq_getElem?_getD, hi']
        have hc := World.cells?_some (hT 0 (by omega)).1
        have hspot : a.spot = none := by
          have := hc.2.2 0 (by omega)
          simpa [Addr.add] using World.cell?_spot this
        obtain ⟨b, o, sp⟩ := a
        dsimp only at hspot
        subst hspot
        refine ⟨b, o, rfl, ?_⟩
        rw [e]
        intro j v hj
        have hj7 : j < 7 := by
          have := (List.getElem?_eq_some_iff.1 hj).1
          simpa [OpV.cells] using this
        have hci := World.cells?_some (hT i hi').1
        have := hci.2.2 j hj7
        rw [Addr.add_mid, Addr.add_mid] at this
        rw [this]
        exact hj
      · intro o ho
        obtain ⟨i, hi, rfl⟩ := List.mem_map.1 ho
        exact (hT i (List.mem_range.1 hi)).2.1
      · have h1 := bulk_rows D T len (fun i hi => (hT i hi).2.2)
        unfold tb
        rw [List.take_of_length_le (by simp)]
        omega
  obtain ⟨ops, hl, hO, hF, hB⟩ := key
  refine (disks_any a0 cap ops len hl W hO hF hB (errCell hL)).mono fun e W' ⟨he, hg⟩ => ?_
  subst he
  refine ⟨_, rfl, _, _, _, [], p0, [], hW', ?_, ?_, rfl, hg.frame _, fun h => by cases h⟩
  · exact trodAll_cons_mk (shut_bool Tryz.underlying4 _) trodAll_mk0
  · exact trodAll_mk1 (hg.trod laidOut (by kernel_rfl) (of_decide_eq_true (by kernel_rfl)) h0 hlt)
/-- A world for the witness: the settled one, the variable's cell laid. -/
noncomputable def laidWorld (os : Os) : World :=
  { World.holding Tryz.prog os ⟨#[], #[], []⟩ with heap := (World.holding Tryz.prog os ⟨#[], #[], []⟩).heap.modify 0 fun
      | .cells _ t frozen => .cells #[errT] t frozen
      | o => o }
theorem laid_met (os : Os) : laidMetH Tryz.prog Rows.disksUptoRow.laid ((laidWorld os).forCall (fun _ _ => 0) ⟨#[], #[.slice none 0 0], []⟩).memory :=
  laidMetH_of_parts (laidMet_nil _ _) (by kernel_rfl)
theorem reads (os : Os) {H : Type} (enc : TypeId × Value → H) : ∃ places, DataW.whole enc Tryz.prog ((laidWorld os).forCall (fun _ _ => 0) ⟨#[], #[.slice none 0 0], []⟩).memory Tryz.f3.params.toList Rows.disksSpec.vars false #[Value.slice none 0 0].toList 8 = some ([.nil], [], places) :=
  ⟨[], by kernel_rfl⟩
set_option maxRecDepth 100000 in
theorem lifted (os : Os) (started : os.Started) (H : Type) (enc : TypeId × Value → H) (F : Stop.Interp) :
    ReturnsInHanded {} Tryz.checked os 3 .any ((Rows.OpenSpec.upto Rows.disksSpec).preRow enc Tryz.prog Tryz.f3 Rows.disksUptoRow.domain false Rows.disksUptoRow.laid) (((Rows.OpenSpec.upto Rows.disksSpec).at F).post enc Tryz.prog Tryz.f3 false true false false) := by
  obtain ⟨places, hx⟩ := reads os enc
  refine returnsInHanded_of_row (C := Tryz.checked) (s := Rows.OpenSpec.upto Rows.disksSpec) own started (by kernel_rfl) Tryz.func3
    (witness_row_at (enc := enc) (C := Tryz.checked) false (laidWorld os) #[.slice none 0 0] rfl (by kernel_rfl) (by kernel_rfl) (by kernel_rfl)
      (OpenSpec.preRow_of_cond 8 hx (by kernel_rfl) (fun k hk => by cases hk; kernel_rfl) (by kernel_rfl) (laid_met os))) ?_
  intro W base args ds gs before hval hW _ hcond _ hL _ _
  exact contract H enc W base args ds gs before hval hW (hcond _ rfl) hL
theorem said : Rows.DisksUptoSaid :=
  OpenClaim.holds_of_cond 3 Tryz.f3 rfl rfl rfl rfl rfl rfl rfl ⟨rfl, rfl, rfl, rfl, rfl⟩ rfl rfl rfl rfl rfl (by kernel_rfl) Tryz.func3 (by kernel_rfl)
    (of_decide_eq_true (by kernel_rfl)) (by unfold Func.isWrapper; first | (rw [if_pos (by decide +kernel)]; kernel_rfl) | (rw [if_neg (by decide +kernel)]; exact ⟨rfl, rfl⟩))
    (fun os started H enc _ F => by rw [OpenClaim.pre_eq_preRow]; exact lifted os started H enc F)
theorem plain (f : FuncId) (fn : Func) (hf : Tryz.pinned.checked.prog.funcNamed "blobs/blobslaw.Disks" = some f) (hfn : Tryz.pinned.checked.prog.funcs[f]? = some fn) :
    true = Tryz.pinned.checked.prog.looks [] ∧ ∀ (j : Nat) t, fn.params[j]? = some t → Tryz.pinned.checked.prog.wantsStandIn t = false := by
  obtain rfl : f = 3 := Option.some.inj ((show Tryz.prog.funcNamed "blobs/blobslaw.Disks" = some 3 by kernel_rfl).symm.trans hf) |>.symm
  obtain rfl : fn = Tryz.f3 := (Option.some.inj (Tryz.func3.symm.trans hfn)).symm
  refine ⟨by kernel_rfl, fun j t ht => ?_⟩
  rw [Tryz.params3] at ht
  obtain rfl : t = 22 := by simpa using Array.mem_of_getElem? ht
  exact (show Tryz.prog.wantsStandIn 22 = false by kernel_rfl)
end Go.Proofs.YtjipdjkcdoajbaaGreatDoor.disks
namespace Go.Proofs.YtjipdjkcdoajbaaGreatDoor
theorem disks_card : Rows.DisksUptoCardSaid :=
  Claim7.holds_tied_plain_at .later [] _ _ _ _ disks.said (fun _ h => by cases h) (by kernel_rfl) (fun _ h => by cases h) disksUpto_row_tie rfl ⟨rfl, rfl⟩ (by kernel_rfl) rfl disks.plain (by kernel_rfl)
end Go.Proofs.YtjipdjkcdoajbaaGreatDoor
