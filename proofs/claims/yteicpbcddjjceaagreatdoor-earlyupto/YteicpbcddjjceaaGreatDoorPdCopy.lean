/-
  PROVED HERE: what the program's own Copy of disks does.
-/
import Derived.Test.YteicpbcddjjceaaGreatDoorPdCrash
import Derived.Laws.AppendOwn
import Derived.Lib.BufferMore
namespace Go.Proofs.YteicpbcddjjceaaGreatDoor
open Go.RowKit
theorem build0_own (w : World) : (w.alloc (.cells #[] 5)).ownsRow w.heap.size 5 1 (.slice (some ⟨w.heap.size, 0, none⟩) 0 0) 0 [] :=
  ⟨rfl, .inr ⟨w.heap.size, 0, #[], rfl, Nat.le_refl _, heap_alloc_new _ _, Nat.le_refl _, by unfold maxLen; omega, rfl, rfl⟩⟩
set_option maxHeartbeats 1000000 in
set_option maxRecDepth 100000 in
theorem bclone_any (v : Value) (x : ByteArray) (w : World) (h : w.ownsRow 0 5 1 v x.size (Lib.strCells x)) (hx : x.size ≤ 1000000000000) :
    Calls Tryz.prog 82 #[v] w fun e w' => ∃ o cap, e = .returned (.slice o x.size cap) ∧ w'.ownsRow w.heap.size 5 1 (.slice o x.size cap) x.size (Lib.strCells x) ∧ Below w.heap.size w w' := by
  obtain ⟨i0, hi, hz0, hz1, hz2⟩ := info_parts Tryz.infoU8
  have q93 : ∀ (w : World) (a : Option Addr) (n c n' c' : Nat), (binOp .eql 124 (.slice a n c) (.slice none n' c')).run Tryz.prog w = .ok (.bool a.isNone) w := fun w a n c n' c' => Lib.run_eql_slice_nil w _ _ a n c n' c' Tryz.underlying124
  rcases h.2 with ⟨rfl, h0⟩ | ⟨g, cap, cur, rfl, hb, hg, hc, hm, hcs, htk⟩
  · have hx0 := ba_empty h0
    subst hx0
    go_enter Tryz.func82, Tryz.ntmps82
    go_wp2_with fail
    go_ret
    exact ⟨none, 0, rfl, World.ownsRow_nil _ _ _ _, Below.refl _ _⟩
  · have hcell : ∀ j u, (Lib.strCells x)[j]? = some u → (w.alloc (.cells #[] 5)).cell? ((⟨g, 0, none⟩ : Addr).add j) = some u := by
      intro j u hu
      have hg2 : (w.alloc (.cells #[] 5)).heap[g]? = some (.cells cur 5 (0, 0)) := (Below.heap_alloc _ _ g (lt_heap hg)).trans hg
      have hadd : (⟨g, 0, none⟩ : Addr).add j = ⟨g, j, none⟩ := by unfold Addr.add; split <;> simp_all
      rw [hadd, cell_of_row _ g _ _ _ _ hg2]
      have hj : j < x.size := by have := (List.getElem?_eq_some_iff.1 hu).1; rw [Lib.strCells_length] at this; exact this
      have : (cur.toList.take (x.size * 1))[j]? = (Lib.strCells x)[j]? := by rw [htk]
      rw [List.getElem?_take, if_pos (by omega)] at this
      rw [← Array.getElem?_toList, this, hu]
    have HC := hide hcell
    have HO := hide (build0_own w)
    have HONE := hide (Lib.strCells_oneCell x)
    have HLN := hide (Lib.strCells_length x)
    have hb63 : 0 + x.size ≤ maxLen := by unfold maxLen; omega
    have hby : (0 + x.size) * 1 ≤ 140737488355328 := by omega
    have hB0 : Below w.heap.size w (w.alloc (.cells #[] 5)) := (Below.refl _ _).alloc (Nat.le_refl _) _
    have HB0 := hide hB0
    clear hcell hg htk hcs hB0 h
    generalize x.size = n at hc hb63 hby HLN hx
    go_enter Tryz.func82, Tryz.ntmps82
    go_wp2_with (refine wpList_append_own _ rfl _ _ 124 rfl w.heap.size 5 i0 _ 1 1 Tryz.underlying124 hi hz0 hz1 hz2 rfl (by decide) _ 0 [] rfl HO.out ⟨g, 0, none⟩ n cap (Lib.strCells x) rfl (by rw [HLN.out]; omega) HC.out HONE.out hb63 hby (by rw [size_alloc]; omega) ?_; rintro v2 w2 hv hg2 _; obtain ⟨o2, c2, hv2⟩ := own_sl hv; subst hv2; have HV2 := hide hv; have HG2 := hide hg2; clear hv hg2)
    go_ret
    refine ⟨o2, c2, rfl, ?_, ?_⟩
    · have := HV2.out
      simp only [Nat.zero_add, List.nil_append] at this
      exact this
    · have hg2 : (w.alloc (.cells #[] 5)).grownBy w2 (some w.heap.size) := HG2.out
      exact HB0.out.grown hg2 (by rw [size_alloc]; omega) (fun k hk => by injection hk with hk; omega)
theorem findE_some {x : ByteArray} : ∀ {l : List DE} {f : Nat}, findE x l = some f → ∃ e ∈ l, e.path = x ∧ e.blk = f
  | [], _, h => by cases h
  | e :: es, f, h => by
    unfold findE at h
    by_cases he : e.path = x
    · rw [if_pos he] at h
      injection h with h
      exact ⟨e, by simp, he, h⟩
    · rw [if_neg he] at h
      obtain ⟨y, hy, h1⟩ := findE_some h
      exact ⟨y, by simp [hy], h1⟩
theorem findE_no {x : ByteArray} : ∀ {l : List DE}, (∀ e ∈ l, e.path ≠ x) → findE x l = none
  | [], _ => rfl
  | e :: es, h => by
    unfold findE
    rw [if_neg (h e (by simp))]
    exact findE_no (fun y hy => h y (by simp [hy]))
theorem rise_ext : ∀ {l1 l2 : List DE}, Rise l1 → Rise l2 → (∀ x, findE x l1 = findE x l2) → l1 = l2
  | [], [], _, _, _ => rfl
  | [], b :: s, _, _, h => by have := h b.path; simp [findE] at this
  | a :: r, [], _, _, h => by have := h a.path; simp [findE] at this
  | a :: r, b :: s, h1, h2, h => by
    obtain ⟨a1, a2⟩ := List.pairwise_cons.1 h1
    obtain ⟨b1, b2⟩ := List.pairwise_cons.1 h2
    have ha : findE a.path (b :: s) = some a.blk := by rw [← h]; simp [findE]
    have hb : findE b.path (a :: r) = some b.blk := by rw [h]; simp [findE]
    have hab : a.path = b.path := by
      obtain ⟨y, hy, hyp, _⟩ := findE_some ha
      obtain ⟨z, hz, hzp, _⟩ := findE_some hb
      rcases List.mem_cons.1 hy with e | hy
      · rw [← hyp, e]
      · rcases List.mem_cons.1 hz with e | hz
        · rw [← hzp, e]
        · have l1 := b1 y hy
          have l2 := a1 z hz
          rw [hyp] at l1
          rw [hzp] at l2
          have := less_trans l1 l2
          rw [less_irrefl] at this
          cases this
    have hblk : a.blk = b.blk := by
      rw [hab] at ha
      simp [findE] at ha
      exact ha.symm
    have ht : r = s := by
      refine rise_ext a2 b2 fun x => ?_
      by_cases hx : a.path = x
      · rw [findE_no (fun y hy e => by have := a1 y hy; rw [e, hx, less_irrefl] at this; cases this), findE_no (fun y hy e => by have := b1 y hy; rw [e, ← hab, hx, less_irrefl] at this; cases this)]
      · have := h x
        unfold findE at this
        rw [if_neg hx, if_neg (by rw [← hab]; exact hx)] at this
        exact this
    obtain ⟨p, x⟩ := a
    obtain ⟨q, y⟩ := b
    simp only at hab hblk
    rw [hab, hblk, ht]
theorem step_put_pm {P : Program} (w : World) {ops : Array Oper} {o : Oper} {a : Act} {K : Act → World → Prop} {Q : Exit → Act → World → Prop} {E : Prop} (hgd : o.guard = none) (m x v : Operand) (t : TypeId) (hop : o.op = Op.mapUpdate t m x v)
    (k e : TypeId) (hk : P.underlying k = some .string) (ht : P.underlying t = some (.map k e)) (b : Nat) (l : List DE)
    (hm : a.eval m = .map (some b)) (hown : PM P k w b l) (hn : l.length < maxLen) (p : ByteArray) (nb : Nat) (hx : a.eval x = .string p) (hv : a.eval v = .pointer (some ⟨nb, 0, none⟩)) (hp : p.size ≤ maxLen)
    (hK : ∀ w', PM P k w' b (withE p (some nb) l false) → w.mapTurned w' b → K (a.put o.dst undef) w') :
    if Region.wanted o (yielded ops a.tmps) = true then Oper.wp P o a w K Q else E := by
  have hw : Region.wanted o (yielded ops a.tmps) = true := by simp [Region.wanted, hgd]
  rw [if_pos hw]
  obtain ⟨w', hrun, r1, r2⟩ := World.ownsMap.store hown (Maps.string_keyed hk) ht hn (WideMaps.keyOf_string_mk hk hp) (show ptrRd (.pointer (some ⟨nb, 0, none⟩)) = some (.lit (.int .i64 (nb : Int)), []) from rfl)
  rw [show Lit.string p.data.toList = kOf p from rfl, dOf_put p nb l (PM.rise hown (Maps.string_keyed hk))] at r1
  unfold Oper.wp
  simp [execOp, hop, hm, hx, hv, hrun, Result.andThen]
  exact hK w' (pm_tight r1) r2
/-- One file more, with its bytes. -/
theorem PSt.In.add {s : PSt} {w w' : World} (h : s.In w) (hb : Below w.heap.size w w') {F : Nat} (hF : w.heap.size ≤ F) {x : ByteArray × Int} {v : Value} (hfd : FD w' F x v) (hv : ∀ k, v.ownBlock = some k → w.heap.size ≤ k) :
    ({ s with fs := F :: s.fs, fd := setNd s.fd F x, fv := setV s.fv F v } : PSt).In w' := by
  have h2 := h.later hb
  have hne : ∀ f ∈ s.fs, f ≠ F := fun f hf => by have := lt_of_row (h.fds f hf).blk; omega
  have hlt : ∀ f ∈ s.fs, ∀ k, (s.fv f).ownBlock = some k → k < w.heap.size := fun f hf k hk => h.lt (.inr (.inr (.inr (.inr (.inr ⟨f, hf, hk⟩)))))
  refine ⟨h2.is, ?_, ?_, fun e he => by simp [h.inow e he], fun e he => by simp [h.isafe e he], fun e he => by simp [h.ichg e he]⟩
  · intro f hf
    dsimp only at hf ⊢
    rcases List.mem_cons.1 hf with e | hf
    · subst e
      rw [setNd_same, setV_same]
      exact hfd
    · rw [setNd_ne _ _ (hne f hf), setV_ne _ _ (hne f hf)]
      exact h2.fds f hf
  · intro f hf g hg hfg k hk
    dsimp only at hf hg hk ⊢
    rcases List.mem_cons.1 hf with e | hf'
    · rw [e, setV_same] at hk
      rcases List.mem_cons.1 hg with e2 | hg'
      · exact absurd (e.trans e2.symm) hfg
      · rw [setV_ne _ _ (hne g hg')]
        intro e3
        have h1 := hlt g hg' k e3
        have h3 := hv k hk
        omega
    · rw [setV_ne _ _ (hne f hf')] at hk
      rcases List.mem_cons.1 hg with e2 | hg'
      · rw [e2, setV_same]
        intro e3
        have h1 := hlt f hf' k hk
        have h3 := hv k e3
        omega
      · rw [setV_ne _ _ (hne g hg')]
        exact h.sep f hf' g hg' hfg k hk
theorem withE_find (p x : ByteArray) (nb : Nat) : ∀ {l : List DE}, Rise l → findE x (withE p (some nb) l false) = if x = p then some nb else findE x l := by
  intro l hl
  have h2 := dOf_put p nb l hl
  have h3 := dOf_at x (withE p (some nb) l false)
  rw [← h2] at h3
  by_cases hx : x = p
  · subst hx
    rw [if_pos rfl]
    rw [Maps.atKey_put_same (D := dOf l) ⟨l.map dE, rfl⟩ (show WideAt.IsKeyLit (kOf x) from trivial)] at h3
    cases hf : findE x (withE x (some nb) l false) with
    | none => rw [hf] at h3; cases h3
    | some g =>
      rw [hf] at h3
      simp only [ptrD, DataW.lit.injEq, Lit.int.injEq, true_and] at h3
      have : g = nb := by omega
      rw [this]
  · rw [if_neg hx]
    have hne : kOf x ≠ kOf p := fun e => hx (WideShapes.bytes_inj (by injection e))
    rw [Maps.atKey_put_other hne, dOf_at] at h3
    cases hf : findE x (withE p (some nb) l false) with
    | none =>
      rw [hf] at h3
      cases hg : findE x l with
      | none => rfl
      | some g => rw [hg] at h3; cases h3
    | some g =>
      rw [hf] at h3
      cases hg : findE x l with
      | none => rw [hg] at h3; cases h3
      | some g' =>
        rw [hg] at h3
        simp only [ptrD, DataW.lit.injEq, Lit.int.injEq, true_and] at h3
        have : g = g' := by omega
        rw [this]
/-- What a copy has of the files that have come already. -/
structure CpRel (s so : PSt) (ψ : ByteArray → Nat) (left : Lit → Bool) : Prop where
  fnd : ∀ x, findE x so.R.now = if left (kOf x) then none else (findE x s.R.now).map fun _ => ψ x
  dat : ∀ x f, left (kOf x) = false → findE x s.R.now = some f → so.fd (ψ x) = ((s.fd f).1, ((s.fd f).1.size : Int))
  inj : ∀ x y, left (kOf x) = false → left (kOf y) = false → (findE x s.R.now).isSome = true → (findE y s.R.now).isSome = true → ψ x = ψ y → x = y
  inn : ∀ x, left (kOf x) = false → (findE x s.R.now).isSome = true → ψ x ∈ so.fs
theorem CpRel.step {s so so' : PSt} {ψ : ByteArray → Nat} {left : Lit → Bool} (h : CpRel s so ψ left) {x : ByteArray} {f F : Nat} (hf : findE x s.R.now = some f) (hr : Rise so.R.now) (hF : F ∉ so.fs)
    (hn : so'.R.now = withE x (some F) so.R.now false) (hfs : so'.fs = F :: so.fs) (hfd : so'.fd = setNd so.fd F ((s.fd f).1, ((s.fd f).1.size : Int))) :
    CpRel s so' (fun y => if y = x then F else ψ y) (fun z => left z && !z.sameKey (kOf x)) := by
  have hl : ∀ y, (left (kOf y) && !(kOf y).sameKey (kOf x)) = if y = x then false else left (kOf y) := by
    intro y
    rw [kOf_same]
    by_cases e : y = x
    · simp [e]
    · simp [e]
  refine ⟨fun y => ?_, fun y g hy hg => ?_, fun y z hy hz hsy hsz he => ?_, fun y hy hsy => ?_⟩
  · rw [hn, withE_find x y F hr, hl]
    by_cases e : y = x
    · rw [if_pos e, if_pos e, e, hf]
      simp
    · rw [if_neg e, if_neg e, h.fnd y]
      simp [e]
  · rw [hl] at hy
    by_cases e : y = x
    · rw [e, hf] at hg
      injection hg with hg
      rw [hfd, e]
      simp only [if_true]
      rw [setNd_same, hg]
    · rw [if_neg e] at hy
      simp only [e, if_false]
      have hm := h.inn y hy (by rw [hg]; rfl)
      rw [hfd, setNd_ne _ _ (fun e2 => hF (by rw [← e2]; exact hm))]
      exact h.dat y g hy hg
  · rw [hl] at hy hz
    by_cases e : y = x
    · by_cases e2 : z = x
      · rw [e, e2]
      · rw [if_neg e2] at hz
        simp only [e, if_true, e2, if_false] at he
        exact absurd (by rw [he]; exact h.inn z hz hsz) hF
    · rw [if_neg e] at hy
      by_cases e2 : z = x
      · simp only [e, if_false, e2, if_true] at he
        exact absurd (by rw [← he]; exact h.inn y hy hsy) hF
      · rw [if_neg e2] at hz
        simp only [e, if_false, e2] at he
        exact h.inj y z hy hz hsy hsz he
  · rw [hl] at hy
    by_cases e : y = x
    · rw [hfs]; simp [e]
    · rw [if_neg e] at hy
      rw [hfs]
      simp only [e, if_false]
      exact List.mem_cons_of_mem _ (h.inn y hy hsy)
end Go.Proofs.YteicpbcddjjceaaGreatDoor
