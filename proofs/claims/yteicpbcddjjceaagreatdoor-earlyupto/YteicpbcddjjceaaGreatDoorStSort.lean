/-
  PROVED HERE: what sized gives of one tag: that tag, with its content's size.
-/
import Derived.Test.YteicpbcddjjceaaGreatDoorStDig
import Derived.Test.YteicpbcddjjceaaGreatDoorPrintLib
import Derived.Sort.KeysCollected
import Derived.Shelf.SlIter.Nil
import Derived.RangeFuncNested
import Derived.RangeFuncLeaves
import Derived.Test.YteicpbcddjjceaaGreatDoorStBegin
namespace Go.Proofs.YteicpbcddjjceaaGreatDoor
open Go.RowKit Go.Shelf
/-- One tag. -/
def oneT (name : ByteArray) (ds : List Nat) (z : Int) : DataW Value := .map [(.string name.data.toList, .held (.agg (ecellsOf name ds z)))]
theorem ecells_set (n : ByteArray) (ds : List Nat) (z z' : Int) (h : ds.length = 32) : (ecellsOf n ds z).setIfInBounds 33 (.int .i64 z') = ecellsOf n ds z' := by
  obtain ⟨x0, x1, x2, x3, x4, x5, x6, x7, x8, x9, x10, x11, x12, x13, x14, x15, x16, x17, x18, x19, x20, x21, x22, x23, x24, x25, x26, x27, x28, x29, x30, x31, rfl⟩ := list32 ds h
  rfl
theorem put_one (name : ByteArray) (ds : List Nat) (z z' : Int) : (oneT name ds z).put (.string name.data.toList) (.held (.agg (ecellsOf name ds z'))) = oneT name ds z' := by
  simp [oneT, DataW.put_eq, ChangeMaps.putKey, ChangeMaps.notKey, Lit.sameKey, DataW.insert]
theorem has_one (name : ByteArray) (ds : List Nat) (z : Int) : Maps.has (oneT name ds z) (.string name.data.toList) = true := by
  simp [Maps.has, oneT, Lit.sameKey]
theorem has_one_inv {name : ByteArray} {ds : List Nat} {z : Int} {kl : Lit} (h : Maps.has (oneT name ds z) kl = true) : kl = .string name.data.toList := by
  simp only [Maps.has, oneT, List.any_cons, List.any_nil, Bool.or_false] at h
  exact (WideAt.sameKey_eq h).symm
theorem at_one (name : ByteArray) (ds : List Nat) (z : Int) (zd : DataW Value) : (oneT name ds z).atKey (.string name.data.toList) zd = .held (.agg (ecellsOf name ds z)) := by
  simp [oneT, DataW.atKey, Lit.sameKey]
set_option maxHeartbeats 2000000 in
set_option maxRecDepth 100000 in
theorem sized_one (tb n : Nat) (name : ByteArray) (ds : List Nat) (z z' : Int) (w : World) (h : TM w tb n (oneT name ds z)) (hds : ds.length = 32) (hlt : ∀ i, ds.getD i 0 < 256) (hnt : n ≤ 1000) (hn : name.size ≤ 1000000) :
    Calls Tryz.prog 117 #[.map (some tb), .agg (cells8 ds), .int .i64 z'] w fun e w' => ∃ b n', e = .returned (.map (some b)) ∧ w.heap.size ≤ b ∧ n' ≤ n + 1 ∧ TM w' b n' (oneT name ds z') ∧ Below w.heap.size w w' := by
  have HCL := hide (tclone_any tb n (oneT name ds z))
  have hbo : Below w.heap.size w (w.alloc (.cells (cells8 ds) 72)) := (Below.refl _ _).alloc (Nat.le_refl _) _
  have hrow : (w.alloc (.cells (cells8 ds) 72)).heap[w.heap.size]? = some (.cells (cells8 ds) 72 (0, 0)) := heap_alloc_new _ _
  have htm : TM _ tb n (oneT name ds z) := owns_same h (hbo.block _ h.lt)
  obtain ⟨W, hW⟩ : ∃ W, W = w.alloc (.cells (cells8 ds) 72) := ⟨_, rfl⟩
  rw [← hW] at hbo hrow htm
  have HTM := hide htm
  have HW := hide hW
  have HBO := hide hbo
  have HROW := hide hrow
  clear h hbo htm hW hrow
  have hz71 := (zero_of_info Tryz.info71b).1
  go_enter Tryz.func117, Tryz.ntmps117
  go_upto_region 1 with fail
  rw [← HW.out]
  go_wp2_with fail
  refine (HCL.out _ HTM.out).mono ?_
  rintro _ w1 ⟨rfl, htm1, hb1⟩
  dsimp only
  have HTM1 := hide htm1
  have HTM0 := hide (show TM w1 tb n (oneT name ds z) from owns_same HTM.out (hb1.block _ HTM.out.lt))
  have HB1 := hide hb1
  clear htm1 hb1 HCL
  go_wp2_with (at_range; refine wpList_range_own _ rfl _ 120 rfl 9 130 str_keyed Tryz.underlying120 heldR tb n (oneT name ds z) rfl HTM0.out ?_; intro w2 hrg2 hg2 hs2)
  go_frame
  have HRG := hide hrg2
  have hB2 : Below w.heap.size w w2 := (HBO.out.trans (HB1.out.mono HBO.out.size)).grown (hg2.but none) (by have := HBO.out.size; have := HB1.out.size; omega) (fun k e => by cases e)
  have HB2 := hide hB2
  have HT2 := hide (show TM w2 W.heap.size n (oneT name ds z) from owns_same HTM1.out (hg2.block _ HTM1.out.lt (by simp)))
  have HR2 := hide ((hg2.block _ (by have := lt_heap HROW.out; have := HB1.out.size; omega) (by simp)).trans ((HB1.out.block _ (lt_heap HROW.out)).trans HROW.out))
  have hlt1 := HTM1.out.lt
  have hlt0 := HTM0.out.lt
  have hltt := HTM.out.lt
  have hltw := HBO.out.size
  have hlt2 := lt_heap HROW.out
  clear hrg2 hg2 hB2
  go_loopw [] (fun wr => ∃ left cnt, wr.ranges Tryz.prog 9 heldR tb w1.heap.size n (oneT name ds z) left cnt ∧ Below w.heap.size w wr ∧ w1.heap.size + 1 ≤ wr.heap.size ∧ wr.heap[w.heap.size]? = some (.cells (cells8 ds) 72 (0, 0)) ∧ ((left (.string name.data.toList) = true ∧ (∀ kl, left kl = true → kl = .string name.data.toList) ∧ TM wr W.heap.size n (oneT name ds z)) ∨ ((∀ kl, left kl = false) ∧ TM wr W.heap.size (n + 1) (oneT name ds z')))) (fun wr => wr.rangeLeft tb w1.heap.size)
  case atStart => exact ⟨_, _, HRG.out, HB2.out, by omega, HR2.out, .inl ⟨has_one name ds z, fun kl h => has_one_inv h, HT2.out⟩⟩
  case round =>
    obtain ⟨left, cnt, hrg, hb, hsz, hdr, hcase⟩ := hrel
    have HB := hide hb
    have HRGR := hide hrg
    have HDR := hide hdr
    have HC := hide hcase
    clear hb hdr hcase
    go_wp2_with (at_next; refine wpList_next_ranges _ rfl _ rfl 9 str_keyed heldR Value.string (fun c : Value => c) (fun key kl hkey => str_inv Tryz.underlying9 hkey) (fun v y hv => ⟨v, rfl⟩) tb w1.heap.size _ _ _ _ rfl HRGR.out ?_ ?_)
    · intro _ hl0
      have hfin : TM wr W.heap.size (n + 1) (oneT name ds z') := by
        rcases HC.out with ⟨h, -⟩ | ⟨-, h⟩
        · rw [hl0] at h; cases h
        · exact h
      have HFIN := hide hfin
      clear hrg hl0 hfin
      go_wp2_with fail
      go_ret
      exact ⟨_, n + 1, rfl, by omega, Nat.le_refl _, HFIN.out, HB.out⟩
    · intro x c kl d ps w3 cnt1 hkey hlk hv hat hrg1 hltc hg1 hs1 hen
      obtain ⟨hkl, htmr⟩ : kl = .string name.data.toList ∧ TM wr W.heap.size n (oneT name ds z) := by
        rcases HC.out with ⟨-, h1, h2⟩ | ⟨h1, -⟩
        · exact ⟨h1 kl hlk, h2⟩
        · rw [h1] at hlk; cases hlk
      subst hkl
      have hxn : x = name := by
        have := str_key Tryz.underlying9 hkey
        unfold kOf at this
        injection this with this
        exact (ByteArray.ext (Array.ext' this)).symm
      subst hxn
      have hc : c = .agg (ecellsOf x ds z) := by
        have h1 := hat .nil
        have h2 : d = .held c := by
          unfold heldR at hv
          injection hv with hv
          injection hv with hv
          exact hv.symm
        simp only [h2] at h1
        rw [at_one] at h1
        injection h1 with h1
        exact h1.symm
      subst hc
      have hb3 : Below w.heap.size w w3 := HB.out.grown hg1 (by omega) (fun k hk => by injection hk with hk; omega)
      have hd3 : w3.heap[w.heap.size]? = some (.cells (cells8 ds) 72 (0, 0)) := (hg1.block _ (lt_heap HDR.out) (fun e => by injection e with e; omega)).trans HDR.out
      have ht3 : TM w3 W.heap.size n (oneT x ds z) := owns_same htmr (hg1.block _ htmr.lt (fun e => by injection e with e; omega))
      have hX1 : (w3.alloc (.cells (ecellsOf x ds z) 130)).heap[w3.heap.size]? = some (.cells (ecellsOf x ds z) 130 (0, 0)) := heap_alloc_new _ _
      have hent : Ent w3 (w3.alloc (.cells (ecellsOf x ds z) 130)) w3.heap.size x ds z := ⟨hX1, (Below.refl _ _).alloc (Nat.le_refl _) _⟩
      obtain ⟨n0, n1, n2⟩ := hent.out hds
      have n3 := frozen_of_row _ _ 33 _ _ hX1
      have hd4 : (w3.alloc (.cells (ecellsOf x ds z) 130)).heap[w.heap.size]? = some (.cells (cells8 ds) 72 (0, 0)) := (hent.below.block _ (lt_heap hd3)).trans hd3
      have hse := ecells_set x ds z z' hds
      have hBx : Below w3.heap.size w3 (w3.alloc (.cells (ecellsOf x ds z') 130)) := (Below.refl _ _).alloc (Nat.le_refl _) _
      have hX2 : (w3.alloc (.cells (ecellsOf x ds z') 130)).heap[w3.heap.size]? = some (.cells (ecellsOf x ds z') 130 (0, 0)) := heap_alloc_new _ _
      have ht5 : TM (w3.alloc (.cells (ecellsOf x ds z') 130)) W.heap.size n (oneT x ds z) := owns_same ht3 (hBx.block _ ht3.lt)
      have hrg5 := hrg1.alloc (.cells (ecellsOf x ds z') 130)
      have hb5 : Below w.heap.size w (w3.alloc (.cells (ecellsOf x ds z') 130)) := hb3.trans (hBx.mono hb3.size)
      have hd5 : (w3.alloc (.cells (ecellsOf x ds z') 130)).heap[w.heap.size]? = some (.cells (cells8 ds) 72 (0, 0)) := (hBx.block _ (lt_heap hd3)).trans hd3
      clear hBx
      have HX1 := hide hX1
      have HX2 := hide hX2
      have HD4 := hide hd4
      have HT5 := hide ht5
      have HRG5 := hide hrg5
      have HB5 := hide hb5
      have HD5 := hide hd5
      have HN1 := hide n1
      have HLT := hide hltc
      have hsz3 : w1.heap.size + 1 ≤ w3.heap.size := by omega
      clear hs1 hrg hrg1 hkey hlk hv hat hltc hg1 htmr hb3 hd3 ht3 hX1 hent n1 hd4 hX2 ht5 hrg5 hb5 hd5
      go_wp2_with (first | (refine wpList_store_row rfl 130 _ _ rfl w3.heap.size _ rfl rfl 130 _ (heap_alloc_new _ _) (size71 _ _ _ hds) (by rw [ecellsOf_size _ _ _ hds, ecellsOf_size _ _ _ (Sha.zeros_len _)]) (Array.all_eq_true_iff_forall_mem.2 fun u hu => ecellsOf_one _ _ _ u (by simpa using hu)) ?_; rw [World.setRow_alloc_new]) | (refine wpList_load_mid rfl 72 _ rfl w3.heap.size 1 rfl (cells8 ds).toList _ HN1.out Tryz.underlying72 rfl (by rw [Array.length_toList]; exact size40 _ hds) ?_) | (refine wpList_load_row rfl 72 _ rfl w.heap.size rfl 72 _ _ _ HD4.out Tryz.underlying72 rfl (size40 _ hds) ?_) | (refine wpList_eqDig rfl _ _ _ rfl ds ds hds hds hlt hlt rfl rfl ?_) | (refine wpList_load_row rfl 130 _ rfl w3.heap.size rfl 130 _ _ _ HX2.out Tryz.underlying130 rfl (size71 _ _ _ hds) ?_) | (refine wpList_mapUpdate_own _ rfl _ _ _ 120 rfl 9 130 str_keyed Tryz.underlying120 heldR W.heap.size n (oneT x ds z) rfl HT5.out (by unfold maxLen; omega) _ _ (.string x.data.toList) rfl rfl (key_str x (by omega)) _ [] rfl ?_; intro w6 hm6 hg6))
      go_roundw
      case rel =>
        have hz5 := HB5.out.size
        refine ⟨_, ⟨cnt1, HRG5.out.kept hg6 (fun e => by injection e with e; omega) (fun e => by injection e with e; omega)⟩, HB5.out.grown hg6 (by omega) (fun k hk => by injection hk with hk; omega), by have := hg6.size; simp only [size_alloc] at this; omega, (hg6.block _ (lt_heap HD5.out) (fun e => by injection e with e; omega)).trans HD5.out, .inr ⟨fun kl => ?_, ?_⟩⟩
        · rcases HC.out with ⟨-, h1, -⟩ | ⟨h1, -⟩
          · by_cases hk : left kl = true
            · rw [h1 kl hk]
              simp [Lit.sameKey]
            · simp [hk]
          · simp [h1 kl]
        · have h7 : TM w6 W.heap.size (n + 1) ((oneT x ds z).put (.string x.data.toList) (.held (.agg (ecellsOf x ds z')))) := hm6
          rw [put_one] at h7
          exact h7
      case measure =>
        rw [(HRG5.out.kept hg6 (fun e => by injection e with e; omega) (fun e => by injection e with e; omega)).left_eq, HRGR.out.left_eq]
        exact HLT.out
end Go.Proofs.YteicpbcddjjceaaGreatDoor

/-
  PROVED HERE: maps.Values of a map of tags: it gives each tag once, for every loop body.
-/
namespace Go.Proofs.YteicpbcddjjceaaGreatDoor
open Go.RowKit Go.Shelf Go.Maps Go.Sort
attribute [local go_sem] Oper.semAt_some
theorem wpListIn_load_row {F : Fence} {n : Nat} {P : Program} {ops : Array Oper} {rest : List Oper} {o : Oper} {a : Act} {w : World} {Q : Exit → Act → World → Prop} (hgd : o.guard = none) (ty : TypeId) (x : Operand) (ho : o.op = .load ty x)
    (g : Nat) (hx : a.eval x = .pointer (some ⟨g, 0, none⟩)) (t : TypeId) (cs : Array Value) (fr : Nat × Nat) (d : TypeDesc) (hg : w.heap[g]? = some (.cells cs t fr))
    (hu : P.underlying ty = some d) (hd : (match d with | .struct _ | .array _ _ => true | _ => false) = true) (hi : (P.info? ty).map (·.size) = some cs.size)
    (h : wpListIn F n P ops Q rest (a.put o.dst (.agg cs)) w) : wpListIn F n P ops Q (o :: rest) a w := by
  refine wpListIn_plain hgd fun K hK' => ?_
  unfold Oper.wpIn
  refine ⟨?_, ?_⟩
  · simp [Oper.about, ho]
  · rw [Oper.semAt_plain F _ _ (by rw [ho]; intro c hc'; cases hc')]
    unfold execOp
    simp only [ho, hx, Instr.loadAt, Instr.sureAddr, Sem.run_bind, Sem.run_pure, Result.andThen_ok, run_loadVar_row w g t ty cs fr d hg hu hd hi]
    exact hK' _ _ h
theorem wpListIn_store_row {F : Fence} {n : Nat} {P : Program} {ops : Array Oper} {rest : List Oper} {o : Oper} {a : Act} {w : World} {Q : Exit → Act → World → Prop} (hgd : o.guard = none) (ty : TypeId) (x y : Operand) (ho : o.op = .store ty x y)
    (g : Nat) (cells : Array Value) (hx : a.eval x = .pointer (some ⟨g, 0, none⟩)) (hy : a.eval y = .agg cells)
    (t : TypeId) (old : Array Value) (hg : w.heap[g]? = some (.cells old t (0, 0))) (hi : (P.info? ty).map (·.size) = some cells.size)
    (hold : old.size = cells.size) (h1 : cells.all (·.oneCell') = true)
    (h : wpListIn F n P ops Q rest (a.put o.dst undef) (w.setRow g cells)) : wpListIn F n P ops Q (o :: rest) a w := by
  refine wpListIn_plain hgd fun K hK' => ?_
  unfold Oper.wpIn
  refine ⟨?_, ?_⟩
  · simp [Oper.about, ho]
  · rw [Oper.semAt_plain F _ _ (by rw [ho]; intro c hc'; cases hc')]
    unfold execOp
    simp only [ho, hx, hy, Instr.storeAt, Instr.sureAddr, Sem.run_bind, Sem.run_pure, Result.andThen_ok, run_storeVar_row w g t ty old cells hg hi hold h1]
    exact hK' _ _ h
/-- An entry of the index, as a value. -/
abbrev EV := { v : Value // ∃ n ds z, ds.length = 32 ∧ v = .agg (ecellsOf n ds z) }
/-- Every tag's value is an entry. -/
def AllE (D : DataW Value) : Prop := ∀ kl v, D.atKey kl .nil = .held v → ∃ n ds z, ds.length = 32 ∧ v = .agg (ecellsOf n ds z)
def ValE (D : DataW Value) (p : List UInt8 × EV) : Prop := ∀ zd, D.atKey (.string p.1) zd = .held p.2.1
set_option maxRecDepth 100000 in
set_option maxHeartbeats 2000000 in
theorem vals1_in (F : Fence) (n : Nat) (hf : F.fn 151) (hro : F.round = none) (hn : 1 ≤ n) (l Bm b nn : Nat) (D0 : DataW Value) (hE : AllE D0) (J Jx : List EV → World → Prop)
    (hY : ∀ pre x W, J pre W → pre.length < Maps.size D0 → YieldAt F (n - 1) Tryz.prog l #[x.1] W fun e W' =>
      (e = .returned (.bool true) ∧ J (pre ++ [x]) W' ∧ KeepsWalks W W') ∨ (e = .returned (.bool false) ∧ Jx (pre ++ [x]) W'))
    (W : World) (hJ : AbidesFrom W.heap.size J) (hm : W.cell? ⟨Bm, 0, none⟩ = some (.map (some b))) (hown : TM W b nn D0) (h0 : J [] W) :
    CallsIn F n Tryz.prog 151 #[.func (.yield l) #[] #[], .pointer (some ⟨Bm, 0, none⟩)] W fun e W' => (∃ v, e = .returned v) ∧
      ((∃ xs, (∃ ps : List (List UInt8 × EV), (ps.map (·.1)).Perm (strKeys D0) ∧ (∀ p ∈ ps, ValE D0 p) ∧ xs = ps.map (·.2)) ∧ J xs W') ∨ (∃ pre, True ∧ Jx pre W')) := by
  have hz71 := (zero_of_info Tryz.info71b).1
  refine callsIn_of_wp Tryz.func151 rfl hf ?_ hro
  simp only [Tryz.ntmps151, List.size_toArray, List.length_cons, List.length_nil, Nat.reduceAdd, Nat.reduceSub, Array.replicate_succ, Array.replicate_zero, List.push_toArray, List.append_toArray, List.nil_append, List.cons_append]
  gi_wp2_with (first
    | (gi_at_range; refine wpListIn_range_own _ rfl _ 120 rfl 9 130 str_keyed Tryz.underlying120 _ b nn _ rfl hown ?_; intro w0 hrg0 hg0 hs0)
    | gi_in)
  go_frame
  gi_loopw [7] (fun _ wr => ∃ (left : Lit → Bool) (cnt : Nat) (ps : List (List UInt8 × EV)), wr.ranges Tryz.prog 9 heldR b W.heap.size nn D0 left cnt ∧ ps.length + cnt ≤ Maps.size D0 ∧ Collected D0 left (ps.map (·.1)) ∧ (∀ p ∈ ps, ValE D0 p) ∧ J (ps.map (·.2)) wr)
    (fun _ wr => wr.rangeLeft b W.heap.size)
  case atStart =>
    exact ⟨_, _, [], hrg0, by simp, Collected.start D0, by simp, hJ [] W w0 none h0 hg0 (fun r e => by cases e)⟩
  case round =>
    obtain ⟨left, cnt, ps, hrg, hcs, hC, hV, hJs⟩ := hrel
    gi_wp2_with (first
      | (gi_at_next; refine wpListIn_next_ranges _ rfl _ rfl 9 str_keyed heldR encStr (fun c : Value => c) (fun key kl hk => by obtain ⟨x, hx, _⟩ := Maps.keyOf_str Tryz.underlying9 hk; exact ⟨x, hx⟩) (fun v y hv => ⟨v, rfl⟩) b W.heap.size nn _ _ _ rfl hrg ?_ ?_)
      | gi_in)
    · intro hc0 hl0
      gi_wp2
      go_end0
      exact ⟨⟨_, rfl⟩, .inl ⟨_, ⟨ps, hC.perm hown str_keyed Tryz.underlying9 hl0, hV, rfl⟩, hJs⟩⟩
    · intro x c kl yd yp w2 cnt2 hkey hlk hv hat hrg2 hlt hg2 hs2 hen
      obtain ⟨x', ex, rfl, _⟩ := Maps.keyOf_str Tryz.underlying9 hkey
      obtain rfl : x = x' := encStr_inj ex
      have hyd : yd = .held c := by
        unfold heldR at hv
        injection hv with hv
        injection hv with hv
        exact hv.symm
      subst hyd
      obtain ⟨en, ds, z, hds, rfl⟩ := hE _ c (hat .nil)
      have hJ2 : J (ps.map (·.2)) w2 := hJ _ wr w2 (some W.heap.size) hJs hg2 (fun r e => by cases e; exact ⟨Nat.le_refl _, hrg.iter_walk⟩)
      obtain ⟨X, hX⟩ : ∃ X, X = w2.alloc (.cells (ecellsOf en ds z) 130) := ⟨_, rfl⟩
      have hJ3 : J (ps.map (·.2)) X := by rw [hX]; exact hJ _ w2 _ none hJ2 (World.grownBy_alloc _ _ _) (fun r e => by cases e)
      have hXr : X.heap[w2.heap.size]? = some (.cells (ecellsOf en ds z) 130 (0, 0)) := by rw [hX]; exact heap_alloc_new _ _
      have hrgX := hrg2.alloc (.cells (ecellsOf en ds z) 130)
      rw [← hX] at hrgX
      obtain ⟨fn, tmps, assign, body, hy, hR⟩ := hY (ps.map (·.2)) ⟨.agg (ecellsOf en ds z), en, ds, z, hds, rfl⟩ X hJ3 (by simp; omega)
      have HX := hide hX
      have HXR := hide hXr
      have HRGX := hide hrgX
      clear hs2 hX hXr hrgX hJ2 hJ3
      dsimp only at hy
      gi_wp2_with (first
        | (refine wpListIn_store_row rfl 130 _ _ rfl w2.heap.size _ rfl rfl 130 _ (heap_alloc_new _ _) (size71 _ _ _ hds) (by rw [ecellsOf_size _ _ _ hds, ecellsOf_size _ _ _ (Sha.zeros_len _)]) (Array.all_eq_true_iff_forall_mem.2 fun u hu => ecellsOf_one _ _ _ u (by simpa using hu)) ?_; rw [World.setRow_alloc_new, ← HX.out])
        | (refine wpListIn_load_row rfl 130 _ rfl w2.heap.size rfl 130 _ _ _ HXR.out Tryz.underlying130 rfl (size71 _ _ _ hds) ?_)
        | gi_in)
      refine hR.mono ?_
      have hC2 : Collected D0 (fun z => left z && !z.sameKey (.string x)) ((ps ++ [(x, (⟨.agg (ecellsOf en ds z), en, ds, z, hds, rfl⟩ : EV))]).map (·.1)) := by simpa using hC.step hlk hat
      have hV2 : ∀ p ∈ ps ++ [(x, (⟨.agg (ecellsOf en ds z), en, ds, z, hds, rfl⟩ : EV))], ValE D0 p := fun p hp => (List.mem_append.1 hp).elim (hV p) (fun e => by simp at e; subst e; exact hat)
      rintro e W3 (⟨rfl, hJ3, hk3⟩ | ⟨rfl, hJx3⟩)
      · gi_wp2
        have hrg3 := HRGX.out.of_walks hk3
        go_roundw
        case rel => exact ⟨_, cnt2, ps ++ [(x, _)], hrg3, by simp; omega, hC2, hV2, by simpa using hJ3⟩
        case measure => rw [hrg3.left_eq, hrg.left_eq]; exact hlt
      · gi_wp2
        refine bodyPost_ret (results_none rfl _ _ _) rfl ?_
        exact ⟨⟨_, rfl⟩, .inr ⟨_, trivial, hJx3⟩⟩
theorem vals_in (F : Fence) (n : Nat) (hf : F.fn 97) (hro : F.round = none) (mb : Option Nat) (w : World) :
    CallsIn F n Tryz.prog 97 #[.map mb] w fun e w' => e = .returned (.func (.func 151) #[] #[.pointer (some ⟨w.heap.size, 0, none⟩)]) ∧ w' = w.alloc (.cells #[.map mb] 120) := by
  refine callsIn_of_wp Tryz.func97 rfl hf ?_ hro
  simp only [Tryz.ntmps97, List.size_toArray, List.length_cons, List.length_nil, Nat.reduceAdd, Nat.reduceSub, Array.replicate_succ, Array.replicate_zero, List.push_toArray, List.append_toArray, List.nil_append, List.cons_append]
  gi_wp2
  go_ret
  exact ⟨rfl, rfl⟩
/-- All that a map of tags gives. -/
def AllV (D0 : DataW Value) (xs : List EV) : Prop := ∃ ps : List (List UInt8 × EV), (ps.map (·.1)).Perm (strKeys D0) ∧ (∀ p ∈ ps, ValE D0 p) ∧ xs = ps.map (·.2)
theorem vals_stops (F : Fence) (n : Nat) (hf : F.fn 151) (hro : F.round = none) (hn : 1 ≤ n) (Bm b nn : Nat) (D0 : DataW Value) (hE : AllE D0) (w : World) (hm : w.cell? ⟨Bm, 0, none⟩ = some (.map (some b))) (hown : TM w b nn D0) :
    SeqStopsK F n Tryz.prog 151 #[.pointer (some ⟨Bm, 0, none⟩)] (fun x : EV => #[x.1]) KeepsWalks (AllV D0) (fun _ => True) (Maps.size D0) w := fun l J Jx W hW hJ _ hY h0 =>
  vals1_in F n hf hro hn l Bm b nn D0 hE J Jx hY W hJ (cell_later hW hm) (owns_same hown (hW.block b hown.lt)) h0
end Go.Proofs.YteicpbcddjjceaaGreatDoor

/-
  PROVED HERE: slices.AppendSeq and Collect of an iterator of tags: a row with what it gives.
-/
namespace Go.Proofs.YteicpbcddjjceaaGreatDoor
open Go.RowKit Go.Shelf Go.Maps Go.Sort
attribute [local go_sem] Oper.semAt_some
def EV.cs (x : EV) : List Value := x.1.cells.toList
/-- Between two rounds of AppendSeq. -/
def AI (w : World) (pre : List EV) (W : World) : Prop := ∃ sv, W.heap[w.heap.size]? = some (.cells #[sv] 78 (0, 0)) ∧ W.ownsRow w.heap.size 130 34 sv pre.length (pre.flatMap EV.cs) ∧ Below w.heap.size w W
theorem wpListIn_slice47 {F : Fence} {m : Nat} {ops : Array Oper} {rest : List Oper} {op : Oper} {a : Act} {w : World} {Q : Exit → Act → World → Prop} (hgd : op.guard = none) (x : Operand) (ho : op.op = .buildSlice 78 1 #[(0, x)])
    (n : ByteArray) (ds : List Nat) (k : Int) (hl : ds.length = 32) (hx : a.eval x = .agg (ecellsOf n ds k))
    (h : wpListIn F m Tryz.prog ops Q rest (a.put op.dst (.slice (some ⟨w.heap.size, 0, none⟩) 1 1)) (w.alloc (.cells (ecellsOf n ds k) 130))) : wpListIn F m Tryz.prog ops Q (op :: rest) a w := by
  refine wpListIn_plain hgd fun K hK' => ?_
  have hr := slice47 n ds k hl w
  unfold Oper.wpIn
  refine ⟨?_, ?_⟩
  · simp [Oper.about, ho]
  · rw [Oper.semAt_plain F _ _ (by rw [ho]; intro c hc'; cases hc')]
    unfold execOp
    simp only [ho, hx, List.map_toArray, List.map_cons, List.map_nil, Sem.run_bind, Sem.run_pure, hr, Result.andThen_ok]
    exact hK' _ _ h
theorem new_cells (W : World) (cs : Array Value) (T : TypeId) : ∀ j u, cs.toList[j]? = some u → (W.alloc (.cells cs T)).cell? ((⟨W.heap.size, 0, none⟩ : Addr).add j) = some u := by
  intro j u hu
  have hadd : (⟨W.heap.size, 0, none⟩ : Addr).add j = ⟨W.heap.size, j, none⟩ := by unfold Addr.add; split <;> simp_all
  rw [hadd, cell_of_row _ _ j _ _ _ (heap_alloc_new _ _)]
  simpa using hu
theorem own_ge {w : World} {B : Nat} {e : TypeId} {size n : Nat} {v : Value} {l : List Value} (h : w.ownsRow B e size v n l) : ∀ k, v.ownBlock = some k → B ≤ k := by
  intro k hk
  obtain ⟨_, h2⟩ := h
  rcases h2 with ⟨rfl, _⟩ | ⟨g', cap', cur, rfl, hB, _⟩
  · cases hk
  · have : some g' = some k := hk
    injection this with this
    omega
theorem ai_own (w : World) (B : Nat) (hB : w.heap.size ≤ B) : OwnFrom B (AI w) := by
  rintro pre X Y row ⟨sv, h1, h2, h3⟩ hgr hr
  have key : ∀ (k : Nat) (cur : Array Value) (T : TypeId), X.heap[k]? = some (.cells cur T (0, 0)) → Y.heap[k]? = X.heap[k]? := fun k cur T hc => hgr.block k (lt_heap hc) (fun e => by
    obtain ⟨o, x2, x3⟩ := (hr k e.symm).2
    rw [hc] at x2
    cases x2
    cases x3)
  refine ⟨sv, (key _ _ _ h1).trans h1, own_same h2 (fun k hk _ => ?_), h3.grown hgr h3.size (fun k e => by have := (hr k e).1; omega)⟩
  obtain ⟨c, hc⟩ := own_obj h2 k hk
  exact key _ _ _ hc
/-- A round's own variable. -/
def AX (w : World) (g : Nat) (lb : Array Value) (x : EV) (a : Act) (W : World) : Prop := ∃ vb, w.heap.size < vb ∧ a = { tmps := #[.slice none 0 0, .func (.func g) #[] lb, .pointer (some ⟨w.heap.size, 0, none⟩), undef, .slice none 0 0, .pointer (some ⟨vb, 0, none⟩), .func (.func g) #[] lb, x.1, undef, undef, undef, undef, undef], defers := [] } ∧ W.heap[vb]? = some (.cells x.1.cells 130 (0, 0))
theorem ax_own (w : World) (g : Nat) (lb : Array Value) (B : Nat) (x : EV) (a : Act) : OwnFrom B (fun (_ : Unit) W => AX w g lb x a W) := by
  rintro _ X Y row ⟨vb, h0, h1, h2⟩ hgr hr
  exact ⟨vb, h0, h1, (hgr.block vb (lt_heap h2) (fun e => by
    obtain ⟨o, x2, x3⟩ := (hr vb e.symm).2
    rw [h2] at x2
    cases x2
    cases x3)).trans h2⟩
set_option maxRecDepth 100000 in
set_option maxHeartbeats 4000000 in
theorem appendSeq_in (n : Nat) (hn : 5 ≤ n) (g : Nat) (lb : Array Value) (eg : ∀ args w, (callFunc g args).run Tryz.prog w = .ok (.enter g args) w) (S : List EV → Prop) (N : Nat) (hN : N ≤ 1000) (w : World)
    (hseq : SeqStopsK Fence.wide (n - 1) Tryz.prog g lb (fun x : EV => #[x.1]) KeepsWalks S (fun _ => True) N w) :
    CallsIn Fence.wide n Tryz.prog 195 #[.slice none 0 0, .func (.func g) #[] lb] w fun e w' => ∃ v xs, e = .returned v ∧ S xs ∧ w'.ownsRow w.heap.size 130 34 v xs.length (xs.flatMap EV.cs) ∧ Below w.heap.size w w' := by
  have hz71 := (zero_of_info Tryz.info71b).1
  obtain ⟨i0, hi, hz0, hz1, hz2⟩ := info_parts Tryz.info130
  refine callsIn_of_wp_marks Tryz.func195 rfl trivial ?_ rfl
  simp only [Tryz.ntmps195, List.size_toArray, List.length_cons, List.length_nil, Nat.reduceAdd, Nat.reduceSub, Array.replicate_succ, Array.replicate_zero, List.push_toArray, List.append_toArray, List.nil_append, List.cons_append]
  gi_wp2_with fail
  obtain ⟨w1, hw1⟩ : ∃ w1, w1 = w.alloc (.cells #[.slice none 0 0] 78) := ⟨_, rfl⟩
  have hb1 : Below w.heap.size w w1 := by rw [hw1]; exact (Below.refl _ _).alloc (Nat.le_refl _) _
  have hx1 : w1.heap[w.heap.size]? = some (.cells #[.slice none 0 0] 78 (0, 0)) := by rw [hw1]; exact heap_alloc_new _ _
  have hs1 : w1.heap.size = w.heap.size + 1 := by rw [hw1, size_alloc]
  rw [← hw1]
  refine wpIn_rangeFunc_ownH (F := Fence.wide) (n := n) rfl (by omega) (gf := g) (lb := lb) rfl trivial eg hseq KeepsWalks.trans (walksK_b (w := w1)) hb1 (fun _ => rfl)
    (AI w) (fun _ _ _ => False) (ai_own w _ (by omega)) (fun _ _ _ _ _ h _ _ => h.elim)
    ⟨_, hx1, World.ownsRow_nil _ _ _ _, hb1⟩ (AX w g lb) (ax_own w g lb _) ?assign ?body ?done ?stop
  case assign =>
    rintro l pre ⟨_, en, ds, z, hds, rfl⟩ W K hI hK
    have hgr := World.grownBy_alloc W (.cells (ecellsOf en ds z) 130) none
    have hIX := ai_own w W.heap.size (by obtain ⟨sv, i1, i2, i3⟩ := hI; exact i3.size) pre W _ none hI hgr (fun r e => by cases e)
    have hvb : w.heap.size < W.heap.size := by
      obtain ⟨sv, i1, i2, i3⟩ := hI
      exact lt_heap i1
    have HK := hide (hK _ (W.alloc (.cells (ecellsOf en ds z) 130)) ⟨by simp, fun k o _ hk _ => (Below.heap_alloc _ _ _ (lt_heap hk)).trans hk⟩ ⟨by simp, fun k o hk _ => (Below.heap_alloc _ _ _ (lt_heap hk)).trans hk⟩ hIX ⟨W.heap.size, hvb, rfl, heap_alloc_new _ _⟩)
    clear hI hIX hK hgr
    gi_wp2_with (first
      | (refine wpListIn_store_row rfl 130 _ _ rfl W.heap.size _ rfl rfl 130 _ (heap_alloc_new _ _) (size71 _ _ _ hds) (by rw [ecellsOf_size _ _ _ hds, ecellsOf_size _ _ _ (Sha.zeros_len _)]) (Array.all_eq_true_iff_forall_mem.2 fun u hu => ecellsOf_one _ _ _ u (by simpa using hu)) ?_; rw [World.setRow_alloc_new])
      | gi_in)
    exact HK.out
  case body =>
    rintro l pre ⟨_, en, ds, z, hds, rfl⟩ a' W hl ⟨r, hr⟩ ⟨sv, i1, i2, i3⟩ ⟨vb, hvb, rfl, hv⟩ hlen
    obtain ⟨so, sc, rfl⟩ := own_sl i2
    have ce := cell_of_row _ _ 0 _ _ _ i1
    have HI2 := hide i2
    have HI1 := hide i1
    have HI3 := hide i3
    have HV := hide hv
    have hwW : w.heap.size < W.heap.size := lt_heap i1
    have HBOX : Hid (∀ w2 : World, (W.alloc (.cells (ecellsOf en ds z) 130)).grownBy w2 (Value.slice so pre.length sc).ownBlock → w2.heap[w.heap.size]? = some (.cells #[.slice so pre.length sc] 78 (0, 0))) := hide (fun w2 hg2 => by
      refine (hg2.block _ (by rw [size_alloc]; omega) (fun e => ?_)).trans ((Below.heap_alloc _ _ _ hwW).trans i1)
      obtain ⟨c, hc⟩ := own_obj i2 _ e.symm
      rw [i1] at hc
      injection hc with hc
      injection hc with _ hc
      exact absurd hc (by decide))
    have HEC := hide (new_cells W (ecellsOf en ds z) 130)
    clear i1 i2 i3 hv
    dsimp only
    gi_wp2_with (first
      | (refine wpListIn_load_row rfl 130 _ rfl vb rfl 130 _ _ _ HV.out Tryz.underlying130 rfl (size71 _ _ _ hds) ?_)
      | (refine wpListIn_slice47 rfl _ rfl en ds z hds rfl ?_)
      | (refine wpListIn_append_own _ rfl _ _ 78 rfl w.heap.size 130 i0 _ 34 56 Tryz.underlying78 hi hz0 hz1 hz2 (ecellsOf_size _ _ _ (Sha.zeros_len _)) (by decide) _ pre.length _ rfl (ownsRow_later HI2.out ((Below.refl _ _).alloc (Nat.le_refl _) _)) _ 1 1 (ecellsOf en ds z).toList rfl (by rw [Array.length_toList, ecellsOf_size _ _ _ hds]) HEC.out (ecellsOf_one _ _ _) (by unfold maxLen; omega) (by omega) (by simp; omega) ?_; rintro v2 w2 hv2 hg2 -; obtain ⟨so2, sc2, rfl⟩ := own_sl hv2; have hbx := HBOX.out w2 hg2; have cb := cell_of_row _ _ 0 _ _ _ hbx; have fb := frozen_of_row _ _ 0 _ _ hbx; have HV2 := hide hv2; have HG2 := hide hg2; have HBX := hide hbx; clear hv2 hg2 hbx)
      | gi_in)
    have hoth : ∀ (k : Nat) (o : Obj), W.heap[k]? = some o → o.isCells = false → (w2.setCell ⟨w.heap.size, 0, none⟩ (.slice so2 (pre.length + 1) sc2)).heap[k]? = some o := by
      intro k o hk ho
      rw [heap_setCell_other _ _ _ _ (fun e => ?_)]
      · refine (HG2.out.block k (by rw [size_alloc]; have := lt_heap hk; omega) (fun e => ?_)).trans ((Below.heap_alloc _ _ _ (lt_heap hk)).trans hk)
        obtain ⟨c, hc⟩ := own_obj HI2.out _ e.symm
        rw [hc] at hk
        cases hk
        cases ho
      · have e : k = w.heap.size := e
        subst e
        rw [HI1.out] at hk
        cases hk
        cases ho
    have hsz : W.heap.size ≤ (w2.setCell ⟨w.heap.size, 0, none⟩ (.slice so2 (pre.length + 1) sc2)).heap.size := by
      have := HG2.out.size
      simp only [size_alloc] at this
      simp
      omega
    refine ⟨⟨hsz, fun k o _ hk ho => hoth k o hk ho⟩, ⟨hsz, fun k o hk ho => hoth k o hk (Obj.not_cells_of_walk ho)⟩, .slice so2 (pre.length + 1) sc2, ?_, ?_, ?_⟩
    · rw [heap_setCell_same _ w.heap.size 0 _ _ _ HBX.out]
      rfl
    · have hrow := own_same (w' := w2.setCell ⟨w.heap.size, 0, none⟩ (.slice so2 (pre.length + 1) sc2)) HV2.out (fun k hk _ => heap_setCell_other _ _ _ _ (fun e => by
        have e : k = w.heap.size := e
        subst e
        obtain ⟨c, hc⟩ := own_obj HV2.out _ hk
        rw [HBX.out] at hc
        injection hc with hc
        injection hc with _ hc
        exact absurd hc (by decide)))
      rw [List.flatMap_append, List.length_append]
      simp only [List.flatMap_cons, List.flatMap_nil, List.append_nil]
      exact hrow
    · have h1 : Below w.heap.size w w2 := (HI3.out.alloc HI3.out.size _).grown HG2.out (by rw [size_alloc]; omega) (fun k e => own_ge HI2.out k e)
      exact ⟨h1.os, h1.tape, h1.output, by simpa using h1.size, fun k hk => (heap_setCell_other _ _ _ _ (fun e => by have e : k = w.heap.size := e; omega)).trans (h1.block k hk)⟩
  case done =>
    rintro D xs W hD hS ⟨sv, i1, i2, i3⟩ hK
    obtain ⟨so, sc, rfl⟩ := own_sl i2
    have ce := cell_of_row _ _ 0 _ _ _ i1
    have HI2 := hide i2
    have HI3 := hide i3
    have HI1 := hide i1
    clear i1 i2 i3
    gi_wp2
    refine ⟨by simp, .inl ⟨_, _, rfl, run_takeDeferred hK, ?_⟩⟩
    refine ⟨_, results_tmp rfl _ _ _, _, xs, rfl, hS, own_same HI2.out (fun k hk _ => World.putObj_heap_other (fun e => ?_)), HI3.out.grown (grown_put _ _ _) HI3.out.size (fun k e => by injection e with e; omega)⟩
    subst e
    obtain ⟨c, hc⟩ := own_obj HI2.out k hk
    rw [hc] at hK
    cases hK
  case stop =>
    rintro D c pre W hD _ h
    exact h.elim
set_option maxRecDepth 100000 in
set_option maxHeartbeats 1000000 in
theorem collect_in (n : Nat) (hn : 6 ≤ n) (g : Nat) (lb : Array Value) (eg : ∀ args w, (callFunc g args).run Tryz.prog w = .ok (.enter g args) w) (S : List EV → Prop) (N : Nat) (hN : N ≤ 1000) (w : World)
    (hseq : SeqStopsK Fence.wide (n - 1 - 1) Tryz.prog g lb (fun x : EV => #[x.1]) KeepsWalks S (fun _ => True) N w) :
    CallsIn Fence.wide n Tryz.prog 149 #[.func (.func g) #[] lb] w fun e w' => ∃ v xs, e = .returned v ∧ S xs ∧ w'.ownsRow w.heap.size 130 34 v xs.length (xs.flatMap EV.cs) ∧ Below w.heap.size w w' := by
  have f1 : Fence.wide.fn 195 := trivial
  have HA := hide (appendSeq_in (n - 1) (by omega) g lb eg S N hN w hseq)
  refine callsIn_of_wp Tryz.func149 rfl trivial ?_ rfl
  simp only [Tryz.ntmps149, List.size_toArray, List.length_cons, List.length_nil, Nat.reduceAdd, Nat.reduceSub, Array.replicate_succ, Array.replicate_zero, List.push_toArray, List.append_toArray, List.nil_append, List.cons_append]
  gi_wp2_with fail
  refine ⟨fun _ => by omega, ?_⟩
  refine (HA.out).mono ?_
  rintro _ w1 ⟨v, xs, rfl, h1, h2, h3⟩
  dsimp only
  have H2 := hide h2
  clear h2
  gi_wp2_with fail
  go_ret
  exact ⟨_, xs, rfl, h1, H2.out, h3⟩
end Go.Proofs.YteicpbcddjjceaaGreatDoor

/-
  PROVED HERE: slices.SortFunc of no more than one tag, or digest: it leaves the row.
-/
namespace Go.Proofs.YteicpbcddjjceaaGreatDoor
open Go.RowKit
set_option maxRecDepth 100000 in
set_option maxHeartbeats 1000000 in
theorem bitsLen64_one (n : Nat) (hn : n ≤ 1) (w : World) : Calls Tryz.prog 194 #[.int .u64 ((n : Nat) : Int)] w fun e w' => ∃ k, e = .returned (.int .i64 k) ∧ w' = w := by
  have h2 : n = 0 ∨ n = 1 := by omega
  rcases h2 with rfl | rfl
  · go_enter Tryz.func194, Tryz.ntmps194
    go_wp2_with fail
    go_ret
    exact ⟨_, rfl, rfl⟩
  · go_enter Tryz.func194, Tryz.ntmps194
    go_wp2_with fail
    go_ret
    exact ⟨_, rfl, rfl⟩
set_option maxRecDepth 100000 in
set_option maxHeartbeats 1000000 in
theorem bitsLen_one (n : Nat) (hn : n ≤ 1) (w : World) : Calls Tryz.prog 146 #[.int .u64 ((n : Nat) : Int)] w fun e w' => ∃ k, e = .returned (.int .i64 k) ∧ w' = w := by
  have HL := hide (bitsLen64_one n hn w)
  have hw : IntKind.wrap .u64 ((n : Nat) : Int) = ((n : Nat) : Int) := by
    have h2 : n = 0 ∨ n = 1 := by omega
    rcases h2 with rfl | rfl <;> decide
  go_enter Tryz.func146, Tryz.ntmps146
  go_wp2_with fail
  refine (HL.out).mono ?_
  rintro _ w1 ⟨k, rfl, rfl⟩
  dsimp only
  go_wp2_with fail
  go_ret
  exact ⟨_, rfl, rfl⟩
set_option maxRecDepth 100000 in
set_option maxHeartbeats 1000000 in
theorem insE_one (o : Option Addr) (n c : Nat) (hn : n ≤ 1) (f : Value) (w : World) : Calls Tryz.prog 223 #[.slice o n c, .int .i64 0, .int .i64 ((n : Nat) : Int), f] w fun e w' => e = .returned (.tuple #[]) ∧ w' = w := by
  have d1 : decide ((1 : Int) < ((n : Nat) : Int)) = false := decide_eq_false (by omega)
  go_enter Tryz.func223, Tryz.ntmps223
  go_wp2_with fail
  go_loopw [8] (fun iv wr => iv = .int .i64 1 ∧ wr = w) (fun _ _ => 0)
  case atStart => exact ⟨rfl, rfl⟩
  case round =>
    obtain ⟨rfl, rfl⟩ := hrel
    go_wp2_with fail
    go_end0
    exact ⟨rfl, rfl⟩
set_option maxRecDepth 100000 in
set_option maxHeartbeats 1000000 in
theorem pdqE_one (o : Option Addr) (n c : Nat) (hn : n ≤ 1) (k : Int) (f : Value) (w : World) : Calls Tryz.prog 196 #[.slice o n c, .int .i64 0, .int .i64 ((n : Nat) : Int), .int .i64 k, f] w fun e w' => e = .returned (.tuple #[]) ∧ w' = w := by
  have HI := hide (insE_one o n c hn f w)
  have d1 : decide (((n : Nat) : Int) ≤ 12) = true := decide_eq_true (by omega)
  go_enter Tryz.func196, Tryz.ntmps196
  go_wp2_with fail
  go_loopw [1, 2] (fun av bv wr => av = .int .i64 0 ∧ bv = .int .i64 ((n : Nat) : Int) ∧ wr = w) (fun _ _ _ => 0)
  case atStart => exact ⟨rfl, rfl, rfl⟩
  case round =>
    obtain ⟨rfl, rfl, rfl⟩ := hrel
    go_wp2_with fail
    refine (HI.out).mono ?_
    rintro _ w1 ⟨rfl, rfl⟩
    dsimp only
    go_wp2_with fail
    refine bodyPost_ret (results_none rfl _ _ _) rfl ?_
    exact ⟨rfl, rfl⟩
set_option maxRecDepth 100000 in
set_option maxHeartbeats 1000000 in
theorem sortE_one (o : Option Addr) (n c : Nat) (hn : n ≤ 1) (f : Value) (w : World) : Calls Tryz.prog 150 #[.slice o n c, f] w fun e w' => e = .returned (.tuple #[]) ∧ w' = w := by
  have HB := hide (bitsLen_one n hn w)
  have HP := hide (fun k => pdqE_one o n c hn k f w)
  have hw : IntKind.wrap .u64 ((n : Nat) : Int) = ((n : Nat) : Int) := by
    have h2 : n = 0 ∨ n = 1 := by omega
    rcases h2 with rfl | rfl <;> decide
  go_enter Tryz.func150, Tryz.ntmps150
  go_wp2_with fail
  refine (HB.out).mono ?_
  rintro _ w1 ⟨k, rfl, rfl⟩
  dsimp only
  go_wp2_with fail
  refine (HP.out _).mono ?_
  rintro _ w1 ⟨rfl, rfl⟩
  dsimp only
  go_wp2_with fail
  go_end0
  exact ⟨rfl, rfl⟩
set_option maxRecDepth 100000 in
set_option maxHeartbeats 1000000 in
theorem insD_one (o : Option Addr) (n c : Nat) (hn : n ≤ 1) (f : Value) (w : World) : Calls Tryz.prog 185 #[.slice o n c, .int .i64 0, .int .i64 ((n : Nat) : Int), f] w fun e w' => e = .returned (.tuple #[]) ∧ w' = w := by
  have d1 : decide ((1 : Int) < ((n : Nat) : Int)) = false := decide_eq_false (by omega)
  go_enter Tryz.func185, Tryz.ntmps185
  go_wp2_with fail
  go_loopw [8] (fun iv wr => iv = .int .i64 1 ∧ wr = w) (fun _ _ => 0)
  case atStart => exact ⟨rfl, rfl⟩
  case round =>
    obtain ⟨rfl, rfl⟩ := hrel
    go_wp2_with fail
    go_end0
    exact ⟨rfl, rfl⟩
set_option maxRecDepth 100000 in
set_option maxHeartbeats 1000000 in
theorem pdqD_one (o : Option Addr) (n c : Nat) (hn : n ≤ 1) (k : Int) (f : Value) (w : World) : Calls Tryz.prog 145 #[.slice o n c, .int .i64 0, .int .i64 ((n : Nat) : Int), .int .i64 k, f] w fun e w' => e = .returned (.tuple #[]) ∧ w' = w := by
  have HI := hide (insD_one o n c hn f w)
  have d1 : decide (((n : Nat) : Int) ≤ 12) = true := decide_eq_true (by omega)
  go_enter Tryz.func145, Tryz.ntmps145
  go_wp2_with fail
  go_loopw [1, 2] (fun av bv wr => av = .int .i64 0 ∧ bv = .int .i64 ((n : Nat) : Int) ∧ wr = w) (fun _ _ _ => 0)
  case atStart => exact ⟨rfl, rfl, rfl⟩
  case round =>
    obtain ⟨rfl, rfl, rfl⟩ := hrel
    go_wp2_with fail
    refine (HI.out).mono ?_
    rintro _ w1 ⟨rfl, rfl⟩
    dsimp only
    go_wp2_with fail
    refine bodyPost_ret (results_none rfl _ _ _) rfl ?_
    exact ⟨rfl, rfl⟩
set_option maxRecDepth 100000 in
set_option maxHeartbeats 1000000 in
theorem sortD_one (o : Option Addr) (n c : Nat) (hn : n ≤ 1) (f : Value) (w : World) : Calls Tryz.prog 92 #[.slice o n c, f] w fun e w' => e = .returned (.tuple #[]) ∧ w' = w := by
  have HB := hide (bitsLen_one n hn w)
  have HP := hide (fun k => pdqD_one o n c hn k f w)
  have hw : IntKind.wrap .u64 ((n : Nat) : Int) = ((n : Nat) : Int) := by
    have h2 : n = 0 ∨ n = 1 := by omega
    rcases h2 with rfl | rfl <;> decide
  go_enter Tryz.func92, Tryz.ntmps92
  go_wp2_with fail
  refine (HB.out).mono ?_
  rintro _ w1 ⟨k, rfl, rfl⟩
  dsimp only
  go_wp2_with fail
  refine (HP.out _).mono ?_
  rintro _ w1 ⟨rfl, rfl⟩
  dsimp only
  go_wp2_with fail
  go_end0
  exact ⟨rfl, rfl⟩
end Go.Proofs.YteicpbcddjjceaaGreatDoor
