/-
  PROVED HERE: digests as keys of a map, and held against each other; no walk.
-/
import Derived.Test.YteicpbcddjjceaaGreatDoorStTags
import Derived.ChangeKeysEq
import Derived.Test.YteicpbcddjjceaaGreatDoorPrintLib
import Derived.Sort.KeysCollected
import Derived.Shelf.SlIter.Nil
namespace Go.Proofs.YteicpbcddjjceaaGreatDoor
open Go.RowKit
theorem lits5 (d n : Nat) (h : n < 256) : Tryz.prog.keyLits (d + 1) 5 [.int .u8 ((n : Nat) : Int)] = some [.int .u8 ((n : Nat) : Int)] := by
  have hw : (Lit.int .u8 ((n : Nat) : Int)).wf = true := by
    have h1 : IntKind.min .u8 = 0 := by decide
    have h2 : IntKind.max .u8 = 255 := by decide
    simp [Lit.wf, h1, h2]
    omega
  unfold Program.keyLits
  rw [Tryz.underlying5]
  simp [hw]
theorem drop8 (ds : List Nat) (i : Nat) (hi : i < ds.length) : (((cells8 ds).toList.drop (i * 1)).take 1) = [.int .u8 ((ds.getD i 0 : Nat) : Int)] := by
  rw [Nat.mul_one]
  have hl : i < (cells8 ds).toList.length := by rw [Array.length_toList, cells8_size]; exact hi
  rw [List.drop_eq_getElem_cons hl, List.take_succ_cons, List.take_zero]
  congr 1
  simp [cells8, hi]
theorem cellsOf5 : Tryz.prog.cellsOf 5 = 1 := by kernel_rfl
theorem mapM_lits (d : Nat) (ds : List Nat) (hlt : ∀ i, ds.getD i 0 < 256) : ∀ (is : List Nat), (∀ i ∈ is, i < ds.length) → is.mapM (fun i => Tryz.prog.keyLits (d + 1) 5 (((cells8 ds).toList.drop (i * Tryz.prog.cellsOf 5)).take (Tryz.prog.cellsOf 5))) = some (is.map fun i => [Lit.int .u8 ((ds.getD i 0 : Nat) : Int)])
  | [], _ => rfl
  | i :: is, h => by
    rw [List.mapM_cons, cellsOf5, drop8 ds i (h i (by simp)), lits5 d _ (hlt i)]
    have ih := mapM_lits d ds hlt is (fun j hj => h j (by simp [hj]))
    rw [cellsOf5] at ih
    rw [ih]
    rfl
theorem flat_lits (ds : List Nat) (h : ds.length = 32) : ((List.range 32).map fun i => [Lit.int .u8 ((ds.getD i 0 : Nat) : Int)]).flatten = ds.map fun n => Lit.int .u8 ((n : Nat) : Int) := by
  have : ((List.range 32).map fun i => [Lit.int .u8 ((ds.getD i 0 : Nat) : Int)]).flatten = (List.range 32).map fun i => Lit.int .u8 ((ds.getD i 0 : Nat) : Int) := by
    rw [← List.flatMap_def]
    simp
    rfl
  rw [this]
  apply List.ext_getElem
  · simp [h]
  · intro i h1 h2
    simp only [List.length_map] at h2
    simp [h2]
/-- A digest as a map's key. -/
def dKey (ds : List Nat) : Lit := .string (keyBytes (ds.map fun n => Lit.int .u8 ((n : Nat) : Int)))
theorem key_dig (ds : List Nat) (h : ds.length = 32) (hlt : ∀ i, ds.getD i 0 < 256) : keyOf Tryz.prog 72 (.agg (cells8 ds)) = some (dKey ds) := by
  have hu := Tryz.underlying72
  have hc : Tryz.prog.cellsOf 72 = 32 := by kernel_rfl
  have hk : Tryz.prog.keyType 72 = true := by kernel_rfl
  have hf : (Value.agg (cells8 ds)).formed Tryz.prog 72 = true := by simp [Value.formed, hu, hc, cells8_size, h]
  have hl : Tryz.prog.keyLits (Tryz.prog.types.size + 1) 72 (cells8 ds).toList = some (ds.map fun n => Lit.int .u8 ((n : Nat) : Int)) := by
    rw [show Tryz.prog.types.size = (Tryz.prog.types.size - 1) + 1 from by kernel_rfl]
    unfold Program.keyLits
    rw [hu]
    simp only []
    rw [if_pos (by rw [hc, Array.length_toList, cells8_size, h]), mapM_lits _ ds hlt _ (fun i hi => by rw [h]; exact List.mem_range.1 hi)]
    exact congrArg some (flat_lits ds h)
  unfold keyOf
  rw [hu]
  simp only [hk, hf, Bool.and_self, if_true]
  show (Tryz.prog.keyLits _ _ (cells8 ds).toList).map _ = _
  rw [hl]
  rfl
theorem lits_inj {a b : List Nat} (h : (a.map fun n => Lit.int .u8 ((n : Nat) : Int)) = b.map fun n => Lit.int .u8 ((n : Nat) : Int)) : a = b := by
  induction a generalizing b with
  | nil => cases b with
    | nil => rfl
    | cons y b => cases h
  | cons x a ih => cases b with
    | nil => cases h
    | cons y b =>
      simp only [List.map_cons] at h
      injection h with h1 h2
      injection h1 with _ h1
      rw [ih h2, Int.ofNat.inj h1]
/-- Two digests held against each other. -/
theorem eq_dig (d : Nat) (a b : List Nat) (ha : a.length = 32) (hb : b.length = 32) (ha' : ∀ i, a.getD i 0 < 256) (hb' : ∀ i, b.getD i 0 < 256) (w : World) :
    (Op.equalIn (d + 2) 72 (.agg (cells8 a)) (.agg (cells8 b))).run Tryz.prog w = .ok (decide (a = b)) w := by
  obtain ⟨i5, hi5⟩ := Option.isSome_iff_exists.1 (show (Tryz.prog.info? 5).isSome = true by kernel_rfl)
  rw [run_equalIn_array w (d + 1) (cells8 a) (cells8 b) Tryz.underlying72 hi5]
  obtain ⟨r, hr, hiff⟩ := run_eqItems_plain w d (e := 5) (by kernel_rfl) (cells8 a) (cells8 b) (List.range 32) _ _ (mapM_lits 0 a ha' _ (fun i hi => by rw [ha]; exact List.mem_range.1 hi)) (mapM_lits 0 b hb' _ (fun i hi => by rw [hb]; exact List.mem_range.1 hi))
  rw [flat_lits a ha, flat_lits b hb] at hiff
  have hi2 : r = true ↔ a = b := hiff.trans ⟨lits_inj, fun h => by rw [h]⟩
  have hd : r = decide (a = b) := by
    cases r with
    | true => exact (decide_eq_true (hi2.1 rfl)).symm
    | false => exact (decide_eq_false (fun h => by cases hi2.2 h)).symm
  rw [← hd]
  exact hr
theorem guard_dig : Tryz.prog.eqGuardType Tryz.prog.depth 72 = false := by kernel_rfl
theorem wpList_eqDig {ops : Array Oper} {Q : Exit → Act → World → Prop} {o : Oper} {rest : List Oper} {c : Act} {w : World} (hgd : o.guard = none) (x y : Operand) (k : TypeId) (hop : o.op = Op.binOp .eql 72 x y k) (a b : List Nat) (ha : a.length = 32) (hb : b.length = 32) (ha' : ∀ i, a.getD i 0 < 256) (hb' : ∀ i, b.getD i 0 < 256) (hx : c.eval x = .agg (cells8 a)) (hy : c.eval y = .agg (cells8 b))
    (hK : wpList Tryz.prog ops Q rest (c.put o.dst (.bool (decide (a = b)))) w) : wpList Tryz.prog ops Q (o :: rest) c w := by
  refine wpList_plain hgd fun K' hK' => ?_
  have hr := eq_dig 9998 a b ha hb ha' hb' w
  unfold Oper.wp execOp
  simp only [hop, hx, hy, eqGuard, binOp, Op.equal, Op.maxDepth, Sem.run_bind, Sem.run_pure, run_program, Result.andThen_ok, guard_dig, hr, Bool.not_true, Bool.not_false, Bool.false_eq_true, if_false, if_true]
  exact hK' _ _ hK
theorem wpList_neDig {ops : Array Oper} {Q : Exit → Act → World → Prop} {o : Oper} {rest : List Oper} {c : Act} {w : World} (hgd : o.guard = none) (x y : Operand) (k : TypeId) (hop : o.op = Op.binOp .neq 72 x y k) (a b : List Nat) (ha : a.length = 32) (hb : b.length = 32) (ha' : ∀ i, a.getD i 0 < 256) (hb' : ∀ i, b.getD i 0 < 256) (hx : c.eval x = .agg (cells8 a)) (hy : c.eval y = .agg (cells8 b))
    (hK : wpList Tryz.prog ops Q rest (c.put o.dst (.bool (!decide (a = b)))) w) : wpList Tryz.prog ops Q (o :: rest) c w := by
  refine wpList_plain hgd fun K' hK' => ?_
  have hr := eq_dig 9998 a b ha hb ha' hb' w
  unfold Oper.wp execOp
  simp only [hop, hx, hy, eqGuard, binOp, Op.equal, Op.maxDepth, Sem.run_bind, Sem.run_pure, run_program, Result.andThen_ok, guard_dig, hr, Bool.not_true, Bool.not_false, Bool.false_eq_true, if_false, if_true]
  exact hK' _ _ hK
end Go.Proofs.YteicpbcddjjceaaGreatDoor

/-
  PROVED HERE: what sized gives of one tag: that tag, with its content's size.
-/
namespace Go.Proofs.YteicpbcddjjceaaGreatDoor
open Go.RowKit Go.Shelf
/-- One tag. -/
def oneT (name : ByteArray) (ds : List Nat) (z : Int) : DataW Value := .map [(.string name.data.toList, .held (.agg (ecellsOf name ds z)))]
theorem ecells_set (n : ByteArray) (ds : List Nat) (z z' : Int) (h : ds.length = 32) : (ecellsOf n ds z).setIfInBounds 33 (.int .i64 z') = ecellsOf n ds z' := by
  obtain ⟨x0, x1, x2, x3, x4, x5, x6, x7, x8, x9, x10, x11, x12, x13, x14, x15, x16, x17, x18, x19, x20, x21, x22, x23, x24, x25, x26, x27, x28, x29, x30, x31, rfl⟩ := list32 ds h
  rfl
theorem put_one (name : ByteArray) (ds : List Nat) (z z' : Int) : (oneT name ds z).put (.string name.data.toList) (.held (.agg (ecellsOf name ds z'))) = oneT name ds z' := by
  simp [oneT, DataW.put_eq, ChangeMaps.putKey, ChangeMaps.notKey, Lit.sameKey, DataW.insert]
theorem has_one (name : ByteArray) (ds : List Nat) (z : Int) : Maps.has (oneT name ds z) (.string name.data.toList) = true := by
  simp [Maps.has, oneT, Lit.sameKey]
theorem has_one_inv {name : ByteArray} {ds : List Nat} {z : Int} {kl : Lit} (h : Maps.has (oneT name ds z) kl = true) : kl = .string name.data.toList := by
  simp only [Maps.has, oneT, List.any_cons, List.any_nil, Bool.or_false] at h
  exact (WideAt.sameKey_eq h).symm
theorem at_one (name : ByteArray) (ds : List Nat) (z : Int) (zd : DataW Value) : (oneT name ds z).atKey (.string name.data.toList) zd = .held (.agg (ecellsOf name ds z)) := by
  simp [oneT, DataW.atKey, Lit.sameKey]
set_option maxHeartbeats 2000000 in
set_option maxRecDepth 100000 in
theorem sized_one (tb n : Nat) (name : ByteArray) (ds : List Nat) (z z' : Int) (w : World) (h : TM w tb n (oneT name ds z)) (hds : ds.length = 32) (hlt : ∀ i, ds.getD i 0 < 256) (hnt : n ≤ 1000) (hn : name.size ≤ 1000000) :
    Calls Tryz.prog 117 #[.map (some tb), .agg (cells8 ds), .int .i64 z'] w fun e w' => ∃ b n', e = .returned (.map (some b)) ∧ w.heap.size ≤ b ∧ n' ≤ n + 1 ∧ TM w' b n' (oneT name ds z') ∧ Below w.heap.size w w' := by
  have HCL := hide (tclone_any tb n (oneT name ds z))
  have hbo : Below w.heap.size w (w.alloc (.cells (cells8 ds) 72)) := (Below.refl _ _).alloc (Nat.le_refl _) _
  have hrow : (w.alloc (.cells (cells8 ds) 72)).heap[w.heap.size]? = some (.cells (cells8 ds) 72 (0, 0)) := heap_alloc_new _ _
  have htm : TM _ tb n (oneT name ds z) := owns_same h (hbo.block _ h.lt)
  obtain ⟨W, hW⟩ : ∃ W, W = w.alloc (.cells (cells8 ds) 72) := ⟨_, rfl⟩
  rw [← hW] at hbo hrow htm
  have HTM := hide htm
  have HW := hide hW
  have HBO := hide hbo
  have HROW := hide hrow
  clear h hbo htm hW hrow
  have hz71 := (zero_of_info Tryz.info71b).1
  go_enter Tryz.func117, Tryz.ntmps117
  go_upto_region 1 with fail
  rw [← HW.out]
  go_wp2_with fail
  refine (HCL.out _ HTM.out).mono ?_
  rintro _ w1 ⟨rfl, htm1, hb1⟩
  dsimp only
  have HTM1 := hide htm1
  have HTM0 := hide (show TM w1 tb n (oneT name ds z) from owns_same HTM.out (hb1.block _ HTM.out.lt))
  have HB1 := hide hb1
  clear htm1 hb1 HCL
  go_wp2_with (at_range; refine wpList_range_own _ rfl _ 120 rfl 9 130 str_keyed Tryz.underlying120 heldR tb n (oneT name ds z) rfl HTM0.out ?_; intro w2 hrg2 hg2 hs2)
  go_frame
  have HRG := hide hrg2
  have hB2 : Below w.heap.size w w2 := (HBO.out.trans (HB1.out.mono HBO.out.size)).grown (hg2.but none) (by have := HBO.out.size; have := HB1.out.size; omega) (fun k e => by cases e)
  have HB2 := hide hB2
  have HT2 := hide (show TM w2 W.heap.size n (oneT name ds z) from owns_same HTM1.out (hg2.block _ HTM1.out.lt (by simp)))
  have HR2 := hide ((hg2.block _ (by have := lt_heap HROW.out; have := HB1.out.size; omega) (by simp)).trans ((HB1.out.block _ (lt_heap HROW.out)).trans HROW.out))
  have hlt1 := HTM1.out.lt
  have hlt0 := HTM0.out.lt
  have hltt := HTM.out.lt
  have hltw := HBO.out.size
  have hlt2 := lt_heap HROW.out
  clear hrg2 hg2 hB2
  go_loopw [] (fun wr => ∃ left cnt, wr.ranges Tryz.prog 9 heldR tb w1.heap.size n (oneT name ds z) left cnt ∧ Below w.heap.size w wr ∧ w1.heap.size + 1 ≤ wr.heap.size ∧ wr.heap[w.heap.size]? = some (.cells (cells8 ds) 72 (0, 0)) ∧ ((left (.string name.data.toList) = true ∧ (∀ kl, left kl = true → kl = .string name.data.toList) ∧ TM wr W.heap.size n (oneT name ds z)) ∨ ((∀ kl, left kl = false) ∧ TM wr W.heap.size (n + 1) (oneT name ds z')))) (fun wr => wr.rangeLeft tb w1.heap.size)
  case atStart => exact ⟨_, _, HRG.out, HB2.out, by omega, HR2.out, .inl ⟨has_one name ds z, fun kl h => has_one_inv h, HT2.out⟩⟩
  case round =>
    obtain ⟨left, cnt, hrg, hb, hsz, hdr, hcase⟩ := hrel
    have HB := hide hb
    have HRGR := hide hrg
    have HDR := hide hdr
    have HC := hide hcase
    clear hb hdr hcase
    go_wp2_with (at_next; refine wpList_next_ranges _ rfl _ rfl 9 str_keyed heldR Value.string (fun c : Value => c) (fun key kl hkey => str_inv Tryz.underlying9 hkey) (fun v y hv => ⟨v, rfl⟩) tb w1.heap.size _ _ _ _ rfl HRGR.out ?_ ?_)
    · intro _ hl0
      have hfin : TM wr W.heap.size (n + 1) (oneT name ds z') := by
        rcases HC.out with ⟨h, -⟩ | ⟨-, h⟩
        · rw [hl0] at h; cases h
        · exact h
      have HFIN := hide hfin
      clear hrg hl0 hfin
      go_wp2_with fail
      go_ret
      exact ⟨_, n + 1, rfl, by omega, Nat.le_refl _, HFIN.out, HB.out⟩
    · intro x c kl d ps w3 cnt1 hkey hlk hv hat hrg1 hltc hg1 hs1 hen
      obtain ⟨hkl, htmr⟩ : kl = .string name.data.toList ∧ TM wr W.heap.size n (oneT name ds z) := by
        rcases HC.out with ⟨-, h1, h2⟩ | ⟨h1, -⟩
        · exact ⟨h1 kl hlk, h2⟩
        · rw [h1] at hlk; cases hlk
      subst hkl
      have hxn : x = name := by
        have := str_key Tryz.underlying9 hkey
        unfold kOf at this
        injection this with this
        exact (ByteArray.ext (Array.ext' this)).symm
      subst hxn
      have hc : c = .agg (ecellsOf x ds z) := by
        have h1 := hat .nil
        have h2 : d = .held c := by
          unfold heldR at hv
          injection hv with hv
          injection hv with hv
          exact hv.symm
        simp only [h2] at h1
        rw [at_one] at h1
        injection h1 with h1
        exact h1.symm
      subst hc
      have hb3 : Below w.heap.size w w3 := HB.out.grown hg1 (by omega) (fun k hk => by injection hk with hk; omega)
      have hd3 : w3.heap[w.heap.size]? = some (.cells (cells8 ds) 72 (0, 0)) := (hg1.block _ (lt_heap HDR.out) (fun e => by injection e with e; omega)).trans HDR.out
      have ht3 : TM w3 W.heap.size n (oneT x ds z) := owns_same htmr (hg1.block _ htmr.lt (fun e => by injection e with e; omega))
      have hX1 : (w3.alloc (.cells (ecellsOf x ds z) 130)).heap[w3.heap.size]? = some (.cells (ecellsOf x ds z) 130 (0, 0)) := heap_alloc_new _ _
      have hent : Ent w3 (w3.alloc (.cells (ecellsOf x ds z) 130)) w3.heap.size x ds z := ⟨hX1, (Below.refl _ _).alloc (Nat.le_refl _) _⟩
      obtain ⟨n0, n1, n2⟩ := hent.out hds
      have n3 := frozen_of_row _ _ 33 _ _ hX1
      have hd4 : (w3.alloc (.cells (ecellsOf x ds z) 130)).heap[w.heap.size]? = some (.cells (cells8 ds) 72 (0, 0)) := (hent.below.block _ (lt_heap hd3)).trans hd3
      have hse := ecells_set x ds z z' hds
      have hBx : Below w3.heap.size w3 (w3.alloc (.cells (ecellsOf x ds z') 130)) := (Below.refl _ _).alloc (Nat.le_refl _) _
      have hX2 : (w3.alloc (.cells (ecellsOf x ds z') 130)).heap[w3.heap.size]? = some (.cells (ecellsOf x ds z') 130 (0, 0)) := heap_alloc_new _ _
      have ht5 : TM (w3.alloc (.cells (ecellsOf x ds z') 130)) W.heap.size n (oneT x ds z) := owns_same ht3 (hBx.block _ ht3.lt)
      have hrg5 := hrg1.alloc (.cells (ecellsOf x ds z') 130)
      have hb5 : Below w.heap.size w (w3.alloc (.cells (ecellsOf x ds z') 130)) := hb3.trans (hBx.mono hb3.size)
      have hd5 : (w3.alloc (.cells (ecellsOf x ds z') 130)).heap[w.heap.size]? = some (.cells (cells8 ds) 72 (0, 0)) := (hBx.block _ (lt_heap hd3)).trans hd3
      clear hBx
      have HX1 := hide hX1
      have HX2 := hide hX2
      have HD4 := hide hd4
      have HT5 := hide ht5
      have HRG5 := hide hrg5
      have HB5 := hide hb5
      have HD5 := hide hd5
      have HN1 := hide n1
      have HLT := hide hltc
      have hsz3 : w1.heap.size + 1 ≤ w3.heap.size := by omega
      clear hs1 hrg hrg1 hkey hlk hv hat hltc hg1 htmr hb3 hd3 ht3 hX1 hent n1 hd4 hX2 ht5 hrg5 hb5 hd5
      go_wp2_with (first | (refine wpList_store_row rfl 130 _ _ rfl w3.heap.size _ rfl rfl 130 _ (heap_alloc_new _ _) (size71 _ _ _ hds) (by rw [ecellsOf_size _ _ _ hds, ecellsOf_size _ _ _ (Sha.zeros_len _)]) (Array.all_eq_true_iff_forall_mem.2 fun u hu => ecellsOf_one _ _ _ u (by simpa using hu)) ?_; rw [World.setRow_alloc_new]) | (refine wpList_load_mid rfl 72 _ rfl w3.heap.size 1 rfl (cells8 ds).toList _ HN1.out Tryz.underlying72 rfl (by rw [Array.length_toList]; exact size40 _ hds) ?_) | (refine wpList_load_row rfl 72 _ rfl w.heap.size rfl 72 _ _ _ HD4.out Tryz.underlying72 rfl (size40 _ hds) ?_) | (refine wpList_eqDig rfl _ _ _ rfl ds ds hds hds hlt hlt rfl rfl ?_) | (refine wpList_load_row rfl 130 _ rfl w3.heap.size rfl 130 _ _ _ HX2.out Tryz.underlying130 rfl (size71 _ _ _ hds) ?_) | (refine wpList_mapUpdate_own _ rfl _ _ _ 120 rfl 9 130 str_keyed Tryz.underlying120 heldR W.heap.size n (oneT x ds z) rfl HT5.out (by unfold maxLen; omega) _ _ (.string x.data.toList) rfl rfl (key_str x (by omega)) _ [] rfl ?_; intro w6 hm6 hg6))
      go_roundw
      case rel =>
        have hz5 := HB5.out.size
        refine ⟨_, ⟨cnt1, HRG5.out.kept hg6 (fun e => by injection e with e; omega) (fun e => by injection e with e; omega)⟩, HB5.out.grown hg6 (by omega) (fun k hk => by injection hk with hk; omega), by have := hg6.size; simp only [size_alloc] at this; omega, (hg6.block _ (lt_heap HD5.out) (fun e => by injection e with e; omega)).trans HD5.out, .inr ⟨fun kl => ?_, ?_⟩⟩
        · rcases HC.out with ⟨-, h1, -⟩ | ⟨h1, -⟩
          · by_cases hk : left kl = true
            · rw [h1 kl hk]
              simp [Lit.sameKey]
            · simp [hk]
          · simp [h1 kl]
        · have h7 : TM w6 W.heap.size (n + 1) ((oneT x ds z).put (.string x.data.toList) (.held (.agg (ecellsOf x ds z')))) := hm6
          rw [put_one] at h7
          exact h7
      case measure =>
        rw [(HRG5.out.kept hg6 (fun e => by injection e with e; omega) (fun e => by injection e with e; omega)).left_eq, HRGR.out.left_eq]
        exact HLT.out
end Go.Proofs.YteicpbcddjjceaaGreatDoor

/-
  PROVED HERE: maps.Values of a map of tags: it gives each tag once, for every loop body.
-/
namespace Go.Proofs.YteicpbcddjjceaaGreatDoor
open Go.RowKit Go.Shelf Go.Maps Go.Sort
attribute [local go_sem] Oper.semAt_some
theorem wpListIn_load_row {F : Fence} {n : Nat} {P : Program} {ops : Array Oper} {rest : List Oper} {o : Oper} {a : Act} {w : World} {Q : Exit → Act → World → Prop} (hgd : o.guard = none) (ty : TypeId) (x : Operand) (ho : o.op = .load ty x)
    (g : Nat) (hx : a.eval x = .pointer (some ⟨g, 0, none⟩)) (t : TypeId) (cs : Array Value) (fr : Nat × Nat) (d : TypeDesc) (hg : w.heap[g]? = some (.cells cs t fr))
    (hu : P.underlying ty = some d) (hd : (match d with | .struct _ | .array _ _ => true | _ => false) = true) (hi : (P.info? ty).map (·.size) = some cs.size)
    (h : wpListIn F n P ops Q rest (a.put o.dst (.agg cs)) w) : wpListIn F n P ops Q (o :: rest) a w := by
  refine wpListIn_plain hgd fun K hK' => ?_
  unfold Oper.wpIn
  refine ⟨?_, ?_⟩
  · simp [Oper.about, ho]
  · rw [Oper.semAt_plain F _ _ (by rw [ho]; intro c hc'; cases hc')]
    unfold execOp
    simp only [ho, hx, Instr.loadAt, Instr.sureAddr, Sem.run_bind, Sem.run_pure, Result.andThen_ok, run_loadVar_row w g t ty cs fr d hg hu hd hi]
    exact hK' _ _ h
theorem wpListIn_store_row {F : Fence} {n : Nat} {P : Program} {ops : Array Oper} {rest : List Oper} {o : Oper} {a : Act} {w : World} {Q : Exit → Act → World → Prop} (hgd : o.guard = none) (ty : TypeId) (x y : Operand) (ho : o.op = .store ty x y)
    (g : Nat) (cells : Array Value) (hx : a.eval x = .pointer (some ⟨g, 0, none⟩)) (hy : a.eval y = .agg cells)
    (t : TypeId) (old : Array Value) (hg : w.heap[g]? = some (.cells old t (0, 0))) (hi : (P.info? ty).map (·.size) = some cells.size)
    (hold : old.size = cells.size) (h1 : cells.all (·.oneCell') = true)
    (h : wpListIn F n P ops Q rest (a.put o.dst undef) (w.setRow g cells)) : wpListIn F n P ops Q (o :: rest) a w := by
  refine wpListIn_plain hgd fun K hK' => ?_
  unfold Oper.wpIn
  refine ⟨?_, ?_⟩
  · simp [Oper.about, ho]
  · rw [Oper.semAt_plain F _ _ (by rw [ho]; intro c hc'; cases hc')]
    unfold execOp
    simp only [ho, hx, hy, Instr.storeAt, Instr.sureAddr, Sem.run_bind, Sem.run_pure, Result.andThen_ok, run_storeVar_row w g t ty old cells hg hi hold h1]
    exact hK' _ _ h
/-- An entry of the index, as a value. -/
abbrev EV := { v : Value // ∃ n ds z, ds.length = 32 ∧ v = .agg (ecellsOf n ds z) }
/-- Every tag's value is an entry. -/
def AllE (D : DataW Value) : Prop := ∀ kl v, D.atKey kl .nil = .held v → ∃ n ds z, ds.length = 32 ∧ v = .agg (ecellsOf n ds z)
def ValE (D : DataW Value) (p : List UInt8 × EV) : Prop := ∀ zd, D.atKey (.string p.1) zd = .held p.2.1
set_option maxRecDepth 100000 in
set_option maxHeartbeats 2000000 in
theorem vals1_in (F : Fence) (n : Nat) (hf : F.fn 151) (hro : F.round = none) (hn : 1 ≤ n) (l Bm b nn : Nat) (D0 : DataW Value) (hE : AllE D0) (J Jx : List EV → World → Prop)
    (hY : ∀ pre x W, J pre W → pre.length < Maps.size D0 → YieldAt F (n - 1) Tryz.prog l #[x.1] W fun e W' =>
      (e = .returned (.bool true) ∧ J (pre ++ [x]) W' ∧ KeepsWalks W W') ∨ (e = .returned (.bool false) ∧ Jx (pre ++ [x]) W'))
    (W : World) (hJ : AbidesFrom W.heap.size J) (hm : W.cell? ⟨Bm, 0, none⟩ = some (.map (some b))) (hown : TM W b nn D0) (h0 : J [] W) :
    CallsIn F n Tryz.prog 151 #[.func (.yield l) #[] #[], .pointer (some ⟨Bm, 0, none⟩)] W fun e W' => (∃ v, e = .returned v) ∧
      ((∃ xs, (∃ ps : List (List UInt8 × EV), (ps.map (·.1)).Perm (strKeys D0) ∧ (∀ p ∈ ps, ValE D0 p) ∧ xs = ps.map (·.2)) ∧ J xs W') ∨ (∃ pre, True ∧ Jx pre W')) := by
  have hz71 := (zero_of_info Tryz.info71b).1
  refine callsIn_of_wp Tryz.func151 rfl hf ?_ hro
  simp only [Tryz.ntmps151, List.size_toArray, List.length_cons, List.length_nil, Nat.reduceAdd, Nat.reduceSub, Array.replicate_succ, Array.replicate_zero, List.push_toArray, List.append_toArray, List.nil_append, List.cons_append]
  gi_wp2_with (first
    | (gi_at_range; refine wpListIn_range_own _ rfl _ 120 rfl 9 130 str_keyed Tryz.underlying120 _ b nn _ rfl hown ?_; intro w0 hrg0 hg0 hs0)
    | gi_in)
  go_frame
  gi_loopw [7] (fun _ wr => ∃ (left : Lit → Bool) (cnt : Nat) (ps : List (List UInt8 × EV)), wr.ranges Tryz.prog 9 heldR b W.heap.size nn D0 left cnt ∧ ps.length + cnt ≤ Maps.size D0 ∧ Collected D0 left (ps.map (·.1)) ∧ (∀ p ∈ ps, ValE D0 p) ∧ J (ps.map (·.2)) wr)
    (fun _ wr => wr.rangeLeft b W.heap.size)
  case atStart =>
    exact ⟨_, _, [], hrg0, by simp, Collected.start D0, by simp, hJ [] W w0 none h0 hg0 (fun r e => by cases e)⟩
  case round =>
    obtain ⟨left, cnt, ps, hrg, hcs, hC, hV, hJs⟩ := hrel
    gi_wp2_with (first
      | (gi_at_next; refine wpListIn_next_ranges _ rfl _ rfl 9 str_keyed heldR encStr (fun c : Value => c) (fun key kl hk => by obtain ⟨x, hx, _⟩ := Maps.keyOf_str Tryz.underlying9 hk; exact ⟨x, hx⟩) (fun v y hv => ⟨v, rfl⟩) b W.heap.size nn _ _ _ rfl hrg ?_ ?_)
      | gi_in)
    · intro hc0 hl0
      gi_wp2
      go_end0
      exact ⟨⟨_, rfl⟩, .inl ⟨_, ⟨ps, hC.perm hown str_keyed Tryz.underlying9 hl0, hV, rfl⟩, hJs⟩⟩
    · intro x c kl yd yp w2 cnt2 hkey hlk hv hat hrg2 hlt hg2 hs2 hen
      obtain ⟨x', ex, rfl, _⟩ := Maps.keyOf_str Tryz.underlying9 hkey
      obtain rfl : x = x' := encStr_inj ex
      have hyd : yd = .held c := by
        unfold heldR at hv
        injection hv with hv
        injection hv with hv
        exact hv.symm
      subst hyd
      obtain ⟨en, ds, z, hds, rfl⟩ := hE _ c (hat .nil)
      have hJ2 : J (ps.map (·.2)) w2 := hJ _ wr w2 (some W.heap.size) hJs hg2 (fun r e => by cases e; exact ⟨Nat.le_refl _, hrg.iter_walk⟩)
      obtain ⟨X, hX⟩ : ∃ X, X = w2.alloc (.cells (ecellsOf en ds z) 130) := ⟨_, rfl⟩
      have hJ3 : J (ps.map (·.2)) X := by rw [hX]; exact hJ _ w2 _ none hJ2 (World.grownBy_alloc _ _ _) (fun r e => by cases e)
      have hXr : X.heap[w2.heap.size]? = some (.cells (ecellsOf en ds z) 130 (0, 0)) := by rw [hX]; exact heap_alloc_new _ _
      have hrgX := hrg2.alloc (.cells (ecellsOf en ds z) 130)
      rw [← hX] at hrgX
      obtain ⟨fn, tmps, assign, body, hy, hR⟩ := hY (ps.map (·.2)) ⟨.agg (ecellsOf en ds z), en, ds, z, hds, rfl⟩ X hJ3 (by simp; omega)
      have HX := hide hX
      have HXR := hide hXr
      have HRGX := hide hrgX
      clear hs2 hX hXr hrgX hJ2 hJ3
      dsimp only at hy
      gi_wp2_with (first
        | (refine wpListIn_store_row rfl 130 _ _ rfl w2.heap.size _ rfl rfl 130 _ (heap_alloc_new _ _) (size71 _ _ _ hds) (by rw [ecellsOf_size _ _ _ hds, ecellsOf_size _ _ _ (Sha.zeros_len _)]) (Array.all_eq_true_iff_forall_mem.2 fun u hu => ecellsOf_one _ _ _ u (by simpa using hu)) ?_; rw [World.setRow_alloc_new, ← HX.out])
        | (refine wpListIn_load_row rfl 130 _ rfl w2.heap.size rfl 130 _ _ _ HXR.out Tryz.underlying130 rfl (size71 _ _ _ hds) ?_)
        | gi_in)
      refine hR.mono ?_
      have hC2 : Collected D0 (fun z => left z && !z.sameKey (.string x)) ((ps ++ [(x, (⟨.agg (ecellsOf en ds z), en, ds, z, hds, rfl⟩ : EV))]).map (·.1)) := by simpa using hC.step hlk hat
      have hV2 : ∀ p ∈ ps ++ [(x, (⟨.agg (ecellsOf en ds z), en, ds, z, hds, rfl⟩ : EV))], ValE D0 p := fun p hp => (List.mem_append.1 hp).elim (hV p) (fun e => by simp at e; subst e; exact hat)
      rintro e W3 (⟨rfl, hJ3, hk3⟩ | ⟨rfl, hJx3⟩)
      · gi_wp2
        have hrg3 := HRGX.out.of_walks hk3
        go_roundw
        case rel => exact ⟨_, cnt2, ps ++ [(x, _)], hrg3, by simp; omega, hC2, hV2, by simpa using hJ3⟩
        case measure => rw [hrg3.left_eq, hrg.left_eq]; exact hlt
      · gi_wp2
        refine bodyPost_ret (results_none rfl _ _ _) rfl ?_
        exact ⟨⟨_, rfl⟩, .inr ⟨_, trivial, hJx3⟩⟩
theorem vals_in (F : Fence) (n : Nat) (hf : F.fn 97) (hro : F.round = none) (mb : Option Nat) (w : World) :
    CallsIn F n Tryz.prog 97 #[.map mb] w fun e w' => e = .returned (.func (.func 151) #[] #[.pointer (some ⟨w.heap.size, 0, none⟩)]) ∧ w' = w.alloc (.cells #[.map mb] 120) := by
  refine callsIn_of_wp Tryz.func97 rfl hf ?_ hro
  simp only [Tryz.ntmps97, List.size_toArray, List.length_cons, List.length_nil, Nat.reduceAdd, Nat.reduceSub, Array.replicate_succ, Array.replicate_zero, List.push_toArray, List.append_toArray, List.nil_append, List.cons_append]
  gi_wp2
  go_ret
  exact ⟨rfl, rfl⟩
/-- All that a map of tags gives. -/
def AllV (D0 : DataW Value) (xs : List EV) : Prop := ∃ ps : List (List UInt8 × EV), (ps.map (·.1)).Perm (strKeys D0) ∧ (∀ p ∈ ps, ValE D0 p) ∧ xs = ps.map (·.2)
theorem vals_stops (F : Fence) (n : Nat) (hf : F.fn 151) (hro : F.round = none) (hn : 1 ≤ n) (Bm b nn : Nat) (D0 : DataW Value) (hE : AllE D0) (w : World) (hm : w.cell? ⟨Bm, 0, none⟩ = some (.map (some b))) (hown : TM w b nn D0) :
    SeqStopsK F n Tryz.prog 151 #[.pointer (some ⟨Bm, 0, none⟩)] (fun x : EV => #[x.1]) KeepsWalks (AllV D0) (fun _ => True) (Maps.size D0) w := fun l J Jx W hW hJ _ hY h0 =>
  vals1_in F n hf hro hn l Bm b nn D0 hE J Jx hY W hJ (cell_later hW hm) (owns_same hown (hW.block b hown.lt)) h0
end Go.Proofs.YteicpbcddjjceaaGreatDoor
