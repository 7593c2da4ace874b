/-
  PROVED HERE: what Tags of the program's store answers, of no tag and of one.
-/
import Derived.Test.YteicpbcddjjceaaGreatDoorBsGet
import Derived.Test.YteicpbcddjjceaaGreatDoorParse
import Derived.Test.YteicpbcddjjceaaGreatDoorStDig
import Derived.Test.YteicpbcddjjceaaGreatDoorBdW1
import Derived.Test.YteicpbcddjjceaaGreatDoorKPick
namespace Go.Proofs.YteicpbcddjjceaaGreatDoor
open Go.RowKit Go.MuLone Go.Shelf Go.Maps Go.Sort
theorem own_lock {w : World} {xb sb B size n : Nat} {e : TypeId} {v u : Value} {xs : List Value} {m : Int} (h : w.ownsRow B e size v n xs) (hx : BLk w xb sb m) (he : e ≠ 68) : (w.setCell ⟨xb, 0, none⟩ u).ownsRow B e size v n xs := by
  obtain ⟨hlen, h2⟩ := h
  refine ⟨hlen, ?_⟩
  rcases h2 with h2 | ⟨g, cap, cur, rfl, h3, hg, h4⟩
  · exact .inl h2
  · exact .inr ⟨g, cap, cur, rfl, h3, (heap_setCell_other _ _ _ _ (by simpa using type_ne hg hx he)).trans hg, h4⟩
/-- These are the tags of a store. -/
structure TgsOf (D : DataW Value) (l : List Tg) : Prop where
  all : AllE D
  few : (strKeys D).length ≤ 1
  is : ∀ xs, AllV D xs → xs.flatMap EV.cs = l.flatMap Tg.ecells ∧ xs.length = l.length
theorem tgs_none : TgsOf (.map []) [] := ⟨allE_none, Nat.zero_le _, fun xs h => by rw [allV_none h]; exact ⟨rfl, rfl⟩⟩
theorem tgs_one (name : ByteArray) (ds : List Nat) (z : Int) (hds : ds.length = 32) (hlt : ∀ i, ds.getD i 0 < 256) : TgsOf (oneT name ds z) [⟨name, dtx ds, z⟩] := ⟨allE_one name ds z hds, Nat.le_refl _, fun xs h => by
  obtain ⟨h1, h2⟩ := allV_one h
  refine ⟨?_, h2⟩
  rw [h1]
  simp only [List.flatMap_cons, List.flatMap_nil, List.append_nil, Tg.ecells, rd_dtx ds hds hlt]⟩
set_option maxHeartbeats 2000000 in
set_option maxRecDepth 100000 in
theorem sTags_any (sb : Nat) (s : PSt) (cb tb nc nt : Nat) (Dc Dt : DataW Value) (l : List Tg) (w : World) (h : StW w sb s cb tb nc nt Dc Dt) (hl : TgsOf Dt l) :
    Calls Tryz.prog 26 #[.pointer (some ⟨sb, 0, none⟩)] w fun e w' => ∃ v, e = .returned v ∧ w'.ownsRow w.heap.size 130 34 v l.length (l.flatMap Tg.ecells) ∧ Below w.heap.size w w' := by
  have HS := hide (sorted_any tb nt Dt w h.tm hl.all hl.few)
  have c2 := cell_of_row _ _ 2 _ _ _ h.blk
  have HL := hide hl
  clear h hl
  go_enter Tryz.func26, Tryz.ntmps26
  go_wp2_with fail
  refine (HS.out).mono ?_
  rintro _ w1 ⟨v, xs, rfl, hV, hrow, hb⟩
  dsimp only
  obtain ⟨h1, h2⟩ := HL.out.is xs hV
  rw [h1, h2] at hrow
  have HR := hide hrow
  have HB := hide hb
  clear hrow hb h1 h2 hV HS c2
  go_wp2_with fail
  go_ret
  exact ⟨_, rfl, HR.out, HB.out⟩
set_option maxHeartbeats 4000000 in
set_option maxRecDepth 100000 in
theorem bTags_any (N xb sb : Nat) (s : PSt) (cb tb nc nt : Nat) (Dc Dt : DataW Value) (l : List Tg) (w : World) (hx : BSt w xb sb) (hG : ¬ isG xb) (hNx : N ≤ xb) (h : StW w sb s cb tb nc nt Dc Dt) (hl : TgsOf Dt l) (h8 : l.length ≤ 8) :
    Calls Tryz.prog 8 #[.pointer (some ⟨xb, 0, none⟩)] w fun e w' => ∃ v, e = .returned (.tuple #[v, .int .i64 0]) ∧ w'.ownsRow w.heap.size 89 3 v l.length ((l.map Tg.told).flatMap Tg.cells) ∧ FB N w w' ∧ BSt w' xb sb ∧ StW w' sb s cb tb nc nt Dc Dt := by
  have hx : BLk w xb sb 0 := hx
  have c0 : w.cell? ⟨xb, 0, none⟩ = some (.int .i32 0) := cell_of_row _ _ 0 _ _ _ hx
  have f0 : w.frozen? ⟨xb, 0, none⟩ = false := frozen_of_row _ _ 0 _ _ hx
  obtain ⟨W, hW⟩ : ∃ W, W = w.setCell ⟨xb, 0, none⟩ (.int .i32 1) := ⟨_, rfl⟩
  have hst : StW W sb s cb tb nc nt Dc Dt := by rw [hW]; exact h.lock hx hG
  have hxw : BLk W xb sb 1 := by rw [hW]; exact hx.set 1
  have hfw : FB N w W := by rw [hW]; exact FB.lock hx hNx
  have hzw : W.heap.size = w.heap.size := by rw [hW]; simp
  have HTG := hide (sTags_any sb s cb tb nc nt Dc Dt l W hst hl)
  have HLK := hide (lock_free Tryz.muLib ⟨xb, 0, none⟩ w c0 f0)
  have HW := hide hW
  have HST := hide hst
  have HXW := hide hxw
  have HFW := hide hfw
  have HZW := hide hzw
  have c2 : W.cell? ⟨xb, 2, none⟩ = some (.pointer (some ⟨sb, 0, none⟩)) := cell_of_row _ _ 2 _ _ _ hxw
  clear hx c0 f0 hst hxw hfw hW h hzw
  go_enter_defers Tryz.func8, Tryz.ntmps8
  go_wp2_with fail
  refine (HLK.out).mono ?_
  rintro _ W1 ⟨rfl, hW1⟩
  have hW1 : W1 = W := hW1.trans HW.out.symm
  rw [hW1]
  dsimp only
  clear hW1 HLK HW
  go_wp2_with fail
  refine (HTG.out).mono ?_
  rintro _ w1 ⟨v1, rfl, hrow, hb1⟩
  dsimp only
  have HTO := hide (tagsOf_core v1 l w1 l.length rfl h8 _ hrow)
  have HB1 := hide hb1
  clear hrow hb1 HTG
  go_wp2_with fail
  refine (HTO.out).mono ?_
  rintro _ w2 ⟨hb2, v2, rfl, hrow2⟩
  dsimp only
  have hb3 := HB1.out.trans (hb2.mono HB1.out.size)
  have HB3 := hide hb3
  have HX3 := hide (HXW.out.later hb3)
  have HR3 := hide (hrow2.mono_base (by have := HB1.out.size; have := HZW.out; omega : w.heap.size ≤ w1.heap.size))
  clear hb2 hb3 hrow2 HTO
  go_wp2_with fail
  refine leaves_cons (f := 21) (args := #[.pointer (some ⟨xb, 0, none⟩)]) (by simp) (by simp [go_sem]) ?_
  refine (unlock_deferred Tryz.muLib ⟨xb, 0, none⟩ .returning _ (cell_of_row _ _ 0 _ _ _ HX3.out) (frozen_of_row _ _ 0 _ _ HX3.out)).mono ?_
  rintro e u' w6 ⟨rfl, rfl, rfl⟩
  exact ⟨_, results_tmp2 rfl _ _ _, v2, rfl, own_lock HR3.out HX3.out (by decide), (HFW.out.trans (FB.of (FT.of_below HB3.out))).trans (FB.lock HX3.out hNx), HX3.out.set 0, (HST.out.later HB3.out).lock HX3.out hG⟩
end Go.Proofs.YteicpbcddjjceaaGreatDoor

/-
  PROVED HERE: what Digests of a store gives where it has no content: no digest.
-/
namespace Go.Proofs.YteicpbcddjjceaaGreatDoor
open Go.RowKit Go.Shelf Go.Maps Go.Sort
attribute [local go_sem] Oper.semAt_some
/-- The sequence's value that is none. -/
def encN : Empty → Array Value := fun x => x.elim
set_option maxRecDepth 100000 in
set_option maxHeartbeats 2000000 in
theorem keys1_in (F : Fence) (n : Nat) (hf : F.fn 93) (hro : F.round = none) (l Bm b nn : Nat) (J Jx : List Empty → World → Prop)
    (W : World) (hJ : AbidesFrom W.heap.size J) (hm : W.cell? ⟨Bm, 0, none⟩ = some (.map (some b))) (hown : CM W b nn (.map [])) (h0 : J [] W) :
    CallsIn F n Tryz.prog 93 #[.func (.yield l) #[] #[], .pointer (some ⟨Bm, 0, none⟩)] W fun e W' => (∃ v, e = .returned v) ∧
      ((∃ xs, True ∧ J xs W') ∨ (∃ pre, True ∧ Jx pre W')) := by
  have hz71 := (zero_of_info Tryz.info72).1
  refine callsIn_of_wp Tryz.func93 rfl hf ?_ hro
  simp only [Tryz.ntmps93, List.size_toArray, List.length_cons, List.length_nil, Nat.reduceAdd, Nat.reduceSub, Array.replicate_succ, Array.replicate_zero, List.push_toArray, List.append_toArray, List.nil_append, List.cons_append]
  gi_wp2_with (first
    | (gi_at_range; refine wpListIn_range_own _ rfl _ 119 rfl 72 59 dig_keyed Tryz.underlying119 _ b nn _ rfl hown ?_; intro w0 hrg0 hg0 hs0)
    | gi_in)
  go_frame
  gi_loopw [] (fun wr => ∃ (left : Lit → Bool) (cnt : Nat), wr.ranges Tryz.prog 72 heldR b W.heap.size nn (.map []) left cnt ∧ (∀ kl, left kl = false) ∧ J [] wr)
    (fun wr => wr.rangeLeft b W.heap.size)
  case atStart =>
    exact ⟨_, _, hrg0, fun kl => rfl, hJ [] W w0 none h0 hg0 (fun r e => by cases e)⟩
  case round =>
    obtain ⟨left, cnt, hrg, hl0, hJs⟩ := hrel
    gi_wp2_with (first
      | (gi_at_next; refine wpListIn_next_ranges _ rfl _ rfl 72 dig_keyed heldR (fun c : Value => c) (fun c : Value => c) (fun key kl hk => ⟨key, rfl⟩) (fun v y hv => ⟨v, rfl⟩) b W.heap.size nn _ _ _ rfl hrg ?_ ?_)
      | gi_in)
    intro _
    gi_wp2
    go_end0
    exact ⟨⟨_, rfl⟩, .inl ⟨[], trivial, hJs⟩⟩
theorem keys_in (F : Fence) (n : Nat) (hf : F.fn 51) (hro : F.round = none) (mb : Option Nat) (w : World) :
    CallsIn F n Tryz.prog 51 #[.map mb] w fun e w' => e = .returned (.func (.func 93) #[] #[.pointer (some ⟨w.heap.size, 0, none⟩)]) ∧ w' = w.alloc (.cells #[.map mb] 119) := by
  refine callsIn_of_wp Tryz.func51 rfl hf ?_ hro
  simp only [Tryz.ntmps51, List.size_toArray, List.length_cons, List.length_nil, Nat.reduceAdd, Nat.reduceSub, Array.replicate_succ, Array.replicate_zero, List.push_toArray, List.append_toArray, List.nil_append, List.cons_append]
  gi_wp2
  go_ret
  exact ⟨rfl, rfl⟩
theorem keys_stops (F : Fence) (n : Nat) (hf : F.fn 93) (hro : F.round = none) (Bm b nn : Nat) (w : World) (hm : w.cell? ⟨Bm, 0, none⟩ = some (.map (some b))) (hown : CM w b nn (.map [])) :
    SeqStopsK F n Tryz.prog 93 #[.pointer (some ⟨Bm, 0, none⟩)] encN KeepsWalks (fun _ => True) (fun _ => True) 0 w := fun l J Jx W hW hJ _ _ h0 =>
  keys1_in F n hf hro l Bm b nn J Jx W hJ (cell_later hW hm) (owns_same hown (hW.block b hown.lt)) h0
theorem nil_of (xs : List Empty) : xs = [] := by
  cases xs with
  | nil => rfl
  | cons x _ => exact x.elim
/-- Between two rounds of AppendSeq. -/
def DI (w : World) (_ : List Empty) (W : World) : Prop := W.heap[w.heap.size]? = some (.cells #[.slice none 0 0] 69 (0, 0)) ∧ Below w.heap.size w W
theorem di_own (w : World) (B : Nat) (hB : w.heap.size ≤ B) : OwnFrom B (DI w) := by
  rintro pre X Y row ⟨h1, h3⟩ hgr hr
  refine ⟨(hgr.block _ (lt_heap h1) (fun e => by
    obtain ⟨o, x2, x3⟩ := (hr _ e.symm).2
    rw [h1] at x2
    cases x2
    cases x3)).trans h1, h3.grown hgr h3.size (fun k e => by have := (hr k e).1; omega)⟩
set_option maxRecDepth 100000 in
set_option maxHeartbeats 4000000 in
theorem appendSeqD_in (n : Nat) (hn : 5 ≤ n) (g : Nat) (lb : Array Value) (eg : ∀ args w, (callFunc g args).run Tryz.prog w = .ok (.enter g args) w) (w : World)
    (hseq : SeqStopsK Fence.wide (n - 1) Tryz.prog g lb encN KeepsWalks (fun _ => True) (fun _ => True) 0 w) :
    CallsIn Fence.wide n Tryz.prog 144 #[.slice none 0 0, .func (.func g) #[] lb] w fun e w' => e = .returned (.slice none 0 0) ∧ Below w.heap.size w w' := by
  refine callsIn_of_wp_marks Tryz.func144 rfl trivial ?_ rfl
  simp only [Tryz.ntmps144, List.size_toArray, List.length_cons, List.length_nil, Nat.reduceAdd, Nat.reduceSub, Array.replicate_succ, Array.replicate_zero, List.push_toArray, List.append_toArray, List.nil_append, List.cons_append]
  gi_wp2_with fail
  obtain ⟨w1, hw1⟩ : ∃ w1, w1 = w.alloc (.cells #[.slice none 0 0] 69) := ⟨_, rfl⟩
  have hb1 : Below w.heap.size w w1 := by rw [hw1]; exact (Below.refl _ _).alloc (Nat.le_refl _) _
  have hx1 : w1.heap[w.heap.size]? = some (.cells #[.slice none 0 0] 69 (0, 0)) := by rw [hw1]; exact heap_alloc_new _ _
  have hs1 : w1.heap.size = w.heap.size + 1 := by rw [hw1, size_alloc]
  rw [← hw1]
  refine wpIn_rangeFunc_ownH (F := Fence.wide) (n := n) rfl (by omega) (gf := g) (lb := lb) rfl trivial eg hseq KeepsWalks.trans (walksK_b (w := w1)) hb1 (fun x => x.elim)
    (DI w) (fun _ _ _ => False) (di_own w _ (by omega)) (fun _ _ _ _ _ h _ _ => h.elim)
    ⟨hx1, hb1⟩ (fun _ _ _ => True) (fun _ _ _ _ _ _ _ _ _ => trivial) ?assign ?body ?done ?stop
  case assign =>
    intro l pre x
    exact x.elim
  case body =>
    intro l pre x
    exact x.elim
  case done =>
    rintro D xs W hD hS ⟨i1, i3⟩ hK
    have ce := cell_of_row _ _ 0 _ _ _ i1
    have HI3 := hide i3
    have HI1 := hide i1
    clear i1 i3
    gi_wp2
    refine ⟨by simp, .inl ⟨_, _, rfl, run_takeDeferred hK, ?_⟩⟩
    exact ⟨_, results_tmp rfl _ _ _, rfl, HI3.out.grown (grown_put _ _ _) HI3.out.size (fun k e => by injection e with e; omega)⟩
  case stop =>
    rintro D c pre W hD _ h
    exact h.elim
set_option maxRecDepth 100000 in
set_option maxHeartbeats 1000000 in
theorem collectD_in (n : Nat) (hn : 6 ≤ n) (g : Nat) (lb : Array Value) (eg : ∀ args w, (callFunc g args).run Tryz.prog w = .ok (.enter g args) w) (w : World)
    (hseq : SeqStopsK Fence.wide (n - 1 - 1) Tryz.prog g lb encN KeepsWalks (fun _ => True) (fun _ => True) 0 w) :
    CallsIn Fence.wide n Tryz.prog 91 #[.func (.func g) #[] lb] w fun e w' => e = .returned (.slice none 0 0) ∧ Below w.heap.size w w' := by
  have f1 : Fence.wide.fn 144 := trivial
  have HA := hide (appendSeqD_in (n - 1) (by omega) g lb eg w hseq)
  refine callsIn_of_wp Tryz.func91 rfl trivial ?_ rfl
  simp only [Tryz.ntmps91, List.size_toArray, List.length_cons, List.length_nil, Nat.reduceAdd, Nat.reduceSub, Array.replicate_succ, Array.replicate_zero, List.push_toArray, List.append_toArray, List.nil_append, List.cons_append]
  gi_wp2_with fail
  refine ⟨fun _ => by omega, ?_⟩
  refine (HA.out).mono ?_
  rintro _ w1 ⟨rfl, h3⟩
  dsimp only
  gi_wp2_with fail
  go_ret
  exact ⟨rfl, h3⟩
set_option maxRecDepth 100000 in
set_option maxHeartbeats 1000000 in
theorem sortedFuncD_none (tb nn Bm : Nat) (f : Value) (w : World) (h : CM w tb nn (.map [])) (hm : w.cell? ⟨Bm, 0, none⟩ = some (.map (some tb))) :
    Calls Tryz.prog 50 #[.func (.func 93) #[] #[.pointer (some ⟨Bm, 0, none⟩)], f] w fun e w' => e = .returned (.slice none 0 0) ∧ Below w.heap.size w w' := by
  have HC := hide (callsIn_wide.1 (collectD_in 8 (by decide) 93 #[.pointer (some ⟨Bm, 0, none⟩)] (enters_of Tryz.func93 (by kernel_rfl) rfl) w (keys_stops Fence.wide 6 trivial rfl Bm tb nn w hm h)))
  clear h hm
  go_enter Tryz.func50, Tryz.ntmps50
  go_wp2_with fail
  refine (HC.out).mono ?_
  rintro _ w1 ⟨rfl, hb⟩
  dsimp only
  have HSO := hide (sortD_one none 0 0 (by decide) f w1)
  have HB := hide hb
  clear hb HC
  go_wp2_with fail
  refine (HSO.out).mono ?_
  rintro _ w2 ⟨rfl, rfl⟩
  dsimp only
  go_wp2_with fail
  go_ret
  exact ⟨rfl, HB.out⟩
set_option maxRecDepth 100000 in
set_option maxHeartbeats 1000000 in
theorem digests_none (sb : Nat) (s : PSt) (cb tb nc nt : Nat) (Dt : DataW Value) (w : World) (h : StW w sb s cb tb nc nt (.map []) Dt) :
    Calls Tryz.prog 22 #[.pointer (some ⟨sb, 0, none⟩)] w fun e w' => e = .returned (.slice none 0 0) ∧ Below w.heap.size w w' := by
  have HVL := hide (callsIn_wide.1 (keys_in Fence.wide 3 trivial rfl (some cb) w))
  have c1 := cell_of_row _ _ 1 _ _ _ h.blk
  have H := hide h.cm
  have hmf : ∀ (fn : Fn) (first cap : Array Value) (w : World), (Instr.makeFunc fn first cap).run Tryz.prog w = .ok (.func fn first cap) w := fun _ _ _ _ => rfl
  clear h
  go_enter Tryz.func22, Tryz.ntmps22
  go_wp2_with fail
  refine (HVL.out).mono ?_
  rintro _ w1 ⟨rfl, hw1⟩
  dsimp only
  have hb1 : Below w.heap.size w w1 := by rw [hw1]; exact (Below.refl _ _).alloc (Nat.le_refl _) _
  have hx1 : w1.heap[w.heap.size]? = some (.cells #[.map (some cb)] 119 (0, 0)) := by rw [hw1]; exact heap_alloc_new _ _
  have HSF := hide (fun f => sortedFuncD_none cb nc w.heap.size f w1 (owns_same H.out (hb1.block _ H.out.lt)) (cell_of_row _ _ 0 _ _ _ hx1))
  have HB1 := hide hb1
  clear hb1 hx1 hw1 HVL
  go_wp2_with fail
  refine (HSF.out _).mono ?_
  rintro _ w2 ⟨rfl, hb⟩
  dsimp only
  have HB := hide hb
  clear hb HSF
  go_wp2_with fail
  go_ret
  exact ⟨rfl, HB1.out.trans (HB.out.mono HB1.out.size)⟩
end Go.Proofs.YteicpbcddjjceaaGreatDoor

/-
  PROVED HERE: what Blobs of the program's store answers where it has no content.
-/
namespace Go.Proofs.YteicpbcddjjceaaGreatDoor
open Go.RowKit Go.MuLone
set_option maxHeartbeats 4000000 in
set_option maxRecDepth 100000 in
theorem bBlobs_none (N xb sb : Nat) (s : PSt) (cb tb nc nt : Nat) (Dt : DataW Value) (w : World) (hx : BSt w xb sb) (hG : ¬ isG xb) (hNx : N ≤ xb) (h : StW w sb s cb tb nc nt (.map []) Dt) :
    Calls Tryz.prog 7 #[.pointer (some ⟨xb, 0, none⟩)] w fun e w' => e = .returned (.tuple #[.slice none 0 0, .int .i64 0]) ∧ FB N w w' ∧ BSt w' xb sb ∧ StW w' sb s cb tb nc nt (.map []) Dt := by
  have hx : BLk w xb sb 0 := hx
  have c0 : w.cell? ⟨xb, 0, none⟩ = some (.int .i32 0) := cell_of_row _ _ 0 _ _ _ hx
  have f0 : w.frozen? ⟨xb, 0, none⟩ = false := frozen_of_row _ _ 0 _ _ hx
  obtain ⟨W, hW⟩ : ∃ W, W = w.setCell ⟨xb, 0, none⟩ (.int .i32 1) := ⟨_, rfl⟩
  have hst : StW W sb s cb tb nc nt (.map []) Dt := by rw [hW]; exact h.lock hx hG
  have hxw : BLk W xb sb 1 := by rw [hW]; exact hx.set 1
  have hfw : FB N w W := by rw [hW]; exact FB.lock hx hNx
  have HDG := hide (digests_none sb s cb tb nc nt Dt W hst)
  have HLK := hide (lock_free Tryz.muLib ⟨xb, 0, none⟩ w c0 f0)
  have HW := hide hW
  have HST := hide hst
  have HXW := hide hxw
  have HFW := hide hfw
  have c2 : W.cell? ⟨xb, 2, none⟩ = some (.pointer (some ⟨sb, 0, none⟩)) := cell_of_row _ _ 2 _ _ _ hxw
  clear hx c0 f0 hst hxw hfw hW h
  go_enter_defers Tryz.func7, Tryz.ntmps7
  go_wp2_with fail
  refine (HLK.out).mono ?_
  rintro _ W1 ⟨rfl, hW1⟩
  have hW1 : W1 = W := hW1.trans HW.out.symm
  rw [hW1]
  dsimp only
  clear hW1 HLK HW
  go_wp2_with fail
  refine (HDG.out).mono ?_
  rintro _ w1 ⟨rfl, hb1⟩
  dsimp only
  have HB1 := hide hb1
  clear hb1 HDG c2
  go_wp2_with fail
  go_loopw [4, 22] (fun lv iv wr => lv = .slice none 0 0 ∧ iv = .int .i64 0 ∧ wr = w1) (fun _ _ _ => 0)
  case atStart => exact ⟨rfl, rfl, rfl⟩
  case round =>
    obtain ⟨rfl, rfl, rfl⟩ := hrel
    go_wp2_with fail
    have HX3 := hide (HXW.out.later HB1.out)
    refine leaves_cons (f := 21) (args := #[.pointer (some ⟨xb, 0, none⟩)]) (by simp) (by simp [go_sem]) ?_
    refine (unlock_deferred Tryz.muLib ⟨xb, 0, none⟩ .returning _ (cell_of_row _ _ 0 _ _ _ HX3.out) (frozen_of_row _ _ 0 _ _ HX3.out)).mono ?_
    rintro e u' w6 ⟨rfl, rfl, rfl⟩
    exact ⟨_, results_tmp2 rfl _ _ _, rfl, (HFW.out.trans (FB.of (FT.of_below HB1.out))).trans (FB.lock HX3.out hNx), HX3.out.set 0, (HST.out.later HB1.out).lock HX3.out hG⟩
end Go.Proofs.YteicpbcddjjceaaGreatDoor

/-
  PROVED HERE: Break, Crash, Copy and NewDisk of the program, over Early's disks.
-/
namespace Go.Proofs.YteicpbcddjjceaaGreatDoor
open Go.RowKit
/-- A disk of the program, whole. -/
structure DkW (w : World) (d : Nat) (s : PSt) : Prop where
  inn : s.In w
  bd : BD w d s.b
  gl : Gl w
  low : LowS s
theorem DkW.go {w w' : World} {d : Nat} {s s' : PSt} (h : DkW w d s) (hg : PGo s s' w w') : DkW w' d s' := by
  obtain ⟨g1, g2⟩ := h.gl.go h.low hg
  refine ⟨hg.inn, ?_, g1, g2⟩
  unfold BD
  rw [hg.b]
  exact hg.keeps h.inn h.bd (by decide) (by decide) (by decide) (by decide)
theorem DkW.later {w w' : World} {d : Nat} {s : PSt} (h : DkW w d s) (hb : Below w.heap.size w w') : DkW w' d s := h.go (PGo.refl h.inn hb)
theorem bBreak_any (s : PSt) (d : Nat) (n : Int) (w : World) (h : DkW w d s) (hn : 0 ≤ n) :
    Calls Tryz.prog 15 #[.pointer (some ⟨d, 0, none⟩), .int .i64 n] w fun e w' => e = .returned (.int .i64 0) ∧ ∃ s', PGo s s' w w' ∧ s'.ds = ⟨{ s.R with left := n }, s.fs, s.fd⟩ := by
  refine (wBreak s d n w 0 (fun s1 => s1 = { s with R := { s.R with left := n } }) h.bd h.gl.err ((pdBreak s n w h.inn).mono ?_)).mono ?_
  · rintro e w' ⟨v, rfl, _, h2⟩
    exact ⟨v, rfl, h2 (by omega)⟩
  · rintro e w' ⟨rfl, _, h2⟩
    obtain ⟨s1, hg, rfl⟩ := h2 rfl
    exact ⟨rfl, _, hg, rfl⟩
theorem bCrash_any (s : PSt) (d : Nat) (paths : Int) (kv : Value) (ks : List Int) (w : World) {L C B : Nat} (h : DkW w d s) (hk : KAt s.own w kv ks) (he : Ea s.ds) (hf : DFit s.ds L C B) (hL : L ≤ 1000000) (hB : B ≤ 1000000) :
    Calls Tryz.prog 18 #[.pointer (some ⟨d, 0, none⟩), .int .i64 paths, kv] w fun e w' => e = .returned (.int .i64 0) ∧ ∃ s', PGo s s' w w' ∧ s'.ds = crD s.ds (nCr paths s.R.chg.length) ks := by
  have hLe : (s.R.chg.take (nCr paths s.R.chg.length)).foldl applyE s.R.safe = goE s.R.safe (s.R.chg.take (nCr paths s.R.chg.length)) := goE_apply _ he.inv.ne
  refine wCrash d s.b paths kv (fun w' => ∃ s', PGo s s' w w' ∧ s'.ds = crD s.ds (nCr paths s.R.chg.length) ks) w h.bd ((pdCrash s paths kv ks w h.inn hk ⟨?_, hf.chf, fun f hf' => ?_⟩ _ hLe.symm ?_).mono ?_)
  · have := hf.len
    show s.R.safe.length + s.R.chg.length ≤ 100000000
    have : s.R.safe.length + s.R.chg.length ≤ L := this
    omega
  · obtain ⟨a, b, c⟩ := hf.dat f hf'
    exact ⟨by have : (s.fd f).1.size ≤ B := a; omega, b, c⟩
  · intro e he'
    rcases goE_mem _ he' with he' | ⟨c, hc, e1⟩
    · exact hf.isafe e he'
    · rw [e1]
      exact hf.ichg c (List.mem_of_mem_take hc)
  · rintro e w' ⟨rfl, s', hg, h1, h2, h3⟩
    refine ⟨rfl, s', hg, ?_⟩
    unfold PSt.ds crD
    rw [h1, h2, h3]
/-- A disk keeps no more files than those under its paths. -/
def PSt.cut (s : PSt) : PSt := { s with fs := s.R.now.map DE.blk }
theorem PSt.In.cut {s : PSt} {w : World} (h : s.In w) (h1 : s.R.safe = s.R.now) (h2 : s.R.chg = []) : s.cut.In w := by
  have hm : ∀ f ∈ s.cut.fs, f ∈ s.fs := fun f hf => by
    obtain ⟨e, he, rfl⟩ := List.mem_map.1 hf
    exact h.inow e he
  refine ⟨h.is, fun f hf => h.fds f (hm f hf), fun f hf g hg => h.sep f (hm f hf) g (hm g hg), fun e he => List.mem_map.2 ⟨e, he, rfl⟩, fun e he => ?_, fun c hc => ?_⟩
  · have he : e ∈ s.R.safe := he
    rw [h1] at he
    exact List.mem_map.2 ⟨e, he, rfl⟩
  · have hc : c ∈ s.R.chg := hc
    rw [h2] at hc
    cases hc
theorem PSt.In.cutOwn {s : PSt} {w : World} (h : s.In w) {k : Nat} (hk : s.cut.own k) : s.own k := by
  have hm : ∀ f ∈ s.cut.fs, f ∈ s.fs := fun f hf => by
    obtain ⟨e, he, rfl⟩ := List.mem_map.1 hf
    exact h.inow e he
  rcases hk with e | e | e | e | e | ⟨f, hf, e⟩
  · exact .inl e
  · exact .inr (.inl e)
  · exact .inr (.inr (.inl e))
  · exact .inr (.inr (.inr (.inl e)))
  · exact .inr (.inr (.inr (.inr (.inl (hm _ e)))))
  · exact .inr (.inr (.inr (.inr (.inr ⟨f, hm f hf, e⟩))))
theorem find_mem : ∀ {l : List DE}, Rise l → ∀ e ∈ l, findE e.path l = some e.blk
  | [], _, e, he => by cases he
  | a :: l, hr, e, he => by
    have h1 := List.pairwise_cons.1 hr
    show (if a.path = e.path then some a.blk else findE e.path l) = _
    rcases List.mem_cons.1 he with rfl | he
    · rw [if_pos rfl]
    · rw [if_neg (less_ne (h1.1 e he))]
      exact find_mem h1.2 e he
theorem three_rise (y x z : Nat) : Rise [⟨indexP, y⟩, ⟨journalP, x⟩, ⟨layoutP, z⟩] := by
  have a1 : lessB indexP journalP = true := by rw [less_eq]; decide
  have a2 : lessB indexP layoutP = true := by rw [less_eq]; decide
  have a3 : lessB journalP layoutP = true := by rw [less_eq]; decide
  simp [Rise, a1, a2, a3]
/-- A copy of a disk at rest is one. -/
theorem copy_er {s so : PSt} {ψ : ByteArray → Nat} {w : World} (h : Er s.ds) (hin : ∀ e ∈ s.R.now, e.blk ∈ s.fs) (hso : so.In w) (hR : so.R = ⟨s.R.room, so.R.now, so.R.now, [], 0, -1⟩) (hc : CpRel s so ψ (fun _ => false)) (hr0 : 0 ≤ s.R.room) (hr1 : s.R.room ≤ 9223372036854775807) : Er so.cut.ds ∧ DFit so.cut.ds 6 0 36 ∧ so.R.left = -1 ∧ so.R.room = s.R.room := by
  have hsafe : so.R.safe = so.R.now := by rw [hR]
  have hchg : so.R.chg = [] := by rw [hR]
  have hleft : so.R.left = -1 := by rw [hR]
  have hroom : so.R.room = s.R.room := by rw [hR]
  have hcount : so.R.count = 0 := by rw [hR]
  have hrise : Rise so.R.now := PM.rise hso.is.now (Maps.string_keyed Tryz.underlying9)
  have hrs : Rise s.R.now := by
    have := h.ea.rise
    rw [← h.now] at this
    exact this
  have hfnd : ∀ x, findE x so.R.now = (findE x s.R.now).map fun _ => ψ x := fun x => by simpa using hc.fnd x
  have hback : ∀ e ∈ so.R.now, ∃ e' ∈ s.R.now, e'.path = e.path ∧ e.blk = ψ e.path ∧ so.fd e.blk = ((s.fd e'.blk).1, ((s.fd e'.blk).1.size : Int)) := fun e he => by
    have h1 := find_mem hrise e he
    rw [hfnd] at h1
    cases h2 : findE e.path s.R.now with
    | none => rw [h2] at h1; cases h1
    | some f =>
      rw [h2] at h1
      obtain ⟨e', he', hp, hb⟩ := findE_some h2
      injection h1 with h1
      refine ⟨e', he', hp, h1.symm, ?_⟩
      rw [← h1, hb]
      exact hc.dat _ f rfl h2
  have hsix : ∀ e ∈ so.R.now, e.path ∈ six := fun e he => by
    obtain ⟨e', he', hp, _⟩ := hback e he
    have := h.ea.six 0 e'
    rw [List.take_zero] at this
    have h3 : e' ∈ s.ds.R.safe := by rw [← h.now]; exact he'
    rw [← hp]
    exact this h3
  have hdat : ∀ f ∈ so.cut.ds.fs, FitB 36 (so.cut.ds.fd f) := fun f hf => by
    obtain ⟨e, he, rfl⟩ := List.mem_map.1 hf
    obtain ⟨e', he', _, _, hd⟩ := hback e he
    show FitB 36 (so.fd e.blk)
    rw [hd]
    have := (h.ea.dat e'.blk (hin e' he')).1
    exact ⟨this, by simp, Int.le_refl _⟩
  have hinv : Inv so.cut.ds.R := ⟨by show so.R.now = goE so.R.safe so.R.chg; rw [hsafe, hchg]; rfl, fun e he => by
    have he : e ∈ so.R.safe := he
    rw [hsafe] at he
    exact six_ne (hsix e he)⟩
  have hnow : ∀ m, goE so.cut.ds.R.safe (so.cut.ds.R.chg.take m) = so.R.now := fun m => by
    show goE so.R.safe (so.R.chg.take m) = so.R.now
    rw [hsafe, hchg, List.take_nil]
    rfl
  have hrs2 : Rise so.cut.ds.R.safe := by show Rise so.R.safe; rw [hsafe]; exact hrise
  refine ⟨⟨⟨fun m => ?_, fun m e he => ?_, hdat, hrs2, hinv⟩, hchg⟩, ?_, hleft, hroom⟩
  · rw [hnow m]
    rcases h.or with hn | ⟨y, x, z, e, fx, fy, fz⟩
    · refine .inl ?_
      have hn : findE layoutP s.R.now = none := hn
      rw [hfnd, hn]
      rfl
    · refine .inr ?_
      have e : s.R.now = [⟨indexP, y⟩, ⟨journalP, x⟩, ⟨layoutP, z⟩] := e
      have n1 : indexP ≠ journalP := by decide
      have n2 : indexP ≠ layoutP := by decide
      have n3 : journalP ≠ layoutP := by decide
      have f1 : findE indexP s.R.now = some y := by rw [e]; rfl
      have f2 : findE journalP s.R.now = some x := by rw [e]; simp [findE, n1]
      have f3 : findE layoutP s.R.now = some z := by rw [e]; simp [findE, n2, n3]
      refine ⟨ψ indexP, ψ journalP, ψ layoutP, rise_ext hrise (three_rise _ _ _) (fun p => ?_), ?_, ?_, ?_⟩
      · rw [hfnd, e]
        by_cases c1 : indexP = p
        · subst c1; simp [findE]
        · by_cases c2 : journalP = p
          · subst c2; simp [findE, c1]
          · by_cases c3 : layoutP = p
            · subst c3; simp [findE, c1, c2]
            · simp [findE, c1, c2, c3]
      · have := hc.dat journalP x rfl f2
        rw [show s.fd x = (⟨#[]⟩, 0) from fx] at this
        exact this
      · have := hc.dat indexP y rfl f1
        rw [show s.fd y = (emptyT, 23) from fy] at this
        exact this
      · have := hc.dat layoutP z rfl f3
        rw [show s.fd z = (layoutT, 13) from fz] at this
        exact this
  · rw [hnow m] at he
    exact hsix e he
  · have hlen := six_len hrise hsix
    have hib : ∀ e ∈ so.R.now, e.blk ∈ so.cut.fs := fun e he => List.mem_map.2 ⟨e, he, rfl⟩
    exact ⟨by show so.R.safe.length + so.R.chg.length ≤ 6; rw [hsafe, hchg]; simpa using hlen, by show 0 ≤ so.R.count; omega, by show so.R.count ≤ _; omega, by show -1 ≤ so.R.left; omega, by show so.R.left ≤ _; omega, by show 0 ≤ so.R.room; omega, by show so.R.room ≤ _; omega, hdat, (fun c hc => by have hc : c ∈ so.R.chg := hc; rw [hchg] at hc; cases hc), hinv, hib, (fun e he => by have he : e ∈ so.R.safe := he; rw [hsafe] at he; exact hib e he), (fun c hc => by have hc : c ∈ so.R.chg := hc; rw [hchg] at hc; cases hc), hrs2⟩
end Go.Proofs.YteicpbcddjjceaaGreatDoor

/-
  PROVED HERE: what reopened of the statement does: a disk that breaks and crashes while it is opened, and its copy, opened.
-/
namespace Go.Proofs.YteicpbcddjjceaaGreatDoor
open Go.RowKit
theorem bCopy_any (s : PSt) (d : Nat) (w : World) {C : Nat} (h : DkW w d s) (he : Er s.ds) (hf : DFit s.ds 6 C 36) :
    Calls Tryz.prog 19 #[.pointer (some ⟨d, 0, none⟩)] w fun e w' => ∃ d' so, e = .returned (.tuple #[.pointer (some ⟨d', 0, none⟩), .int .i64 0]) ∧ Below w.heap.size w w' ∧ w.heap.size ≤ d' ∧ DkW w' d' so ∧ (∀ k, so.own k → w.heap.size ≤ k) ∧ Er so.ds ∧ DFit so.ds 6 0 36 ∧ so.R.left = -1 ∧ so.R.room = s.R.room := by
  have hnl : s.R.now.length ≤ 6 := hf.nowLen
  refine (wCopy d s.b (fun g w' => ∃ so : PSt, so.b = g ∧ Below w.heap.size w w' ∧ so.In w' ∧ (∀ k, so.own k → w.heap.size ≤ k) ∧ Er so.ds ∧ DFit so.ds 6 0 36 ∧ so.R.left = -1 ∧ so.R.room = s.R.room) w h.bd ((pdCopy s w h.inn hf.r0 (by omega) (fun f hf' => by have : (s.fd f).1.size ≤ 36 := (hf.dat f hf').1; omega)).mono ?_)).mono ?_
  · rintro e w' ⟨so, ψ, rfl, hb, hin, hown, hR, hc⟩
    obtain ⟨a1, a2, a3, a4⟩ := copy_er he h.inn.inow hin hR hc hf.r0 hf.r1
    exact ⟨so.b, rfl, so.cut, rfl, hb, hin.cut (by rw [hR]) (by rw [hR]), fun k hk => hown k (hin.cutOwn hk), a1, a2, a3, a4⟩
  · rintro e w' ⟨g, w1, rfl, rfl, so, rfl, hb, hin, hown, e1, e2, e3, e4⟩
    have hba := hb.alloc hb.size (.cells #[.pointer (some ⟨so.b, 0, none⟩)] 49)
    exact ⟨w1.heap.size, so, rfl, hba, hb.size, ⟨hin.later ((Below.refl _ _).alloc (Nat.le_refl _) _), heap_alloc_new _ _, h.gl.later hba, fun k hk hG => by have := hown k hk; have := h.gl.lt hG; omega⟩, hown, e1, e2, e3, e4⟩
theorem DFit.dat36 {D : DS} {L C B : Nat} (h : DFit D L C B) (hd : ∀ f ∈ D.fs, FitB 36 (D.fd f)) : DFit D L C 36 := ⟨h.len, h.c0, h.c1, h.l0, h.l1, h.r0, h.r1, hd, h.chf, h.inv, h.inow, h.isafe, h.ichg, h.rise⟩
theorem open_fit {D D' : DS} {k : Int} {C : Nat} (h : Er D) (hr : 36 ≤ D.R.room) (hf : DFit D 6 C 36) (hb : OpR D k D') : DFit D' 30 (C + 30) 36 := by
  obtain ⟨rfl, _, ea, _⟩ := open_pure h hr hb
  have hnl := hf.nowLen
  have hrl := rmS_len (fun _ => true) D.R.now
  have hrf := rmS_len foreignB D.R.now
  rcases hb with ⟨_, h2⟩ | ⟨_, h2⟩
  · rcases h2 with ⟨_, h2, _⟩ | ⟨_, k1, m, D1, h3, h4⟩
    · exact absurd rfl h2
    · have f1 := hf.ran h3
      rcases h4 with ⟨h4, h5, _⟩ | ⟨_, m2, D2, h5, h6⟩
      · exact absurd h5.symm h4
      · have f2 := f1.ran h5
        rcases h6 with ⟨_, rfl⟩ | ⟨h6, _⟩
        · have hw : (wrS beginFl).length = 10 := by rw [wrS_begin]; rfl
          rw [hw] at f2
          exact (f2.dat36 ea.dat).mono (by omega) (by omega) (Nat.le_refl _)
        · exact absurd rfl h6
  · obtain ⟨k1, m, D1, h3, h4⟩ := h2
    have f1 := hf.ran h3
    rcases h4 with ⟨h4, h5, _⟩ | ⟨_, h5⟩
    · exact absurd h5.symm h4
    · have f2 := f1.st h5
      exact (f2.dat36 ea.dat).mono (by omega) (by omega) (Nat.le_refl _)
theorem PGo.low {N : Nat} {s s' : PSt} {w w' : World} (hg : PGo s s' w w') (ho : ∀ k, s.own k → N ≤ k) (hN : N ≤ w.heap.size) : Below N w w' := ⟨hg.gr.os, hg.gr.tape, hg.gr.output, hg.gr.size, fun k hk => hg.gr.block k (by omega) (fun e => by have := ho k e; omega)⟩
theorem PGo.ownN {N : Nat} {s s' : PSt} {w w' : World} (hg : PGo s s' w w') (ho : ∀ k, s.own k → N ≤ k) (hN : N ≤ w.heap.size) : ∀ k, s'.own k → N ≤ k := fun k hk => (hg.own k hk).elim (ho k) (fun e => by omega)
/-- A disk that breaks at a later step. -/
theorem Er.brk {D : DS} {C : Nat} (h : Er D) (hf : DFit D 6 C 36) (n : Nat) (hn : n < 40) : Er ⟨{ D.R with left := (n : Int) }, D.fs, D.fd⟩ ∧ DFit ⟨{ D.R with left := (n : Int) }, D.fs, D.fd⟩ 6 C 36 :=
  ⟨⟨⟨h.ea.each, h.ea.six, h.ea.dat, h.ea.rise, ⟨h.ea.inv.go, h.ea.inv.ne⟩⟩, h.chg⟩, ⟨hf.len, hf.c0, hf.c1, by show (-1 : Int) ≤ (n : Int); omega, by show (n : Int) ≤ _; omega, hf.r0, hf.r1, hf.dat, hf.chf, ⟨hf.inv.go, hf.inv.ne⟩, hf.inow, hf.isafe, hf.ichg, hf.rise⟩⟩
theorem Er.paths {D : DS} (h : Er D) : ∀ e ∈ D.R.now, e.path.size ≤ 9223372036854775807 := fun e he => by
  have h1 := h.ea.six 0 e
  rw [List.take_zero] at h1
  rw [h.now] at he
  have h2 := six_path (h1 he)
  simp only [isPathB, Bool.and_eq_true, decide_eq_true_eq] at h2
  omega
theorem cell_low2 {N g o : Nat} {w w' : World} {u : Value} (hb : Below N w w') (hg : g < N) (h : w.cell? ⟨g, o, none⟩ = some u) : w'.cell? ⟨g, o, none⟩ = some u := (World.cell?_of_block (a := ⟨g, o, none⟩) (hb.block g hg)).trans h
theorem KAt.low {N : Nat} {w w' : World} {kv : Value} {ks : List Int} (h : KAt (fun k => N ≤ k) w kv ks) (hb : Below N w w') : KAt (fun k => N ≤ k) w' kv ks := by
  obtain ⟨oa, c, e, hk⟩ := h
  refine ⟨oa, c, e, fun j hj => ?_⟩
  obtain ⟨g, o, e2, hn, hc⟩ := hk j hj
  exact ⟨g, o, e2, hn, cell_low2 hb (by omega) hc⟩
/-- The falls that a statement hands in. -/
structure FallV where
  n : Int
  paths : Int
  kv : Value
  ks : List Int
def fall0 : FallV := ⟨0, 0, .slice none 0 0, []⟩
def FallV.ok (f : FallV) : Prop := -9223372036854775808 ≤ f.n ∧ f.n ≤ 9223372036854775807
/-- They lie below N. -/
def FallsAt (N : Nat) (w : World) (oa : Option Addr) (l : List FallV) : Prop := ∀ i, i < l.length → ∃ g o, oa = some ⟨g, o, none⟩ ∧ g < N ∧ w.cell? ⟨g, o + i * 3, none⟩ = some (.int .i64 (l.getD i fall0).n) ∧ w.cell? ⟨g, o + i * 3 + 1, none⟩ = some (.int .i64 (l.getD i fall0).paths) ∧ w.cell? ⟨g, o + i * 3 + 2, none⟩ = some (l.getD i fall0).kv ∧ KAt (fun k => N ≤ k) w (l.getD i fall0).kv (l.getD i fall0).ks ∧ (l.getD i fall0).ok
theorem FallsAt.low {N : Nat} {w w' : World} {oa : Option Addr} {l : List FallV} (h : FallsAt N w oa l) (hs : ∀ k, k < N → w'.heap[k]? = w.heap[k]?) : FallsAt N w' oa l := fun i hi => by
  obtain ⟨g, o, e, hg, c0, c1, c2, ⟨oa2, c, e2, hk⟩, hok⟩ := h i hi
  refine ⟨g, o, e, hg, (World.cell?_of_block (hs g hg)).trans c0, (World.cell?_of_block (hs g hg)).trans c1, (World.cell?_of_block (hs g hg)).trans c2, ⟨oa2, c, e2, fun j hj => ?_⟩, hok⟩
  obtain ⟨g2, o2, e3, hn, hc⟩ := hk j hj
  exact ⟨g2, o2, e3, hn, (World.cell?_of_block (hs g2 (by omega))).trans hc⟩
/-- Between two falls. -/
structure Rp (N : Nat) (w : World) (d : Nat) (s : PSt) (C : Nat) : Prop where
  dk : DkW w d s
  own : ∀ k, s.own k → N ≤ k
  er : Er s.ds
  fit : DFit s.ds 6 C 36
  left : s.R.left = -1
  room : 1000000 ≤ s.R.room
set_option maxHeartbeats 4000000 in
set_option maxRecDepth 100000 in
theorem reopened_any (N : Nat) (s : PSt) (d : Nat) (oa : Option Addr) (cc : Nat) (l : List FallV) (w : World) (C0 : Nat) (h : Rp N w d s C0) (hl : FallsAt N w oa l) (hn : l.length ≤ 1048576) (hC : C0 ≤ 1000000) (hNw : N ≤ w.heap.size) :
    Calls Tryz.prog 6 #[.pointer (some ⟨d, 0, none⟩), .slice oa l.length cc] w fun e w' => ∃ xb sb cb tb c so, e = .returned (.tuple #[.pointer (some ⟨xb, 0, none⟩), .pointer (some ⟨c, 0, none⟩)]) ∧ Below N w w' ∧ BSt w' xb sb ∧ N ≤ xb ∧ (N ≤ sb ∧ N ≤ cb) ∧ StW w' sb so cb tb 0 0 (.map []) (.map []) ∧ DkW w' c so ∧ (∀ k, so.own k → N ≤ k) ∧ Rest3 so.ds ∧ DFit so.ds 100 100 36 ∧ so.R.left = -1 ∧ 1000000 ≤ so.R.room := by
  have H := hide h
  have HL := hide hl
  clear h hl
  go_enter Tryz.func6, Tryz.ntmps6
  go_wp2_with fail
  go_loopw [6] (fun iv wr => ∃ (j : Nat) (s1 : PSt), iv = .int .i64 ((j : Nat) : Int) ∧ j ≤ l.length ∧ Rp N wr d s1 (C0 + 30 * j) ∧ Below N w wr) (fun iv _ => l.length - (intOf iv).toNat)
  case atStart => exact ⟨0, s, rfl, Nat.zero_le _, H.out, Below.refl _ _⟩
  case round =>
    obtain ⟨j, s1, rfl, hj, hrp, hbl⟩ := hrel
    have hN1 : N ≤ wr.heap.size := Nat.le_trans hNw hbl.size
    have HRP := hide hrp
    have HBL := hide hbl
    have hls := HL.out.low hbl.block
    by_cases hlt : j < l.length
    · obtain ⟨g, o, rfl, hg, c0, c1, c2, hka, hok⟩ := hls j hlt
      generalize l.getD j fall0 = F at *
      have d1 : decide (((j : Nat) : Int) < ((l.length : Nat) : Int)) = true := decide_eq_true (by omega)
      have HPK := hide (pick_any F.n 40 (by decide) (by decide) hok.1 hok.2)
      have HKA := hide hka
      have HLS := hide hls
      clear hrp hbl hka hls
      go_wp2_with fail
      refine (HPK.out _).mono ?_
      rintro _ wp ⟨rfl, hwp⟩
      rw [hwp]
      dsimp only
      have hpl := pickN_lt F.n 40 (by decide)
      generalize pickN F.n 40 = n at *
      clear hwp HPK
      have HBR := hide (bBreak_any s1 d (n : Int) wr HRP.out.dk (by omega))
      go_wp2_with fail
      refine (HBR.out).mono ?_
      rintro _ w1 ⟨rfl, s2, hg2, hd2⟩
      dsimp only
      have hdk2 := HRP.out.dk.go hg2
      obtain ⟨er2', fit2'⟩ := HRP.out.er.brk HRP.out.fit n hpl
      have hbe : Below N wr w1 := hg2.low HRP.out.own hN1
      have hN2 : N ≤ w1.heap.size := Nat.le_trans hN1 hg2.gr.size
      have ho2 := hg2.ownN HRP.out.own hN1
      have er2 : Er s2.ds := by rw [hd2]; exact er2'
      have fit2 : DFit s2.ds 6 (C0 + 30 * j) 36 := by rw [hd2]; exact fit2'
      clear er2' fit2'
      have hroom2 : s2.R.room = s1.R.room := congrArg (fun D : DS => D.R.room) hd2
      have hnl2 : s2.R.now.length ≤ 6 := fit2.nowLen
      have HOP := hide (bOpen_any s2 w1 d hdk2.inn hdk2.gl hdk2.low fit2 (show Bud _ _ _ from ⟨by omega, by omega, by omega⟩) er2.paths er2.case hdk2.bd)
      have HB2 := hide (HBL.out.trans hbe)
      have HE2 := hide er2
      have HF2 := hide fit2
      have HO2 := hide ho2
      have HDK2 := hide hdk2
      have HR2 := hide (show 1000000 ≤ s2.R.room by rw [hroom2]; exact HRP.out.room)
      have HC1 := hide (cell_low2 hbe hg c1)
      have HC2 := hide (cell_low2 hbe hg c2)
      have HKA2 := hide (KAt.low HKA.out hbe)
      clear hd2 hg2 hdk2 er2 fit2 hbe ho2 hroom2 hnl2 HBR c0 c1 c2
      go_wp2_with fail
      refine (HOP.out).mono ?_
      rintro _ w2 ⟨k, s3, sv, rfl, hg3, hop3, -, -⟩
      dsimp only
      obtain ⟨rfl, kp3, ea3, -⟩ := open_pure HE2.out (by have : 1000000 ≤ s2.ds.R.room := HR2.out; omega) hop3
      have fit3 := open_fit HE2.out (by have : 1000000 ≤ s2.ds.R.room := HR2.out; omega) HF2.out hop3
      have hbe3 : Below N w1 w2 := hg3.low HO2.out hN2
      have hN3 : N ≤ w2.heap.size := Nat.le_trans hN2 hg3.gr.size
      have ho3 := hg3.ownN HO2.out hN2
      have hdk3 := HDK2.out.go hg3
      have hka3 := KAt.low HKA2.out hbe3
      have hdr : Below w2.heap.size w2 w2.drew := (Below.refl _ _).drew
      have hdrN : Below N w2 w2.drew := (Below.refl _ _).drew
      have HCR := hide (bCrash_any s3 d F.paths F.kv F.ks w2.drew (hdk3.later hdr) ((KAt.low hka3 hdrN).mono ho3) ea3 fit3 (by omega) (by omega))
      have hS0 := And.intro (cell_low2 hdrN hg (cell_low2 hbe3 hg HC1.out)) (cell_low2 hdrN hg (cell_low2 hbe3 hg HC2.out))
      obtain ⟨er4, fit4⟩ := crash_er ea3 fit3 (nCr F.paths s3.R.chg.length) F.ks
      have HB3 := hide ((HB2.out.trans hbe3).trans hdrN)
      have HE4 := hide er4
      have HF4 := hide fit4
      have HO3 := hide ho3
      have HDK3 := hide (hdk3.later hdr)
      have HR3 := hide (show 1000000 ≤ s3.ds.R.room by rw [kp3.1]; exact HR2.out)
      clear hop3 kp3 ea3 fit3 hbe3 ho3 hdk3 hka3 er4 fit4 hg3 HOP HC1 HC2 hdr hdrN
      go_wp2_with fail
      go_region_held3 (fun w' => w'.cell? ⟨g, o + j * 3 + 1, none⟩ = some (.int .i64 F.paths) ∧ w'.cell? ⟨g, o + j * 3 + 2, none⟩ = some F.kv) (first | exact hS0 | exact hS3 | go_keep) ((go_at_call 18; refine (HCR.out).mono ?_; rintro _ w3 ⟨rfl, s4, hg4, hd4⟩; have hb4 : Below N w2.drew w3 := hg4.low HO3.out hN3; have hS3 := And.intro (cell_low2 hb4 hg hS0.1) (cell_low2 hb4 hg hS0.2)))
      have hrp4 : Rp N w3 d s4 (C0 + 30 * (j + 1)) := by
        refine ⟨HDK3.out.go hg4, hg4.ownN HO3.out hN3, ?_, ?_, ?_, ?_⟩
        · rw [hd4]; exact HE4.out
        · rw [hd4]; exact HF4.out.mono (Nat.le_refl _) (by omega) (Nat.le_refl _)
        · exact congrArg (fun D : DS => D.R.left) hd4
        · have : s4.R.room = s3.R.room := congrArg (fun D : DS => D.R.room) hd4
          rw [this]
          exact HR3.out
      have HRP4 := hide hrp4
      have HB4 := hide (HB3.out.trans hb4)
      clear hd4 hg4 hb4 hS0 hS3 hrp4 HCR
      go_wp2_with fail
      exact ⟨⟨j + 1, s4, by simp, by omega, HRP4.out, HB4.out⟩, by simp only [intOf]; omega⟩
    · have hjl : j = l.length := by omega
      have d1 : decide (((j : Nat) : Int) < ((l.length : Nat) : Int)) = false := decide_eq_false (by omega)
      have HCP := hide (bCopy_any s1 d wr HRP.out.dk HRP.out.er HRP.out.fit)
      clear hrp hbl hls hjl
      go_wp2_with fail
      refine (HCP.out).mono ?_
      rintro _ w1 ⟨c, so, rfl, hb1, hlc, hdk, hown, her, hfit, hleft, hroom⟩
      dsimp only
      have hnl : so.R.now.length ≤ 6 := hfit.nowLen
      have hrr : 1000000 ≤ so.R.room := by rw [hroom]; exact HRP.out.room
      have HOP := hide (bOpen_any so w1 c hdk.inn hdk.gl hdk.low hfit (show Bud _ _ _ from ⟨by omega, by omega, by omega⟩) her.paths her.case hdk.bd)
      have HB1 := hide hb1
      have HDK := hide hdk
      have HOW := hide (fun k hk => Nat.le_trans hN1 (hown k hk))
      have HER := hide her
      have HFI := hide hfit
      have HLE := hide hleft
      have HRR := hide hrr
      have hN2 : N ≤ w1.heap.size := Nat.le_trans hN1 hb1.size
      clear hb1 hdk hown her hfit hleft hroom hnl hrr HCP
      go_wp2_with fail
      refine (HOP.out).mono ?_
      rintro _ w2 ⟨k, s3, sv, rfl, hg3, hop3, hok, hno⟩
      dsimp only
      obtain ⟨rfl, kp3, ea3, r3⟩ := open_pure HER.out (by have : 1000000 ≤ so.ds.R.room := HRR.out; omega) hop3
      have fit3 := open_fit HER.out (by have : 1000000 ≤ so.ds.R.room := HRR.out; omega) HFI.out hop3
      obtain ⟨xb, sb, cb, tb, rfl, hbst, hlsb, hlxb, hst⟩ := hok rfl
      have HS := hide hst
      have HBST := hide hbst
      have HG3 := hide hg3
      have HR3 := hide (r3 HLE.out)
      have HF3 := hide fit3
      have HKP := hide kp3
      clear hop3 kp3 ea3 r3 fit3 hok hno hst hbst hg3 HOP
      go_wp2_with fail
      refine bodyPost_ret (results_tmp2 rfl _ _ _) rfl ?_
      refine ⟨xb, sb, cb, tb, c, s3, rfl, (HBL.out.trans (HB1.out.mono hN1)).trans (HG3.out.low HOW.out hN2), HBST.out, by omega, by omega, HS.out, HDK.out.go HG3.out, HG3.out.ownN HOW.out hN2, HR3.out, HF3.out.mono (by omega) (by omega) (Nat.le_refl _), HKP.out.2 HLE.out, ?_⟩
      have : s3.R.room = so.R.room := HKP.out.1
      rw [this]
      exact HRR.out
end Go.Proofs.YteicpbcddjjceaaGreatDoor
