/-
  PROVED HERE: the program's disk in memory; what its small functions isNoPath, find, New, Steps, within, Fit and Break answer.
-/
import Derived.Test.YteicpbcddjjceaaGreatDoorPdErrno
import Derived.Shelf.Pu.Clone
import Derived.Shelf.SlMaps.Clone
import Derived.Test.YteicpbcddjjceaaGreatDoorProg
import Derived.Deep.RegionLaw
import Derived.Deep.AppendLies
import Derived.Deep.RegionWith
namespace Go.Proofs.YteicpbcddjjceaaGreatDoor
open Go.RowKit
/-- The program's disk: its block, its two maps, its changes. -/
structure PDIs (w : World) (b : Nat) (R : RDk) (mb lb : Nat) (cv : Value) : Prop where
  blk : w.heap[b]? = some (.cells #[.int .i64 R.room, .map (some mb), .map (some lb), cv, .int .i64 R.count, .int .i64 R.left] 105 (0, 0))
  now : PM Tryz.prog 9 w mb R.now
  safe : PM Tryz.prog 9 w lb R.safe
  apart : mb ≠ lb
  chg : w.ownsRow 0 227 3 cv R.chg.length (R.chg.flatMap CH.cells)
theorem PDIs.later {w w' : World} {b mb lb : Nat} {R : RDk} {cv : Value} (h : PDIs w b R mb lb cv) (hb : Below w.heap.size w w') : PDIs w' b R mb lb cv :=
  ⟨(hb.block b (lt_of_row h.blk)).trans h.blk, h.now.later (hb.block mb h.now.lt), h.safe.later (hb.block lb h.safe.lt), h.apart, ownsRow_later h.chg hb⟩
set_option maxHeartbeats 1000000 in
set_option maxRecDepth 100000 in
theorem isNoPath_any (s : ByteArray) (w : World) (hs : s.size ≤ 9223372036854775807) : Calls Tryz.prog 148 #[.string s] w fun e w' => e = .returned (.bool (!isPathB s)) ∧ w' = w := by
  unfold isPathB
  go_enter Tryz.func148, Tryz.ntmps148
  by_cases h0 : s = ⟨#[]⟩
  · subst h0
    go_wp2
    go_ret
    exact ⟨rfl, rfl⟩
  · have e0 := toList_empty s h0
    have h1 : 1 ≤ s.size := by
      rcases Nat.eq_zero_or_pos s.size with h | h
      · exact absurd (ByteArray.ext (Array.eq_empty_of_size_eq_zero h)) h0
      · exact h
    by_cases h2 : s.size ≤ 80
    · have e2 : decide ((80 : Int) < (s.size : Int)) = false := by simp; omega
      go_wp2
      go_ret
      simp [h1, h2]
    · have e2 : (80 : Int) < (s.size : Int) := by omega
      go_wp2
      go_ret
      simp [h2]
theorem Tryz.zeroPF (w : World) : (zeroValue 157).run Tryz.prog w = .ok (.pointer none) w := by kernel_rfl
set_option maxHeartbeats 1000000 in
set_option maxRecDepth 100000 in
theorem pfind_any (b : Nat) (R : RDk) (mb lb : Nat) (cv : Value) (p : ByteArray) (w : World) (h : PDIs w b R mb lb cv) (hp : p.size ≤ 9223372036854775807) :
    Calls Tryz.prog 95 #[.pointer (some ⟨b, 0, none⟩), .string p] w fun e w' => w' = w ∧
      e = .returned (if isPathB p = true then (match findE p R.now with | none => .tuple #[.pointer none, refV 3] | some nb => .tuple #[.pointer (some ⟨nb, 0, none⟩), .nilIface]) else .tuple #[.pointer none, refV 2]) := by
  have c1 : w.cell? ⟨b, 1, none⟩ = some (.map (some mb)) := cell_of_row _ _ 1 _ _ _ h.blk
  have HP := hide (isNoPath_any p w hp)
  have hlk := h.now.look (t := 102) Tryz.underlying9 Tryz.underlying102 (Tryz.zeroPF w) p hp
  clear h
  unfold refV
  generalize isPathB p = bp at HP ⊢
  generalize findE p R.now = fo at hlk ⊢
  cases bp with
  | false =>
    simp only [Bool.false_eq_true, if_false]
    go_enter Tryz.func95, Tryz.ntmps95
    go_wp2_with fail
    refine (HP.out).mono ?_
    rintro _ w1 ⟨rfl, hw⟩
    subst hw
    dsimp only
    go_wp2_with fail
    refine bodyPost_ret (results_tmp2 rfl _ _ _) rfl ?_
    exact ⟨rfl, rfl⟩
  | true =>
    simp only [if_true]
    cases fo with
    | none =>
      dsimp only [ptrOf] at hlk ⊢
      go_enter Tryz.func95, Tryz.ntmps95
      go_wp2_with fail
      refine (HP.out).mono ?_
      rintro _ w1 ⟨rfl, hw⟩
      subst hw
      dsimp only
      go_wp2_with fail
      refine bodyPost_ret (results_tmp2 rfl _ _ _) rfl ?_
      exact ⟨rfl, rfl⟩
    | some nb =>
      dsimp only [ptrOf] at hlk ⊢
      go_enter Tryz.func95, Tryz.ntmps95
      go_wp2_with fail
      refine (HP.out).mono ?_
      rintro _ w1 ⟨rfl, hw⟩
      subst hw
      dsimp only
      go_wp2_with fail
      refine bodyPost_ret (results_tmp2 rfl _ _ _) rfl ?_
      exact ⟨rfl, rfl⟩
theorem pm_new (w : World) : PM Tryz.prog 9 (w.alloc (.map #[] 0)) w.heap.size [] := World.ownsMap_made w _ _ _
theorem pnew_fin (r : Int) (w : World) : PDIs (((w.alloc (.map #[] 0)).alloc (.map #[] 0)).alloc (.cells #[.int .i64 r, .map (some w.heap.size), .map (some (w.heap.size + 1)), .slice none 0 0, .int .i64 0, .int .i64 (-1)] 105)) (w.heap.size + 1 + 1) ⟨r, [], [], [], 0, -1⟩ w.heap.size (w.heap.size + 1) (.slice none 0 0) := by
  have s1 : (w.alloc (.map #[] 0)).heap.size = w.heap.size + 1 := size_alloc _ _
  have s2 : ((w.alloc (.map #[] 0)).alloc (.map #[] 0)).heap.size = w.heap.size + 1 + 1 := by rw [size_alloc, s1]
  have m1 := pm_new w
  have m2 := pm_new (w.alloc (.map #[] 0))
  rw [s1] at m2
  refine ⟨?_, ?_, ?_, by omega, World.ownsRow_nil _ _ _ _⟩
  · rw [← s2]; exact heap_alloc_new _ _
  · exact (m1.later (w' := (w.alloc (.map #[] 0)).alloc (.map #[] 0)) (Below.heap_alloc _ _ _ (by omega))).later (Below.heap_alloc _ _ _ (by omega))
  · exact m2.later (Below.heap_alloc _ _ _ (by omega))
theorem three_below (w : World) (o1 o2 o3 : Obj) : Below w.heap.size w (((w.alloc o1).alloc o2).alloc o3) :=
  (((Below.refl _ _).alloc (Nat.le_refl _) o1).alloc (by rw [size_alloc]; omega) o2).alloc (by rw [size_alloc, size_alloc]; omega) o3
set_option maxHeartbeats 1000000 in
set_option maxRecDepth 100000 in
theorem pnew_any (room : Int) (w : World) :
    Calls Tryz.prog 14 #[.int .i64 room] w fun e w' => e = .returned (.pointer (some ⟨w.heap.size + 1 + 1, 0, none⟩)) ∧ Below w.heap.size w w' ∧ PDIs w' (w.heap.size + 1 + 1) ⟨if room < 0 then 0 else room, [], [], [], 0, -1⟩ w.heap.size (w.heap.size + 1) (.slice none 0 0) ∧ w'.heap.size = w.heap.size + 1 + 1 + 1 := by
  have hmk := fun w => run_makeMap (P := Tryz.prog) 102 w
  by_cases hr : room < 0
  · rw [if_pos hr]
    go_enter Tryz.func14, Tryz.ntmps14
    go_wp2_with fail
    go_ret
    exact ⟨rfl, three_below _ _ _ _, pnew_fin 0 w, by simp⟩
  · rw [if_neg hr]
    have hr2 : decide (room < 0) = false := decide_eq_false hr
    go_enter Tryz.func14, Tryz.ntmps14
    go_wp2_with fail
    go_ret
    exact ⟨rfl, three_below _ _ _ _, pnew_fin room w, by simp⟩
def withinI (n most : Int) : Int := min (max n 0) most
set_option maxHeartbeats 1000000 in
set_option maxRecDepth 100000 in
theorem within_any (n most : Int) (w : World) :
    Calls Tryz.prog 78 #[.int .i64 n, .int .i64 most] w fun e w' => w' = w ∧ e = .returned (.int .i64 (withinI n most)) := by
  unfold withinI
  by_cases h1 : n < 0
  · by_cases h2 : 0 < most
    · go_enter Tryz.func78, Tryz.ntmps78
      go_wp2_with fail
      all_goals go_ret
      all_goals refine ⟨rfl, ?_⟩
      all_goals simp
      all_goals omega
    · go_enter Tryz.func78, Tryz.ntmps78
      go_wp2_with fail
      all_goals go_ret
      all_goals refine ⟨rfl, ?_⟩
      all_goals simp
      all_goals omega
  · by_cases h2 : n < most
    · go_enter Tryz.func78, Tryz.ntmps78
      go_wp2_with fail
      all_goals go_ret
      all_goals refine ⟨rfl, ?_⟩
      all_goals simp
      all_goals omega
    · go_enter Tryz.func78, Tryz.ntmps78
      go_wp2_with fail
      all_goals go_ret
      all_goals refine ⟨rfl, ?_⟩
      all_goals simp
      all_goals omega
end Go.Proofs.YteicpbcddjjceaaGreatDoor

/-
  PROVED HERE: the library's contracts for strings.Clone and maps.Clone at this program's own numbers: laid in plain words.
-/
namespace Go.Proofs.YteicpbcddjjceaaGreatDoor
open Go.Shelf Go.RowKit
def Tryz.laysPu25_ren : Go.Shelf.Ren := ⟨fun | 25 => 168 | n => n, fun | 0 => 0 | 3 => 3 | 4 => 4 | 5 => 5 | 9 => 9 | 37 => 124 | 47 => 250 | n => n, fun | n => n⟩
theorem Tryz.laysPu25 : Go.Proofs.LaysPu.n25 Tryz.prog Tryz.laysPu25_ren := {
  mixed := by kernel_rfl
  f25 := Tryz.func168.trans (congrArg some (by kernel_rfl))
  t0 := Tryz.underlying0
  a0 := Tryz.isAgg0
  z0 := Tryz.sizeOf0
  v0 := Tryz.zeroValue0
  i0 := by kernel_rfl
  t3 := Tryz.underlying3
  a3 := Tryz.isAgg3
  z3 := Tryz.sizeOf3
  v3 := Tryz.zeroValue3
  i3 := by kernel_rfl
  t4 := Tryz.underlying4
  a4 := Tryz.isAgg4
  z4 := Tryz.sizeOf4
  v4 := Tryz.zeroValue4
  i4 := by kernel_rfl
  t5 := Tryz.underlying5
  a5 := Tryz.isAgg5
  z5 := Tryz.sizeOf5
  v5 := Tryz.zeroValue5
  i5 := by kernel_rfl
  t9 := Tryz.underlying9
  a9 := Tryz.isAgg9
  z9 := Tryz.sizeOf9
  v9 := Tryz.zeroValue9
  i9 := by kernel_rfl
  t37 := Tryz.underlying124
  a37 := Tryz.isAgg124
  z37 := Tryz.sizeOf124
  v37 := Tryz.zeroValue124
  i37 := by kernel_rfl
  t47 := Tryz.underlying250
  a47 := Tryz.isAgg250
  z47 := Tryz.sizeOf250
  v47 := Tryz.zeroValue250
  i47 := by kernel_rfl }
def Tryz.laysW5_ren : Go.Shelf.Ren := ⟨fun | 5 => 79 | 7 => 136 | n => n, fun | 4 => 4 | 20 => 20 | 23 => 102 | 25 => 9 | 3 => 157 | n => n, fun | n => n⟩
theorem Tryz.laysW5 : Go.Proofs.SlLaysW.n5 Tryz.prog Tryz.laysW5_ren := {
  mixed := by kernel_rfl
  f5 := ⟨"maps.Clone[map[string]*blobs/disk.file,string,*blobs/disk.file]", by decide, Tryz.func79.trans (congrArg some (by kernel_rfl))⟩
  f7 := Tryz.func136.trans (congrArg some (by kernel_rfl))
  t4 := Tryz.underlying4
  a4 := Tryz.isAgg4
  z4 := Tryz.sizeOf4
  v4 := Tryz.zeroValue4
  t20 := Tryz.underlying20
  a20 := Tryz.isAgg20
  z20 := Tryz.sizeOf20
  v20 := Tryz.zeroValue20
  t23 := Tryz.underlying102
  a23 := Tryz.isAgg102
  z23 := Tryz.sizeOf102
  v23 := Tryz.zeroValue102 }
set_option maxHeartbeats 1000000 in
set_option maxRecDepth 100000 in
theorem sclone_any (s : ByteArray) (w : World) (hs : s.size ≤ 281474976710656) : Calls Tryz.prog 119 #[.string s] w fun e w' => e = .returned (.string s) ∧ Below w.heap.size w w' := by
  have HC := AnyPu.stringslite_Clone Tryz.laysPu25 s w hs
  go_enter Tryz.func119, Tryz.ntmps119
  go_wp2_with fail
  refine HC.mono ?_
  rintro _ w1 ⟨rfl, hb⟩
  dsimp only
  go_wp2_with fail
  go_ret
  exact ⟨rfl, hb⟩
end Go.Proofs.YteicpbcddjjceaaGreatDoor

/-
  PROVED HERE: what the program's own functions apply, change and settle of changes of paths do.
-/
namespace Go.Proofs.YteicpbcddjjceaaGreatDoor
open Go.RowKit
theorem turned_grown {w w' w0 : World} {b : Nat} (hb : Below w.heap.size w w0) (h : w0.mapTurned w' b) : w.grownBy w' (some b) :=
  grownBy_trans (grownBy_below hb _) h.grown
set_option maxHeartbeats 1000000 in
set_option maxRecDepth 100000 in
theorem papply_any (mb : Nat) (l : List DE) (frm too : ByteArray) (nb : Nat) (w : World) (h : PM Tryz.prog 9 w mb l) (hl : l.length ≤ 100000000) (hf : frm.size ≤ maxLen) (ht : too.size ≤ maxLen) :
    Calls Tryz.prog 135 #[.agg #[.string frm, .string too, .pointer (some ⟨nb, 0, none⟩)], .map (some mb)] w fun e w' => e = .returned (.tuple #[]) ∧ PM Tryz.prog 9 w' mb (applyE l ⟨frm, too, nb⟩) ∧ w.grownBy w' (some mb) := by
  have hlt := h.lt
  have hb0 : Below w.heap.size w (w.alloc (.cells #[.string frm, .string too, .pointer (some ⟨nb, 0, none⟩)] 227)) := (Below.refl _ _).alloc (Nat.le_refl _) _
  have hc0 : (w.alloc (.cells #[.string frm, .string too, .pointer (some ⟨nb, 0, none⟩)] 227)).heap[w.heap.size]? = some (.cells #[.string frm, .string too, .pointer (some ⟨nb, 0, none⟩)] 227 (0, 0)) := heap_alloc_new _ _
  have HP := hide (h.later (hb0.block mb hlt))
  have HB0 := hide hb0
  have HC0 := hide hc0
  have hl1 : (withE frm none l true).length < maxLen := by have := withE_len frm none l true; unfold maxLen; omega
  have HF := hide hf
  have HT := hide ht
  clear h hb0 hc0 hf ht
  by_cases h2 : too = ⟨#[]⟩
  · subst h2
    have ha : applyE l ⟨frm, ⟨#[]⟩, nb⟩ = withE frm none l true := by simp [applyE]
    rw [ha]
    go_enter Tryz.func135, Tryz.ntmps135
    go_wp2_with (at_delete; refine wpList_del_pm _ rfl _ _ 102 9 rfl 157 Tryz.underlying9 Tryz.underlying102 mb l rfl HP.out frm rfl HF.out ?_; intro w1 hpm1 ht1; have hc1 := (ht1.grown.block w.heap.size (lt_heap HC0.out) (fun e => by injection e; omega)).trans HC0.out; have b1 := cell_of_row w1 _ 1 _ _ _ hc1; have HPM1 := hide hpm1; have HT1 := hide ht1; clear hpm1 ht1 hc1)
    go_end0
    exact ⟨rfl, HPM1.out, turned_grown HB0.out HT1.out⟩
  · have e2 := toList_empty too h2
    have ha : applyE l ⟨frm, too, nb⟩ = withE too (some nb) (withE frm none l true) false := by simp [applyE, h2]
    rw [ha]
    clear h2
    go_enter Tryz.func135, Tryz.ntmps135
    go_wp2_with (first | (at_delete; refine wpList_del_pm _ rfl _ _ 102 9 rfl 157 Tryz.underlying9 Tryz.underlying102 mb l rfl HP.out frm rfl HF.out ?_; intro w1 hpm1 ht1; have hc1 := (ht1.grown.block w.heap.size (lt_heap HC0.out) (fun e => by injection e; omega)).trans HC0.out; have b1 := cell_of_row w1 _ 1 _ _ _ hc1; have b2 := cell_of_row w1 _ 2 _ _ _ hc1; have HPM1 := hide hpm1; have HT1 := hide ht1; clear hpm1 ht1 hc1) | (at_mapUpdate; refine wpList_put_pm _ rfl _ _ _ 102 rfl 9 157 Tryz.underlying9 Tryz.underlying102 mb _ rfl HPM1.out hl1 too nb rfl rfl HT.out ?_; intro w2 hpm2 ht2; have HPM2 := hide hpm2; have HT2 := hide ht2; clear hpm2 ht2))
    go_end0
    exact ⟨rfl, HPM2.out, grownBy_trans (turned_grown HB0.out HT1.out) HT2.out.grown⟩
theorem PDIs.ne {w : World} {b mb lb : Nat} {R : RDk} {cv : Value} (h : PDIs w b R mb lb cv) : cv.ownBlock ≠ some b ∧ cv.ownBlock ≠ some mb ∧ cv.ownBlock ≠ some lb ∧ b ≠ mb ∧ b ≠ lb := by
  obtain ⟨e1, c1, m1⟩ := h.now.isMap
  obtain ⟨e2, c2, m2⟩ := h.safe.isMap
  refine ⟨fun e => ?_, fun e => ?_, fun e => ?_, fun e => ?_, fun e => ?_⟩
  · obtain ⟨cur, hc⟩ := own_obj h.chg b e; exact type_ne hc h.blk (by decide) rfl
  · obtain ⟨cur, hc⟩ := own_obj h.chg mb e; rw [m1] at hc; cases hc
  · obtain ⟨cur, hc⟩ := own_obj h.chg lb e; rw [m2] at hc; cases hc
  · have := h.blk; rw [e, m1] at this; cases this
  · have := h.blk; rw [e, m2] at this; cases this
/-- A change has come to the disk's changes. -/
theorem PDIs.pushed {w w3 w4 : World} {b q cap mb lb : Nat} {R : RDk} {cv : Value} {c : CH} (h : PDIs w b R mb lb cv) (h3 : Below w.heap.size w w3) (hg : w3.grownBy w4 cv.ownBlock)
    (ho : w4.ownsRow 0 227 3 (.slice (some ⟨q, 0, none⟩) (R.chg.length + 1) cap) (R.chg.length + 1) (R.chg.flatMap CH.cells ++ c.cells)) (hq : cv.ownBlock = some q ∨ w.heap.size ≤ q) :
    PDIs (w4.setCell ⟨b, 3, none⟩ (.slice (some ⟨q, 0, none⟩) (R.chg.length + 1) cap)) b { R with chg := R.chg ++ [c] } mb lb (.slice (some ⟨q, 0, none⟩) (R.chg.length + 1) cap) ∧
      Gr (fun k => k = b ∨ cv.ownBlock = some k) w (w4.setCell ⟨b, 3, none⟩ (.slice (some ⟨q, 0, none⟩) (R.chg.length + 1) cap)) := by
  have hset : ∀ k, k ≠ b → (w4.setCell ⟨b, 3, none⟩ (.slice (some ⟨q, 0, none⟩) (R.chg.length + 1) cap)).heap[k]? = w4.heap[k]? := fun k hk => heap_setCell_other _ _ _ _ (by simpa using hk)
  have hold : ∀ k, k < w.heap.size → cv.ownBlock ≠ some k → w4.heap[k]? = w.heap[k]? := fun k hk hne => (hg.block k (Nat.lt_of_lt_of_le hk h3.size) (fun e => hne e.symm)).trans (h3.block k hk)
  have hb := lt_of_row h.blk
  obtain ⟨n1, n2, n3, n4, n5⟩ := h.ne
  have hqb : q ≠ b := by
    intro e
    rcases hq with hq | hq
    · rw [e] at hq; exact n1 hq
    · omega
  refine ⟨⟨?_, ?_, ?_, h.apart, ?_⟩, ?_⟩
  · rw [heap_setCell_same _ b 3 _ _ _ ((hold b hb n1).trans h.blk)]; rfl
  · exact h.now.later ((hset mb (Ne.symm n4)).trans (hold mb h.now.lt n2))
  · exact h.safe.later ((hset lb (Ne.symm n5)).trans (hold lb h.safe.lt n3))
  · have e1 : (R.chg ++ [c]).length = R.chg.length + 1 := by simp
    have e2 : (R.chg ++ [c]).flatMap CH.cells = R.chg.flatMap CH.cells ++ c.cells := by simp
    dsimp only
    rw [e1, e2]
    exact own_same ho (fun k hk _ => hset k (by simp only [Value.ownBlock, Option.some.injEq] at hk; omega))
  · exact ⟨hg.os.trans h3.os, hg.tape.trans h3.tape, hg.output.trans h3.output, by simpa using Nat.le_trans h3.size hg.size, fun k hk hs => (hset k (fun e => hs (.inl e))).trans (hold k hk (fun e => hs (.inr e)))⟩
/-- A map of the disk was written. -/
theorem PDIs.setMap {w w' : World} {b mb lb : Nat} {R : RDk} {cv : Value} {l' : List DE} (h : PDIs w b R mb lb cv) (hg : w.grownBy w' (some mb)) (hm : PM Tryz.prog 9 w' mb l') : PDIs w' b { R with now := l' } mb lb cv := by
  obtain ⟨n1, n2, n3, n4, n5⟩ := h.ne
  refine ⟨(hg.block b (lt_of_row h.blk) (fun e => n4 (by injection e))).trans h.blk, hm, h.safe.later (hg.block lb h.safe.lt (fun e => h.apart (by injection e with e; exact e.symm))), h.apart, own_same h.chg (fun k hk hk2 => hg.block k hk2 (fun e => n2 (by injection e with e; rw [← e]; exact hk)))⟩
theorem PDIs.setSafe {w w' : World} {b mb lb : Nat} {R : RDk} {cv : Value} {l' : List DE} (h : PDIs w b R mb lb cv) (hg : w.grownBy w' (some lb)) (hm : PM Tryz.prog 9 w' lb l') : PDIs w' b { R with safe := l' } mb lb cv := by
  obtain ⟨n1, n2, n3, n4, n5⟩ := h.ne
  refine ⟨(hg.block b (lt_of_row h.blk) (fun e => n5 (by injection e))).trans h.blk, h.now.later (hg.block mb h.now.lt (fun e => h.apart (by injection e))), hm, h.apart, own_same h.chg (fun k hk hk2 => hg.block k hk2 (fun e => n3 (by injection e with e; rw [← e]; exact hk)))⟩
theorem Tryz.infoPCH : (Tryz.prog.info? 227).map (fun i => (i.zero, i.size, i.bytes)) = some (some (.agg #[.string ⟨#[]⟩, .string ⟨#[]⟩, .pointer none]), 3, 40) := by kernel_rfl
set_option maxHeartbeats 2000000 in
set_option maxRecDepth 100000 in
theorem pchange_any (b nb : Nat) (R : RDk) (mb lb : Nat) (cv : Value) (frm too : ByteArray) (w : World) (h : PDIs w b R mb lb cv) (hl : R.now.length ≤ 100000000) (hc : R.chg.length ≤ 100000000) (hf : frm.size ≤ 1000000000) (ht : too.size ≤ 1000000000) :
    Calls Tryz.prog 181 #[.pointer (some ⟨b, 0, none⟩), .agg #[.string frm, .string too, .pointer (some ⟨nb, 0, none⟩)]] w fun e w' => e = .returned (.tuple #[]) ∧ Gr (fun k => k = b ∨ k = mb ∨ cv.ownBlock = some k) w w' ∧
      ∃ cv', PDIs w' b { R with now := applyE R.now ⟨frm, too, nb⟩, chg := R.chg ++ [⟨frm, too, nb⟩] } mb lb cv' ∧ NewOr w cv cv' := by
  obtain ⟨i0, hi, hz0, hz1, hz2⟩ := info_parts Tryz.infoPCH
  have H := hide h
  have HCL := hide (fun w' => sclone_any too w' (by omega))
  have HAP := hide (fun w' (hp : PM Tryz.prog 9 w' mb R.now) => papply_any mb R.now frm too nb w' hp hl (by unfold maxLen; omega) (by unfold maxLen; omega))
  have hb0 : Below w.heap.size w (w.alloc (.cells #[.string frm, .string too, .pointer (some ⟨nb, 0, none⟩)] 227)) := (Below.refl _ _).alloc (Nat.le_refl _) _
  have hc0 : (w.alloc (.cells #[.string frm, .string too, .pointer (some ⟨nb, 0, none⟩)] 227)).heap[w.heap.size]? = some (.cells #[.string frm, .string too, .pointer (some ⟨nb, 0, none⟩)] 227 (0, 0)) := heap_alloc_new _ _
  have HB0 := hide hb0
  have HC0 := hide hc0
  clear h hb0 hc0
  go_enter Tryz.func181, Tryz.ntmps181
  go_wp2_with fail
  refine (HCL.out _).mono ?_
  rintro _ w1 ⟨rfl, hb1⟩
  dsimp only
  have hc1 := (hb1.block w.heap.size (lt_heap HC0.out)).trans HC0.out
  have f1 := frozen_of_row w1 w.heap.size 1 _ _ hc1
  have g1 : w1.cell? ⟨w.heap.size, 1, none⟩ = some (.string too) := cell_of_row _ _ 1 _ _ _ hc1
  have hB1 : Below w.heap.size w (w1.setCell ⟨w.heap.size, 1, none⟩ (.string too)) := (HB0.out.trans (hb1.mono HB0.out.size)).setCell (Nat.le_refl _) _
  have hc2 : (w1.setCell ⟨w.heap.size, 1, none⟩ (.string too)).heap[w.heap.size]? = some (.cells #[.string frm, .string too, .pointer (some ⟨nb, 0, none⟩)] 227 (0, 0)) := by
    rw [heap_setCell_same _ _ 1 _ _ _ hc1]; rfl
  have HD2 := hide (H.out.later hB1)
  have HB1 := hide hB1
  have HC2 := hide hc2
  clear hb1 hc1 hB1 hc2
  go_upto_region 2 with fail
  clear HCL HB0 HC0 f1 g1
  generalize w1.setCell ⟨w.heap.size, 1, none⟩ (.string too) = w2 at HD2 HB1 HC2 ⊢
  have b0 : w2.cell? ⟨w.heap.size, 0, none⟩ = some (.string frm) := cell_of_row _ _ 0 _ _ _ HC2.out
  have b1 : w2.cell? ⟨w.heap.size, 1, none⟩ = some (.string too) := cell_of_row _ _ 1 _ _ _ HC2.out
  have b2 : w2.cell? ⟨w.heap.size, 2, none⟩ = some (.pointer (some ⟨nb, 0, none⟩)) := cell_of_row _ _ 2 _ _ _ HC2.out
  have k1 : w2.cell? ⟨b, 1, none⟩ = some (.map (some mb)) := cell_of_row _ _ 1 _ _ _ HD2.out.blk
  go_cut [] from 8 (fun wx => PDIs wx b { R with now := applyE R.now ⟨frm, too, nb⟩ } mb lb cv ∧ w.grownBy wx (some mb) ∧ wx.heap[w.heap.size]? = some (.cells #[.string frm, .string too, .pointer (some ⟨nb, 0, none⟩)] 227 (0, 0)))
  case first =>
    go_region_with (go_at_call 135; refine (HAP.out w2.drew (HD2.out.now.later rfl)).mono ?_; rintro _ w6 ⟨rfl, hm6, hg6⟩)
    all_goals
      have hg7 : w2.grownBy w6 (some mb) := grownBy_trans (grownBy_below ((Below.refl _ _).drew) _) hg6
      have hfin : PDIs w6 b { R with now := applyE R.now ⟨frm, too, nb⟩ } mb lb cv ∧ w.grownBy w6 (some mb) ∧ w6.heap[w.heap.size]? = some (.cells #[.string frm, .string too, .pointer (some ⟨nb, 0, none⟩)] 227 (0, 0)) :=
        ⟨HD2.out.setMap hg7 hm6, grownBy_trans (grownBy_below HB1.out _) hg7, (hg7.block _ (lt_heap HC2.out) (fun e => by injection e with e; have := H.out.now.lt; omega)).trans HC2.out⟩
      have HFIN := hide hfin
      clear hm6 hg6 hg7 hfin
      go_wp2_with fail
      go_meet
      case rel => exact HFIN.out
  case rest =>
    obtain ⟨hd, hg, hcb⟩ := hcut
    clear HAP b0 b1 b2 k1 HD2 HB1 HC2
    obtain ⟨ocv, ccv, hcv⟩ := own_sl hd.chg
    dsimp only at hcv
    subst hcv
    obtain ⟨M, hM⟩ : ∃ M, M = R.chg.length := ⟨_, rfl⟩
    have c3 : wc.cell? ⟨b, 3, none⟩ = some (.slice ocv R.chg.length ccv) := cell_of_row _ _ 3 _ _ _ hd.blk
    have b0 : wc.cell? ⟨w.heap.size, 0, none⟩ = some (.string frm) := cell_of_row _ _ 0 _ _ _ hcb
    have b1 : wc.cell? ⟨w.heap.size, 1, none⟩ = some (.string too) := cell_of_row _ _ 1 _ _ _ hcb
    have b2 : wc.cell? ⟨w.heap.size, 2, none⟩ = some (.pointer (some ⟨nb, 0, none⟩)) := cell_of_row _ _ 2 _ _ _ hcb
    have hal := ownsRow_later (hd.chg.alloc (.cells #[.string frm, .string too, .pointer (some ⟨nb, 0, none⟩)] 227)) ((Below.refl _ _).drew)
    dsimp only at hal
    rw [← hM] at hal c3
    have hsm : M + 1 ≤ maxLen ∧ (M + 1) * 40 ≤ 140737488355328 := by rw [hM]; unfold maxLen; omega
    obtain ⟨hb63, hb40⟩ := hsm
    have HAL := hide hal
    have HM := hide hM
    have HD := hide hd
    have HG := hide hg
    have hbl := lt_of_row hd.blk
    have HONE := hide (ch_one ⟨frm, too, nb⟩)
    have hcn := hd.ne.1
    rw [← hM] at hcn
    have HCN := hide hcn
    have HBB := hide hd.blk
    have hb1 : Below wc.heap.size wc ((wc.alloc (.cells #[.string frm, .string too, .pointer (some ⟨nb, 0, none⟩)] 227)).drew) := ((Below.refl _ _).alloc (Nat.le_refl _) _).drew
    have HB1 := hide hb1
    have bf := fun j => frozen_of_row wc b j _ _ hd.blk
    clear hal hM hd hg hcb hcn hb1
    go_upto_region 3 with fail
    go_region_law (refine step_append_lies _ (by rfl) _ _ _ (by rfl) 0 227 i0 _ 3 40 Tryz.underlying103 hi hz0 hz1 hz2 (by rfl) (by decide) _ M _ (by rfl) HAL.out ⟨wc.heap.size, 0, none⟩ 1 1 [.string frm, .string too, .pointer (some ⟨nb, 0, none⟩)] (by rfl) (by rfl) (row_cells (heap_alloc_new _ _)) HONE.out (by decide) hb63 hb40 (Nat.zero_le _) _ rfl ?_; intro g2 cap2 w5 hown5 hgrow hat hlt5; have sb : w5.heap[b]? = _ := (hgrow.block b (by show b < (wc.alloc _).heap.size; rw [size_alloc]; omega) (fun e => HCN.out e.symm)).trans ((Below.heap_alloc wc _ b hbl).trans HBB.out); have s3 : w5.cell? ⟨b, 3, none⟩ = _ := cell_of_row _ _ 3 _ _ _ sb; have sf := frozen_of_row w5 b 3 _ _ sb)
    all_goals
      have hM := HM.out
      subst hM
      have hp := HD.out.pushed (c := ⟨frm, too, nb⟩) (q := g2) (cap := cap2) HB1.out hgrow hown5 (hat.imp id (fun e => by rw [e]; show wc.heap.size ≤ (wc.alloc _).heap.size; rw [size_alloc]; omega))
      have hno : NewOr w (Value.slice ocv R.chg.length ccv) (.slice (some ⟨g2, 0, none⟩) (R.chg.length + 1) cap2) := by
        rcases hat with e | e
        · exact .inl (by rw [e]; rfl)
        · refine .inr fun k hk => ?_
          simp only [Value.ownBlock, Option.some.injEq] at hk
          rw [← hk, e]
          have := HG.out.size
          show w.heap.size ≤ (wc.alloc _).heap.size
          rw [size_alloc]; omega
      have HP := hide hp
      have HNO := hide hno
      clear hgrow hown5 hat hlt5 sb s3 sf hp hno
      go_wp2_with fail
      go_end0
      exact ⟨rfl, (Gr.of_grownBy HG.out (.inr (.inl rfl))).trans (HP.out.2.mono fun k _ hk => hk.imp id .inr), _, HP.out.1, HNO.out⟩
end Go.Proofs.YteicpbcddjjceaaGreatDoor
