/-
  PROVED HERE: what the program's own List of disks answers: the paths, the lesser first.
-/
import Derived.Test.YteicpbcddjjceaaGreatDoorPdSet
import Derived.Test.YteicpbcddjjceaaGreatDoorPdIter
import Derived.Lib.AppendStr
namespace Go.Proofs.YteicpbcddjjceaaGreatDoor
open Go.RowKit Go.Sort
def pathVs (l : List DE) : List Value := l.map fun e => .string e.path
theorem keys_sorted {l : List DE} (hr : Rise l) {ss : List (List UInt8)} (hp : ss.Perm (strKeys (dOf l))) : (ss.mergeSort (fun x y => decide (x ≤ y))).map encStr = pathVs l ∧ ss.length = l.length := by
  have hk : strKeys (dOf l) = l.map fun e => e.path.data.toList := by
    show (l.map dE).map (fun p => strOf p.1) = _
    rw [List.map_map]
    rfl
  have hlt : ∀ x y : ByteArray, lessB x y = true → x.data.toList < y.data.toList := by
    intro x y h
    unfold lessB at h
    rw [bytesLess_eq, ByteArray.toList_eq, ByteArray.toList_eq] at h
    exact of_decide_eq_true h
  refine ⟨?_, ?_⟩
  · rw [mergeSort_of_perm hp, hk]
    have hs : (l.map fun e => e.path.data.toList).Pairwise (fun x y => decide (x ≤ y) = true) := by
      rw [List.pairwise_map]
      refine hr.imp ?_
      intro x y hxy
      have := hlt _ _ hxy
      exact decide_eq_true (List.le_of_lt this)
    rw [List.mergeSort_of_pairwise hs, List.map_map]
    rfl
  · rw [hp.length_eq, hk, List.length_map]
set_option maxHeartbeats 1000000 in
set_option maxRecDepth 100000 in
theorem psorted_any (mb : Nat) (l : List DE) (w : World) (h : PM Tryz.prog 9 w mb l) (hl : l.length ≤ 100000000) :
    Calls Tryz.prog 100 #[.map (some mb)] w fun e w' => ∃ v, e = .returned v ∧ w'.ownsRow w.heap.size 9 1 v l.length (pathVs l) ∧ Below w.heap.size w w' := by
  have HK := hide (callsIn_wide.1 (Tryz.maps_KeysL (some mb) w))
  have hsz : Maps.size (dOf l) = l.length := by simp [dOf, Maps.size]
  have HS := hide (callsIn_wide.1 (Tryz.slices_SortedL mb l.length (dOf l) ptrRd w h (by rw [hsz]; unfold maxLen; omega) (by rw [hsz]; omega)))
  have HR := hide (h.rise (Maps.string_keyed Tryz.underlying9))
  clear h hsz
  go_enter Tryz.func100, Tryz.ntmps100
  go_wp2_with fail
  refine (HK.out).mono ?_
  rintro _ w1 ⟨rfl, hw⟩
  subst hw
  dsimp only
  go_wp2_with fail
  refine (HS.out).mono ?_
  rintro _ w2 ⟨v, ss, rfl, hperm, hrow, _, hb⟩
  dsimp only
  obtain ⟨e1, e2⟩ := keys_sorted HR.out hperm
  rw [e1, e2] at hrow
  have hfin : w2.ownsRow w.heap.size 9 1 v l.length (pathVs l) ∧ Below w.heap.size w w2 :=
    ⟨hrow.mono_base (by rw [size_alloc]; omega), ((Below.refl _ _).alloc (Nat.le_refl _) _).trans (hb.mono (by rw [size_alloc]; omega))⟩
  have HFIN := hide hfin
  clear hperm hrow hb e1 e2 hfin
  go_wp2_with fail
  go_ret
  exact ⟨_, rfl, HFIN.out.1, HFIN.out.2⟩
set_option maxHeartbeats 1000000 in
set_option maxRecDepth 100000 in
theorem plist_any (b : Nat) (R : RDk) (mb lb : Nat) (cv : Value) (w : World) (h : PDIs w b R mb lb cv) (hl : R.now.length ≤ 100000000) :
    Calls Tryz.prog 56 #[.pointer (some ⟨b, 0, none⟩)] w fun e w' => ∃ v, e = .returned v ∧ w'.ownsRow w.heap.size 9 1 v R.now.length (pathVs R.now) ∧ Below w.heap.size w w' := by
  have c1 : w.cell? ⟨b, 1, none⟩ = some (.map (some mb)) := cell_of_row _ _ 1 _ _ _ h.blk
  have HS := hide (psorted_any mb R.now w h.now hl)
  clear h
  go_enter Tryz.func56, Tryz.ntmps56
  go_wp2_with fail
  refine (HS.out).mono ?_
  rintro _ w2 ⟨v, rfl, hrow, hb⟩
  dsimp only
  have HR := hide hrow
  have HB := hide hb
  clear hrow hb
  go_wp2_with fail
  go_ret
  exact ⟨_, rfl, HR.out, HB.out⟩
end Go.Proofs.YteicpbcddjjceaaGreatDoor

/-
  PROVED HERE: the files of the program's disk in memory; what its own functions cut and sync of files do; append of a text's bytes.
-/
namespace Go.Proofs.YteicpbcddjjceaaGreatDoor
open Go.RowKit
/-- A file: its block, the row of its bytes. -/
structure FD (w : World) (f : Nat) (x : ByteArray × Int) (v : Value) : Prop where
  blk : w.heap[f]? = some (.cells #[v, .int .i64 x.2] 159 (0, 0))
  row : w.ownsRow 0 5 1 v x.1.size (Lib.strCells x.1)
theorem strCells_take (s : ByteArray) (m : Nat) : Lib.strCells (s.extract 0 m) = (Lib.strCells s).take m := by
  unfold Lib.strCells
  rw [← List.map_take]
  congr 1
  simp
theorem strCells_app (s t : ByteArray) : Lib.strCells (s ++ t) = Lib.strCells s ++ Lib.strCells t := by
  unfold Lib.strCells
  rw [← List.map_append]
  simp
theorem size_ext (s : ByteArray) {m : Nat} (hm : m ≤ s.size) : (s.extract 0 m).size = m := by simp; omega
theorem own_take {w : World} {e : TypeId} {o : Option Addr} {n m cap : Nat} {xs : List Value} (h : w.ownsRow 0 e 1 (.slice o n cap) n xs) (hm : m ≤ n) : w.ownsRow 0 e 1 (.slice o m cap) m (xs.take m) := by
  have hl : xs.length = n := by simpa using h.1
  refine ⟨by rw [List.length_take]; omega, ?_⟩
  rcases h.2 with ⟨h1, h2⟩ | ⟨g, cp, cur, h1, h2, h3, h4, h5, h6, h7⟩
  · injection h1 with h1 _ h3
    subst h1; subst h3
    have : m = 0 := by omega
    subst this
    exact .inl ⟨rfl, rfl⟩
  · injection h1 with h1 _ h8
    subst h1; subst h8
    refine .inr ⟨g, cap, cur, rfl, h2, h3, by omega, h5, h6, ?_⟩
    rw [← h7, List.take_take]
    congr 1
    omega
theorem FD.shape {w : World} {f : Nat} {x : ByteArray × Int} {v : Value} (h : FD w f x v) : ∃ o cap, v = .slice o x.1.size cap ∧ x.1.size ≤ cap ∧ cap ≤ maxLen := by
  rcases h.row.2 with ⟨rfl, h0⟩ | ⟨g, cap, cur, rfl, _, _, h4, h5, _⟩
  · exact ⟨none, 0, by rw [h0], by omega, by unfold maxLen; omega⟩
  · exact ⟨_, cap, rfl, h4, h5⟩
theorem FD.rowNe {w : World} {f : Nat} {x : ByteArray × Int} {v : Value} (h : FD w f x v) : v.ownBlock ≠ some f := by
  intro e
  obtain ⟨cur, hc⟩ := own_obj h.row f e
  exact type_ne hc h.blk (by decide) rfl
theorem FD.set {w : World} {f : Nat} {x y : ByteArray × Int} {v v' : Value} (h : FD w f x v) (ho : w.ownsRow 0 5 1 v' y.1.size (Lib.strCells y.1)) : FD ((w.setCell ⟨f, 0, none⟩ v').setCell ⟨f, 1, none⟩ (.int .i64 y.2)) f y v' := by
  refine ⟨by rw [heap_setCell_same _ f 1 _ _ _ (heap_setCell_same _ f 0 _ _ _ h.blk)]; rfl, own_same ho (fun k hk _ => ?_)⟩
  have hk2 : k ≠ f := by
    intro e
    rw [e] at hk
    obtain ⟨cur, hc⟩ := own_obj ho f hk
    exact type_ne hc h.blk (by decide) rfl
  rw [heap_setCell_other _ _ _ _ (by simpa using hk2), heap_setCell_other _ _ _ _ (by simpa using hk2)]
theorem FD.set0 {w : World} {f : Nat} {x y : ByteArray × Int} {v v' : Value} (h : w.heap[f]? = some (.cells #[v, .int .i64 x.2] 159 (0, 0))) (hy : y.2 = x.2) (ho : w.ownsRow 0 5 1 v' y.1.size (Lib.strCells y.1)) : FD (w.setCell ⟨f, 0, none⟩ v') f y v' := by
  refine ⟨by rw [heap_setCell_same _ f 0 _ _ _ h, hy]; rfl, own_same ho (fun k hk _ => ?_)⟩
  have hk2 : k ≠ f := by
    intro e
    rw [e] at hk
    obtain ⟨cur, hc⟩ := own_obj ho f hk
    exact type_ne hc h (by decide) rfl
  exact heap_setCell_other _ _ _ _ (by simpa using hk2)
theorem FD.set1 {w : World} {f : Nat} {x : ByteArray × Int} {v : Value} (h : FD w f x v) (y : Int) : FD (w.setCell ⟨f, 1, none⟩ (.int .i64 y)) f (x.1, y) v := by
  refine ⟨by rw [heap_setCell_same _ f 1 _ _ _ h.blk]; rfl, own_same h.row (fun k hk _ => heap_setCell_other _ _ _ _ (fun e => h.rowNe (by simp only at e; rw [← e]; exact hk)))⟩
set_option maxHeartbeats 1000000 in
set_option maxRecDepth 100000 in
theorem pcut_any (f : Nat) (x : ByteArray × Int) (v : Value) (n : Nat) (w : World) (h : FD w f x v) (hn : n ≤ x.1.size) :
    Calls Tryz.prog 80 #[.pointer (some ⟨f, 0, none⟩), .int .i64 (n : Int)] w fun e w' => e = .returned (.tuple #[]) ∧ w.grownBy w' (some f) ∧ ∃ v', FD w' f (x.1.extract 0 n, min x.2 (n : Int)) v' ∧ v'.ownBlock = v.ownBlock := by
  obtain ⟨o, cap, rfl, hc1, hc2⟩ := h.shape
  have c0 : w.cell? ⟨f, 0, none⟩ = some (.slice o x.1.size cap) := cell_of_row _ _ 0 _ _ _ h.blk
  have c1 : w.cell? ⟨f, 1, none⟩ = some (.int .i64 x.2) := cell_of_row _ _ 1 _ _ _ h.blk
  have ff := fun j => frozen_of_row w f j _ _ h.blk
  have ho := own_take h.row hn
  rw [← strCells_take] at ho
  have hset : ∀ y : Int, FD ((w.setCell ⟨f, 0, none⟩ (.slice o n cap)).setCell ⟨f, 1, none⟩ (.int .i64 y)) f (x.1.extract 0 n, y) (.slice o n cap) := fun y => h.set (y := (x.1.extract 0 n, y)) (by dsimp only; rw [size_ext _ hn]; exact ho)
  have HS := hide hset
  have HG : Hid (∀ y : Int, w.grownBy ((w.setCell ⟨f, 0, none⟩ (.slice o n cap)).setCell ⟨f, 1, none⟩ (.int .i64 y)) (some f)) := fun y => grownBy_trans (grownBy_set _ _ _ _) (grownBy_set _ _ _ _)
  have hncap : n ≤ cap := by omega
  have hcap : cap ≤ 9223372036854775807 := by unfold maxLen at hc2; omega
  have hob : ∀ m, (Value.slice o m cap).ownBlock = (Value.slice o x.1.size cap).ownBlock := by intro m; cases o <;> rfl
  have HOB := hide hob
  clear h ho hset hob
  generalize x.1.size = sz at c0 hc1 hn HOB
  go_enter Tryz.func80, Tryz.ntmps80
  cases o with
  | none =>
    go_wp2_with fail
    go_end0
    exact ⟨rfl, HG.out _, _, HS.out _, HOB.out _⟩
  | some a =>
    go_wp2_with fail
    go_end0
    exact ⟨rfl, HG.out _, _, HS.out _, HOB.out _⟩
set_option maxHeartbeats 1000000 in
set_option maxRecDepth 100000 in
theorem psync_file (f : Nat) (x : ByteArray × Int) (v : Value) (w : World) (h : FD w f x v) :
    Calls Tryz.prog 81 #[.pointer (some ⟨f, 0, none⟩)] w fun e w' => e = .returned (.tuple #[]) ∧ w.grownBy w' (some f) ∧ FD w' f (x.1, (x.1.size : Int)) v := by
  have HF := hide (h.set1 (x.1.size : Int))
  obtain ⟨o, cap, rfl, hc1, hc2⟩ := h.shape
  have c0 : w.cell? ⟨f, 0, none⟩ = some (.slice o x.1.size cap) := cell_of_row _ _ 0 _ _ _ h.blk
  have c1 : w.cell? ⟨f, 1, none⟩ = some (.int .i64 x.2) := cell_of_row _ _ 1 _ _ _ h.blk
  have ff := fun j => frozen_of_row w f j _ _ h.blk
  clear h
  go_enter Tryz.func81, Tryz.ntmps81
  go_wp2_with fail
  go_end0
  exact ⟨rfl, grownBy_set _ _ _ _, HF.out⟩
theorem own_app_new {w w' : World} {e : TypeId} {v v' : Value} {n : Nat} {xs : List Value} (h : w'.ownsRow w.heap.size e 1 v' n xs) : NewOr w v v' := .inr fun k hk => (h.lt k hk).1
/-- append(b, s...): where the longer slice lies. -/
theorem run_append_str {P : Program} (w : World) (t u ty e : TypeId) (i : TypeInfo) (ht : P.underlying t = some (.slice e)) (hu : P.underlying u = some .string) (hi : P.info? e = some i) (hz : i.zero = some (.int .u8 0)) (hsize : i.size = 1) (hby : i.bytes = 1)
    (v : Value) (n : Nat) (xs : List Value) (hown : w.ownsRow 0 e 1 v n xs) (s : ByteArray) (hbytes : n + s.size ≤ 140737488355328) :
    ∃ o cap w', (Builtin.append_ #[t, u] ty #[v, .string s]).run P w = .ok (.slice o (n + s.size) cap) w' ∧ w'.ownsRow 0 e 1 (.slice o (n + s.size) cap) (n + s.size) (xs ++ Lib.strCells s) ∧ w.grownBy w' v.ownBlock ∧ NewOr w v (.slice o (n + s.size) cap) := by
  have h63 : n + s.size ≤ maxLen := by unfold maxLen; omega
  obtain ⟨v', w', hr, h2, h3, h4⟩ := Lib.run_append_own_string (P := P) w 0 t u ty e i ht hu hi hz hsize hby v n xs hown s h63 hbytes (Nat.zero_le _)
  obtain ⟨o, cap, rfl⟩ := own_sl h2
  refine ⟨o, cap, w', hr, h2, h3, ?_⟩
  rcases hown.2 with ⟨rfl, rfl⟩ | ⟨g, cp, cur, rfl, hbg, hg, hnc, hcm, hcs, htake⟩
  · have hx : xs = [] := List.eq_nil_of_length_eq_zero (by simpa using hown.1)
    subst hx
    obtain ⟨v2, w2, hr2, k2, _⟩ := Lib.run_append_own_string (P := P) w w.heap.size t u ty e i ht hu hi hz hsize hby _ 0 [] (World.ownsRow_nil _ _ _ _) s h63 hbytes (Nat.le_refl _)
    rw [hr] at hr2
    injection hr2 with e1 e2
    subst e1; subst e2
    exact own_app_new k2
  · by_cases hroom : n + s.size ≤ cp
    · have hr2 := Lib.run_append_room_string (P := P) w t u ty e i ht hu hi hsize g n cp cur hg s hroom (by simp at hcs; omega)
      rw [hr] at hr2
      injection hr2 with e1 e2
      injection e1 with e1
      subst e1
      exact .inl rfl
    · have holds : ∀ j u, xs[j]? = some u → w.cell? ((⟨g, 0, none⟩ : Addr).add j) = some u := hown.cells (g := g) rfl
      have hr2 := Lib.run_append_grow_string (P := P) w t u ty e i (.int .u8 0) ht hu hi hz ⟨g, 0, none⟩ n cp xs (by rw [hsize]; simpa using hown.1) holds s (by omega) (by omega) (by rw [hby]; exact growslice_fits (by omega) (by omega))
      rw [hr] at hr2
      injection hr2 with e1 e2
      injection e1 with e1
      subst e1
      refine .inr fun k hk => ?_
      simp only [Value.ownBlock, Option.some.injEq] at hk
      omega
theorem step_append_str {P : Program} (w : World) {ops : Array Oper} {o : Oper} {a : Act} {K : Act → World → Prop} {Q : Exit → Act → World → Prop} {E : Prop} (hgd : o.guard = none) (sl x : Operand) (t u : TypeId)
    (ho : o.op = .call { callee := .builtin .append, args := #[sl, x], argTypes := #[t, u] })
    (e : TypeId) (i : TypeInfo) (ht : P.underlying t = some (.slice e)) (hu : P.underlying u = some .string) (hi : P.info? e = some i) (hz : i.zero = some (.int .u8 0)) (hsize : i.size = 1) (hby : i.bytes = 1)
    (v : Value) (n : Nat) (xs : List Value) (hs : a.eval sl = v) (hown : w.ownsRow 0 e 1 v n xs) (s : ByteArray) (hx : a.eval x = .string s) (hbytes : n + s.size ≤ 140737488355328)
    (h : ∀ oa cap w', w'.ownsRow 0 e 1 (.slice oa (n + s.size) cap) (n + s.size) (xs ++ Lib.strCells s) → w.grownBy w' v.ownBlock → NewOr w v (.slice oa (n + s.size) cap) → K (a.put o.dst (.slice oa (n + s.size) cap)) w') :
    if Region.wanted o (yielded ops a.tmps) = true then Oper.wp P o a w K Q else E := by
  have hw : Region.wanted o (yielded ops a.tmps) = true := by simp [Region.wanted, hgd]
  rw [if_pos hw]
  obtain ⟨oa, cap, w', hr, h2, h3, h4⟩ := run_append_str (P := P) w t u o.type e i ht hu hi hz hsize hby v n xs hown s hbytes
  unfold Oper.wp execOp
  simp only [ho, resolve, invoke, builtin, Sem.run_bind, Sem.run_pure, Result.andThen_ok, List.map_toArray, List.map_cons, List.map_nil, hs, hx, hr]
  exact h oa cap w' h2 h3 h4
end Go.Proofs.YteicpbcddjjceaaGreatDoor

/-
  PROVED HERE: the program's disk, whole, and how it goes on from world to world; no walk.
-/
namespace Go.Proofs.YteicpbcddjjceaaGreatDoor
open Go.RowKit
/-- The program's disk: where it lies and what it holds. -/
structure PSt where
  b : Nat
  mb : Nat
  lb : Nat
  cv : Value
  R : RDk
  fs : List Nat
  fd : Nat → ByteArray × Int
  fv : Nat → Value
structure PSt.In (s : PSt) (w : World) : Prop where
  is : PDIs w s.b s.R s.mb s.lb s.cv
  fds : ∀ f ∈ s.fs, FD w f (s.fd f) (s.fv f)
  sep : ∀ f ∈ s.fs, ∀ g ∈ s.fs, f ≠ g → ∀ k, (s.fv f).ownBlock = some k → (s.fv g).ownBlock ≠ some k
  inow : ∀ e ∈ s.R.now, e.blk ∈ s.fs
  isafe : ∀ e ∈ s.R.safe, e.blk ∈ s.fs
  ichg : ∀ c ∈ s.R.chg, c.blk ∈ s.fs
def PSt.own (s : PSt) (k : Nat) : Prop := k = s.b ∨ k = s.mb ∨ k = s.lb ∨ s.cv.ownBlock = some k ∨ k ∈ s.fs ∨ ∃ f ∈ s.fs, (s.fv f).ownBlock = some k
theorem FD.same {w w' : World} {f : Nat} {x : ByteArray × Int} {v : Value} (h : FD w f x v) (h1 : w'.heap[f]? = w.heap[f]?) (h2 : ∀ k, v.ownBlock = some k → w'.heap[k]? = w.heap[k]?) : FD w' f x v := ⟨h1.trans h.blk, own_same h.row (fun k hk _ => h2 k hk)⟩
theorem PDIs.same {w w' : World} {b mb lb : Nat} {R : RDk} {cv : Value} (h : PDIs w b R mb lb cv) (h1 : w'.heap[b]? = w.heap[b]?) (h2 : w'.heap[mb]? = w.heap[mb]?) (h3 : w'.heap[lb]? = w.heap[lb]?) (h4 : ∀ k, cv.ownBlock = some k → w'.heap[k]? = w.heap[k]?) : PDIs w' b R mb lb cv :=
  ⟨h1.trans h.blk, h.now.later h2, h.safe.later h3, h.apart, own_same h.chg (fun k hk _ => h4 k hk)⟩
theorem PSt.In.lt {s : PSt} {w : World} (h : s.In w) {k : Nat} (hk : s.own k) : k < w.heap.size := by
  rcases hk with rfl | rfl | rfl | hk | hk | ⟨f, hf, hk⟩
  · exact lt_of_row h.is.blk
  · exact h.is.now.lt
  · exact h.is.safe.lt
  · obtain ⟨cur, hc⟩ := own_obj h.is.chg k hk; exact lt_heap hc
  · exact lt_of_row (h.fds k hk).blk
  · obtain ⟨cur, hc⟩ := own_obj (h.fds f hf).row k hk; exact lt_heap hc
/-- What a disk reaches is as it was: so is the disk. -/
theorem PSt.In.same {s : PSt} {w w' : World} (h : s.In w) (hk : ∀ k, s.own k → w'.heap[k]? = w.heap[k]?) : s.In w' := by
  refine ⟨h.is.same (hk _ (.inl rfl)) (hk _ (.inr (.inl rfl))) (hk _ (.inr (.inr (.inl rfl)))) (fun k e => hk k (.inr (.inr (.inr (.inl e))))), fun f hf => ?_, h.sep, h.inow, h.isafe, h.ichg⟩
  exact (h.fds f hf).same (hk f (.inr (.inr (.inr (.inr (.inl hf)))))) (fun k e => hk k (.inr (.inr (.inr (.inr (.inr ⟨f, hf, e⟩))))))
theorem PSt.In.later {s : PSt} {w w' : World} (h : s.In w) (hb : Below w.heap.size w w') : s.In w' := h.same fun k hk => hb.block k (h.lt hk)
/-- A disk has gone on. -/
structure PGo (s s' : PSt) (w w' : World) : Prop where
  b : s'.b = s.b
  inn : s'.In w'
  gr : Gr s.own w w'
  own : ∀ k, s'.own k → s.own k ∨ w.heap.size ≤ k
theorem PGo.refl {s : PSt} {w w' : World} (h : s.In w) (hb : Below w.heap.size w w') : PGo s s w w' := ⟨rfl, h.later hb, Gr.of_below hb, fun _ hk => .inl hk⟩
theorem PGo.trans {s s1 s2 : PSt} {w w1 w2 : World} (h1 : PGo s s1 w w1) (h2 : PGo s1 s2 w1 w2) : PGo s s2 w w2 := by
  refine ⟨h2.b.trans h1.b, h2.inn, ⟨h2.gr.os.trans h1.gr.os, h2.gr.tape.trans h1.gr.tape, h2.gr.output.trans h1.gr.output, Nat.le_trans h1.gr.size h2.gr.size, fun k hk hn => ?_⟩, fun k hk => ?_⟩
  · refine (h2.gr.block k (Nat.lt_of_lt_of_le hk h1.gr.size) (fun hs => ?_)).trans (h1.gr.block k hk hn)
    rcases h1.own k hs with h | h
    · exact hn h
    · omega
  · rcases h2.own k hk with h | h
    · exact h1.own k h
    · exact .inr (Nat.le_trans h1.gr.size h)
/-- A file's block and its row are no part of the disk's own blocks. -/
theorem PSt.In.fileNe {s : PSt} {w : World} (h : s.In w) {f : Nat} (hf : f ∈ s.fs) : f ≠ s.b ∧ f ≠ s.mb ∧ f ≠ s.lb ∧ s.cv.ownBlock ≠ some f ∧ ∀ k, (s.fv f).ownBlock = some k → k ≠ s.b ∧ k ≠ s.mb ∧ k ≠ s.lb ∧ s.cv.ownBlock ≠ some k ∧ k ∉ s.fs := by
  have hb := (h.fds f hf).blk
  obtain ⟨e1, c1, m1⟩ := h.is.now.isMap
  obtain ⟨e2, c2, m2⟩ := h.is.safe.isMap
  refine ⟨type_ne hb h.is.blk (by decide), (fun e => by rw [e, m1] at hb; cases hb), (fun e => by rw [e, m2] at hb; cases hb), fun e => ?_, fun k hk => ?_⟩
  · obtain ⟨cur, hc⟩ := own_obj h.is.chg f e; exact type_ne hc hb (by decide) rfl
  · obtain ⟨cur, hc⟩ := own_obj (h.fds f hf).row k hk
    refine ⟨type_ne hc h.is.blk (by decide), (fun e => by rw [e, m1] at hc; cases hc), (fun e => by rw [e, m2] at hc; cases hc), fun e => ?_, fun e => ?_⟩
    · obtain ⟨cur2, hc2⟩ := own_obj h.is.chg k e; exact type_ne hc hc2 (by decide) rfl
    · exact type_ne hc (h.fds k e).blk (by decide) rfl
def setV (fv : Nat → Value) (f : Nat) (v : Value) : Nat → Value := fun k => if k = f then v else fv k
theorem setNd_same (nd : Nat → ByteArray × Int) (f : Nat) (x : ByteArray × Int) : setNd nd f x f = x := by simp [setNd]
theorem setNd_ne (nd : Nat → ByteArray × Int) {f k : Nat} (x : ByteArray × Int) (h : k ≠ f) : setNd nd f x k = nd k := by simp [setNd, h]
theorem setV_same (fv : Nat → Value) (f : Nat) (v : Value) : setV fv f v f = v := by simp [setV]
theorem setV_ne (fv : Nat → Value) {f k : Nat} (v : Value) (h : k ≠ f) : setV fv f v k = fv k := by simp [setV, h]
/-- A file was written. -/
theorem PGo.file {s : PSt} {w w' : World} (h : s.In w) {f : Nat} (hf : f ∈ s.fs) {x : ByteArray × Int} {v : Value} (hg : Gr (fun k => k = f ∨ (s.fv f).ownBlock = some k) w w') (hn : FD w' f x v) (hv : NewOr w (s.fv f) v) :
    PGo s { s with fd := setNd s.fd f x, fv := setV s.fv f v } w w' := by
  obtain ⟨n1, n2, n3, n4, n5⟩ := h.fileNe hf
  have hk : ∀ k, k < w.heap.size → k ≠ f → (s.fv f).ownBlock ≠ some k → w'.heap[k]? = w.heap[k]? := fun k hk e1 e2 => hg.block k hk (fun e => e.elim e1 e2)
  have hrow : ∀ k, v.ownBlock = some k → (s.fv f).ownBlock = some k ∨ w.heap.size ≤ k := fun k e => hv.elim (fun h => .inl (by rw [← h]; exact e)) (fun h => .inr (h k e))
  refine ⟨rfl, ⟨?_, ?_, ?_, h.inow, h.isafe, h.ichg⟩, ?_, ?_⟩
  · refine h.is.same (hk _ (lt_of_row h.is.blk) (Ne.symm n1) (fun e => (n5 _ e).1 rfl)) (hk _ h.is.now.lt (Ne.symm n2) (fun e => (n5 _ e).2.1 rfl)) (hk _ h.is.safe.lt (Ne.symm n3) (fun e => (n5 _ e).2.2.1 rfl)) (fun k e => ?_)
    obtain ⟨cur, hc⟩ := own_obj h.is.chg k e
    exact hk k (lt_heap hc) (fun e2 => n4 (by rw [← e2]; exact e)) (fun e2 => (n5 _ e2).2.2.2.1 e)
  · intro g hg2
    dsimp only at hg2 ⊢
    by_cases e : g = f
    · subst e
      rw [setNd_same, setV_same]
      exact hn
    · rw [setNd_ne _ _ e, setV_ne _ _ e]
      refine (h.fds g hg2).same (hk g (lt_of_row (h.fds g hg2).blk) e (fun e2 => (n5 _ e2).2.2.2.2 hg2)) (fun k ek => ?_)
      obtain ⟨cur, hc⟩ := own_obj (h.fds g hg2).row k ek
      refine hk k (lt_heap hc) (fun e2 => ?_) (h.sep g hg2 f hf e k ek)
      exact (h.fileNe hg2).2.2.2.2 k ek |>.2.2.2.2 (by rw [e2]; exact hf)
  · intro g hg2 g' hg3 hne k ek
    dsimp only at hg2 hg3 ek ⊢
    have hold : ∀ y ∈ s.fs, y ≠ f → ∀ k, (s.fv y).ownBlock = some k → v.ownBlock ≠ some k := by
      intro y hy hyf k e1 e2
      rcases hrow k e2 with e3 | e3
      · exact h.sep y hy f hf hyf k e1 e3
      · obtain ⟨cur, hc⟩ := own_obj (h.fds y hy).row k e1
        have := lt_heap hc
        omega
    by_cases e : g = f
    · subst e
      rw [setV_same] at ek
      rw [setV_ne _ _ (Ne.symm hne)]
      exact fun e2 => hold g' hg3 (Ne.symm hne) k e2 ek
    · rw [setV_ne _ _ e] at ek
      by_cases e' : g' = f
      · subst e'
        rw [setV_same]
        exact hold g hg2 e k ek
      · rw [setV_ne _ _ e']
        exact h.sep g hg2 g' hg3 hne k ek
  · exact hg.mono fun k _ e => e.elim (fun e => by rw [e]; exact .inr (.inr (.inr (.inr (.inl hf))))) (fun e => .inr (.inr (.inr (.inr (.inr ⟨f, hf, e⟩)))))
  · intro k hk2
    rcases hk2 with e | e | e | e | e | ⟨g, hg2, e⟩
    · exact .inl (.inl e)
    · exact .inl (.inr (.inl e))
    · exact .inl (.inr (.inr (.inl e)))
    · exact .inl (.inr (.inr (.inr (.inl e))))
    · exact .inl (.inr (.inr (.inr (.inr (.inl e)))))
    · dsimp only at hg2 e
      by_cases e2 : g = f
      · subst e2
        rw [setV_same] at e
        rcases hrow k e with e3 | e3
        · exact .inl (.inr (.inr (.inr (.inr (.inr ⟨g, hg2, e3⟩)))))
        · exact .inr e3
      · rw [setV_ne _ _ e2] at e
        exact .inl (.inr (.inr (.inr (.inr (.inr ⟨g, hg2, e⟩)))))
/-- The disk's own blocks were written, no file. -/
theorem PGo.disk {s : PSt} {w w' : World} (h : s.In w) {R' : RDk} {mb' lb' : Nat} {cv' : Value} (hg : Gr (fun k => k = s.b ∨ k = s.mb ∨ k = s.lb ∨ s.cv.ownBlock = some k) w w') (hd : PDIs w' s.b R' mb' lb' cv')
    (hm : mb' = s.mb ∨ w.heap.size ≤ mb') (hl : lb' = s.lb ∨ w.heap.size ≤ lb') (hv : NewOr w s.cv cv') (h1 : ∀ e ∈ R'.now, e.blk ∈ s.fs) (h2 : ∀ e ∈ R'.safe, e.blk ∈ s.fs) (h3 : ∀ c ∈ R'.chg, c.blk ∈ s.fs) :
    PGo s { s with R := R', mb := mb', lb := lb', cv := cv' } w w' := by
  refine ⟨rfl, ⟨hd, ?_, h.sep, h1, h2, h3⟩, hg.mono fun k _ e => ?_, ?_⟩
  · intro f hf
    obtain ⟨n1, n2, n3, n4, n5⟩ := h.fileNe hf
    refine (h.fds f hf).same (hg.block f (lt_of_row (h.fds f hf).blk) (fun e => ?_)) (fun k ek => ?_)
    · rcases e with e | e | e | e
      · exact n1 e
      · exact n2 e
      · exact n3 e
      · exact n4 e
    · obtain ⟨cur, hc⟩ := own_obj (h.fds f hf).row k ek
      obtain ⟨m1, m2, m3, m4, _⟩ := n5 k ek
      refine hg.block k (lt_heap hc) (fun e => ?_)
      rcases e with e | e | e | e
      · exact m1 e
      · exact m2 e
      · exact m3 e
      · exact m4 e
  · rcases e with e | e | e | e
    · exact .inl e
    · exact .inr (.inl e)
    · exact .inr (.inr (.inl e))
    · exact .inr (.inr (.inr (.inl e)))
  · intro k hk2
    rcases hk2 with e | e | e | e | e | e
    · exact .inl (.inl e)
    · dsimp only at e
      rcases hm with hm | hm
      · exact .inl (.inr (.inl (by rw [e, hm])))
      · exact .inr (by rw [e]; exact hm)
    · dsimp only at e
      rcases hl with hl | hl
      · exact .inl (.inr (.inr (.inl (by rw [e, hl]))))
      · exact .inr (by rw [e]; exact hl)
    · dsimp only at e
      rcases hv with hv | hv
      · exact .inl (.inr (.inr (.inr (.inl (by rw [← hv]; exact e)))))
      · exact .inr (hv k e)
    · exact .inl (.inr (.inr (.inr (.inr (.inl e)))))
    · exact .inl (.inr (.inr (.inr (.inr (.inr e)))))
end Go.Proofs.YteicpbcddjjceaaGreatDoor

/-
  PROVED HERE: what the program's own function step of disks does, whatever the function that writes.
-/
namespace Go.Proofs.YteicpbcddjjceaaGreatDoor
open Go.RowKit
/-- Some path is none. -/
def anyBad (ps : List ByteArray) : Bool := ps.any fun p => !isPathB p
/-- The slice v shows these texts. -/
def StrsAt (w : World) (v : Value) (ps : List ByteArray) : Prop := ∃ oa c, v = .slice oa ps.length c ∧ ∀ i, i < ps.length → ∃ g, oa = some ⟨g, 0, none⟩ ∧ w.cell? ⟨g, i, none⟩ = some (.string (ps.getD i ⟨#[]⟩))
theorem StrsAt.later {w w' : World} {v : Value} {ps : List ByteArray} (h : StrsAt w v ps) (hb : Below w.heap.size w w') : StrsAt w' v ps := by
  obtain ⟨oa, c, e, h⟩ := h
  refine ⟨oa, c, e, fun i hi => ?_⟩
  obtain ⟨g, e2, hr⟩ := h i hi
  exact ⟨g, e2, cell_later hb hr⟩
theorem any_none {ps : List ByteArray} (h : ∀ j, j < ps.length → isPathB (ps.getD j ⟨#[]⟩) = true) : anyBad ps = false := by
  unfold anyBad
  rw [List.any_eq_false]
  intro p hp
  obtain ⟨i, hi, rfl⟩ := List.getElem_of_mem hp
  have := h i hi
  rw [List.getD_eq_getElem?_getD, List.getElem?_eq_getElem hi] at this
  simpa using this
theorem any_some {ps : List ByteArray} {k : Nat} (hk : k < ps.length) (h : isPathB (ps.getD k ⟨#[]⟩) = false) : anyBad ps = true := by
  unfold anyBad
  rw [List.any_eq_true]
  refine ⟨ps.getD k ⟨#[]⟩, ?_, by rw [h]; rfl⟩
  rw [List.getD_eq_getElem?_getD, List.getElem?_eq_getElem hk]
  simp
set_option maxHeartbeats 1000000 in
set_option maxRecDepth 100000 in
theorem indexF_any (v : Value) (ps : List ByteArray) (w : World) (h : StrsAt w v ps) (hl : ps.length ≤ 1000000000) (hp : ∀ p ∈ ps, p.size ≤ 9223372036854775807) :
    Calls Tryz.prog 241 #[v, .func (.func 148) #[] #[]] w fun e w' => w' = w ∧ ∃ i : Int, e = .returned (.int .i64 i) ∧ decide (0 ≤ i) = anyBad ps := by
  obtain ⟨oa, c, rfl, hr⟩ := h
  obtain ⟨n, hn⟩ : ∃ n, n = ps.length := ⟨_, rfl⟩
  rw [← hn] at hr hl ⊢
  have HN := hide hn
  have HR := hide hr
  have HI := hide (fun p (hm : p ∈ ps) => isNoPath_any p w (hp p hm))
  clear hn hr
  go_enter Tryz.func241, Tryz.ntmps241
  go_wp2_with fail
  go_loopw [8] (fun iv wr => ∃ k : Nat, k ≤ n ∧ iv = .int .i64 ((k : Nat) : Int) ∧ wr = w ∧ ∀ j, j < k → isPathB (ps.getD j ⟨#[]⟩) = true) (fun iv _ => n - (intOf iv).toNat)
  case atStart => exact ⟨0, Nat.zero_le _, rfl, rfl, fun j hj => by omega⟩
  case round =>
    obtain ⟨k, hk, rfl, hw, hne⟩ := hrel
    subst hw
    have HNE := hide hne
    clear hne
    by_cases hlt : k < n
    · obtain ⟨g, rfl, hrg⟩ := HR.out k hlt
      have hmem : ps.getD k ⟨#[]⟩ ∈ ps := by
        have hk2 : k < ps.length := by rw [← HN.out]; exact hlt
        rw [List.getD_eq_getElem?_getD, List.getElem?_eq_getElem hk2]; simp
      have HC := hide (HI.out _ hmem)
      obtain ⟨p, hpe⟩ : ∃ p, p = ps.getD k ⟨#[]⟩ := ⟨_, rfl⟩
      rw [← hpe] at hrg HC
      have HPE := hide hpe
      clear hmem hpe
      go_wp2_with fail
      refine (HC.out).mono ?_
      rintro _ w1 ⟨rfl, hw⟩
      subst hw
      dsimp only
      cases hb : isPathB p with
      | true =>
        simp only [Bool.not_true]
        go_wp2_with fail
        go_roundw
        case rel =>
          refine ⟨k + 1, by omega, by go_num, by first | trivial | rfl, fun j hj => ?_⟩
          by_cases e : j = k
          · subst e; rw [← HPE.out]; exact hb
          · exact HNE.out j (by omega)
        case measure => simp [intOf]; omega
      | false =>
        simp only [Bool.not_false]
        go_wp2_with fail
        go_ret
        refine ⟨rfl, _, rfl, ?_⟩
        rw [any_some (k := k) (by rw [← HN.out]; exact hlt) (by rw [← HPE.out]; exact hb)]
        simp
    · have e1 : decide (((k : Nat) : Int) < ((n : Nat) : Int)) = false := by simp; omega
      go_wp2_with fail
      go_ret
      refine ⟨rfl, _, rfl, ?_⟩
      rw [any_none (fun j hj => HNE.out j (by rw [← HN.out] at hj; omega))]
      decide
set_option maxHeartbeats 1000000 in
set_option maxRecDepth 100000 in
theorem containsF_any (v : Value) (ps : List ByteArray) (w : World) (h : StrsAt w v ps) (hl : ps.length ≤ 1000000000) (hp : ∀ p ∈ ps, p.size ≤ 9223372036854775807) :
    Calls Tryz.prog 216 #[v, .func (.func 148) #[] #[]] w fun e w' => w' = w ∧ e = .returned (.bool (anyBad ps)) := by
  have HI := hide (indexF_any v ps w h hl hp)
  obtain ⟨oa, c, rfl, _⟩ := h
  go_enter Tryz.func216, Tryz.ntmps216
  go_wp2_with fail
  refine (HI.out).mono ?_
  rintro _ w1 ⟨hw, i, rfl, hi⟩
  subst hw
  dsimp only
  have HX := hide hi
  clear hi
  go_wp2_with fail
  go_ret
  refine ⟨rfl, ?_⟩
  rw [← HX.out]
  rfl
theorem PDIs.setCount {w : World} {b mb lb : Nat} {R : RDk} {cv : Value} (h : PDIs w b R mb lb cv) (c : Int) : PDIs (w.setCell ⟨b, 4, none⟩ (.int .i64 c)) b { R with count := c } mb lb cv := by
  obtain ⟨n1, n2, n3, n4, n5⟩ := h.ne
  have hset : ∀ k, k ≠ b → (w.setCell ⟨b, 4, none⟩ (.int .i64 c)).heap[k]? = w.heap[k]? := fun k hk => heap_setCell_other _ _ _ _ (by simpa using hk)
  exact ⟨by rw [heap_setCell_same _ b 4 _ _ _ h.blk]; rfl, h.now.later (hset _ (Ne.symm n4)), h.safe.later (hset _ (Ne.symm n5)), h.apart, own_same h.chg (fun k hk _ => hset k (fun e => n1 (by rw [← e]; exact hk)))⟩
theorem PDIs.setLeft {w : World} {b mb lb : Nat} {R : RDk} {cv : Value} (h : PDIs w b R mb lb cv) (c : Int) : PDIs (w.setCell ⟨b, 5, none⟩ (.int .i64 c)) b { R with left := c } mb lb cv := by
  obtain ⟨n1, n2, n3, n4, n5⟩ := h.ne
  have hset : ∀ k, k ≠ b → (w.setCell ⟨b, 5, none⟩ (.int .i64 c)).heap[k]? = w.heap[k]? := fun k hk => heap_setCell_other _ _ _ _ (by simpa using hk)
  exact ⟨by rw [heap_setCell_same _ b 5 _ _ _ h.blk]; rfl, h.now.later (hset _ (Ne.symm n4)), h.safe.later (hset _ (Ne.symm n5)), h.apart, own_same h.chg (fun k hk _ => hset k (fun e => n1 (by rw [← e]; exact hk)))⟩
theorem PGo.set {s : PSt} {w w' : World} (h : s.In w) {R' : RDk} (hg : w.grownBy w' (some s.b)) (hd : PDIs w' s.b R' s.mb s.lb s.cv) (h1 : R'.now = s.R.now) (h2 : R'.safe = s.R.safe) (h3 : R'.chg = s.R.chg) : PGo s { s with R := R' } w w' :=
  PGo.disk h (Gr.of_grownBy hg (.inl rfl)) hd (.inl rfl) (.inl rfl) (.inl rfl) (by rw [h1]; exact h.inow) (by rw [h2]; exact h.isafe) (by rw [h3]; exact h.ichg)
set_option maxHeartbeats 1000000 in
set_option maxRecDepth 100000 in
theorem pstep_bad (b : Nat) (nm : ByteArray) (pv : Value) (ps : List ByteArray) (fvv : Value) (w : World) (hs : StrsAt w pv ps) (hl : ps.length ≤ 1000000000) (hp : ∀ p ∈ ps, p.size ≤ 9223372036854775807) (hb : anyBad ps = true) :
    Calls Tryz.prog 179 #[.pointer (some ⟨b, 0, none⟩), .string nm, pv, fvv] w fun e w' => ∃ v, e = .returned v ∧ stepE w' v 2 ∧ Below w.heap.size w w' := by
  have HC := hide (containsF_any pv ps w hs hl hp)
  rw [hb] at HC
  obtain ⟨oa, c, rfl, _⟩ := hs
  have hfin : stepE (w.alloc (.cells #[.string nm, .iface 147 (.int .i64 2)] 152)) (.iface 150 (.pointer (some ⟨w.heap.size, 0, none⟩))) 2 := ⟨_, nm, rfl, heap_alloc_new _ _⟩
  have HF := hide hfin
  clear hfin
  go_enter Tryz.func179, Tryz.ntmps179
  go_wp2_with fail
  refine (HC.out).mono ?_
  rintro _ w1 ⟨hw, rfl⟩
  subst hw
  dsimp only
  go_wp2_with fail
  go_ret
  exact ⟨_, rfl, HF.out, (Below.refl _ _).alloc (Nat.le_refl _) _⟩
set_option maxHeartbeats 1000000 in
set_option maxRecDepth 100000 in
theorem pstep_broken (s : PSt) (nm : ByteArray) (pv : Value) (ps : List ByteArray) (fvv : Value) (w : World) (h : s.In w) (hs : StrsAt w pv ps) (hl : ps.length ≤ 1000000000) (hp : ∀ p ∈ ps, p.size ≤ 9223372036854775807) (hb : anyBad ps = false) (h0 : s.R.left = 0) :
    Calls Tryz.prog 179 #[.pointer (some ⟨s.b, 0, none⟩), .string nm, pv, fvv] w fun e w' => e = .returned .nilIface ∧ w' = w := by
  have HC := hide (containsF_any pv ps w hs hl hp)
  rw [hb] at HC
  obtain ⟨oa, c, rfl, _⟩ := hs
  have c5 : w.cell? ⟨s.b, 5, none⟩ = some (.int .i64 s.R.left) := cell_of_row _ _ 5 _ _ _ h.is.blk
  rw [h0] at c5
  clear h
  go_enter Tryz.func179, Tryz.ntmps179
  go_wp2_with fail
  refine (HC.out).mono ?_
  rintro _ w1 ⟨hw, rfl⟩
  subst hw
  dsimp only
  go_wp2_with fail
  go_ret
  exact ⟨rfl, rfl⟩
set_option maxHeartbeats 2000000 in
set_option maxRecDepth 100000 in
theorem pstep_run (s : PSt) (nm : ByteArray) (pv : Value) (ps : List ByteArray) (K : Nat) (cap : Array Value) (w : World) (Bad : Int → Prop) (P : PSt → Prop) (h : s.In w) (hs : StrsAt w pv ps) (hl : ps.length ≤ 1000000000) (hp : ∀ p ∈ ps, p.size ≤ 9223372036854775807) (hb : anyBad ps = false) (h0 : s.R.left ≠ 0) (hf : Cnt4 s.R)
    (hcf : ∀ (args : Array Value) (w : World), (callFunc K args).run Tryz.prog w = .ok (.enter K args) w)
    (hv : Calls Tryz.prog K cap w fun e w1 => (∃ k, Bad k ∧ e = .returned (refV k) ∧ Below w.heap.size w w1) ∨ (e = .returned .nilIface ∧ ∃ s1, PGo s s1 w w1 ∧ s1.R.count = s.R.count ∧ s1.R.left = s.R.left ∧ P s1)) :
    Calls Tryz.prog 179 #[.pointer (some ⟨s.b, 0, none⟩), .string nm, pv, .func (.func K) #[] cap] w fun e w' =>
      (∃ k v, Bad k ∧ e = .returned v ∧ stepE w' v k ∧ Below w.heap.size w w') ∨ (e = .returned .nilIface ∧ ∃ s1, PGo s { s1 with R := s1.R.wrote } w w' ∧ P s1) := by
  have HC := hide (containsF_any pv ps w hs hl hp)
  rw [hb] at HC
  obtain ⟨oa, c, rfl, _⟩ := hs
  have c5 : w.cell? ⟨s.b, 5, none⟩ = some (.int .i64 s.R.left) := cell_of_row _ _ 5 _ _ _ h.is.blk
  have HV := hide hv
  have HF := hide hf
  have e5 : decide (s.R.left = 0) = false := decide_eq_false h0
  clear h hv hf
  go_enter Tryz.func179, Tryz.ntmps179
  go_wp2_with fail
  refine (HC.out).mono ?_
  rintro _ w1 ⟨hw, rfl⟩
  subst hw
  dsimp only
  go_wp2_with fail
  refine (HV.out).mono ?_
  rintro _ w2 (⟨k, hbk, rfl, hbl⟩ | ⟨rfl, s1, hgo, hcn, hlf, hP⟩)
  · dsimp only [refV]
    have hfin : stepE (w2.alloc (.cells #[.string nm, .iface 147 (.int .i64 k)] 152)) (.iface 150 (.pointer (some ⟨w2.heap.size, 0, none⟩))) k := ⟨_, nm, rfl, heap_alloc_new _ _⟩
    have HFIN := hide hfin
    have HBL := hide (hbl.alloc hbl.size (.cells #[.string nm, .iface 147 (.int .i64 k)] 152))
    have HBK := hide hbk
    clear hfin hbl hbk
    go_wp2_with fail
    go_ret
    exact .inl ⟨k, _, HBK.out, rfl, HFIN.out, HBL.out⟩
  · dsimp only
    have hin := hgo.inn
    have hbb := hgo.b
    have hd := hin.is
    rw [hbb] at hd
    have k4 : w2.cell? ⟨s.b, 4, none⟩ = some (.int .i64 s1.R.count) := cell_of_row _ _ 4 _ _ _ hd.blk
    have k5 : w2.cell? ⟨s.b, 5, none⟩ = some (.int .i64 s1.R.left) := cell_of_row _ _ 5 _ _ _ hd.blk
    have kf := fun j => frozen_of_row w2 s.b j _ _ hd.blk
    obtain ⟨q1, q2, q3, q4⟩ : Cnt4 s1.R := by unfold Cnt4; rw [hcn, hlf]; exact HF.out
    have hl0 : s1.R.left ≠ 0 := by rw [hlf]; exact h0
    by_cases hm1 : s1.R.left = -1
    · have hR : s1.R.wrote = { s1.R with count := s1.R.count + 1 } := by
        unfold RDk.wrote
        rw [if_neg (by omega)]
      have hgo2 : PGo s { s1 with R := s1.R.wrote } w1 (w2.setCell ⟨s.b, 4, none⟩ (.int .i64 (s1.R.count + 1))) := by
        refine hgo.trans (PGo.set hin (by rw [hbb]; exact grownBy_set _ _ _ _) ?_ rfl rfl rfl)
        rw [hbb, hR]
        exact hd.setCount _
      have HGO := hide hgo2
      have HP := hide hP
      rw [hm1] at k5
      clear hgo2 hR hgo hP hin hd hl0 hlf hcn
      go_wp2_with fail
      go_ret
      exact .inr ⟨rfl, s1, HGO.out, HP.out⟩
    · have hR : s1.R.wrote = { s1.R with count := s1.R.count + 1, left := s1.R.left - 1 } := by
        unfold RDk.wrote
        rw [if_pos (by omega)]
      have hgo2 : PGo s { s1 with R := s1.R.wrote } w1 ((w2.setCell ⟨s.b, 4, none⟩ (.int .i64 (s1.R.count + 1))).setCell ⟨s.b, 5, none⟩ (.int .i64 (s1.R.left - 1))) := by
        refine hgo.trans (PGo.set hin (by rw [hbb]; exact grownBy_trans (grownBy_set _ _ _ _) (grownBy_set _ _ _ _)) ?_ rfl rfl rfl)
        rw [hbb, hR]
        exact (hd.setCount _).setLeft _
      have HGO := hide hgo2
      have HP := hide hP
      have m5 : decide (s1.R.left = -1) = false := decide_eq_false hm1
      have hw1 : s1.R.left - 1 ≤ 9223372036854775807 := by omega
      have hw2 : -9223372036854775808 ≤ s1.R.left - 1 := by omega
      clear hgo2 hR hgo hP hin hd hl0 hlf hcn
      go_wp2_with fail
      go_ret
      exact .inr ⟨rfl, s1, HGO.out, HP.out⟩
end Go.Proofs.YteicpbcddjjceaaGreatDoor
