/-
  PROVED HERE: the files of the program's disk in memory; what its own functions cut and sync of files do; append of a text's bytes.
-/
import Derived.Test.YtjipdjkcdoajbaaGreatDoorPdList
import Derived.Lib.AppendStr
namespace Go.Proofs.YtjipdjkcdoajbaaGreatDoor
open Go.RowKit
/-- A file: its block, the row of its bytes. -/
structure FD (w : World) (f : Nat) (x : ByteArray × Int) (v : Value) : Prop where
  blk : w.heap[f]? = some (.cells #[v, .int .i64 x.2] 96 (0, 0))
  row : w.ownsRow 0 5 1 v x.1.size (Lib.strCells x.1)
theorem strCells_take (s : ByteArray) (m : Nat) : Lib.strCells (s.extract 0 m) = (Lib.strCells s).take m := by
  unfold Lib.strCells
  rw [← List.map_take]
  congr 1
  simp
theorem strCells_app (s t : ByteArray) : Lib.strCells (s ++ t) = Lib.strCells s ++ Lib.strCells t := by
  unfold Lib.strCells
  rw [← List.map_append]
  simp
theorem size_ext (s : ByteArray) {m : Nat} (hm : m ≤ s.size) : (s.extract 0 m).size = m := by simp; omega
theorem own_take {w : World} {e : TypeId} {o : Option Addr} {n m cap : Nat} {xs : List Value} (h : w.ownsRow 0 e 1 (.slice o n cap) n xs) (hm : m ≤ n) : w.ownsRow 0 e 1 (.slice o m cap) m (xs.take m) := by
  have hl : xs.length = n := by simpa using h.1
  refine ⟨by rw [List.length_take]; omega, ?_⟩
  rcases h.2 with ⟨h1, h2⟩ | ⟨g, cp, cur, h1, h2, h3, h4, h5, h6, h7⟩
  · injection h1 with h1 _ h3
    subst h1; subst h3
    have : m = 0 := by omega
    subst this
    exact .inl ⟨rfl, rfl⟩
  · injection h1 with h1 _ h8
    subst h1; subst h8
    refine .inr ⟨g, cap, cur, rfl, h2, h3, by omega, h5, h6, ?_⟩
    rw [← h7, List.take_take]
    congr 1
    omega
theorem FD.shape {w : World} {f : Nat} {x : ByteArray × Int} {v : Value} (h : FD w f x v) : ∃ o cap, v = .slice o x.1.size cap ∧ x.1.size ≤ cap ∧ cap ≤ maxLen := by
  rcases h.row.2 with ⟨rfl, h0⟩ | ⟨g, cap, cur, rfl, _, _, h4, h5, _⟩
  · exact ⟨none, 0, by rw [h0], by omega, by unfold maxLen; omega⟩
  · exact ⟨_, cap, rfl, h4, h5⟩
theorem FD.rowNe {w : World} {f : Nat} {x : ByteArray × Int} {v : Value} (h : FD w f x v) : v.ownBlock ≠ some f := by
  intro e
  obtain ⟨cur, hc⟩ := own_obj h.row f e
  exact type_ne hc h.blk (by decide) rfl
theorem FD.set {w : World} {f : Nat} {x y : ByteArray × Int} {v v' : Value} (h : FD w f x v) (ho : w.ownsRow 0 5 1 v' y.1.size (Lib.strCells y.1)) : FD ((w.setCell ⟨f, 0, none⟩ v').setCell ⟨f, 1, none⟩ (.int .i64 y.2)) f y v' := by
  refine ⟨by rw [heap_setCell_same _ f 1 _ _ _ (heap_setCell_same _ f 0 _ _ _ h.blk)]; rfl, own_same ho (fun k hk _ => ?_)⟩
  have hk2 : k ≠ f := by
    intro e
    rw [e] at hk
    obtain ⟨cur, hc⟩ := own_obj ho f hk
    exact type_ne hc h.blk (by decide) rfl
  rw [heap_setCell_other _ _ _ _ (by simpa using hk2), heap_setCell_other _ _ _ _ (by simpa using hk2)]
theorem FD.set0 {w : World} {f : Nat} {x y : ByteArray × Int} {v v' : Value} (h : w.heap[f]? = some (.cells #[v, .int .i64 x.2] 96 (0, 0))) (hy : y.2 = x.2) (ho : w.ownsRow 0 5 1 v' y.1.size (Lib.strCells y.1)) : FD (w.setCell ⟨f, 0, none⟩ v') f y v' := by
  refine ⟨by rw [heap_setCell_same _ f 0 _ _ _ h, hy]; rfl, own_same ho (fun k hk _ => ?_)⟩
  have hk2 : k ≠ f := by
    intro e
    rw [e] at hk
    obtain ⟨cur, hc⟩ := own_obj ho f hk
    exact type_ne hc h (by decide) rfl
  exact heap_setCell_other _ _ _ _ (by simpa using hk2)
theorem FD.set1 {w : World} {f : Nat} {x : ByteArray × Int} {v : Value} (h : FD w f x v) (y : Int) : FD (w.setCell ⟨f, 1, none⟩ (.int .i64 y)) f (x.1, y) v := by
  refine ⟨by rw [heap_setCell_same _ f 1 _ _ _ h.blk]; rfl, own_same h.row (fun k hk _ => heap_setCell_other _ _ _ _ (fun e => h.rowNe (by simp only at e; rw [← e]; exact hk)))⟩
set_option maxHeartbeats 1000000 in
set_option maxRecDepth 100000 in
theorem pcut_any (f : Nat) (x : ByteArray × Int) (v : Value) (n : Nat) (w : World) (h : FD w f x v) (hn : n ≤ x.1.size) :
    Calls Tryz.prog 80 #[.pointer (some ⟨f, 0, none⟩), .int .i64 (n : Int)] w fun e w' => e = .returned (.tuple #[]) ∧ w.grownBy w' (some f) ∧ ∃ v', FD w' f (x.1.extract 0 n, min x.2 (n : Int)) v' ∧ v'.ownBlock = v.ownBlock := by
  obtain ⟨o, cap, rfl, hc1, hc2⟩ := h.shape
  have c0 : w.cell? ⟨f, 0, none⟩ = some (.slice o x.1.size cap) := cell_of_row _ _ 0 _ _ _ h.blk
  have c1 : w.cell? ⟨f, 1, none⟩ = some (.int .i64 x.2) := cell_of_row _ _ 1 _ _ _ h.blk
  have ff := fun j => frozen_of_row w f j _ _ h.blk
  have ho := own_take h.row hn
  rw [← strCells_take] at ho
  have hset : ∀ y : Int, FD ((w.setCell ⟨f, 0, none⟩ (.slice o n cap)).setCell ⟨f, 1, none⟩ (.int .i64 y)) f (x.1.extract 0 n, y) (.slice o n cap) := fun y => h.set (y := (x.1.extract 0 n, y)) (by dsimp only; rw [size_ext _ hn]; exact ho)
  have HS := hide hset
  have HG : Hid (∀ y : Int, w.grownBy ((w.setCell ⟨f, 0, none⟩ (.slice o n cap)).setCell ⟨f, 1, none⟩ (.int .i64 y)) (some f)) := fun y => grownBy_trans (grownBy_set _ _ _ _) (grownBy_set _ _ _ _)
  have hncap : n ≤ cap := by omega
  have hcap : cap ≤ 9223372036854775807 := by unfold maxLen at hc2; omega
  have hob : ∀ m, (Value.slice o m cap).ownBlock = (Value.slice o x.1.size cap).ownBlock := by intro m; cases o <;> rfl
  have HOB := hide hob
  clear h ho hset hob
  generalize x.1.size = sz at c0 hc1 hn HOB
  go_enter Tryz.func80, Tryz.ntmps80
  cases o with
  | none =>
    go_wp2_with fail
    go_end0
    exact ⟨rfl, HG.out _, _, HS.out _, HOB.out _⟩
  | some a =>
    go_wp2_with fail
    go_end0
    exact ⟨rfl, HG.out _, _, HS.out _, HOB.out _⟩
set_option maxHeartbeats 1000000 in
set_option maxRecDepth 100000 in
theorem psync_file (f : Nat) (x : ByteArray × Int) (v : Value) (w : World) (h : FD w f x v) :
    Calls Tryz.prog 82 #[.pointer (some ⟨f, 0, none⟩)] w fun e w' => e = .returned (.tuple #[]) ∧ w.grownBy w' (some f) ∧ FD w' f (x.1, (x.1.size : Int)) v := by
  have HF := hide (h.set1 (x.1.size : Int))
  obtain ⟨o, cap, rfl, hc1, hc2⟩ := h.shape
  have c0 : w.cell? ⟨f, 0, none⟩ = some (.slice o x.1.size cap) := cell_of_row _ _ 0 _ _ _ h.blk
  have c1 : w.cell? ⟨f, 1, none⟩ = some (.int .i64 x.2) := cell_of_row _ _ 1 _ _ _ h.blk
  have ff := fun j => frozen_of_row w f j _ _ h.blk
  clear h
  go_enter Tryz.func82, Tryz.ntmps82
  go_wp2_with fail
  go_end0
  exact ⟨rfl, grownBy_set _ _ _ _, HF.out⟩
theorem own_app_new {w w' : World} {e : TypeId} {v v' : Value} {n : Nat} {xs : List Value} (h : w'.ownsRow w.heap.size e 1 v' n xs) : NewOr w v v' := .inr fun k hk => (h.lt k hk).1
/-- append(b, s...): where the longer slice lies. -/
theorem run_append_str {P : Program} (w : World) (t u ty e : TypeId) (i : TypeInfo) (ht : P.underlying t = some (.slice e)) (hu : P.underlying u = some .string) (hi : P.info? e = some i) (hz : i.zero = some (.int .u8 0)) (hsize : i.size = 1) (hby : i.bytes = 1)
    (v : Value) (n : Nat) (xs : List Value) (hown : w.ownsRow 0 e 1 v n xs) (s : ByteArray) (hbytes : n + s.size ≤ 140737488355328) :
    ∃ o cap w', (Builtin.append_ #[t, u] ty #[v, .string s]).run P w = .ok (.slice o (n + s.size) cap) w' ∧ w'.ownsRow 0 e 1 (.slice o (n + s.size) cap) (n + s.size) (xs ++ Lib.strCells s) ∧ w.grownBy w' v.ownBlock ∧ NewOr w v (.slice o (n + s.size) cap) := by
  have h63 : n + s.size ≤ maxLen := by unfold maxLen; omega
  obtain ⟨v', w', hr, h2, h3, h4⟩ := Lib.run_append_own_string (P := P) w 0 t u ty e i ht hu hi hz hsize hby v n xs hown s h63 hbytes (Nat.zero_le _)
  obtain ⟨o, cap, rfl⟩ := own_sl h2
  refine ⟨o, cap, w', hr, h2, h3, ?_⟩
  rcases hown.2 with ⟨rfl, rfl⟩ | ⟨g, cp, cur, rfl, hbg, hg, hnc, hcm, hcs, htake⟩
  · have hx : xs = [] := List.eq_nil_of_length_eq_zero (by simpa using hown.1)
    subst hx
    obtain ⟨v2, w2, hr2, k2, _⟩ := Lib.run_append_own_string (P := P) w w.heap.size t u ty e i ht hu hi hz hsize hby _ 0 [] (World.ownsRow_nil _ _ _ _) s h63 hbytes (Nat.le_refl _)
    rw [hr] at hr2
    injection hr2 with e1 e2
    subst e1; subst e2
    exact own_app_new k2
  · by_cases hroom : n + s.size ≤ cp
    · have hr2 := Lib.run_append_room_string (P := P) w t u ty e i ht hu hi hsize g n cp cur hg s hroom (by simp at hcs; omega)
      rw [hr] at hr2
      injection hr2 with e1 e2
      injection e1 with e1
      subst e1
      exact .inl rfl
    · have holds : ∀ j u, xs[j]? = some u → w.cell? ((⟨g, 0, none⟩ : Addr).add j) = some u := hown.cells (g := g) rfl
      have hr2 := Lib.run_append_grow_string (P := P) w t u ty e i (.int .u8 0) ht hu hi hz ⟨g, 0, none⟩ n cp xs (by rw [hsize]; simpa using hown.1) holds s (by omega) (by omega) (by rw [hby]; exact growslice_fits (by omega) (by omega))
      rw [hr] at hr2
      injection hr2 with e1 e2
      injection e1 with e1
      subst e1
      refine .inr fun k hk => ?_
      simp only [Value.ownBlock, Option.some.injEq] at hk
      omega
theorem step_append_str {P : Program} (w : World) {ops : Array Oper} {o : Oper} {a : Act} {K : Act → World → Prop} {Q : Exit → Act → World → Prop} {E : Prop} (hgd : o.guard = none) (sl x : Operand) (t u : TypeId)
    (ho : o.op = .call { callee := .builtin .append, args := #[sl, x], argTypes := #[t, u] })
    (e : TypeId) (i : TypeInfo) (ht : P.underlying t = some (.slice e)) (hu : P.underlying u = some .string) (hi : P.info? e = some i) (hz : i.zero = some (.int .u8 0)) (hsize : i.size = 1) (hby : i.bytes = 1)
    (v : Value) (n : Nat) (xs : List Value) (hs : a.eval sl = v) (hown : w.ownsRow 0 e 1 v n xs) (s : ByteArray) (hx : a.eval x = .string s) (hbytes : n + s.size ≤ 140737488355328)
    (h : ∀ oa cap w', w'.ownsRow 0 e 1 (.slice oa (n + s.size) cap) (n + s.size) (xs ++ Lib.strCells s) → w.grownBy w' v.ownBlock → NewOr w v (.slice oa (n + s.size) cap) → K (a.put o.dst (.slice oa (n + s.size) cap)) w') :
    if Region.wanted o (yielded ops a.tmps) = true then Oper.wp P o a w K Q else E := by
  have hw : Region.wanted o (yielded ops a.tmps) = true := by simp [Region.wanted, hgd]
  rw [if_pos hw]
  obtain ⟨oa, cap, w', hr, h2, h3, h4⟩ := run_append_str (P := P) w t u o.type e i ht hu hi hz hsize hby v n xs hown s hbytes
  unfold Oper.wp execOp
  simp only [ho, resolve, invoke, builtin, Sem.run_bind, Sem.run_pure, Result.andThen_ok, List.map_toArray, List.map_cons, List.map_nil, hs, hx, hr]
  exact h oa cap w' h2 h3 h4
end Go.Proofs.YtjipdjkcdoajbaaGreatDoor
