/-
  PROVED HERE: what the document's own functions isPath, find and with of disks answer: entries by their paths, in rows that are never written again.
-/
import Derived.Test.YtjipdjkcdoajbaaGreatDoorKeepApp
import Derived.Test.YtjipdjkcdoajbaaGreatDoorTagRows
import Derived.Deep.CutRange
namespace Go.Proofs.YtjipdjkcdoajbaaGreatDoor
open Go.RowKit
/-- An entry: a path, and the block of the file. -/
structure DE where
  path : ByteArray
  blk : Nat
def DE0 : DE := ⟨⟨#[]⟩, 0⟩
def DE.cells (e : DE) : List Value := [.string e.path, .pointer (some ⟨e.blk, 0, none⟩)]
/-- The entries l lie where the slice says; the row may be shared. -/
def DEAt (w : World) (v : Value) (l : List DE) : Prop :=
  ∃ oa c, v = .slice oa l.length c ∧ ∀ i, i < l.length → ∃ g, oa = some ⟨g, 0, none⟩ ∧ w.rangeAt g (i * 2) (l.getD i DE0).cells
theorem DEAt.later {w w' : World} {v : Value} {l : List DE} (h : DEAt w v l) (hb : Below w.heap.size w w') : DEAt w' v l := by
  obtain ⟨oa, c, e, h⟩ := h
  refine ⟨oa, c, e, fun i hi => ?_⟩
  obtain ⟨g, e2, hr⟩ := h i hi
  exact ⟨g, e2, fun j u hu => cell_later hb (hr j u hu)⟩
def isPathB (s : ByteArray) : Bool := decide (1 ≤ s.size) && decide (s.size ≤ 80)
def findE (p : ByteArray) : List DE → Option Nat
  | [] => none
  | e :: es => if e.path = p then some e.blk else findE p es
def ptrOf : Option Nat → Value
  | none => .pointer none
  | some b => .pointer (some ⟨b, 0, none⟩)
def lessB (a b : ByteArray) : Bool := Op.bytesLess a.toList b.toList
/-- The entries with (or without) a file under a path. -/
def withE (p : ByteArray) (ob : Option Nat) : List DE → Bool → List DE
  | [], done => if done then [] else (match ob with | some b => [⟨p, b⟩] | none => [])
  | e :: es, done => (if !done && lessB p e.path then (match ob with | some b => [⟨p, b⟩] | none => []) else []) ++ (if e.path = p then [] else [e]) ++ withE p ob es (done || lessB p e.path)
set_option maxHeartbeats 1000000 in
set_option maxRecDepth 100000 in
theorem isPath_any (s : ByteArray) (w : World) (hs : s.size ≤ 9223372036854775807) : Calls Tryz.prog 71 #[.string s] w fun e w' => e = .returned (.bool (isPathB s)) ∧ w' = w := by
  unfold isPathB
  go_enter Tryz.func71, Tryz.ntmps71
  by_cases h1 : 1 ≤ s.size
  · by_cases h2 : s.size ≤ 80
    · have e1 : (1 : Int) ≤ (s.size : Int) := by omega
      have e2 : (s.size : Int) ≤ 80 := by omega
      go_wp2
      go_ret
      simp [h1, h2]
    · have e1 : (1 : Int) ≤ (s.size : Int) := by omega
      have e2 : decide ((s.size : Int) ≤ 80) = false := by simp; omega
      go_wp2
      go_ret
      simp [h1, h2]
  · have e1 : decide ((1 : Int) ≤ (s.size : Int)) = false := by simp; omega
    go_wp2
    go_ret
    simp [h1]
theorem findE_skip (p : ByteArray) (l : List DE) : ∀ k, k ≤ l.length → (∀ j, j < k → (l.getD j DE0).path ≠ p) → findE p l = findE p (l.drop k) := by
  induction l with
  | nil => intro k _ _; simp
  | cons e es ih =>
    intro k hk h
    cases k with
    | zero => rfl
    | succ k =>
      have h0 : e.path ≠ p := by simpa using h 0 (by omega)
      rw [findE, if_neg h0, List.drop_succ_cons]
      exact ih k (by simpa using hk) (fun j hj => by simpa using h (j + 1) (by omega))
theorem drop_getD {l : List DE} {k : Nat} (hk : k < l.length) : l.drop k = l.getD k DE0 :: l.drop (k + 1) := by
  rw [List.drop_eq_getElem_cons hk]
  simp [List.getD_eq_getElem?_getD, List.getElem?_eq_getElem hk]
set_option maxHeartbeats 1000000 in
set_option maxRecDepth 100000 in
theorem find_any (v : Value) (l : List DE) (p : ByteArray) (w : World) (h : DEAt w v l) (hl : l.length ≤ 1000000000) :
    Calls Tryz.prog 56 #[v, .string p] w fun e w' => e = .returned (ptrOf (findE p l)) ∧ Below w.heap.size w w' := by
  obtain ⟨oa, c, rfl, hr⟩ := h
  obtain ⟨n, hn⟩ : ∃ n, n = l.length := ⟨_, rfl⟩
  rw [← hn] at hr hl ⊢
  have HN := hide hn
  have HR := hide hr
  clear hn hr
  go_enter Tryz.func56, Tryz.ntmps56
  go_wp2_with fail
  go_loopw [5] (fun iv wr => ∃ k : Nat, k ≤ n ∧ iv = .int .i64 ((k : Nat) : Int) ∧ Below w.heap.size w wr ∧ ∀ j, j < k → (l.getD j DE0).path ≠ p) (fun iv _ => n - (intOf iv).toNat)
  case atStart => exact ⟨0, Nat.zero_le _, rfl, Below.refl _ _, fun j hj => by omega⟩
  case round =>
    obtain ⟨k, hk, rfl, hb, hne⟩ := hrel
    have HB := hide hb
    have HNE := hide hne
    by_cases hlt : k < n
    · obtain ⟨g, rfl, hrg⟩ := HR.out k hlt
      have hE : ∃ e, e = l.getD k DE0 := ⟨_, rfl⟩
      obtain ⟨⟨ep, eb⟩, hE⟩ := hE
      rw [← hE] at hrg
      have t0 := cell_later hb (hrg 0 _ rfl)
      have t1 := cell_later hb (hrg 1 _ rfl)
      simp only [Nat.add_zero] at t0
      have HE := hide hE
      clear hrg hE hb hne
      by_cases hp : ep = p
      · subst hp
        have e5 : (ep.toList == ep.toList) = true := by simp
        go_wp2_with fail
        go_ret
        refine ⟨?_, HB.out⟩
        rw [findE_skip ep l k (by rw [← HN.out]; omega) HNE.out, drop_getD (by rw [← HN.out]; exact hlt), ← HE.out, findE, if_pos rfl]
        rfl
      · have e5 : (ep.toList == p.toList) = false := by rw [beq_eq_false_iff_ne]; exact fun e => hp ((toList_inj _ _).1 e)
        go_wp2_with fail
        go_roundw
        case rel =>
          refine ⟨k + 1, by omega, by go_num, HB.out, fun j hj => ?_⟩
          by_cases e : j = k
          · subst e; rw [← HE.out]; exact hp
          · exact HNE.out j (by omega)
        case measure => simp [intOf]; omega
    · have e1 : decide (((k : Nat) : Int) < ((n : Nat) : Int)) = false := by simp; omega
      clear hb hne
      go_wp2_with fail
      go_ret
      refine ⟨?_, HB.out⟩
      rw [findE_skip p l l.length (Nat.le_refl _) (fun j hj => HNE.out j (by rw [← HN.out] at hj; omega)), List.drop_length]
      rfl
theorem Tryz.infoDE : (Tryz.prog.info? 61).map (fun i => (i.zero, i.size, i.bytes)) = some (some (.agg #[.string ⟨#[]⟩, .pointer none]), 2, 24) := by kernel_rfl
theorem de_one (e : DE) : ∀ u ∈ e.cells, u.oneCell' = true := by
  intro u hu
  simp only [DE.cells, List.mem_cons, List.not_mem_nil, or_false] at hu
  rcases hu with rfl | rfl <;> rfl
theorem flat2 : ∀ (l : List DE) (j i : Nat), j < l.length → i < 2 → (l.flatMap DE.cells)[j * 2 + i]? = (l.getD j DE0).cells[i]?
  | [], j, i, h, _ => by simp at h
  | x :: l, 0, i, _, hi => by
    have h4 : x.cells.length = 2 := rfl
    rw [List.flatMap_cons, List.getElem?_append_left (by omega)]
    simp
  | x :: l, j + 1, i, h, hi => by
    have h4 : x.cells.length = 2 := rfl
    rw [List.flatMap_cons, List.getElem?_append_right (by omega), h4, show (j + 1) * 2 + i - 2 = j * 2 + i by omega, flat2 l j i (by simpa using h) hi]
    simp
/-- A row that one owns is a row of entries. -/
theorem deAt_own {w : World} {base : Nat} {v : Value} {l : List DE} (h : w.ownsRow base 61 2 v l.length (l.flatMap DE.cells)) : DEAt w v l := by
  rcases h.2 with ⟨rfl, h0⟩ | ⟨g, cap, cur, rfl, hb, hg, hc, hm, hcs, htk⟩
  · exact ⟨none, 0, by rw [h0], fun i hi => by omega⟩
  · refine ⟨_, cap, rfl, fun i hi => ⟨g, rfl, fun j u hu => ?_⟩⟩
    have hj : j < 2 := by have := (List.getElem?_eq_some_iff.1 hu).1; simpa [DE.cells] using this
    rw [cell_of_row w g _ _ _ _ hg, ← hu, ← flat2 l i j hi hj, ← htk, List.getElem?_take, if_pos (by omega)]
    simp
theorem withE_len (p : ByteArray) (ob : Option Nat) : ∀ (l : List DE) (d : Bool), (withE p ob l d).length ≤ 2 * l.length + 1
  | [], d => by
    unfold withE
    cases d <;> cases ob <;> simp
  | e :: es, d => by
    have ih := withE_len p ob es (d || lessB p e.path)
    unfold withE
    rw [List.length_append, List.length_append, List.length_cons]
    have h1 : ∀ (b : Bool), (if b = true then (match ob with | some b => [(⟨p, b⟩ : DE)] | none => []) else []).length ≤ 1 := by
      intro b; cases b <;> cases ob <;> simp
    have h2 : (if e.path = p then [] else [e]).length ≤ 1 := by split <;> simp
    have h3 := h1 (!d && lessB p e.path)
    omega
theorem bytesLess_self : ∀ l : List UInt8, Op.bytesLess l l = false
  | [] => by simp [Op.bytesLess]
  | x :: l => by simp [Op.bytesLess, bytesLess_self l]
theorem cell_low {w w' : World} {g o : Nat} {u : Value} (hb : Below w.heap.size w w') (hg : g < w.heap.size) (h : w.cell? ⟨g, o, none⟩ = some u) : w'.cell? ⟨g, o, none⟩ = some u := (World.cell?_of_block (a := ⟨g, o, none⟩) (hb.block g hg)).trans h
theorem small_d {m k n : Nat} (h : m ≤ 2 * k) (hk : k ≤ n) (hn : n ≤ 1000000000) : m + 1 ≤ maxLen ∧ (m + 1) * 24 ≤ 140737488355328 ∧ m + 1 + 1 ≤ maxLen ∧ (m + 1 + 1) * 24 ≤ 140737488355328 := by unfold maxLen; omega
set_option maxHeartbeats 2000000 in
set_option maxRecDepth 100000 in
theorem with_any (v : Value) (l : List DE) (p : ByteArray) (ob : Option Nat) (w : World) (h : DEAt w v l) (hl : l.length ≤ 1000000000) :
    Calls Tryz.prog 96 #[v, .string p, ptrOf ob] w fun e w' => ∃ v', e = .returned v' ∧ Below w.heap.size w w' ∧ w'.ownsRow w.heap.size 61 2 v' (withE p ob l (ob == none)).length ((withE p ob l (ob == none)).flatMap DE.cells) := by
  obtain ⟨i0, hi, hz0, hz1, hz2⟩ := info_parts Tryz.infoDE
  obtain ⟨oa, c, rfl, hr⟩ := h
  obtain ⟨n, hn⟩ : ∃ n, n = l.length := ⟨_, rfl⟩
  rw [← hn] at hr hl ⊢
  have HN := hide hn
  have HR := hide hr
  clear hn hr
  obtain ⟨F, hF⟩ : ∃ F, F = withE p ob l (ob == none) := ⟨_, rfl⟩
  rw [← hF]
  have HF := hide hF
  clear hF
  go_enter Tryz.func96, Tryz.ntmps96
  cases ob with
  | none =>
    unfold ptrOf
    go_wp2_with fail
    go_loopw [7, 8, 9] (fun ov dv iv wr => ∃ (k : Nat) (pre : List DE) (d : Bool), k ≤ n ∧ iv = .int .i64 ((k : Nat) : Int) ∧ dv = .bool d ∧ d = true ∧ pre.length ≤ 2 * k ∧ pre ++ withE p none (l.drop k) d = F ∧ wr.ownsRow w.heap.size 61 2 ov pre.length (pre.flatMap DE.cells) ∧ Below w.heap.size w wr) (fun _ _ iv _ => n - (intOf iv).toNat)
    case atStart => exact ⟨0, [], true, Nat.zero_le _, rfl, rfl, rfl, by simp, HF.out.symm, World.ownsRow_nil _ _ _ _, Below.refl _ _⟩
    case round =>
      obtain ⟨k, pre, d, hk, rfl, rfl, rfl, hpl, he, ho, hb⟩ := hrel
      have HE := hide he
      have HO := hide ho
      have HB := hide hb
      have hbs := hb.size
      obtain ⟨hb1, hb2, hb3, hb4⟩ : pre.length + 1 ≤ maxLen ∧ (pre.length + 1) * 24 ≤ 140737488355328 ∧ pre.length + 1 + 1 ≤ maxLen ∧ (pre.length + 1 + 1) * 24 ≤ 140737488355328 := small_d hpl hk hl
      by_cases hlt : k < n
      · obtain ⟨g, rfl, hrg⟩ := HR.out k hlt
        have hdr := drop_getD (l := l) (k := k) (by rw [← HN.out]; exact hlt)
        obtain ⟨⟨ep, eb⟩, hE⟩ : ∃ e, e = l.getD k DE0 := ⟨_, rfl⟩
        rw [← hE] at hrg hdr
        rw [hdr] at HE
        have t0 := cell_later hb (hrg 0 _ rfl)
        have t1 := cell_later hb (hrg 1 _ rfl)
        simp only [Nat.add_zero] at t0
        have hgl : g < wr.heap.size := World.block_lt_of_cell? wr ⟨g, k * 2, none⟩ t0
        clear hrg hE hb ho he hdr
        by_cases hp : ep = p
        · subst hp
          have e5 : (ep.toList != ep.toList) = false := by simp
          go_wp2_with fail
          exact ⟨⟨k + 1, pre, true, by omega, by go_num, rfl, rfl, by omega, by rw [← HE.out]; simp [withE], HO.out, HB.out⟩, by simp [intOf]; omega⟩
        · have e7 : ¬ ep.toList = p.toList := fun e => hp ((toList_inj _ _).1 e)
          have e6 : (ep.toList == p.toList) = false := by rw [beq_eq_false_iff_ne]; exact e7
          go_wp2_with (refine wpList_append_own _ rfl (.tmp 42) (.tmp 47) 54 rfl w.heap.size 61 i0 _ 2 24 Tryz.underlying54 hi hz0 hz1 hz2 rfl (by decide) _ pre.length _ rfl (HO.out.alloc _) _ 1 1 [.string ep, .pointer (some ⟨eb, 0, none⟩)] rfl rfl (row_cells (heap_alloc_new _ _)) (de_one ⟨ep, eb⟩) hb1 hb2 (by rw [size_alloc]; omega) ?_; rintro v2 w2 hv hg _; have HV2 := hide hv; have HG2 := hide hg; clear hv hg)
          refine ⟨⟨k + 1, pre ++ [⟨ep, eb⟩], true, by omega, by go_num, rfl, rfl, by simp; omega, by rw [← HE.out]; simp [withE, hp], ?_, ?_⟩, by simp [intOf]; omega⟩
          · rw [List.length_append, List.flatMap_append]; exact HV2.out
          · exact grown_below (HB.out.alloc hbs _) HG2.out (HO.out.alloc _) (Nat.le_refl _) (by rw [size_alloc]; omega)
      · have e1 : decide (((k : Nat) : Int) < ((n : Nat) : Int)) = false := by simp; omega
        have hkn : k = l.length := by rw [← HN.out]; omega
        rw [hkn, List.drop_length] at HE
        clear ho hb he
        go_wp2_with fail
        go_ret
        have hpre : pre = F := by rw [← HE.out]; simp [withE]
        subst hpre
        exact ⟨_, rfl, HB.out, HO.out⟩
  | some nb =>
    unfold ptrOf
    go_wp2_with fail
    go_loopw [7, 8, 9] (fun ov dv iv wr => ∃ (k : Nat) (pre : List DE) (d : Bool), k ≤ n ∧ iv = .int .i64 ((k : Nat) : Int) ∧ dv = .bool d ∧ pre.length ≤ 2 * k ∧ pre ++ withE p (some nb) (l.drop k) d = F ∧ wr.ownsRow w.heap.size 61 2 ov pre.length (pre.flatMap DE.cells) ∧ Below w.heap.size w wr) (fun _ _ iv _ => n - (intOf iv).toNat)
    case atStart => exact ⟨0, [], false, Nat.zero_le _, rfl, rfl, by simp, HF.out.symm, World.ownsRow_nil _ _ _ _, Below.refl _ _⟩
    case round =>
      obtain ⟨k, pre, d, hk, rfl, rfl, hpl, he, ho, hb⟩ := hrel
      have HE := hide he
      have HO := hide ho
      have HB := hide hb
      have hbs := hb.size
      obtain ⟨hb1, hb2, hb3, hb4⟩ : pre.length + 1 ≤ maxLen ∧ (pre.length + 1) * 24 ≤ 140737488355328 ∧ pre.length + 1 + 1 ≤ maxLen ∧ (pre.length + 1 + 1) * 24 ≤ 140737488355328 := small_d hpl hk hl
      by_cases hlt : k < n
      · obtain ⟨g, rfl, hrg⟩ := HR.out k hlt
        have hdr := drop_getD (l := l) (k := k) (by rw [← HN.out]; exact hlt)
        obtain ⟨⟨ep, eb⟩, hE⟩ : ∃ e, e = l.getD k DE0 := ⟨_, rfl⟩
        rw [← hE] at hrg hdr
        rw [hdr] at HE
        have hgw : g < w.heap.size := World.block_lt_of_cell? w ⟨g, k * 2 + 0, none⟩ (hrg 0 _ rfl)
        have T0 : Hid (w.cell? ⟨g, k * 2, none⟩ = some (.string ep)) := hrg 0 _ rfl
        have T1 : Hid (w.cell? ⟨g, k * 2 + 1, none⟩ = some (.pointer (some ⟨eb, 0, none⟩))) := hrg 1 _ rfl
        have t0 := cell_later hb (hrg 0 _ rfl)
        have t1 := cell_later hb (hrg 1 _ rfl)
        simp only [Nat.add_zero] at t0
        have hgl : g < wr.heap.size := World.block_lt_of_cell? wr ⟨g, k * 2, none⟩ t0
        clear hrg hE hb ho he hdr
        cases d with
        | true =>
          by_cases hp : ep = p
          · subst hp
            go_wp2_with fail
            exact ⟨⟨k + 1, pre, true, by omega, by go_num, rfl, by omega, by rw [← HE.out]; simp [withE], HO.out, HB.out⟩, by simp [intOf]; omega⟩
          · have e7 : ¬ ep.toList = p.toList := fun e => hp ((toList_inj _ _).1 e)
            have e6 : (ep.toList == p.toList) = false := by rw [beq_eq_false_iff_ne]; exact e7
            go_wp2_with (refine wpList_append_own _ rfl (.tmp 42) (.tmp 47) 54 rfl w.heap.size 61 i0 _ 2 24 Tryz.underlying54 hi hz0 hz1 hz2 rfl (by decide) _ pre.length _ rfl (HO.out.alloc _) _ 1 1 [.string ep, .pointer (some ⟨eb, 0, none⟩)] rfl rfl (row_cells (heap_alloc_new _ _)) (de_one ⟨ep, eb⟩) hb1 hb2 (by rw [size_alloc]; omega) ?_; rintro v2 w2 hv hg _; have HV2 := hide hv; have HG2 := hide hg; clear hv hg)
            refine ⟨⟨k + 1, pre ++ [⟨ep, eb⟩], true, by omega, by go_num, rfl, by simp; omega, by rw [← HE.out]; simp [withE, hp], ?_, ?_⟩, by simp [intOf]; omega⟩
            · rw [List.length_append, List.flatMap_append]; exact HV2.out
            · exact grown_below (HB.out.alloc hbs _) HG2.out (HO.out.alloc _) (Nat.le_refl _) (by rw [size_alloc]; omega)
        | false =>
          cases hls : Op.bytesLess p.toList ep.toList with
          | false =>
            by_cases hp : ep = p
            · subst hp
              go_wp2_with fail
              exact ⟨⟨k + 1, pre, false, by omega, by go_num, rfl, by omega, by rw [← HE.out]; simp [withE, lessB, hls], HO.out, HB.out⟩, by simp [intOf]; omega⟩
            · have e7 : ¬ ep.toList = p.toList := fun e => hp ((toList_inj _ _).1 e)
              have e6 : (ep.toList == p.toList) = false := by rw [beq_eq_false_iff_ne]; exact e7
              go_wp2_with (refine wpList_append_own _ rfl (.tmp 42) (.tmp 47) 54 rfl w.heap.size 61 i0 _ 2 24 Tryz.underlying54 hi hz0 hz1 hz2 rfl (by decide) _ pre.length _ rfl (HO.out.alloc _) _ 1 1 [.string ep, .pointer (some ⟨eb, 0, none⟩)] rfl rfl (row_cells (heap_alloc_new _ _)) (de_one ⟨ep, eb⟩) hb1 hb2 (by rw [size_alloc]; omega) ?_; rintro v2 w2 hv hg _; have HV2 := hide hv; have HG2 := hide hg; clear hv hg)
              refine ⟨⟨k + 1, pre ++ [⟨ep, eb⟩], false, by omega, by go_num, rfl, by simp; omega, by rw [← HE.out]; simp [withE, hp, lessB, hls], ?_, ?_⟩, by simp [intOf]; omega⟩
              · rw [List.length_append, List.flatMap_append]; exact HV2.out
              · exact grown_below (HB.out.alloc hbs _) HG2.out (HO.out.alloc _) (Nat.le_refl _) (by rw [size_alloc]; omega)
          | true =>
            by_cases hp : ep = p
            · subst hp
              rw [bytesLess_self] at hls
              cases hls
            · have e7 : ¬ ep.toList = p.toList := fun e => hp ((toList_inj _ _).1 e)
              have e6 : (ep.toList == p.toList) = false := by rw [beq_eq_false_iff_ne]; exact e7
              go_wp2_with (first | (refine wpList_append_own _ rfl (.tmp 29) (.tmp 33) 54 rfl w.heap.size 61 i0 _ 2 24 Tryz.underlying54 hi hz0 hz1 hz2 rfl (by decide) _ pre.length _ rfl (HO.out.alloc _) _ 1 1 [.string p, .pointer (some ⟨nb, 0, none⟩)] rfl rfl (row_cells (heap_alloc_new _ _)) (de_one ⟨p, nb⟩) hb1 hb2 (by rw [size_alloc]; omega) ?_; rintro v3 w3 hv hg _; have HV3 := hide hv; have HG3 := hide hg; clear hv hg; have HB3 := hide (grown_below (HB.out.alloc hbs _) HG3.out (HO.out.alloc _) (Nat.le_refl _) (by rw [size_alloc]; omega)); have hs3 := HB3.out.size; have t0' : w3.cell? ⟨g, k * 2, none⟩ = some (.string ep) := cell_low HB3.out hgw T0.out; have t1' : w3.cell? ⟨g, k * 2 + 1, none⟩ = some (.pointer (some ⟨eb, 0, none⟩)) := cell_low HB3.out hgw T1.out) | (refine wpList_append_own _ rfl (.tmp 42) (.tmp 47) 54 rfl w.heap.size 61 i0 _ 2 24 Tryz.underlying54 hi hz0 hz1 hz2 rfl (by decide) _ (pre.length + 1) _ rfl (HV3.out.alloc _) _ 1 1 [.string ep, .pointer (some ⟨eb, 0, none⟩)] rfl rfl (row_cells (heap_alloc_new _ _)) (de_one ⟨ep, eb⟩) hb3 hb4 (by rw [size_alloc]; omega) ?_; rintro v2 w2 hv hg _; have HV2 := hide hv; have HG2 := hide hg; clear hv hg))
              refine ⟨⟨k + 1, pre ++ [⟨p, nb⟩] ++ [⟨ep, eb⟩], true, by omega, by go_num, rfl, by simp; omega, by rw [← HE.out]; simp [withE, hp, lessB, hls], ?_, ?_⟩, by simp [intOf]; omega⟩
              · have hv := HV2.out
                rw [List.length_append, List.length_append, List.flatMap_append, List.flatMap_append]; exact hv
              · exact grown_below (HB3.out.alloc hs3 _) HG2.out (HV3.out.alloc _) (Nat.le_refl _) (by rw [size_alloc]; omega)
      · have e1 : decide (((k : Nat) : Int) < ((n : Nat) : Int)) = false := by simp; omega
        have hkn : k = l.length := by rw [← HN.out]; omega
        rw [hkn, List.drop_length] at HE
        clear ho hb he
        cases d with
        | true =>
          go_wp2_with fail
          go_ret
          have hpre : pre = F := by rw [← HE.out]; simp [withE]
          subst hpre
          exact ⟨_, rfl, HB.out, HO.out⟩
        | false =>
          go_wp2_with (refine wpList_append_own _ rfl (.tmp 51) (.tmp 55) 54 rfl w.heap.size 61 i0 _ 2 24 Tryz.underlying54 hi hz0 hz1 hz2 rfl (by decide) _ pre.length _ rfl (HO.out.alloc _) _ 1 1 [.string p, .pointer (some ⟨nb, 0, none⟩)] rfl rfl (row_cells (heap_alloc_new _ _)) (de_one ⟨p, nb⟩) hb1 hb2 (by rw [size_alloc]; omega) ?_; rintro v3 w3 hv hg _; have HV3 := hide hv; have HG3 := hide hg; clear hv hg)
          go_ret
          have hpre : pre ++ [⟨p, nb⟩] = F := by rw [← HE.out]; simp [withE]
          subst hpre
          refine ⟨_, rfl, grown_below (HB.out.alloc hbs _) HG3.out (HO.out.alloc _) (Nat.le_refl _) (by rw [size_alloc]; omega), ?_⟩
          rw [List.length_append, List.flatMap_append]; exact HV3.out
end Go.Proofs.YtjipdjkcdoajbaaGreatDoor
