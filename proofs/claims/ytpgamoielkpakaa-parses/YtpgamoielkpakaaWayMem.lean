/-
  PROVED HERE: what the document's own functions wants, back and goes answer over a way through tokens: as the plain functions say.
-/
import Derived.Test.YtpgamoielkpakaaDocCut
import Derived.Test.YtpgamoielkpakaaDigOk
import Derived.Test.YtpgamoielkpakaaTagRows
import Derived.Test.YtpgamoielkpakaaScan
import Derived.Test.YtpgamoielkpakaaRowLib
import Derived.Deep.AppendLies
import Derived.Deep.RegionLaw
namespace Go.Proofs.Ytpgamoielkpakaa
open Go.RowKit
/-- A way through the tokens l lies in block b, the tokens in block g. -/
structure Wy (w : World) (b g : Nat) (v : Value) (l : List Tk) (s : Ws) : Prop where
  blk : w.heap[b]? = some (.cells #[v, .int .i64 ((s.j : Nat) : Int), .bool s.bad] 45 (0, 0))
  sl : ∃ cap : Nat, v = .slice (some ⟨g, 0, none⟩) l.length cap
  row : ∃ cur : Array Value, w.heap[g]? = some (.cells cur 47 (0, 0)) ∧ cur.toList.take (l.length * 4) = l.flatMap Tk.cells
  ne : g ≠ b
theorem Wy.lt {w : World} {b g : Nat} {v : Value} {l : List Tk} {s : Ws} (h : Wy w b g v l s) : b < w.heap.size := lt_of_row h.blk
theorem Wy.ltg {w : World} {b g : Nat} {v : Value} {l : List Tk} {s : Ws} (h : Wy w b g v l s) : g < w.heap.size := by
  obtain ⟨cur, h1, -⟩ := h.row
  exact lt_of_row h1
theorem Wy.later {w w' : World} {b g : Nat} {v : Value} {l : List Tk} {s : Ws} (h : Wy w b g v l s) (hb : Below w.heap.size w w') : Wy w' b g v l s := by
  obtain ⟨cur, h1, h2⟩ := h.row
  exact ⟨(hb.block b h.lt).trans h.blk, h.sl, ⟨cur, (hb.block g h.ltg).trans h1, h2⟩, h.ne⟩
/-- Behind what changes the way's own block alone. -/
theorem Wy.to {w w' : World} {b g : Nat} {v : Value} {l : List Tk} {s s' : Ws} (h : Wy w b g v l s) (hb : w.grownBy w' (some b)) (hs : w'.heap[b]? = some (.cells #[v, .int .i64 ((s'.j : Nat) : Int), .bool s'.bad] 45 (0, 0))) : Wy w' b g v l s' := by
  obtain ⟨cur, h1, h2⟩ := h.row
  exact ⟨hs, h.sl, ⟨cur, (hb.block g h.ltg (fun e => h.ne (by injection e))).trans h1, h2⟩, h.ne⟩
theorem flat4 : ∀ (l : List Tk) (j i : Nat), j < l.length → i < 4 → (l.flatMap Tk.cells)[j * 4 + i]? = (l.getD j tk0).cells[i]?
  | [], j, i, h, _ => by simp at h
  | x :: l, 0, i, _, hi => by
    have h4 : x.cells.length = 4 := rfl
    rw [List.flatMap_cons, List.getElem?_append_left (by omega)]
    simp
  | x :: l, j + 1, i, h, hi => by
    have h4 : x.cells.length = 4 := rfl
    rw [List.flatMap_cons, List.getElem?_append_right (by omega), h4, show (j + 1) * 4 + i - 4 = j * 4 + i by omega, flat4 l j i (by simpa using h) hi]
    simp
theorem Wy.tok {w : World} {b g : Nat} {v : Value} {l : List Tk} {s : Ws} (h : Wy w b g v l s) (j : Nat) (hj : j < l.length) : w.rangeAt g (0 + j * 4) (l.getD j tk0).cells := by
  obtain ⟨cur, h1, h2⟩ := h.row
  intro i u hu
  have hi : i < 4 := by
    have : (l.getD j tk0).cells.length = 4 := rfl
    have h3 := (List.getElem?_eq_some_iff.1 hu).1
    omega
  rw [cell_of_row w g (0 + j * 4 + i) _ _ _ h1, ← hu, ← flat4 l j i hj hi, ← h2, List.getElem?_take, if_pos (by omega), Nat.zero_add]
  simp
theorem Wy.cells {w : World} {b g : Nat} {v : Value} {l : List Tk} {s : Ws} (h : Wy w b g v l s) : w.cell? ⟨b, 0, none⟩ = some v ∧ w.cell? ⟨b, 1, none⟩ = some (.int .i64 ((s.j : Nat) : Int)) ∧ w.cell? ⟨b, 2, none⟩ = some (.bool s.bad) := by
  refine ⟨?_, ?_, ?_⟩ <;> (rw [cell_of_row _ _ _ _ _ _ h.blk]; rfl)
set_option maxHeartbeats 1000000 in
set_option maxRecDepth 100000 in
theorem back_any (b g : Nat) (v : Value) (l : List Tk) (s : Ws) (wrong : Bool) (w : World) (h : Wy w b g v l s) (hl : l.length ≤ 2001) (hin : InL l s) (hj : s.bad = true ∨ 1 ≤ s.j) :
    Calls Try.prog 16 #[.pointer (some ⟨b, 0, none⟩), .bool wrong] w fun e w' => e = .returned (.tuple #[]) ∧ w.grownBy w' (some b) ∧ Wy w' b g v l (backP wrong s) := by
  obtain ⟨c0, c1, c2⟩ := h.cells
  have hin' : s.j < l.length := hin
  obtain ⟨j, bad⟩ := s
  have H := hide h
  have hf := fun j => frozen_of_row w b j _ _ h.blk
  clear h hin
  dsimp only at c1 c2 hj hin'
  go_enter Try.func16, Try.ntmps16
  cases wrong with
  | false =>
    go_wp2
    go_end0
    exact ⟨rfl, grownBy_refl _ _, H.out⟩
  | true =>
    cases bad with
    | true =>
      go_wp2
      go_end0
      exact ⟨rfl, grownBy_refl _ _, H.out⟩
    | false =>
      have hj1 : 1 ≤ j := by simpa using hj
      go_wp2
      go_end0
      refine ⟨rfl, grownBy_trans (grownBy_set _ _ _ _) (grownBy_set _ _ _ _), ?_⟩
      refine H.out.to (grownBy_trans (grownBy_set _ _ _ _) (grownBy_set _ _ _ _)) ?_
      rw [heap_setCell_same _ b 1 _ _ _ (heap_setCell_same w b 2 _ _ _ H.out.blk)]
      simp [backP]
      omega
theorem sizeTk (v0 v1 v2 v3 : Value) : (Try.prog.info? 47).map (·.size) = some (#[v0, v1, v2, v3] : Array Value).size := by kernel_rfl
theorem wants_end {b g o kind : Nat} {v val : Value} {l : List Tk} {s s' : Ws} {tk : Tk} {w : World} {B : Obj} {tmps : Array Value} (h : Wy w b g v l s) (hW : wantsP l kind s = (tk, s')) (hp : tmps.getD 4 undef = .pointer (some ⟨w.heap.size, 0, none⟩))
    (hset : (w.setCell ⟨b, o, none⟩ val).heap[b]? = some (.cells #[v, .int .i64 ((s'.j : Nat) : Int), .bool s'.bad] 45 (0, 0))) :
    bodyPost Try.prog Try.f14 (fun e w' => e = .returned (.agg (wantsP l kind s).1.cells.toArray) ∧ w.grownBy w' (some b) ∧ Wy w' b g v l (wantsP l kind s).2) Exit.ret { tmps := tmps, defers := [] }
      ((((w.setCell ⟨b, o, none⟩ val).alloc (.cells #[.int .u8 ((tk.kind : Nat) : Int), .int .i64 ((tk.pl : Nat) : Int), .string ⟨tk.txt.toArray⟩, .int .i64 ((tk.num : Nat) : Int)] 47)).alloc B).drew) := by
  have hsz : (w.setCell ⟨b, o, none⟩ val).heap.size = w.heap.size := by simp
  have hr : (((w.setCell ⟨b, o, none⟩ val).alloc (.cells #[.int .u8 ((tk.kind : Nat) : Int), .int .i64 ((tk.pl : Nat) : Int), .string ⟨tk.txt.toArray⟩, .int .i64 ((tk.num : Nat) : Int)] 47)).alloc B).heap[w.heap.size]? = some (.cells #[.int .u8 ((tk.kind : Nat) : Int), .int .i64 ((tk.pl : Nat) : Int), .string ⟨tk.txt.toArray⟩, .int .i64 ((tk.num : Nat) : Int)] 47 (0, 0)) := by
    rw [← hsz]; exact heap_alloc2_old _ _ _
  have hb1 : Below w.heap.size (w.setCell ⟨b, o, none⟩ val) ((((w.setCell ⟨b, o, none⟩ val).alloc (.cells #[.int .u8 ((tk.kind : Nat) : Int), .int .i64 ((tk.pl : Nat) : Int), .string ⟨tk.txt.toArray⟩, .int .i64 ((tk.num : Nat) : Int)] 47)).alloc B).drew) :=
    (((Below.refl _ _).alloc (by rw [hsz]; exact Nat.le_refl _) _).alloc (by rw [size_alloc, hsz]; omega) _).drew
  have hg : w.grownBy ((((w.setCell ⟨b, o, none⟩ val).alloc (.cells #[.int .u8 ((tk.kind : Nat) : Int), .int .i64 ((tk.pl : Nat) : Int), .string ⟨tk.txt.toArray⟩, .int .i64 ((tk.num : Nat) : Int)] 47)).alloc B).drew) (some b) :=
    grownBy_trans (grownBy_set w b o val) (grownBy_below (by rw [hsz]; exact hb1) _)
  refine bodyPost_ret (results_cell_row Try.results14 _ _ w.heap.size 47 _ (0, 0) _ hp hr Try.underlying47 rfl (sizeTk _ _ _ _)) rfl ?_
  rw [hW]
  exact ⟨rfl, hg, h.to hg ((hb1.block b h.lt).trans hset)⟩
set_option maxHeartbeats 1000000 in
set_option maxRecDepth 100000 in
theorem wants_any (b g : Nat) (v : Value) (l : List Tk) (s : Ws) (kind : Nat) (w : World) (h : Wy w b g v l s) (hl : l.length ≤ 2001) (hin : InL l s) :
    Calls Try.prog 14 #[.pointer (some ⟨b, 0, none⟩), .int .u8 ((kind : Nat) : Int)] w fun e w' => e = .returned (.agg (wantsP l kind s).1.cells.toArray) ∧ w.grownBy w' (some b) ∧ Wy w' b g v l (wantsP l kind s).2 := by
  obtain ⟨c0, c1, c2⟩ := h.cells
  have hin' : s.j < l.length := hin
  have ht := h.tok s.j hin'
  obtain ⟨j, bad⟩ := s
  dsimp only at c1 c2 hin' ht
  obtain ⟨tk, htk⟩ : ∃ tk, tk = l.getD j tk0 := ⟨_, rfl⟩
  have hW : wantsP l kind ⟨j, bad⟩ = if bad = true ∨ tk.kind ≠ kind then (tk0, ⟨j, true⟩) else (tk, ⟨j + 1, false⟩) := by rw [htk]; rfl
  rw [← htk] at ht
  have t0 := ht 0 _ rfl
  have t1 := ht 1 _ rfl
  have t2 := ht 2 _ rfl
  have t3 := ht 3 _ rfl
  simp only [Nat.add_zero, Nat.zero_add] at t0 t1 t2 t3
  have H := hide h
  have hf := fun j => frozen_of_row w b j _ _ h.blk
  obtain ⟨cap, rfl⟩ := h.sl
  have hlt := h.lt
  have hltg := h.ltg
  have HW := hide hW
  clear h hin ht hW htk
  go_enter Try.func14, Try.ntmps14
  go_wp2
  go_region
  cases bad with
  | true =>
    go_wp2
    refine wants_end (tk := tk0) (s' := ⟨j, true⟩) H.out ?_ rfl ?_
    · rw [HW.out]; simp
    · rw [heap_setCell_same w b 2 _ _ _ H.out.blk]; rfl
  | false =>
    by_cases hk : tk.kind = kind
    · have e1 : ((tk.kind : Int) != (kind : Int)) = false := by simp [hk]
      go_wp2
      refine wants_end (tk := ⟨kind, tk.pl, tk.txt, tk.num⟩) (s' := ⟨j + 1, false⟩) H.out ?_ rfl ?_
      · rw [HW.out, ← hk]; simp
      · rw [heap_setCell_same w b 1 _ _ _ H.out.blk]
        simp
    · have e1 : ((tk.kind : Int) != (kind : Int)) = true := by simp; omega
      go_wp2
      refine wants_end (tk := tk0) (s' := ⟨j, true⟩) H.out ?_ rfl ?_
      · rw [HW.out]; simp [hk]
      · rw [heap_setCell_same w b 2 _ _ _ H.out.blk]; rfl
set_option maxHeartbeats 1000000 in
set_option maxRecDepth 100000 in
theorem goes_any (b g : Nat) (v : Value) (l : List Tk) (s : Ws) (left : List ByteArray) (oa : Option Addr) (cap : Nat) (w : World) (h : Wy w b g v l s) (hl : l.length ≤ 2001) (hin : InL l s) :
    Calls Try.prog 18 #[.pointer (some ⟨b, 0, none⟩), .slice oa left.length cap] w fun e w' => e = .returned (.tuple #[]) ∧ w.grownBy w' (some b) ∧ Wy w' b g v l (goesP l left s) := by
  have HC := hide (fun k => wants_any b g v l s k w h hl hin)
  clear h hin
  go_enter Try.func18, Try.ntmps18
  unfold goesP
  cases left with
  | nil =>
    go_wp2_with (go_at_call 14; refine (HC.out 125).mono ?_; rintro _ w1 ⟨rfl, hg1, hw1⟩)
    go_end0
    exact ⟨rfl, hg1, by simpa using hw1⟩
  | cons x xs =>
    have e1 : (((x :: xs).length : Int) == 0) = false := by simp; omega
    have e2 : decide (((x :: xs).length : Int) = 0) = false := by simp; omega
    generalize hn : (x :: xs).length = n at e1 e2
    go_wp2_with (go_at_call 14; refine (HC.out 44).mono ?_; rintro _ w1 ⟨rfl, hg1, hw1⟩)
    go_end0
    exact ⟨rfl, hg1, by simpa using hw1⟩
end Go.Proofs.Ytpgamoielkpakaa

/-
  PROVED HERE: what the document's own function member answers: the name of an object's next member, and what is left then.
-/
namespace Go.Proofs.Ytpgamoielkpakaa
open Go.RowKit
theorem Try.infoStr9 : (Try.prog.info? 9).map (fun i => (i.zero, i.size, i.bytes)) = some (some (.string ⟨#[]⟩), 1, 16) := by kernel_rfl
/-- The strings of a row. -/
theorem strs_at {w : World} {base : Nat} {v : Value} {left : List ByteArray} (h : w.ownsRow base 9 1 v left.length (left.map Value.string)) (hp : 0 < left.length) :
    ∃ q cap, v = .slice (some ⟨q, 0, none⟩) left.length cap ∧ base ≤ q ∧ q < w.heap.size ∧ left.length ≤ cap ∧ cap ≤ maxLen ∧ ∀ j, j < left.length → w.cell? ⟨q, j, none⟩ = some (.string (left.getD j ⟨#[]⟩)) := by
  rcases h.2 with ⟨_, h0⟩ | ⟨q, cap, cur, rfl, hb, hg, hc, hm, hs, ht⟩
  · omega
  · refine ⟨q, cap, rfl, hb, lt_of_row hg, hc, hm, fun j hj => ?_⟩
    rw [cell_of_row w q j _ _ _ hg]
    have h1 : (cur.toList.take (left.length * 1))[j]? = (left.map Value.string)[j]? := by rw [ht]
    rw [List.getElem?_take, if_pos (by omega), List.getElem?_map, List.getElem?_eq_getElem hj] at h1
    rw [← Array.getElem?_toList, h1]
    simp [List.getD_eq_getElem?_getD, List.getElem?_eq_getElem hj]
theorem strs_take {w : World} {base q cap k : Nat} {left : List ByteArray} (h : w.ownsRow base 9 1 (.slice (some ⟨q, 0, none⟩) left.length cap) left.length (left.map Value.string)) :
    ∀ j u, ((left.take k).map Value.string)[j]? = some u → w.cell? ((⟨q, 0, none⟩ : Addr).add j) = some u := by
  intro j u hu
  have hj : j < left.length ∧ j < k := by
    have := (List.getElem?_eq_some_iff.1 hu).1
    simp at this; omega
  obtain ⟨q', cap', e, -, -, -, -, hcell⟩ := strs_at h (by omega)
  injection e with e1 e2 e3
  injection e1 with e1
  injection e1 with e1
  subst e1
  rw [Addr.add_mid, Nat.zero_add, hcell j hj.1, ← hu, List.getElem?_map, List.getElem?_take, if_pos hj.2, List.getElem?_eq_getElem hj.1]
  simp [List.getD_eq_getElem?_getD, List.getElem?_eq_getElem hj.1]
theorem strs_drop {w : World} {base q cap k : Nat} {left : List ByteArray} (h : w.ownsRow base 9 1 (.slice (some ⟨q, 0, none⟩) left.length cap) left.length (left.map Value.string)) {A : Addr} (hk : k < left.length)
    (hA : (if cap = k + 1 then some ⟨q, 0, none⟩ else some (⟨q, k + 1, none⟩ : Addr)) = some A) :
    ∀ j u, ((left.drop (k + 1)).map Value.string)[j]? = some u → w.cell? (A.add j) = some u := by
  intro j u hu
  have hj : k + 1 + j < left.length := by
    have := (List.getElem?_eq_some_iff.1 hu).1
    simp at this; omega
  obtain ⟨q', cap', e, -, -, hcap, -, hcell⟩ := strs_at h (by omega)
  injection e with e1 e2 e3
  injection e1 with e1
  injection e1 with e1
  subst e1 e3
  rw [if_neg (by omega)] at hA
  injection hA with hA
  subst hA
  rw [Addr.add_mid, hcell _ hj, ← hu, List.getElem?_map, List.getElem?_drop, List.getElem?_eq_getElem hj]
  simp [List.getD_eq_getElem?_getD, List.getElem?_eq_getElem hj]
theorem strs_one (l : List ByteArray) : ∀ u ∈ l.map Value.string, u.oneCell' = true := by
  intro u hu
  obtain ⟨a, -, rfl⟩ := List.mem_map.1 hu
  rfl
theorem idx_none {x : ByteArray} {ms : List ByteArray} (h : ∀ j, j < ms.length → ms.getD j ⟨#[]⟩ ≠ x) : Lib.idxOfS ms x = -1 := by
  have : ∀ (ms : List ByteArray) (j : Nat), (∀ i, i < ms.length → ms.getD i ⟨#[]⟩ ≠ x) → Lib.idxFromS ms x j = -1 := by
    intro ms
    induction ms with
    | nil => intro j _; rfl
    | cons z zs ih =>
      intro j h
      have h0 : z ≠ x := by simpa using h 0 (by simp)
      simp only [Lib.idxFromS, if_neg h0]
      exact ih (j + 1) (fun i hi => by simpa using h (i + 1) (by simpa using hi))
  exact this ms 0 h
theorem idx_some {x : ByteArray} {ms : List ByteArray} {k : Nat} (hk : k < ms.length) (hx : ms.getD k ⟨#[]⟩ = x) (h : ∀ j, j < k → ms.getD j ⟨#[]⟩ ≠ x) : Lib.idxOfS ms x = (k : Int) := by
  have : ∀ (ms : List ByteArray) (k j : Nat), k < ms.length → ms.getD k ⟨#[]⟩ = x → (∀ i, i < k → ms.getD i ⟨#[]⟩ ≠ x) → Lib.idxFromS ms x j = ((j + k : Nat) : Int) := by
    intro ms
    induction ms with
    | nil => intro k j hk; simp at hk
    | cons z zs ih =>
      intro k j hk hx h
      cases k with
      | zero =>
        have h0 : z = x := by simpa using hx
        simp [Lib.idxFromS, if_pos h0]
      | succ k =>
        have h0 : z ≠ x := by simpa using h 0 (by omega)
        simp only [Lib.idxFromS, if_neg h0]
        rw [ih k (j + 1) (by simpa using hk) (by simpa using hx) (fun i hi => by simpa using h (i + 1) (by omega))]
        omega
  have := this ms k 0 hk hx h
  simpa [Lib.idxOfS] using this
theorem member_cases {l : List Tk} (left : List ByteArray) {s s1 : Ws} {tk : Tk} (h : wantsP l 115 s = (tk, s1)) :
    (s1.bad = true → memberP l left s = ((⟨#[]⟩, left), s1)) ∧ (∀ i : Nat, s1.bad = false → Lib.idxOfS left tk.s = (i : Int) → memberP l left s = ((tk.s, left.eraseIdx i), (wantsP l 58 s1).2)) ∧
    (s1.bad = false → Lib.idxOfS left tk.s = -1 → memberP l left s = ((⟨#[]⟩, left), backP true s1)) := by
  unfold memberP
  rw [h]
  refine ⟨fun hb => by rw [if_pos hb], fun i hb hi => ?_, fun hb hi => ?_⟩
  · dsimp only
    rw [if_neg (by rw [hb]; decide), if_pos (by rw [hi]; omega), hi]; rfl
  · dsimp only
    rw [if_neg (by rw [hb]; decide), if_neg (by rw [hi]; omega)]
set_option maxHeartbeats 1000000 in
set_option maxRecDepth 100000 in
theorem member_any (b g base : Nat) (v lv : Value) (l : List Tk) (s : Ws) (left : List ByteArray) (w : World) (h : Wy w b g v l s) (hl : l.length ≤ 2001) (hgood : GoodL l) (hin : InL l s)
    (hleft : w.ownsRow base 9 1 lv left.length (left.map Value.string)) (hb : b < base) (hbase : base ≤ w.heap.size) (h3 : left.length ≤ 3) (hp : 0 < left.length) :
    Calls Try.prog 15 #[.pointer (some ⟨b, 0, none⟩), lv] w fun e w' => w.grownBy w' (some b) ∧ Wy w' b g v l (memberP l left s).2 ∧
      ∃ rv, e = .returned (.tuple #[.string (memberP l left s).1.1, rv]) ∧ w'.ownsRow base 9 1 rv (memberP l left s).1.2.length ((memberP l left s).1.2.map Value.string) := by
  have HC := hide (wants_any b g v l s 115 w h hl hin)
  have HIN := hide (wants_in hgood (kind := 115) (by decide) (by decide) hin)
  have HL := hide hleft
  obtain ⟨q, cap, rfl, hq1, hq2, hcap, hcm, -⟩ := strs_at hleft hp
  have HH := hide h
  clear h hin hleft
  obtain ⟨tk, s1, hr⟩ : ∃ tk s1, wantsP l 115 s = (tk, s1) := ⟨_, _, rfl⟩
  obtain ⟨i0, hi, hz0, hz1, hz2⟩ := info_parts Try.infoStr9
  have HM := hide (member_cases left hr)
  rw [hr] at HC HIN
  obtain ⟨kk, pl, txt, num⟩ := tk
  dsimp only [Tk.cells, Tk.s] at HC HIN HM
  generalize (⟨txt.toArray⟩ : ByteArray) = x at HC HM
  clear hr
  go_enter Try.func15, Try.ntmps15
  go_wp2_with (go_at_call 14; refine (HC.out).mono ?_; rintro _ w1 ⟨rfl, hg1, hw1⟩)
  obtain ⟨j1, bad1⟩ := s1
  have hsz1 := hg1.size
  have hlt1 := hw1.lt
  have HG1 := hide hg1
  have HW1 := hide hw1
  have HL1 := hide (HL.out.kept hg1 (own_apart HL.out hb))
  clear hg1 hw1 HC HL HH
  have hb1 : Below w1.heap.size w1 (w1.alloc (.cells #[.int .u8 ((kk : Nat) : Int), .int .i64 ((pl : Nat) : Int), .string x, .int .i64 ((num : Nat) : Int)] 47)) := (Below.refl _ _).alloc (Nat.le_refl _) _
  have t2 : (w1.alloc (.cells #[.int .u8 ((kk : Nat) : Int), .int .i64 ((pl : Nat) : Int), .string x, .int .i64 ((num : Nat) : Int)] 47)).cell? ⟨w1.heap.size, 2, none⟩ = some (.string x) := by rw [cell_of_row _ _ _ _ _ _ (heap_alloc_new _ _)]; rfl
  have hsz2 : (w1.alloc (.cells #[.int .u8 ((kk : Nat) : Int), .int .i64 ((pl : Nat) : Int), .string x, .int .i64 ((num : Nat) : Int)] 47)).heap.size = w1.heap.size + 1 := size_alloc _ _
  obtain ⟨w2, hw2⟩ : ∃ w2, w2 = w1.alloc (.cells #[.int .u8 ((kk : Nat) : Int), .int .i64 ((pl : Nat) : Int), .string x, .int .i64 ((num : Nat) : Int)] 47) := ⟨_, rfl⟩
  rw [← hw2] at hb1 t2 hsz2 ⊢
  have HW2 := hide (HW1.out.later hb1)
  have HL2 := hide (ownsRow_later HL1.out hb1)
  have HG2 := hide (grownBy_trans HG1.out (grownBy_below hb1 (some b)))
  clear hw2 hb1 HW1 HL1 HG1
  go_loopw [7] (fun iv wr => ∃ k : Nat, k ≤ left.length ∧ iv = .int .i64 ((k : Nat) : Int) ∧ Below w2.heap.size w2 wr ∧ ∀ j, j < k → left.getD j ⟨#[]⟩ ≠ x) (fun iv _ => left.length - (intOf iv).toNat)
  case atStart => exact ⟨0, Nat.zero_le _, rfl, Below.refl _ _, fun j hj => by omega⟩
  case round =>
    obtain ⟨k, hk, rfl, hbel, hne⟩ := hrel
    have HWR := hide (HW2.out.later hbel)
    have HLR := hide (ownsRow_later HL2.out hbel)
    have HGR := hide (grownBy_trans HG2.out (grownBy_below hbel (some b)))
    have HBR := hide hbel
    have HNE := hide hne
    have tr := cell_later hbel t2
    obtain ⟨c0, c1, c2⟩ := HWR.out.cells
    dsimp only at c1 c2
    clear hbel hne
    cases bad1 with
    | true =>
      have hM := HM.out.1 rfl
      have HBK := hide (back_any b g v l ⟨j1, true⟩ true wr HWR.out hl HIN.out.1 (.inl rfl))
      by_cases hlt : k < left.length
      · go_wp2_with (go_at_call 16; refine (HBK.out).mono ?_; rintro _ w3 ⟨rfl, hg3, hw3⟩)
        refine bodyPost_ret (results_tmp2 rfl _ _ _) rfl ?_
        rw [hM]
        rw [back_bad true rfl] at hw3
        exact ⟨grownBy_trans HGR.out hg3, hw3, _, rfl, HLR.out.kept hg3 (own_apart HLR.out hb)⟩
      · have e1 : decide (k < left.length) = false := by simp; omega
        go_wp2_with (go_at_call 16; refine (HBK.out).mono ?_; rintro _ w3 ⟨rfl, hg3, hw3⟩)
        refine bodyPost_ret (results_tmp2 rfl _ _ _) rfl ?_
        rw [hM]
        rw [back_bad true rfl] at hw3
        exact ⟨grownBy_trans HGR.out hg3, hw3, _, rfl, HLR.out.kept hg3 (own_apart HLR.out hb)⟩
    | false =>
      by_cases hlt : k < left.length
      · obtain ⟨q', cap', e, -, -, -, -, hcell⟩ := strs_at HLR.out hp
        injection e with e1 e2 e3
        injection e1 with e1
        injection e1 with e1
        subst e1 e3
        have ck := hcell k hlt
        obtain ⟨y, hy⟩ : ∃ y, y = left.getD k ⟨#[]⟩ := ⟨_, rfl⟩
        rw [← hy] at ck
        have HY := hide hy
        clear hy hcell
        by_cases hyx : y = x
        · subst hyx
          have e5 : (y.toList == y.toList) = true := by simp
          have HMM := hide (HM.out.2.1 k rfl (idx_some hlt HY.out.symm (fun j hj => HNE.out j hj)))
          have HC58 := hide (fun n => wants_any b g v l ⟨j1, false⟩ 58 (wr.drewN n) (HWR.out.later ((Below.refl _ _).drewN n)) hl HIN.out.1)
          have hbs := HBR.out.size
          go_wp2
          go_quiet (fail)
          go_wp2_with fail
          refine (HC58.out _).mono ?_
          rintro _ w3 ⟨rfl, hg3, hw3⟩
          have HL3 := hide ((ownsRow_later HLR.out ((Below.refl _ _).drewN nq)).kept hg3 (own_apart HLR.out hb))
          have hsz3 : wr.heap.size ≤ w3.heap.size := hg3.size
          have HG3 := hide (grownBy_trans (grownBy_trans HGR.out (grownBy_below ((Below.refl _ _).drewN nq) (some b))) hg3)
          have HW3 := hide hw3
          have tr3 : w3.cell? ⟨w1.heap.size, 2, none⟩ = some (.string y) := hg3.cell (w := wr.drewN nq) tr (by simp; omega)
          clear hg3 hw3 HC58
          dsimp only
          obtain ⟨A, hA⟩ : ∃ A, (if cap = k + 1 then some ⟨q, 0, none⟩ else some (⟨q, k + 1, none⟩ : Addr)) = some A := by split <;> exact ⟨_, rfl⟩
          go_wp2_with (first
            | (refine wpList_append_own _ rfl (.tmp 33) (.tmp 36) 29 rfl w3.heap.size 9 i0 _ 1 16 Try.underlying29 hi hz0 hz1 hz2 rfl (by decide) (.slice none 0 0) 0 [] rfl (World.ownsRow_nil _ _ _ _) ⟨q, 0, none⟩ k cap ((left.take k).map Value.string) rfl (by simp; omega) (strs_take HL3.out) (strs_one _) (by unfold maxLen; omega) (by omega) (Nat.le_refl _) ?_; rintro v4 w4 hv4 hg4 -; have HV4 := hide hv4; have HG4 := hide hg4; clear hv4 hg4)
            | (refine wpList_append_own _ rfl (.tmp 38) (.tmp 42) 29 rfl w3.heap.size 9 i0 _ 1 16 Try.underlying29 hi hz0 hz1 hz2 rfl (by decide) v4 (0 + k) _ rfl HV4.out A (left.length - (k + 1)) (cap - (k + 1)) ((left.drop (k + 1)).map Value.string) (by rw [← hA]; rfl) (by simp) (strs_drop (HL3.out.kept HG4.out (.inr (by simp [Value.ownBlock]))) hlt hA) (strs_one _) (by unfold maxLen; omega) (by omega) HG4.out.size ?_; rintro v5 w5 hv5 hg5 -; have HV5 := hide hv5; have HG5 := hide hg5; clear hv5 hg5; have tr5 : w5.cell? ⟨w1.heap.size, 2, none⟩ = some (.string y) := HG5.out.cell (HG4.out.cell tr3 (by simp [Value.ownBlock])) (tk_ne HV4.out (by omega))))
          refine bodyPost_ret (results_tmp2 rfl _ _ _) rfl ?_
          rw [HMM.out]
          have hB35 : Below w3.heap.size w3 w5 := ((Below.refl w3.heap.size w3).grown HG4.out (Nat.le_refl _) (fun k hk => by simp [Value.ownBlock] at hk)).grown HG5.out HG4.out.size (fun k hk => (HV4.out.lt k hk).1)
          refine ⟨grownBy_trans HG3.out (grownBy_below hB35 _), HW3.out.later hB35, v5, rfl, ?_⟩
          have h5 := HV5.out.mono_base (show base ≤ w3.heap.size by omega)
          have e6 : (left.eraseIdx k).length = 0 + k + (left.length - (k + 1)) := by rw [List.length_eraseIdx, if_pos hlt]; omega
          have e7 : (left.eraseIdx k).map Value.string = [] ++ (left.take k).map Value.string ++ (left.drop (k + 1)).map Value.string := by rw [List.eraseIdx_eq_take_drop_succ]; simp
          dsimp only
          rw [e6, e7]
          exact h5
        · have e5 : (y.toList == x.toList) = false := by rw [beq_eq_false_iff_ne]; exact fun e => hyx ((toList_inj _ _).1 e)
          go_wp2
          go_quiet (fail)
          go_wp2
          go_roundw
          case rel =>
            refine ⟨k + 1, by omega, by go_num, HBR.out.drewN _, fun j hj => ?_⟩
            by_cases e : j = k
            · subst e; rw [← HY.out]; exact hyx
            · exact HNE.out j (by omega)
          case measure => simp [intOf]; omega
      · have e1 : decide (k < left.length) = false := by simp; omega
        have hM := HM.out.2.2 rfl (idx_none (fun j hj => HNE.out j (by omega)))
        have HBK := hide (back_any b g v l ⟨j1, false⟩ true wr HWR.out hl HIN.out.1 HIN.out.2)
        go_wp2_with (go_at_call 16; refine (HBK.out).mono ?_; rintro _ w3 ⟨rfl, hg3, hw3⟩)
        refine bodyPost_ret (results_tmp2 rfl _ _ _) rfl ?_
        rw [hM]
        exact ⟨grownBy_trans HGR.out hg3, hw3, _, rfl, HLR.out.kept hg3 (own_apart HLR.out hb)⟩
end Go.Proofs.Ytpgamoielkpakaa
