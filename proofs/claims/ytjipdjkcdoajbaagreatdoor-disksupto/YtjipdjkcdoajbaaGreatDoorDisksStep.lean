/-
  PROVED HERE: several pairs of disks side by side, and the books beside them; no walk.
-/
import Derived.Test.YtjipdjkcdoajbaaGreatDoorLawPick
namespace Go.Proofs.YtjipdjkcdoajbaaGreatDoor
open Go.RowKit
/-- What the statement's own rows are of: no disk is. -/
def lawTy (T : TypeId) : Prop := T = 30 ∨ T = 82 ∨ T = 9 ∨ T = 39
/-- Only blocks of the statement's own types may have changed. -/
def OfLaw (w : World) (S : Nat → Prop) : Prop := ∀ k, S k → ∃ cur T fr, lawTy T ∧ w.heap[k]? = some (.cells cur T fr)
theorem Tw.In.free {u : Tw} {w w' : World} {S : Nat → Prop} (h : u.In w) (hg : Gr S w w') (hS : OfLaw w S) : u.In w' := by
  refine ⟨?_, h.p.same fun k hk => hg.block k (h.p.lt hk) (fun hs => ?_), h.r.same fun k cur T hor hty hc => ?_, h.tie⟩
  · refine (hg.block _ (lt_of_row h.bd) (fun hs => ?_)).trans h.bd
    obtain ⟨cur, T, fr, hT, hc⟩ := hS _ hs
    rcases hT with rfl | rfl | rfl | rfl <;> exact type_ne hc h.bd (by decide) rfl
  · obtain ⟨cur, T, fr, hT, hc⟩ := hS _ hs
    rcases hT with rfl | rfl | rfl | rfl <;> exact h.notOwn hc (by decide) (by decide) (by decide) (by decide) (by unfold dTy; decide) (.inl hk)
  · refine hg.block k (lt_heap hc) (fun hs => ?_)
    obtain ⟨cur2, T2, fr, hT, hc2⟩ := hS _ hs
    rcases hT with rfl | rfl | rfl | rfl <;> rcases hty with rfl | rfl | rfl | rfl <;> exact type_ne hc hc2 (by decide) rfl
theorem OIn.free {w w' : World} {n B : Nat} {p : Option Tw} {S : Nat → Prop} (h : OIn w n B p) (hg : Gr S w w') (hS : OfLaw w S) : OIn w' n B p := by
  cases p with
  | none => trivial
  | some t => exact ⟨h.1.free hg hS, h.2⟩
theorem OIn.other {w w' : World} {n B m C : Nat} {p q : Option Tw} (h : OIn w n B q) (hp : OIn w m C p) (hg : Gr (oOwn p) w w') (ha : ∀ k, oOwn q k → ¬ oOwn p k) : OIn w' n B q := by
  cases q with
  | none => trivial
  | some u =>
    cases p with
    | none => exact ⟨h.1.free hg (fun k hk => hk.elim), h.2⟩
    | some t => exact ⟨h.1.other hp.1 hg ha, h.2⟩
theorem OIn.mono {w : World} {n B n' B' : Nat} {p : Option Tw} (h : OIn w n B p) (hn : n ≤ n') (hB : B ≤ B') : OIn w n' B' p := by
  cases p with
  | none => trivial
  | some t => exact ⟨h.1, h.2.mono hn hB⟩
theorem OGo.inn {w w' : World} {n B : Nat} {p p' : Option Tw} (h : OGo w w' n B p p') : OIn w' n B p' := by
  cases p with
  | none =>
    cases p' with
    | none => trivial
    | some _ => exact h.elim
  | some t =>
    cases p' with
    | none => exact h.elim
    | some t' => exact ⟨h.1.inn, h.2⟩
theorem OGo.own {w w' : World} {n B : Nat} {p p' : Option Tw} (h : OGo w w' n B p p') {k : Nat} (hk : oOwn p' k) : oOwn p k ∨ w.heap.size ≤ k := by
  cases p with
  | none =>
    cases p' with
    | none => exact hk.elim
    | some _ => exact h.elim
  | some t =>
    cases p' with
    | none => exact h.elim
    | some t' => exact h.1.own k hk
theorem OGo.same {w w' : World} {n B : Nat} {p p' : Option Tw} (h : OGo w w' n B p p') : oX p' = oX p ∧ oD p' = oD p := by
  cases p with
  | none =>
    cases p' with
    | none => exact ⟨rfl, rfl⟩
    | some _ => exact h.elim
  | some t =>
    cases p' with
    | none => exact h.elim
    | some t' =>
      constructor
      · show Value.pointer _ = Value.pointer _
        rw [h.1.d]
      · show Value.pointer _ = Value.pointer _
        rw [h.1.rb]
def tws (ps : List (Option Tw)) : List Value := ps.flatMap fun p => [oX p, oD p]
theorem tws_set : ∀ (ps : List (Option Tw)) (j : Nat) (p' : Option Tw), oX p' = oX (ps.getD j none) → oD p' = oD (ps.getD j none) → tws (ps.set j p') = tws ps
  | [], _, _, _, _ => rfl
  | p :: ps, 0, p', h1, h2 => by
    simp only [List.set_cons_zero, tws, List.flatMap_cons]
    simp only [List.getD_cons_zero] at h1 h2
    rw [h1, h2]
  | p :: ps, j + 1, p', h1, h2 => by
    have := tws_set ps j p' (by simpa using h1) (by simpa using h2)
    simp only [tws] at this
    simp only [List.set_cons_succ, tws, List.flatMap_cons, this]
theorem tws_push (ps : List (Option Tw)) (p : Option Tw) : tws (ps ++ [p]) = tws ps ++ [oX p, oD p] := by simp [tws]
theorem tws_len (ps : List (Option Tw)) : (tws ps).length = ps.length * 2 := by
  induction ps with
  | nil => rfl
  | cons p ps ih =>
    simp only [tws] at ih
    simp only [tws, List.flatMap_cons, List.length_append, ih, List.length_cons, List.length_nil]
    omega
theorem tws_at : ∀ (ps : List (Option Tw)) (j : Nat), j < ps.length → (tws ps)[j * 2]? = some (oX (ps.getD j none)) ∧ (tws ps)[j * 2 + 1]? = some (oD (ps.getD j none))
  | [], j, h => by simp at h
  | p :: ps, 0, _ => ⟨rfl, rfl⟩
  | p :: ps, j + 1, h => by
    have := tws_at ps j (by simpa using h)
    simp only [tws] at this
    simp only [tws, List.flatMap_cons, List.getD_cons_succ]
    rw [show (j + 1) * 2 = j * 2 + 2 by omega, show j * 2 + 2 + 1 = (j * 2 + 1) + 2 by omega]
    exact this
theorem getD_set {ps : List (Option Tw)} {j : Nat} (hj : j < ps.length) (p' : Option Tw) (i : Nat) : (ps.set j p').getD i none = if i = j then p' else ps.getD i none := by
  simp only [List.getD_eq_getElem?_getD, List.getElem?_set]
  by_cases h : i = j
  · subst h; simp [hj]
  · rw [if_neg (fun e => h e.symm), if_neg h]
theorem getD_push (ps : List (Option Tw)) (p : Option Tw) (i : Nat) : (ps ++ [p]).getD i none = if i = ps.length then p else ps.getD i none := by
  simp only [List.getD_eq_getElem?_getD, List.getElem?_append]
  by_cases h : i < ps.length
  · rw [if_pos h, if_neg (by omega)]
  · rw [if_neg h]
    by_cases h2 : i = ps.length
    · subst h2; simp
    · rw [if_neg h2, List.getElem?_eq_none (by simp; omega), List.getElem?_eq_none (by omega)]
/-- Several pairs side by side, and the row that names them. -/
structure AllD (w : World) (base : Nat) (av : Value) (ps : List (Option Tw)) (n B : Nat) : Prop where
  row : w.ownsRow base 39 2 av ps.length (tws ps)
  inn : ∀ i, OIn w n B (ps.getD i none)
  low : ∀ i k, oOwn (ps.getD i none) k → base ≤ k
  apart : ∀ i j, i ≠ j → ∀ k, oOwn (ps.getD i none) k → ¬ oOwn (ps.getD j none) k
theorem AllD.mono {w : World} {base : Nat} {av : Value} {ps : List (Option Tw)} {n B n' B' : Nat} (h : AllD w base av ps n B) (hn : n ≤ n') (hB : B ≤ B') : AllD w base av ps n' B' :=
  ⟨h.row, fun i => (h.inn i).mono hn hB, h.low, h.apart⟩
theorem AllD.later {w w' : World} {base : Nat} {av : Value} {ps : List (Option Tw)} {n B : Nat} (h : AllD w base av ps n B) (hb : Below w.heap.size w w') : AllD w' base av ps n B :=
  ⟨ownsRow_later h.row hb, fun i => (h.inn i).later hb, h.low, h.apart⟩
theorem AllD.go {w w' : World} {base : Nat} {av : Value} {ps : List (Option Tw)} {n B n' B' j : Nat} {p' : Option Tw} (h : AllD w base av ps n B) (hj : j < ps.length) (hg : OGo w w' n' B' (ps.getD j none) p') (hn : n ≤ n') (hB : B ≤ B') (hbase : base ≤ w.heap.size) : AllD w' base av (ps.set j p') n' B' := by
  refine ⟨?_, fun i => ?_, fun i k hk => ?_, fun i i2 hne k hk => ?_⟩
  · rw [List.length_set, tws_set ps j p' hg.same.1 hg.same.2]
    refine own_same h.row (fun k hk _ => ?_)
    obtain ⟨cur, hc⟩ := own_obj h.row k hk
    exact ((h.inn j).keeps hg.gr hc (by decide) (by decide) (by decide) (by decide) (by unfold dTy; decide)).trans hc.symm
  · rw [getD_set hj]
    split
    · exact hg.inn
    · next hij => exact ((h.inn i).other (h.inn j) hg.gr (h.apart i j hij)).mono hn hB
  · rw [getD_set hj] at hk
    split at hk
    · rcases hg.own hk with e | e
      · exact h.low j k e
      · omega
    · exact h.low i k hk
  · rw [getD_set hj] at hk ⊢
    split at hk
    · next e =>
      subst e
      rw [if_neg (fun e => hne e.symm)]
      rcases hg.own hk with e | e
      · exact h.apart i i2 hne k e
      · intro e2
        have := (h.inn i2).lt e2
        omega
    · split
      · next e2 =>
        subst e2
        intro e3
        rcases hg.own e3 with e | e
        · exact h.apart i i2 hne k hk e
        · have := (h.inn i).lt hk
          omega
      · exact h.apart i i2 hne k hk
theorem AllD.free {w w' : World} {base : Nat} {av : Value} {ps : List (Option Tw)} {n B : Nat} {S : Nat → Prop} (h : AllD w base av ps n B) (hg : Gr S w w') (hS : OfLaw w S) (hr : ∀ k, av.ownBlock = some k → ¬ S k) : AllD w' base av ps n B :=
  ⟨own_same h.row (fun k hk _ => by obtain ⟨cur, hc⟩ := own_obj h.row k hk; exact hg.block k (lt_heap hc) (hr k hk)), fun i => (h.inn i).free hg hS, h.low, h.apart⟩
/-- One more. -/
theorem AllD.push {w w' : World} {base : Nat} {av av' : Value} {ps : List (Option Tw)} {n B : Nat} {p : Option Tw} (h : AllD w base av ps n B) (hp : OIn w n B p) (hl : ∀ k, oOwn p k → base ≤ k) (ha : ∀ i k, oOwn (ps.getD i none) k → ¬ oOwn p k) (hg : w.grownBy w' av.ownBlock) (ho : w'.ownsRow base 39 2 av' (ps.length + 1) (tws ps ++ [oX p, oD p])) : AllD w' base av' (ps ++ [p]) n B := by
  have hgr : Gr (fun k => av.ownBlock = some k) w w' := ⟨hg.os, hg.tape, hg.output, hg.size, fun k hk hn => hg.block k hk (fun e => hn e.symm)⟩
  have hS : OfLaw w (fun k => av.ownBlock = some k) := fun k hk => by
    obtain ⟨cur, hc⟩ := own_obj h.row k hk
    exact ⟨cur, _, _, .inr (.inr (.inr rfl)), hc⟩
  refine ⟨?_, fun i => ?_, fun i k hk => ?_, fun i j hij k hk => ?_⟩
  · rw [List.length_append, List.length_singleton, tws_push]; exact ho
  · rw [getD_push]
    split
    · exact hp.free hgr hS
    · exact (h.inn i).free hgr hS
  · rw [getD_push] at hk
    split at hk
    · exact hl k hk
    · exact h.low i k hk
  · rw [getD_push] at hk ⊢
    split at hk
    · next e =>
      rw [if_neg (by omega)]
      exact fun e2 => ha j k e2 hk
    · split
      · exact ha i k hk
      · exact h.apart i j hij k hk
/-- The books under what leaves their blocks. -/
theorem BkK.free {w w' : World} {bb N came : Nat} {kp wp av : Value} {bs : List PB} {kps : List ByteArray} {S : Nat → Prop} (h : BkK w bb N came kp wp av bs kps) (hg : Gr S w w') (hS : ∀ k, S k → ∃ cur fr, w.heap[k]? = some (.cells cur 39 fr)) : BkK w' bb N came kp wp av bs kps := by
  have hk : ∀ (k : Nat) (cur : Array Value) (T : TypeId) (fr : Nat × Nat), w.heap[k]? = some (.cells cur T fr) → T ≠ 39 → w'.heap[k]? = w.heap[k]? := fun k cur T fr hc hT => hg.block k (lt_heap hc) (fun hs => by
    obtain ⟨cur2, fr2, hc2⟩ := hS k hs
    exact type_ne hc hc2 hT rfl)
  refine ⟨h.bk.same (hk _ _ _ _ h.bk.blk (by decide)) (fun k hk2 => ?_) (fun _ _ k cur fr _ hc => hk k cur _ fr hc (by decide)), own_same h.own (fun k hk2 _ => ?_), h.were.same (fun k cur fr _ hc => hk k cur _ fr hc (by decide)), h.wrow.same (fun k cur fr _ hc => hk k cur _ fr hc (by decide)), h.d1, h.d2, h.len⟩
  · obtain ⟨cur, hc⟩ := own_obj h.bk.all k hk2
    exact hk k cur _ _ hc (by decide)
  · obtain ⟨cur, hc⟩ := own_obj h.own k hk2
    exact hk k cur _ _ hc (by decide)
/-- Below a base nothing has changed. -/
theorem below_gr {W w w' : World} {base : Nat} {S : Nat → Prop} (hb : Below base W w) (hbase : base ≤ w.heap.size) (hg : Gr S w w') (hS : ∀ k, S k → base ≤ k) : Below base W w' :=
  hb.trans ⟨hg.os, hg.tape, hg.output, hg.size, fun k hk => hg.block k (by omega) (fun hs => by have := hS k hs; omega)⟩
/-- Where the statement stands behind n steps. -/
structure Sc (W w : World) (bb : Nat) (av : Value) (ps : List (Option Tw)) (n B : Nat) : Prop where
  low : Below W.heap.size W w
  all : AllD w W.heap.size av ps n B
  bbl : W.heap.size ≤ bb
  bk : ∃ N came kp wp bav bs kps, BkK w bb N came kp wp bav bs kps ∧ N ≤ 2 * n ∧ bs.length ≤ 8 * n ∧ came ≤ n
  len : ps.length ≤ n
theorem Sc.mono {W w : World} {bb : Nat} {av : Value} {ps : List (Option Tw)} {n B n' B' : Nat} (h : Sc W w bb av ps n B) (hn : n ≤ n') (hB : B ≤ B') : Sc W w bb av ps n' B' := by
  obtain ⟨N, came, kp, wp, bav, bs, kps, h1, h2, h3, h4⟩ := h.bk
  exact ⟨h.low, h.all.mono hn hB, h.bbl, ⟨N, came, kp, wp, bav, bs, kps, h1, by omega, by omega, by omega⟩, by have := h.len; omega⟩
theorem Sc.later {W w w' : World} {bb : Nat} {av : Value} {ps : List (Option Tw)} {n B : Nat} (h : Sc W w bb av ps n B) (hb : Below w.heap.size w w') : Sc W w' bb av ps n B := by
  obtain ⟨N, came, kp, wp, bav, bs, kps, h1, h2⟩ := h.bk
  exact ⟨h.low.trans (hb.mono h.low.size), h.all.later hb, h.bbl, ⟨N, came, kp, wp, bav, bs, kps, h1.later hb, h2⟩, h.len⟩
theorem Sc.wrote {W w w' : World} {bb : Nat} {av : Value} {ps : List (Option Tw)} {n B n' B' j : Nat} {p' : Option Tw} (h : Sc W w bb av ps n B) (hj : j < ps.length) (hg : OGo w w' n' B' (ps.getD j none) p') (hn : n ≤ n') (hB : B ≤ B') : Sc W w' bb av (ps.set j p') n' B' := by
  obtain ⟨N, came, kp, wp, bav, bs, kps, h1, h2, h3, h4⟩ := h.bk
  exact ⟨below_gr h.low h.low.size hg.gr (h.all.low j), h.all.go hj hg hn hB h.low.size, h.bbl, ⟨N, came, kp, wp, bav, bs, kps, h1.frame (h.all.inn j) hg.gr, by omega, by omega, by omega⟩, by rw [List.length_set]; have := h.len; omega⟩
theorem Sc.listed {W w w' : World} {bb N came N' : Nat} {av kp wp bav kp' wp' bav' : Value} {bs bs' : List PB} {kps kps' : List ByteArray} {ps : List (Option Tw)} {n B : Nat} (h : Sc W w bb av ps n B) (hk : BkK w bb N came kp wp bav bs kps) (hN : N ≤ 2 * n) (hbs : bs.length ≤ 8 * n) (hc : came ≤ n)
    (hk' : BkK w' bb N' (came + 1) kp' wp' bav' bs' kps') (hN' : N' ≤ N + 2) (hbs' : bs'.length ≤ bs.length + 8) (hg : Gr (fun q => q = bb ∨ bav.ownBlock = some q ∨ kp.ownBlock = some q) w w') : Sc W w' bb av ps (n + 1) B := by
  have hS : OfLaw w (fun q => q = bb ∨ bav.ownBlock = some q ∨ kp.ownBlock = some q) := fun q hq => by
    rcases hq with rfl | hq | hq
    · exact ⟨_, _, _, .inl rfl, hk.bk.blk⟩
    · obtain ⟨cur, hc⟩ := own_obj hk.bk.all q hq
      exact ⟨cur, _, _, .inr (.inl rfl), hc⟩
    · obtain ⟨cur, hc⟩ := own_obj hk.own q hq
      exact ⟨cur, _, _, .inr (.inr (.inl rfl)), hc⟩
  have hr : ∀ k, av.ownBlock = some k → ¬ (fun q => q = bb ∨ bav.ownBlock = some q ∨ kp.ownBlock = some q) k := fun k hk2 hs => by
    obtain ⟨cur, hc⟩ := own_obj h.all.row k hk2
    rcases hs with rfl | hq | hq
    · exact type_ne hc hk.bk.blk (by decide) rfl
    · obtain ⟨cur2, hc2⟩ := own_obj hk.bk.all k hq
      exact type_ne hc hc2 (by decide) rfl
    · obtain ⟨cur2, hc2⟩ := own_obj hk.own k hq
      exact type_ne hc hc2 (by decide) rfl
  refine ⟨below_gr h.low h.low.size hg (fun k hk2 => ?_), (h.all.free hg hS hr).mono (Nat.le_succ _) (Nat.le_refl _), h.bbl, ⟨N', came + 1, kp', wp', bav', bs', kps', hk', by omega, by omega, by omega⟩, by have := h.len; omega⟩
  rcases hk2 with rfl | hq | hq
  · exact h.bbl
  · exact Nat.le_trans h.bbl (hk.bk.all.lt k hq).1
  · exact Nat.le_trans h.bbl (hk.own.lt k hq).1
theorem Sc.push {W w w' : World} {bb : Nat} {av av' : Value} {ps : List (Option Tw)} {n B : Nat} {p : Option Tw} (h : Sc W w bb av ps n B) (hp : OIn w n B p) (hl : ∀ k, oOwn p k → W.heap.size ≤ k) (ha : ∀ i k, oOwn (ps.getD i none) k → ¬ oOwn p k) (hg : w.grownBy w' av.ownBlock)
    (ho : w'.ownsRow W.heap.size 39 2 av' (ps.length + 1) (tws ps ++ [oX p, oD p])) : Sc W w' bb av' (ps ++ [p]) (n + 1) B := by
  have hgr : Gr (fun k => av.ownBlock = some k) w w' := ⟨hg.os, hg.tape, hg.output, hg.size, fun k hk hn => hg.block k hk (fun e => hn e.symm)⟩
  obtain ⟨N, came, kp, wp, bav, bs, kps, h1, h2, h3, h4⟩ := h.bk
  exact ⟨below_gr h.low h.low.size hgr (fun k hk => (h.all.row.lt k hk).1), (h.all.push hp hl ha hg ho).mono (Nat.le_succ _) (Nat.le_refl _), h.bbl, ⟨N, came, kp, wp, bav, bs, kps, h1.free hgr (fun k hk => by obtain ⟨cur, hc⟩ := own_obj h.all.row k hk; exact ⟨cur, _, hc⟩), by omega, by omega, by omega⟩, by rw [List.length_append, List.length_singleton]; have := h.len; omega⟩
end Go.Proofs.YtjipdjkcdoajbaaGreatDoor

/-
  PROVED HERE: the steps of the statement Disks, over several pairs of disks and the books.
-/
namespace Go.Proofs.YtjipdjkcdoajbaaGreatDoor
open Go.RowKit
/-- A row of the script. -/
structure OpV where
  K : Int
  P : Int
  A : Int
  C : Int
  S : ByteArray
  T : ByteArray
  la : Option Addr
  ln : Nat
  lc : Nat
def op0 : OpV := ⟨0, 0, 0, 0, ⟨#[]⟩, ⟨#[]⟩, none, 0, 0⟩
def OpV.cells (o : OpV) : List Value := [.int .i64 o.K, .int .i64 o.P, .int .i64 o.A, .int .i64 o.C, .string o.S, .string o.T, .slice o.la o.ln o.lc]
structure OpFit (W : World) (o : OpV) : Prop where
  p0 : -9223372036854775808 ≤ o.P
  p1 : o.P ≤ 9223372036854775807
  a0 : -9223372036854775808 ≤ o.A
  a1 : o.A ≤ 9223372036854775807
  s : o.S.size ≤ 9223372036854775807
  t : o.T.size ≤ 1048576
  l : ∃ ks : List Int, ks.length = o.ln ∧ KAt (fun k => W.heap.size ≤ k) W (.slice o.la o.ln o.lc) ks
  ln : o.ln ≤ 1048576
theorem sc_writes {W w : World} {bb : Nat} {av : Value} {ps : List (Option Tw)} {n B j : Nat} (K P A C : Int) (S T : ByteArray) (la : Option Addr) (ln lc : Nat) (h : Sc W w bb av ps n B) (hf : OpFit W ⟨K, P, A, C, S, T, la, ln, lc⟩) (hn : n + B ≤ 1048576) (hW : W.cell? ⟨0, 0, none⟩ = some errT) (hj : j < ps.length) (k1 : 3 ≤ K) (k2 : K ≤ 15) (k3 : ¬ (9 ≤ K ∧ K ≤ 12)) :
    Calls Tryz.prog 10 #[.agg #[oX (ps.getD j none), oD (ps.getD j none)], .agg #[.int .i64 K, .int .i64 P, .int .i64 A, .int .i64 C, .string S, .string T, .slice la ln lc]] w fun e w' => e = .returned (.bool true) ∧ ∃ ps', Sc W w' bb av ps' (n + 1) (B + T.size) := by
  have hg : w.cell? ⟨0, 0, none⟩ = some errT := cell_later h.low hW
  have hi := h.all.inn j
  have fin : ∀ B', B ≤ B' → B' ≤ B + T.size → ∀ e w', (e = Ending.returned (.bool true) ∧ ∃ p', OGo w w' (n + 1) B' (ps.getD j none) p') → e = .returned (.bool true) ∧ ∃ ps', Sc W w' bb av ps' (n + 1) (B + T.size) := by
    rintro B' h1 h2 e w' ⟨rfl, p', hp⟩
    exact ⟨rfl, _, (h.wrote hj hp (Nat.le_succ _) h1).mono (Nat.le_refl _) h2⟩
  obtain ⟨ks, hks, hka⟩ := hf.l
  have hK : K = 3 ∨ K = 4 ∨ K = 5 ∨ K = 6 ∨ K = 7 ∨ K = 8 ∨ K = 13 ∨ K = 14 ∨ K = 15 := by omega
  have hT2 : T.size ≤ 9223372036854775807 := Nat.le_trans hf.t (by decide)
  rcases hK with rfl | rfl | rfl | rfl | rfl | rfl | rfl | rfl | rfl
  · exact (wrAppend _ P A C S T la ln lc w hi hn hf.s hf.t hg).mono (fin (B + T.size) (Nat.le_add_right _ _) (Nat.le_refl _))
  · exact (wrRename _ P A C S T la ln lc w hi hn hf.s hT2 hg).mono (fin B (Nat.le_refl _) (Nat.le_add_right _ _))
  · exact (wrRemove _ P A C S T la ln lc w hi hn hf.s hg).mono (fin B (Nat.le_refl _) (Nat.le_add_right _ _))
  · exact (wrTruncate _ P A C S T la ln lc w hi hn hf.s hf.a0 hf.a1 hg).mono (fin B (Nat.le_refl _) (Nat.le_add_right _ _))
  · exact (wrSync _ P A C S T la ln lc w hi hn hf.s hg).mono (fin B (Nat.le_refl _) (Nat.le_add_right _ _))
  · exact (wrSyncDir _ P A C S T la ln lc w hi hn hg).mono (fin B (Nat.le_refl _) (Nat.le_add_right _ _))
  · exact (wrSpoil _ P A C S T la ln lc w hi hn hf.s hg).mono (fin B (Nat.le_refl _) (Nat.le_add_right _ _))
  · exact (wrBreak _ P A C S T la ln lc w hi hf.a1 hg).mono (fin B (Nat.le_refl _) (Nat.le_add_right _ _))
  · exact (wrCrash _ P A C S T la ln lc ks w hi hn hks ((hka.later h.low).mono (h.all.low j)) hf.ln).mono (fin B (Nat.le_refl _) (Nat.le_add_right _ _))
theorem set_same {ps : List (Option Tw)} {j : Nat} (hj : j < ps.length) : ps.set j (ps.getD j none) = ps := by
  rw [List.getD_eq_getElem?_getD, List.getElem?_eq_getElem hj]
  exact List.set_getElem_self hj
theorem sc_looks {W w : World} {bb : Nat} {av : Value} {ps : List (Option Tw)} {n B j : Nat} (K P A C : Int) (S T : ByteArray) (la : Option Addr) (ln lc : Nat) (h : Sc W w bb av ps n B) (hf : OpFit W ⟨K, P, A, C, S, T, la, ln, lc⟩) (hn : n + B ≤ 1048576) (hW : W.cell? ⟨0, 0, none⟩ = some errT) (hj : j < ps.length) (k1 : 9 ≤ K) (k2 : K ≤ 12) :
    Calls Tryz.prog 9 #[.agg #[oX (ps.getD j none), oD (ps.getD j none)], .pointer (some ⟨bb, 0, none⟩), .agg #[.int .i64 K, .int .i64 P, .int .i64 A, .int .i64 C, .string S, .string T, .slice la ln lc]] w fun e w' => e = .returned (.bool true) ∧ ∃ ps', Sc W w' bb av ps' (n + 1) (B + T.size) := by
  have hg : w.cell? ⟨0, 0, none⟩ = some errT := cell_later h.low hW
  have hi := h.all.inn j
  have fin : ∀ e w', (e = Ending.returned (.bool true) ∧ OGo w w' n B (ps.getD j none) (ps.getD j none)) → e = .returned (.bool true) ∧ ∃ ps', Sc W w' bb av ps' (n + 1) (B + T.size) := by
    rintro e w' ⟨rfl, hp⟩
    exact ⟨rfl, _, (h.wrote hj hp (Nat.le_refl _) (Nat.le_refl _)).mono (Nat.le_succ _) (Nat.le_add_right _ _)⟩
  have hK : K = 9 ∨ K = 10 ∨ K = 11 ∨ K = 12 := by omega
  rcases hK with rfl | rfl | rfl | rfl
  · exact (lkRead _ _ P A C S T la ln lc w hi hn hf.s hg).mono fin
  · obtain ⟨N, came, kp, wp, bav, bs, kps, h1, h2, h3, h4⟩ := h.bk
    refine (lkList _ bb N came kp wp bav bs kps P A C S T la ln lc w hi hn h1 (by omega) (by omega) (by omega)).mono ?_
    rintro _ w' ⟨rfl, N', kp', wp', av', bs', kps', g1, g2, g3, g4⟩
    exact ⟨rfl, ps, (h.listed h1 h2 h3 h4 g1 g2 g3 g4).mono (Nat.le_refl _) (Nat.le_add_right _ _)⟩
  · exact (lkUsed _ _ P A C S T la ln lc w hi hn).mono fin
  · exact (lkSteps _ _ P A C S T la ln lc w hi).mono fin
theorem sc_still {W w : World} {bb : Nat} {av : Value} {ps : List (Option Tw)} {n B : Nat} (h : Sc W w bb av ps n B) (hn : n ≤ 1048577) :
    Calls Tryz.prog 11 #[.pointer (some ⟨bb, 0, none⟩)] w fun e w' => e = .returned (.bool true) ∧ Sc W w' bb av ps n B := by
  obtain ⟨N, came, kp, wp, bav, bs, kps, h1, h2, h3, h4⟩ := h.bk
  refine (still_p bb N came kp wp bav bs kps w h1.bk (own_ss h1.own) h1.were h1.len (by omega) (by omega)).mono ?_
  rintro _ w' ⟨rfl, hb⟩
  exact ⟨rfl, h.later hb⟩
theorem sc_start (W : World) : Sc W (W.alloc (.cells #[.int .i64 0, .int .i64 0, .bool false, .slice none 0 0, .slice none 0 0, .slice none 0 0, .slice none 0 0, .slice none 0 0, .slice none 0 0, .slice none 0 0] 30)) W.heap.size (.slice none 0 0) [] 0 0 := by
  refine ⟨(Below.refl _ _).alloc (Nat.le_refl _) _, ⟨World.ownsRow_nil _ _ _ _, fun i => ?_, fun i k hk => ?_, fun i j _ k hk => ?_⟩, Nat.le_refl _, ⟨0, 0, .slice none 0 0, .slice none 0 0, .slice none 0 0, [], [], ⟨⟨heap_alloc_new _ _, World.ownsRow_nil _ _ _ _, fun e he => (by cases he), fun e he => (by cases he)⟩, World.ownsRow_nil _ _ _ _, ⟨none, 0, rfl, fun i hi => by cases hi⟩, fun k hk => (by cases hk), fun e he => (by cases he), fun q hq => (by cases hq), by decide⟩, by decide, by decide, by decide⟩, Nat.le_refl _⟩
  · simp [OIn]
  · simp [oOwn] at hk
  · simp [oOwn] at hk
/-- Where the pair's two pointers lie in the row. -/
theorem Sc.at {W w : World} {bb : Nat} {av : Value} {ps : List (Option Tw)} {n B : Nat} (h : Sc W w bb av ps n B) (j : Nat) (hj : j < ps.length) : ∃ g c, av = .slice (some ⟨g, 0, none⟩) ps.length c ∧ w.cell? ⟨g, j * 2, none⟩ = some (oX (ps.getD j none)) ∧ w.cell? ⟨g, j * 2 + 1, none⟩ = some (oD (ps.getD j none)) := by
  rcases h.all.row.2 with ⟨-, h0⟩ | ⟨g, cap, cur, e, hb, hg, hc, hm, hcs, htk⟩
  · omega
  · obtain ⟨t1, t2⟩ := tws_at ps j hj
    refine ⟨g, cap, e, ?_, ?_⟩
    · rw [cell_of_row w g _ _ _ _ hg, ← t1, ← htk, List.getElem?_take, if_pos (by omega)]; simp
    · rw [cell_of_row w g _ _ _ _ hg, ← t2, ← htk, List.getElem?_take, if_pos (by omega)]; simp
/-- The bytes that the first i rows may add. -/
def tb (ops : List OpV) (i : Nat) : Nat := ((ops.take i).map fun o => o.T.size).sum
theorem tb_succ {ops : List OpV} {i : Nat} (hi : i < ops.length) : tb ops (i + 1) = tb ops i + (ops.getD i op0).T.size := by
  unfold tb
  rw [List.take_succ_eq_append_getElem hi, List.map_append, List.sum_append, List.getD_eq_getElem?_getD, List.getElem?_eq_getElem hi]
  simp
theorem tb_le {ops : List OpV} : ∀ (d i : Nat), i + d = ops.length → tb ops i ≤ tb ops ops.length
  | 0, i, h => by rw [← h]; exact Nat.le_refl _
  | d + 1, i, h => by
    have := tb_le (ops := ops) d (i + 1) (by omega)
    rw [tb_succ (show i < ops.length by omega)] at this
    omega
/-- The script's rows. -/
def OpsAt (W : World) (oa : Option Addr) (ops : List OpV) : Prop := ∀ i, i < ops.length → ∃ g o, oa = some ⟨g, o, none⟩ ∧ W.rangeAt g (o + i * 7) (ops.getD i op0).cells
/-- A new pair is one more, far from the others. -/
theorem Sc.new {W w w2 w' : World} {bb : Nat} {av av' : Value} {ps : List (Option Tw)} {n B : Nat} {t : Tw} {X : World} (h : Sc W w bb av ps n B) (hb : Below w.heap.size w w2) (ht : t.In w2) (hB : TB t.r n B) (hl : ∀ k, t.own k → w.heap.size ≤ k) (hX : Below w2.heap.size w2 X) (hg : X.grownBy w' av.ownBlock)
    (ho : w'.ownsRow W.heap.size 39 2 av' (ps.length + 1) (tws ps ++ [oX (some t), oD (some t)])) : Sc W w' bb av' (ps ++ [some t]) (n + 1) B :=
  ((h.later hb).later hX).push (p := some t) ⟨ht.later hX, hB⟩ (fun k hk => Nat.le_trans h.low.size (hl k hk)) (fun i k hk hk2 => by
    have h1 := (h.all.inn i).lt hk
    have h2 := hl k hk2
    omega) hg ho
theorem Sc.none {W w w' : World} {bb : Nat} {av av' : Value} {ps : List (Option Tw)} {n B : Nat} {X : World} (h : Sc W w bb av ps n B) (hX : Below w.heap.size w X) (hg : X.grownBy w' av.ownBlock)
    (ho : w'.ownsRow W.heap.size 39 2 av' (ps.length + 1) (tws ps ++ [.pointer none, .pointer none])) : Sc W w' bb av' (ps ++ [Option.none]) (n + 1) B :=
  (h.later hX).push (p := Option.none) trivial (fun _ hk => hk.elim) (fun _ _ _ hk2 => hk2) hg ho
end Go.Proofs.YtjipdjkcdoajbaaGreatDoor
