/-
  PROVED HERE: what lies under a path behind changes of paths, and the sizes of a disk behind a step; no walk.
-/
import Derived.Test.YteicpbcddjjceaaGreatDoorBdW1
namespace Go.Proofs.YteicpbcddjjceaaGreatDoor
open Go.RowKit
theorem find_filter (p x : ByteArray) : ∀ l : List DE, findE x (l.filter (fun e => !decide (e.path = p))) = if x = p then none else findE x l
  | [] => by simp [findE]
  | e :: es => by
    have ih := find_filter p x es
    by_cases he : e.path = p
    · rw [List.filter_cons_of_neg (by simp [he]), ih]
      by_cases hx : x = p
      · simp [hx]
      · rw [if_neg hx, if_neg hx]
        conv => rhs; unfold findE
        rw [if_neg (fun h => hx (h.symm.trans he))]
    · rw [List.filter_cons_of_pos (by simp [he])]
      unfold findE
      by_cases hx : e.path = x
      · rw [if_pos hx, if_pos hx, if_neg (fun h => he (hx.trans h))]
      · rw [if_neg hx, if_neg hx, ih]
theorem rise_with (p : ByteArray) (nb : Nat) : ∀ {l : List DE}, Rise l → Rise (withE p (some nb) l false)
  | [], _ => by unfold withE Rise; simp
  | e :: es, hr => by
    obtain ⟨h1, h2⟩ := List.pairwise_cons.1 hr
    have ih := rise_with p nb h2
    unfold withE
    by_cases he : e.path = p
    · simp only [he, less_irrefl, Bool.and_false, Bool.false_eq_true, if_false, if_true, List.nil_append, Bool.or_self]
      exact ih
    · by_cases hl : lessB p e.path = true
      · simp only [hl, he, Bool.not_false, Bool.and_self, if_true, if_false, Bool.or_true, List.cons_append, List.nil_append]
        rw [withE_done]
        refine List.pairwise_cons.2 ⟨fun x hx => ?_, List.pairwise_cons.2 ⟨fun x hx => h1 x (List.mem_filter.1 hx).1, h2.filter _⟩⟩
        rcases List.mem_cons.1 hx with rfl | hx
        · exact hl
        · exact less_trans hl (h1 x (List.mem_filter.1 hx).1)
      · have hl' : lessB p e.path = false := by simpa using hl
        simp only [hl', he, Bool.and_false, Bool.false_eq_true, if_false, Bool.or_self, List.nil_append, List.cons_append]
        refine List.pairwise_cons.2 ⟨fun x hx => ?_, ih⟩
        rcases withE_path hx with ⟨h3, _⟩ | h3
        · exact h1 x h3
        · rw [h3]
          rcases less_total he with h4 | h4
          · exact h4
          · rw [h4] at hl'; cases hl'
theorem after_rise {l : List DE} (hr : Rise l) (frm too : ByteArray) (nb : Nat) : Rise (afterE l frm too nb) := by
  unfold afterE
  have h1 : Rise (if frm = ⟨#[]⟩ then l else withE frm none l true) := by
    split
    · exact hr
    · rw [withE_done]; exact hr.filter _
  dsimp only
  split
  · exact h1
  · exact rise_with _ _ h1
theorem go_rise : ∀ (cs : List CH) {l : List DE}, Rise l → Rise (goE l cs)
  | [], _, h => h
  | c :: cs, _, h => go_rise cs (after_rise h c.frm c.too c.blk)
/-- What lies under a path behind one change. -/
theorem after_find {l : List DE} (hr : Rise l) (frm too : ByteArray) (nb : Nat) {x : ByteArray} (hx : x ≠ ⟨#[]⟩) : findE x (afterE l frm too nb) = if x = too then some nb else if x = frm then none else findE x l := by
  unfold afterE
  have h1 : Rise (if frm = ⟨#[]⟩ then l else withE frm none l true) := by
    split
    · exact hr
    · rw [withE_done]; exact hr.filter _
  have h2 : findE x (if frm = ⟨#[]⟩ then l else withE frm none l true) = if x = frm then none else findE x l := by
    split
    · next h => rw [if_neg (fun e => hx (e.trans h))]
    · rw [withE_done, find_filter]
  show findE x (if too = ⟨#[]⟩ then (if frm = ⟨#[]⟩ then l else withE frm none l true) else withE too (some nb) (if frm = ⟨#[]⟩ then l else withE frm none l true) false) = _
  generalize (if frm = ⟨#[]⟩ then l else withE frm none l true) = l1 at h1 h2
  by_cases h : too = ⟨#[]⟩
  · rw [if_pos h, h2, if_neg (c := x = too) (fun e => hx (e.trans h))]
  · rw [if_neg h, withE_find _ _ _ h1, h2]
/-- Nothing lies under this path, whatever first changes survive. -/
def LF (x : ByteArray) (D : DS) : Prop := ∀ m, findE x (goE D.R.safe (D.R.chg.take m)) = none
theorem LF.now {x : ByteArray} {D : DS} (h : LF x D) (hi : Inv D.R) : findE x D.R.now = none := by
  rw [hi.go]
  have := h D.R.chg.length
  rwa [List.take_length] at this
theorem LF.push {x : ByteArray} {D : DS} (h : LF x D) (hr : Rise D.R.safe) (hx : x ≠ ⟨#[]⟩) {c : CH} (hc : c.too ≠ x) (m : Nat) : findE x (goE D.R.safe ((D.R.chg ++ [c]).take m)) = none := by
  rcases Nat.lt_or_ge D.R.chg.length m with hm | hm
  · rw [List.take_of_length_le (by simp; omega), goE_snoc, after_find (go_rise _ hr) _ _ _ hx, if_neg (fun e => hc e.symm)]
    split
    · rfl
    · have := h D.R.chg.length
      rwa [List.take_length] at this
  · rw [List.take_append_of_le_length hm]
    exact h m
theorem goE_inn {D : DS} {L C B : Nat} (h : DFit D L C B) : ∀ e ∈ D.R.now, e.blk ∈ D.fs := h.inow
theorem wrote_left {R : RDk} (h0 : -1 ≤ R.left) (h1 : R.left ≤ 9223372036854775807) : -1 ≤ R.wrote.left ∧ R.wrote.left ≤ 9223372036854775807 := by
  unfold RDk.wrote
  dsimp only
  split <;> omega
/-- A step that changes no path. -/
theorem DFit.wrote {D : DS} {L C B B' : Nat} {fd' : Nat → ByteArray × Int} (h : DFit D L C B) (hd : ∀ f ∈ D.fs, FitB B' (fd' f)) : DFit ⟨D.R.wrote, D.fs, fd'⟩ L (C + 1) B' :=
  ⟨h.len, by have := h.c0; show 0 ≤ D.R.count + 1; omega, by have := h.c1; show D.R.count + 1 ≤ _; omega, (wrote_left h.l0 h.l1).1, (wrote_left h.l0 h.l1).2, h.r0, h.r1, hd, h.chf, h.inv.wrote, h.inow, h.isafe, h.ichg, h.rise⟩
/-- A step that changes a path. -/
theorem DFit.pushed {D : DS} {L C B B' : Nat} {c : CH} {fs' : List Nat} {fd' : Nat → ByteArray × Int} (h : DFit D L C B) (hc : c.frm.size ≤ 1000000000 ∧ c.too.size ≤ 1000000000) (hb : c.blk ∈ fs') (hfs : ∀ f ∈ D.fs, f ∈ fs') (hd : ∀ f ∈ fs', FitB B' (fd' f)) :
    DFit ⟨RDk.wrote { D.R with now := applyE D.R.now c, chg := D.R.chg ++ [c] }, fs', fd'⟩ (L + 1) (C + 1) B' := by
  have ha : applyE D.R.now c = afterE D.R.now c.frm c.too c.blk := applyE_after h.inv.nowNe c
  refine ⟨?_, by have := h.c0; show 0 ≤ D.R.count + 1; omega, by have := h.c1; show D.R.count + 1 ≤ _; omega, (wrote_left (R := { D.R with now := applyE D.R.now c, chg := D.R.chg ++ [c] }) h.l0 h.l1).1, (wrote_left (R := { D.R with now := applyE D.R.now c, chg := D.R.chg ++ [c] }) h.l0 h.l1).2, h.r0, h.r1, hd, ?_, ?_, ?_, fun e he => hfs _ (h.isafe e he), ?_, h.rise⟩
  · show D.R.safe.length + (D.R.chg ++ [c]).length ≤ _
    have := h.len
    rw [List.length_append, List.length_singleton]
    omega
  · intro x hx
    rcases List.mem_append.1 hx with hx | hx
    · exact h.chf x hx
    · rw [List.mem_singleton.1 hx]; exact hc
  · have := h.inv.push c
    rw [← ha] at this
    exact this.wrote
  · intro e he
    have he : e ∈ applyE D.R.now c := he
    rcases applyE_mem he with h1 | h1
    · exact hfs _ (h.inow e h1)
    · rw [h1]; exact hb
  · intro x hx
    rcases List.mem_append.1 hx with hx | hx
    · exact hfs _ (h.ichg x hx)
    · rw [List.mem_singleton.1 hx]; exact hb
theorem find_in {D : DS} {L C B : Nat} (h : DFit D L C B) {p : ByteArray} {f : Nat} (hf : findE p D.R.now = some f) : f ∈ D.fs := by
  obtain ⟨e, he, _, rfl⟩ := findE_some hf
  exact h.inow e he
theorem setNd_fit {fs : List Nat} {fd : Nat → ByteArray × Int} {B B' : Nat} (h : ∀ f ∈ fs, FitB B (fd f)) (hB : B ≤ B') {g : Nat} {x : ByteArray × Int} (hx : FitB B' x) : ∀ f ∈ fs, FitB B' (setNd fd g x f) := fun f hf => by
  unfold setNd
  split
  · exact hx
  · exact (h f hf).mono hB
theorem DFit.ap {D : DS} {L C B : Nat} (h : DFit D L C B) {p dt : ByteArray} {f : Nat} {k : Int} {D' : DS} (he : (k, D') = apD D p dt f) : DFit D' (L + 1) (C + 1) (B + dt.size) := by
  unfold apD at he
  split at he
  · rw [(Prod.mk.inj he).2]; exact h.mono (Nat.le_succ _) (Nat.le_succ _) (Nat.le_add_right _ _)
  · next a1 =>
    have a1' : isPathB p = true := by simpa using a1
    split at he
    · rw [(Prod.mk.inj he).2]; exact h.mono (Nat.le_succ _) (Nat.le_succ _) (Nat.le_add_right _ _)
    · split at he
      · rw [(Prod.mk.inj he).2]; exact h.mono (Nat.le_succ _) (Nat.le_succ _) (Nat.le_add_right _ _)
      · cases hf : findE p D.R.now with
        | some g =>
          rw [hf] at he
          rw [(Prod.mk.inj he).2]
          obtain ⟨x1, x2, x3⟩ := h.dat g (find_in h hf)
          have hx9 : FitB (B + dt.size) ((D.fd g).1 ++ dt, (D.fd g).2) := ⟨by show ((D.fd g).1 ++ dt).size ≤ _; rw [ByteArray.size_append]; omega, x2, by show (D.fd g).2 ≤ (((D.fd g).1 ++ dt).size : Int); rw [ByteArray.size_append]; omega⟩
          exact (h.wrote (setNd_fit h.dat (Nat.le_add_right _ _) hx9)).mono (Nat.le_succ _) (Nat.le_refl _) (Nat.le_refl _)
        | none =>
          rw [hf] at he
          rw [(Prod.mk.inj he).2]
          refine h.pushed (c := ⟨⟨#[]⟩, p, f⟩) ⟨Nat.zero_le _, path_small a1'⟩ (by simp) (fun f hf => by simp [hf]) (fun g hg => ?_)
          unfold setNd
          split
          · exact ⟨Nat.le_add_left _ _, Int.le_refl _, Int.natCast_nonneg _⟩
          · next hne => exact (h.dat g ((List.mem_cons.1 hg).resolve_left hne)).mono (Nat.le_add_right _ _)
theorem DFit.sy {D : DS} {L C B : Nat} (h : DFit D L C B) {p : ByteArray} {k : Int} {D' : DS} (he : (k, D') = syD D p) : DFit D' L (C + 1) B := by
  unfold syD at he
  split at he
  · rw [(Prod.mk.inj he).2]; exact h.mono (Nat.le_refl _) (Nat.le_succ _) (Nat.le_refl _)
  · split at he
    · rw [(Prod.mk.inj he).2]; exact h.mono (Nat.le_refl _) (Nat.le_succ _) (Nat.le_refl _)
    · cases hf : findE p D.R.now with
      | some g =>
        rw [hf] at he
        rw [(Prod.mk.inj he).2]
        obtain ⟨x1, x2, x3⟩ := h.dat g (find_in h hf)
        exact h.wrote (setNd_fit h.dat (Nat.le_refl _) ⟨x1, Int.natCast_nonneg _, Int.le_refl _⟩)
      | none => rw [hf] at he; rw [(Prod.mk.inj he).2]; exact h.mono (Nat.le_refl _) (Nat.le_succ _) (Nat.le_refl _)
theorem DFit.rm {D : DS} {L C B : Nat} (h : DFit D L C B) {p : ByteArray} {k : Int} {D' : DS} (he : (k, D') = rmD D p) : DFit D' (L + 1) (C + 1) B := by
  unfold rmD at he
  split at he
  · rw [(Prod.mk.inj he).2]; exact h.mono (Nat.le_succ _) (Nat.le_succ _) (Nat.le_refl _)
  · next a1 =>
    have a1' : isPathB p = true := by simpa using a1
    split at he
    · rw [(Prod.mk.inj he).2]; exact h.mono (Nat.le_succ _) (Nat.le_succ _) (Nat.le_refl _)
    · cases hf : findE p D.R.now with
      | some g =>
        rw [hf] at he
        rw [(Prod.mk.inj he).2]
        exact h.pushed (c := ⟨p, ⟨#[]⟩, g⟩) ⟨path_small a1', Nat.zero_le _⟩ (find_in h hf) (fun _ hf => hf) h.dat
      | none => rw [hf] at he; rw [(Prod.mk.inj he).2]; exact h.mono (Nat.le_succ _) (Nat.le_succ _) (Nat.le_refl _)
theorem DFit.rn {D : DS} {L C B : Nat} (h : DFit D L C B) {p q : ByteArray} {k : Int} {D' : DS} (he : (k, D') = rnD D p q) : DFit D' (L + 1) (C + 1) B := by
  unfold rnD at he
  split at he
  · rw [(Prod.mk.inj he).2]; exact h.mono (Nat.le_succ _) (Nat.le_succ _) (Nat.le_refl _)
  · next a1 =>
    have a1' : isPathB p = true ∧ isPathB q = true := by simpa using a1
    split at he
    · rw [(Prod.mk.inj he).2]; exact h.mono (Nat.le_succ _) (Nat.le_succ _) (Nat.le_refl _)
    · cases hf : findE p D.R.now with
      | some g =>
        rw [hf] at he
        rw [(Prod.mk.inj he).2]
        by_cases hpq : p = q
        · rw [if_pos hpq]
          exact (h.wrote h.dat).mono (Nat.le_succ _) (Nat.le_refl _) (Nat.le_refl _)
        · rw [if_neg hpq]
          exact h.pushed (c := ⟨p, q, g⟩) ⟨path_small a1'.1, path_small a1'.2⟩ (find_in h hf) (fun _ hf => hf) h.dat
      | none => rw [hf] at he; rw [(Prod.mk.inj he).2]; exact h.mono (Nat.le_succ _) (Nat.le_succ _) (Nat.le_refl _)
theorem DFit.sd {D : DS} {L C B : Nat} (h : DFit D L C B) {k : Int} {D' : DS} (he : (k, D') = sdD D) : DFit D' L (C + 1) B := by
  unfold sdD at he
  split at he
  · rw [(Prod.mk.inj he).2]; exact h.mono (Nat.le_refl _) (Nat.le_succ _) (Nat.le_refl _)
  · rw [(Prod.mk.inj he).2]
    refine ⟨?_, by have := h.c0; show 0 ≤ D.R.count + 1; omega, by have := h.c1; show D.R.count + 1 ≤ _; omega, (wrote_left (R := { D.R with safe := D.R.now, chg := [] }) h.l0 h.l1).1, (wrote_left (R := { D.R with safe := D.R.now, chg := [] }) h.l0 h.l1).2, h.r0, h.r1, h.dat, fun c hc => (by cases hc), h.inv.sync.wrote, h.inow, h.inow, fun c hc => (by cases hc), ?_⟩
    · exact h.nowLen
    · show Rise D.R.now
      rw [h.inv.go]
      exact go_rise _ h.rise
end Go.Proofs.YteicpbcddjjceaaGreatDoor

/-
  PROVED HERE: steps of a disk one behind the other, up to the first that is refused, or all of them; no walk.
-/
namespace Go.Proofs.YteicpbcddjjceaaGreatDoor
open Go.RowKit
/-- A step: 0 Append, 1 Sync, 2 Remove, 3 Rename, else SyncDir. -/
structure Stp where
  k : Nat
  p : ByteArray
  q : ByteArray
def sAp (p q : ByteArray) : Stp := ⟨0, p, q⟩
def sSy (p : ByteArray) : Stp := ⟨1, p, ⟨#[]⟩⟩
def sRm (p : ByteArray) : Stp := ⟨2, p, ⟨#[]⟩⟩
def sRn (p q : ByteArray) : Stp := ⟨3, p, q⟩
def sSd : Stp := ⟨4, ⟨#[]⟩, ⟨#[]⟩⟩
def stR (D : DS) (t : Stp) (k : Int) (D' : DS) : Prop :=
  match t.k with
  | 0 => ∃ f, f ∉ D.fs ∧ (k, D') = apD D t.p t.q f
  | 1 => (k, D') = syD D t.p
  | 2 => (k, D') = rmD D t.p
  | 3 => (k, D') = rnD D t.p t.q
  | _ => (k, D') = sdD D
def Stp.sz (t : Stp) : Nat := if t.k = 0 then t.q.size else 0
theorem DFit.st {D D' : DS} {L C B : Nat} {t : Stp} {k : Int} (h : DFit D L C B) (hs : stR D t k D') : DFit D' (L + 1) (C + 1) (B + t.sz) := by
  obtain ⟨tk, p, q⟩ := t
  unfold stR at hs
  unfold Stp.sz
  match tk with
  | 0 =>
    obtain ⟨f, _, he⟩ := hs
    exact h.ap he
  | 1 => exact (h.sy hs).mono (Nat.le_succ _) (Nat.le_refl _) (Nat.le_add_right _ _)
  | 2 => exact (h.rm hs).mono (Nat.le_refl _) (Nat.le_refl _) (Nat.le_add_right _ _)
  | 3 => exact (h.rn hs).mono (Nat.le_refl _) (Nat.le_refl _) (Nat.le_add_right _ _)
  | n + 4 => exact (h.sd hs).mono (Nat.le_succ _) (Nat.le_refl _) (Nat.le_add_right _ _)
/-- The steps up to the first that is refused: its answer k, how many went well. -/
def Ran : DS → List Stp → Int → Nat → DS → Prop
  | D, [], k, n, D' => k = 0 ∧ n = 0 ∧ D' = D
  | D, t :: l, k, n, D' => ∃ k1 D1, stR D t k1 D1 ∧ ((k1 ≠ 0 ∧ k = k1 ∧ n = 0 ∧ D' = D1) ∨ (k1 = 0 ∧ ∃ m, n = m + 1 ∧ Ran D1 l k m D'))
/-- All of them, whatever they answer. -/
def RanI : DS → List Stp → DS → Prop
  | D, [], D' => D' = D
  | D, t :: l, D' => ∃ k1 D1, stR D t k1 D1 ∧ RanI D1 l D'
theorem Ran.stop : ∀ {l : List Stp} {D D' : DS} {k : Int} {n : Nat} (l' : List Stp), Ran D l k n D' → k ≠ 0 → Ran D (l ++ l') k n D'
  | [], _, _, _, _, _, h, hk => absurd h.1 hk
  | t :: l, D, D', k, n, l', h, hk => by
    obtain ⟨k1, D1, h1, h2⟩ := h
    refine ⟨k1, D1, h1, ?_⟩
    rcases h2 with h2 | ⟨h2, m, h3, h4⟩
    · exact .inl h2
    · exact .inr ⟨h2, m, h3, h4.stop l' hk⟩
theorem Ran.app : ∀ {l l' : List Stp} {D D1 D' : DS} {k : Int} {n m : Nat}, Ran D l 0 n D1 → Ran D1 l' k m D' → Ran D (l ++ l') k (n + m) D'
  | [], l', D, D1, D', k, n, m, h, h' => by
    obtain ⟨_, rfl, rfl⟩ := h
    rw [Nat.zero_add]
    exact h'
  | t :: l, l', D, D1, D', k, n, m, h, h' => by
    obtain ⟨k1, D2, h1, h2⟩ := h
    rcases h2 with ⟨h2, h3, _⟩ | ⟨h2, j, h3, h4⟩
    · exact absurd h3.symm h2
    · exact ⟨k1, D2, h1, .inr ⟨h2, j + m, by omega, h4.app h'⟩⟩
theorem Ran.one {D D' : DS} {t : Stp} {k : Int} (h : stR D t k D') : Ran D [t] k (if k = 0 then 1 else 0) D' := by
  refine ⟨k, D', h, ?_⟩
  by_cases hk : k = 0
  · rw [if_pos hk]
    exact .inr ⟨hk, 0, rfl, hk, rfl, rfl⟩
  · rw [if_neg hk]
    exact .inl ⟨hk, rfl, rfl, rfl⟩
theorem Ran.len : ∀ {l : List Stp} {D D' : DS} {n : Nat}, Ran D l 0 n D' → n = l.length
  | [], _, _, _, h => h.2.1
  | t :: l, D, D', n, h => by
    obtain ⟨k1, D1, h1, h2⟩ := h
    rcases h2 with ⟨h2, h3, _⟩ | ⟨_, m, h3, h4⟩
    · exact absurd h3.symm h2
    · rw [h3, h4.len]; rfl
theorem RanI.snoc : ∀ {l : List Stp} {D D1 D' : DS} {t : Stp} {k : Int}, RanI D l D1 → stR D1 t k D' → RanI D (l ++ [t]) D'
  | [], _, _, _, _, _, h, h' => by
    subst h
    exact ⟨_, _, h', rfl⟩
  | t :: l, _, _, _, _, _, h, h' => by
    obtain ⟨k1, D2, h1, h2⟩ := h
    exact ⟨k1, D2, h1, h2.snoc h'⟩
def szs (l : List Stp) : Nat := (l.map Stp.sz).sum
theorem DFit.ran : ∀ {l : List Stp} {D D' : DS} {L C B : Nat} {k : Int} {n : Nat}, DFit D L C B → Ran D l k n D' → DFit D' (L + l.length) (C + l.length) (B + szs l)
  | [], D, D', L, C, B, k, n, h, hr => by
    rw [hr.2.2]
    exact h.mono (Nat.le_add_right _ _) (Nat.le_add_right _ _) (Nat.le_add_right _ _)
  | t :: l, D, D', L, C, B, k, n, h, hr => by
    obtain ⟨k1, D1, h1, h2⟩ := hr
    have h3 := h.st h1
    have e1 : szs (t :: l) = t.sz + szs l := by simp [szs]
    rw [List.length_cons, e1]
    rcases h2 with ⟨_, _, _, rfl⟩ | ⟨_, m, _, h4⟩
    · exact h3.mono (by omega) (by omega) (by omega)
    · exact (h3.ran h4).mono (by omega) (by omega) (by omega)
theorem DFit.ranI : ∀ {l : List Stp} {D D' : DS} {L C B : Nat}, DFit D L C B → RanI D l D' → DFit D' (L + l.length) (C + l.length) (B + szs l)
  | [], D, D', L, C, B, h, hr => by
    rw [hr]
    exact h.mono (Nat.le_add_right _ _) (Nat.le_add_right _ _) (Nat.le_add_right _ _)
  | t :: l, D, D', L, C, B, h, hr => by
    obtain ⟨k1, D1, h1, h2⟩ := hr
    have e1 : szs (t :: l) = t.sz + szs l := by simp [szs]
    rw [List.length_cons, e1]
    exact ((h.st h1).ranI h2).mono (by omega) (by omega) (by omega)
theorem Bud.mono {L C B L' C' B' : Nat} (h : Bud L C B) (hL : L' ≤ L) (hC : C' ≤ C) (hB : B' ≤ B) : Bud L' C' B' := ⟨Nat.le_trans hL h.1, Nat.le_trans hC h.2.1, Nat.le_trans hB h.2.2⟩
/-- A block of another type than the disk's stays through its steps. -/
theorem PGo.keeps {s s' : PSt} {w w' : World} (hg : PGo s s' w w') (h : s.In w) {k : Nat} {cur : Array Value} {T : TypeId} {fr : Nat × Nat} (hk : w.heap[k]? = some (.cells cur T fr)) (h1 : T ≠ 105) (h2 : T ≠ 227) (h3 : T ≠ 159) (h4 : T ≠ 5) : w'.heap[k]? = some (.cells cur T fr) :=
  (hg.gr.block k (lt_heap hk) (h.notOwn hk h1 h2 h3 h4)).trans hk
end Go.Proofs.YteicpbcddjjceaaGreatDoor
