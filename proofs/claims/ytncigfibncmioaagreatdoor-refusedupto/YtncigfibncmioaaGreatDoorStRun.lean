/-
  PROVED HERE: steps of a disk one behind the other, up to the first that is refused, or all of them; no walk.
-/
import Derived.Test.YtncigfibncmioaaGreatDoorDkPath
namespace Go.Proofs.YtncigfibncmioaaGreatDoor
open Go.RowKit
structure Stp where
  k : Nat
  p : ByteArray
  q : ByteArray
def sAp (p q : ByteArray) : Stp := ⟨0, p, q⟩
def sSy (p : ByteArray) : Stp := ⟨1, p, ⟨#[]⟩⟩
def sRm (p : ByteArray) : Stp := ⟨2, p, ⟨#[]⟩⟩
def sRn (p q : ByteArray) : Stp := ⟨3, p, q⟩
def sSd : Stp := ⟨4, ⟨#[]⟩, ⟨#[]⟩⟩
def stR (D : DS) (t : Stp) (k : Int) (D' : DS) : Prop :=
  match t.k with
  | 0 => ∃ f, f ∉ D.fs ∧ (k, D') = apD D t.p t.q f
  | 1 => (k, D') = syD D t.p
  | 2 => (k, D') = rmD D t.p
  | 3 => (k, D') = rnD D t.p t.q
  | _ => (k, D') = sdD D
def Stp.sz (t : Stp) : Nat := if t.k = 0 then t.q.size else 0
theorem DFit.st {D D' : DS} {L C B : Nat} {t : Stp} {k : Int} (h : DFit D L C B) (hs : stR D t k D') : DFit D' (L + 1) (C + 1) (B + t.sz) := by
  obtain ⟨tk, p, q⟩ := t
  unfold stR at hs
  unfold Stp.sz
  match tk with
  | 0 =>
    obtain ⟨f, _, he⟩ := hs
    exact h.ap he
  | 1 => exact (h.sy hs).mono (Nat.le_succ _) (Nat.le_refl _) (Nat.le_add_right _ _)
  | 2 => exact (h.rm hs).mono (Nat.le_refl _) (Nat.le_refl _) (Nat.le_add_right _ _)
  | 3 => exact (h.rn hs).mono (Nat.le_refl _) (Nat.le_refl _) (Nat.le_add_right _ _)
  | n + 4 => exact (h.sd hs).mono (Nat.le_succ _) (Nat.le_refl _) (Nat.le_add_right _ _)
def Ran : DS → List Stp → Int → Nat → DS → Prop
  | D, [], k, n, D' => k = 0 ∧ n = 0 ∧ D' = D
  | D, t :: l, k, n, D' => ∃ k1 D1, stR D t k1 D1 ∧ ((k1 ≠ 0 ∧ k = k1 ∧ n = 0 ∧ D' = D1) ∨ (k1 = 0 ∧ ∃ m, n = m + 1 ∧ Ran D1 l k m D'))
def RanI : DS → List Stp → DS → Prop
  | D, [], D' => D' = D
  | D, t :: l, D' => ∃ k1 D1, stR D t k1 D1 ∧ RanI D1 l D'
theorem Ran.stop : ∀ {l : List Stp} {D D' : DS} {k : Int} {n : Nat} (l' : List Stp), Ran D l k n D' → k ≠ 0 → Ran D (l ++ l') k n D'
  | [], _, _, _, _, _, h, hk => absurd h.1 hk
  | t :: l, D, D', k, n, l', h, hk => by
    obtain ⟨k1, D1, h1, h2⟩ := h
    refine ⟨k1, D1, h1, ?_⟩
    rcases h2 with h2 | ⟨h2, m, h3, h4⟩
    · exact .inl h2
    · exact .inr ⟨h2, m, h3, h4.stop l' hk⟩
theorem Ran.app : ∀ {l l' : List Stp} {D D1 D' : DS} {k : Int} {n m : Nat}, Ran D l 0 n D1 → Ran D1 l' k m D' → Ran D (l ++ l') k (n + m) D'
  | [], l', D, D1, D', k, n, m, h, h' => by
    obtain ⟨_, rfl, rfl⟩ := h
    rw [Nat.zero_add]
    exact h'
  | t :: l, l', D, D1, D', k, n, m, h, h' => by
    obtain ⟨k1, D2, h1, h2⟩ := h
    rcases h2 with ⟨h2, h3, _⟩ | ⟨h2, j, h3, h4⟩
    · exact absurd h3.symm h2
    · exact ⟨k1, D2, h1, .inr ⟨h2, j + m, by omega, h4.app h'⟩⟩
theorem Ran.one {D D' : DS} {t : Stp} {k : Int} (h : stR D t k D') : Ran D [t] k (if k = 0 then 1 else 0) D' := by
  refine ⟨k, D', h, ?_⟩
  by_cases hk : k = 0
  · rw [if_pos hk]
    exact .inr ⟨hk, 0, rfl, hk, rfl, rfl⟩
  · rw [if_neg hk]
    exact .inl ⟨hk, rfl, rfl, rfl⟩
theorem Ran.len : ∀ {l : List Stp} {D D' : DS} {n : Nat}, Ran D l 0 n D' → n = l.length
  | [], _, _, _, h => h.2.1
  | t :: l, D, D', n, h => by
    obtain ⟨k1, D1, h1, h2⟩ := h
    rcases h2 with ⟨h2, h3, _⟩ | ⟨_, m, h3, h4⟩
    · exact absurd h3.symm h2
    · rw [h3, h4.len]; rfl
theorem RanI.snoc : ∀ {l : List Stp} {D D1 D' : DS} {t : Stp} {k : Int}, RanI D l D1 → stR D1 t k D' → RanI D (l ++ [t]) D'
  | [], _, _, _, _, _, h, h' => by
    subst h
    exact ⟨_, _, h', rfl⟩
  | t :: l, _, _, _, _, _, h, h' => by
    obtain ⟨k1, D2, h1, h2⟩ := h
    exact ⟨k1, D2, h1, h2.snoc h'⟩
def szs (l : List Stp) : Nat := (l.map Stp.sz).sum
theorem DFit.ran : ∀ {l : List Stp} {D D' : DS} {L C B : Nat} {k : Int} {n : Nat}, DFit D L C B → Ran D l k n D' → DFit D' (L + l.length) (C + l.length) (B + szs l)
  | [], D, D', L, C, B, k, n, h, hr => by
    rw [hr.2.2]
    exact h.mono (Nat.le_add_right _ _) (Nat.le_add_right _ _) (Nat.le_add_right _ _)
  | t :: l, D, D', L, C, B, k, n, h, hr => by
    obtain ⟨k1, D1, h1, h2⟩ := hr
    have h3 := h.st h1
    have e1 : szs (t :: l) = t.sz + szs l := by simp [szs]
    rw [List.length_cons, e1]
    rcases h2 with ⟨_, _, _, rfl⟩ | ⟨_, m, _, h4⟩
    · exact h3.mono (by omega) (by omega) (by omega)
    · exact (h3.ran h4).mono (by omega) (by omega) (by omega)
theorem DFit.ranI : ∀ {l : List Stp} {D D' : DS} {L C B : Nat}, DFit D L C B → RanI D l D' → DFit D' (L + l.length) (C + l.length) (B + szs l)
  | [], D, D', L, C, B, h, hr => by
    rw [hr]
    exact h.mono (Nat.le_add_right _ _) (Nat.le_add_right _ _) (Nat.le_add_right _ _)
  | t :: l, D, D', L, C, B, h, hr => by
    obtain ⟨k1, D1, h1, h2⟩ := hr
    have e1 : szs (t :: l) = t.sz + szs l := by simp [szs]
    rw [List.length_cons, e1]
    exact ((h.st h1).ranI h2).mono (by omega) (by omega) (by omega)
theorem Bud.mono {L C B L' C' B' : Nat} (h : Bud L C B) (hL : L' ≤ L) (hC : C' ≤ C) (hB : B' ≤ B) : Bud L' C' B' := ⟨Nat.le_trans hL h.1, Nat.le_trans hC h.2.1, Nat.le_trans hB h.2.2⟩
theorem PGo.keeps {s s' : PSt} {w w' : World} (hg : PGo s s' w w') (h : s.In w) {k : Nat} {cur : Array Value} {T : TypeId} {fr : Nat × Nat} (hk : w.heap[k]? = some (.cells cur T fr)) (h1 : T ≠ 150) (h2 : T ≠ 214) (h3 : T ≠ 154) (h4 : T ≠ 5) : w'.heap[k]? = some (.cells cur T fr) :=
  (hg.gr.block k (lt_heap hk) (h.notOwn hk h1 h2 h3 h4)).trans hk
end Go.Proofs.YtncigfibncmioaaGreatDoor
