/-
  PROVED HERE: append onto a row that one owns leaves what the shorter slice shows as it was; no text of the program.
-/
import Derived.Test.YtjipdjkcdoajbaaGreatDoorGrLib
import Derived.ArgAppend
namespace Go.Proofs.YtjipdjkcdoajbaaGreatDoor
open Go.RowKit
theorem setCells_grown (g : Nat) : ∀ (vs : List Value) (o : Nat) (w : World), w.grownBy (w.setCells g o vs) (some g)
  | [], _, w => grownBy_refl w _
  | v :: vs, o, w => grownBy_trans (grownBy_set w g o v) (setCells_grown g vs (o + 1) _)
/-- Where the longer slice lies: in the row that was there, or in a new one. -/
def NewOr (w : World) (v v' : Value) : Prop := v'.ownBlock = v.ownBlock ∨ ∀ k, v'.ownBlock = some k → w.heap.size ≤ k
theorem wpList_append_keep {P : Program} (w : World) {ops : Array Oper} {rest : List Oper} {o : Oper} {a : Act} {Q : Exit → Act → World → Prop} (hgd : o.guard = none) (s x : Operand) (t : TypeId)
    (ho : o.op = .call { callee := .builtin .append, args := #[s, x], argTypes := #[t, t] })
    (base : Nat) (e : TypeId) (i : TypeInfo) (z : Value) (size bytes : Nat) (ht : P.underlying t = some (.slice e)) (hi : P.info? e = some i) (hz : i.zero = some z)
    (hsize : i.size = size) (hby : i.bytes = bytes) (hzs : z.cells.size = size) (hsz : 0 < size)
    (v : Value) (n : Nat) (xs : List Value) (hs : a.eval s = v) (hown : w.ownsRow base e size v n xs)
    (ad : Addr) (m c : Nat) (news : List Value) (hx : a.eval x = .slice (some ad) m c) (hl : news.length = m * size) (hnews : ∀ j u, news[j]? = some u → w.cell? (ad.add j) = some u) (h1 : ∀ u ∈ news, u.oneCell' = true)
    (h63 : n + m ≤ maxLen) (hbytes : (n + m) * bytes ≤ 140737488355328) (hbase : base ≤ w.heap.size)
    (h : ∀ v' w', w'.ownsRow base e size v' (n + m) (xs ++ news) → w.grownBy w' v.ownBlock → (∀ g j, v.ownBlock = some g → j < n * size → w'.cell? ⟨g, j, none⟩ = w.cell? ⟨g, j, none⟩) → NewOr w v v' → wpList P ops Q rest (a.put o.dst v') w') : wpList P ops Q (o :: rest) a w := by
  rcases hown.2 with ⟨rfl, rfl⟩ | ⟨g, cap, cur, rfl, hb, hg, hc, hm, hcs, htk⟩
  · have hxs : xs = [] := List.eq_nil_of_length_eq_zero (by simpa using hown.1)
    subst hxs
    refine wpList_append_own w hgd s x t ho w.heap.size e i z size bytes ht hi hz hsize hby hzs hsz (.slice none 0 0) 0 [] hs (World.ownsRow_nil _ _ _ _) ad m c news hx hl hnews h1 h63 hbytes (Nat.le_refl _) ?_
    intro v' w' h2 h3 _
    exact h v' w' (h2.mono_base hbase) h3 (fun g j hg => by simp [Value.ownBlock] at hg) (.inr fun k hk => (h2.lt k hk).1)
  · have hlx := hown.1
    have hcell : ∀ j u, xs[j]? = some u → w.cell? ⟨g, 0 + j, none⟩ = some u := by
      intro j u hu
      have hj := (List.getElem?_eq_some_iff.1 hu).1
      rw [cell_of_row w g (0 + j) _ _ _ hg, Nat.zero_add, ← hu, ← htk, List.getElem?_take, if_pos (by omega)]
      simp
    refine wpList_append_arg w hgd s x t ho e i z size bytes ht hi hz hsize hby hzs hsz g 0 n cap xs hs hown.1 hcell ad m c news hx hl hnews h1 ?_ h63 hbytes ?_ ?_
    · intro hr j hj
      have hlt : n * size + j < cur.size := by
        rw [hcs]
        have : (n + m) * size ≤ cap * size := Nat.mul_le_mul_right _ hr
        rw [Nat.add_mul] at this
        omega
      refine ⟨?_, frozen_of_row w g _ _ _ hg⟩
      rw [cell_of_row w g _ _ _ _ hg, Nat.zero_add, Array.getElem?_eq_getElem hlt]
      rfl
    · intro hr
      have hfit : n * size + news.length ≤ cur.size := by
        rw [hcs, hl]
        have : (n + m) * size ≤ cap * size := Nat.mul_le_mul_right _ hr
        rw [Nat.add_mul] at this
        omega
      obtain ⟨cur', e1, e2, e3, e4⟩ := setCells_row g e news (n * size) w cur hg hfit
      refine h _ _ ⟨?_, .inr ⟨g, cap, cur', rfl, hb, by rw [Nat.zero_add]; exact e1, hr, hm, by rw [e2, hcs], ?_⟩⟩ (setCells_grown g news _ w) ?_ (.inl rfl)
      · rw [List.length_append, hlx, hl, Nat.add_mul]
      · apply List.ext_getElem?
        intro j
        rw [List.getElem?_take]
        by_cases hj : j < n * size
        · rw [if_pos (by rw [Nat.add_mul]; omega), Array.getElem?_toList, e3 j hj, List.getElem?_append_left (by omega), ← htk, List.getElem?_take, if_pos hj, Array.getElem?_toList]
        · by_cases hj2 : j < (n + m) * size
          · rw [if_pos hj2, Array.getElem?_toList, List.getElem?_append_right (by omega)]
            have h5 := e4 (j - n * size) (by rw [hl]; rw [Nat.add_mul] at hj2; omega)
            rw [show n * size + (j - n * size) = j by omega] at h5
            rw [h5, hlx]
          · rw [if_neg hj2, List.getElem?_eq_none]
            rw [List.length_append, hlx, hl, ← Nat.add_mul]; omega
      · intro g2 j hg2 hj
        simp only [Value.ownBlock, Option.some.injEq] at hg2
        subst hg2
        rw [World.cell?_setCells_out]
        intro _ _
        left
        simpa using hj
    · intro hr v' w' h2 h3
      refine h v' w' (h2.mono_base hbase) ⟨h3.os, h3.tape, h3.output, h3.size, fun k hk _ => h3.block k hk (by simp)⟩ ?_ (.inr fun k hk => (h2.lt k hk).1)
      intro g2 j hg2 hj
      simp only [Value.ownBlock, Option.some.injEq] at hg2
      subst hg2
      exact World.cell?_of_block (h3.block g (lt_of_row hg) (by simp))
end Go.Proofs.YtjipdjkcdoajbaaGreatDoor
