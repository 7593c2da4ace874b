/-
  PROVED HERE: what the law's own function markT does: a list is written full of a mark, and made longer, one by one; the books hold what they held, and four more.
-/
import Derived.Test.YtpgamoielkpakaaKeepApp
import Derived.Deep.RegionLaw
import Derived.Deep.AppendLies
import Derived.Test.YtpgamoielkpakaaObject
import Derived.Deep.RegionHeld3
import Derived.Deep.CutRange
namespace Go.Proofs.Ytpgamoielkpakaa
open Go.RowKit
def markCells (N : Int) : List Value := [.string ⟨#[]⟩, .string ⟨#[]⟩, .int .i64 (-N)]
def marks (N : Int) (n : Nat) : List Value := (List.replicate n (markCells N)).flatten
theorem marks_succ (N : Int) (n : Nat) : marks N (n + 1) = marks N n ++ markCells N := by
  unfold marks; rw [List.replicate_succ', List.flatten_append]; simp
theorem marks_len (N : Int) (n : Nat) : (marks N n).length = n * 3 := by
  induction n with
  | zero => rfl
  | succ n ih => rw [marks_succ, List.length_append, ih]; simp [markCells]; omega
/-- A book: the list, its mark, its length. -/
structure BookE where
  tv : Value
  N : Int
  n : Nat
def BookE.cells (b : BookE) : List Value := [.int .i64 1, .int .i64 b.N, b.tv, .slice none 0 0, .slice none 0 0]
def Marked (w : World) (tv : Value) (N : Int) (n : Nat) : Prop :=
  (tv = .slice none 0 0 ∧ n = 0) ∨ ∃ g c, tv = .slice (some ⟨g, 0, none⟩) n c ∧ g < w.heap.size ∧ ∀ j, j < n → w.rangeAt g (j * 3) (markCells N)
def booksCells (N came : Int) (kt wt av : Value) : Array Value := #[.int .i64 N, .int .i64 came, .bool false, kt, wt, .slice none 0 0, .slice none 0 0, .slice none 0 0, .slice none 0 0, av]
structure Bks (w : World) (bb : Nat) (N came : Int) (kt wt av : Value) (bs : List BookE) : Prop where
  blk : w.heap[bb]? = some (.cells (booksCells N came kt wt av) 32 (0, 0))
  all : w.ownsRow 0 59 5 av bs.length (bs.flatMap BookE.cells)
  mkd : ∀ e ∈ bs, Marked w e.tv e.N e.n ∧ e.n ≤ 20 ∧ 0 ≤ e.N ∧ e.N ≤ 20 ∧ e.tv.ownBlock ≠ some bb ∧ ∀ k, e.tv.ownBlock = some k → av.ownBlock ≠ some k
  anb : av.ownBlock ≠ some bb
theorem Marked.same {w w' : World} {tv : Value} {N : Int} {n : Nat} (h : Marked w tv N n) (hs : w.heap.size ≤ w'.heap.size) (hb : ∀ k, tv.ownBlock = some k → k < w.heap.size → w'.heap[k]? = w.heap[k]?) : Marked w' tv N n := by
  rcases h with h | ⟨g, c, rfl, hg, hm⟩
  · exact .inl h
  · refine .inr ⟨g, c, rfl, by omega, fun j hj i u hu => ?_⟩
    have h1 := hm j hj i u hu
    exact (World.cell?_of_block (a := ⟨g, j * 3 + i, none⟩) (hb g rfl hg)).trans h1
theorem own_same {w w' : World} {base : Nat} {e : TypeId} {size : Nat} {v : Value} {n : Nat} {xs : List Value} (h : w.ownsRow base e size v n xs) (hb : ∀ k, v.ownBlock = some k → k < w.heap.size → w'.heap[k]? = w.heap[k]?) : w'.ownsRow base e size v n xs := by
  refine ⟨h.1, h.2.imp id ?_⟩
  rintro ⟨g, cap, cur, rfl, e2, e3, e4⟩
  exact ⟨g, cap, cur, rfl, e2, (hb g rfl (lt_of_row e3)).trans e3, e4⟩
/-- The books stay where their blocks do. -/
theorem Bks.same {w w' : World} {bb : Nat} {N came : Int} {kt wt av : Value} {bs : List BookE} (h : Bks w bb N came kt wt av bs) (hs : w.heap.size ≤ w'.heap.size) (h0 : w'.heap[bb]? = w.heap[bb]?)
    (ha : ∀ k, av.ownBlock = some k → k < w.heap.size → w'.heap[k]? = w.heap[k]?) (ht : ∀ e ∈ bs, ∀ k, e.tv.ownBlock = some k → k < w.heap.size → w'.heap[k]? = w.heap[k]?) : Bks w' bb N came kt wt av bs :=
  ⟨h0.trans h.blk, own_same h.all ha, fun e he => by obtain ⟨h1, h2⟩ := h.mkd e he; exact ⟨h1.same hs (ht e he), h2⟩, h.anb⟩
theorem Bks.later {w w' : World} {bb : Nat} {N came : Int} {kt wt av : Value} {bs : List BookE} (h : Bks w bb N came kt wt av bs) (hb : Below w.heap.size w w') : Bks w' bb N came kt wt av bs :=
  h.same hb.size (hb.block _ (lt_of_row h.blk)) (fun k _ hk => hb.block k hk) (fun _ _ k _ hk => hb.block k hk)
theorem Try.infoBook : (Try.prog.info? 59).map (fun i => (i.zero, i.size, i.bytes)) = some (some (.agg #[.int .i64 0, .int .i64 0, .slice none 0 0, .slice none 0 0, .slice none 0 0]), 5, 88) := by kernel_rfl
/-- What markT's frame holds behind k elements. -/
structure MF (w wr : World) (bb : Nat) (N came : Int) (kt wt av lv : Value) (bs : List BookE) (n : Nat) (xs : List Value) (k : Nat) : Prop where
  bk : Bks wr bb N came kt wt av bs
  mb : wr.heap[w.heap.size]? = some (.cells #[.string ⟨#[]⟩, .string ⟨#[]⟩, .int .i64 (-N)] 55 (0, 0))
  lst : wr.ownsRow 0 55 3 lv n (marks N k ++ xs.drop (k * 3))
  gr : Gr (fun k => k = bb ∨ lv.ownBlock = some k ∨ av.ownBlock = some k) w wr
theorem marks_drop {N : Int} {n k : Nat} {xs : List Value} (hx : xs.length = n * 3) (hk : k < n) : (marks N k ++ xs.drop (k * 3)).length = n * 3 := by
  rw [List.length_append, marks_len, List.length_drop, hx]; omega
/-- A mark is written over an element. -/
theorem own_mark {w : World} {base g cap n k : Nat} {N : Int} {xs : List Value} (h : w.ownsRow base 55 3 (.slice (some ⟨g, 0, none⟩) n cap) n (marks N k ++ xs.drop (k * 3))) (hx : xs.length = n * 3) (hk : k < n) :
    (((w.setCell ⟨g, k * 3, none⟩ (.string ⟨#[]⟩)).setCell ⟨g, k * 3 + 1, none⟩ (.string ⟨#[]⟩)).setCell ⟨g, k * 3 + 2, none⟩ (.int .i64 (-N))).ownsRow base 55 3 (.slice (some ⟨g, 0, none⟩) n cap) n (marks N (k + 1) ++ xs.drop ((k + 1) * 3)) := by
  refine ⟨?_, ?_⟩
  · rw [List.length_append, marks_len, List.length_drop, hx]; omega
  · rcases h.2 with ⟨e, -⟩ | ⟨g2, cap2, cur, e, hb, hg, hc, hm, hcs, htk⟩
    · cases e
    · injection e with e1 e2 e3
      injection e1 with e1
      injection e1 with e1
      subst e1 e3
      obtain ⟨cur', f1, f2, f3, f4⟩ := setCells_row g 55 (markCells N) (k * 3) w cur hg (by rw [hcs]; simp only [markCells, List.length_cons, List.length_nil]; omega)
      refine .inr ⟨g, cap, cur', rfl, hb, f1, hc, hm, by rw [f2, hcs], ?_⟩
      have hlo : ∀ j, k * 3 + 3 ≤ j → cur'[j]? = cur[j]? := by
        intro j hj
        have hc2 : (w.setCells g (k * 3) (markCells N)).cell? ⟨g, j, none⟩ = w.cell? ⟨g, j, none⟩ := World.cell?_setCells_out g _ _ _ _ (fun _ _ => .inr (by simpa [markCells] using hj))
        rw [cell_of_row _ _ _ _ _ _ f1, cell_of_row _ _ _ _ _ _ hg] at hc2
        exact hc2
      apply List.ext_getElem?
      intro j
      have hold : ∀ j, j < n * 3 → cur[j]? = (marks N k ++ xs.drop (k * 3))[j]? := by
        intro j hj
        rw [← htk, List.getElem?_take, if_pos hj]; simp
      rw [List.getElem?_take]
      by_cases hj : j < n * 3
      · rw [if_pos hj, Array.getElem?_toList]
        by_cases h1 : j < k * 3
        · rw [f3 j h1, hold j hj, List.getElem?_append_left (by rw [marks_len]; exact h1), List.getElem?_append_left (by rw [marks_len]; omega), marks_succ, List.getElem?_append_left (by rw [marks_len]; exact h1)]
        · by_cases h2 : j < k * 3 + 3
          · have h5 := f4 (j - k * 3) (by simp only [markCells, List.length_cons, List.length_nil]; omega)
            rw [show k * 3 + (j - k * 3) = j by omega] at h5
            rw [h5, List.getElem?_append_left (by rw [marks_len]; omega), marks_succ, List.getElem?_append_right (by rw [marks_len]; omega), marks_len]
          · rw [hlo j (by omega), hold j hj, List.getElem?_append_right (by rw [marks_len]; omega), List.getElem?_append_right (by rw [marks_len]; omega), marks_len, marks_len, List.getElem?_drop, List.getElem?_drop]
            congr 1; omega
      · rw [if_neg hj, List.getElem?_eq_none]
        rw [List.length_append, marks_len, List.length_drop, hx]; omega
/-- What markT's frame holds while the list grows: p elements, the list's value now, the books' value now, the books that came to it. -/
structure MG (w wr : World) (bb : Nat) (N came : Int) (kt wt av lv : Value) (bs : List BookE) (p : Nat) (lc ac : Value) (bk : List BookE) : Prop where
  bks : Bks wr bb N came kt wt ac (bs ++ bk)
  mb : wr.heap[w.heap.size]? = some (.cells #[.string ⟨#[]⟩, .string ⟨#[]⟩, .int .i64 (-N)] 55 (0, 0))
  lst : wr.ownsRow 0 55 3 lc p (marks N p)
  na : NewOr w av ac
  nl : NewOr w lv lc
  each : ∀ e ∈ bk, NewOr w lv e.tv ∧ e.N = N ∧ e.n ≤ p
  l1 : lc.ownBlock ≠ some bb
  l2 : ∀ q, lc.ownBlock = some q → ac.ownBlock ≠ some q ∧ q ≠ w.heap.size
  l3 : ∀ e ∈ bs, ∀ q, lc.ownBlock = some q → e.tv.ownBlock ≠ some q
  a1 : ac.ownBlock ≠ some w.heap.size
  gr : Gr (fun k => k = bb ∨ lv.ownBlock = some k ∨ av.ownBlock = some k) w wr
theorem Marked.lt {w : World} {tv : Value} {N : Int} {n : Nat} (h : Marked w tv N n) : ∀ k, tv.ownBlock = some k → k < w.heap.size := by
  intro k hk
  rcases h with ⟨rfl, -⟩ | ⟨g, c, rfl, hg, -⟩
  · simp [Value.ownBlock] at hk
  · simp only [Value.ownBlock, Option.some.injEq] at hk; omega
theorem marks_at (N : Int) : ∀ (p j i : Nat), j < p → i < 3 → (marks N p)[j * 3 + i]? = (markCells N)[i]?
  | 0, j, i, h, _ => by omega
  | p + 1, j, i, h, hi => by
    rw [marks_succ]
    by_cases hj : j < p
    · rw [List.getElem?_append_left (by rw [marks_len]; omega)]
      exact marks_at N p j i hj hi
    · have : j = p := by omega
      subst this
      rw [List.getElem?_append_right (by rw [marks_len]; omega), marks_len]
      congr 1; omega
theorem marked_own {w : World} {base p : Nat} {N : Int} {lc : Value} (h : w.ownsRow base 55 3 lc p (marks N p)) : Marked w lc N p := by
  rcases h.2 with ⟨rfl, rfl⟩ | ⟨g, cap, cur, rfl, hb, hg, hc, hm, hcs, htk⟩
  · exact .inl ⟨rfl, rfl⟩
  · refine .inr ⟨g, cap, rfl, lt_of_row hg, fun j hj i u hu => ?_⟩
    have hi : i < 3 := by have := (List.getElem?_eq_some_iff.1 hu).1; simpa [markCells] using this
    rw [cell_of_row w g (j * 3 + i) _ _ _ hg, ← hu, ← marks_at N p j i hj hi, ← htk, List.getElem?_take, if_pos (by omega)]
    simp
/-- A set that is left alone. -/
theorem gr_trans {S : Nat → Prop} {w wr w' : World} (h : Gr S w wr) (h2 : Gr S w wr → wr.heap.size ≤ w'.heap.size ∧ w'.os = wr.os ∧ w'.tape = wr.tape ∧ w'.output = wr.output) (hb : ∀ k, k < w.heap.size → ¬ S k → w'.heap[k]? = wr.heap[k]?) : Gr S w w' := by
  obtain ⟨h3, h4, h5, h6⟩ := h2 h
  exact ⟨h4.trans h.os, h5.trans h.tape, h6.trans h.output, Nat.le_trans h.size h3, fun k hk hs => (hb k hk hs).trans (h.block k hk hs)⟩
theorem newOr_not {w : World} {v v' : Value} (h : NewOr w v v') {k : Nat} (hk : k < w.heap.size) (hv : v.ownBlock ≠ some k) : v'.ownBlock ≠ some k := by
  intro e
  rcases h with h | h
  · rw [h] at e; exact hv e
  · have := h k e; omega
/-- The list has come to the books. -/
theorem MG.book {w wr w3 w4 : World} {bb p q cap m : Nat} {N came : Int} {kt wt av lv lc ac : Value} {bs bk : List BookE} (h : MG w wr bb N came kt wt av lv bs p lc ac bk) (hN : 0 ≤ N ∧ N ≤ 20) (hp : p ≤ 20) (hbl : bb < w.heap.size) (hm : m = (bs ++ bk).length)
    (h3 : Below wr.heap.size wr w3) (hg : w3.grownBy w4 ac.ownBlock) (ho : w4.ownsRow 0 59 5 (.slice (some ⟨q, 0, none⟩) (m + 1) cap) (m + 1) ((bs ++ bk).flatMap BookE.cells ++ BookE.cells ⟨lc, N, p⟩))
    (hq : ac.ownBlock = some q ∨ wr.heap.size ≤ q) : MG w (w4.setCell ⟨bb, 9, none⟩ (.slice (some ⟨q, 0, none⟩) (m + 1) cap)) bb N came kt wt av lv bs p lc (.slice (some ⟨q, 0, none⟩) (m + 1) cap) (bk ++ [⟨lc, N, p⟩]) := by
  have hsz : wr.heap.size ≤ w4.heap.size := Nat.le_trans h3.size hg.size
  have hwr : w.heap.size < wr.heap.size := lt_of_row h.mb
  have hset : ∀ k, k ≠ bb → (w4.setCell ⟨bb, 9, none⟩ (.slice (some ⟨q, 0, none⟩) (m + 1) cap)).heap[k]? = w4.heap[k]? := fun k hk => heap_setCell_other _ _ _ _ (by simpa using hk)
  have hold : ∀ k, k < wr.heap.size → ac.ownBlock ≠ some k → w4.heap[k]? = wr.heap[k]? := fun k hk hne => (hg.block k (Nat.lt_of_lt_of_le hk h3.size) (fun e => hne e.symm)).trans (h3.block k hk)
  have hqlt : q < w4.heap.size := (ho.lt q rfl).2
  have hqb : q ≠ bb := by
    intro e
    rcases hq with hq | hq
    · rw [e] at hq; exact h.bks.anb hq
    · omega
  have hqk : ∀ k, k < wr.heap.size → ac.ownBlock ≠ some k → q ≠ k := by
    intro k hk hne e
    rcases hq with hq | hq
    · rw [e] at hq; exact hne hq
    · omega
  have hllt : ∀ k, lc.ownBlock = some k → k < wr.heap.size := fun k hk => (h.lst.lt k hk).2
  refine ⟨⟨?_, ?_, ?_, ?_⟩, ?_, ?_, ?_, h.nl, ?_, h.l1, ?_, h.l3, ?_, ?_⟩
  · have hb4 := (hold bb (by omega) h.bks.anb).trans h.bks.blk
    rw [heap_setCell_same _ bb 9 _ _ _ hb4]
    rfl
  · have e1 : (bs ++ (bk ++ [(⟨lc, N, p⟩ : BookE)])).length = m + 1 := by rw [hm]; simp; omega
    have e2 : (bs ++ (bk ++ [(⟨lc, N, p⟩ : BookE)])).flatMap BookE.cells = (bs ++ bk).flatMap BookE.cells ++ BookE.cells ⟨lc, N, p⟩ := by simp
    rw [e1, e2]
    exact own_same ho (fun k hk _ => hset k (by simp only [Value.ownBlock, Option.some.injEq] at hk; omega))
  · intro e he
    have hnew : e ∈ bs ++ bk ∨ e = ⟨lc, N, p⟩ := by
      simp only [List.mem_append, List.mem_singleton] at he ⊢
      rcases he with h1 | h1 | h1
      · exact .inl (.inl h1)
      · exact .inl (.inr h1)
      · exact .inr h1
    rcases hnew with he | rfl
    · obtain ⟨m1, m2, m3, m3', m4, m5⟩ := h.bks.mkd e he
      have hlt := m1.lt
      refine ⟨m1.same (by simpa using hsz) (fun k hk hk2 => (hset k (fun e2 => m4 (by rw [← e2]; exact hk))).trans (hold k hk2 (m5 k hk))), m2, m3, m3', m4, fun k hk e2 => ?_⟩
      simp only [Value.ownBlock, Option.some.injEq] at e2
      exact hqk k (hlt k hk) (m5 k hk) e2
    · have m1 := marked_own h.lst
      refine ⟨m1.same (by simpa using hsz) (fun k hk hk2 => (hset k (fun e2 => h.l1 (by rw [← e2]; exact hk))).trans (hold k hk2 (h.l2 k hk).1)), hp, hN.1, hN.2, h.l1, fun k hk e2 => ?_⟩
      simp only [Value.ownBlock, Option.some.injEq] at e2
      exact hqk k (hllt k hk) (h.l2 k hk).1 e2
  · simp only [Value.ownBlock, ne_eq, Option.some.injEq]; exact hqb
  · exact (hset _ (by omega)).trans ((hold _ hwr h.a1).trans h.mb)
  · exact own_same h.lst (fun k hk hk2 => (hset k (fun e2 => h.l1 (by rw [← e2]; exact hk))).trans (hold k hk2 (h.l2 k hk).1))
  · rcases hq with hq | hq
    · rcases h.na with h1 | h1
      · exact .inl (by rw [← h1, hq]; rfl)
      · exact .inr fun k hk => h1 k (by rw [hq]; exact hk)
    · exact .inr fun k hk => by simp only [Value.ownBlock, Option.some.injEq] at hk; omega
  · intro e he
    simp only [List.mem_append, List.mem_singleton] at he
    rcases he with he | rfl
    · exact h.each e he
    · exact ⟨h.nl, rfl, Nat.le_refl _⟩
  · intro k hk
    refine ⟨fun e2 => ?_, (h.l2 k hk).2⟩
    simp only [Value.ownBlock, Option.some.injEq] at e2
    exact hqk k (hllt k hk) (h.l2 k hk).1 e2
  · simp only [Value.ownBlock, ne_eq, Option.some.injEq]
    exact hqk _ hwr h.a1
  · refine gr_trans h.gr (fun _ => ⟨by simpa using hsz, (hg.os.trans h3.os), (hg.tape.trans h3.tape), (hg.output.trans h3.output)⟩) (fun k hk hs => ?_)
    refine (hset k (fun e2 => hs (.inl e2))).trans (hold k (by omega) ?_)
    exact newOr_not h.na hk (fun e2 => hs (.inr (.inr e2)))
/-- The list is longer by one mark. -/
theorem MG.grow {w wr X w' : World} {bb p : Nat} {N came : Int} {kt wt av lv lc ac lc' : Value} {bs bk : List BookE} (h : MG w wr bb N came kt wt av lv bs p lc ac bk)
    (h3 : Below wr.heap.size wr X) (ho : w'.ownsRow 0 55 3 lc' (p + 1) (marks N p ++ markCells N)) (hg : X.grownBy w' lc.ownBlock) (hk : ∀ g j, lc.ownBlock = some g → j < p * 3 → w'.cell? ⟨g, j, none⟩ = X.cell? ⟨g, j, none⟩) (hn : NewOr X lc lc') :
    MG w w' bb N came kt wt av lv bs (p + 1) lc' ac bk := by
  have hsz : wr.heap.size ≤ w'.heap.size := Nat.le_trans h3.size hg.size
  have hwr : w.heap.size < wr.heap.size := lt_of_row h.mb
  have hold : ∀ k, k < wr.heap.size → lc.ownBlock ≠ some k → w'.heap[k]? = wr.heap[k]? := fun k hk2 hne => (hg.block k (Nat.lt_of_lt_of_le hk2 h3.size) (fun e => hne e.symm)).trans (h3.block k hk2)
  have hbb := lt_of_row h.bks.blk
  have hn' : ∀ k, k < wr.heap.size → lc.ownBlock ≠ some k → lc'.ownBlock ≠ some k := fun k hk2 hne => newOr_not hn (Nat.lt_of_lt_of_le hk2 h3.size) hne
  have halt : ∀ k, ac.ownBlock = some k → k < wr.heap.size := fun k hk2 => (h.bks.all.lt k hk2).2
  refine ⟨⟨(hold bb hbb h.l1).trans h.bks.blk, own_same h.bks.all (fun k hk2 hk3 => hold k hk3 (fun e => (h.l2 k e).1 hk2)), ?_, h.bks.anb⟩, ?_, ?_, h.na, ?_, ?_, hn' bb hbb h.l1, ?_, ?_, h.a1, ?_⟩
  · intro e he
    obtain ⟨m1, m2, m3, m3', m4, m5⟩ := h.bks.mkd e he
    refine ⟨?_, m2, m3, m3', m4, m5⟩
    by_cases hs : ∃ q, lc.ownBlock = some q ∧ e.tv.ownBlock = some q
    · obtain ⟨q, hq1, hq2⟩ := hs
      have heb : e ∈ bk := by
        rcases List.mem_append.1 he with h1 | h1
        · exact absurd hq2 (h.l3 e h1 q hq1)
        · exact h1
      have hep := (h.each e heb).2.2
      rcases m1 with m1 | ⟨g, c, htv, hg1, hmm⟩
      · exact .inl m1
      · refine .inr ⟨g, c, htv, by omega, fun j hj i u hu => ?_⟩
        rw [htv] at hq2
        simp only [Value.ownBlock, Option.some.injEq] at hq2
        subst hq2
        have hi : i < 3 := by have := (List.getElem?_eq_some_iff.1 hu).1; simpa [markCells] using this
        rw [hk g (j * 3 + i) hq1 (by omega)]
        exact (World.cell?_of_block (a := ⟨g, j * 3 + i, none⟩) (h3.block g hg1)).trans (hmm j hj i u hu)
    · exact m1.same hsz (fun k hk2 hk3 => hold k hk3 (fun e2 => hs ⟨k, e2, hk2⟩))
  · exact (hold _ hwr (fun e => (h.l2 _ e).2 rfl)).trans h.mb
  · rw [marks_succ]; exact ho
  · rcases hn with h1 | h1
    · rcases h.nl with h2 | h2
      · exact .inl (h1.trans h2)
      · exact .inr fun k hk2 => h2 k (by rw [← h1]; exact hk2)
    · exact .inr fun k hk2 => by have := h1 k hk2; have := h3.size; omega
  · intro e he
    obtain ⟨e1, e2, e3⟩ := h.each e he
    exact ⟨e1, e2, by omega⟩
  · intro q hq
    refine ⟨fun e => ?_, fun e => ?_⟩
    · exact hn' q (halt q e) (fun e2 => (h.l2 q e2).1 e) hq
    · subst e
      exact hn' _ hwr (fun e2 => (h.l2 _ e2).2 rfl) hq
  · intro e he q hq e2
    have hlt := (h.bks.mkd e (List.mem_append_left _ he)).1.lt q e2
    exact hn' q hlt (fun e3 => h.l3 e he q e3 e2) hq
  · refine gr_trans h.gr (fun _ => ⟨hsz, (hg.os.trans h3.os), (hg.tape.trans h3.tape), (hg.output.trans h3.output)⟩) (fun k hk2 hs => ?_)
    refine hold k (by omega) ?_
    exact newOr_not h.nl hk2 (fun e2 => hs (.inr (.inl e2)))
theorem Bks.setN {w : World} {bb : Nat} {N came : Int} {kt wt av : Value} {bs : List BookE} (h : Bks w bb N came kt wt av bs) (N' : Int) : Bks (w.setCell ⟨bb, 0, none⟩ (.int .i64 N')) bb N' came kt wt av bs := by
  have hset : ∀ k, k ≠ bb → (w.setCell ⟨bb, 0, none⟩ (.int .i64 N')).heap[k]? = w.heap[k]? := fun k hk => heap_setCell_other _ _ _ _ (by simpa using hk)
  refine ⟨?_, own_same h.all (fun k hk _ => hset k (fun e => h.anb (by rw [← e]; exact hk))), ?_, h.anb⟩
  · rw [heap_setCell_same _ bb 0 _ _ _ h.blk]; rfl
  · intro e he
    obtain ⟨m1, m2, m3, m3', m4, m5⟩ := h.mkd e he
    exact ⟨m1.same (by simp) (fun k hk _ => hset k (fun e2 => m4 (by rw [← e2]; exact hk))), m2, m3, m3', m4, m5⟩
section
variable {w : World} {bb n : Nat} {N came : Int} {kt wt av lv : Value} {bs : List BookE} {xs : List Value}
theorem MF.start (h : Bks w bb N came kt wt av bs) (hl : w.ownsRow 0 55 3 lv n xs) (d1 : lv.ownBlock ≠ some bb) :
    MF w ((w.setCell ⟨bb, 0, none⟩ (.int .i64 (N + 1))).alloc (.cells #[.string ⟨#[]⟩, .string ⟨#[]⟩, .int .i64 (-(N + 1))] 55)) bb (N + 1) came kt wt av lv bs n xs 0 := by
  have hsz : (w.setCell ⟨bb, 0, none⟩ (.int .i64 (N + 1))).heap.size = w.heap.size := by simp
  have hB : Below (w.setCell ⟨bb, 0, none⟩ (.int .i64 (N + 1))).heap.size (w.setCell ⟨bb, 0, none⟩ (.int .i64 (N + 1))) ((w.setCell ⟨bb, 0, none⟩ (.int .i64 (N + 1))).alloc (.cells #[.string ⟨#[]⟩, .string ⟨#[]⟩, .int .i64 (-(N + 1))] 55)) := (Below.refl _ _).alloc (Nat.le_refl _) _
  have hset : ∀ k, k ≠ bb → (w.setCell ⟨bb, 0, none⟩ (.int .i64 (N + 1))).heap[k]? = w.heap[k]? := fun k hk => heap_setCell_other _ _ _ _ (by simpa using hk)
  refine ⟨(h.setN (N + 1)).later hB, ?_, ?_, ?_⟩
  · rw [← hsz]; exact heap_alloc_new _ _
  · have e0 : marks (N + 1) 0 ++ xs.drop (0 * 3) = xs := by simp [marks]
    rw [e0]
    exact ownsRow_later (own_same hl (fun k hk _ => hset k (fun e => d1 (by rw [← e]; exact hk)))) hB
  · refine ⟨rfl, rfl, rfl, by rw [← hsz]; exact hB.size, fun k hk hs => ?_⟩
    exact (hB.block k (by rw [hsz]; exact hk)).trans (hset k (fun e => hs (.inl e)))
theorem MF.step {wr : World} {g cap k : Nat} (h : MF w wr bb N came kt wt av (.slice (some ⟨g, 0, none⟩) n cap) bs n xs k) (hx : xs.length = n * 3) (hk : k < n) (hg : g < w.heap.size) (d1 : g ≠ bb) (d2 : av.ownBlock ≠ some g) (d3 : ∀ e ∈ bs, e.tv.ownBlock ≠ some g) :
    MF w (((wr.setCell ⟨g, k * 3, none⟩ (.string ⟨#[]⟩)).setCell ⟨g, k * 3 + 1, none⟩ (.string ⟨#[]⟩)).setCell ⟨g, k * 3 + 2, none⟩ (.int .i64 (-N))) bb N came kt wt av (.slice (some ⟨g, 0, none⟩) n cap) bs n xs (k + 1) := by
  have hset : ∀ q, q ≠ g → (((wr.setCell ⟨g, k * 3, none⟩ (.string ⟨#[]⟩)).setCell ⟨g, k * 3 + 1, none⟩ (.string ⟨#[]⟩)).setCell ⟨g, k * 3 + 2, none⟩ (.int .i64 (-N))).heap[q]? = wr.heap[q]? := fun q hq => by
    rw [heap_setCell_other _ _ _ _ (by simpa using hq), heap_setCell_other _ _ _ _ (by simpa using hq), heap_setCell_other _ _ _ _ (by simpa using hq)]
  refine ⟨h.bk.same (by simp) (hset bb (fun e => d1 e.symm)) (fun q hq _ => hset q (fun e => d2 (by rw [← e]; exact hq))) (fun e he q hq _ => hset q (fun e2 => d3 e he (by rw [← e2]; exact hq))), ?_, own_mark h.lst hx hk, ?_⟩
  · exact (hset _ (by omega)).trans h.mb
  · refine gr_trans h.gr (fun _ => ⟨by simp, rfl, rfl, rfl⟩) (fun q hq hs => hset q (fun e => hs (.inr (.inl (by rw [e]; rfl)))))
theorem MG.start {wr : World} (h : MF w wr bb N came kt wt av lv bs n xs n) (hx : xs.length = n * 3) (d1 : lv.ownBlock ≠ some bb) (d2 : ∀ k, lv.ownBlock = some k → av.ownBlock ≠ some k) (d3 : ∀ e ∈ bs, ∀ k, lv.ownBlock = some k → e.tv.ownBlock ≠ some k)
    (hlv : ∀ k, lv.ownBlock = some k → k < w.heap.size) (hav : ∀ k, av.ownBlock = some k → k < w.heap.size) : MG w wr bb N came kt wt av lv bs n lv av [] := by
  have hd : marks N n ++ xs.drop (n * 3) = marks N n := by rw [List.drop_eq_nil_of_le (by omega), List.append_nil]
  have hl := h.lst
  rw [hd] at hl
  exact ⟨by rw [List.append_nil]; exact h.bk, h.mb, hl, .inl rfl, .inl rfl, fun e he => by simp at he, d1, fun q hq => ⟨d2 q hq, by have := hlv q hq; omega⟩, d3, fun e => by have := hav _ e; omega, h.gr⟩
end
/-- The three cells of the books' block that an append of theirs reads and writes. -/
def B3 (bb : Nat) (N : Int) (ac : Value) (w' : World) : Prop := w'.cell? ⟨bb, 0, none⟩ = some (.int .i64 N) ∧ w'.cell? ⟨bb, 9, none⟩ = some ac ∧ w'.frozen? ⟨bb, 9, none⟩ = false
theorem B3.block {bb : Nat} {N : Int} {ac : Value} {w w' : World} (h : B3 bb N ac w) (hb : w'.heap[bb]? = w.heap[bb]?) : B3 bb N ac w' :=
  ⟨(World.cell?_of_block (a := ⟨bb, 0, none⟩) hb).trans h.1, (World.cell?_of_block (a := ⟨bb, 9, none⟩) hb).trans h.2.1, (World.frozen?_of_block (a := ⟨bb, 9, none⟩) hb).trans h.2.2⟩
theorem B3.made {bb : Nat} {N : Int} {ac : Value} {w : World} (h : B3 bb N ac w) (hb : bb < w.heap.size) (o : Obj) : B3 bb N ac (w.alloc o).drew := h.block (Below.heap_alloc w o bb hb)
theorem B3.grew {bb : Nat} {N : Int} {ac : Value} {w w5 : World} {o : Obj} {r : Option Nat} (h : B3 bb N ac w) (hb : bb < w.heap.size) (hg : (w.alloc o).drew.grownBy w5 r) (hr : r ≠ some bb) : B3 bb N ac w5 :=
  (h.made hb o).block (hg.block bb (by show bb < (w.alloc o).heap.size; rw [size_alloc]; omega) (fun e => hr e.symm))
theorem small_a {k q : Nat} (hn : k ≤ 8) (hq : q ≤ 4) : k + q + 1 ≤ maxLen ∧ (k + q + 1) * 40 ≤ 140737488355328 ∧ k + q ≤ 20 := by unfold maxLen; omega
theorem small_b {M : Nat} (h : M ≤ 24) : M + 1 ≤ maxLen ∧ (M + 1) * 88 ≤ 140737488355328 := by unfold maxLen; omega
theorem small_c {N : Int} (h0 : 0 ≤ N) (h : N ≤ 10) : 0 ≤ N + 1 ∧ N + 1 ≤ 20 := by omega
theorem en_mark (N : Int) : ∀ u ∈ markCells N, u.oneCell' = true := by
  intro u hu
  simp only [markCells, List.mem_cons, List.not_mem_nil, or_false] at hu
  rcases hu with rfl | rfl | rfl <;> rfl
theorem book_one (b : BookE) (h : ∃ o n c, b.tv = .slice o n c) : ∀ u ∈ b.cells, u.oneCell' = true := by
  obtain ⟨o, n, c, h⟩ := h
  intro u hu
  simp only [BookE.cells, List.mem_cons, List.not_mem_nil, or_false, h] at hu
  rcases hu with rfl | rfl | rfl | rfl | rfl <;> rfl
set_option maxHeartbeats 2000000 in
set_option maxRecDepth 100000 in
theorem markT_any (bb n : Nat) (N came : Int) (kt wt av lv : Value) (bs : List BookE) (xs : List Value) (w : World) (h : Bks w bb N came kt wt av bs) (hl : w.ownsRow 0 55 3 lv n xs) (hn : n ≤ 8) (hN0 : 0 ≤ N) (hN : N ≤ 10) (hbs : bs.length ≤ 20)
    (d1 : lv.ownBlock ≠ some bb) (d2 : ∀ k, lv.ownBlock = some k → av.ownBlock ≠ some k) (d3 : ∀ e ∈ bs, ∀ k, lv.ownBlock = some k → e.tv.ownBlock ≠ some k) :
    Calls Try.prog 19 #[.pointer (some ⟨bb, 0, none⟩), lv] w fun e w' => e = .returned (.tuple #[]) ∧ Gr (fun k => k = bb ∨ lv.ownBlock = some k ∨ av.ownBlock = some k) w w' ∧
      ∃ av' bs4, Bks w' bb (N + 1) came kt wt av' (bs ++ bs4) ∧ bs4.length = 4 ∧ NewOr w av av' ∧ ∀ e ∈ bs4, NewOr w lv e.tv := by
  have c0 : w.cell? ⟨bb, 0, none⟩ = some (.int .i64 N) := cell_of_row _ _ 0 _ _ _ h.blk
  have hf := fun j => frozen_of_row w bb j _ _ h.blk
  have hbw := lt_of_row h.blk
  have H := hide h
  have HL := hide hl
  have hlx := hl.1
  have hllt : ∀ k, lv.ownBlock = some k → k < w.heap.size := fun k hk => (hl.lt k hk).2
  obtain ⟨o1, cap1, hlv⟩ := own_sl hl
  subst hlv
  clear h hl
  go_enter Try.func19, Try.ntmps19
  go_wp2_with fail
  have HW1 : Hid (MF w ((w.setCell ⟨bb, 0, none⟩ (.int .i64 (N + 1))).alloc (.cells #[.string ⟨#[]⟩, .string ⟨#[]⟩, .int .i64 (-(N + 1))] 55)) bb (N + 1) came kt wt av (.slice o1 n cap1) bs n xs 0) := MF.start H.out HL.out d1
  go_loopw [5] (fun iv wr => ∃ k : Nat, k ≤ n ∧ iv = .int .i64 ((k : Nat) : Int) ∧ MF w wr bb (N + 1) came kt wt av (.slice o1 n cap1) bs n xs k) (fun iv _ => n - (intOf iv).toNat)
  case atStart => exact ⟨0, Nat.zero_le _, rfl, HW1.out⟩
  case round =>
    clear HW1
    obtain ⟨k, hk, rfl, hmf⟩ := hrel
    have m0 : wr.cell? ⟨w.heap.size, 0, none⟩ = some (.string ⟨#[]⟩) := cell_of_row _ _ 0 _ _ _ hmf.mb
    have m1 : wr.cell? ⟨w.heap.size, 1, none⟩ = some (.string ⟨#[]⟩) := cell_of_row _ _ 1 _ _ _ hmf.mb
    have m2 : wr.cell? ⟨w.heap.size, 2, none⟩ = some (.int .i64 (-(N + 1))) := cell_of_row _ _ 2 _ _ _ hmf.mb
    have HMF := hide hmf
    by_cases hlt : k < n
    · obtain ⟨g, cap, cur, e, -, hg, hc, -, hcs, -⟩ := hmf.lst.2.resolve_left (fun h => by omega)
      injection e with e1 e2 e3
      subst e1 e3
      have gf := fun j => frozen_of_row wr g j _ _ hg
      obtain ⟨v0, g0⟩ : ∃ v0, wr.cell? ⟨g, k * 3, none⟩ = some v0 := ⟨cur[k * 3]'(by omega), by rw [cell_of_row _ _ _ _ _ _ hg]; exact Array.getElem?_eq_getElem _⟩
      obtain ⟨v1, g1⟩ : ∃ v1, wr.cell? ⟨g, k * 3 + 1, none⟩ = some v1 := ⟨cur[k * 3 + 1]'(by omega), by rw [cell_of_row _ _ _ _ _ _ hg]; exact Array.getElem?_eq_getElem _⟩
      obtain ⟨v2, g2⟩ : ∃ v2, wr.cell? ⟨g, k * 3 + 2, none⟩ = some v2 := ⟨cur[k * 3 + 2]'(by omega), by rw [cell_of_row _ _ _ _ _ _ hg]; exact Array.getElem?_eq_getElem _⟩
      clear hmf hg hcs cur
      go_wp2_with fail
      go_roundw
      case rel =>
        exact ⟨k + 1, by omega, by go_num, HMF.out.step hlx hlt (hllt g rfl) (fun e => d1 (by rw [e]; rfl)) (d2 g rfl) (fun e he => d3 e he g rfl)⟩
      case measure => simp [intOf]; omega
    · have hkn : k = n := by omega
      subst hkn
      have HMG := hide (MG.start HMF.out hlx d1 d2 d3 hllt (fun k hk => (H.out.all.lt k hk).2))
      obtain ⟨i0, hi, hz0, hz1, hz2⟩ := info_parts Try.infoTag
      obtain ⟨i1, hj, hy0, hy1, hy2⟩ := info_parts Try.infoBook
      clear hmf m0 m1 m2 HMF
      go_wp2_with fail
      go_loopw [1, 6] (fun lc kv wr => ∃ (q : Nat) (ac : Value) (bk : List BookE), q ≤ 4 ∧ kv = .int .i64 ((q : Nat) : Int) ∧ bk.length = q ∧ MG w wr bb (N + 1) came kt wt av (.slice o1 k cap1) bs (k + q) lc ac bk) (fun _ kv _ => 4 - (intOf kv).toNat)
      case atStart => exact ⟨0, av, [], by omega, rfl, rfl, HMG.out⟩
      case round =>
        clear HMG
        obtain ⟨q, ac, bk, hq, rfl, hbk, hmg⟩ := hrel
        have HMG := hide hmg
        have b0 : wr.cell? ⟨bb, 0, none⟩ = some (.int .i64 (N + 1)) := cell_of_row _ _ 0 _ _ _ hmg.bks.blk
        have b9 : wr.cell? ⟨bb, 9, none⟩ = some ac := cell_of_row _ _ 9 _ _ _ hmg.bks.blk
        have bf := fun j => frozen_of_row wr bb j _ _ hmg.bks.blk
        have m0 : wr.cell? ⟨w.heap.size, 0, none⟩ = some (.string ⟨#[]⟩) := cell_of_row _ _ 0 _ _ _ hmg.mb
        have m1 : wr.cell? ⟨w.heap.size, 1, none⟩ = some (.string ⟨#[]⟩) := cell_of_row _ _ 1 _ _ _ hmg.mb
        have m2 : wr.cell? ⟨w.heap.size, 2, none⟩ = some (.int .i64 (-(N + 1))) := cell_of_row _ _ 2 _ _ _ hmg.mb
        obtain ⟨oc, cc, hlc⟩ := own_sl hmg.lst
        subst hlc
        obtain ⟨oa, ca, hac⟩ := own_sl hmg.bks.all
        subst hac
        by_cases hq4 : q < 4
        · obtain ⟨hb40, hb41, hkq⟩ := small_a hn hq
          have hN1 := small_c hN0 hN
          obtain ⟨M, hM⟩ : ∃ M, M = (bs ++ bk).length := ⟨_, rfl⟩
          rw [← hM] at hmg HMG
          have hal := (World.ownsRow.alloc hmg.bks.all (.cells #[.int .i64 1, .int .i64 (N + 1), .slice oc (k + q) cc, .slice none 0 0, .slice none 0 0] 59))
          have hal2 := ownsRow_later hal ((Below.refl _ _).drew)
          have hbl : M ≤ 24 := by rw [hM, List.length_append]; omega
          rw [← hM] at b9 hal2
          have HAL := hide hal2
          have HM := hide hM
          clear hal hal2 hM
          have hbbl := lt_of_row hmg.bks.blk
          have HNB : Hid ((Value.slice oa M ca).ownBlock ≠ some bb) := hmg.bks.anb
          have HB3 : Hid (B3 bb (N + 1) (.slice oa M ca) wr) := ⟨b0, b9, bf 9⟩
          have hbf := bf 9
          have HONE := hide (book_one ⟨.slice oc (k + q) cc, N + 1, k + q⟩ ⟨_, _, _, rfl⟩)
          obtain ⟨hb63, hb88⟩ := small_b hbl
          clear hmg bf
          go_upto_region 9 with fail
          go_cut [] from 30 to 52 (fun wx => ∃ ac', MG w wx bb (N + 1) came kt wt av (.slice o1 k cap1) bs (k + q) (.slice oc (k + q) cc) ac' (bk ++ [⟨.slice oc (k + q) cc, N + 1, k + q⟩]))
          case first =>
            go_region_law (refine step_append_lies _ (by rfl) _ _ _ (by rfl) 0 59 i1 _ 5 88 Try.underlying30 hj hy0 hy1 hy2 (by rfl) (by decide) _ M _ (by rfl) HAL.out _ 1 1 [.int .i64 1, .int .i64 (N + 1), .slice oc (k + q) cc, .slice none 0 0, .slice none 0 0] (by rfl) (by rfl) (row_cells (heap_alloc_new _ _)) HONE.out (by decide) hb63 hb88 (Nat.zero_le _) _ rfl ?_; intro g2 cap2 w5 hown5 hgrow hat hlt5; obtain ⟨s0, s9, sf⟩ := HB3.out.grew hbbl hgrow HNB.out)
            all_goals
              have hmg5 := HMG.out.book (w3 := (wr.alloc (.cells #[.int .i64 1, .int .i64 (N + 1), .slice oc (k + q) cc, .slice none 0 0, .slice none 0 0] 59)).drew) (w4 := w5) (q := g2) (cap := cap2) (m := M) hN1 hkq hbw HM.out ((Below.refl _ _).alloc (Nat.le_refl _) _).drew hgrow hown5 (hat.imp id (fun e => by rw [e]; show wr.heap.size ≤ (wr.alloc _).heap.size; rw [size_alloc]; exact Nat.le_succ _))
              clear hown5 hgrow hat hlt5 s0 s9 sf
              go_wp2_with fail
              go_meet
              case rel => exact ⟨_, hmg5⟩
          case rest =>
            obtain ⟨ac', hmg5⟩ := hcut
            have m0' : wc.cell? ⟨w.heap.size, 0, none⟩ = some (.string ⟨#[]⟩) := cell_of_row _ _ 0 _ _ _ hmg5.mb
            have m1' : wc.cell? ⟨w.heap.size, 1, none⟩ = some (.string ⟨#[]⟩) := cell_of_row _ _ 1 _ _ _ hmg5.mb
            have m2' : wc.cell? ⟨w.heap.size, 2, none⟩ = some (.int .i64 (-(N + 1))) := cell_of_row _ _ 2 _ _ _ hmg5.mb
            have HMG5 := hide hmg5
            have HL5 := hide (hmg5.lst.alloc (.cells #[.string ⟨#[]⟩, .string ⟨#[]⟩, .int .i64 (-(N + 1))] 55))
            clear hmg5 HAL HB3 HNB HONE b0 b9 m0 m1 m2
            go_wp2_with (refine wpList_append_keep _ rfl _ _ 22 rfl 0 55 i0 _ 3 40 Try.underlying22 hi hz0 hz1 hz2 rfl (by decide) _ (k + q) _ rfl HL5.out _ 1 1 [.string ⟨#[]⟩, .string ⟨#[]⟩, .int .i64 (-(N + 1))] rfl rfl (row_cells (heap_alloc_new _ _)) (en_mark (N + 1)) hb40 hb41 (Nat.zero_le _) ?_; intro v7 w7 ho7 hg7 hk7 hn7)
            refine ⟨⟨q + 1, ac', bk ++ [⟨.slice oc (k + q) cc, N + 1, k + q⟩], by omega, by go_num, by simp [hbk], ?_⟩, by simp [intOf]; omega⟩
            exact HMG5.out.grow ((Below.refl _ _).alloc (Nat.le_refl _) _) ho7 hg7 hk7 hn7
        · have e4 : decide (((q : Nat) : Int) < 4) = false := by simp; omega
          go_wp2_with fail
          go_end0
          have hq5 : q = 4 := by omega
          subst hq5
          exact ⟨rfl, HMG.out.gr, _, bk, HMG.out.bks, hbk, HMG.out.na, fun e he => (HMG.out.each e he).1⟩
end Go.Proofs.Ytpgamoielkpakaa

/-
  PROVED HERE: what the law's own function tags does with the first and with the second list that came out.
-/
namespace Go.Proofs.Ytpgamoielkpakaa
open Go.RowKit
theorem flat3b : ∀ (l : List Tg) (j i : Nat), j < l.length → i < 3 → (l.flatMap Tg.cells)[j * 3 + i]? = (l.getD j default).cells[i]?
  | [], j, i, h, _ => by simp at h
  | x :: l, 0, i, _, hi => by
    have h4 : x.cells.length = 3 := rfl
    rw [List.flatMap_cons, List.getElem?_append_left (by omega)]
    simp
  | x :: l, j + 1, i, h, hi => by
    have h4 : x.cells.length = 3 := rfl
    rw [List.flatMap_cons, List.getElem?_append_right (by omega), h4, show (j + 1) * 3 + i - 3 = j * 3 + i by omega, flat3b l j i (by simpa using h) hi]
    simp
/-- The entries of a row. -/
theorem tagsAt_own {w : World} {base n c : Nat} {oa : Option Addr} {l : List Tg} (h : w.ownsRow base 55 3 (.slice oa n c) n (l.flatMap Tg.cells)) (hl : l.length = n) : TagsAt w oa l := by
  intro i hi
  rcases h.2 with ⟨e, h0⟩ | ⟨g, cap, cur, e, hb, hg, hc, hm, hcs, htk⟩
  · omega
  · injection e with e1 e2 e3
    refine ⟨g, 0, e1, fun j u hu => ?_⟩
    have hj : j < 3 := by have := (List.getElem?_eq_some_iff.1 hu).1; simpa [Tg.cells] using this
    rw [cell_of_row w g _ _ _ _ hg, ← hu, ← flat3b l i j hi hj, ← htk, List.getElem?_take, if_pos (by omega), Nat.zero_add]
    simp
theorem tg_one (l : List Tg) : ∀ u ∈ l.flatMap Tg.cells, u.oneCell' = true := by
  intro u hu
  obtain ⟨x, -, hx⟩ := List.mem_flatMap.1 hu
  simp only [Tg.cells, List.mem_cons, List.not_mem_nil, or_false] at hx
  rcases hx with rfl | rfl | rfl <;> rfl
theorem tg_len (l : List Tg) : (l.flatMap Tg.cells).length = l.length * 3 := by
  induction l with
  | nil => rfl
  | cons x l ih => rw [List.flatMap_cons, List.length_append, ih, List.length_cons]; simp [Tg.cells]; omega
theorem own_cells {w : World} {base n c : Nat} {ad : Addr} {e : TypeId} {size : Nat} {xs : List Value} (h : w.ownsRow base e size (.slice (some ad) n c) n xs) : ∀ j u, xs[j]? = some u → w.cell? (ad.add j) = some u := by
  intro j u hu
  rcases h.2 with ⟨e, h0⟩ | ⟨g, cap, cur, e, hb, hg, hc, hm, hcs, htk⟩
  · cases e
  · injection e with e1 e2 e3
    injection e1 with e1
    subst e1
    have hj := (List.getElem?_eq_some_iff.1 hu).1
    rw [Addr.add_mid, cell_of_row w g _ _ _ _ hg, ← hu, ← htk, List.getElem?_take, if_pos (by rw [← h.1]; exact hj), Nat.zero_add]
    simp
def setsAt (b : Nat) : List (Nat × Value) → World → World
  | [], w => w
  | p :: l, w => setsAt b l (w.setCell ⟨b, p.1, none⟩ p.2)
theorem sets_grown (b : Nat) : ∀ (l : List (Nat × Value)) (w : World), w.grownBy (setsAt b l w) (some b)
  | [], _ => grownBy_refl _ _
  | p :: l, w => grownBy_trans (grownBy_set w b p.1 p.2) (sets_grown b l _)
theorem sets_cells (b : Nat) : ∀ (l : List (Nat × Value)) (w : World) (cs : Array Value) (t : TypeId), w.heap[b]? = some (.cells cs t (0, 0)) → (setsAt b l w).heap[b]? = some (.cells (l.foldl (fun c p => c.setIfInBounds p.1 p.2) cs) t (0, 0))
  | [], _, _, _, h => h
  | p :: l, w, _, t, h => sets_cells b l _ _ t (heap_setCell_same w b p.1 _ _ _ h)
theorem fold_six (a b c d e f g h i j : Value) (b0 : Value) (x y z : Value) (u v : Value) : ([(2, b0), (3, x), (4, y), (1, z), (3, u), (4, v)] : List (Nat × Value)).foldl (fun c p => c.setIfInBounds p.1 p.2) #[a, b, c, d, e, f, g, h, i, j] = #[a, z, b0, u, v, f, g, h, i, j] := rfl
theorem fold_four (a b c d e f g h i j : Value) (b0 : Value) (x y z : Value) : ([(2, b0), (3, x), (4, y), (1, z)] : List (Nat × Value)).foldl (fun c p => c.setIfInBounds p.1 p.2) #[a, b, c, d, e, f, g, h, i, j] = #[a, z, b0, x, y, f, g, h, i, j] := rfl
theorem sets_six {bb : Nat} {w : World} {N came c1 : Int} {kt wt av k1 w1 k2 w2 : Value} (h : w.heap[bb]? = some (.cells (booksCells N came kt wt av) 32 (0, 0))) :
    (setsAt bb [(2, .bool false), (3, k1), (4, w1), (1, .int .i64 c1), (3, k2), (4, w2)] w).heap[bb]? = some (.cells (booksCells N c1 k2 w2 av) 32 (0, 0)) := by
  rw [sets_cells bb _ w _ _ h]
  unfold booksCells
  rw [fold_six]
theorem sets_four {bb : Nat} {w : World} {N came c1 : Int} {kt wt av k1 w1 : Value} (h : w.heap[bb]? = some (.cells (booksCells N came kt wt av) 32 (0, 0))) :
    (setsAt bb [(2, .bool false), (3, k1), (4, w1), (1, .int .i64 c1)] w).heap[bb]? = some (.cells (booksCells N c1 k1 w1 av) 32 (0, 0)) := by
  rw [sets_cells bb _ w _ _ h]
  unfold booksCells
  rw [fold_four]
/-- The books' own block is written. -/
theorem Bks.reblk {w w' : World} {bb : Nat} {N came N' came' : Int} {kt wt av kt' wt' : Value} {bs : List BookE} (h : Bks w bb N came kt wt av bs) (hg : w.grownBy w' (some bb)) (h0 : w'.heap[bb]? = some (.cells (booksCells N' came' kt' wt' av) 32 (0, 0))) : Bks w' bb N' came' kt' wt' av bs := by
  have hset : ∀ k, k < w.heap.size → k ≠ bb → w'.heap[k]? = w.heap[k]? := fun k hk hne => hg.block k hk (fun e => hne (by injection e))
  refine ⟨h0, own_same h.all (fun k hk hk2 => hset k hk2 (fun e => h.anb (by rw [← e]; exact hk))), fun e he => ?_, h.anb⟩
  obtain ⟨m1, m2, m3, m3', m4, m5⟩ := h.mkd e he
  exact ⟨m1.same hg.size (fun k hk hk2 => hset k hk2 (fun e2 => m4 (by rw [← e2]; exact hk))), m2, m3, m3', m4, m5⟩
set_option maxHeartbeats 2000000 in
set_option maxRecDepth 100000 in
theorem tags_first (bb n : Nat) (lv : Value) (l : List Tg) (w : World) (h : Bks w bb 0 0 (.slice none 0 0) (.slice none 0 0) (.slice none 0 0) []) (hl : w.ownsRow 0 55 3 lv n (l.flatMap Tg.cells)) (hln : l.length = n) (hn : n ≤ 8) (d1 : lv.ownBlock ≠ some bb) :
    Calls Try.prog 7 #[.pointer (some ⟨bb, 0, none⟩), lv] w fun e w' => e = .returned (.tuple #[]) ∧ w.grownBy w' (some bb) ∧
      ∃ wv av' bs4, Bks w' bb 1 1 lv wv av' bs4 ∧ bs4.length = 4 ∧ w'.ownsRow 0 55 3 lv n (l.flatMap Tg.cells) ∧ w'.ownsRow w.heap.size 55 3 wv n (l.flatMap Tg.cells) ∧ (∀ k, av'.ownBlock = some k → w.heap.size ≤ k) ∧ ∀ e ∈ bs4, ∀ k, e.tv.ownBlock = some k → w.heap.size ≤ k := by
  obtain ⟨i0, hi, hz0, hz1, hz2⟩ := info_parts Try.infoTag
  have hbb := lt_of_row h.blk
  have H := hide h
  have HL := hide hl
  clear h
  go_enter Try.func7, Try.ntmps7
  obtain ⟨ol, cl, hlv⟩ := own_sl hl
  subst hlv
  go_upto_region 1 with fail
  go_cut [4] from 7 (fun wv wx => wx.ownsRow w.heap.size 55 3 wv n (l.flatMap Tg.cells) ∧ w.grownBy wx none)
  case first =>
    rcases hl.2 with ⟨e, rfl⟩ | ⟨g, cap, cur, e, hb0, hg, hcap, hcm, hcs, htk⟩
    · injection e with e1 e2 e3
      subst e1 e3
      have hl0 : l = [] := List.eq_nil_of_length_eq_zero hln
      subst hl0
      clear hl
      go_wp2_with fail
      go_meet
      case rel => exact ⟨World.ownsRow_nil _ _ _ _, grownBy_refl _ _⟩
    · injection e with e1 e2 e3
      subst e1 e3
      clear hl hg hcs htk cur
      go_wp2_with (refine wpList_append_own _ rfl _ _ 22 rfl w.heap.size 55 i0 _ 3 40 Try.underlying22 hi hz0 hz1 hz2 rfl (by decide) (.slice none 0 0) 0 [] rfl (World.ownsRow_nil _ _ _ _) ⟨g, 0, none⟩ n cl (l.flatMap Tg.cells) rfl (by rw [tg_len, hln]) (own_cells HL.out) (tg_one l) (by unfold maxLen; omega) (by omega) (Nat.le_refl _) ?_; rintro wv w1 hwv hg1 -; have HWV := hide hwv; have HG1 := hide hg1; clear hwv hg1)
      go_meet
      case rel =>
        have hv := HWV.out
        rw [Nat.zero_add, List.nil_append] at hv
        exact ⟨hv, HG1.out⟩
  case rest =>
    obtain ⟨hwv, hg1⟩ := hcut
    clear hl
    have hb1 : Below w.heap.size w wc := ⟨hg1.os, hg1.tape, hg1.output, hg1.size, fun k hk => hg1.block k hk (by simp)⟩
    have HK1 := hide (H.out.later hb1)
    have HL1 := hide (ownsRow_later HL.out hb1)
    have HWV := hide hwv
    obtain ⟨ow, cw, hwv2⟩ := own_sl hwv
    subst hwv2
    have k3 : wc.cell? ⟨bb, 3, none⟩ = some (.slice none 0 0) := cell_of_row _ _ 3 _ _ _ HK1.out.blk
    have k4 : wc.cell? ⟨bb, 4, none⟩ = some (.slice none 0 0) := cell_of_row _ _ 4 _ _ _ HK1.out.blk
    have HS0 := hide (fun w' => sameT_any none none 0 0 [] [] w' (fun i hi => by simp at hi) (fun i hi => by simp at hi) (by decide))
    have hsz1 := hb1.size
    have HB1 := hide hb1
    clear hwv hg1 hb1
    go_wp2_with fail
    go_region_held3 (fun w' => w'.cell? ⟨bb, 3, none⟩ = some (.slice none 0 0) ∧ w'.cell? ⟨bb, 4, none⟩ = some (.slice none 0 0)) (first | go_keep | exact ⟨cell_later hb2 k3, cell_later hb2 k4⟩) (first | (go_at_call 6; refine (HS0.out _).mono ?_; rintro _ w2 ⟨rfl, hb2⟩))
    have hb2' : Below wc.heap.size wc w2 := ((Below.refl wc.heap.size wc).drew).trans hb2
    have HK2 := hide (HK1.out.later hb2')
    have HL2 := hide (ownsRow_later HL1.out hb2')
    have HWV2 := hide (ownsRow_later HWV.out hb2')
    have k3' : w2.cell? ⟨bb, 3, none⟩ = some (.slice none 0 0) := cell_of_row _ _ 3 _ _ _ HK2.out.blk
    have hsz2 := hb2'.size
    have hos2 := hb2'.os
    have HB2 := hide (HB1.out.trans (hb2'.mono hsz1))
    have HMT := hide (markT_any bb 0 0 0 (.slice none 0 0) (.slice none 0 0) (.slice none 0 0) (.slice none 0 0) [] [] w2 HK2.out (World.ownsRow_nil _ _ _ _) (by decide) (by decide) (by decide) (by decide) (by simp [Value.ownBlock]) (fun k hk => by simp [Value.ownBlock] at hk) (fun e he => by simp at he))
    clear hb2 hb2' k3 k4 HK1 HL1 HWV HS0
    go_wp2_with (go_at_call 19; refine (HMT.out).mono ?_; rintro _ w3 ⟨rfl, hgr3, av', bs4, hk3, hb4, hna, hne⟩)
    have hblk3 : ∀ k, k < w2.heap.size → k ≠ bb → w3.heap[k]? = w2.heap[k]? := fun k hk hne => hgr3.block k hk (by rintro (h | h | h) <;> first | exact hne h | simp [Value.ownBlock] at h)
    have HG3 : Hid (w.grownBy w3 (some bb)) := ⟨hgr3.os.trans HB2.out.os, hgr3.tape.trans HB2.out.tape, hgr3.output.trans HB2.out.output, Nat.le_trans HB2.out.size hgr3.size, fun k hk hne => (hblk3 k (Nat.lt_of_lt_of_le hk HB2.out.size) (fun e => hne (by rw [e]))).trans (HB2.out.block k hk)⟩
    have HL3 := hide (own_same HL2.out (fun k hk hk2 => hblk3 k hk2 (fun e => d1 (by rw [← e]; exact hk))))
    have hwne : ∀ k, (Value.slice ow n cw).ownBlock = some k → k ≠ bb := fun k hk e => by have := (HWV2.out.lt k hk).1; omega
    have HWV3 := hide (own_same HWV2.out (fun k hk hk2 => hblk3 k hk2 (hwne k hk)))
    have hav : ∀ k, av'.ownBlock = some k → w.heap.size ≤ k := fun k hk => by
      rcases hna with h | h
      · rw [h] at hk; simp [Value.ownBlock] at hk
      · have := h k hk; omega
    have hev : ∀ e ∈ bs4, ∀ k, e.tv.ownBlock = some k → w.heap.size ≤ k := fun e he k hk => by
      rcases hne e he with h | h
      · rw [h] at hk; simp [Value.ownBlock] at hk
      · have := h k hk; omega
    have HAV := hide hav
    have HEV := hide hev
    have HK3 := hide hk3
    have hs3 := sameT_any ol ow cl cw l l w3 (tagsAt_own HL3.out hln) (tagsAt_own HWV3.out hln) (by omega)
    rw [hln] at hs3
    have HS3 := hide hs3
    have hlt3 := lt_of_row hk3.blk
    clear hgr3 hk3 hna hne hblk3 hav hev hs3 HMT HK2 HL2 HWV2 k3' HB1 HB2
    refine (HS3.out).mono ?_
    rintro _ w4 ⟨rfl, hb4'⟩
    dsimp only
    have HK4 := hide (HK3.out.later hb4')
    have HL4 := hide (ownsRow_later HL3.out hb4')
    have HWV4 := hide (ownsRow_later HWV3.out hb4')
    have HG4 := hide (grownBy_trans HG3.out (grownBy_below hb4' (some bb)))
    have q0 : w4.cell? ⟨bb, 0, none⟩ = some (.int .i64 (0 + 1)) := cell_of_row _ _ 0 _ _ _ HK4.out.blk
    have q1 : w4.cell? ⟨bb, 1, none⟩ = some (.int .i64 0) := cell_of_row _ _ 1 _ _ _ HK4.out.blk
    have q2 : w4.cell? ⟨bb, 2, none⟩ = some (.bool false) := cell_of_row _ _ 2 _ _ _ HK4.out.blk
    have q3 : w4.cell? ⟨bb, 3, none⟩ = some (.slice none 0 0) := cell_of_row _ _ 3 _ _ _ HK4.out.blk
    have q4 : w4.cell? ⟨bb, 4, none⟩ = some (.slice none 0 0) := cell_of_row _ _ 4 _ _ _ HK4.out.blk
    have qf := fun j => frozen_of_row w4 bb j _ _ HK4.out.blk
    clear hb4' HS3 HK3 HL3 HWV3 HG3
    simp only [decide_true]
    go_wp2_with fail
    go_end0
    have hgs := sets_grown bb [(2, .bool false), (3, .slice none 0 0), (4, .slice none 0 0), (1, .int .i64 1), (3, .slice ol n cl), (4, .slice ow n cw)] w4
    refine ⟨rfl, grownBy_trans HG4.out hgs, .slice ow n cw, av', bs4, ?_, hb4, ?_, ?_, HAV.out, HEV.out⟩
    · exact HK4.out.reblk hgs (sets_six HK4.out.blk)
    · exact own_same HL4.out (fun k hk hk2 => hgs.block k hk2 (fun e => by injection e with e; exact d1 (by rw [← e]; exact hk)))
    · exact own_same HWV4.out (fun k hk hk2 => hgs.block k hk2 (fun e => by injection e with e; exact hwne k hk e))
theorem newOr_ne {w : World} {v v' u : Value} (h : NewOr w v v') (hu : ∀ k, u.ownBlock = some k → k < w.heap.size) (hv : ∀ k, u.ownBlock = some k → v.ownBlock ≠ some k) : ∀ k, u.ownBlock = some k → v'.ownBlock ≠ some k :=
  fun k hk => newOr_not h (hu k hk) (hv k hk)
set_option maxHeartbeats 2000000 in
set_option maxRecDepth 100000 in
theorem tags_second (bb n nk : Nat) (lv kt wt av : Value) (bs : List BookE) (l lk : List Tg) (w : World) (h : Bks w bb 1 1 kt wt av bs) (hbs : bs.length = 4) (hl : w.ownsRow 0 55 3 lv n (l.flatMap Tg.cells)) (hln : l.length = n) (hn : n ≤ 8)
    (hkt : w.ownsRow 0 55 3 kt nk (lk.flatMap Tg.cells)) (hwt : w.ownsRow 0 55 3 wt nk (lk.flatMap Tg.cells)) (hlk : lk.length = nk) (hnk : nk ≤ 8)
    (d1 : lv.ownBlock ≠ some bb) (d2 : ∀ k, lv.ownBlock = some k → av.ownBlock ≠ some k) (d3 : ∀ e ∈ bs, ∀ k, lv.ownBlock = some k → e.tv.ownBlock ≠ some k) (d4 : ∀ k, lv.ownBlock = some k → kt.ownBlock ≠ some k)
    (c1 : kt.ownBlock ≠ some bb) (c2 : ∀ k, kt.ownBlock = some k → av.ownBlock ≠ some k) (c3 : ∀ e ∈ bs, ∀ k, kt.ownBlock = some k → e.tv.ownBlock ≠ some k) :
    Calls Try.prog 7 #[.pointer (some ⟨bb, 0, none⟩), lv] w fun e w' => e = .returned (.tuple #[]) ∧ Gr (fun k => k = bb ∨ lv.ownBlock = some k ∨ kt.ownBlock = some k ∨ av.ownBlock = some k) w w' ∧ ∃ av' bs', Bks w' bb 3 2 (.slice none 0 0) (.slice none 0 0) av' bs' ∧ bs'.length = 12 := by
  obtain ⟨i0, hi, hz0, hz1, hz2⟩ := info_parts Try.infoTag
  have hbb := lt_of_row h.blk
  have H := hide h
  have HL := hide hl
  have HKT := hide hkt
  have HWT := hide hwt
  have hlw : ∀ k, lv.ownBlock = some k → k < w.heap.size := fun k hk => (hl.lt k hk).2
  have hkw : ∀ k, kt.ownBlock = some k → k < w.heap.size := fun k hk => (hkt.lt k hk).2
  have haw : ∀ k, av.ownBlock = some k → k < w.heap.size := fun k hk => (h.all.lt k hk).2
  clear h
  go_enter Try.func7, Try.ntmps7
  obtain ⟨ol, cl, hlv⟩ := own_sl hl
  subst hlv
  obtain ⟨ok, ck, hkv⟩ := own_sl hkt
  subst hkv
  obtain ⟨ot, ct, htv⟩ := own_sl hwt
  subst htv
  clear hkt hwt
  go_upto_region 1 with fail
  go_cut [4] from 7 (fun wv wx => wx.ownsRow w.heap.size 55 3 wv n (l.flatMap Tg.cells) ∧ w.grownBy wx none)
  case first =>
    rcases hl.2 with ⟨e, rfl⟩ | ⟨g, cap, cur, e, hb0, hg, hcap, hcm, hcs, htk⟩
    · injection e with e1 e2 e3
      subst e1 e3
      have hl0 : l = [] := List.eq_nil_of_length_eq_zero hln
      subst hl0
      clear hl
      go_wp2_with fail
      go_meet
      case rel => exact ⟨World.ownsRow_nil _ _ _ _, grownBy_refl _ _⟩
    · injection e with e1 e2 e3
      subst e1 e3
      clear hl hg hcs htk cur
      go_wp2_with (refine wpList_append_own _ rfl _ _ 22 rfl w.heap.size 55 i0 _ 3 40 Try.underlying22 hi hz0 hz1 hz2 rfl (by decide) (.slice none 0 0) 0 [] rfl (World.ownsRow_nil _ _ _ _) ⟨g, 0, none⟩ n cl (l.flatMap Tg.cells) rfl (by rw [tg_len, hln]) (own_cells HL.out) (tg_one l) (by unfold maxLen; omega) (by omega) (Nat.le_refl _) ?_; rintro wv w1 hwv hg1 -; have HWV := hide hwv; have HG1 := hide hg1; clear hwv hg1)
      go_meet
      case rel =>
        have hv := HWV.out
        rw [Nat.zero_add, List.nil_append] at hv
        exact ⟨hv, HG1.out⟩
  case rest =>
    obtain ⟨hwv, hg1⟩ := hcut
    clear hl
    have hb1 : Below w.heap.size w wc := ⟨hg1.os, hg1.tape, hg1.output, hg1.size, fun k hk => hg1.block k hk (by simp)⟩
    have HK1 := hide (H.out.later hb1)
    have HL1 := hide (ownsRow_later HL.out hb1)
    have HKT1 := hide (ownsRow_later HKT.out hb1)
    have HWT1 := hide (ownsRow_later HWT.out hb1)
    have HWV := hide hwv
    obtain ⟨ow, cw, hwv2⟩ := own_sl hwv
    subst hwv2
    have k3 : wc.cell? ⟨bb, 3, none⟩ = some (.slice ok nk ck) := cell_of_row _ _ 3 _ _ _ HK1.out.blk
    have k4 : wc.cell? ⟨bb, 4, none⟩ = some (.slice ot nk ct) := cell_of_row _ _ 4 _ _ _ HK1.out.blk
    have HS0 : Hid (∀ w', Below wc.heap.size wc w' → Calls Try.prog 6 #[.slice ok nk ck, .slice ot nk ct] w' fun e w'' => e = .returned (.bool true) ∧ Below w'.heap.size w' w'') := fun w' hb => by
      have := sameT_any ok ot ck ct lk lk w' (tagsAt_own (ownsRow_later HKT1.out hb) hlk) (tagsAt_own (ownsRow_later HWT1.out hb) hlk) (by omega)
      rw [hlk] at this
      simpa using this
    have hsz1 := hb1.size
    have HB1 := hide hb1
    clear hwv hg1 hb1
    go_wp2_with fail
    go_region_held3 (fun w' => w'.cell? ⟨bb, 3, none⟩ = some (.slice ok nk ck) ∧ w'.cell? ⟨bb, 4, none⟩ = some (.slice ot nk ct)) (first | go_keep | exact ⟨cell_later hb2 k3, cell_later hb2 k4⟩) (first | (go_at_call 6; refine (HS0.out _ ((Below.refl wc.heap.size wc).drew)).mono ?_; rintro _ w2 ⟨rfl, hb2⟩))
    have hb2' : Below wc.heap.size wc w2 := ((Below.refl wc.heap.size wc).drew).trans hb2
    have HK2 := hide (HK1.out.later hb2')
    have HL2 := hide (ownsRow_later HL1.out hb2')
    have HKT2 := hide (ownsRow_later HKT1.out hb2')
    have HWV2 := hide (ownsRow_later HWV.out hb2')
    have k3' : w2.cell? ⟨bb, 3, none⟩ = some (.slice ok nk ck) := cell_of_row _ _ 3 _ _ _ HK2.out.blk
    have hsz2 := hb2'.size
    have HB2 := hide (HB1.out.trans (hb2'.mono hsz1))
    have HMT := hide (markT_any bb nk 1 1 (.slice ok nk ck) (.slice ot nk ct) av (.slice ok nk ck) bs _ w2 HK2.out HKT2.out hnk (by decide) (by decide) (by omega) c1 c2 c3)
    clear hb2 hb2' k3 k4 HK1 HL1 HWV HS0 HKT1 HWT1
    go_wp2_with (go_at_call 19; refine (HMT.out).mono ?_; rintro _ w3 ⟨rfl, hgr3, av', bs4, hk3, hb4, hna, hne⟩)
    have hblk3 : ∀ k, k < w2.heap.size → k ≠ bb → (Value.slice ok nk ck).ownBlock ≠ some k → av.ownBlock ≠ some k → w3.heap[k]? = w2.heap[k]? := fun k hk h1 h2 h3 => hgr3.block k hk (by rintro (h | h | h) <;> first | exact h1 h | exact h2 h | exact h3 h)
    have HG3 : Hid (Gr (fun k => k = bb ∨ (Value.slice ol n cl).ownBlock = some k ∨ (Value.slice ok nk ck).ownBlock = some k ∨ av.ownBlock = some k) w w3) := ⟨hgr3.os.trans HB2.out.os, hgr3.tape.trans HB2.out.tape, hgr3.output.trans HB2.out.output, Nat.le_trans HB2.out.size hgr3.size, fun k hk hne => (hblk3 k (Nat.lt_of_lt_of_le hk HB2.out.size) (fun e => hne (.inl e)) (fun e => hne (.inr (.inr (.inl e)))) (fun e => hne (.inr (.inr (.inr e))))).trans (HB2.out.block k hk)⟩
    have HL3 := hide (own_same HL2.out (fun k hk hk2 => hblk3 k hk2 (fun e => d1 (by rw [← e]; exact hk)) (d4 k hk) (d2 k hk)))
    have hwge : ∀ k, (Value.slice ow n cw).ownBlock = some k → w.heap.size ≤ k := fun k hk => (HWV2.out.lt k hk).1
    have HWV3 := hide (own_same HWV2.out (fun k hk hk2 => hblk3 k hk2 (fun e => by have := hwge k hk; omega) (fun e => by have := hwge k hk; have := hkw k e; omega) (fun e => by have := hwge k hk; have := haw k e; omega)))
    have hsw2 : w.heap.size ≤ w2.heap.size := HB2.out.size
    have hlw2 : ∀ k, (Value.slice ol n cl).ownBlock = some k → k < w2.heap.size := fun k hk => Nat.lt_of_lt_of_le (hlw k hk) hsw2
    have HD2 := hide (newOr_ne hna hlw2 d2)
    have HD3 : Hid (∀ e ∈ bs ++ bs4, ∀ k, (Value.slice ol n cl).ownBlock = some k → e.tv.ownBlock ≠ some k) := fun e he => by
      rcases List.mem_append.1 he with he | he
      · exact d3 e he
      · exact newOr_ne (hne e he) hlw2 d4
    have HNA := hide hna
    have HK3 := hide hk3
    have hs3 := sameT_any ol ow cl cw l l w3 (tagsAt_own HL3.out hln) (tagsAt_own HWV3.out hln) (by omega)
    rw [hln] at hs3
    have HS3 := hide hs3
    clear hgr3 hk3 hna hne hblk3 hs3 HMT HK2 HL2 HWV2 k3' HB1 HB2 HKT2 hlw2 hwge
    refine (HS3.out).mono ?_
    rintro _ w4 ⟨rfl, hb4'⟩
    dsimp only
    have HK4 := hide (HK3.out.later hb4')
    have HL4 := hide (ownsRow_later HL3.out hb4')
    have HG4 : Hid (Gr (fun k => k = bb ∨ (Value.slice ol n cl).ownBlock = some k ∨ (Value.slice ok nk ck).ownBlock = some k ∨ av.ownBlock = some k) w w4) := gr_trans HG3.out (fun _ => ⟨hb4'.size, hb4'.os, hb4'.tape, hb4'.output⟩) (fun k hk _ => hb4'.block k (Nat.lt_of_lt_of_le hk HG3.out.size))
    have q0 : w4.cell? ⟨bb, 0, none⟩ = some (.int .i64 (1 + 1)) := cell_of_row _ _ 0 _ _ _ HK4.out.blk
    have q1 : w4.cell? ⟨bb, 1, none⟩ = some (.int .i64 1) := cell_of_row _ _ 1 _ _ _ HK4.out.blk
    have q2 : w4.cell? ⟨bb, 2, none⟩ = some (.bool false) := cell_of_row _ _ 2 _ _ _ HK4.out.blk
    have q3 : w4.cell? ⟨bb, 3, none⟩ = some (.slice ok nk ck) := cell_of_row _ _ 3 _ _ _ HK4.out.blk
    have q4 : w4.cell? ⟨bb, 4, none⟩ = some (.slice ot nk ct) := cell_of_row _ _ 4 _ _ _ HK4.out.blk
    have qf := fun j => frozen_of_row w4 bb j _ _ HK4.out.blk
    have hgs := sets_grown bb [(2, .bool false), (3, .slice none 0 0), (4, .slice none 0 0), (1, .int .i64 2)] w4
    have hK5 : Bks (setsAt bb [(2, .bool false), (3, .slice none 0 0), (4, .slice none 0 0), (1, .int .i64 2)] w4) bb (1 + 1) 2 (.slice none 0 0) (.slice none 0 0) av' (bs ++ bs4) := HK4.out.reblk hgs (sets_four HK4.out.blk)
    have hL5 := own_same HL4.out (fun k hk hk2 => hgs.block k hk2 (fun e => by injection e with e; exact d1 (by rw [← e]; exact hk)))
    have hG5 : Gr (fun k => k = bb ∨ (Value.slice ol n cl).ownBlock = some k ∨ (Value.slice ok nk ck).ownBlock = some k ∨ av.ownBlock = some k) w (setsAt bb [(2, .bool false), (3, .slice none 0 0), (4, .slice none 0 0), (1, .int .i64 2)] w4) := gr_trans HG4.out (fun _ => ⟨hgs.size, hgs.os, hgs.tape, hgs.output⟩) (fun k hk hne => hgs.block k (Nat.lt_of_lt_of_le hk HG4.out.size) (fun e => hne (.inl (by injection e))))
    have HM5 := hide (markT_any bb n (1 + 1) 2 (.slice none 0 0) (.slice none 0 0) av' (.slice ol n cl) (bs ++ bs4) _ _ hK5 hL5 hn (by decide) (by decide) (by rw [List.length_append]; omega) d1 HD2.out HD3.out)
    have HG5 := hide hG5
    clear hb4' HS3 HK3 HL3 HWV3 HG3 hK5 hL5 hG5 hgs
    simp only [decide_true]
    go_wp2_with fail
    refine (HM5.out).mono ?_
    rintro _ w6 ⟨rfl, hgr6, av6, bs6, hk6, hb6, hna6, hne6⟩
    dsimp only
    go_wp2_with fail
    go_end0
    refine ⟨rfl, ?_, av6, _, hk6, by rw [List.length_append, List.length_append]; omega⟩
    refine gr_trans HG5.out (fun _ => ⟨hgr6.size, hgr6.os, hgr6.tape, hgr6.output⟩) (fun k hk hs => hgr6.block k (Nat.lt_of_lt_of_le hk HG5.out.size) ?_)
    rintro (h | h | h)
    · exact hs (.inl h)
    · exact hs (.inr (.inl h))
    · rcases HNA.out with h1 | h1
      · exact hs (.inr (.inr (.inr (by rw [← h1]; exact h))))
      · have := h1 k h; omega
end Go.Proofs.Ytpgamoielkpakaa

/-
  PROVED HERE: what the law's own function still answers: every list is still full of its own mark.
-/
namespace Go.Proofs.Ytpgamoielkpakaa
open Go.RowKit
theorem one_byte2 (c : Nat) (hc : c < 256) (x : Int) (hx : x = (c : Int)) (wr : World) : (convert 84 9 (.slice (some ⟨wr.heap.size, 0, none⟩) 1 1)).run Try.prog (wr.alloc (.cells #[.int .u8 x] 5)) = .ok (.string ⟨[UInt8.ofNat c].toArray⟩) (wr.alloc (.cells #[.int .u8 x] 5)) := by
  refine run_convert_bytes_back (P := Try.prog) _ 84 9 5 ⟨wr.heap.size, 0, none⟩ 1 [UInt8.ofNat c] Try.underlying84 Try.underlying5 Try.underlying9 ?_
  intro j hj
  have hj0 : j = 0 := by simp at hj; omega
  subst hj0
  have e : (⟨wr.heap.size, 0, none⟩ : Addr).add 0 = ⟨wr.heap.size, 0, none⟩ := rfl
  rw [e, cell_of_row _ wr.heap.size 0 _ _ _ (heap_alloc_new wr (.cells #[.int .u8 x] 5))]
  have h1 : (UInt8.ofNat c).toNat = c := by simp; omega
  simp [hx, h1]
set_option maxHeartbeats 1000000 in
set_option maxRecDepth 100000 in
theorem mark_any (z : Nat) (hz : z ≤ 20) (w : World) : Calls Try.prog 22 #[.int .i64 ((z : Nat) : Int)] w fun e w' => (∃ s, e = .returned (.string s)) ∧ Below w.heap.size w w' := by
  go_enter Try.func22, Try.ntmps22
  go_wp2
  go_loopw [0, 3] (fun n s wr => ∃ (m : Nat) (t : List UInt8), m ≤ 20 ∧ t.length + m ≤ 30 ∧ n = .int .i64 ((m : Nat) : Int) ∧ s = .string ⟨t.toArray⟩ ∧ Below w.heap.size w wr)
    (fun n _ _ => (intOf n).toNat)
  case atStart => exact ⟨z, [109, 97, 114, 107], hz, by simp; omega, rfl, rfl, Below.refl _ _⟩
  case round =>
    obtain ⟨m, t, hm, ht, rfl, rfl, hb⟩ := hrel
    have q : ¬ 9223372036854775807 < t.length + 1 := by omega
    by_cases h9 : 0 < m
    · have hcv := one_byte2 (48 + m % 10) (by omega) (48 + (m : Int) % 10) (by omega) wr
      go_wp2
      go_roundw
      case rel =>
        refine ⟨m / 10, t ++ [UInt8.ofNat (48 + m % 10)], by omega, by simp; omega, by go_num, ?_, hb.alloc hb.size _⟩
        rw [ByteArray.mk_append_mk]; simp
      case measure => simp [intOf]; omega
    · go_wp2
      go_ret
      exact ⟨⟨_, rfl⟩, hb⟩
set_option maxHeartbeats 1000000 in
set_option maxRecDepth 100000 in
theorem sameB_nil (w : World) : Calls Try.prog 20 #[.slice none 0 0, .slice none 0 0] w fun e w' => e = .returned (.bool true) ∧ Below w.heap.size w w' := by
  go_enter Try.func20, Try.ntmps20
  go_wp2
  go_loopw [5] (fun i wr => i = .int .i64 0 ∧ Below w.heap.size w wr) (fun _ _ => 0)
  case atStart => exact ⟨rfl, Below.refl _ _⟩
  case round =>
    obtain ⟨rfl, hb⟩ := hrel
    go_wp2
    go_ret
    exact ⟨rfl, hb⟩
set_option maxHeartbeats 1000000 in
set_option maxRecDepth 100000 in
theorem sameS_nil (w : World) : Calls Try.prog 21 #[.slice none 0 0, .slice none 0 0] w fun e w' => e = .returned (.bool true) ∧ Below w.heap.size w w' := by
  go_enter Try.func21, Try.ntmps21
  go_wp2
  go_loopw [5] (fun i wr => i = .int .i64 0 ∧ Below w.heap.size w wr) (fun _ _ => 0)
  case atStart => exact ⟨rfl, Below.refl _ _⟩
  case round =>
    obtain ⟨rfl, hb⟩ := hrel
    go_wp2
    go_ret
    exact ⟨rfl, hb⟩
theorem flat5 : ∀ (l : List BookE) (j i : Nat) (d : BookE), j < l.length → i < 5 → (l.flatMap BookE.cells)[j * 5 + i]? = (l.getD j d).cells[i]?
  | [], j, i, _, h, _ => by simp at h
  | x :: l, 0, i, _, _, hi => by
    have h4 : x.cells.length = 5 := rfl
    rw [List.flatMap_cons, List.getElem?_append_left (by omega)]
    simp
  | x :: l, j + 1, i, d, h, hi => by
    have h4 : x.cells.length = 5 := rfl
    rw [List.flatMap_cons, List.getElem?_append_right (by omega), h4, show (j + 1) * 5 + i - 5 = j * 5 + i by omega, flat5 l j i d (by simpa using h) hi]
    simp
/-- The books' cells. -/
theorem Bks.at {w : World} {bb : Nat} {N came : Int} {kt wt av : Value} {bs : List BookE} (h : Bks w bb N came kt wt av bs) (d : BookE) (j : Nat) (hj : j < bs.length) : ∃ g c, av = .slice (some ⟨g, 0, none⟩) bs.length c ∧ w.rangeAt g (j * 5) (bs.getD j d).cells := by
  rcases h.all.2 with ⟨-, h0⟩ | ⟨g, cap, cur, e, hb, hg, hc, hm, hcs, htk⟩
  · omega
  · refine ⟨g, cap, e, fun i u hu => ?_⟩
    have hi : i < 5 := by have := (List.getElem?_eq_some_iff.1 hu).1; simpa [BookE.cells] using this
    rw [cell_of_row w g _ _ _ _ hg, ← hu, ← flat5 bs j i d hj hi, ← htk, List.getElem?_take, if_pos (by omega)]
    simp
set_option maxHeartbeats 2000000 in
set_option maxRecDepth 100000 in
theorem still_any (bb : Nat) (N came : Int) (av : Value) (bs : List BookE) (w : World) (h : Bks w bb N came (.slice none 0 0) (.slice none 0 0) av bs) (hbs : bs.length ≤ 20) :
    Calls Try.prog 8 #[.pointer (some ⟨bb, 0, none⟩)] w fun e w' => e = .returned (.bool true) ∧ Below w.heap.size w w' := by
  have c2 : w.cell? ⟨bb, 2, none⟩ = some (.bool false) := cell_of_row _ _ 2 _ _ _ h.blk
  have c3 : w.cell? ⟨bb, 3, none⟩ = some (.slice none 0 0) := cell_of_row _ _ 3 _ _ _ h.blk
  have c4 : w.cell? ⟨bb, 4, none⟩ = some (.slice none 0 0) := cell_of_row _ _ 4 _ _ _ h.blk
  have c5 : w.cell? ⟨bb, 5, none⟩ = some (.slice none 0 0) := cell_of_row _ _ 5 _ _ _ h.blk
  have c6 : w.cell? ⟨bb, 6, none⟩ = some (.slice none 0 0) := cell_of_row _ _ 6 _ _ _ h.blk
  have c7 : w.cell? ⟨bb, 7, none⟩ = some (.slice none 0 0) := cell_of_row _ _ 7 _ _ _ h.blk
  have c8 : w.cell? ⟨bb, 8, none⟩ = some (.slice none 0 0) := cell_of_row _ _ 8 _ _ _ h.blk
  have H := hide h
  have HS0 := hide (fun w' => sameT_any none none 0 0 [] [] w' (fun i hi => by simp at hi) (fun i hi => by simp at hi) (by decide))
  clear h
  go_enter Try.func8, Try.ntmps8
  go_wp2_with fail
  go_region_held3 (fun w' => w'.cell? ⟨bb, 3, none⟩ = some (.slice none 0 0) ∧ w'.cell? ⟨bb, 4, none⟩ = some (.slice none 0 0)) (first | go_keep | exact ⟨cell_later hb1 c3, cell_later hb1 c4⟩) (first | (go_at_call 6; refine (HS0.out _).mono ?_; rintro _ w1 ⟨rfl, hb1⟩))
  have HK1 := hide (H.out.later (((Below.refl w.heap.size w).drew).trans hb1))
  have HB1 := hide (((Below.refl w.heap.size w).drew).trans hb1)
  clear c2 c3 c4 c5 c6 c7 c8 hb1
  have c2 : w1.cell? ⟨bb, 2, none⟩ = some (.bool false) := cell_of_row _ _ 2 _ _ _ HK1.out.blk
  have c5 : w1.cell? ⟨bb, 5, none⟩ = some (.slice none 0 0) := cell_of_row _ _ 5 _ _ _ HK1.out.blk
  have c6 : w1.cell? ⟨bb, 6, none⟩ = some (.slice none 0 0) := cell_of_row _ _ 6 _ _ _ HK1.out.blk
  have c7 : w1.cell? ⟨bb, 7, none⟩ = some (.slice none 0 0) := cell_of_row _ _ 7 _ _ _ HK1.out.blk
  have c8 : w1.cell? ⟨bb, 8, none⟩ = some (.slice none 0 0) := cell_of_row _ _ 8 _ _ _ HK1.out.blk
  go_wp2_with fail
  go_region_held3 (fun w' => w'.cell? ⟨bb, 5, none⟩ = some (.slice none 0 0) ∧ w'.cell? ⟨bb, 6, none⟩ = some (.slice none 0 0)) (first | go_keep | exact ⟨cell_later hb2 c5, cell_later hb2 c6⟩) (first | (go_at_call 20; refine (sameB_nil _).mono ?_; rintro _ w2 ⟨rfl, hb2⟩))
  have HK2 := hide (HK1.out.later (((Below.refl w1.heap.size w1).drew).trans hb2))
  have HB2 := hide (HB1.out.trans ((((Below.refl w1.heap.size w1).drew).trans hb2).mono HB1.out.size))
  clear c2 c5 c6 c7 c8 hb2 HK1 HB1
  have c2 : w2.cell? ⟨bb, 2, none⟩ = some (.bool false) := cell_of_row _ _ 2 _ _ _ HK2.out.blk
  have c7 : w2.cell? ⟨bb, 7, none⟩ = some (.slice none 0 0) := cell_of_row _ _ 7 _ _ _ HK2.out.blk
  have c8 : w2.cell? ⟨bb, 8, none⟩ = some (.slice none 0 0) := cell_of_row _ _ 8 _ _ _ HK2.out.blk
  go_wp2_with fail
  go_region_held3 (fun w' => w'.cell? ⟨bb, 7, none⟩ = some (.slice none 0 0) ∧ w'.cell? ⟨bb, 8, none⟩ = some (.slice none 0 0)) (first | go_keep | exact ⟨cell_later hb3 c7, cell_later hb3 c8⟩) (first | (go_at_call 21; refine (sameS_nil _).mono ?_; rintro _ w3 ⟨rfl, hb3⟩))
  have HK3 := hide (HK2.out.later (((Below.refl w2.heap.size w2).drew).trans hb3))
  have HB3 := hide (HB2.out.trans ((((Below.refl w2.heap.size w2).drew).trans hb3).mono HB2.out.size))
  clear c2 c7 c8 hb3 HK2 HB2
  have c2 : w3.cell? ⟨bb, 2, none⟩ = some (.bool false) := cell_of_row _ _ 2 _ _ _ HK3.out.blk
  go_wp2_with fail
  go_loopw [6] (fun iv wr => ∃ i : Nat, i ≤ bs.length ∧ iv = .int .i64 ((i : Nat) : Int) ∧ Below w3.heap.size w3 wr) (fun iv _ => bs.length - (intOf iv).toNat)
  case atStart => exact ⟨0, Nat.zero_le _, rfl, Below.refl _ _⟩
  case round =>
    obtain ⟨i, hi, rfl, hbr⟩ := hrel
    have HKR := hide (HK3.out.later hbr)
    have HBR := hide (HB3.out.trans (hbr.mono HB3.out.size))
    have HBR3 := hide hbr
    have hszr := hbr.size
    obtain ⟨oa, ca, hav⟩ := own_sl HK3.out.all
    subst hav
    have c9 : wr.cell? ⟨bb, 9, none⟩ = some (.slice oa bs.length ca) := cell_of_row _ _ 9 _ _ _ HKR.out.blk
    clear hbr c2
    by_cases hlt : i < bs.length
    · obtain ⟨g, ca2, e, hrg⟩ := HKR.out.at ⟨.slice none 0 0, 0, 0⟩ i hlt
      injection e with e1 e2 e3
      subst e1 e3
      have hmem : bs.getD i ⟨.slice none 0 0, 0, 0⟩ ∈ bs := by rw [List.getD_eq_getElem?_getD, List.getElem?_eq_getElem hlt]; exact List.getElem_mem hlt
      obtain ⟨m1, m2, m3, m3', m4, m5⟩ := HKR.out.mkd _ hmem
      generalize bs.getD i ⟨.slice none 0 0, 0, 0⟩ = be at hrg m1 m2 m3 m3'
      obtain ⟨tv, zN, tn⟩ := be
      dsimp only at m1 m2 m3 m3'
      obtain ⟨z, rfl⟩ : ∃ z : Nat, zN = (z : Int) := ⟨zN.toNat, by omega⟩
      have hz20 : z ≤ 20 := by omega
      have hzi0 : (0 : Int) ≤ (z : Int) := by omega
      have hzi1 : (z : Int) ≤ 20 := by omega
      have hzw : IntKind.i64.wrap (-(z : Int)) = -(z : Int) := by unfold IntKind.wrap; simp [IntKind.signed, IntKind.bits]; omega
      have HMK := hide (fun w' => mark_any z hz20 w')
      obtain ⟨ot, ct, htv⟩ : ∃ ot ct, tv = .slice ot tn ct := by
        rcases m1 with ⟨rfl, rfl⟩ | ⟨g2, c2, rfl, -, -⟩
        · exact ⟨_, _, rfl⟩
        · exact ⟨_, _, rfl⟩
      subst htv
      have e0 := hrg 0 _ rfl
      have e1 := hrg 1 _ rfl
      have e2 := hrg 2 _ rfl
      have e3 := hrg 3 _ rfl
      have e4 := hrg 4 _ rfl
      simp only [Nat.add_zero] at e0
      have HM1 := hide m1
      clear m1 m3 m3' hrg m4 m5 hmem
      go_wp2_with fail
      have hx0 : (wr.alloc (.cells #[.int .i64 1, .int .i64 ((z : Nat) : Int), .slice ot tn ct, .slice none 0 0, .slice none 0 0] 59)).heap[wr.heap.size]? = some (.cells #[.int .i64 1, .int .i64 ((z : Nat) : Int), .slice ot tn ct, .slice none 0 0, .slice none 0 0] 59 (0, 0)) := heap_alloc_new _ _
      have HB0 : Hid (Below wr.heap.size wr (wr.alloc (.cells #[.int .i64 1, .int .i64 ((z : Nat) : Int), .slice ot tn ct, .slice none 0 0, .slice none 0 0] 59))) := (Below.refl _ _).alloc (Nat.le_refl _) _
      obtain ⟨X, hX⟩ : ∃ X, X = wr.alloc (.cells #[.int .i64 1, .int .i64 ((z : Nat) : Int), .slice ot tn ct, .slice none 0 0, .slice none 0 0] 59) := ⟨_, rfl⟩
      rw [← hX] at hx0 HB0 ⊢
      obtain ⟨xb, hxb⟩ : ∃ xb, xb = wr.heap.size := ⟨_, rfl⟩
      have HMX := hide (HM1.out.same HB0.out.size (fun k _ hk => HB0.out.block k hk))
      have HBX3 := hide (HBR3.out.trans (HB0.out.mono hszr))
      rw [← hxb] at hx0 ⊢
      have HX := hide hx0
      have hxl := lt_of_row hx0
      have hneq : ∀ w', (binOp .neq 55 (.agg #[.string ⟨#[]⟩, .string ⟨#[]⟩, .int .i64 (-((z : Nat) : Int))]) (.agg #[.string ⟨#[]⟩, .string ⟨#[]⟩, .int .i64 (-((z : Nat) : Int))])).run Try.prog w' = .ok (.bool false) w' := fun w' => by
        have := neq26 ⟨⟨#[]⟩, ⟨#[]⟩, -((z : Nat) : Int)⟩ ⟨⟨#[]⟩, ⟨#[]⟩, -((z : Nat) : Int)⟩ w'
        simpa [Tg.cells] using this
      clear hX hx0 e0 e1 e2 e3 e4 c9 HM1 hxb HBR HKR HBR3 HB0 hszr
      go_loopw [8] (fun kv wq => ∃ k : Nat, k ≤ tn ∧ kv = .int .i64 ((k : Nat) : Int) ∧ Below X.heap.size X wq) (fun kv _ => tn - (intOf kv).toNat)
      case atStart => exact ⟨0, Nat.zero_le _, rfl, Below.refl _ _⟩
      case round =>
        obtain ⟨k, hk, rfl, hbq⟩ := hrel
        have hxq := (hbq.block _ hxl).trans HX.out
        have x1 : wr.cell? ⟨xb, 1, none⟩ = some (.int .i64 ((z : Nat) : Int)) := cell_of_row _ _ 1 _ _ _ hxq
        have x2 : wr.cell? ⟨xb, 2, none⟩ = some (.slice ot tn ct) := cell_of_row _ _ 2 _ _ _ hxq
        have x3 : wr.cell? ⟨xb, 3, none⟩ = some (.slice none 0 0) := cell_of_row _ _ 3 _ _ _ hxq
        have x4 : wr.cell? ⟨xb, 4, none⟩ = some (.slice none 0 0) := cell_of_row _ _ 4 _ _ _ hxq
        have HBQ := hide hbq
        by_cases hkt : k < tn
        · obtain ⟨g2, c2, e, hg2, hmk⟩ := HMX.out.resolve_left (fun h => by omega)
          injection e with e1 e2 e3
          subst e1 e3
          have t0 := cell_later hbq (hmk k hkt 0 _ rfl)
          have t1 := cell_later hbq (hmk k hkt 1 _ rfl)
          have t2 := cell_later hbq (hmk k hkt 2 _ rfl)
          simp only [Nat.add_zero] at t0
          clear hbq hxq hmk
          go_wp2_with fail
          go_region_held3 (fun w' => w'.cell? ⟨xb, 1, none⟩ = some (.int .i64 ((z : Nat) : Int)) ∧ w'.cell? ⟨xb, 2, none⟩ = some (.slice (some ⟨g2, 0, none⟩) tn ct) ∧ w'.cell? ⟨g2, k * 3, none⟩ = some (.string ⟨#[]⟩) ∧ w'.cell? ⟨g2, k * 3 + 1, none⟩ = some (.string ⟨#[]⟩) ∧ w'.cell? ⟨g2, k * 3 + 2, none⟩ = some (.int .i64 (-((z : Nat) : Int)))) (go_keep) (fail)
          go_wp2_with fail
          go_roundw
          case rel => exact ⟨k + 1, by omega, by go_num, HBQ.out.drew⟩
          case measure => simp [intOf]; omega
        · have e1 : decide (((k : Nat) : Int) < ((tn : Nat) : Int)) = false := by simp; omega
          clear hbq hxq
          go_wp2_with fail
          go_loopw [9] (fun kv wq => kv = .int .i64 0 ∧ Below X.heap.size X wq) (fun _ _ => 0)
          case atStart => exact ⟨rfl, HBQ.out⟩
          case round =>
            obtain ⟨rfl, hbq⟩ := hrel
            have hxq := (hbq.block _ hxl).trans HX.out
            have y1 : wr.cell? ⟨xb, 1, none⟩ = some (.int .i64 ((z : Nat) : Int)) := cell_of_row _ _ 1 _ _ _ hxq
            have y3 : wr.cell? ⟨xb, 3, none⟩ = some (.slice none 0 0) := cell_of_row _ _ 3 _ _ _ hxq
            have HBP := hide hbq
            clear hbq hxq x1 x2 x3 x4 HBQ
            go_wp2_with fail
            refine (HMK.out _).mono ?_
            rintro _ w8 ⟨⟨ms, rfl⟩, hb8⟩
            dsimp only
            have HB8 := hide (HBP.out.trans (hb8.mono HBP.out.size))
            clear hb8 HBP y1 y3
            go_wp2_with fail
            go_loopw [11] (fun kv wq => kv = .int .i64 0 ∧ Below X.heap.size X wq) (fun _ _ => 0)
            case atStart => exact ⟨rfl, HB8.out⟩
            case round =>
              obtain ⟨rfl, hbq⟩ := hrel
              have hxq := (hbq.block _ hxl).trans HX.out
              have y4 : wr.cell? ⟨xb, 4, none⟩ = some (.slice none 0 0) := cell_of_row _ _ 4 _ _ _ hxq
              have HBP := hide hbq
              clear hbq hxq HB8
              go_wp2_with fail
              exact ⟨⟨i + 1, by omega, by go_num, HBX3.out.trans (HBP.out.mono HBX3.out.size)⟩, by simp [intOf]; omega⟩
    · have e1 : decide (((i : Nat) : Int) < ((bs.length : Nat) : Int)) = false := by simp; omega
      go_wp2_with fail
      go_ret
      exact ⟨rfl, HBR.out⟩
end Go.Proofs.Ytpgamoielkpakaa
