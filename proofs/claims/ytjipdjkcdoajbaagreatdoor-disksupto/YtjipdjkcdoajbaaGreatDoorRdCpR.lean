/-
  PROVED HERE: a round of the document's own call Copy of disks, in plain words.
-/
import Derived.Test.YtjipdjkcdoajbaaGreatDoorRdCrash
namespace Go.Proofs.YtjipdjkcdoajbaaGreatDoor
open Go.RowKit
/-- The files of a copy: as those of the disk, all synced, each in a block of its own. -/
structure CpDoc (R R' : RDk) (nd nd' : Nat → ByteArray × Int) (ns' : List Nat) (k : Nat) : Prop where
  len : R'.now.length = k
  pth : ∀ i, i < k → (R'.now.getD i DE0).path = (R.now.getD i DE0).path
  dat : ∀ i, i < k → nd' (R'.now.getD i DE0).blk = ((nd (R.now.getD i DE0).blk).1, ((nd (R.now.getD i DE0).blk).1.size : Int))
  inn : ∀ i, i < k → (R'.now.getD i DE0).blk ∈ ns'
  inj : ∀ i j, i < k → j < k → (R'.now.getD i DE0).blk = (R'.now.getD j DE0).blk → i = j
theorem getD_app_lt {l : List DE} {e : DE} {i : Nat} (h : i < l.length) : (l ++ [e]).getD i DE0 = l.getD i DE0 := by
  rw [List.getD_eq_getElem?_getD, List.getD_eq_getElem?_getD, List.getElem?_append_left h]
theorem getD_app_eq (l : List DE) (e : DE) : (l ++ [e]).getD l.length DE0 = e := by
  rw [List.getD_eq_getElem?_getD, List.getElem?_append_right (Nat.le_refl _)]; simp
theorem CpDoc.step {R R' R'' : RDk} {nd nd' : Nat → ByteArray × Int} {ns' : List Nat} {k F : Nat} (h : CpDoc R R' nd nd' ns' k) (hF : F ∉ ns') (hn : R''.now = R'.now ++ [⟨(R.now.getD k DE0).path, F⟩]) :
    CpDoc R R'' nd (setNd nd' F ((nd (R.now.getD k DE0).blk).1, ((nd (R.now.getD k DE0).blk).1.size : Int))) (F :: ns') (k + 1) := by
  have hl := h.len
  have lo : ∀ i, i < k → R''.now.getD i DE0 = R'.now.getD i DE0 := fun i hi => by rw [hn, getD_app_lt (by omega)]
  have hi : R''.now.getD k DE0 = ⟨(R.now.getD k DE0).path, F⟩ := by rw [hn, ← hl, getD_app_eq]
  refine ⟨by rw [hn]; simp [hl], fun i hk => ?_, fun i hk => ?_, fun i hk => ?_, fun i j hik hjk e => ?_⟩
  · by_cases e : i = k
    · rw [e, hi]
    · rw [lo i (by omega)]; exact h.pth i (by omega)
  · by_cases e : i = k
    · rw [e, hi]; simp [setNd]
    · rw [lo i (by omega)]
      have hm := h.inn i (by omega)
      have : setNd nd' F ((nd (R.now.getD k DE0).blk).1, ((nd (R.now.getD k DE0).blk).1.size : Int)) (R'.now.getD i DE0).blk = nd' (R'.now.getD i DE0).blk := by
        unfold setNd
        rw [if_neg (fun e2 => hF (by rw [← e2]; exact hm))]
      rw [this]
      exact h.dat i (by omega)
  · by_cases e : i = k
    · rw [e, hi]; simp
    · rw [lo i (by omega)]; exact List.mem_cons_of_mem _ (h.inn i (by omega))
  · by_cases ei : i = k
    · by_cases ej : j = k
      · rw [ei, ej]
      · rw [ei, hi, lo j (by omega)] at e
        exact absurd (by rw [show F = (R'.now.getD j DE0).blk from e]; exact h.inn j (by omega)) hF
    · by_cases ej : j = k
      · rw [ej, hi, lo i (by omega)] at e
        exact absurd (by rw [← show (R'.now.getD i DE0).blk = F from e]; exact h.inn i (by omega)) hF
      · rw [lo i (by omega), lo j (by omega)] at e
        exact h.inj i j (by omega) (by omega) e
theorem rd_room {w : World} {b : Nat} {R : RDk} {nv sv cv : Value} (h : RDIs w b R nv sv cv) : w.cell? ⟨b, 0, none⟩ = some (.int .i64 R.room) := cell_of_row _ _ 0 _ _ _ h.blk
/-- What the copy is behind k rounds. -/
def CpR (w : World) (R : RDk) (nd : Nat → ByteArray × Int) (k : Nat) (wr : World) : Prop :=
  Below w.heap.size w wr ∧ ∃ R' nd' ns' xv, RDIs wr w.heap.size R' xv (.slice none 0 0) (.slice none 0 0) ∧ NDs wr nd' ns' ∧ (∀ e ∈ R'.now, e.blk ∈ ns') ∧ (∀ k ∈ ns', w.heap.size ≤ k) ∧ R' = ⟨R.room, R'.now, [], [], 0, -1⟩ ∧ CpDoc R R' nd nd' ns' k ∧ (∀ g, xv.ownBlock = some g → w.heap.size ≤ g)
theorem cpR_step {w wr w5 : World} {R R' : RDk} {nd nd' : Nat → ByteArray × Int} {ns' : List Nat} {k g2 cap2 cx ef H : Nat} {ep : ByteArray} {ox : Option Addr}
    (hb : Below w.heap.size w wr) (hx : RDIs wr w.heap.size R' (.slice ox R'.now.length cx) (.slice none 0 0) (.slice none 0 0)) (hnd : NDs wr nd' ns') (hin : ∀ e ∈ R'.now, e.blk ∈ ns') (hns : ∀ k ∈ ns', w.heap.size ≤ k) (hR' : R' = ⟨R.room, R'.now, [], [], 0, -1⟩) (hcp : CpDoc R R' nd nd' ns' k) (hxo : ∀ g, (Value.slice ox R'.now.length cx).ownBlock = some g → w.heap.size ≤ g)
    (hE : (⟨ep, ef⟩ : DE) = R.now.getD k DE0) (hgrow : ((wr.alloc (.cells #[.string (nd ef).1, .int .i64 ((nd ef).1.size : Int)] 63)).alloc (.cells #[.string ep, .pointer (some ⟨wr.heap.size, 0, none⟩)] 61)).grownBy w5 (Value.slice ox k cx).ownBlock)
    (hown5 : w5.ownsRow 0 61 2 (.slice (some ⟨g2, 0, none⟩) (k + 1) cap2) (k + 1) (R'.now.flatMap DE.cells ++ [.string ep, .pointer (some ⟨wr.heap.size, 0, none⟩)]))
    (hat : (Value.slice ox k cx).ownBlock = some g2 ∨ g2 = H) (hH : wr.heap.size ≤ H) :
    CpR w R nd (k + 1) (w5.setCell ⟨w.heap.size, 1, none⟩ (.slice (some ⟨g2, 0, none⟩) (k + 1) cap2)) := by
  have hl := hcp.len
  rw [hl] at hx hxo
  obtain ⟨F, hF⟩ : ∃ F, F = wr.heap.size := ⟨_, rfl⟩
  obtain ⟨ov, hov⟩ : ∃ ov, ov = (Value.slice ox k cx).ownBlock := ⟨_, rfl⟩
  have hxl := lt_of_row hx.blk
  have hcur : ∀ q, ov = some q → ∃ cur, wr.heap[q]? = some (.cells cur 61 (0, 0)) := fun q hq => own_obj hx.now q (by rw [← hov]; exact hq)
  rw [← hov] at hgrow hat hxo
  rw [← hF] at hgrow hown5 hxl hH
  have hl5 : ∀ q, q < F → ov ≠ some q → w5.heap[q]? = wr.heap[q]? := fun q hq hne => (hgrow.block q (by rw [size_alloc2, ← hF]; omega) (fun e => hne e.symm)).trans ((Below.heap_alloc _ _ q (by rw [size_alloc, ← hF]; omega)).trans (Below.heap_alloc wr _ q (by rw [← hF]; exact hq)))
  have hnew : w5.heap[F]? = some (.cells #[.string (nd ef).1, .int .i64 ((nd ef).1.size : Int)] 63 (0, 0)) := by
    refine (hgrow.block F (by rw [size_alloc2, ← hF]; omega) (fun e => ?_)).trans ((Below.heap_alloc _ _ F (by rw [size_alloc, ← hF]; omega)).trans (by rw [hF]; exact heap_alloc_new wr _))
    obtain ⟨cur, hc⟩ := hcur F e.symm
    have := lt_heap hc
    omega
  have hxn : ov ≠ some w.heap.size := fun e => by
    obtain ⟨cur, hc⟩ := hcur _ e
    exact type_ne hc hx.blk (by decide) rfl
  have sb := (hl5 w.heap.size hxl hxn).trans hx.blk
  have hset : ∀ q, q ≠ w.heap.size → (w5.setCell ⟨w.heap.size, 1, none⟩ (.slice (some ⟨g2, 0, none⟩) (k + 1) cap2)).heap[q]? = w5.heap[q]? := fun q hq => heap_setCell_other _ _ _ _ (by simpa using hq)
  have hFn : F ∉ ns' := fun hm => by have := lt_of_row (hnd F hm); omega
  have hens : Ens w5 (.slice (some ⟨g2, 0, none⟩) (k + 1) cap2) (R'.now ++ [⟨ep, F⟩]) := by
    show w5.ownsRow 0 _ 2 _ (R'.now ++ [(⟨ep, F⟩ : DE)]).length ((R'.now ++ [(⟨ep, F⟩ : DE)]).flatMap DE.cells)
    rw [List.length_append, List.flatMap_append, hl]
    exact hown5
  have hsz : w.heap.size ≤ F := by rw [hF]; exact hb.size
  refine ⟨⟨hgrow.os.trans hb.os, hgrow.tape.trans hb.tape, hgrow.output.trans hb.output, ?_, fun q hq => ?_⟩, { R' with now := R'.now ++ [⟨ep, F⟩] }, setNd nd' F ((nd ef).1, ((nd ef).1.size : Int)), F :: ns', .slice (some ⟨g2, 0, none⟩) (k + 1) cap2, ⟨?_, ?_, ?_, ?_⟩, ?_, ?_, ?_, ?_, ?_, ?_⟩
  · have h1 := hgrow.size
    rw [size_alloc2, ← hF] at h1
    exact Nat.le_trans (by omega) (grownBy_set w5 w.heap.size 1 _).size
  · exact (hset q (by omega)).trans ((hl5 q (by omega) (fun e => by have := hxo q e; omega)).trans (hb.block q hq))
  · rw [heap_setCell_same _ _ 1 _ _ _ sb]; rfl
  · exact own_same hens (fun q hq _ => hset q (by obtain ⟨cur, hc⟩ := own_obj hens q hq; exact type_ne hc sb (by decide)))
  · exact own_same hx.safe (fun q hq _ => by cases hq)
  · exact own_same hx.chg (fun q hq _ => by cases hq)
  · intro q hq
    rcases List.mem_cons.1 hq with e | hq
    · subst e
      rw [hset q (by omega), hnew]
      simp [setNd]
    · have hqr := hnd q hq
      have hqF : q ≠ F := fun e => hFn (by rw [← e]; exact hq)
      have hq1 := lt_of_row hqr
      rw [hset q (type_ne hqr hx.blk (by decide)), hl5 q (by omega) (fun e => by obtain ⟨cur, hc⟩ := hcur q e; exact type_ne hc hqr (by decide) rfl), hqr]
      unfold setNd
      rw [if_neg hqF]
  · intro e he
    rcases List.mem_append.1 he with he | he
    · exact List.mem_cons_of_mem _ (hin e he)
    · rw [List.mem_singleton.1 he]; exact List.mem_cons_self
  · intro q hq
    rcases List.mem_cons.1 hq with e | hq
    · omega
    · exact hns q hq
  · rw [hR']
  · have h2 := hcp.step (R'' := { R' with now := R'.now ++ [⟨ep, F⟩] }) hFn (by rw [← hE])
    rw [← hE] at h2
    exact h2
  · intro g hg
    have hg : g2 = g := by simpa [Value.ownBlock] using hg
    subst hg
    rcases hat with h1 | h1
    · exact hxo _ h1
    · omega
end Go.Proofs.YtjipdjkcdoajbaaGreatDoor
