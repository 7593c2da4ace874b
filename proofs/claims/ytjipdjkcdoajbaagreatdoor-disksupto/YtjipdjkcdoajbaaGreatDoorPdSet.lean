/-
  PROVED HERE: what the program's own function settle of changes of paths does.
-/
import Derived.Test.YtjipdjkcdoajbaaGreatDoorPdChg
namespace Go.Proofs.YtjipdjkcdoajbaaGreatDoor
open Go.RowKit
theorem withE_le (p : ByteArray) (ob : Option Nat) : ∀ (l : List DE) (d : Bool), (withE p ob l d).length ≤ l.length + (if d then 0 else 1)
  | [], d => by
    unfold withE
    cases d <;> cases ob <;> simp
  | e :: es, d => by
    have ih := withE_le p ob es (d || lessB p e.path)
    unfold withE
    rw [List.length_append, List.length_append, List.length_cons]
    have h2 : (if e.path = p then [] else [e]).length ≤ 1 := by split <;> simp
    cases d with
    | true =>
      simp only [Bool.true_or, if_true, Bool.not_true, Bool.false_and, Bool.false_eq_true, if_false, List.length_nil] at ih ⊢
      omega
    | false =>
      cases hl : lessB p e.path with
      | true =>
        rw [hl] at ih
        cases ob with
        | none =>
          simp only [Bool.or_true, if_true, Bool.not_false, Bool.and_self, Bool.false_eq_true, if_false, List.length_nil] at ih ⊢
          omega
        | some b =>
          simp only [Bool.or_true, if_true, Bool.not_false, Bool.and_self, Bool.false_eq_true, if_false, List.length_cons, List.length_nil] at ih ⊢
          omega
      | false =>
        rw [hl] at ih
        simp only [Bool.or_self, Bool.and_false, Bool.false_eq_true, if_false, List.length_nil] at ih ⊢
        omega
theorem applyE_le (l : List DE) (c : CH) : (applyE l c).length ≤ l.length + 1 := by
  unfold applyE
  have h1 := withE_le c.frm none l true
  have h2 := withE_le c.too (some c.blk) (withE c.frm none l true) false
  simp only [if_true, Bool.false_eq_true, if_false] at h1 h2
  split <;> omega
theorem applies_le : ∀ (cs : List CH) (l : List DE), (cs.foldl applyE l).length ≤ l.length + cs.length
  | [], l => by simp
  | c :: cs, l => by
    have h1 := applies_le cs (applyE l c)
    have h2 := applyE_le l c
    simp only [List.foldl_cons, List.length_cons]
    omega
def CH0 : CH := ⟨⟨#[]⟩, ⟨#[]⟩, 0⟩
theorem flat3 : ∀ (l : List CH) (j i : Nat), j < l.length → i < 3 → (l.flatMap CH.cells)[j * 3 + i]? = (l.getD j CH0).cells[i]?
  | [], j, i, h, _ => by simp at h
  | x :: l, 0, i, _, hi => by
    have h4 : x.cells.length = 3 := rfl
    rw [List.flatMap_cons, List.getElem?_append_left (by omega)]
    simp
  | x :: l, j + 1, i, h, hi => by
    have h4 : x.cells.length = 3 := rfl
    rw [List.flatMap_cons, List.getElem?_append_right (by omega), h4, show (j + 1) * 3 + i - 3 = j * 3 + i by omega, flat3 l j i (by simpa using h) hi]
    simp
theorem ch_cell {w : World} {T : TypeId} {g : Nat} {cur : Array Value} {l : List CH} (hg : w.heap[g]? = some (.cells cur T (0, 0))) (htk : cur.toList.take (l.length * 3) = l.flatMap CH.cells) (i j : Nat) (hi : i < l.length) (hj : j < 3) : w.cell? ⟨g, i * 3 + j, none⟩ = (l.getD i CH0).cells[j]? := by
  rw [cell_of_row w g _ _ _ _ hg, ← flat3 l i j hi hj, ← htk, List.getElem?_take, if_pos (by omega)]
  simp
theorem take_snoc {l : List CH} {k : Nat} (hk : k < l.length) : l.take (k + 1) = l.take k ++ [l.getD k CH0] := by
  rw [List.take_add_one, List.getElem?_eq_getElem hk]
  simp [List.getD_eq_getElem?_getD, List.getElem?_eq_getElem hk]
/-- The sizes of paths in changes. -/
def ChFit (l : List CH) : Prop := ∀ c ∈ l, c.frm.size ≤ 1000000000 ∧ c.too.size ≤ 1000000000
theorem ChFit.at {l : List CH} (h : ChFit l) {k : Nat} (hk : k < l.length) : (l.getD k CH0).frm.size ≤ maxLen ∧ (l.getD k CH0).too.size ≤ maxLen := by
  have hm : l.getD k CH0 ∈ l := by
    rw [List.getD_eq_getElem?_getD, List.getElem?_eq_getElem hk]; simp
  have := h _ hm
  unfold maxLen
  omega
theorem PDIs.settled {w w' : World} {b mb lb : Nat} {R : RDk} {cv : Value} {l' : List DE} (h : PDIs w b R mb lb cv) (hg : w.grownBy w' (some lb)) (hm : PM Tryz.prog 9 w' lb l') :
    PDIs (w'.setCell ⟨b, 3, none⟩ (.slice none 0 0)) b { R with safe := l', chg := [] } mb lb (.slice none 0 0) ∧ Gr (fun k => k = b ∨ k = lb) w (w'.setCell ⟨b, 3, none⟩ (.slice none 0 0)) := by
  have h2 := h.setSafe hg hm
  obtain ⟨n1, n2, n3, n4, n5⟩ := h.ne
  have hset : ∀ k, k ≠ b → (w'.setCell ⟨b, 3, none⟩ (.slice none 0 0)).heap[k]? = w'.heap[k]? := fun k hk => heap_setCell_other _ _ _ _ (by simpa using hk)
  refine ⟨⟨?_, h2.now.later (hset mb (Ne.symm n4)), h2.safe.later (hset lb (Ne.symm n5)), h.apart, World.ownsRow_nil _ _ _ _⟩, ?_⟩
  · rw [heap_setCell_same _ b 3 _ _ _ h2.blk]; rfl
  · exact (Gr.of_grownBy hg (.inr rfl)).trans (Gr.of_grownBy (grownBy_set _ _ _ _) (.inl rfl))
set_option maxHeartbeats 2000000 in
set_option maxRecDepth 100000 in
theorem psettle_any (b : Nat) (R : RDk) (mb lb : Nat) (cv : Value) (n : Nat) (w : World) (h : PDIs w b R mb lb cv) (hn : n ≤ R.chg.length) (hl : R.safe.length + R.chg.length ≤ 100000000) (hcf : ChFit R.chg) :
    Calls Tryz.prog 84 #[.pointer (some ⟨b, 0, none⟩), .int .i64 (n : Int)] w fun e w' => e = .returned (.tuple #[]) ∧ PDIs w' b { R with safe := (R.chg.take n).foldl applyE R.safe, chg := [] } mb lb (.slice none 0 0) ∧ Gr (fun k => k = b ∨ k = lb) w w' := by
  have H := hide h
  have hbl := lt_of_row h.blk
  have c2 : w.cell? ⟨b, 2, none⟩ = some (.map (some lb)) := cell_of_row _ _ 2 _ _ _ h.blk
  have c3 : w.cell? ⟨b, 3, none⟩ = some cv := cell_of_row _ _ 3 _ _ _ h.blk
  have bf := fun j => frozen_of_row w b j _ _ h.blk
  obtain ⟨n1, n2, n3, n4, n5⟩ := h.ne
  rcases h.chg.2 with ⟨hcv, h0⟩ | ⟨g, cap, cur, hcv, _, hg, hlc, hm, hcs, htk⟩
  · subst hcv
    have hn0 : n = 0 := by omega
    subst hn0
    have hR := H.out.settled (grownBy_refl w _) H.out.safe
    have HR := hide hR
    clear hR n1 n2 n3 n4 n5 h
    go_enter Tryz.func84, Tryz.ntmps84
    go_wp2_with fail
    refine wp_loop_rounds 1 ?_
    rw [rounds_succ]
    go_wp2_with fail
    go_end0
    exact ⟨rfl, HR.out.1, HR.out.2⟩
  · subst hcv
    have hmx : cap ≤ 9223372036854775807 := by unfold maxLen at hm; omega
    have hncap : n ≤ cap := by omega
    have hgb : g ≠ b := fun e => n1 (by rw [e]; rfl)
    have hgl : g ≠ lb := fun e => n3 (by rw [e]; rfl)
    have HG := hide hg
    have HTK := hide htk
    have HN := hide hn
    have HCF := hide hcf
    have hgs := lt_heap hg
    have HLL := hide (applies_le)
    clear hg htk h hcs hm n1 n2 n3 n4 hcf
    generalize hcl : R.chg.length = m at hlc c3
    have HCL := hide hcl
    clear hcl
    go_enter Tryz.func84, Tryz.ntmps84
    go_wp2_with fail
    go_loopw [13] (fun iv wr => ∃ k : Nat, k ≤ n ∧ iv = .int .i64 ((k : Nat) : Int) ∧ w.grownBy wr (some lb) ∧ PM Tryz.prog 9 wr lb ((R.chg.take k).foldl applyE R.safe)) (fun iv _ => n - (intOf iv).toNat)
    case atStart => exact ⟨0, Nat.zero_le _, rfl, grownBy_refl _ _, H.out.safe⟩
    case round =>
      obtain ⟨k, hk, rfl, hgr, hpm⟩ := hrel
      have hbk : wr.heap[b]? = _ := (hgr.block b hbl (fun e => n5 (by injection e))).trans H.out.blk
      have r2 : wr.cell? ⟨b, 2, none⟩ = some (.map (some lb)) := cell_of_row _ _ 2 _ _ _ hbk
      have rf := fun j => frozen_of_row wr b j _ _ hbk
      have r3 : wr.cell? ⟨b, 3, none⟩ = some (.slice (some ⟨g, 0, none⟩) R.chg.length cap) := cell_of_row _ _ 3 _ _ _ hbk
      have HGR := hide hgr
      have HPM := hide hpm
      have hls := hgr.size
      by_cases hlt : k < n
      · have hgk : wr.heap[g]? = some (.cells cur 132 (0, 0)) := (hgr.block g hgs (fun e => hgl (by injection e))).trans HG.out
        have hkl : k < R.chg.length := Nat.lt_of_lt_of_le hlt HN.out
        obtain ⟨c, hc⟩ : ∃ c, c = R.chg.getD k CH0 := ⟨_, rfl⟩
        have t0 := ch_cell hgk HTK.out k 0 hkl (by omega)
        have t1 := ch_cell hgk HTK.out k 1 hkl (by omega)
        have t2 := ch_cell hgk HTK.out k 2 hkl (by omega)
        have hsz := HCF.out.at hkl
        have hsn := take_snoc hkl
        rw [← hc] at t0 t1 t2 hsz hsn
        obtain ⟨cf, ct, cb⟩ := c
        simp only [Nat.add_zero] at t0
        replace t0 : wr.cell? ⟨g, k * 3, none⟩ = some (.string cf) := t0
        replace t1 : wr.cell? ⟨g, k * 3 + 1, none⟩ = some (.string ct) := t1
        replace t2 : wr.cell? ⟨g, k * 3 + 2, none⟩ = some (.pointer (some ⟨cb, 0, none⟩)) := t2
        have hlen : ((R.chg.take k).foldl applyE R.safe).length ≤ 100000000 := by
          have := HLL.out (R.chg.take k) R.safe
          rw [List.length_take] at this
          omega
        have HAP := hide (fun w' (hp : PM Tryz.prog 9 w' lb ((R.chg.take k).foldl applyE R.safe)) => papply_any lb _ cf ct cb w' hp hlen hsz.1 hsz.2)
        have HSN := hide hsn
        have hglr : g < wr.heap.size := Nat.lt_of_lt_of_le hgs hls
        have hblr : b < wr.heap.size := Nat.lt_of_lt_of_le hbl hls
        have hlbr := hpm.lt
        clear hgr hpm hbk hgk hc hsz hsn hlen
        go_wp2_with fail
        go_region_with (go_at_call 95; refine (HAP.out ((wr.alloc (.cells #[.string cf, .string ct, .pointer (some ⟨cb, 0, none⟩)] 132)).drew) (HPM.out.later (Below.heap_alloc wr _ lb hlbr))).mono ?_; rintro _ w6 ⟨rfl, hm6, hg6⟩)
        all_goals
          have hfin : w.grownBy w6 (some lb) ∧ PM Tryz.prog 9 w6 lb ((R.chg.take (k + 1)).foldl applyE R.safe) := by
            refine ⟨grownBy_trans HGR.out (grownBy_trans (grownBy_below (((Below.refl _ _).alloc (Nat.le_refl _) _).drew) _) hg6), ?_⟩
            rw [HSN.out, List.foldl_append]
            exact hm6
          have HFIN := hide hfin
          clear hm6 hg6 hfin
          go_wp2_with fail
          go_roundw
          case rel => exact ⟨k + 1, by omega, by go_num, HFIN.out.1, HFIN.out.2⟩
          case measure => simp [intOf]; omega
      · have e1 : decide (((k : Nat) : Int) < ((n : Nat) : Int)) = false := by simp; omega
        have hkn : k = n := by omega
        subst hkn
        have hR := H.out.settled HGR.out HPM.out
        have HR := hide hR
        clear hgr hpm hbk hR
        go_wp2_with fail
        go_end0
        exact ⟨rfl, HR.out.1, HR.out.2⟩
end Go.Proofs.YtjipdjkcdoajbaaGreatDoor
