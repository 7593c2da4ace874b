/-
  PROVED HERE: what the document's own function entry answers: an entry, as the plain function says.
-/
import Derived.Test.YtpgamoielkpakaaWayMem
import Derived.Test.YtpgamoielkpakaaRefTag
import Derived.Test.YtpgamoielkpakaaBuilt
namespace Go.Proofs.Ytpgamoielkpakaa
open Go.RowKit
/-- The texts of the tokens are short. -/
def ShortL (l : List Tk) : Prop := ∀ tk, tk ∈ l → tk.txt.length ≤ 2000
theorem wants_short {l : List Tk} (h : ShortL l) {kind : Nat} {s s1 : Ws} {tk : Tk} (e : wantsP l kind s = (tk, s1)) : tk.s.size ≤ 2000 := by
  unfold wantsP at e
  split at e
  · injection e with e1 e2
    subst e1
    show (⟨#[]⟩ : ByteArray).size ≤ 2000; decide
  · injection e with e1 e2
    subst e1
    by_cases hj : s.j < l.length
    · rw [List.getD_eq_getElem?_getD, List.getElem?_eq_getElem hj]
      exact h _ (List.getElem_mem hj)
    · rw [List.getD_eq_getElem?_getD, List.getElem?_eq_none (by omega)]
      show (⟨#[]⟩ : ByteArray).size ≤ 2000; decide
def badOf (w : World) (b : Nat) : Bool := match w.cell? ⟨b, 2, none⟩ with | some (.bool x) => x | _ => false
def slLen : Value → Nat
  | .slice _ n _ => n
  | _ => 0
theorem Wy.badOf {w : World} {b g : Nat} {v : Value} {l : List Tk} {s : Ws} (h : Wy w b g v l s) : badOf w b = s.bad := by unfold Go.Proofs.Ytpgamoielkpakaa.badOf; rw [h.cells.2.2]
def En.cells (x : En) : Array Value := #[.string x.name, .string x.dig, .int .i64 ((x.size : Nat) : Int)]
theorem Try.sizeTag (v0 v1 v2 : Value) : (Try.prog.info? 55).map (·.size) = some (#[v0, v1, v2] : Array Value).size := by kernel_rfl
theorem Wy.set_other {w : World} {b g k i : Nat} {v val : Value} {l : List Tk} {s : Ws} (h : Wy w b g v l s) (hb : k ≠ b) (hg : k ≠ g) : Wy (w.setCell ⟨k, i, none⟩ val) b g v l s := by
  obtain ⟨cur, h1, h2⟩ := h.row
  exact ⟨by rw [heap_setCell_other _ _ _ _ (by simpa using fun e => hb e.symm)]; exact h.blk, h.sl, ⟨cur, by rw [heap_setCell_other _ _ _ _ (by simpa using fun e => hg e.symm)]; exact h1, h2⟩, h.ne⟩
theorem own_set {w : World} {base k i : Nat} {v val : Value} {n : Nat} {e : TypeId} {size : Nat} {xs : List Value} (h : w.ownsRow base e size v n xs) (hk : k < base) : (w.setCell ⟨k, i, none⟩ val).ownsRow base e size v n xs :=
  h.kept (grownBy_set w k i val) (own_apart h hk)
theorem member_len (l : List Tk) (left : List ByteArray) (s : Ws) : (memberP l left s).2.bad = true ∨ (memberP l left s).1.2.length = left.length - 1 := by
  unfold memberP
  split
  · rename_i h; exact .inl h
  · split
    · rename_i h1 h2
      right
      rcases RowStrX.idx_cases left (wantsP l 115 s).1.s with hx | ⟨i, hi, hx⟩
      · rw [hx] at h2; omega
      · dsimp only
        rw [hx, List.length_eraseIdx, if_pos (by simpa using hi)]
    · rename_i h1 h2
      left
      have h1' : (wantsP l 115 s).2.bad = false := by simpa using h1
      simp [backP, h1']
theorem member_le (l : List Tk) (left : List ByteArray) (s : Ws) : (memberP l left s).1.2.length ≤ left.length := by
  unfold memberP
  split
  · exact Nat.le_refl _
  · split
    · exact List.length_eraseIdx_le _ _
    · exact Nat.le_refl _
theorem entB_tag {l : List Tk} {last : ByteArray} (x : En) {s s3 : Ws} {tk : Tk} (h : wantsP l 115 s = (tk, s3)) : entB l last sTag x s = ({ x with name := tk.s }, backP (!isTagB tk.s || leB tk.s last) s3) := by
  unfold entB; rw [if_pos rfl, h]
theorem entB_digest {l : List Tk} {last : ByteArray} (x : En) {s s3 : Ws} {tk : Tk} (h : wantsP l 115 s = (tk, s3)) : entB l last sDigest x s = ({ x with dig := tk.s }, backP (!isDigB tk.s) s3) := by
  unfold entB; rw [if_neg (by decide), if_pos rfl, h]
theorem entB_size {l : List Tk} {last : ByteArray} (x : En) {s s3 : Ws} {tk : Tk} (h : wantsP l 110 s = (tk, s3)) : entB l last sSize x s = ({ x with size := tk.num }, backP (decide (300 < tk.num)) s3) := by
  unfold entB; rw [if_neg (by decide), if_neg (by decide), if_pos rfl, h]
theorem entB_none {l : List Tk} {last nm : ByteArray} (x : En) (s : Ws) (h1 : nm ≠ sTag) (h2 : nm ≠ sDigest) (h3 : nm ≠ sSize) : entB l last nm x s = (x, s) := by
  unfold entB; rw [if_neg h1, if_neg h2, if_neg h3]
/-- What an entry's frame holds: the result's block, the entry's block, and that only the way's block has changed of what was there. -/
structure EF (w wr : World) (b : Nat) (x : En) : Prop where
  res : wr.heap[w.heap.size]? = some (.cells En0.cells 55 (0, 0))
  xs : wr.heap[w.heap.size + 1]? = some (.cells x.cells 55 (0, 0))
  gr : w.grownBy wr (some b)
theorem EF.grown {w wr w2 : World} {b : Nat} {x : En} (h : EF w wr b x) (hb : b < w.heap.size) (hg : wr.grownBy w2 (some b)) : EF w w2 b x :=
  ⟨(hg.block _ (lt_of_row h.res) (fun e => by injection e with e; omega)).trans h.res, (hg.block _ (lt_of_row h.xs) (fun e => by injection e with e; omega)).trans h.xs, grownBy_trans h.gr hg⟩
theorem EF.below {w wr w2 : World} {b : Nat} {x : En} (h : EF w wr b x) (hb : b < w.heap.size) (hg : Below wr.heap.size wr w2) : EF w w2 b x := h.grown hb (grownBy_below hg _)
theorem EF.size {w wr : World} {b : Nat} {x : En} (h : EF w wr b x) : w.heap.size + 2 ≤ wr.heap.size := lt_of_row h.xs
theorem EF.set {w wr : World} {b : Nat} {x x' : En} (h : EF w wr b x) (i : Nat) (val : Value) (hx : (x.cells).setIfInBounds i val = x'.cells) : EF w (wr.setCell ⟨w.heap.size + 1, i, none⟩ val) b x' := by
  refine ⟨?_, ?_, ?_⟩
  · rw [heap_setCell_other _ _ _ _ (by simp)]; exact h.res
  · rw [heap_setCell_same _ _ i _ _ _ h.xs, hx]
  · have hB : Below w.heap.size wr (wr.setCell ⟨w.heap.size + 1, i, none⟩ val) := (Below.refl _ _).setCell (p := ⟨w.heap.size + 1, i, none⟩) (by simp) _
    exact ⟨hB.os.trans h.gr.os, hB.tape.trans h.gr.tape, hB.output.trans h.gr.output, Nat.le_trans h.gr.size hB.size, fun k hk hne => (hB.block k hk).trans (h.gr.block k hk hne)⟩
theorem entry_end {b g : Nat} {v : Value} {l : List Tk} {s1 : Ws} {x : En} {w wr : World} {tmps : Array Value} (h : EF w wr b x) (hw : Wy wr b g v l s1) (hb : b < w.heap.size) (hg : g < w.heap.size) (hp : tmps.getD 4 undef = .pointer (some ⟨w.heap.size, 0, none⟩)) :
    bodyPost Try.prog Try.f35 (fun e w' => w.grownBy w' (some b) ∧ Wy w' b g v l s1 ∧ e = .returned (.agg x.cells)) Exit.ret { tmps := tmps, defers := [] }
      (((wr.setCell ⟨w.heap.size, 0, none⟩ (.string x.name)).setCell ⟨w.heap.size, 1, none⟩ (.string x.dig)).setCell ⟨w.heap.size, 2, none⟩ (.int .i64 ((x.size : Nat) : Int))) := by
  have hr : (((wr.setCell ⟨w.heap.size, 0, none⟩ (.string x.name)).setCell ⟨w.heap.size, 1, none⟩ (.string x.dig)).setCell ⟨w.heap.size, 2, none⟩ (.int .i64 ((x.size : Nat) : Int))).heap[w.heap.size]? = some (.cells #[.string x.name, .string x.dig, .int .i64 ((x.size : Nat) : Int)] 55 (0, 0)) := by
    rw [heap_setCell_same _ _ 2 _ _ _ (heap_setCell_same _ _ 1 _ _ _ (heap_setCell_same _ _ 0 _ _ _ h.res))]; rfl
  have hB : Below w.heap.size wr (((wr.setCell ⟨w.heap.size, 0, none⟩ (.string x.name)).setCell ⟨w.heap.size, 1, none⟩ (.string x.dig)).setCell ⟨w.heap.size, 2, none⟩ (.int .i64 ((x.size : Nat) : Int))) :=
    (((Below.refl _ _).setCell (p := ⟨w.heap.size, 0, none⟩) (Nat.le_refl _) _).setCell (p := ⟨w.heap.size, 1, none⟩) (Nat.le_refl _) _).setCell (p := ⟨w.heap.size, 2, none⟩) (Nat.le_refl _) _
  refine bodyPost_ret (results_cell_row Try.results35 _ _ w.heap.size 55 _ (0, 0) _ hp hr Try.underlying55 rfl (Try.sizeTag _ _ _)) rfl ?_
  refine ⟨⟨hB.os.trans h.gr.os, hB.tape.trans h.gr.tape, hB.output.trans h.gr.output, Nat.le_trans h.gr.size hB.size, fun k hk hne => (hB.block k hk).trans (h.gr.block k hk hne)⟩, ?_, rfl⟩
  exact ((hw.set_other (by omega) (by omega)).set_other (by omega) (by omega)).set_other (by omega) (by omega)
set_option maxHeartbeats 2000000 in
set_option maxRecDepth 100000 in
theorem entry_any (b g : Nat) (v : Value) (l : List Tk) (s : Ws) (last : ByteArray) (w : World) (h : Wy w b g v l s) (hl : l.length ≤ 2001) (hgood : GoodL l) (hshort : ShortL l) (hin : InL l s) :
    Calls Try.prog 35 #[.pointer (some ⟨b, 0, none⟩), .string last] w fun e w' => w.grownBy w' (some b) ∧ Wy w' b g v l (entryP l last s).2 ∧ e = .returned (.agg (entryP l last s).1.cells) := by
  have HC := hide (fun w' (hb : Below w.heap.size w w') => wants_any b g v l s 123 w' (h.later hb) hl hin)
  have HIN := hide (wants_in hgood (kind := 123) (by decide) (by decide) hin).1
  have hlt := h.lt
  have hltg := h.ltg
  have hE : entryP l last s = objP l (entB l last) 3 [sTag, sDigest, sSize] En0 (wantsP l 123 s).2 := rfl
  generalize wantsP l 123 s = r1 at HC HIN hE
  have HE := hide hE
  clear hE h hin
  go_enter Try.func35, Try.ntmps35
  go_wp2_with fail
  refine (HC.out _ (((Below.refl _ _).alloc (Nat.le_refl _) _).alloc (by rw [size_alloc]; omega) _)).mono ?_
  rintro _ w1 ⟨rfl, hg1, hw1⟩
  dsimp only
  have hsz0 := size_alloc2 w (Obj.cells #[Value.string ⟨#[]⟩, Value.string ⟨#[]⟩, Value.int IntKind.i64 0] 55) (Obj.cells #[Value.string ⟨#[]⟩, Value.string ⟨#[]⟩, Value.int IntKind.i64 0] 55)
  have hef : EF w w1 b En0 := by
    refine ⟨?_, ?_, ?_⟩
    · exact (hg1.block _ (by rw [hsz0]; omega) (fun e => by injection e with e; omega)).trans (heap_alloc2_old _ _ _)
    · exact (hg1.block _ (by rw [hsz0]; omega) (fun e => by injection e with e; omega)).trans (heap_alloc2_new _ _ _)
    · exact grownBy_trans (grownBy_below (((Below.refl _ _).alloc (Nat.le_refl _) _).alloc (by rw [size_alloc]; omega) _) _) hg1
  have hsz1 := hef.size
  have HEF := hide hef
  have HW1 := hide hw1
  clear hg1 hw1 hsz0 HC hef
  go_wp2_with fail
  go_loopw [6] (fun lv wr => ∃ (d : Nat) (left : List ByteArray) (x : En) (s1 : Ws), wr.ownsRow (w.heap.size + 2) 9 1 lv left.length (left.map Value.string) ∧ EF w wr b x ∧ Wy wr b g v l s1 ∧ InL l s1 ∧ objP l (entB l last) d left x s1 = entryP l last s ∧ (s1.bad = true ∨ left.length = d) ∧ left.length ≤ 3)
    (fun lv wr => if badOf wr b = true then 0 else slLen lv)
  case atStart =>
    refine ⟨3, [sTag, sDigest, sSize], En0, r1.2, ⟨rfl, .inr ⟨w1.heap.size, 3, _, rfl, hsz1, heap_alloc_new _ _, by decide, by unfold maxLen; decide, rfl, rfl⟩⟩, HEF.out.below hlt ((Below.refl _ _).alloc (Nat.le_refl _) _), HW1.out.later ((Below.refl _ _).alloc (Nat.le_refl _) _), HIN.out, HE.out.symm, .inr rfl, by decide⟩
  case round =>
    clear HEF HW1 HIN HE
    obtain ⟨d, left, x, s1, hown, hef, hw, hin1, hobj, hd, h3⟩ := hrel
    have HOWN := hide hown
    have HEF := hide hef
    have HW := hide hw
    have HIN := hide hin1
    have HOBJ := hide hobj
    obtain ⟨c0, c1, c2⟩ := hw.cells
    have x0 : wr.cell? ⟨w.heap.size + 1, 0, none⟩ = some (.string x.name) := cell_of_row _ _ 0 _ _ _ hef.xs
    have x1 : wr.cell? ⟨w.heap.size + 1, 1, none⟩ = some (.string x.dig) := cell_of_row _ _ 1 _ _ _ hef.xs
    have x2 : wr.cell? ⟨w.heap.size + 1, 2, none⟩ = some (.int .i64 ((x.size : Nat) : Int)) := cell_of_row _ _ 2 _ _ _ hef.xs
    have HBAD := hide hw.badOf
    obtain ⟨j1, bad1⟩ := s1
    clear hown hef hw hin1 hobj
    cases bad1 with
    | true =>
      have hfin : entryP l last s = (x, ⟨j1, true⟩) := by rw [← HOBJ.out]; exact obj_bad l _ _ _ _ rfl
      obtain ⟨o, cap, hv⟩ := own_sl HOWN.out
      subst hv
      rw [hfin]
      have r0 : wr.cell? ⟨w.heap.size, 0, none⟩ = some (.string ⟨#[]⟩) := cell_of_row _ _ 0 _ _ _ HEF.out.res
      have r1' : wr.cell? ⟨w.heap.size, 1, none⟩ = some (.string ⟨#[]⟩) := cell_of_row _ _ 1 _ _ _ HEF.out.res
      have r2 : wr.cell? ⟨w.heap.size, 2, none⟩ = some (.int .i64 0) := cell_of_row _ _ 2 _ _ _ HEF.out.res
      have rf := fun j => frozen_of_row wr w.heap.size j _ _ HEF.out.res
      by_cases h0 : 0 < left.length
      · have e0 : decide ((0 : Int) < (left.length : Int)) = true := by simp; omega
        go_wp2_with fail
        exact entry_end HEF.out HW.out hlt hltg rfl
      · have e0 : decide (0 < left.length) = false := decide_eq_false h0
        go_wp2_with fail
        exact entry_end HEF.out HW.out hlt hltg rfl
    | false =>
      have hd' : left.length = d := by simpa using hd
      cases left with
      | nil =>
        subst hd'
        have hfin : entryP l last s = (x, ⟨j1, false⟩) := by rw [← HOBJ.out]; rfl
        obtain ⟨o, cap, hv⟩ := own_sl HOWN.out
        subst hv
        rw [hfin]
        have r0 : wr.cell? ⟨w.heap.size, 0, none⟩ = some (.string ⟨#[]⟩) := cell_of_row _ _ 0 _ _ _ HEF.out.res
        have r1' : wr.cell? ⟨w.heap.size, 1, none⟩ = some (.string ⟨#[]⟩) := cell_of_row _ _ 1 _ _ _ HEF.out.res
        have r2 : wr.cell? ⟨w.heap.size, 2, none⟩ = some (.int .i64 0) := cell_of_row _ _ 2 _ _ _ HEF.out.res
        have rf := fun j => frozen_of_row wr w.heap.size j _ _ HEF.out.res
        go_wp2_with fail
        exact entry_end HEF.out HW.out hlt hltg rfl
      | cons y ys =>
        subst hd'
        obtain ⟨qv, cap, rfl, -, -, -, -, -⟩ := strs_at HOWN.out (by simp)
        have hmem := member_any b g (w.heap.size + 2) v _ l ⟨j1, false⟩ (y :: ys) wr HW.out hl hgood HIN.out HOWN.out (by omega) HEF.out.size h3 (by simp)
        have hmi := member_in hgood (left := y :: ys) HIN.out
        have hobj := HOBJ.out
        rw [List.length_cons, objP] at hobj
        simp only [Bool.false_eq_true, if_false] at hobj
        have hml : (memberP l (y :: ys) ⟨j1, false⟩).2.bad = true ∨ (memberP l (y :: ys) ⟨j1, false⟩).1.2.length = ys.length := member_len l _ _
        have hml3 : (memberP l (y :: ys) ⟨j1, false⟩).1.2.length ≤ 3 := Nat.le_trans (member_le l _ _) h3
        obtain ⟨nm, left2, s2, hmm⟩ : ∃ nm left2 s2, memberP l (y :: ys) ⟨j1, false⟩ = ((nm, left2), s2) := ⟨_, _, _, rfl⟩
        rw [hmm] at hobj hmem hmi hml hml3
        rw [List.length_cons] at hmem
        dsimp only at hobj hmem hmi hml hml3
        have HOBJ2 := hide hobj
        have HMEM := hide hmem
        have HMI := hide hmi
        have HML : Hid ((goesP l left2 (entB l last nm x s2).2).bad = true ∨ left2.length = ys.length) := hml.imp (fun hb => by rw [entB_bad l last nm x hb, goes_bad l left2 hb]; exact hb) id
        clear hobj hmem hmi hml HOBJ hd hmm
        go_wp2_with fail
        refine (HMEM.out).mono ?_
        rintro _ w2 ⟨hg2, hw2, rv, rfl, hown2⟩
        have hlt2 := hw2.lt
        have HEF2 := hide (HEF.out.grown hlt hg2)
        have HW2 := hide hw2
        have HOWN2 := hide hown2
        have y0 : w2.cell? ⟨w.heap.size + 1, 0, none⟩ = some (.string x.name) := cell_of_row _ _ 0 _ _ _ HEF2.out.xs
        have y1 : w2.cell? ⟨w.heap.size + 1, 1, none⟩ = some (.string x.dig) := cell_of_row _ _ 1 _ _ _ HEF2.out.xs
        have y2 : w2.cell? ⟨w.heap.size + 1, 2, none⟩ = some (.int .i64 ((x.size : Nat) : Int)) := cell_of_row _ _ 2 _ _ _ HEF2.out.xs
        have hszw2 := HEF2.out.size
        obtain ⟨orv, ncap, hrv⟩ : ∃ orv ncap, rv = .slice orv left2.length ncap := own_sl hown2
        subst hrv
        clear hg2 hw2 hown2 x0 x1 x2 HEF HW HOWN HIN c0 c1 c2 HMEM
        dsimp only
        by_cases hn1 : nm = sTag
        · subst hn1
          obtain ⟨tk, s3, hr⟩ : ∃ tk s3, wantsP l 115 s2 = (tk, s3) := ⟨_, _, rfl⟩
          have hc3 := wants_any b g v l s2 115 w2 HW2.out hl HMI.out
          have hin3 := wants_in hgood (kind := 115) (by decide) (by decide) HMI.out
          have hsh := wants_short hshort hr
          have hent := entB_tag (last := last) x hr
          rw [hr] at hc3 hin3
          rw [hent] at HOBJ2 HML
          obtain ⟨kk, pl, txt, num⟩ := tk
          dsimp only [Tk.cells, Tk.s] at hc3 hin3 hsh HOBJ2 HML
          generalize (⟨txt.toArray⟩ : ByteArray) = z at hc3 hsh HOBJ2 HML
          have HC3 := hide hc3
          have HIN3 := hide hin3
          clear hr hent hc3 hin3
          unfold sTag
          go_wp2_with fail
          refine (HC3.out).mono ?_
          rintro _ w3 ⟨rfl, hg3, hw3⟩
          dsimp only
          have HEF3 := hide (HEF2.out.grown hlt hg3)
          have HOWN3 := hide (HOWN2.out.kept hg3 (own_apart HOWN2.out (by omega)))
          have HW3 := hide hw3
          have hsz3 := HEF3.out.size
          have hlt3 := hw3.lt
          have hbT : Below w3.heap.size w3 (w3.alloc (.cells #[.int .u8 ((kk : Nat) : Int), .int .i64 ((pl : Nat) : Int), .string z, .int .i64 ((num : Nat) : Int)] 47)) := (Below.refl _ _).alloc (Nat.le_refl _) _
          clear hg3 hw3 HC3 HW2 HEF2 HOWN2 y0 y1 y2
          have HT := hide (fun w' => refTag_any z w' (by omega))
          cases htg : isTagB z with
          | false =>
            rw [htg] at HT HOBJ2 HML
            simp only [Bool.not_false, Bool.true_or] at HOBJ2 HML
            go_wp2_with (first | (go_at_call 46; refine (HT.out _).mono ?_; rintro _ w' ⟨rfl, rfl⟩))
            refine (back_any b g v l s3 true _ (HW3.out.later hbT) hl HIN3.out.1 HIN3.out.2).mono ?_
            rintro _ w4 ⟨rfl, hg4, hw4⟩
            dsimp only
            have hE4 := (HEF3.out.below hlt hbT).grown hlt hg4
            have HO4 := hide ((ownsRow_later HOWN3.out hbT).kept hg4 (own_apart (ownsRow_later HOWN3.out hbT) (by omega)))
            have t4 : w4.cell? ⟨w3.heap.size, 2, none⟩ = some (.string z) := hg4.cell (by rw [cell_of_row _ _ _ _ _ _ (heap_alloc_new _ _)]; rfl) (by simp; omega)
            have n4 : w4.cell? ⟨w.heap.size + 1, 0, none⟩ = some (.string x.name) := cell_of_row _ _ 0 _ _ _ hE4.xs
            have f4 := fun j => frozen_of_row w4 (w.heap.size + 1) j _ _ hE4.xs
            have HE4 := hide hE4
            have HW4 := hide hw4
            have HIN4 := hide (back_in (wrong := true) HIN3.out.1)
            have HG6 := hide (fun w' (hw : Wy w' b g v l (backP (true) s3)) => goes_any b g v l _ left2 orv ncap w' hw hl HIN4.out)
            have HGI := hide (goes_in (left := left2) hgood HIN4.out)
            clear hE4 hg4 hw4
            go_wp2_with fail
            refine (HG6.out _ (HW4.out.set_other (by omega) (by omega))).mono ?_
            rintro _ w6 ⟨rfl, hg6, hw6⟩
            dsimp only
            have HE6 := hide ((HE4.out.set (x' := { x with name := z }) 0 (.string z) rfl).grown hlt hg6)
            have HO6 := hide ((own_set (k := w.heap.size + 1) (i := 0) (val := .string z) HO4.out (by omega)).kept hg6 (own_apart (own_set (k := w.heap.size + 1) (i := 0) (val := .string z) HO4.out (by omega)) (by omega)))
            have HW6 := hide hw6
            clear hg6 hw6
            go_wp2_with fail
            go_roundw
            case rel => exact ⟨ys.length, left2, { x with name := z }, _, HO6.out, HE6.out, HW6.out, HGI.out, HOBJ2.out, HML.out, hml3⟩
            case measure =>
              have hB : badOf wr b = false := HBAD.out
              rw [HW6.out.badOf, hB, if_neg (show ¬ (false = true) by decide)]
              rcases HML.out with hm | hm
              · rw [if_pos hm]; simp [slLen]
              · split
                · simp [slLen]
                · simp [slLen]; omega
          | true =>
            rw [htg] at HT HOBJ2 HML
            rcases leB_cases z last with ⟨hle, q1⟩ | ⟨hle, q1, rfl⟩ | ⟨hle, q1, q2, q3⟩
            · rw [hle] at HOBJ2 HML
              simp only [Bool.not_true, Bool.false_or] at HOBJ2 HML
              clear hle
              go_wp2_with (first | (go_at_call 46; refine (HT.out _).mono ?_; rintro _ w' ⟨rfl, rfl⟩))
              refine (back_any b g v l s3 true _ (HW3.out.later hbT) hl HIN3.out.1 HIN3.out.2).mono ?_
              rintro _ w4 ⟨rfl, hg4, hw4⟩
              dsimp only
              have hE4 := (HEF3.out.below hlt hbT).grown hlt hg4
              have HO4 := hide ((ownsRow_later HOWN3.out hbT).kept hg4 (own_apart (ownsRow_later HOWN3.out hbT) (by omega)))
              have t4 : w4.cell? ⟨w3.heap.size, 2, none⟩ = some (.string z) := hg4.cell (by rw [cell_of_row _ _ _ _ _ _ (heap_alloc_new _ _)]; rfl) (by simp; omega)
              have n4 : w4.cell? ⟨w.heap.size + 1, 0, none⟩ = some (.string x.name) := cell_of_row _ _ 0 _ _ _ hE4.xs
              have f4 := fun j => frozen_of_row w4 (w.heap.size + 1) j _ _ hE4.xs
              have HE4 := hide hE4
              have HW4 := hide hw4
              have HIN4 := hide (back_in (wrong := true) HIN3.out.1)
              have HG6 := hide (fun w' (hw : Wy w' b g v l (backP (true) s3)) => goes_any b g v l _ left2 orv ncap w' hw hl HIN4.out)
              have HGI := hide (goes_in (left := left2) hgood HIN4.out)
              clear hE4 hg4 hw4
              go_wp2_with fail
              refine (HG6.out _ (HW4.out.set_other (by omega) (by omega))).mono ?_
              rintro _ w6 ⟨rfl, hg6, hw6⟩
              dsimp only
              have HE6 := hide ((HE4.out.set (x' := { x with name := z }) 0 (.string z) rfl).grown hlt hg6)
              have HO6 := hide ((own_set (k := w.heap.size + 1) (i := 0) (val := .string z) HO4.out (by omega)).kept hg6 (own_apart (own_set (k := w.heap.size + 1) (i := 0) (val := .string z) HO4.out (by omega)) (by omega)))
              have HW6 := hide hw6
              clear hg6 hw6
              go_wp2_with fail
              go_roundw
              case rel => exact ⟨ys.length, left2, { x with name := z }, _, HO6.out, HE6.out, HW6.out, HGI.out, HOBJ2.out, HML.out, hml3⟩
              case measure =>
                have hB : badOf wr b = false := HBAD.out
                rw [HW6.out.badOf, hB, if_neg (show ¬ (false = true) by decide)]
                rcases HML.out with hm | hm
                · rw [if_pos hm]; simp [slLen]
                · split
                  · simp [slLen]
                  · simp [slLen]; omega
            · rw [hle] at HOBJ2 HML
              simp only [Bool.not_true, Bool.false_or] at HOBJ2 HML
              clear hle
              go_wp2_with (first | (go_at_call 46; refine (HT.out _).mono ?_; rintro _ w' ⟨rfl, rfl⟩))
              refine (back_any b g v l s3 true _ (HW3.out.later hbT) hl HIN3.out.1 HIN3.out.2).mono ?_
              rintro _ w4 ⟨rfl, hg4, hw4⟩
              dsimp only
              have hE4 := (HEF3.out.below hlt hbT).grown hlt hg4
              have HO4 := hide ((ownsRow_later HOWN3.out hbT).kept hg4 (own_apart (ownsRow_later HOWN3.out hbT) (by omega)))
              have t4 : w4.cell? ⟨w3.heap.size, 2, none⟩ = some (.string z) := hg4.cell (by rw [cell_of_row _ _ _ _ _ _ (heap_alloc_new _ _)]; rfl) (by simp; omega)
              have n4 : w4.cell? ⟨w.heap.size + 1, 0, none⟩ = some (.string x.name) := cell_of_row _ _ 0 _ _ _ hE4.xs
              have f4 := fun j => frozen_of_row w4 (w.heap.size + 1) j _ _ hE4.xs
              have HE4 := hide hE4
              have HW4 := hide hw4
              have HIN4 := hide (back_in (wrong := true) HIN3.out.1)
              have HG6 := hide (fun w' (hw : Wy w' b g v l (backP (true) s3)) => goes_any b g v l _ left2 orv ncap w' hw hl HIN4.out)
              have HGI := hide (goes_in (left := left2) hgood HIN4.out)
              clear hE4 hg4 hw4
              go_wp2_with fail
              refine (HG6.out _ (HW4.out.set_other (by omega) (by omega))).mono ?_
              rintro _ w6 ⟨rfl, hg6, hw6⟩
              dsimp only
              have HE6 := hide ((HE4.out.set (x' := { x with name := z }) 0 (.string z) rfl).grown hlt hg6)
              have HO6 := hide ((own_set (k := w.heap.size + 1) (i := 0) (val := .string z) HO4.out (by omega)).kept hg6 (own_apart (own_set (k := w.heap.size + 1) (i := 0) (val := .string z) HO4.out (by omega)) (by omega)))
              have HW6 := hide hw6
              clear hg6 hw6
              go_wp2_with fail
              go_roundw
              case rel => exact ⟨ys.length, left2, { x with name := z }, _, HO6.out, HE6.out, HW6.out, HGI.out, HOBJ2.out, HML.out, hml3⟩
              case measure =>
                have hB : badOf wr b = false := HBAD.out
                rw [HW6.out.badOf, hB, if_neg (show ¬ (false = true) by decide)]
                rcases HML.out with hm | hm
                · rw [if_pos hm]; simp [slLen]
                · split
                  · simp [slLen]
                  · simp [slLen]; omega
            · rw [hle] at HOBJ2 HML
              simp only [Bool.not_true, Bool.false_or] at HOBJ2 HML
              clear hle
              go_wp2_with (first | (go_at_call 46; refine (HT.out _).mono ?_; rintro _ w' ⟨rfl, rfl⟩))
              refine (back_any b g v l s3 false _ (HW3.out.later hbT) hl HIN3.out.1 HIN3.out.2).mono ?_
              rintro _ w4 ⟨rfl, hg4, hw4⟩
              dsimp only
              have hE4 := (HEF3.out.below hlt hbT).grown hlt hg4
              have HO4 := hide ((ownsRow_later HOWN3.out hbT).kept hg4 (own_apart (ownsRow_later HOWN3.out hbT) (by omega)))
              have t4 : w4.cell? ⟨w3.heap.size, 2, none⟩ = some (.string z) := hg4.cell (by rw [cell_of_row _ _ _ _ _ _ (heap_alloc_new _ _)]; rfl) (by simp; omega)
              have n4 : w4.cell? ⟨w.heap.size + 1, 0, none⟩ = some (.string x.name) := cell_of_row _ _ 0 _ _ _ hE4.xs
              have f4 := fun j => frozen_of_row w4 (w.heap.size + 1) j _ _ hE4.xs
              have HE4 := hide hE4
              have HW4 := hide hw4
              have HIN4 := hide (back_in (wrong := false) HIN3.out.1)
              have HG6 := hide (fun w' (hw : Wy w' b g v l (backP (false) s3)) => goes_any b g v l _ left2 orv ncap w' hw hl HIN4.out)
              have HGI := hide (goes_in (left := left2) hgood HIN4.out)
              clear hE4 hg4 hw4
              go_wp2_with fail
              refine (HG6.out _ (HW4.out.set_other (by omega) (by omega))).mono ?_
              rintro _ w6 ⟨rfl, hg6, hw6⟩
              dsimp only
              have HE6 := hide ((HE4.out.set (x' := { x with name := z }) 0 (.string z) rfl).grown hlt hg6)
              have HO6 := hide ((own_set (k := w.heap.size + 1) (i := 0) (val := .string z) HO4.out (by omega)).kept hg6 (own_apart (own_set (k := w.heap.size + 1) (i := 0) (val := .string z) HO4.out (by omega)) (by omega)))
              have HW6 := hide hw6
              clear hg6 hw6
              go_wp2_with fail
              go_roundw
              case rel => exact ⟨ys.length, left2, { x with name := z }, _, HO6.out, HE6.out, HW6.out, HGI.out, HOBJ2.out, HML.out, hml3⟩
              case measure =>
                have hB : badOf wr b = false := HBAD.out
                rw [HW6.out.badOf, hB, if_neg (show ¬ (false = true) by decide)]
                rcases HML.out with hm | hm
                · rw [if_pos hm]; simp [slLen]
                · split
                  · simp [slLen]
                  · simp [slLen]; omega
        · by_cases hn2 : nm = sDigest
          · subst hn2
            obtain ⟨tk, s3, hr⟩ : ∃ tk s3, wantsP l 115 s2 = (tk, s3) := ⟨_, _, rfl⟩
            have hc3 := wants_any b g v l s2 115 w2 HW2.out hl HMI.out
            have hin3 := wants_in hgood (kind := 115) (by decide) (by decide) HMI.out
            have hsh := wants_short hshort hr
            have hent := entB_digest (last := last) x hr
            rw [hr] at hc3 hin3
            rw [hent] at HOBJ2 HML
            obtain ⟨kk, pl, txt, num⟩ := tk
            dsimp only [Tk.cells, Tk.s] at hc3 hin3 hsh HOBJ2 HML
            generalize (⟨txt.toArray⟩ : ByteArray) = z at hc3 hsh HOBJ2 HML
            have HC3 := hide hc3
            have HIN3 := hide hin3
            clear hr hent hc3 hin3
            unfold sDigest
            go_wp2_with fail
            refine (HC3.out).mono ?_
            rintro _ w3 ⟨rfl, hg3, hw3⟩
            dsimp only
            have HEF3 := hide (HEF2.out.grown hlt hg3)
            have HOWN3 := hide (HOWN2.out.kept hg3 (own_apart HOWN2.out (by omega)))
            have HW3 := hide hw3
            have hsz3 := HEF3.out.size
            have hlt3 := hw3.lt
            have hbT : Below w3.heap.size w3 (w3.alloc (.cells #[.int .u8 ((kk : Nat) : Int), .int .i64 ((pl : Nat) : Int), .string z, .int .i64 ((num : Nat) : Int)] 47)) := (Below.refl _ _).alloc (Nat.le_refl _) _
            clear hg3 hw3 HC3 HW2 HEF2 HOWN2 y0 y1 y2
            have HT := hide (fun w' => isDigest_any z w' (by omega))
            cases htg : isDigB z with
            | false =>
              rw [htg] at HT HOBJ2 HML
              simp only [Bool.not_false] at HOBJ2 HML
              go_wp2_with (first | (go_at_call 47; refine (HT.out _).mono ?_; rintro _ w' ⟨rfl, rfl⟩))
              refine (back_any b g v l s3 true _ (HW3.out.later hbT) hl HIN3.out.1 HIN3.out.2).mono ?_
              rintro _ w4 ⟨rfl, hg4, hw4⟩
              dsimp only
              have hE4 := (HEF3.out.below hlt hbT).grown hlt hg4
              have HO4 := hide ((ownsRow_later HOWN3.out hbT).kept hg4 (own_apart (ownsRow_later HOWN3.out hbT) (by omega)))
              have t4 : w4.cell? ⟨w3.heap.size, 2, none⟩ = some (.string z) := hg4.cell (by rw [cell_of_row _ _ _ _ _ _ (heap_alloc_new _ _)]; rfl) (by simp; omega)
              have n4 : w4.cell? ⟨w.heap.size + 1, 1, none⟩ = some (.string x.dig) := cell_of_row _ _ 1 _ _ _ hE4.xs
              have f4 := fun j => frozen_of_row w4 (w.heap.size + 1) j _ _ hE4.xs
              have HE4 := hide hE4
              have HW4 := hide hw4
              have HIN4 := hide (back_in (wrong := true) HIN3.out.1)
              have HG6 := hide (fun w' (hw : Wy w' b g v l (backP (true) s3)) => goes_any b g v l _ left2 orv ncap w' hw hl HIN4.out)
              have HGI := hide (goes_in (left := left2) hgood HIN4.out)
              clear hE4 hg4 hw4
              go_wp2_with fail
              refine (HG6.out _ (HW4.out.set_other (by omega) (by omega))).mono ?_
              rintro _ w6 ⟨rfl, hg6, hw6⟩
              dsimp only
              have HE6 := hide ((HE4.out.set (x' := { x with dig := z }) 1 (.string z) rfl).grown hlt hg6)
              have HO6 := hide ((own_set (k := w.heap.size + 1) (i := 1) (val := .string z) HO4.out (by omega)).kept hg6 (own_apart (own_set (k := w.heap.size + 1) (i := 1) (val := .string z) HO4.out (by omega)) (by omega)))
              have HW6 := hide hw6
              clear hg6 hw6
              go_wp2_with fail
              go_roundw
              case rel => exact ⟨ys.length, left2, { x with dig := z }, _, HO6.out, HE6.out, HW6.out, HGI.out, HOBJ2.out, HML.out, hml3⟩
              case measure =>
                have hB : badOf wr b = false := HBAD.out
                rw [HW6.out.badOf, hB, if_neg (show ¬ (false = true) by decide)]
                rcases HML.out with hm | hm
                · rw [if_pos hm]; simp [slLen]
                · split
                  · simp [slLen]
                  · simp [slLen]; omega
            | true =>
              rw [htg] at HT HOBJ2 HML
              simp only [Bool.not_true] at HOBJ2 HML
              go_wp2_with (first | (go_at_call 47; refine (HT.out _).mono ?_; rintro _ w' ⟨rfl, rfl⟩))
              refine (back_any b g v l s3 false _ (HW3.out.later hbT) hl HIN3.out.1 HIN3.out.2).mono ?_
              rintro _ w4 ⟨rfl, hg4, hw4⟩
              dsimp only
              have hE4 := (HEF3.out.below hlt hbT).grown hlt hg4
              have HO4 := hide ((ownsRow_later HOWN3.out hbT).kept hg4 (own_apart (ownsRow_later HOWN3.out hbT) (by omega)))
              have t4 : w4.cell? ⟨w3.heap.size, 2, none⟩ = some (.string z) := hg4.cell (by rw [cell_of_row _ _ _ _ _ _ (heap_alloc_new _ _)]; rfl) (by simp; omega)
              have n4 : w4.cell? ⟨w.heap.size + 1, 1, none⟩ = some (.string x.dig) := cell_of_row _ _ 1 _ _ _ hE4.xs
              have f4 := fun j => frozen_of_row w4 (w.heap.size + 1) j _ _ hE4.xs
              have HE4 := hide hE4
              have HW4 := hide hw4
              have HIN4 := hide (back_in (wrong := false) HIN3.out.1)
              have HG6 := hide (fun w' (hw : Wy w' b g v l (backP (false) s3)) => goes_any b g v l _ left2 orv ncap w' hw hl HIN4.out)
              have HGI := hide (goes_in (left := left2) hgood HIN4.out)
              clear hE4 hg4 hw4
              go_wp2_with fail
              refine (HG6.out _ (HW4.out.set_other (by omega) (by omega))).mono ?_
              rintro _ w6 ⟨rfl, hg6, hw6⟩
              dsimp only
              have HE6 := hide ((HE4.out.set (x' := { x with dig := z }) 1 (.string z) rfl).grown hlt hg6)
              have HO6 := hide ((own_set (k := w.heap.size + 1) (i := 1) (val := .string z) HO4.out (by omega)).kept hg6 (own_apart (own_set (k := w.heap.size + 1) (i := 1) (val := .string z) HO4.out (by omega)) (by omega)))
              have HW6 := hide hw6
              clear hg6 hw6
              go_wp2_with fail
              go_roundw
              case rel => exact ⟨ys.length, left2, { x with dig := z }, _, HO6.out, HE6.out, HW6.out, HGI.out, HOBJ2.out, HML.out, hml3⟩
              case measure =>
                have hB : badOf wr b = false := HBAD.out
                rw [HW6.out.badOf, hB, if_neg (show ¬ (false = true) by decide)]
                rcases HML.out with hm | hm
                · rw [if_pos hm]; simp [slLen]
                · split
                  · simp [slLen]
                  · simp [slLen]; omega
          · by_cases hn3 : nm = sSize
            · subst hn3
              obtain ⟨tk, s3, hr⟩ : ∃ tk s3, wantsP l 110 s2 = (tk, s3) := ⟨_, _, rfl⟩
              have hc3 := wants_any b g v l s2 110 w2 HW2.out hl HMI.out
              have hin3 := wants_in hgood (kind := 110) (by decide) (by decide) HMI.out
              have hsh := wants_short hshort hr
              have hent := entB_size (last := last) x hr
              rw [hr] at hc3 hin3
              rw [hent] at HOBJ2 HML
              obtain ⟨kk, pl, txt, num⟩ := tk
              dsimp only [Tk.cells, Tk.s] at hc3 hin3 hsh HOBJ2 HML
              generalize (⟨txt.toArray⟩ : ByteArray) = z at hc3 hsh HOBJ2 HML
              have HC3 := hide hc3
              have HIN3 := hide hin3
              clear hr hent hc3 hin3
              unfold sSize
              go_wp2_with fail
              refine (HC3.out).mono ?_
              rintro _ w3 ⟨rfl, hg3, hw3⟩
              dsimp only
              have HEF3 := hide (HEF2.out.grown hlt hg3)
              have HOWN3 := hide (HOWN2.out.kept hg3 (own_apart HOWN2.out (by omega)))
              have HW3 := hide hw3
              have hsz3 := HEF3.out.size
              have hlt3 := hw3.lt
              have hbT : Below w3.heap.size w3 (w3.alloc (.cells #[.int .u8 ((kk : Nat) : Int), .int .i64 ((pl : Nat) : Int), .string z, .int .i64 ((num : Nat) : Int)] 47)) := (Below.refl _ _).alloc (Nat.le_refl _) _
              clear hg3 hw3 HC3 HW2 HEF2 HOWN2 y0 y1 y2
              by_cases h300 : 300 < num
              · have e300 : decide ((300 : Int) < ((num : Nat) : Int)) = true := by simp; omega
                simp only [h300, decide_true] at HOBJ2 HML
                go_wp2_with fail
                refine (back_any b g v l s3 true _ (HW3.out.later hbT) hl HIN3.out.1 HIN3.out.2).mono ?_
                rintro _ w4 ⟨rfl, hg4, hw4⟩
                dsimp only
                have hE4 := (HEF3.out.below hlt hbT).grown hlt hg4
                have HO4 := hide ((ownsRow_later HOWN3.out hbT).kept hg4 (own_apart (ownsRow_later HOWN3.out hbT) (by omega)))
                have t4 : w4.cell? ⟨w3.heap.size, 3, none⟩ = some (.int .i64 ((num : Nat) : Int)) := hg4.cell (by rw [cell_of_row _ _ _ _ _ _ (heap_alloc_new _ _)]; rfl) (by simp; omega)
                have n4 : w4.cell? ⟨w.heap.size + 1, 2, none⟩ = some (.int .i64 ((x.size : Nat) : Int)) := cell_of_row _ _ 2 _ _ _ hE4.xs
                have f4 := fun j => frozen_of_row w4 (w.heap.size + 1) j _ _ hE4.xs
                have HE4 := hide hE4
                have HW4 := hide hw4
                have HIN4 := hide (back_in (wrong := true) HIN3.out.1)
                have HG6 := hide (fun w' (hw : Wy w' b g v l (backP (true) s3)) => goes_any b g v l _ left2 orv ncap w' hw hl HIN4.out)
                have HGI := hide (goes_in (left := left2) hgood HIN4.out)
                clear hE4 hg4 hw4
                go_wp2_with fail
                refine (HG6.out _ (HW4.out.set_other (by omega) (by omega))).mono ?_
                rintro _ w6 ⟨rfl, hg6, hw6⟩
                dsimp only
                have HE6 := hide ((HE4.out.set (x' := { x with size := num }) 2 (.int .i64 ((num : Nat) : Int)) rfl).grown hlt hg6)
                have HO6 := hide ((own_set (k := w.heap.size + 1) (i := 2) (val := .int .i64 ((num : Nat) : Int)) HO4.out (by omega)).kept hg6 (own_apart (own_set (k := w.heap.size + 1) (i := 2) (val := .int .i64 ((num : Nat) : Int)) HO4.out (by omega)) (by omega)))
                have HW6 := hide hw6
                clear hg6 hw6
                go_wp2_with fail
                go_roundw
                case rel => exact ⟨ys.length, left2, { x with size := num }, _, HO6.out, HE6.out, HW6.out, HGI.out, HOBJ2.out, HML.out, hml3⟩
                case measure =>
                  have hB : badOf wr b = false := HBAD.out
                  rw [HW6.out.badOf, hB, if_neg (show ¬ (false = true) by decide)]
                  rcases HML.out with hm | hm
                  · rw [if_pos hm]; simp [slLen]
                  · split
                    · simp [slLen]
                    · simp [slLen]; omega
              · have e300 : decide ((300 : Int) < ((num : Nat) : Int)) = false := by simp; omega
                simp only [h300, decide_false] at HOBJ2 HML
                go_wp2_with fail
                refine (back_any b g v l s3 false _ (HW3.out.later hbT) hl HIN3.out.1 HIN3.out.2).mono ?_
                rintro _ w4 ⟨rfl, hg4, hw4⟩
                dsimp only
                have hE4 := (HEF3.out.below hlt hbT).grown hlt hg4
                have HO4 := hide ((ownsRow_later HOWN3.out hbT).kept hg4 (own_apart (ownsRow_later HOWN3.out hbT) (by omega)))
                have t4 : w4.cell? ⟨w3.heap.size, 3, none⟩ = some (.int .i64 ((num : Nat) : Int)) := hg4.cell (by rw [cell_of_row _ _ _ _ _ _ (heap_alloc_new _ _)]; rfl) (by simp; omega)
                have n4 : w4.cell? ⟨w.heap.size + 1, 2, none⟩ = some (.int .i64 ((x.size : Nat) : Int)) := cell_of_row _ _ 2 _ _ _ hE4.xs
                have f4 := fun j => frozen_of_row w4 (w.heap.size + 1) j _ _ hE4.xs
                have HE4 := hide hE4
                have HW4 := hide hw4
                have HIN4 := hide (back_in (wrong := false) HIN3.out.1)
                have HG6 := hide (fun w' (hw : Wy w' b g v l (backP (false) s3)) => goes_any b g v l _ left2 orv ncap w' hw hl HIN4.out)
                have HGI := hide (goes_in (left := left2) hgood HIN4.out)
                clear hE4 hg4 hw4
                go_wp2_with fail
                refine (HG6.out _ (HW4.out.set_other (by omega) (by omega))).mono ?_
                rintro _ w6 ⟨rfl, hg6, hw6⟩
                dsimp only
                have HE6 := hide ((HE4.out.set (x' := { x with size := num }) 2 (.int .i64 ((num : Nat) : Int)) rfl).grown hlt hg6)
                have HO6 := hide ((own_set (k := w.heap.size + 1) (i := 2) (val := .int .i64 ((num : Nat) : Int)) HO4.out (by omega)).kept hg6 (own_apart (own_set (k := w.heap.size + 1) (i := 2) (val := .int .i64 ((num : Nat) : Int)) HO4.out (by omega)) (by omega)))
                have HW6 := hide hw6
                clear hg6 hw6
                go_wp2_with fail
                go_roundw
                case rel => exact ⟨ys.length, left2, { x with size := num }, _, HO6.out, HE6.out, HW6.out, HGI.out, HOBJ2.out, HML.out, hml3⟩
                case measure =>
                  have hB : badOf wr b = false := HBAD.out
                  rw [HW6.out.badOf, hB, if_neg (show ¬ (false = true) by decide)]
                  rcases HML.out with hm | hm
                  · rw [if_pos hm]; simp [slLen]
                  · split
                    · simp [slLen]
                    · simp [slLen]; omega
            · have hent := entB_none (l := l) (last := last) x s2 hn1 hn2 hn3
              rw [hent] at HOBJ2 HML
              dsimp only at HOBJ2 HML
              have f1 : (nm.toList == [116, 97, 103]) = false := by rw [beq_eq_false_iff_ne]; exact fun e => hn1 ((toList_inj nm sTag).1 (e.trans (by rw [ByteArray.toList_eq]; rfl)))
              have f2 : (nm.toList == [100, 105, 103, 101, 115, 116]) = false := by rw [beq_eq_false_iff_ne]; exact fun e => hn2 ((toList_inj nm sDigest).1 (e.trans (by rw [ByteArray.toList_eq]; rfl)))
              have f3 : (nm.toList == [115, 105, 122, 101]) = false := by rw [beq_eq_false_iff_ne]; exact fun e => hn3 ((toList_inj nm sSize).1 (e.trans (by rw [ByteArray.toList_eq]; rfl)))
              have HG6 := hide (goes_any b g v l _ left2 orv ncap w2 HW2.out hl HMI.out)
              have HGI := hide (goes_in (left := left2) hgood HMI.out)
              clear hn1 hn2 hn3 hent
              go_wp2_with fail
              refine (HG6.out).mono ?_
              rintro _ w6 ⟨rfl, hg6, hw6⟩
              dsimp only
              have HE6 := hide (HEF2.out.grown hlt hg6)
              have HO6 := hide (HOWN2.out.kept hg6 (own_apart HOWN2.out (by omega)))
              have HW6 := hide hw6
              clear hg6 hw6
              go_wp2_with fail
              go_roundw
              case rel => exact ⟨ys.length, left2, x, _, HO6.out, HE6.out, HW6.out, HGI.out, HOBJ2.out, HML.out, hml3⟩
              case measure =>
                have hB : badOf wr b = false := HBAD.out
                rw [HW6.out.badOf, hB, if_neg (show ¬ (false = true) by decide)]
                rcases HML.out with hm | hm
                · rw [if_pos hm]; simp [slLen]
                · split
                  · simp [slLen]
                  · simp [slLen]; omega
end Go.Proofs.Ytpgamoielkpakaa

/-
  PROVED HERE: what the document's own function entries answers: the entries, as the plain function says, in a row of its own.
-/
namespace Go.Proofs.Ytpgamoielkpakaa
open Go.RowKit
def EnsAt (w : World) (base : Nat) (v : Value) (es : List En) : Prop := w.ownsRow base 55 3 v es.length (es.flatMap (fun x => x.cells.toList))
theorem en_one (x : En) : ∀ u ∈ x.cells.toList, u.oneCell' = true := by
  intro u hu
  simp only [En.cells, List.mem_cons, List.not_mem_nil, or_false] at hu
  rcases hu with rfl | rfl | rfl <;> rfl
theorem Wy.lower {w w' : World} {b g B : Nat} {v : Value} {l : List Tk} {s : Ws} (h : Wy w b g v l s) (hb : Below B w w') (h1 : b < B) (h2 : g < B) : Wy w' b g v l s := by
  obtain ⟨cur, e1, e2⟩ := h.row
  exact ⟨(hb.block b h1).trans h.blk, h.sl, ⟨cur, (hb.block g h2).trans e1, e2⟩, h.ne⟩
theorem grown_lower {w w1 w2 : World} {b : Option Nat} (h : w.grownBy w1 b) (hb : Below w.heap.size w1 w2) : w.grownBy w2 b :=
  ⟨hb.os.trans h.os, hb.tape.trans h.tape, hb.output.trans h.output, Nat.le_trans h.size hb.size, fun k hk hne => (hb.block k hk).trans (h.block k hk hne)⟩
theorem ents_step {l : List Tk} {n : Nat} {es : List En} {last : ByteArray} {s s3 : Ws} {x : En} {R : List En × Ws} (h : entryP l last s = (x, s3)) (hF : entsP l n es last s = R) :
    (s3.bad = false ∧ (l.getD s3.j tk0).kind = 44 ∧ 0 < n → entsP l (n - 1) (es ++ [x]) x.name ⟨s3.j + 1, false⟩ = R) ∧ (¬ (s3.bad = false ∧ (l.getD s3.j tk0).kind = 44 ∧ 0 < n) → R = (es ++ [x], (wantsP l 93 s3).2)) := by
  cases n with
  | zero =>
    rw [entsP, h] at hF
    refine ⟨fun hc => by omega, fun _ => hF.symm⟩
  | succ n =>
    rw [entsP, h] at hF
    dsimp only at hF
    refine ⟨fun hc => ?_, fun hc => ?_⟩
    · rw [if_pos ⟨hc.1, hc.2.1⟩] at hF; exact hF
    · rw [if_neg (fun h2 => hc ⟨h2.1, h2.2, by omega⟩)] at hF; exact hF.symm
set_option maxHeartbeats 2000000 in
set_option maxRecDepth 100000 in
theorem entries_any (b g : Nat) (v : Value) (l : List Tk) (s : Ws) (w : World) (h : Wy w b g v l s) (hl : l.length ≤ 2001) (hgood : GoodL l) (hshort : ShortL l) (hin : InL l s) :
    Calls Try.prog 17 #[.pointer (some ⟨b, 0, none⟩)] w fun e w' => w.grownBy w' (some b) ∧ Wy w' b g v l (entriesP l s).2 ∧ ∃ rv, e = .returned rv ∧ EnsAt w' w.heap.size rv (entriesP l s).1 := by
  have HC := hide (wants_any b g v l s 91 w h hl hin)
  have HIN := hide (wants_in hgood (kind := 91) (by decide) (by decide) hin).1
  have hlt := h.lt
  have hltg := h.ltg
  obtain ⟨tv, cap0, hsl⟩ : ∃ (tv : Unit) (cap : Nat), v = .slice (some ⟨g, 0, none⟩) l.length cap := by obtain ⟨c, hc⟩ := h.sl; exact ⟨(), c, hc⟩
  subst hsl
  obtain ⟨i0, hi, hz0, hz1, hz2⟩ := info_parts Try.infoTag
  have hE : entriesP l s = if (wantsP l 91 s).2.bad = true then ([], (wantsP l 91 s).2) else if (l.getD (wantsP l 91 s).2.j tk0).kind = 93 then ([], ⟨(wantsP l 91 s).2.j + 1, false⟩) else entsP l 7 [] ⟨#[]⟩ (wantsP l 91 s).2 := rfl
  generalize wantsP l 91 s = r1 at HC HIN hE
  obtain ⟨tk1, j1, bad1⟩ := r1
  dsimp only at HC HIN hE
  have HE := hide hE
  clear hE h hin
  go_enter Try.func17, Try.ntmps17
  go_wp2_with fail
  refine (HC.out).mono ?_
  rintro _ w1 ⟨rfl, hg1, hw1⟩
  dsimp only
  have hjl : j1 < l.length := HIN.out
  have ht := hw1.tok j1 hjl
  obtain ⟨c0, c1, c2⟩ := hw1.cells
  dsimp only at c1 c2
  have t0 := ht 0 _ rfl
  have t1 := ht 1 _ rfl
  have t2 := ht 2 _ rfl
  have t3 := ht 3 _ rfl
  simp only [Nat.add_zero, Nat.zero_add] at t0 t1 t2 t3
  have hf := fun j => frozen_of_row w1 b j _ _ hw1.blk
  have HG1 := hide hg1
  have HW1 := hide hw1
  have hsz1 := hg1.size
  clear hg1 hw1 ht HC
  generalize hk : (l.getD j1 tk0).kind = kk at t0 HE
  generalize (l.getD j1 tk0).pl = pl at t1
  generalize (l.getD j1 tk0).txt = txt at t2
  generalize (l.getD j1 tk0).num = num at t3
  cases bad1 with
  | true =>
    have hfin := HE.out
    simp only [if_true] at hfin
    go_wp2_with fail
    go_quiet (fail)
    go_wp2_with fail
    go_loopw [3] (fun lv wr => lv = .slice none 0 0 ∧ Below w1.heap.size w1 wr) (fun _ _ => 0)
    case atStart => exact ⟨rfl, (Below.refl _ _).drewN _⟩
    case round =>
      obtain ⟨rfl, hrel⟩ := hrel
      have c2r := cell_later hrel c2
      have HR := hide hrel
      clear hrel
      go_wp2_with fail
      go_ret
      rw [hfin]
      exact ⟨grownBy_trans HG1.out (grownBy_below HR.out _), HW1.out.later HR.out, _, rfl, World.ownsRow_nil wr w.heap.size 55 3⟩
  | false =>
    by_cases h93 : kk = 93
    · subst h93
      have hfin := HE.out
      simp only [Bool.false_eq_true, if_false, if_true] at hfin
      have e93 : (((93 : Nat) : Int) == 93) = true := by decide
      go_wp2_with fail
      go_quiet (fail)
      go_wp2_with fail
      go_ret
      rw [hfin]
      have hg2 : w1.grownBy ((w1.drewN nq).setCell ⟨b, 1, none⟩ (.int .i64 ((j1 : Int) + 1))) (some b) := grownBy_trans (grownBy_below ((Below.refl _ _).drewN nq) _) (grownBy_set _ _ _ _)
      refine ⟨grownBy_trans HG1.out hg2, HW1.out.to hg2 ?_, _, rfl, World.ownsRow_nil _ _ _ _⟩
      rw [heap_setCell_same (w1.drewN nq) b 1 _ _ _ HW1.out.blk]
      simp
    · have e93 : ((kk : Int) == 93) = false := by simp; omega
      have hfin := HE.out
      simp only [Bool.false_eq_true, if_false, h93] at hfin
      have HFIN := hide hfin
      clear hfin HE
      go_wp2_with fail
      go_quiet (fail)
      go_wp2_with fail
      go_loopw [3, 4] (fun lv lastv wr => ∃ (n : Nat) (es : List En) (lastB : ByteArray) (s1 : Ws), EnsAt wr w.heap.size lv es ∧ lastv = .string lastB ∧ s1.bad = false ∧ es.length + n = 7 ∧ Wy wr b g (.slice (some ⟨g, 0, none⟩) l.length cap0) l s1 ∧ InL l s1 ∧ w.grownBy wr (some b) ∧ entsP l n es lastB s1 = entriesP l s)
        (fun lv _ _ => 8 - slLen lv)
      case atStart => exact ⟨7, [], _, ⟨j1, false⟩, World.ownsRow_nil _ _ _ _, rfl, rfl, rfl, HW1.out.later ((Below.refl _ _).drewN _), hjl, grownBy_trans HG1.out (grownBy_below ((Below.refl _ _).drewN _) _), HFIN.out.symm⟩
      case round =>
        obtain ⟨n, es, lastB, s1, hown, rfl, hb1, hn, hw, hin1, hgr, hfin⟩ := hrel
        obtain ⟨j2, bad2⟩ := s1
        dsimp only at hb1
        subst hb1
        obtain ⟨d0, d1, d2⟩ := hw.cells
        dsimp only at d1 d2
        have HENT := hide (entry_any b g _ l ⟨j2, false⟩ lastB wr hw hl hgood hshort hin1)
        have HEI := hide (entry_in hgood lastB (s := ⟨j2, false⟩) hin1)
        have HOWN := hide hown
        have HGR := hide hgr
        have HF := hide hfin
        obtain ⟨o3, cap3, hv3⟩ := own_sl hown
        subst hv3
        clear hown hw hin1 hgr hfin c0 c1 c2 t0 t1 t2 t3
        obtain ⟨⟨xn, xd, xz⟩, ⟨j3, bad3⟩, hre⟩ : ∃ x s3, entryP l lastB ⟨j2, false⟩ = (x, s3) := ⟨_, _, rfl⟩
        rw [hre] at HENT HEI
        have HRE := hide hre
        clear hre
        dsimp only [En.cells] at HENT HEI
        go_wp2_with fail
        refine (HENT.out).mono ?_
        rintro _ w3 ⟨hg3, hw3, rfl⟩
        dsimp only
        have HW3 := hide hw3
        have hsz3 : wr.heap.size ≤ w3.heap.size := hg3.size
        have hszr := HGR.out.size
        have HGR3 := hide (grownBy_trans HGR.out hg3)
        have HOWN3 := hide (World.ownsRow.kept HOWN.out hg3 (own_apart HOWN.out hlt))
        clear hg3 hw3 HENT
        go_wp2_with (refine wpList_append_own _ rfl _ _ 22 rfl w.heap.size 55 i0 _ 3 40 Try.underlying22 hi hz0 hz1 hz2 rfl (by decide) _ es.length _ rfl ((HOWN3.out.alloc _).alloc _) ⟨w3.heap.size + 1, 0, none⟩ 1 1 [.string xn, .string xd, .int .i64 ((xz : Nat) : Int)] rfl rfl (row_cells (heap_alloc2_new _ _ _)) (en_one ⟨xn, xd, xz⟩) (by unfold maxLen; omega) (by omega) (by rw [size_alloc2]; omega) ?_; rintro v4 w4 hv4 hg4 _; have HV4 := hide hv4; have HG4 := hide hg4; clear hv4 hg4)
        have hB34 : Below w.heap.size w3 w4 := ((((Below.refl _ _).alloc (by omega) _).alloc (by rw [size_alloc]; omega) _).grown HG4.out (by rw [size_alloc2]; omega) (fun k hk => (HOWN3.out.lt k hk).1))
        have HW4 := hide (HW3.out.lower hB34 hlt hltg)
        have HGR4 := hide (grown_lower HGR3.out hB34)
        obtain ⟨o4, cap4, hv4⟩ := own_sl HV4.out
        subst hv4
        have hj3 : j3 < l.length := HEI.out
        obtain ⟨p0, p1, p2⟩ := HW4.out.cells
        dsimp only at p1 p2
        have ht := HW4.out.tok j3 hj3
        have q0 := ht 0 _ rfl
        have q1 := ht 1 _ rfl
        have q2 := ht 2 _ rfl
        have q3 := ht 3 _ rfl
        simp only [Nat.add_zero, Nat.zero_add] at q0 q1 q2 q3
        have f4 := fun j => frozen_of_row w4 b j _ _ HW4.out.blk
        obtain ⟨k3, hk3⟩ : ∃ k3, k3 = (l.getD j3 tk0).kind := ⟨_, rfl⟩
        rw [← hk3] at q0
        generalize (l.getD j3 tk0).pl = pl3 at q1
        generalize (l.getD j3 tk0).txt = txt3 at q2
        generalize (l.getD j3 tk0).num = num3 at q3
        have HK3 := hide hk3
        have HOWN4 : Hid (EnsAt w4 w.heap.size (.slice o4 (es.length + 1) cap4) (es ++ [⟨xn, xd, xz⟩])) := by
          have h := HV4.out
          unfold EnsAt
          rw [List.length_append, List.flatMap_append]
          exact h
        have HC93 := hide (fun w' (hb : Below w4.heap.size w4 w') => wants_any b g _ l ⟨j3, bad3⟩ 93 w' (HW4.out.later hb) hl hj3)
        have HF2 := hide (ents_step (n := n) (es := es) HRE.out HF.out)
        clear ht hk3 hB34 HW3 HOWN3 HV4 HG4 HGR3 HF HRE HEI
        cases bad3 with
        | true =>
          go_wp2_with fail
          go_quiet (fail)
          go_wp2_with fail
          refine (HC93.out _ ((Below.refl _ _).drewN nq)).mono ?_
          rintro _ w6 ⟨rfl, hg6, hw6⟩
          dsimp only
          go_wp2_with fail
          go_ret
          have hR := HF2.out.2 (by simp)
          rw [hR]
          refine ⟨grownBy_trans (grownBy_trans HGR4.out (grownBy_below ((Below.refl _ _).drewN nq) _)) hg6, hw6, _, rfl, ?_⟩
          exact World.ownsRow.kept (ownsRow_later HOWN4.out ((Below.refl _ _).drewN nq)) hg6 (own_apart HOWN4.out hlt)
        | false =>
          by_cases h44 : k3 = 44
          · subst h44
            have e44 : (((44 : Nat) : Int) == 44) = true := by decide
            by_cases hn0 : 0 < n
            · have e8 : ((es.length : Int) + 1) < 8 := by omega
              go_wp2_with fail
              go_quiet (fail)
              go_wp2_with fail
              go_roundw
              case rel =>
                have hg5 : w4.grownBy ((w4.drewN nq).setCell ⟨b, 1, none⟩ (.int .i64 ((j3 : Int) + 1))) (some b) := grownBy_trans (grownBy_below ((Below.refl _ _).drewN nq) _) (grownBy_set _ _ _ _)
                refine ⟨n - 1, es ++ [⟨xn, xd, xz⟩], xn, ⟨j3 + 1, false⟩, ?_, by trivial, by trivial, by simp; omega, HW4.out.to hg5 ?_, step_in hgood (k := 44) (by decide) (by decide) hj3 HK3.out.symm, grownBy_trans HGR4.out hg5, HF2.out.1 ⟨by trivial, HK3.out.symm, hn0⟩⟩
                · exact World.ownsRow.kept HOWN4.out hg5 (own_apart HOWN4.out hlt)
                · rw [heap_setCell_same (w4.drewN nq) b 1 _ _ _ HW4.out.blk]
                  simp
              case measure => simp [slLen]; omega
            · have e8 : decide (((es.length : Int) + 1) < 8) = false := by simp; omega
              go_wp2_with fail
              go_quiet (fail)
              go_wp2_with fail
              refine (HC93.out _ ((Below.refl _ _).drewN nq)).mono ?_
              rintro _ w6 ⟨rfl, hg6, hw6⟩
              dsimp only
              go_wp2_with fail
              go_ret
              have hR := HF2.out.2 (by rintro ⟨-, -, h9⟩; omega)
              rw [hR]
              refine ⟨grownBy_trans (grownBy_trans HGR4.out (grownBy_below ((Below.refl _ _).drewN nq) _)) hg6, hw6, _, rfl, ?_⟩
              exact World.ownsRow.kept (ownsRow_later HOWN4.out ((Below.refl _ _).drewN nq)) hg6 (own_apart HOWN4.out hlt)
          · have e44 : ((k3 : Int) == 44) = false := by simp; omega
            go_wp2_with fail
            go_quiet (fail)
            go_wp2_with fail
            refine (HC93.out _ ((Below.refl _ _).drewN nq)).mono ?_
            rintro _ w6 ⟨rfl, hg6, hw6⟩
            dsimp only
            go_wp2_with fail
            go_ret
            have hR := HF2.out.2 (by rintro ⟨-, h9, -⟩; rw [← HK3.out] at h9; exact h44 h9)
            rw [hR]
            refine ⟨grownBy_trans (grownBy_trans HGR4.out (grownBy_below ((Below.refl _ _).drewN nq) _)) hg6, hw6, _, rfl, ?_⟩
            exact World.ownsRow.kept (ownsRow_later HOWN4.out ((Below.refl _ _).drewN nq)) hg6 (own_apart HOWN4.out hlt)
end Go.Proofs.Ytpgamoielkpakaa
