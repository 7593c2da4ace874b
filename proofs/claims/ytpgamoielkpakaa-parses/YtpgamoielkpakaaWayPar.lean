/-
  PROVED HERE: what the document's own Parse answers for every text: as its plain function says.
-/
import Derived.Test.YtpgamoielkpakaaWayEns
namespace Go.Proofs.Ytpgamoielkpakaa
open Go.RowKit
theorem strS_len (t : ByteArray) (a : Nat) (acc : List UInt8) : ∀ l c, strS t a acc = some (l, c) → l.length + a ≤ acc.length + c := by
  fun_induction strS t a acc with
  | case1 a acc h => intro l c e; cases e
  | case2 a acc h => intro l c e; cases e; omega
  | case3 a acc h hn h2 => intro l c e; cases e
  | case4 a acc h hn y h2 hy ih => intro l c e; have := ih l c e; simp at this; omega
  | case5 a acc h hn y h2 hy => intro l c e; cases e
  | case6 a acc x h hn hn2 ih => intro l c e; have := ih l c e; simp at this; omega
theorem nextAt_len (t : ByteArray) (p : Nat) (ht : t.size ≤ 2000) : ∀ k q n l c, nextAt t p = .tok k q n l c → l.length ≤ 2000 := by
  intro k q n l c e
  unfold nextAt at e
  split at e
  · split at e
    · cases e; simp
    · split at e
      · split at e
        · cases e; simp
        · cases e
      · split at e
        · split at e
          · rename_i hs
            cases e
            have h1 := strS_len t (p + 1) [] _ _ hs
            have h2 := strS_to t (p + 1) [] _ _ hs
            simp at h1; omega
          · cases e
        · cases e
  · cases e; simp
theorem shortL_cut (t : ByteArray) (ht : t.size ≤ 2000) (p : Nat) : ShortL (cutL t p) := by
  cases e : nextAt t (skipS t p) with
  | bad q => rw [cutL_bad e]; intro tk h; simp only [List.mem_singleton] at h; subst h; simp
  | tok k q n s c =>
    by_cases hk : k = 0
    · subst hk
      rw [cutL_end e]; intro tk h; simp only [List.mem_singleton] at h; subst h; simp
    · have hlt : p < c ∧ p < t.size := by
        have h1 := (nextAt_to t _ _ _ _ _ _ e).2
        have h2 := skipS_up t p
        rcases h1 with h1 | h1
        · exact absurd h1.1 hk
        · omega
      have ih := shortL_cut t ht c
      rw [cutL_tok e hk]
      intro tk h
      simp only [List.mem_cons] at h
      rcases h with rfl | h
      · exact nextAt_len t _ ht _ _ _ _ _ e
      · exact ih tk h
termination_by t.size - p
set_option maxHeartbeats 1000000 in
set_option maxRecDepth 100000 in
theorem refParse_long (t : ByteArray) (w : World) (ht : ¬ t.size ≤ 2000) :
    Calls Try.prog 5 #[.string t] w fun e w' => Below w.heap.size w w' ∧ e = .returned (.tuple #[.slice none 0 0, .int .i64 6, .int .i64 0]) := by
  have h1 : 2000 < (t.size : Int) := by omega
  go_enter Try.func5, Try.ntmps5
  go_wp2
  go_ret3
  exact ⟨Below.refl _ _, rfl⟩
/-- What Parse's frame holds: the way, the list so far, the members that are left; and that only the way's block has changed of what was there. -/
structure PF (W wr : World) (b g : Nat) (v lv fv : Value) (l : List Tk) (s1 : Ws) (es : List En) (left : List ByteArray) : Prop where
  way : Wy wr b g v l s1
  lst : EnsAt wr W.heap.size lv es
  lft : wr.ownsRow W.heap.size 9 1 fv left.length (left.map Value.string)
  gr : W.grownBy wr (some b)
theorem PF.grown {W wr w2 : World} {b g : Nat} {v lv fv : Value} {l : List Tk} {s1 s2 : Ws} {es : List En} {left : List ByteArray} (h : PF W wr b g v lv fv l s1 es left) (hb : b < W.heap.size) (hg : wr.grownBy w2 (some b)) (hw : Wy w2 b g v l s2) : PF W w2 b g v lv fv l s2 es left :=
  ⟨hw, World.ownsRow.kept h.lst hg (own_apart h.lst hb), h.lft.kept hg (own_apart h.lft hb), grownBy_trans h.gr hg⟩
theorem PF.below {W wr w2 : World} {b g : Nat} {v lv fv : Value} {l : List Tk} {s1 : Ws} {es : List En} {left : List ByteArray} (h : PF W wr b g v lv fv l s1 es left) (hb : b < W.heap.size) (hg : Below wr.heap.size wr w2) : PF W w2 b g v lv fv l s1 es left :=
  h.grown hb (grownBy_below hg _) (h.way.later hg)
theorem wants0_in {l : List Tk} {s : Ws} (h : InL l s) : (wantsP l 0 s).2.bad = true → (wantsP l 0 s).2.j < l.length := by
  unfold wantsP
  split
  · intro _; exact h
  · intro e; cases e
theorem below_of_grown {W w' : World} {b B : Nat} (h : W.grownBy w' (some b)) (hb : B ≤ b) (hB : B ≤ W.heap.size) : Below B W w' :=
  ⟨h.os, h.tape, h.output, h.size, fun k hk => h.block k (by omega) (fun e => by injection e with e; omega)⟩
theorem topB_version {l : List Tk} (es : List En) {s s3 : Ws} {tk : Tk} (h : wantsP l 110 s = (tk, s3)) : topB l sVersion es s = (es, backP (decide (tk.num ≠ 1)) s3) := by
  unfold topB; rw [if_pos rfl, h]
theorem topB_tags {l : List Tk} (es : List En) (s : Ws) : topB l sTags es s = entriesP l s := by
  unfold topB; rw [if_neg (by decide), if_pos rfl]
theorem topB_none {l : List Tk} {nm : ByteArray} (es : List En) (s : Ws) (h1 : nm ≠ sVersion) (h2 : nm ≠ sTags) : topB l nm es s = (es, s) := by
  unfold topB; rw [if_neg h1, if_neg h2]
set_option maxHeartbeats 2000000 in
set_option maxRecDepth 100000 in
theorem refParse_any (t : ByteArray) (w : World) (ht : t.size ≤ 2000) :
    Calls Try.prog 5 #[.string t] w fun e w' => Below w.heap.size w w' ∧
      (((parseP (cutL t 0)).2.bad = true ∧ e = .returned (.tuple #[.slice none 0 0, .int .i64 7, .int .i64 ((plOf (cutL t 0) (parseP (cutL t 0)).2.j : Nat) : Int)])) ∨
       ((parseP (cutL t 0)).2.bad = false ∧ ∃ v, e = .returned (.tuple #[v, .int .i64 0, .int .i64 0]) ∧ EnsAt w' w.heap.size v (parseP (cutL t 0)).1)) := by
  have h1 : ¬ 2000 < (t.size : Int) := by omega
  have HCUT := hide (cut_any t ht w)
  have hgood := goodL_cut t 0
  have hshort := shortL_cut t ht 0
  have hP : parseP (cutL t 0) = ((objP (cutL t 0) (topB (cutL t 0)) 2 [sVersion, sTags] [] (wantsP (cutL t 0) 123 ⟨0, false⟩).2).1, (wantsP (cutL t 0) 0 (objP (cutL t 0) (topB (cutL t 0)) 2 [sVersion, sTags] [] (wantsP (cutL t 0) 123 ⟨0, false⟩).2).2).2) := rfl
  have hpos := hgood.pos
  generalize cutL t 0 = l at HCUT hgood hshort hP hpos ⊢
  have hin0 := (wants_in hgood (kind := 123) (by decide) (by decide) (s := ⟨0, false⟩) hpos).1
  have hOin : InL l (objP l (topB l) 2 [sVersion, sTags] [] (wantsP l 123 ⟨0, false⟩).2).2 := obj_in hgood (topB_in hgood) _ _ _ _ hin0
  obtain ⟨FO, hFO⟩ : ∃ FO, FO = objP l (topB l) 2 [sVersion, sTags] [] (wantsP l 123 ⟨0, false⟩).2 := ⟨_, rfl⟩
  rw [← hFO] at hP hOin
  have HP := hide hP
  have HFO := hide hFO
  clear hP hFO
  go_enter Try.func5, Try.ntmps5
  go_wp2_with fail
  refine (HCUT.out).mono ?_
  rintro _ w1 ⟨hb1, v, rfl, hown, hlen⟩
  dsimp only
  have hl : l.length ≤ 2001 := by omega
  rcases hown.2 with ⟨-, h0⟩ | ⟨g, cap, cur, rfl, hgb, hg, hcap, hcm, hcs, htk⟩
  · omega
  have hwy : Wy (w1.alloc (.cells #[.slice (some ⟨g, 0, none⟩) l.length cap, .int .i64 0, .bool false] 45)) w1.heap.size g (.slice (some ⟨g, 0, none⟩) l.length cap) l ⟨0, false⟩ :=
    ⟨heap_alloc_new _ _, ⟨cap, rfl⟩, ⟨cur, (Below.heap_alloc w1 _ _ (lt_of_row hg)).trans hg, htk⟩, Nat.ne_of_lt (lt_of_row hg)⟩
  have HBW : Hid (Below w.heap.size w (w1.alloc (.cells #[.slice (some ⟨g, 0, none⟩) l.length cap, .int .i64 0, .bool false] 45))) := hb1.alloc hb1.size _
  have hWs := size_alloc w1 (.cells #[.slice (some ⟨g, 0, none⟩) l.length cap, .int .i64 0, .bool false] 45)
  have hs1 := hb1.size
  obtain ⟨W, hW⟩ : ∃ W, W = w1.alloc (.cells #[.slice (some ⟨g, 0, none⟩) l.length cap, .int .i64 0, .bool false] 45) := ⟨_, rfl⟩
  rw [← hW] at hwy HBW hWs
  have HWY := hide hwy
  have hgl : g < W.heap.size := by have := lt_of_row hg; omega
  clear hown hg htk hcs hb1 HCUT hwy
  have HC123 := hide (wants_any w1.heap.size g _ l ⟨0, false⟩ 123 W HWY.out hl hpos)
  go_wp2_with fail
  rw [← hW]
  generalize wantsP l 123 ⟨0, false⟩ = r1 at HC123 HFO hin0
  have HIN0 := hide hin0
  clear hW hin0
  refine (HC123.out).mono ?_
  rintro _ w2 ⟨rfl, hg2, hw2⟩
  dsimp only
  have HG2 := hide hg2
  have HW2 := hide hw2
  have hsz2 := hg2.size
  clear hg2 hw2 HC123
  go_wp2_with fail
  go_loopw [6, 7] (fun lv fv wr => ∃ (d : Nat) (left : List ByteArray) (es : List En) (s1 : Ws), PF W wr w1.heap.size g (.slice (some ⟨g, 0, none⟩) l.length cap) lv fv l s1 es left ∧ InL l s1 ∧ objP l (topB l) d left es s1 = FO ∧ (s1.bad = true ∨ left.length = d) ∧ left.length ≤ 2)
    (fun _ fv wr => if badOf wr w1.heap.size = true then 0 else slLen fv)
  case atStart =>
    have hb2 : Below w2.heap.size w2 (w2.alloc (.cells #[.string ⟨#[118, 101, 114, 115, 105, 111, 110]⟩, .string ⟨#[116, 97, 103, 115]⟩] 9)) := (Below.refl _ _).alloc (Nat.le_refl _) _
    refine ⟨2, [sVersion, sTags], [], r1.2, ⟨HW2.out.later hb2, World.ownsRow_nil _ _ _ _, ⟨rfl, .inr ⟨w2.heap.size, 2, _, rfl, hsz2, heap_alloc_new _ _, by decide, by unfold maxLen; decide, rfl, rfl⟩⟩, grownBy_trans HG2.out (grownBy_below hb2 _)⟩, HIN0.out, HFO.out.symm, .inr rfl, by decide⟩
  case round =>
    clear HG2 HW2 HIN0 HFO HWY
    obtain ⟨d, left, es, s1, hpf, hin1, hobj, hd, h3⟩ := hrel
    have HPF := hide hpf
    have HIN := hide hin1
    have HOBJ := hide hobj
    obtain ⟨c0, c1, c2⟩ := hpf.way.cells
    have HBAD := hide hpf.way.badOf
    obtain ⟨j1, bad1⟩ := s1
    obtain ⟨o, ocap, hv⟩ := own_sl hpf.lft
    subst hv
    clear hpf hin1 hobj
    cases bad1 with
    | true =>
      have hfin : FO = (es, ⟨j1, true⟩) := by rw [← HOBJ.out]; exact obj_bad l _ _ _ _ rfl
      have HC0 := hide (wants_any w1.heap.size g _ l ⟨j1, true⟩ 0 wr HPF.out.way hl HIN.out)
      by_cases h0 : 0 < left.length
      · have e0 : decide ((0 : Int) < (left.length : Int)) = true := by simp; omega
        go_wp2_with fail
        refine (HC0.out).mono ?_
        rintro _ w5 ⟨rfl, hg5, hw5⟩
        dsimp only
        have hw05 := wants0_in (l := l) (s := ⟨j1, true⟩) HIN.out
        have hPP : parseP l = (es, (wantsP l 0 ⟨j1, true⟩).2) := by rw [HP.out, hfin]
        have HPF5 := hide (HPF.out.grown (by omega) hg5 hw5)
        generalize (wantsP l 0 ⟨j1, true⟩).2 = s5 at hw5 hw05 hPP HPF5
        obtain ⟨j5, bad5⟩ := s5
        dsimp only at hw05
        obtain ⟨p0, p1, p2⟩ := hw5.cells
        dsimp only at p1 p2
        have HW5 := hide hw5
        have HPP := hide hPP
        have HB5 : Hid (Below w.heap.size w w5) := HBW.out.trans (below_of_grown HPF5.out.gr (by omega) (by omega))
        clear hg5 hw5 hPP HC0
        cases bad5 with
        | true =>
          have hj5 := hw05 rfl
          have ht5 := HW5.out.tok j5 hj5
          have q0 := ht5 0 _ rfl
          have q1 := ht5 1 _ rfl
          have q2 := ht5 2 _ rfl
          have q3 := ht5 3 _ rfl
          simp only [Nat.add_zero, Nat.zero_add] at q0 q1 q2 q3
          clear ht5 hw05
          go_wp2_with fail
          go_quiet (fail)
          go_wp2_with fail
          go_ret3
          rw [HPP.out]
          refine ⟨HB5.out.drewN _, .inl ⟨rfl, ?_⟩⟩
          have hpl : plOf l j5 = (l[j5]'hj5).pl := by unfold plOf; rw [List.getElem?_eq_getElem hj5]
          rw [hpl]
          rfl
        | false =>
          clear hw05
          go_wp2_with fail
          go_ret3
          rw [HPP.out]
          exact ⟨HB5.out, .inr ⟨rfl, _, rfl, World.ownsRow.mono_base HPF5.out.lst (by omega)⟩⟩
      · have e0 : decide (0 < left.length) = false := decide_eq_false h0
        go_wp2_with fail
        refine (HC0.out).mono ?_
        rintro _ w5 ⟨rfl, hg5, hw5⟩
        dsimp only
        have hw05 := wants0_in (l := l) (s := ⟨j1, true⟩) HIN.out
        have hPP : parseP l = (es, (wantsP l 0 ⟨j1, true⟩).2) := by rw [HP.out, hfin]
        have HPF5 := hide (HPF.out.grown (by omega) hg5 hw5)
        generalize (wantsP l 0 ⟨j1, true⟩).2 = s5 at hw5 hw05 hPP HPF5
        obtain ⟨j5, bad5⟩ := s5
        dsimp only at hw05
        obtain ⟨p0, p1, p2⟩ := hw5.cells
        dsimp only at p1 p2
        have HW5 := hide hw5
        have HPP := hide hPP
        have HB5 : Hid (Below w.heap.size w w5) := HBW.out.trans (below_of_grown HPF5.out.gr (by omega) (by omega))
        clear hg5 hw5 hPP HC0
        cases bad5 with
        | true =>
          have hj5 := hw05 rfl
          have ht5 := HW5.out.tok j5 hj5
          have q0 := ht5 0 _ rfl
          have q1 := ht5 1 _ rfl
          have q2 := ht5 2 _ rfl
          have q3 := ht5 3 _ rfl
          simp only [Nat.add_zero, Nat.zero_add] at q0 q1 q2 q3
          clear ht5 hw05
          go_wp2_with fail
          go_quiet (fail)
          go_wp2_with fail
          go_ret3
          rw [HPP.out]
          refine ⟨HB5.out.drewN _, .inl ⟨rfl, ?_⟩⟩
          have hpl : plOf l j5 = (l[j5]'hj5).pl := by unfold plOf; rw [List.getElem?_eq_getElem hj5]
          rw [hpl]
          rfl
        | false =>
          clear hw05
          go_wp2_with fail
          go_ret3
          rw [HPP.out]
          exact ⟨HB5.out, .inr ⟨rfl, _, rfl, World.ownsRow.mono_base HPF5.out.lst (by omega)⟩⟩
    | false =>
      have hd' : left.length = d := by simpa using hd
      cases left with
      | nil =>
        subst hd'
        have hfin : FO = (es, ⟨j1, false⟩) := by rw [← HOBJ.out]; rfl
        have HC0 := hide (wants_any w1.heap.size g _ l ⟨j1, false⟩ 0 wr HPF.out.way hl HIN.out)
        go_wp2_with fail
        refine (HC0.out).mono ?_
        rintro _ w5 ⟨rfl, hg5, hw5⟩
        dsimp only
        have hw05 := wants0_in (l := l) (s := ⟨j1, false⟩) HIN.out
        have hPP : parseP l = (es, (wantsP l 0 ⟨j1, false⟩).2) := by rw [HP.out, hfin]
        have HPF5 := hide (HPF.out.grown (by omega) hg5 hw5)
        generalize (wantsP l 0 ⟨j1, false⟩).2 = s5 at hw5 hw05 hPP HPF5
        obtain ⟨j5, bad5⟩ := s5
        dsimp only at hw05
        obtain ⟨p0, p1, p2⟩ := hw5.cells
        dsimp only at p1 p2
        have HW5 := hide hw5
        have HPP := hide hPP
        have HB5 : Hid (Below w.heap.size w w5) := HBW.out.trans (below_of_grown HPF5.out.gr (by omega) (by omega))
        clear hg5 hw5 hPP HC0
        cases bad5 with
        | true =>
          have hj5 := hw05 rfl
          have ht5 := HW5.out.tok j5 hj5
          have q0 := ht5 0 _ rfl
          have q1 := ht5 1 _ rfl
          have q2 := ht5 2 _ rfl
          have q3 := ht5 3 _ rfl
          simp only [Nat.add_zero, Nat.zero_add] at q0 q1 q2 q3
          clear ht5 hw05
          go_wp2_with fail
          go_quiet (fail)
          go_wp2_with fail
          go_ret3
          rw [HPP.out]
          refine ⟨HB5.out.drewN _, .inl ⟨rfl, ?_⟩⟩
          have hpl : plOf l j5 = (l[j5]'hj5).pl := by unfold plOf; rw [List.getElem?_eq_getElem hj5]
          rw [hpl]
          rfl
        | false =>
          clear hw05
          go_wp2_with fail
          go_ret3
          rw [HPP.out]
          exact ⟨HB5.out, .inr ⟨rfl, _, rfl, World.ownsRow.mono_base HPF5.out.lst (by omega)⟩⟩
      | cons y ys =>
        subst hd'
        have hmem := member_any w1.heap.size g W.heap.size _ _ l ⟨j1, false⟩ (y :: ys) wr HPF.out.way hl hgood HIN.out HPF.out.lft (by omega) HPF.out.gr.size (by omega) (by simp)
        have hmi := member_in hgood (left := y :: ys) HIN.out
        have hobj := HOBJ.out
        rw [List.length_cons, objP] at hobj
        simp only [Bool.false_eq_true, if_false] at hobj
        have hml : (memberP l (y :: ys) ⟨j1, false⟩).2.bad = true ∨ (memberP l (y :: ys) ⟨j1, false⟩).1.2.length = ys.length := member_len l _ _
        have hml3 : (memberP l (y :: ys) ⟨j1, false⟩).1.2.length ≤ 2 := Nat.le_trans (member_le l _ _) h3
        obtain ⟨nm, left2, s2, hmm⟩ : ∃ nm left2 s2, memberP l (y :: ys) ⟨j1, false⟩ = ((nm, left2), s2) := ⟨_, _, _, rfl⟩
        rw [hmm] at hobj hmem hmi hml hml3
        rw [List.length_cons] at hmem
        dsimp only at hobj hmem hmi hml hml3
        have HOBJ2 := hide hobj
        have HMEM := hide hmem
        have HMI := hide hmi
        have HML : Hid ((goesP l left2 (topB l nm es s2).2).bad = true ∨ left2.length = ys.length) := hml.imp (fun hb => by rw [topB_bad l nm es hb, goes_bad l left2 hb]; exact hb) id
        clear hobj hmem hmi hml HOBJ hd hmm
        go_wp2_with fail
        refine (HMEM.out).mono ?_
        rintro _ w3 ⟨hg3, hw3, rv, rfl, hown3⟩
        have hgs := HPF.out.gr.size
        have hg3s := hg3.size
        have HPF2 : Hid (PF W w3 w1.heap.size g (.slice (some ⟨g, 0, none⟩) l.length cap) _ rv l s2 es left2) := ⟨hw3, World.ownsRow.kept HPF.out.lst hg3 (own_apart HPF.out.lst (by omega)), hown3, grownBy_trans HPF.out.gr hg3⟩
        obtain ⟨orv, ncap, hrv⟩ : ∃ orv ncap, rv = .slice orv left2.length ncap := own_sl hown3
        subst hrv
        clear hg3 hw3 hown3 c0 c1 c2 HMEM HPF
        dsimp only
        by_cases hn1 : nm = sVersion
        · subst hn1
          obtain ⟨tk, s3, hr⟩ : ∃ tk s3, wantsP l 110 s2 = (tk, s3) := ⟨_, _, rfl⟩
          have hc3 := wants_any w1.heap.size g _ l s2 110 w3 HPF2.out.way hl HMI.out
          have hin3 := wants_in hgood (kind := 110) (by decide) (by decide) HMI.out
          have hent := topB_version es hr
          rw [hr] at hc3 hin3
          rw [hent] at HOBJ2 HML
          obtain ⟨kk, pl, txt, num⟩ := tk
          dsimp only [Tk.cells] at hc3 hin3 HOBJ2 HML
          generalize (⟨txt.toArray⟩ : ByteArray) = z at hc3
          have HC3 := hide hc3
          have HIN3 := hide hin3
          clear hr hent hc3 hin3
          unfold sVersion
          go_wp2_with fail
          refine (HC3.out).mono ?_
          rintro _ w5 ⟨rfl, hg5, hw5⟩
          dsimp only
          have HPF3 := hide (HPF2.out.grown (by omega) hg5 hw5)
          have hbT : Below w5.heap.size w5 (w5.alloc (.cells #[.int .u8 ((kk : Nat) : Int), .int .i64 ((pl : Nat) : Int), .string z, .int .i64 ((num : Nat) : Int)] 47)) := (Below.refl _ _).alloc (Nat.le_refl _) _
          clear hg5 hw5 HC3 HPF2
          by_cases hnum : num = 1
          · subst hnum
            have e1 : (((1 : Nat) : Int) != 1) = false := by decide
            simp only [ne_eq, not_true_eq_false, decide_false] at HOBJ2 HML
            go_wp2_with fail
            refine (back_any w1.heap.size g _ l s3 false _ (HPF3.out.way.later hbT) hl HIN3.out.1 HIN3.out.2).mono ?_
            rintro _ w4 ⟨rfl, hg4, hw4⟩
            dsimp only
            have HPF4 := hide ((HPF3.out.below (by omega) hbT).grown (by omega) hg4 hw4)
            have HIN4 := hide (back_in (wrong := false) HIN3.out.1)
            have HG6 := hide (goes_any w1.heap.size g _ l _ left2 orv ncap w4 hw4 hl HIN4.out)
            have HGI := hide (goes_in (left := left2) hgood HIN4.out)
            clear hg4 hw4
            go_wp2_with fail
            refine (HG6.out).mono ?_
            rintro _ w6 ⟨rfl, hg6, hw6⟩
            dsimp only
            have HPF6 := hide (HPF4.out.grown (by omega) hg6 hw6)
            clear hg6 hw6
            go_wp2_with fail
            go_roundw
            case rel => exact ⟨ys.length, left2, es, _, HPF6.out, HGI.out, HOBJ2.out, HML.out, hml3⟩
            case measure =>
              have hB : badOf wr w1.heap.size = false := HBAD.out
              rw [HPF6.out.way.badOf, hB, if_neg (show ¬ (false = true) by decide)]
              rcases HML.out with hm | hm
              · rw [if_pos hm]; simp [slLen]
              · split
                · simp [slLen]
                · simp [slLen]; omega
          · have e1 : ((num : Int) != 1) = true := by simp; omega
            simp only [ne_eq, hnum, not_false_eq_true, decide_true] at HOBJ2 HML
            go_wp2_with fail
            refine (back_any w1.heap.size g _ l s3 true _ (HPF3.out.way.later hbT) hl HIN3.out.1 HIN3.out.2).mono ?_
            rintro _ w4 ⟨rfl, hg4, hw4⟩
            dsimp only
            have HPF4 := hide ((HPF3.out.below (by omega) hbT).grown (by omega) hg4 hw4)
            have HIN4 := hide (back_in (wrong := true) HIN3.out.1)
            have HG6 := hide (goes_any w1.heap.size g _ l _ left2 orv ncap w4 hw4 hl HIN4.out)
            have HGI := hide (goes_in (left := left2) hgood HIN4.out)
            clear hg4 hw4
            go_wp2_with fail
            refine (HG6.out).mono ?_
            rintro _ w6 ⟨rfl, hg6, hw6⟩
            dsimp only
            have HPF6 := hide (HPF4.out.grown (by omega) hg6 hw6)
            clear hg6 hw6
            go_wp2_with fail
            go_roundw
            case rel => exact ⟨ys.length, left2, es, _, HPF6.out, HGI.out, HOBJ2.out, HML.out, hml3⟩
            case measure =>
              have hB : badOf wr w1.heap.size = false := HBAD.out
              rw [HPF6.out.way.badOf, hB, if_neg (show ¬ (false = true) by decide)]
              rcases HML.out with hm | hm
              · rw [if_pos hm]; simp [slLen]
              · split
                · simp [slLen]
                · simp [slLen]; omega
        · by_cases hn2 : nm = sTags
          · subst hn2
            rw [topB_tags es s2] at HOBJ2 HML
            have HENS := hide (entries_any w1.heap.size g _ l s2 w3 HPF2.out.way hl hgood hshort HMI.out)
            have HENI := hide (entries_in hgood HMI.out)
            unfold sTags
            go_wp2_with fail
            refine (HENS.out).mono ?_
            rintro _ w4 ⟨hg4, hw4, rv4, rfl, hens⟩
            dsimp only
            have HPF4 : Hid (PF W w4 w1.heap.size g (.slice (some ⟨g, 0, none⟩) l.length cap) rv4 (.slice orv left2.length ncap) l (entriesP l s2).2 (entriesP l s2).1 left2) := ⟨hw4, World.ownsRow.mono_base hens (by omega), HPF2.out.lft.kept hg4 (own_apart HPF2.out.lft (by omega)), grownBy_trans HPF2.out.gr hg4⟩
            have HG6 := hide (goes_any w1.heap.size g _ l _ left2 orv ncap w4 hw4 hl HENI.out)
            have HGI := hide (goes_in (left := left2) hgood HENI.out)
            clear hg4 hw4 hens HENS HPF2
            go_wp2_with fail
            refine (HG6.out).mono ?_
            rintro _ w6 ⟨rfl, hg6, hw6⟩
            dsimp only
            have HPF6 := hide (HPF4.out.grown (by omega) hg6 hw6)
            clear hg6 hw6
            go_wp2_with fail
            go_roundw
            case rel => exact ⟨ys.length, left2, (entriesP l s2).1, _, HPF6.out, HGI.out, HOBJ2.out, HML.out, hml3⟩
            case measure =>
              have hB : badOf wr w1.heap.size = false := HBAD.out
              rw [HPF6.out.way.badOf, hB, if_neg (show ¬ (false = true) by decide)]
              rcases HML.out with hm | hm
              · rw [if_pos hm]; simp [slLen]
              · split
                · simp [slLen]
                · simp [slLen]; omega
          · rw [topB_none es s2 hn1 hn2] at HOBJ2 HML
            dsimp only at HOBJ2 HML
            have f1 : (nm.toList == [118, 101, 114, 115, 105, 111, 110]) = false := by rw [beq_eq_false_iff_ne]; exact fun e => hn1 ((toList_inj nm sVersion).1 (e.trans (by rw [ByteArray.toList_eq]; rfl)))
            have f2 : (nm.toList == [116, 97, 103, 115]) = false := by rw [beq_eq_false_iff_ne]; exact fun e => hn2 ((toList_inj nm sTags).1 (e.trans (by rw [ByteArray.toList_eq]; rfl)))
            have HPF4 := HPF2
            have HG6 := hide (goes_any w1.heap.size g _ l _ left2 orv ncap w3 HPF2.out.way hl HMI.out)
            have HGI := hide (goes_in (left := left2) hgood HMI.out)
            clear hn1 hn2
            go_wp2_with fail
            refine (HG6.out).mono ?_
            rintro _ w6 ⟨rfl, hg6, hw6⟩
            dsimp only
            have HPF6 := hide (HPF4.out.grown (by omega) hg6 hw6)
            clear hg6 hw6
            go_wp2_with fail
            go_roundw
            case rel => exact ⟨ys.length, left2, es, _, HPF6.out, HGI.out, HOBJ2.out, HML.out, hml3⟩
            case measure =>
              have hB : badOf wr w1.heap.size = false := HBAD.out
              rw [HPF6.out.way.badOf, hB, if_neg (show ¬ (false = true) by decide)]
              rcases HML.out with hm | hm
              · rw [if_pos hm]; simp [slLen]
              · split
                · simp [slLen]
                · simp [slLen]; omega
end Go.Proofs.Ytpgamoielkpakaa
