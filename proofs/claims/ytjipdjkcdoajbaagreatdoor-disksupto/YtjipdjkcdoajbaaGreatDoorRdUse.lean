/-
  PROVED HERE: what the document's own functions used, file and changes of disks do.
-/
import Derived.Test.YtjipdjkcdoajbaaGreatDoorRdDisk
import Derived.Deep.RegionLaw
import Derived.Deep.AppendLies
import Derived.Deep.RegionWith
namespace Go.Proofs.YtjipdjkcdoajbaaGreatDoor
open Go.RowKit
/-- The files: what each file's block says. -/
def NDs (w : World) (nd : Nat → ByteArray × Int) (ns : List Nat) : Prop := ∀ b ∈ ns, w.heap[b]? = some (.cells #[.string (nd b).1, .int .i64 (nd b).2] 63 (0, 0))
theorem NDs.later {w w' : World} {nd : Nat → ByteArray × Int} {ns : List Nat} (h : NDs w nd ns) (hb : Below w.heap.size w w') : NDs w' nd ns := fun b hb2 => (hb.block b (lt_of_row (h b hb2))).trans (h b hb2)
def usedE (nd : Nat → ByteArray × Int) : List DE → Nat
  | [] => 0
  | e :: es => (nd e.blk).1.size + usedE nd es
theorem usedE_take (nd : Nat → ByteArray × Int) (l : List DE) (k : Nat) (hk : k < l.length) : usedE nd (l.take (k + 1)) = usedE nd (l.take k) + (nd (l.getD k DE0).blk).1.size := by
  induction l generalizing k with
  | nil => simp at hk
  | cons e es ih =>
    cases k with
    | zero => simp [usedE]
    | succ k =>
      have := ih k (by simpa using hk)
      simp only [List.take_succ_cons, usedE, this]
      simp [Nat.add_assoc]
theorem usedE_le (nd : Nat → ByteArray × Int) (l : List DE) (k : Nat) : usedE nd (l.take k) ≤ usedE nd l := by
  induction l generalizing k with
  | nil => simp
  | cons e es ih =>
    cases k with
    | zero => simp [usedE]
    | succ k => simp only [List.take_succ_cons, usedE]; have := ih k; omega
set_option maxHeartbeats 1000000 in
set_option maxRecDepth 100000 in
theorem used_any (b : Nat) (R : RDk) (nv sv cv : Value) (nd : Nat → ByteArray × Int) (ns : List Nat) (w : World) (h : RDIs w b R nv sv cv) (hn : NDs w nd ns) (hin : ∀ e ∈ R.now, e.blk ∈ ns) (hl : R.now.length ≤ 100000000) (hu : usedE nd R.now ≤ 1000000000000) :
    Calls Tryz.prog 52 #[.pointer (some ⟨b, 0, none⟩)] w fun e w' => e = .returned (.int .i64 ((usedE nd R.now : Nat) : Int)) ∧ Below w.heap.size w w' := by
  have hda := deAt_own h.now
  obtain ⟨oa, c, hnv, hr⟩ := hda
  have c1 : w.cell? ⟨b, 1, none⟩ = some nv := cell_of_row _ _ 1 _ _ _ h.blk
  subst hnv
  generalize R.now = l at c1 hr hin hl hu ⊢
  obtain ⟨n, hnl⟩ : ∃ n, n = l.length := ⟨_, rfl⟩
  rw [← hnl] at c1 hr hl
  have HR := hide hr
  have HN := hide hn
  have HIN := hide hin
  have HNL := hide hnl
  clear hr hn hin hnl h
  go_enter Tryz.func52, Tryz.ntmps52
  go_wp2_with fail
  go_loopw [3, 4] (fun nv iv wr => ∃ k : Nat, k ≤ n ∧ iv = .int .i64 ((k : Nat) : Int) ∧ nv = .int .i64 ((usedE nd (l.take k) : Nat) : Int) ∧ Below w.heap.size w wr) (fun _ iv _ => n - (intOf iv).toNat)
  case atStart => exact ⟨0, Nat.zero_le _, rfl, rfl, Below.refl _ _⟩
  case round =>
    obtain ⟨k, hk, rfl, rfl, hb⟩ := hrel
    have c1r := cell_later hb c1
    have HB := hide hb
    by_cases hlt : k < n
    · obtain ⟨g, rfl, hrg⟩ := HR.out k hlt
      have hmem : l.getD k DE0 ∈ l := by
        have hk2 : k < l.length := by rw [← HNL.out]; exact hlt
        rw [List.getD_eq_getElem?_getD, List.getElem?_eq_getElem hk2]; exact List.getElem_mem hk2
      have hnb := HN.out _ (HIN.out _ hmem)
      have hut := usedE_take nd l k (by rw [← HNL.out]; exact hlt)
      have hul := usedE_le nd l (k + 1)
      generalize l.getD k DE0 = e at hrg hnb hut
      obtain ⟨ep, eb⟩ := e
      have t1 := cell_later hb (hrg 1 _ rfl)
      have n0 : wr.cell? ⟨eb, 0, none⟩ = some (.string (nd eb).1) := cell_later hb (cell_of_row _ _ 0 _ _ _ hnb)
      dsimp only at hut
      generalize (nd eb).1 = dt at n0 hut
      generalize usedE nd (l.take k) = u at hut ⊢
      clear hb hrg hnb hmem c1
      go_wp2_with fail
      exact ⟨⟨k + 1, by omega, by go_num, by rw [hut, Int.natCast_add], HB.out⟩, by simp [intOf]; omega⟩
    · have e1 : decide (((k : Nat) : Int) < ((n : Nat) : Int)) = false := by simp; omega
      have hkn : k = l.length := by rw [← HNL.out]; omega
      clear hb c1
      go_wp2_with fail
      go_ret
      refine ⟨?_, HB.out⟩
      rw [hkn, List.take_length]
      rfl
theorem findE_mem {p : ByteArray} : ∀ {l : List DE} {b : Nat}, findE p l = some b → ∃ e ∈ l, e.blk = b
  | [], b, h => by cases h
  | e :: es, b, h => by
    unfold findE at h
    split at h
    · injection h with h; exact ⟨e, by simp, h⟩
    · obtain ⟨x, hx, he⟩ := findE_mem h; exact ⟨x, by simp [hx], he⟩
set_option maxHeartbeats 1000000 in
set_option maxRecDepth 100000 in
theorem file_any (b : Nat) (R : RDk) (nv sv cv : Value) (p : ByteArray) (w : World) (h : RDIs w b R nv sv cv) (hp : p.size ≤ 9223372036854775807) (hl : R.now.length ≤ 100000000) :
    Calls Tryz.prog 48 #[.pointer (some ⟨b, 0, none⟩), .string p] w fun e w' => Below w.heap.size w w' ∧
      e = .returned (if isPathB p = true then (match findE p R.now with | none => .tuple #[.pointer none, .int .i64 3] | some nb => .tuple #[.pointer (some ⟨nb, 0, none⟩), .int .i64 0]) else .tuple #[.pointer none, .int .i64 2]) := by
  have c1 : w.cell? ⟨b, 1, none⟩ = some nv := cell_of_row _ _ 1 _ _ _ h.blk
  have HP := hide (isPath_any p w hp)
  have HF := hide (find_any nv R.now p w (deAt_own h.now) (by omega))
  clear h
  generalize isPathB p = bp at HP ⊢
  generalize findE p R.now = fo at HF ⊢
  cases bp with
  | false =>
    simp only [Bool.false_eq_true, if_false]
    go_enter Tryz.func48, Tryz.ntmps48
    go_wp2_with fail
    refine (HP.out).mono ?_
    rintro _ w1 ⟨rfl, hw⟩
    subst hw
    dsimp only
    go_wp2_with fail
    refine bodyPost_ret (results_tmp2 rfl _ _ _) rfl ?_
    exact ⟨Below.refl _ _, rfl⟩
  | true =>
    simp only [if_true]
    cases fo with
    | none =>
      dsimp only [ptrOf] at HF ⊢
      go_enter Tryz.func48, Tryz.ntmps48
      go_wp2_with fail
      refine (HP.out).mono ?_
      rintro _ w1 ⟨rfl, hw⟩
      subst hw
      dsimp only
      go_wp2_with fail
      refine (HF.out).mono ?_
      rintro _ w2 ⟨rfl, hb2⟩
      dsimp only
      have HB2 := hide hb2
      clear hb2
      go_wp2_with fail
      refine bodyPost_ret (results_tmp2 rfl _ _ _) rfl ?_
      exact ⟨HB2.out, rfl⟩
    | some nb =>
      dsimp only [ptrOf] at HF ⊢
      go_enter Tryz.func48, Tryz.ntmps48
      go_wp2_with fail
      refine (HP.out).mono ?_
      rintro _ w1 ⟨rfl, hw⟩
      subst hw
      dsimp only
      go_wp2_with fail
      refine (HF.out).mono ?_
      rintro _ w2 ⟨rfl, hb2⟩
      dsimp only
      have HB2 := hide hb2
      clear hb2
      go_wp2_with fail
      refine bodyPost_ret (results_tmp2 rfl _ _ _) rfl ?_
      exact ⟨HB2.out, rfl⟩
theorem Tryz.infoCH : (Tryz.prog.info? 134).map (fun i => (i.zero, i.size, i.bytes)) = some (some (.agg #[.string ⟨#[]⟩, .string ⟨#[]⟩, .pointer none]), 3, 40) := by kernel_rfl
theorem ch_one (c : CH) : ∀ u ∈ c.cells, u.oneCell' = true := by
  intro u hu
  simp only [CH.cells, List.mem_cons, List.not_mem_nil, or_false] at hu
  rcases hu with rfl | rfl | rfl <;> rfl
theorem own_obj {w : World} {base : Nat} {e : TypeId} {size : Nat} {v : Value} {n : Nat} {xs : List Value} (h : w.ownsRow base e size v n xs) : ∀ k, v.ownBlock = some k → ∃ cur, w.heap[k]? = some (.cells cur e (0, 0)) := by
  intro k hk
  rcases h.2 with ⟨rfl, _⟩ | ⟨g, cap, cur, rfl, _, hg, _⟩
  · simp [Value.ownBlock] at hk
  · simp only [Value.ownBlock, Option.some.injEq] at hk
    subst hk
    exact ⟨cur, hg⟩
theorem type_ne {w : World} {g b : Nat} {c1 c2 : Array Value} {t1 t2 : TypeId} {f1 f2 : Nat × Nat} (h1 : w.heap[g]? = some (.cells c1 t1 f1)) (h2 : w.heap[b]? = some (.cells c2 t2 f2)) (ht : t1 ≠ t2) : g ≠ b := by
  intro e
  subst e
  rw [h1] at h2
  injection h2 with h2
  injection h2 with _ h3
  exact ht h3
theorem RDIs.cne {w : World} {b : Nat} {R : RDk} {nv sv cv : Value} (h : RDIs w b R nv sv cv) : cv.ownBlock ≠ some b := by
  intro e
  obtain ⟨cur, hc⟩ := own_obj h.chg b e
  exact type_ne hc h.blk (by decide) rfl
theorem RDIs.nne {w : World} {b : Nat} {R : RDk} {nv sv cv : Value} (h : RDIs w b R nv sv cv) : (∀ k, nv.ownBlock = some k → k ≠ b ∧ cv.ownBlock ≠ some k) ∧ (∀ k, sv.ownBlock = some k → k ≠ b ∧ cv.ownBlock ≠ some k) := by
  have hh : ∀ v l, Ens w v l → ∀ k, v.ownBlock = some k → k ≠ b ∧ cv.ownBlock ≠ some k := by
    intro v l ho k hk
    obtain ⟨cur, hc⟩ := own_obj ho k hk
    refine ⟨type_ne hc h.blk (by decide), fun e => ?_⟩
    obtain ⟨cur2, hc2⟩ := own_obj h.chg k e
    exact type_ne hc hc2 (by decide) rfl
  exact ⟨hh nv _ h.now, hh sv _ h.safe⟩
/-- A change has come to the disk's changes. -/
theorem RDIs.pushed {w w3 w4 : World} {b q cap : Nat} {R : RDk} {nv sv cv : Value} {c : CH} (h : RDIs w b R nv sv cv) (h3 : Below w.heap.size w w3) (hg : w3.grownBy w4 cv.ownBlock)
    (ho : w4.ownsRow 0 134 3 (.slice (some ⟨q, 0, none⟩) (R.chg.length + 1) cap) (R.chg.length + 1) (R.chg.flatMap CH.cells ++ c.cells)) (hq : cv.ownBlock = some q ∨ w.heap.size ≤ q) :
    RDIs (w4.setCell ⟨b, 3, none⟩ (.slice (some ⟨q, 0, none⟩) (R.chg.length + 1) cap)) b { R with chg := R.chg ++ [c] } nv sv (.slice (some ⟨q, 0, none⟩) (R.chg.length + 1) cap) ∧
      Gr (fun k => k = b ∨ cv.ownBlock = some k) w (w4.setCell ⟨b, 3, none⟩ (.slice (some ⟨q, 0, none⟩) (R.chg.length + 1) cap)) := by
  have hset : ∀ k, k ≠ b → (w4.setCell ⟨b, 3, none⟩ (.slice (some ⟨q, 0, none⟩) (R.chg.length + 1) cap)).heap[k]? = w4.heap[k]? := fun k hk => heap_setCell_other _ _ _ _ (by simpa using hk)
  have hold : ∀ k, k < w.heap.size → cv.ownBlock ≠ some k → w4.heap[k]? = w.heap[k]? := fun k hk hne => (hg.block k (Nat.lt_of_lt_of_le hk h3.size) (fun e => hne e.symm)).trans (h3.block k hk)
  have hb := lt_of_row h.blk
  have hqb : q ≠ b := by
    intro e
    rcases hq with hq | hq
    · rw [e] at hq; exact h.cne hq
    · omega
  refine ⟨⟨?_, ?_, ?_, ?_⟩, ?_⟩
  · rw [heap_setCell_same _ b 3 _ _ _ ((hold b hb h.cne).trans h.blk)]; rfl
  · exact own_same h.now (fun k hk hk2 => (hset k (h.nne.1 k hk).1).trans (hold k hk2 (h.nne.1 k hk).2))
  · exact own_same h.safe (fun k hk hk2 => (hset k (h.nne.2 k hk).1).trans (hold k hk2 (h.nne.2 k hk).2))
  · have e1 : (R.chg ++ [c]).length = R.chg.length + 1 := by simp
    have e2 : (R.chg ++ [c]).flatMap CH.cells = R.chg.flatMap CH.cells ++ c.cells := by simp
    dsimp only
    rw [e1, e2]
    exact own_same ho (fun k hk _ => hset k (by simp only [Value.ownBlock, Option.some.injEq] at hk; omega))
  · exact ⟨hg.os.trans h3.os, hg.tape.trans h3.tape, hg.output.trans h3.output, by simpa using Nat.le_trans h3.size hg.size, fun k hk hs => (hset k (fun e => hs (.inl e))).trans (hold k hk (fun e => hs (.inr e)))⟩
theorem gr_trans' {S : Nat → Prop} {w wr w' : World} {b : Nat} (h : Gr S w wr) (h2 : wr.grownBy w' (some b)) (hb : S b) : Gr S w w' :=
  ⟨h2.os.trans h.os, h2.tape.trans h.tape, h2.output.trans h.output, Nat.le_trans h.size h2.size, fun k hk hs => (h2.block k (Nat.lt_of_lt_of_le hk h.size) (fun e => by injection e with e; subst e; exact hs hb)).trans (h.block k hk hs)⟩
theorem RDIs.setNow {w : World} {b : Nat} {R : RDk} {nv sv cv v' : Value} {l' : List DE} (h : RDIs w b R nv sv cv) (ho : Ens w v' l') : RDIs (w.setCell ⟨b, 1, none⟩ v') b { R with now := l' } v' sv cv := by
  have hset : ∀ k, k ≠ b → (w.setCell ⟨b, 1, none⟩ v').heap[k]? = w.heap[k]? := fun k hk => heap_setCell_other _ _ _ _ (by simpa using hk)
  refine ⟨?_, ?_, ?_, ?_⟩
  · rw [heap_setCell_same _ b 1 _ _ _ h.blk]; rfl
  · exact own_same ho (fun k hk _ => hset k (by obtain ⟨cur, hc⟩ := own_obj ho k hk; exact type_ne hc h.blk (by decide)))
  · exact own_same h.safe (fun k hk _ => hset k (h.nne.2 k hk).1)
  · exact own_same h.chg (fun k hk _ => hset k (fun e => h.cne (by rw [← e]; exact hk)))
set_option maxHeartbeats 2000000 in
set_option maxRecDepth 100000 in
theorem changes_any (b nb : Nat) (R : RDk) (nv sv cv : Value) (frm too : ByteArray) (w : World) (h : RDIs w b R nv sv cv) (hl : R.now.length ≤ 100000000) (hc : R.chg.length ≤ 100000000) :
    Calls Tryz.prog 57 #[.pointer (some ⟨b, 0, none⟩), .string frm, .string too, .pointer (some ⟨nb, 0, none⟩)] w fun e w' => e = .returned (.tuple #[]) ∧ Gr (fun k => k = b ∨ cv.ownBlock = some k) w w' ∧
      ∃ nv' cv', RDIs w' b { R with now := afterE R.now frm too nb, chg := R.chg ++ [⟨frm, too, nb⟩] } nv' sv cv' ∧ NewOr w cv cv' := by
  obtain ⟨i0, hi, hz0, hz1, hz2⟩ := info_parts Tryz.infoCH
  have H := hide h
  have c1 : w.cell? ⟨b, 1, none⟩ = some nv := cell_of_row _ _ 1 _ _ _ h.blk
  have c3 : w.cell? ⟨b, 3, none⟩ = some cv := cell_of_row _ _ 3 _ _ _ h.blk
  have hf := fun j => frozen_of_row w b j _ _ h.blk
  clear h
  go_enter Tryz.func57, Tryz.ntmps57
  obtain ⟨ocv, ccv, hcv⟩ := own_sl H.out.chg
  subst hcv
  obtain ⟨M, hM⟩ : ∃ M, M = R.chg.length := ⟨_, rfl⟩
  have hb0 : Below w.heap.size w (w.alloc (.cells #[.string frm, .string too, .pointer (some ⟨nb, 0, none⟩)] 134)) := (Below.refl _ _).alloc (Nat.le_refl _) _
  have hal := H.out.chg.alloc (.cells #[.string frm, .string too, .pointer (some ⟨nb, 0, none⟩)] 134)
  have hal2 := ownsRow_later (World.ownsRow.alloc hal (.cells #[.string frm, .string too, .pointer (some ⟨nb, 0, none⟩)] 134)) ((Below.refl _ _).drew)
  rw [← hM] at hal2 c3
  have hsm : M + 1 ≤ maxLen ∧ (M + 1) * 40 ≤ 140737488355328 := by rw [hM]; unfold maxLen; omega
  obtain ⟨hb63, hb40⟩ := hsm
  have HAL := hide hal2
  have HM := hide hM
  have HB0 := hide hb0
  have hbl := lt_of_row H.out.blk
  have HONE := hide (ch_one ⟨frm, too, nb⟩)
  have HCN : Hid ((Value.slice ocv M ccv).ownBlock ≠ some b) := by have := H.out.cne; rw [← hM] at this; exact this
  have HBB : Hid (w.heap[b]? = _) := H.out.blk
  clear hal hal2 hM hb0
  go_upto_region 1 with fail
  go_cut [] from 13 (fun wx => ∃ cv', RDIs wx b { R with chg := R.chg ++ [⟨frm, too, nb⟩] } nv sv cv' ∧ Gr (fun k => k = b ∨ (Value.slice ocv R.chg.length ccv).ownBlock = some k) w wx ∧ wx.heap[w.heap.size]? = some (.cells #[.string frm, .string too, .pointer (some ⟨nb, 0, none⟩)] 134 (0, 0)) ∧ NewOr w (Value.slice ocv R.chg.length ccv) cv')
  case first =>
    go_region_law (refine step_append_lies _ (by rfl) _ _ _ (by rfl) 0 134 i0 _ 3 40 Tryz.underlying55 hi hz0 hz1 hz2 (by rfl) (by decide) _ M _ (by rfl) HAL.out ⟨w.heap.size + 1, 0, none⟩ 1 1 [.string frm, .string too, .pointer (some ⟨nb, 0, none⟩)] (by rfl) (by rfl) (row_cells (heap_alloc2_new _ _ _)) HONE.out (by decide) hb63 hb40 (Nat.zero_le _) _ rfl ?_; intro g2 cap2 w5 hown5 hgrow hat hlt5; have sb : w5.heap[b]? = _ := (hgrow.block b (by show b < ((w.alloc _).alloc _).heap.size; rw [size_alloc2]; omega) (fun e => HCN.out e.symm)).trans ((Below.heap_alloc _ _ b (by rw [size_alloc]; omega)).trans ((Below.heap_alloc w _ b hbl).trans HBB.out)); have s3 : w5.cell? ⟨b, 3, none⟩ = _ := cell_of_row _ _ 3 _ _ _ sb; have sf := frozen_of_row w5 b 3 _ _ sb)
    all_goals
      have hM := HM.out
      subst hM
      have hp := H.out.pushed (w3 := ((w.alloc (.cells #[.string frm, .string too, .pointer (some ⟨nb, 0, none⟩)] 134)).alloc (.cells #[.string frm, .string too, .pointer (some ⟨nb, 0, none⟩)] 134)).drew) (c := ⟨frm, too, nb⟩) (q := g2) (cap := cap2) ((HB0.out.alloc (by rw [size_alloc]; omega) _).drew) hgrow hown5 (hat.imp id (fun e => by rw [e]; show w.heap.size ≤ ((w.alloc _).alloc _).heap.size; rw [size_alloc2]; omega))
      have hcb : (w5.setCell ⟨b, 3, none⟩ (.slice (some ⟨g2, 0, none⟩) (R.chg.length + 1) cap2)).heap[w.heap.size]? = some (.cells #[.string frm, .string too, .pointer (some ⟨nb, 0, none⟩)] 134 (0, 0)) := by
        rw [heap_setCell_other _ _ _ _ (by simp; omega)]
        refine (hgrow.block _ (by show w.heap.size < ((w.alloc _).alloc _).heap.size; rw [size_alloc2]; omega) (fun e => ?_)).trans (heap_alloc2_old _ _ _)
        have := (H.out.chg.lt _ e.symm).2
        omega
      have hno : NewOr w (Value.slice ocv R.chg.length ccv) (.slice (some ⟨g2, 0, none⟩) (R.chg.length + 1) cap2) := by
        rcases hat with e | e
        · exact .inl (by rw [e]; rfl)
        · refine .inr fun k hk => ?_
          simp only [Value.ownBlock, Option.some.injEq] at hk
          rw [← hk, e]
          show w.heap.size ≤ ((w.alloc _).alloc _).heap.size
          rw [size_alloc2]; omega
      clear hgrow hown5 hat hlt5 sb s3 sf
      go_wp2_with fail
      go_meet
      case rel => exact ⟨_, hp.1, hp.2, hcb, hno⟩
  case rest =>
    obtain ⟨cv', hd, hgr, hcb, hno⟩ := hcut
    have HNO := hide hno
    clear hno
    have k1 : wc.cell? ⟨b, 1, none⟩ = some nv := cell_of_row _ _ 1 _ _ _ hd.blk
    have kf := fun j => frozen_of_row wc b j _ _ hd.blk
    have b0 : wc.cell? ⟨w.heap.size, 0, none⟩ = some (.string frm) := cell_of_row _ _ 0 _ _ _ hcb
    have b1 : wc.cell? ⟨w.heap.size, 1, none⟩ = some (.string too) := cell_of_row _ _ 1 _ _ _ hcb
    have b2 : wc.cell? ⟨w.heap.size, 2, none⟩ = some (.pointer (some ⟨nb, 0, none⟩)) := cell_of_row _ _ 2 _ _ _ hcb
    have HD := hide hd
    have HGR := hide hgr
    have HA := hide (fun w' (hb : Below wc.heap.size wc w') => after_any nv R.now frm too nb w' (ownsRow_later hd.now hb) hl)
    have hbl2 := lt_of_row hd.blk
    clear hd hgr hcb HAL HONE HCN HBB HM hf c1 c3
    go_wp2_with fail
    go_region_with (go_at_call 76; refine (HA.out _ ((Below.refl wc.heap.size wc).drew)).mono ?_; rintro _ w6 ⟨v6, rfl, hb6, ho6⟩; obtain ⟨o6, c6, e6⟩ := own_sl ho6; subst e6; have hb6' : Below wc.heap.size wc w6 := ((Below.refl wc.heap.size wc).drew).trans hb6; have sb := (hb6'.block b hbl2).trans HD.out.blk; have s1 : w6.cell? ⟨b, 1, none⟩ = some nv := cell_of_row w6 b 1 _ _ _ sb; have sf := fun j => frozen_of_row w6 b j _ _ sb)
    all_goals
      go_wp2_with fail
      go_end0
      have hd6 := HD.out.later hb6'
      refine ⟨rfl, gr_trans' HGR.out (grownBy_trans (grownBy_below hb6' (some b)) (grownBy_set _ _ _ _)) (.inl rfl), _, cv', hd6.setNow ho6, HNO.out⟩
end Go.Proofs.YtjipdjkcdoajbaaGreatDoor
