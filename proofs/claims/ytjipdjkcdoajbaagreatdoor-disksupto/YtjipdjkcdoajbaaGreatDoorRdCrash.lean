/-
  PROVED HERE: what the document's own call Crash of disks does.
-/
import Derived.Test.YtjipdjkcdoajbaaGreatDoorRdSpoil
import Derived.Test.YtjipdjkcdoajbaaGreatDoorPdCrash
namespace Go.Proofs.YtjipdjkcdoajbaaGreatDoor
open Go.RowKit
theorem afterE_le (l : List DE) (frm too : ByteArray) (nb : Nat) : (afterE l frm too nb).length ≤ l.length + 1 := by
  unfold afterE
  have h1 := withE_le frm none l true
  have h2 := withE_le too (some nb) l false
  have h3 := withE_le too (some nb) (withE frm none l true) false
  simp only [if_true, Bool.false_eq_true, if_false] at h1 h2 h3
  dsimp only
  split <;> split <;> omega
theorem goE_le : ∀ (cs : List CH) (l : List DE), (goE l cs).length ≤ l.length + cs.length
  | [], l => by simp [goE]
  | c :: cs, l => by
    have h1 := goE_le cs (afterE l c.frm c.too c.blk)
    have h2 := afterE_le l c.frm c.too c.blk
    have h3 : goE l (c :: cs) = goE (afterE l c.frm c.too c.blk) cs := rfl
    rw [h3, List.length_cons]
    omega
theorem RDIs.setSafeV {w : World} {b : Nat} {R : RDk} {nv sv cv v' : Value} {l' : List DE} (h : RDIs w b R nv sv cv) (ho : Ens w v' l') : RDIs (w.setCell ⟨b, 2, none⟩ v') b { R with safe := l' } nv v' cv := by
  have hset : ∀ k, k ≠ b → (w.setCell ⟨b, 2, none⟩ v').heap[k]? = w.heap[k]? := fun k hk => heap_setCell_other _ _ _ _ (by simpa using hk)
  refine ⟨?_, ?_, ?_, ?_⟩
  · rw [heap_setCell_same _ b 2 _ _ _ h.blk]; rfl
  · exact own_same h.now (fun k hk _ => hset k (h.nne.1 k hk).1)
  · exact own_same ho (fun k hk _ => hset k (by obtain ⟨cur, hc⟩ := own_obj ho k hk; exact type_ne hc h.blk (by decide)))
  · exact own_same h.chg (fun k hk _ => hset k (fun e => h.cne (by rw [← e]; exact hk)))
/-- Behind the changes: what is there is what is safe. -/
theorem RDIs.fall {w : World} {b : Nat} {R : RDk} {nv sv cv : Value} (h : RDIs w b R nv sv cv) : RDIs (((w.setCell ⟨b, 1, none⟩ sv).setCell ⟨b, 3, none⟩ (.slice none 0 0)).setCell ⟨b, 5, none⟩ (.int .i64 (-1))) b { R with now := R.safe, chg := [], left := -1 } sv sv (.slice none 0 0) := by
  have hset : ∀ k, k ≠ b → (((w.setCell ⟨b, 1, none⟩ sv).setCell ⟨b, 3, none⟩ (.slice none 0 0)).setCell ⟨b, 5, none⟩ (.int .i64 (-1))).heap[k]? = w.heap[k]? := fun k hk => by
    rw [heap_setCell_other _ _ _ _ (by simpa using hk), heap_setCell_other _ _ _ _ (by simpa using hk), heap_setCell_other _ _ _ _ (by simpa using hk)]
  refine ⟨?_, ?_, ?_, World.ownsRow_nil _ _ _ _⟩
  · rw [heap_setCell_same _ b 5 _ _ _ (heap_setCell_same _ b 3 _ _ _ (heap_setCell_same _ b 1 _ _ _ h.blk))]; rfl
  · exact own_same h.safe (fun k hk _ => hset k (h.nne.2 k hk).1)
  · exact own_same h.safe (fun k hk _ => hset k (h.nne.2 k hk).1)
theorem RDIs.setNode {w w2 : World} {b nb : Nat} {R : RDk} {nd : Nat → ByteArray × Int} {ns : List Nat} {nv sv cv : Value} (hi : RDIs w b R nv sv cv) (hn : NDs w nd ns) (hm : nb ∈ ns) (hg : w.grownBy w2 (some nb)) : RDIs w2 b R nv sv cv := by
  obtain ⟨e1, e2, e3, e4⟩ := RDN.node_ne hn hi hm
  have hk : ∀ k, k < w.heap.size → k ≠ nb → w2.heap[k]? = w.heap[k]? := fun k hk n1 => hg.block k hk (fun e => n1 (by injection e))
  exact ⟨(hk b (lt_of_row hi.blk) (Ne.symm e1)).trans hi.blk, own_same hi.now (fun k hk1 hk2 => hk k hk2 (e2 k hk1)), own_same hi.safe (fun k hk1 hk2 => hk k hk2 (e3 k hk1)), own_same hi.chg (fun k hk1 hk2 => hk k hk2 (e4 k hk1))⟩
theorem chAt_own {w : World} {base : Nat} {v : Value} {l : List CH} {T : TypeId} (h : w.ownsRow base T 3 v l.length (l.flatMap CH.cells)) : ∃ oc cap, v = .slice oc l.length cap ∧ ∀ i, i < l.length → ∃ g cur, oc = some ⟨g, 0, none⟩ ∧ w.heap[g]? = some (.cells cur T (0, 0)) ∧ cur.toList.take (l.length * 3) = l.flatMap CH.cells := by
  rcases h.2 with ⟨rfl, h0⟩ | ⟨g, cap, cur, rfl, hb, hg, hc, hm, hcs, htk⟩
  · exact ⟨none, 0, by rw [h0], fun i hi => by omega⟩
  · exact ⟨_, cap, rfl, fun i hi => ⟨g, cur, rfl, hg, htk⟩⟩
theorem nCr_lt {paths : Int} {n k : Nat} : k < nCr paths n ↔ k < n ∧ (k : Int) < paths := by unfold nCr withinI; omega
set_option maxHeartbeats 4000000 in
set_option maxRecDepth 100000 in
theorem rdCrash_any (b : Nat) (R : RDk) (nd : Nat → ByteArray × Int) (ns : List Nat) (cv : Value) (paths : Int) (kv : Value) (ks : List Int) (w : World) (h : RDN w b R nd ns cv) (hf : Fits R nd ns) (hlen : R.safe.length + R.chg.length ≤ 100000000) (hk : KAt (fun k => k = b ∨ k ∈ ns) w kv ks)
    (L : List DE) (hL : L = goE R.safe (R.chg.take (nCr paths R.chg.length))) :
    Calls Tryz.prog 67 #[.pointer (some ⟨b, 0, none⟩), .int .i64 paths, kv] w fun e w' => e = .returned (.int .i64 0) ∧ RDN w' b { R with now := L, safe := L, chg := [], left := -1 } (crashN nd L ks) ns (.slice none 0 0) ∧ Gr (fun k => k = b ∨ k ∈ ns) w w' := by
  obtain ⟨oa, ck, rfl, hkc⟩ := hk
  obtain ⟨nv, sv, hi⟩ := h.is
  have HKC := hide hkc
  have H := hide h
  have HI := hide hi
  have HF := hide hf
  have HLE := hide hlen
  have HL := hide hL
  have hbl := lt_of_row hi.blk
  obtain ⟨oc, cap, hcv, hcr⟩ := chAt_own hi.chg
  subst hcv
  have HCR := hide hcr
  obtain ⟨M, hM⟩ : ∃ M, M = R.chg.length := ⟨_, rfl⟩
  obtain ⟨m, hmm⟩ : ∃ m, m = ks.length := ⟨_, rfl⟩
  rw [← hmm]
  have HM := hide hM
  have HMM := hide hmm
  have hMl : M ≤ 100000000 := by rw [hM]; omega
  clear h hi hkc hcr hmm hL hlen hf hM
  go_enter Tryz.func67, Tryz.ntmps67
  go_wp2_with fail
  go_loopw [7] (fun iv wr => ∃ k : Nat, k ≤ nCr paths M ∧ iv = .int .i64 ((k : Nat) : Int) ∧ w.grownBy wr (some b) ∧ ∃ sv', RDIs wr b { R with safe := goE R.safe (R.chg.take k) } nv sv' (.slice oc R.chg.length cap)) (fun iv _ => M - (intOf iv).toNat)
  case atStart => exact ⟨0, Nat.zero_le _, rfl, grownBy_refl _ _, sv, HI.out⟩
  case round =>
    obtain ⟨k, hk, rfl, hgr, sv', hir⟩ := hrel
    have r3 : wr.cell? ⟨b, 3, none⟩ = some (.slice oc R.chg.length cap) := cell_of_row _ _ 3 _ _ _ hir.blk
    have r2 : wr.cell? ⟨b, 2, none⟩ = some sv' := cell_of_row _ _ 2 _ _ _ hir.blk
    have r1 : wr.cell? ⟨b, 1, none⟩ = some nv := cell_of_row _ _ 1 _ _ _ hir.blk
    have r5 : wr.cell? ⟨b, 5, none⟩ = some (.int .i64 R.left) := cell_of_row _ _ 5 _ _ _ hir.blk
    have rf := fun j => frozen_of_row wr b j _ _ hir.blk
    rw [← HM.out] at r3
    have HGR := hide hgr
    have HIR := hide hir
    have hblr := lt_of_row hir.blk
    obtain ⟨osv, csv, hsv⟩ := own_sl hir.safe
    dsimp only at hsv
    by_cases hlt : k < nCr paths M
    · obtain ⟨hk1, hk2⟩ := nCr_lt.1 hlt
      have hkl : k < R.chg.length := by rw [← HM.out]; exact hk1
      obtain ⟨g, cur, rfl, hg, htk⟩ := HCR.out k hkl
      have hgb : g ≠ b := type_ne hg HI.out.blk (by decide)
      have hgk : wr.heap[g]? = some (.cells cur 134 (0, 0)) := (hgr.block g (lt_heap hg) (fun e => hgb (by injection e))).trans hg
      obtain ⟨c, hc⟩ : ∃ c, c = R.chg.getD k CH0 := ⟨_, rfl⟩
      have t0 := ch_cell hgk htk k 0 hkl (by omega)
      have t1 := ch_cell hgk htk k 1 hkl (by omega)
      have t2 := ch_cell hgk htk k 2 hkl (by omega)
      have hsn := take_snoc hkl
      rw [← hc] at t0 t1 t2 hsn
      obtain ⟨cf, ct, cb⟩ := c
      simp only [Nat.add_zero] at t0
      replace t0 : wr.cell? ⟨g, k * 3, none⟩ = some (.string cf) := t0
      replace t1 : wr.cell? ⟨g, k * 3 + 1, none⟩ = some (.string ct) := t1
      replace t2 : wr.cell? ⟨g, k * 3 + 2, none⟩ = some (.pointer (some ⟨cb, 0, none⟩)) := t2
      have hlen : (goE R.safe (R.chg.take k)).length ≤ 100000000 := by
        have h1 := goE_le (R.chg.take k) R.safe
        have h2 := HLE.out
        rw [List.length_take] at h1
        omega
      have HAF := hide (fun (w' : World) (hb : Below wr.heap.size wr w') => after_any sv' _ cf ct cb w' (ownsRow_later hir.safe hb) hlen)
      have HSN := hide hsn
      rw [hsv] at r2 HAF
      have HLT := hide hlt
      clear hgr hir hgk hc hsn hlen hlt hg htk
      go_wp2_with fail
      go_region_with (go_at_call 76; refine (HAF.out wr.drew ((Below.refl _ _).drew)).mono ?_; rintro _ w6 ⟨v6, rfl, hb6, ho6⟩; obtain ⟨o6, c6, e6⟩ := own_sl ho6; subst e6; have hb6' : Below wr.heap.size wr w6 := ((Below.refl wr.heap.size wr).drew).trans hb6; have sb := (hb6'.block b hblr).trans HIR.out.blk; have s2 : w6.cell? ⟨b, 2, none⟩ = some sv' := cell_of_row w6 b 2 _ _ _ sb; have sf := fun j => frozen_of_row w6 b j _ _ sb)
      all_goals
        have hset := (HIR.out.later hb6').setSafeV ho6
        have hfin : w.grownBy (w6.setCell ⟨b, 2, none⟩ (.slice o6 (afterE (goE R.safe (R.chg.take k)) cf ct cb).length c6)) (some b) ∧ RDIs (w6.setCell ⟨b, 2, none⟩ (.slice o6 (afterE (goE R.safe (R.chg.take k)) cf ct cb).length c6)) b { R with safe := goE R.safe (R.chg.take (k + 1)) } nv (.slice o6 (afterE (goE R.safe (R.chg.take k)) cf ct cb).length c6) (.slice (some ⟨g, 0, none⟩) R.chg.length cap) := by
          refine ⟨grownBy_trans HGR.out (grownBy_trans (grownBy_below hb6' _) (grownBy_set _ _ _ _)), ?_⟩
          rw [HSN.out, goE_snoc]
          exact hset
        have HFIN := hide hfin
        clear hset hfin hb6 ho6 hb6' sb s2 sf
        go_wp2_with fail
        exact ⟨⟨k + 1, HLT.out, by go_num, HFIN.out.1, _, HFIN.out.2⟩, by simp [intOf]; omega⟩
    · have hkn : k = nCr paths R.chg.length := by rw [← HM.out]; omega
      have hsafe : goE R.safe (R.chg.take k) = L := by rw [HL.out, hkn]
      rw [hsafe] at hir hsv
      have hfl := hir.fall
      dsimp only at hfl
      have hBG : w.grownBy (((wr.setCell ⟨b, 1, none⟩ sv').setCell ⟨b, 3, none⟩ (.slice none 0 0)).setCell ⟨b, 5, none⟩ (.int .i64 (-1))) (some b) := grownBy_trans hgr (grownBy_trans (grownBy_set _ _ _ _) (grownBy_trans (grownBy_set _ _ _ _) (grownBy_set _ _ _ _)))
      have hrdn : RDN (((wr.setCell ⟨b, 1, none⟩ sv').setCell ⟨b, 3, none⟩ (.slice none 0 0)).setCell ⟨b, 5, none⟩ (.int .i64 (-1))) b { R with now := L, safe := L, chg := [], left := -1 } nd ns (.slice none 0 0) := by
        have hin : ∀ e ∈ L, e.blk ∈ ns := by
          intro e he
          rw [HL.out] at he
          rcases goE_mem _ he with he | ⟨c, hc, he⟩
          · exact H.out.isafe e he
          · rw [he]; exact H.out.ichg c (List.mem_of_mem_take hc)
        exact ⟨⟨sv', sv', hfl⟩, nds_set HI.out H.out.nds hBG, hin, hin, (fun c hc => by cases hc)⟩
      have HRD := hide hrdn
      have HBG := hide hBG
      rw [hsv] at r2
      have hcond : k < M → ¬ ((k : Int) < paths) := fun h1 h2 => hlt (nCr_lt.2 ⟨h1, h2⟩)
      have HCO := hide hcond
      have HSV := hide hsv
      have HFL := hide hfl
      clear hgr hir hkn hsafe hfl hBG hrdn hcond hlt
      go_upto_region 4 with fail
      go_cut [24] from 13 to 41 (fun bv wx => bv = .bool false ∧ wx = wr)
      case first =>
        by_cases hkM : k < M
        · have hnp := HCO.out hkM
          have e2 : decide ((k : Int) < paths) = false := decide_eq_false hnp
          go_wp2_with fail
          go_meet
          case rel => exact ⟨rfl, rfl⟩
        · have e1 : decide (((k : Nat) : Int) < ((M : Nat) : Int)) = false := by simp; omega
          go_wp2_with fail
          go_meet
          case rel => exact ⟨rfl, rfl⟩
      case rest =>
        obtain ⟨rfl, hwc⟩ := hcut
        subst hwc
        rw [HSV.out] at HRD HBG HFL
        go_wp2_with fail
        generalize (((wc.setCell ⟨b, 1, none⟩ (.slice osv L.length csv)).setCell ⟨b, 3, none⟩ (.slice none 0 0)).setCell ⟨b, 5, none⟩ (.int .i64 (-1))) = w3 at HRD HBG HFL ⊢
        obtain ⟨n, hn⟩ : ∃ n, n = L.length := ⟨_, rfl⟩
        rw [← hn] at HFL
        have HN := hide hn
        have hnl : n ≤ 100000000 := by
          rw [hn, HL.out]
          have h1 := goE_le (R.chg.take (nCr paths R.chg.length)) R.safe
          have h2 := HLE.out
          rw [List.length_take] at h1
          omega
        clear hn HCO HIR HGR r1 r2 r3 r5 rf hblr HSV hsv hk
        have HKN : Hid (∀ wr : World, Gr (fun k => k = b ∨ k ∈ ns) w wr → ∀ i, i < m → ∃ g o, oa = some ⟨g, o, none⟩ ∧ wr.cell? ⟨g, o + i, none⟩ = some (.int .i64 (ks.getD i 0))) := by
          intro wr hgr i hi
          obtain ⟨g, o, e1, e2, e3⟩ := HKC.out i (by rw [← HMM.out]; exact hi)
          have hbk := hgr.block g (World.block_lt_of_cell? _ _ e3) e2
          exact ⟨g, o, e1, (World.cell?_of_block (a := ⟨g, o + i, none⟩) hbk).trans e3⟩
        go_loopw [8] (fun iv wr => ∃ j : Nat, j ≤ n ∧ iv = .int .i64 ((j : Nat) : Int) ∧ RDIs wr b { R with now := L, safe := L, chg := [], left := -1 } (.slice osv n csv) (.slice osv n csv) (.slice none 0 0) ∧ RDN wr b { R with now := L, safe := L, chg := [], left := -1 } (crashN nd (L.take j) ks) ns (.slice none 0 0) ∧ Gr (fun k => k = b ∨ k ∈ ns) w wr) (fun iv _ => n - (intOf iv).toNat)
        case atStart => exact ⟨0, Nat.zero_le _, rfl, HFL.out, HRD.out, Gr.of_grownBy HBG.out (.inl rfl)⟩
        case round =>
          obtain ⟨j, hj, rfl, hir, hrd, hgr⟩ := hrel
          have r1 : wr.cell? ⟨b, 1, none⟩ = some (.slice osv n csv) := cell_of_row _ _ 1 _ _ _ hir.blk
          have HIR := hide hir
          have HRR := hide hrd
          have HGR := hide hgr
          by_cases hlt : j < n
          · have hjL : j < L.length := by rw [← HN.out]; exact hlt
            have hda := deAt_own hir.now
            obtain ⟨o', c', hov, hcell⟩ := hda
            dsimp only at hov hcell
            injection hov with hov1 hov2 hov3
            subst hov1
            obtain ⟨g, rfl, hrg⟩ := hcell j hjL
            have hmem : L.getD j DE0 ∈ L := by rw [List.getD_eq_getElem?_getD, List.getElem?_eq_getElem hjL]; simp
            have hfm : (L.getD j DE0).blk ∈ ns := hrd.inow _ hmem
            have hsnoc := crashN_snoc L nd ks j hjL
            obtain ⟨nd', hnd'⟩ : ∃ nd', nd' = crashN nd (L.take j) ks := ⟨_, rfl⟩
            rw [← hnd'] at hsnoc hrd HRR
            have hgood : GoodX (nd' (L.getD j DE0).blk) := by
              rw [hnd']
              exact crashN_good _ _ _ (fun e he => HF.out.data _ (HRD.out.inow e (List.mem_of_mem_take he))) _ (HF.out.data _ hfm)
            have hnb := hrd.nds _ hfm
            obtain ⟨ef, hef⟩ : ∃ ef, ef = (L.getD j DE0).blk := ⟨_, rfl⟩
            have t1 : wr.cell? ⟨g, j * 2 + 1, none⟩ = some (.pointer (some ⟨ef, 0, none⟩)) := by rw [hef]; exact hrg 1 _ rfl
            rw [← hef] at hsnoc hgood hfm hnb
            have HSN := hide hsnoc
            have HNB := hide hnb
            obtain ⟨dt, hdt⟩ : ∃ dt, dt = (nd' ef).1 := ⟨_, rfl⟩
            obtain ⟨sy, hsy⟩ : ∃ sy, sy = (nd' ef).2 := ⟨_, rfl⟩
            have n0 : wr.cell? ⟨ef, 0, none⟩ = some (.string dt) := by rw [hdt]; exact cell_of_row _ _ 0 _ _ _ hnb
            have n1 : wr.cell? ⟨ef, 1, none⟩ = some (.int .i64 sy) := by rw [hsy]; exact cell_of_row _ _ 1 _ _ _ hnb
            obtain ⟨q1, q2, q3⟩ := hgood
            rw [← hdt, ← hsy] at q3
            rw [← hdt] at q1
            rw [← hsy] at q2
            have HDT := hide hdt
            have HSY := hide hsy
            have HK2 := hide (HKN.out wr hgr j)
            have HK3 : Hid (¬ j < m → ks.getD j 0 = 0) := by
              intro hkk
              rw [List.getD_eq_getElem?_getD, List.getElem?_eq_none (by rw [← HMM.out]; omega)]
              rfl
            generalize ks.getD j 0 = more at HK2 HK3 HSN
            clear hir hrd hgr hrg hmem hsnoc hnb hdt hsy hnd' hef hcell hov2 hov3
            go_upto_region 15 with fail
            go_cut [82] from 55 to 130 (fun bv wx => bv = .bool (decide (0 < more)) ∧ wx = wr)
            case first =>
              by_cases hkk : j < m
              · obtain ⟨gk, ok, rfl, tk⟩ := HK2.out hkk
                go_wp2_with fail
                go_meet
                case rel => exact ⟨rfl, rfl⟩
              · have e1 : decide (((j : Nat) : Int) < ((m : Nat) : Int)) = false := by simp; omega
                have hm0 := HK3.out hkk
                go_wp2_with fail
                go_meet
                case rel => exact ⟨by rw [hm0]; rfl, rfl⟩
            case rest =>
              obtain ⟨rfl, hwc⟩ := hcut
              subst hwc
              go_upto_if 82 with fail
              go_cut [10] from 55 to 130 (fun mv wx => mv = .int .i64 (max more 0) ∧ wx = wc)
              case first =>
                by_cases hm0 : 0 < more
                · have e1 : decide (0 < more) = true := decide_eq_true hm0
                  have hkk : j < m := by
                    rcases Nat.lt_or_ge j m with h | h
                    · exact h
                    · have := HK3.out (by omega); omega
                  obtain ⟨gk, ok, rfl, tk⟩ := HK2.out hkk
                  have emx : max more 0 = more := by omega
                  rw [e1]
                  go_wp2_with fail
                  go_meet
                  case rel => exact ⟨by rw [emx], rfl⟩
                · have e1 : decide (0 < more) = false := decide_eq_false hm0
                  have emx : max more 0 = 0 := by omega
                  rw [e1]
                  go_wp2_with fail
                  go_meet
                  case rel => exact ⟨by rw [emx], rfl⟩
              case rest =>
                obtain ⟨rfl, hwc⟩ := hcut
                subst hwc
                have hw1 : IntKind.i64.wrap ((dt.size : Int) - sy) = (dt.size : Int) - sy := wrap64 (by omega) (by omega)
                have HW1 := hide hw1
                have HQ := hide (And.intro q1 (And.intro q2 q3))
                go_wp2_with fail
                go_quiet (fail)
                obtain ⟨wq, hwq⟩ : ∃ wq, wq = wc.drewN nq := ⟨_, rfl⟩
                rw [← hwq]
                have hbq : Below wc.heap.size wc wq := by rw [hwq]; exact (Below.refl _ _).drewN nq
                have p0 := cell_later hbq n0
                have p1 := cell_later hbq n1
                have HBQ := hide hbq
                clear hwq hbq
                go_upto_if 98 with fail
                go_cut [10] from 55 to 130 (fun mv wx => mv = .int .i64 (withinI more ((dt.size : Int) - sy)) ∧ Below wc.heap.size wc wx)
                case first =>
                  by_cases hgt : (dt.size : Int) - sy < max more 0
                  · have e1 : decide ((dt.size : Int) - sy < max more 0) = true := decide_eq_true hgt
                    have ewi : withinI more ((dt.size : Int) - sy) = (dt.size : Int) - sy := by unfold withinI; omega
                    go_wp2_with fail
                    go_quiet (fail)
                    go_wp2_with fail
                    go_meet
                    case rel => exact ⟨by rw [ewi], HBQ.out.trans (((Below.refl _ _).drewN _).mono HBQ.out.size)⟩
                  · have e1 : decide ((dt.size : Int) - sy < max more 0) = false := decide_eq_false hgt
                    have ewi : withinI more ((dt.size : Int) - sy) = max more 0 := by unfold withinI; omega
                    go_wp2_with fail
                    go_meet
                    case rel => exact ⟨by rw [ewi], HBQ.out⟩
                case rest =>
                  obtain ⟨rfl, hbx⟩ := hcut
                  have x0 := cell_later hbx n0
                  have x1 := cell_later hbx n1
                  have hrx := HRR.out.later hbx
                  have hix := HIR.out.later hbx
                  have xf := fun i => frozen_of_row wc ef i _ _ (hrx.nds ef hfm)
                  have hxl := lt_of_row (hrx.nds ef hfm)
                  obtain ⟨NN, hNN⟩ : ∃ NN : Nat, NN = (sy + withinI more ((dt.size : Int) - sy)).toNat := ⟨_, rfl⟩
                  have hqq := HQ.out
                  have hN1 : sy + withinI more ((dt.size : Int) - sy) = ((NN : Nat) : Int) := by rw [hNN]; unfold withinI; omega
                  have hN2 : NN ≤ dt.size := by rw [hNN]; unfold withinI; omega
                  have hw2 : IntKind.i64.wrap (sy + withinI more ((dt.size : Int) - sy)) = ((NN : Nat) : Int) := by rw [hN1]; exact wrap64 (by omega) (by omega)
                  have hds : dt.size ≤ 9223372036854775807 := by omega
                  have hcut2 : cutK (nd' ef) more = (dt.extract 0 NN, ((dt.extract 0 NN).size : Int)) := by
                    unfold cutK
                    rw [← HDT.out, ← HSY.out]
                    dsimp only
                    rw [size_ext _ hN2]
                    have e : (sy + min (max more 0) ((dt.size : Int) - sy)).toNat = NN := by rw [hNN]; rfl
                    rw [e]
                  have HCU := hide hcut2
                  have HRX := hide hrx
                  have HIX := hide hix
                  have HBX := hide hbx
                  clear hrx hix hbx hNN hqq hcut2 HBQ hN1 n0 n1 hw1
                  go_wp2_with fail
                  go_region_with (fail)
                  all_goals
                    have hb8 : ((wc.setCell ⟨ef, 0, none⟩ (.string (dt.extract 0 NN))).drew).heap[ef]? = some (.cells #[.string (dt.extract 0 NN), .int .i64 sy] 63 (0, 0)) := by
                      have h1 := heap_setCell_same wc ef 0 _ _ (.string (dt.extract 0 NN)) (HRX.out.nds ef hfm)
                      rw [← HSY.out] at h1
                      exact h1
                    have hg8 : wc.grownBy ((wc.setCell ⟨ef, 0, none⟩ (.string (dt.extract 0 NN))).drew) (some ef) := grownBy_trans (grownBy_set _ _ _ _) (grownBy_below ((Below.refl _ _).drew) _)
                    generalize (wc.setCell ⟨ef, 0, none⟩ (.string (dt.extract 0 NN))).drew = w8 at hb8 hg8 ⊢
                    have y0 : w8.cell? ⟨ef, 0, none⟩ = some (.string (dt.extract 0 NN)) := cell_of_row _ _ 0 _ _ _ hb8
                    have y1 : w8.cell? ⟨ef, 1, none⟩ = some (.int .i64 sy) := cell_of_row _ _ 1 _ _ _ hb8
                    have yf := fun i => frozen_of_row w8 ef i _ _ hb8
                    have hb9 : (w8.setCell ⟨ef, 1, none⟩ (.int .i64 ((dt.extract 0 NN).size : Int))).heap[ef]? = some (.cells #[.string (dt.extract 0 NN), .int .i64 ((dt.extract 0 NN).size : Int)] 63 (0, 0)) := by
                      rw [heap_setCell_same _ ef 1 _ _ _ hb8]; rfl
                    have hg9 : wc.grownBy (w8.setCell ⟨ef, 1, none⟩ (.int .i64 ((dt.extract 0 NN).size : Int))) (some ef) := grownBy_trans hg8 (grownBy_set _ _ _ _)
                    have hfin : RDIs (w8.setCell ⟨ef, 1, none⟩ (.int .i64 ((dt.extract 0 NN).size : Int))) b { R with now := L, safe := L, chg := [], left := -1 } (.slice (some ⟨g, 0, none⟩) n csv) (.slice (some ⟨g, 0, none⟩) n csv) (.slice none 0 0) ∧ RDN (w8.setCell ⟨ef, 1, none⟩ (.int .i64 ((dt.extract 0 NN).size : Int))) b { R with now := L, safe := L, chg := [], left := -1 } (crashN nd (L.take (j + 1)) ks) ns (.slice none 0 0) ∧ Gr (fun k => k = b ∨ k ∈ ns) w (w8.setCell ⟨ef, 1, none⟩ (.int .i64 ((dt.extract 0 NN).size : Int))) := by
                      refine ⟨HIX.out.setNode HRX.out.nds hfm hg9, ?_, HGR.out.trans ((Gr.of_below HBX.out).trans (Gr.of_grownBy hg9 (.inr hfm)))⟩
                      rw [HSN.out, HCU.out]
                      exact HRX.out.setNode hfm hg9 hb9
                    have HFIN := hide hfin
                    clear hb8 hg8 hb9 hg9 hfin
                    generalize dt.extract 0 NN = DX at y0 HFIN
                    go_wp2_with fail
                    exact ⟨⟨j + 1, by omega, by go_num, HFIN.out.1, HFIN.out.2.1, HFIN.out.2.2⟩, by simp [intOf]; omega⟩
          · have e1 : decide (((j : Nat) : Int) < ((n : Nat) : Int)) = false := by simp; omega
            have hjn : j = L.length := by rw [← HN.out]; omega
            have hfin : RDN wr b { R with now := L, safe := L, chg := [], left := -1 } (crashN nd L ks) ns (.slice none 0 0) := by
              have := hrd
              rw [hjn, List.take_length] at this
              exact this
            have HFIN := hide hfin
            clear hir hrd hgr hfin HKN
            go_wp2_with fail
            go_ret
            exact ⟨rfl, HFIN.out, HGR.out⟩
end Go.Proofs.YtjipdjkcdoajbaaGreatDoor
