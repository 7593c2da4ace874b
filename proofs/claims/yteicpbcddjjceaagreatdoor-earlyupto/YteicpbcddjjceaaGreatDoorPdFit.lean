/-
  PROVED HERE: what the program's own Copy of disks does: the walk.
-/
import Derived.Test.YteicpbcddjjceaaGreatDoorPdCopy
import Derived.Deep.RegionHeld3
import Derived.Test.YteicpbcddjjceaaGreatDoorPdCrash
namespace Go.Proofs.YteicpbcddjjceaaGreatDoor
open Go.RowKit
theorem iter_notOwn {s : PSt} {w : World} (h : s.In w) {r : Nat} {m : Option Nat} {a b : Nat} {c : Array Nat} (hr : w.heap[r]? = some (.mapIter m a c b)) : ¬ s.own r := by
  intro ho
  rcases ho with e | e | e | e | e | ⟨f, hf, e⟩
  · have := h.is.blk; rw [← e, hr] at this; cases this
  · obtain ⟨e1, c1, m1⟩ := h.is.now.isMap
    rw [e, m1] at hr; cases hr
  · obtain ⟨e1, c1, m1⟩ := h.is.safe.isMap
    rw [e, m1] at hr; cases hr
  · obtain ⟨c, hc⟩ := own_obj h.is.chg r e; rw [hr] at hc; cases hc
  · have := (h.fds r e).blk; rw [hr] at this; cases this
  · obtain ⟨c, hc⟩ := own_obj (h.fds f hf).row r e; rw [hr] at hc; cases hc
theorem ranges_iter {P : Program} {k : TypeId} {R : Value → Option (DataW Unit × List MemPlace)} {w : World} {b r n : Nat} {D : DataW Unit} {left : Lit → Bool} {cnt : Nat} (h : w.ranges P k R b r n D left cnt) : ∃ m a c d, w.heap[r]? = some (.mapIter m a c d) := by
  obtain ⟨es, clock, since, seen, c0, _, _, _, _, hr, _⟩ := h
  exact ⟨_, _, _, _, hr⟩
theorem keep_cell {w2 w6 w7 : World} {b g i : Nat} {o : Obj} {v : Value} (hc : w2.cell? ⟨g, i, none⟩ = some v) (hg : g < w2.heap.size) (hb : Below w2.heap.size w2 w6) (ht : (w6.alloc o).mapTurned w7 b) (hne : g ≠ b) : w7.cell? ⟨g, i, none⟩ = some v := by
  have hs := hb.size
  have h1 : w7.heap[g]? = w2.heap[g]? := (ht.grown.block g (by rw [size_alloc]; omega) (fun e => hne (by injection e))).trans ((Below.heap_alloc w6 o g (by omega)).trans (hb.block g hg))
  exact (World.cell?_of_block (a := ⟨g, i, none⟩) h1).trans hc
theorem pm_store {P : Program} {k t e : TypeId} {w : World} {b nb : Nat} {l : List DE} {p : ByteArray} (h : PM P k w b l) (hk : P.underlying k = some .string) (ht : P.underlying t = some (.map k e)) (hn : l.length < maxLen) (hp : p.size ≤ maxLen) :
    ∃ w', (Instr.mapUpdate t (.map (some b)) (.string p) (.pointer (some ⟨nb, 0, none⟩))).run P w = .ok () w' ∧ PM P k w' b (withE p (some nb) l false) ∧ w.mapTurned w' b := by
  obtain ⟨w', hrun, r1, r2⟩ := World.ownsMap.store h (Maps.string_keyed hk) ht hn (WideMaps.keyOf_string_mk hk hp) (show ptrRd (.pointer (some ⟨nb, 0, none⟩)) = some (.lit (.int .i64 (nb : Int)), []) from rfl)
  rw [show Lit.string p.data.toList = kOf p from rfl, dOf_put p nb l (PM.rise h (Maps.string_keyed hk))] at r1
  exact ⟨w', hrun, pm_tight r1, r2⟩
theorem PDIs.setLb {w : World} {b mb lb lb' : Nat} {R : RDk} {cv : Value} {l : List DE} (h : PDIs w b R mb lb cv) (hm : PM Tryz.prog 9 w lb' l) (hne : mb ≠ lb') : PDIs (w.setCell ⟨b, 2, none⟩ (.map (some lb'))) b { R with safe := l } mb lb' cv := by
  obtain ⟨n1, n2, n3, n4, n5⟩ := h.ne
  have hset : ∀ k, k ≠ b → (w.setCell ⟨b, 2, none⟩ (.map (some lb'))).heap[k]? = w.heap[k]? := fun k hk => heap_setCell_other _ _ _ _ (by simpa using hk)
  have hb : lb' ≠ b := by
    intro e
    obtain ⟨e1, c1, m1⟩ := hm.isMap
    have := h.blk
    rw [← e, m1] at this; cases this
  exact ⟨by rw [heap_setCell_same _ b 2 _ _ _ h.blk]; rfl, h.now.later (hset _ (Ne.symm n4)), hm.later (hset _ hb), hne, own_same h.chg (fun k hk _ => hset k (fun e => n1 (by rw [← e]; exact hk)))⟩
set_option maxHeartbeats 4000000 in
set_option maxRecDepth 100000 in
theorem pdCopy (s : PSt) (w : World) (h : s.In w) (hr0 : 0 ≤ s.R.room) (hl : s.R.now.length ≤ 100000000) (hsz : ∀ f ∈ s.fs, (s.fd f).1.size ≤ 1000000000000) :
    Calls Tryz.prog 47 #[.pointer (some ⟨s.b, 0, none⟩)] w fun e w' => ∃ so ψ, e = .returned (.pointer (some ⟨so.b, 0, none⟩)) ∧ Below w.heap.size w w' ∧ so.In w' ∧ (∀ k, so.own k → w.heap.size ≤ k) ∧
      so.R = ⟨s.R.room, so.R.now, so.R.now, [], 0, -1⟩ ∧ CpRel s so ψ (fun _ => false) := by
  have c0 : w.cell? ⟨s.b, 0, none⟩ = some (.int .i64 s.R.room) := cell_of_row _ _ 0 _ _ _ h.is.blk
  have hbl := lt_of_row h.is.blk
  have H := hide h
  have HNW := hide (pnew_any s.R.room w)
  rw [if_neg (by omega)] at HNW
  clear h
  go_enter Tryz.func47, Tryz.ntmps47
  go_wp2_with fail
  refine (HNW.out).mono ?_
  rintro _ w1 ⟨rfl, hb1, hd1, hs1⟩
  dsimp only
  have HS1 := hide hs1
  clear hs1
  have hin1 := H.out.later hb1
  have b1 : w1.cell? ⟨s.b, 1, none⟩ = some (.map (some s.mb)) := cell_of_row _ _ 1 _ _ _ hin1.is.blk
  have HM := hide hin1.is.now.strict
  have hso : ({ b := w.heap.size + 1 + 1, mb := w.heap.size, lb := w.heap.size + 1, cv := .slice none 0 0, R := ⟨s.R.room, [], [], [], 0, -1⟩, fs := [], fd := s.fd, fv := s.fv } : PSt).In w1 :=
    ⟨hd1, (fun f hf => by cases hf), (fun f hf => by cases hf), (fun e he => by cases he), (fun e he => by cases he), (fun e he => by cases he)⟩
  have HSO := hide hso
  have HB1 := hide hb1
  clear hin1 hso hb1 hd1
  go_wp2_with (at_range; refine wpList_range_own _ rfl _ 102 rfl 9 157 (Maps.string_keyed Tryz.underlying9) Tryz.underlying102 ptrRd1 s.mb s.R.now.length (dOf s.R.now) rfl HM.out ?_; intro w0 hrg0 hg0 hs0)
  go_frame
  have hB0 : Below w1.heap.size w1 w0 := ⟨hg0.os, hg0.tape, hg0.output, hg0.size, fun k hk => hg0.block k hk (by simp)⟩
  have hBw : Below w.heap.size w w0 := HB1.out.trans (hB0.mono HB1.out.size)
  have hinit : ∃ left cnt, w0.ranges Tryz.prog 9 ptrRd1 s.mb w1.heap.size s.R.now.length (dOf s.R.now) left cnt ∧ Below w.heap.size w w0 ∧ w1.heap.size + 1 ≤ w0.heap.size ∧ ∃ so ψ, so.In w0 ∧ so.b = w.heap.size + 1 + 1 ∧ so.mb = w.heap.size ∧ so.R = ⟨s.R.room, so.R.now, [], [], 0, -1⟩ ∧ (∀ k, so.own k → w.heap.size ≤ k) ∧ CpRel s so ψ left ∧ so.R.now.length + cnt ≤ s.R.now.length := by
    have hs1 := HS1.out
    refine ⟨_, _, hrg0, hBw, by omega, _, fun _ => 0, HSO.out.later hB0, rfl, rfl, rfl, ?_, ?_, by simp [dOf, Maps.size]⟩
    · intro k hk
      rcases hk with e | e | e | e | e | ⟨f, hf, e⟩
      · dsimp only at e; omega
      · dsimp only at e; omega
      · dsimp only at e; omega
      · cases e
      · cases e
      · cases hf
    · refine ⟨fun x => ?_, fun x f hx hf => ?_, fun x y hx hy hsx => ?_, fun x hx hsx => ?_⟩
      · show none = _
        cases hf : findE x s.R.now with
        | none => simp
        | some g =>
          obtain ⟨e, he, hp, _⟩ := findE_some hf
          rw [← hp, has_path he]; rfl
      · obtain ⟨e, he, hp, _⟩ := findE_some hf
        rw [← hp, has_path he] at hx; cases hx
      · obtain ⟨g, hg⟩ := Option.isSome_iff_exists.1 hsx
        obtain ⟨e, he, hp, _⟩ := findE_some hg
        rw [← hp, has_path he] at hx; cases hx
      · obtain ⟨g, hg⟩ := Option.isSome_iff_exists.1 hsx
        obtain ⟨e, he, hp, _⟩ := findE_some hg
        rw [← hp, has_path he] at hx; cases hx
  have HI := hide hinit
  clear hinit hrg0 hg0 hB0 hBw HSO HM
  go_loopw [] (fun wr => ∃ left cnt, wr.ranges Tryz.prog 9 ptrRd1 s.mb w1.heap.size s.R.now.length (dOf s.R.now) left cnt ∧ Below w.heap.size w wr ∧ w1.heap.size + 1 ≤ wr.heap.size ∧ ∃ so ψ, so.In wr ∧ so.b = w.heap.size + 1 + 1 ∧ so.mb = w.heap.size ∧ so.R = ⟨s.R.room, so.R.now, [], [], 0, -1⟩ ∧ (∀ k, so.own k → w.heap.size ≤ k) ∧ CpRel s so ψ left ∧ so.R.now.length + cnt ≤ s.R.now.length) (fun wr => wr.rangeLeft s.mb w1.heap.size)
  case atStart => exact HI.out
  case round =>
    obtain ⟨left, cnt, hrg, hb, hszr, so, ψ, hin, hob, hom, hoR, hoo, hcp, hcnt⟩ := hrel
    have HRGR := hide hrg
    have HB := hide hb
    have HIN := hide hin
    have HCP := hide hcp
    have HOO := hide hoo
    have HOR := hide hoR
    clear hb hin hcp hoo hoR hrg
    go_wp2_with (at_next; refine wpList_next_ranges _ rfl _ rfl 9 (Maps.string_keyed Tryz.underlying9) ptrRd1 Value.string (fun f : Nat => Value.pointer (some ⟨f, 0, none⟩)) (fun key kl hkey => str_inv Tryz.underlying9 hkey) (fun v y hv => ptrRd1_inv hv) s.mb w1.heap.size _ _ _ _ rfl HRGR.out ?_ ?_)
    · intro _ hl0
      have hdo := HIN.out.is
      rw [hob, hom] at hdo
      have k1 : wr.cell? ⟨w.heap.size + 1 + 1, 1, none⟩ = some (.map (some w.heap.size)) := cell_of_row _ _ 1 _ _ _ hdo.blk
      have k2 : wr.cell? ⟨w.heap.size + 1 + 1, 2, none⟩ = some (.map (some so.lb)) := cell_of_row _ _ 2 _ _ _ hdo.blk
      have kf := fun j => frozen_of_row wr (w.heap.size + 1 + 1) j _ _ hdo.blk
      have HCL := hide (pclone_any w.heap.size so.R.now wr hdo.now)
      have HDO := hide hdo
      have HL0 := hide hl0
      clear hdo hl0
      go_wp2_with fail
      refine (HCL.out).mono ?_
      rintro _ w3 ⟨rfl, hm3, hb3⟩
      dsimp only
      have hin3 := HIN.out.later hb3
      have hd3 := HDO.out.later hb3
      have j2 : w3.cell? ⟨w.heap.size + 1 + 1, 2, none⟩ = some (.map (some so.lb)) := cell_of_row _ _ 2 _ _ _ hd3.blk
      have jf := fun j => frozen_of_row w3 (w.heap.size + 1 + 1) j _ _ hd3.blk
      have hBf : Below w.heap.size w (w3.setCell ⟨w.heap.size + 1 + 1, 2, none⟩ (.map (some wr.heap.size))) := (HB.out.trans (hb3.mono HB.out.size)).setCell (by simp; omega) _
      have hfin : ∃ so' ψ', Value.pointer (some ⟨w.heap.size + 1 + 1, 0, none⟩) = .pointer (some ⟨so'.b, 0, none⟩) ∧ so'.In (w3.setCell ⟨w.heap.size + 1 + 1, 2, none⟩ (.map (some wr.heap.size))) ∧ (∀ k, so'.own k → w.heap.size ≤ k) ∧
          so'.R = ⟨s.R.room, so'.R.now, so'.R.now, [], 0, -1⟩ ∧ CpRel s so' ψ' (fun _ => false) := by
        have hlf : left = fun _ => false := funext HL0.out
        have hset := hd3.setLb hm3 (fun e => by have := HDO.out.now.lt; omega)
        have hpg : PGo so { so with R := { so.R with safe := so.R.now }, lb := wr.heap.size } wr (w3.setCell ⟨w.heap.size + 1 + 1, 2, none⟩ (.map (some wr.heap.size))) := by
          refine PGo.disk HIN.out ?_ (by rw [hob, hom]; exact hset) (.inl rfl) (.inr (Nat.le_refl _)) (.inl rfl) HIN.out.inow HIN.out.inow HIN.out.ichg
          exact (Gr.of_below hb3).trans (Gr.of_grownBy (grownBy_set _ _ _ _) (.inl hob.symm))
        refine ⟨_, ψ, by rw [← hob], hpg.inn, fun k hk => ?_, ?_, ?_⟩
        · rcases hpg.own k hk with h1 | h1
          · exact HOO.out k h1
          · have := HB.out.size; omega
        · dsimp only
          rw [HOR.out]
        · have h1 := HCP.out
          rw [hlf] at h1
          exact ⟨h1.fnd, h1.dat, h1.inj, h1.inn⟩
      have HBF := hide hBf
      have HFIN := hide hfin
      clear hin3 hd3 hBf hfin hm3 hb3
      go_wp2_with fail
      go_ret
      obtain ⟨so', ψ', e1, e2, e3, e4, e5⟩ := HFIN.out
      exact ⟨so', ψ', congrArg Ending.returned e1, HBF.out, e2, e3, e4, e5⟩
    · intro x f kl d ps w2 cnt1 hkey hlk hv hat hrg1 hlt hg1 hs2 hen
      have hkl := str_key Tryz.underlying9 hkey
      subst hkl
      rw [ptrRd1_of] at hv
      injection hv with hv
      injection hv with hd _
      have hfe : findE x s.R.now = some f := next_find hat hd.symm
      have hfm : f ∈ s.fs := by
        obtain ⟨e, he, hbe⟩ := findE_mem hfe
        rw [← hbe]; exact H.out.inow e he
      have hxs : x.size ≤ maxLen := by
        obtain ⟨e, he, hp, _⟩ := findE_some hfe
        rw [← hp]
        exact H.out.is.now.keySize Tryz.underlying9 e he
      obtain ⟨m0, a0, q0, d0, hit⟩ := ranges_iter HRGR.out
      have hb2 : Below w.heap.size w w2 := HB.out.grown hg1 HB.out.size (fun k hk => by injection hk with hk; have := HS1.out; omega)
      have hin2 : so.In w2 := HIN.out.same (fun k hk => hg1.block k (HIN.out.lt hk) (fun e => iter_notOwn HIN.out hit (by injection e with e; rw [← e]; exact hk)))
      have hfd := (H.out.later hb2).fds f hfm
      obtain ⟨o, cap, hfv, _, _⟩ := hfd.shape
      have f0 : w2.cell? ⟨f, 0, none⟩ = some (s.fv f) := cell_of_row _ _ 0 _ _ _ hfd.blk
      rw [hfv] at f0
      have hfl := lt_of_row hfd.blk
      have hrow := hfd.row
      have hdo := hin2.is
      rw [hob, hom] at hdo
      have k1 : w2.cell? ⟨w.heap.size + 1 + 1, 1, none⟩ = some (.map (some w.heap.size)) := cell_of_row _ _ 1 _ _ _ hdo.blk
      have hkl := lt_of_row hdo.blk
      have HCN := hide (fun (w' : World) (hb : Below w2.heap.size w2 w') => bclone_any (s.fv f) (s.fd f).1 w' (ownsRow_later hrow hb) (hsz f hfm))
      rw [hfv] at HCN
      have hnl : so.R.now.length < maxLen := by unfold maxLen; omega
      have hcnt1 : so.R.now.length + 1 + cnt1 ≤ s.R.now.length := by omega
      have HPM := hide hdo.now
      have HIN2 := hide hin2
      have HB2 := hide hb2
      have HRG1 := hide hrg1
      have HLT := hide hlt
      have HFE := hide hfe
      have HDO := hide hdo
      have HFW := hide (lt_of_row (H.out.fds f hfm).blk)
      clear hkey hlk hat hrg1 hlt hg1 hd hfe hb2 hin2 hfd hfv hrow hdo hit HB HIN
      generalize hszf : (s.fd f).1.size = sz at f0 HCN
      go_wp2_with fail
      go_region_held3 (fun w' => w'.cell? ⟨w.heap.size + 1 + 1, 1, none⟩ = some (.map (some w.heap.size)) ∧ w'.cell? ⟨f, 0, none⟩ = some (.slice o sz cap))
        (first | exact ⟨hkeep7.1, hkeep7.2⟩ | go_keep | exact ⟨cell_later hb6 k1, cell_later hb6 f0⟩)
        (first | (go_at_call 82; refine (HCN.out w2.drew ((Below.refl _ _).drew)).mono ?_; rintro _ w6 ⟨o6, cap6, rfl, hrow6, hb6⟩; obtain ⟨w7, hrun7, hpm7, ht7⟩ := pm_store (w := w6.alloc (.cells #[.slice o6 sz cap6, .int .i64 (sz : Int)] 159)) (t := 102) (nb := w6.heap.size) (HPM.out.later ((Below.heap_alloc w6 _ _ (Nat.lt_of_lt_of_le HPM.out.lt hb6.size)).trans (hb6.block _ HPM.out.lt))) Tryz.underlying9 Tryz.underlying102 hnl hxs; have hkeep7 : w7.cell? ⟨w.heap.size + 1 + 1, 1, none⟩ = some (.map (some w.heap.size)) ∧ w7.cell? ⟨f, 0, none⟩ = some (.slice o sz cap) := ⟨keep_cell k1 hkl ((Below.refl w2.heap.size w2).drew.trans hb6) ht7 (by omega), keep_cell f0 hfl ((Below.refl w2.heap.size w2).drew.trans hb6) ht7 (Nat.ne_of_lt HFW.out)⟩))
      have hs6 : w2.heap.size ≤ w6.heap.size := hb6.size
      have hB6 : Below w2.heap.size w2 (w6.alloc (.cells #[.slice o6 sz cap6, .int .i64 (sz : Int)] 159)) := ((Below.refl w2.heap.size w2).drew.trans hb6).alloc hs6 _
      have hfd6 : FD (w6.alloc (.cells #[.slice o6 sz cap6, .int .i64 (sz : Int)] 159)) w6.heap.size ((s.fd f).1, (sz : Int)) (.slice o6 sz cap6) :=
        ⟨heap_alloc_new _ _, by dsimp only; rw [hszf]; exact (hrow6.mono_base (Nat.zero_le _)).alloc _⟩
      have hin6 := HIN2.out.add hB6 (F := w6.heap.size) hs6 hfd6 (fun k hk => (hrow6.lt k hk).1)
      have hd7 := hin6.is.setMap (l' := withE x (some w6.heap.size) so.R.now false) (by dsimp only; rw [hom]; exact ht7.grown) (by dsimp only; rw [hom]; exact hpm7)
      dsimp only at hd7
      have hpg := PGo.disk hin6 (R' := { so.R with now := withE x (some w6.heap.size) so.R.now false }) (Gr.of_grownBy ht7.grown (.inr (.inl (by dsimp only; rw [hom])))) hd7 (.inl rfl) (.inl rfl) (.inl rfl) (by
          intro e he
          dsimp only at he ⊢
          rcases withE_mem he with he | ⟨b', hb', he⟩
          · exact List.mem_cons_of_mem _ (HIN2.out.inow e he)
          · injection hb' with hb'
            rw [he, ← hb']; simp) (by intro e he; exact List.mem_cons_of_mem _ (HIN2.out.isafe e he)) (by intro c hc; exact List.mem_cons_of_mem _ (HIN2.out.ichg c hc))
      have hB7 : Below w.heap.size w w7 := (HB2.out.trans (hB6.mono HB2.out.size)).grown ht7.grown (Nat.le_trans HB2.out.size hB6.size) (fun k hk => by injection hk with hk; omega)
      have hrg7 := (HRG1.out.kept (grownBy_below hB6 none) (by simp) (by simp)).kept ht7.grown (fun e => by injection e with e; have := H.out.is.now.lt; omega) (fun e => by injection e with e; have := HS1.out; omega)
      have hfin : ∃ left' cnt', w7.ranges Tryz.prog 9 ptrRd1 s.mb w1.heap.size s.R.now.length (dOf s.R.now) left' cnt' ∧ Below w.heap.size w w7 ∧ w1.heap.size + 1 ≤ w7.heap.size ∧ ∃ so ψ, so.In w7 ∧ so.b = w.heap.size + 1 + 1 ∧ so.mb = w.heap.size ∧ so.R = ⟨s.R.room, so.R.now, [], [], 0, -1⟩ ∧ (∀ k, so.own k → w.heap.size ≤ k) ∧ CpRel s so ψ left' ∧ so.R.now.length + cnt' ≤ s.R.now.length := by
        refine ⟨_, cnt1, hrg7, hB7, ?_, _, _, hpg.inn, hob, hom, ?_, ?_, HCP.out.step HFE.out (HPM.out.rise (Maps.string_keyed Tryz.underlying9)) ?_ rfl rfl (by dsimp only; rw [hszf]), ?_⟩
        · have h1 := hB6.size
          have h2 := ht7.grown.size
          omega
        · dsimp only
          rw [HOR.out]
        · intro k hk
          rcases hpg.own k hk with h1 | h1
          · have hw2 := HB2.out.size
            rcases h1 with e | e | e | e | e | ⟨g, hg, e⟩
            · exact HOO.out k (.inl e)
            · exact HOO.out k (.inr (.inl e))
            · exact HOO.out k (.inr (.inr (.inl e)))
            · exact HOO.out k (.inr (.inr (.inr (.inl e))))
            · dsimp only at e
              rcases List.mem_cons.1 e with e | e
              · omega
              · exact HOO.out k (.inr (.inr (.inr (.inr (.inl e)))))
            · dsimp only at hg e
              rcases List.mem_cons.1 hg with e2 | hg
              · rw [e2, setV_same] at e
                have := (hrow6.lt k e).1
                exact Nat.le_trans hw2 this
              · have hgl := lt_of_row (HIN2.out.fds g hg).blk
                rw [setV_ne _ _ (by omega)] at e
                exact HOO.out k (.inr (.inr (.inr (.inr (.inr ⟨g, hg, e⟩)))))
          · have h2 := HB2.out.size
            have h3 := hB6.size
            omega
        · intro hm
          have := lt_of_row (HIN2.out.fds _ hm).blk
          omega
        · have := withE_le x (some w6.heap.size) so.R.now false
          simp only [Bool.false_eq_true, if_false] at this
          dsimp only
          omega
      have HFIN := hide hfin
      have hms : w7.rangeLeft s.mb w1.heap.size = cnt1 := hrg7.left_eq
      have HMS := hide hms
      clear hs6 hB6 hfd6 hin6 hd7 hpg hB7 hrg7 hfin hrow6 hb6 hrun7 hpm7 ht7 hkeep7 hms
      go_wp2_with fail
      exact ⟨HFIN.out, by rw [HMS.out, HRGR.out.left_eq]; exact HLT.out⟩
end Go.Proofs.YteicpbcddjjceaaGreatDoor

/-
  PROVED HERE: sizes of what a disk holds, and lists of numbers that lie apart from it; no walk.
-/
namespace Go.Proofs.YteicpbcddjjceaaGreatDoor
open Go.RowKit
theorem afterE_le (l : List DE) (frm too : ByteArray) (nb : Nat) : (afterE l frm too nb).length ≤ l.length + 1 := by
  unfold afterE
  have h1 := withE_le frm none l true
  have h2 := withE_le too (some nb) l false
  have h3 := withE_le too (some nb) (withE frm none l true) false
  simp only [if_true, Bool.false_eq_true, if_false] at h1 h2 h3
  dsimp only
  split <;> split <;> omega
theorem goE_le : ∀ (cs : List CH) (l : List DE), (goE l cs).length ≤ l.length + cs.length
  | [], l => by simp [goE]
  | c :: cs, l => by
    have h1 := goE_le cs (afterE l c.frm c.too c.blk)
    have h2 := afterE_le l c.frm c.too c.blk
    have h3 : goE l (c :: cs) = goE (afterE l c.frm c.too c.blk) cs := rfl
    rw [h3, List.length_cons]
    omega
theorem usedE_mul {nd : Nat → ByteArray × Int} {B : Nat} : ∀ {l : List DE}, (∀ e ∈ l, (nd e.blk).1.size ≤ B) → usedE nd l ≤ l.length * B
  | [], _ => Nat.zero_le _
  | e :: es, h => by
    unfold usedE
    have h1 := h e (by simp)
    have h2 := usedE_mul (l := es) (fun x hx => h x (by simp [hx]))
    rw [List.length_cons, Nat.succ_mul]
    omega
theorem mul_small {n B : Nat} (h : n + B ≤ 1048576) : n * B ≤ 1000000000000 := by
  by_cases hn : n ≤ 524288
  · exact Nat.le_trans (Nat.mul_le_mul hn (show B ≤ 1048576 by omega)) (by decide)
  · exact Nat.le_trans (Nat.mul_le_mul (show n ≤ 1048576 by omega) (show B ≤ 524288 by omega)) (by decide)
def FitB (B : Nat) (x : ByteArray × Int) : Prop := x.1.size ≤ B ∧ 0 ≤ x.2 ∧ x.2 ≤ (x.1.size : Int)
theorem cutK_fit {B : Nat} {x : ByteArray × Int} (h : FitB B x) (k : Int) : FitB B (cutK x k) := by
  obtain ⟨h1, h2, h3⟩ := h
  unfold FitB cutK
  dsimp only
  rw [size_ext _ (by omega)]
  omega
theorem crashN_fit {B : Nat} : ∀ (l : List DE) (fd : Nat → ByteArray × Int) (ks : List Int), (∀ e ∈ l, FitB B (fd e.blk)) → ∀ f, FitB B (fd f) → FitB B (crashN fd l ks f)
  | [], _, _, _, _, h => h
  | e :: es, fd, ks, hl, f, h => by
    have he := hl e (by simp)
    have key : ∀ g, FitB B (fd g) → FitB B (setNd fd e.blk (cutK (fd e.blk) (ks.headD 0)) g) := by
      intro g hg
      unfold setNd
      split
      · exact cutK_fit he _
      · exact hg
    unfold crashN
    exact crashN_fit es _ _ (fun x hx => key _ (hl x (by simp [hx]))) f (key f h)
theorem KAt.frame {w w' : World} {v : Value} {ks : List Int} {S S' : Nat → Prop} (h : KAt S w v ks) (hg : Gr S' w w') (hS : ∀ k, S' k → S k) : KAt S w' v ks := by
  obtain ⟨oa, c, rfl, hk⟩ := h
  refine ⟨oa, c, rfl, fun i hi => ?_⟩
  obtain ⟨g, o, h1, h2, h3⟩ := hk i hi
  have hb := hg.block g (World.block_lt_of_cell? _ _ h3) (fun e => h2 (hS g e))
  exact ⟨g, o, h1, h2, (World.cell?_of_block (a := ⟨g, o + i, none⟩) hb).trans h3⟩
theorem KAt.mono {w : World} {v : Value} {ks : List Int} {S S' : Nat → Prop} (h : KAt S w v ks) (hS : ∀ k, S' k → S k) : KAt S' w v ks := by
  obtain ⟨oa, c, rfl, hk⟩ := h
  refine ⟨oa, c, rfl, fun i hi => ?_⟩
  obtain ⟨g, o, h1, h2, h3⟩ := hk i hi
  exact ⟨g, o, h1, fun e => h2 (hS g e), h3⟩
theorem de_index {l : List DE} {e : DE} (h : e ∈ l) : ∃ i, i < l.length ∧ e = l.getD i DE0 := by
  obtain ⟨i, hi, he⟩ := List.mem_iff_getElem.1 h
  exact ⟨i, hi, by rw [List.getD_eq_getElem?_getD, List.getElem?_eq_getElem hi]; exact he.symm⟩
theorem de_mem {l : List DE} {i : Nat} (h : i < l.length) : l.getD i DE0 ∈ l := by
  rw [List.getD_eq_getElem?_getD, List.getElem?_eq_getElem h]; simp
theorem KAt.later {S : Nat → Prop} {w w' : World} {v : Value} {ks : List Int} (h : KAt S w v ks) (hb : Below w.heap.size w w') : KAt S w' v ks :=
  h.frame (Gr.of_below (S := fun _ => False) hb) (fun _ e => e.elim)
end Go.Proofs.YteicpbcddjjceaaGreatDoor
