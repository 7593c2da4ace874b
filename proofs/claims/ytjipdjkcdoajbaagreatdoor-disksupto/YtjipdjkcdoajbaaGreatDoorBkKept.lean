/-
  PROVED HERE: what the statement's own function still answers, where the books hold lists of paths.
-/
import Derived.Test.YtjipdjkcdoajbaaGreatDoorBkP
namespace Go.Proofs.YtjipdjkcdoajbaaGreatDoor
open Go.RowKit
set_option maxHeartbeats 1000000 in
set_option maxRecDepth 100000 in
theorem sameB_nilP (w : World) : Calls Tryz.prog 42 #[.slice none 0 0, .slice none 0 0] w fun e w' => e = .returned (.bool true) ∧ Below w.heap.size w w' := by
  go_enter Tryz.func42, Tryz.ntmps42
  go_wp2
  go_loopw [5] (fun i wr => i = .int .i64 0 ∧ Below w.heap.size w wr) (fun _ _ => 0)
  case atStart => exact ⟨rfl, Below.refl _ _⟩
  case round =>
    obtain ⟨rfl, hb⟩ := hrel
    go_wp2
    go_ret
    exact ⟨rfl, hb⟩
theorem flat5P : ∀ (l : List PB) (j i : Nat) (d : PB), j < l.length → i < 5 → (l.flatMap PB.cells)[j * 5 + i]? = (l.getD j d).cells[i]?
  | [], j, i, _, h, _ => by simp at h
  | x :: l, 0, i, _, _, hi => by
    have h4 : x.cells.length = 5 := rfl
    rw [List.flatMap_cons, List.getElem?_append_left (by omega)]
    simp
  | x :: l, j + 1, i, d, h, hi => by
    have h4 : x.cells.length = 5 := rfl
    rw [List.flatMap_cons, List.getElem?_append_right (by omega), h4, show (j + 1) * 5 + i - 5 = j * 5 + i by omega, flat5P l j i d (by simpa using h) hi]
    simp
theorem BkP.at {w : World} {bb N came : Nat} {kp wp av : Value} {bs : List PB} (h : BkP w bb N came kp wp av bs) (d : PB) (j : Nat) (hj : j < bs.length) : ∃ g c, av = .slice (some ⟨g, 0, none⟩) bs.length c ∧ w.rangeAt g (j * 5) (bs.getD j d).cells := by
  rcases h.all.2 with ⟨-, h0⟩ | ⟨g, cap, cur, e, hb, hg, hc, hm, hcs, htk⟩
  · omega
  · refine ⟨g, cap, e, fun i u hu => ?_⟩
    have hi : i < 5 := by have := (List.getElem?_eq_some_iff.1 hu).1; simpa [PB.cells] using this
    rw [cell_of_row w g _ _ _ _ hg, ← hu, ← flat5P bs j i d hj hi, ← htk, List.getElem?_take, if_pos (by omega)]
    simp
set_option maxHeartbeats 2000000 in
set_option maxRecDepth 100000 in
theorem still_p (bb N came : Nat) (kp wp av : Value) (bs : List PB) (kps : List ByteArray) (w : World) (h : BkP w bb N came kp wp av bs) (hk : SsAt w kp kps) (hw : SsAt w wp kps) (hkl : kps.length ≤ 100000000) (hN : N ≤ 1000000000) (hbs : bs.length ≤ 1000000000) :
    Calls Tryz.prog 11 #[.pointer (some ⟨bb, 0, none⟩)] w fun e w' => e = .returned (.bool true) ∧ Below w.heap.size w w' := by
  have HSK := hide hk
  have HSW := hide hw
  obtain ⟨ok, ck, rfl, _⟩ := hk
  obtain ⟨ow, cw, rfl, _⟩ := hw
  obtain ⟨nk, hnk⟩ : ∃ nk, nk = kps.length := ⟨_, rfl⟩
  rw [← hnk] at HSK HSW h hkl
  have HNK := hide hnk
  clear hnk
  have c2 : w.cell? ⟨bb, 2, none⟩ = some (.bool false) := cell_of_row _ _ 2 _ _ _ h.blk
  have c3 : w.cell? ⟨bb, 3, none⟩ = some (.slice none 0 0) := cell_of_row _ _ 3 _ _ _ h.blk
  have c4 : w.cell? ⟨bb, 4, none⟩ = some (.slice none 0 0) := cell_of_row _ _ 4 _ _ _ h.blk
  have c5 : w.cell? ⟨bb, 5, none⟩ = some (.slice none 0 0) := cell_of_row _ _ 5 _ _ _ h.blk
  have c6 : w.cell? ⟨bb, 6, none⟩ = some (.slice none 0 0) := cell_of_row _ _ 6 _ _ _ h.blk
  have c7 : w.cell? ⟨bb, 7, none⟩ = some (.slice ok nk ck) := cell_of_row _ _ 7 _ _ _ h.blk
  have c8 : w.cell? ⟨bb, 8, none⟩ = some (.slice ow nk cw) := cell_of_row _ _ 8 _ _ _ h.blk
  have H := hide h
  have HS0 := hide (fun w' => sameT_any none none 0 0 [] [] w' (fun i hi => by simp at hi) (fun i hi => by simp at hi) (by decide))
  clear h
  go_enter Tryz.func11, Tryz.ntmps11
  go_wp2_with fail
  go_region_held3 (fun w' => w'.cell? ⟨bb, 3, none⟩ = some (.slice none 0 0) ∧ w'.cell? ⟨bb, 4, none⟩ = some (.slice none 0 0)) (first | go_keep | exact ⟨cell_later hb1 c3, cell_later hb1 c4⟩) (first | (go_at_call 41; refine (HS0.out _).mono ?_; rintro _ w1 ⟨rfl, hb1⟩))
  have HK1 := hide (H.out.later (((Below.refl w.heap.size w).drew).trans hb1))
  have HB1 := hide (((Below.refl w.heap.size w).drew).trans hb1)
  clear c2 c3 c4 c5 c6 c7 c8 hb1
  have c2 : w1.cell? ⟨bb, 2, none⟩ = some (.bool false) := cell_of_row _ _ 2 _ _ _ HK1.out.blk
  have c5 : w1.cell? ⟨bb, 5, none⟩ = some (.slice none 0 0) := cell_of_row _ _ 5 _ _ _ HK1.out.blk
  have c6 : w1.cell? ⟨bb, 6, none⟩ = some (.slice none 0 0) := cell_of_row _ _ 6 _ _ _ HK1.out.blk
  have c7 : w1.cell? ⟨bb, 7, none⟩ = some (.slice ok nk ck) := cell_of_row _ _ 7 _ _ _ HK1.out.blk
  have c8 : w1.cell? ⟨bb, 8, none⟩ = some (.slice ow nk cw) := cell_of_row _ _ 8 _ _ _ HK1.out.blk
  go_wp2_with fail
  go_region_held3 (fun w' => w'.cell? ⟨bb, 5, none⟩ = some (.slice none 0 0) ∧ w'.cell? ⟨bb, 6, none⟩ = some (.slice none 0 0)) (first | go_keep | exact ⟨cell_later hb2 c5, cell_later hb2 c6⟩) (first | (go_at_call 42; refine (sameB_nilP _).mono ?_; rintro _ w2 ⟨rfl, hb2⟩))
  have HK2 := hide (HK1.out.later (((Below.refl w1.heap.size w1).drew).trans hb2))
  have HB2 := hide (HB1.out.trans ((((Below.refl w1.heap.size w1).drew).trans hb2).mono HB1.out.size))
  clear c2 c5 c6 c7 c8 hb2 HK1 HB1
  have HSS := hide (sameS_any _ _ kps w2.drew (HSK.out.later (HB2.out.drew)) (HSW.out.later (HB2.out.drew)) (by rw [← HNK.out]; exact hkl))
  have c2 : w2.cell? ⟨bb, 2, none⟩ = some (.bool false) := cell_of_row _ _ 2 _ _ _ HK2.out.blk
  have c7 : w2.cell? ⟨bb, 7, none⟩ = some (.slice ok nk ck) := cell_of_row _ _ 7 _ _ _ HK2.out.blk
  have c8 : w2.cell? ⟨bb, 8, none⟩ = some (.slice ow nk cw) := cell_of_row _ _ 8 _ _ _ HK2.out.blk
  go_wp2_with fail
  go_region_held3 (fun w' => w'.cell? ⟨bb, 7, none⟩ = some (.slice ok nk ck) ∧ w'.cell? ⟨bb, 8, none⟩ = some (.slice ow nk cw)) (first | go_keep | exact ⟨cell_later hb3 c7, cell_later hb3 c8⟩) (first | (go_at_call 18; refine (HSS.out).mono ?_; rintro _ w3 ⟨rfl, hb3⟩))
  have HK3 := hide (HK2.out.later (((Below.refl w2.heap.size w2).drew).trans hb3))
  have HB3 := hide (HB2.out.trans ((((Below.refl w2.heap.size w2).drew).trans hb3).mono HB2.out.size))
  clear c2 c7 c8 hb3 HK2 HB2
  have c2 : w3.cell? ⟨bb, 2, none⟩ = some (.bool false) := cell_of_row _ _ 2 _ _ _ HK3.out.blk
  go_wp2_with fail
  go_loopw [6] (fun iv wr => ∃ i : Nat, i ≤ bs.length ∧ iv = .int .i64 ((i : Nat) : Int) ∧ Below w3.heap.size w3 wr) (fun iv _ => bs.length - (intOf iv).toNat)
  case atStart => exact ⟨0, Nat.zero_le _, rfl, Below.refl _ _⟩
  case round =>
    obtain ⟨i, hi, rfl, hbr⟩ := hrel
    have HKR := hide (HK3.out.later hbr)
    have HBR := hide (HB3.out.trans (hbr.mono HB3.out.size))
    have HBR3 := hide hbr
    have hszr := hbr.size
    obtain ⟨oa, ca, hav⟩ := own_sl HK3.out.all
    subst hav
    have c9 : wr.cell? ⟨bb, 9, none⟩ = some (.slice oa bs.length ca) := cell_of_row _ _ 9 _ _ _ HKR.out.blk
    clear hbr c2
    by_cases hlt : i < bs.length
    · obtain ⟨g, ca2, e, hrg⟩ := HKR.out.at ⟨.slice none 0 0, 0, 0⟩ i hlt
      injection e with e1 e2 e3
      subst e1 e3
      have hmem : bs.getD i ⟨.slice none 0 0, 0, 0⟩ ∈ bs := by rw [List.getD_eq_getElem?_getD, List.getElem?_eq_getElem hlt]; exact List.getElem_mem hlt
      obtain ⟨m1, m2, m3⟩ := HKR.out.mkd _ hmem
      generalize bs.getD i ⟨.slice none 0 0, 0, 0⟩ = be at hrg m1 m2 m3
      obtain ⟨tv, z, tn⟩ := be
      dsimp only at m1 m2 m3
      have HMK := hide (fun w' => mark_str z (by omega) w')
      obtain ⟨ms, hms⟩ : ∃ ms, ms = markS z := ⟨_, rfl⟩
      rw [← hms] at m1 HMK
      have HM1 := hide m1
      obtain ⟨ot, ct, htv, _⟩ := m1
      rw [List.length_replicate] at htv
      subst htv
      have e0 := hrg 0 _ rfl
      have e1 := hrg 1 _ rfl
      have e2 := hrg 2 _ rfl
      have e3 := hrg 3 _ rfl
      have e4 := hrg 4 _ rfl
      simp only [Nat.add_zero] at e0
      clear m2 hrg hmem hms
      go_wp2_with fail
      have hx0 : (wr.alloc (.cells #[.int .i64 3, .int .i64 ((z : Nat) : Int), .slice none 0 0, .slice none 0 0, .slice ot tn ct] 82)).heap[wr.heap.size]? = some (.cells #[.int .i64 3, .int .i64 ((z : Nat) : Int), .slice none 0 0, .slice none 0 0, .slice ot tn ct] 82 (0, 0)) := heap_alloc_new _ _
      have HB0 : Hid (Below wr.heap.size wr (wr.alloc (.cells #[.int .i64 3, .int .i64 ((z : Nat) : Int), .slice none 0 0, .slice none 0 0, .slice ot tn ct] 82))) := (Below.refl _ _).alloc (Nat.le_refl _) _
      obtain ⟨X, hX⟩ : ∃ X, X = wr.alloc (.cells #[.int .i64 3, .int .i64 ((z : Nat) : Int), .slice none 0 0, .slice none 0 0, .slice ot tn ct] 82) := ⟨_, rfl⟩
      rw [← hX] at hx0 HB0 ⊢
      obtain ⟨xb, hxb⟩ : ∃ xb, xb = wr.heap.size := ⟨_, rfl⟩
      have HMX := hide (HM1.out.later HB0.out)
      have HBX3 := hide (HBR3.out.trans (HB0.out.mono hszr))
      rw [← hxb] at hx0 ⊢
      have HX := hide hx0
      have hxl := lt_of_row hx0
      clear hX hx0 e0 e1 e2 e3 e4 c9 HM1 hxb HBR HKR HBR3 HB0 hszr
      go_loopw [8] (fun kv wq => kv = .int .i64 0 ∧ Below X.heap.size X wq) (fun _ _ => 0)
      case atStart => exact ⟨rfl, Below.refl _ _⟩
      case round =>
        obtain ⟨rfl, hbq⟩ := hrel
        have hxq := (hbq.block _ hxl).trans HX.out
        have y2 : wr.cell? ⟨xb, 2, none⟩ = some (.slice none 0 0) := cell_of_row _ _ 2 _ _ _ hxq
        have HBQ := hide hbq
        clear hbq hxq
        go_wp2_with fail
        go_loopw [9] (fun kv wq => kv = .int .i64 0 ∧ Below X.heap.size X wq) (fun _ _ => 0)
        case atStart => exact ⟨rfl, HBQ.out⟩
        case round =>
          obtain ⟨rfl, hbq⟩ := hrel
          have hxq := (hbq.block _ hxl).trans HX.out
          have y1 : wr.cell? ⟨xb, 1, none⟩ = some (.int .i64 ((z : Nat) : Int)) := cell_of_row _ _ 1 _ _ _ hxq
          have y3 : wr.cell? ⟨xb, 3, none⟩ = some (.slice none 0 0) := cell_of_row _ _ 3 _ _ _ hxq
          have HBP := hide hbq
          clear hbq hxq HBQ
          go_wp2_with fail
          refine (HMK.out _).mono ?_
          rintro _ w8 ⟨rfl, hb8⟩
          dsimp only
          have HB8 := hide (HBP.out.trans (hb8.mono HBP.out.size))
          clear hb8 HBP y1 y3
          go_wp2_with fail
          go_loopw [11] (fun kv wq => ∃ k : Nat, k ≤ tn ∧ kv = .int .i64 ((k : Nat) : Int) ∧ Below X.heap.size X wq) (fun kv _ => tn - (intOf kv).toNat)
          case atStart => exact ⟨0, Nat.zero_le _, rfl, HB8.out⟩
          case round =>
            obtain ⟨k, hk, rfl, hbq⟩ := hrel
            have hxq := (hbq.block _ hxl).trans HX.out
            have y4 : wr.cell? ⟨xb, 4, none⟩ = some (.slice ot tn ct) := cell_of_row _ _ 4 _ _ _ hxq
            have HBP := hide hbq
            by_cases hkt : k < tn
            · obtain ⟨_, _, e5, hks⟩ := HMX.out.later hbq
              injection e5 with e5 e6 e7
              subst e5
              clear e6 e7
              obtain ⟨g5, o5, _, _, rfl, _, t0⟩ := hks k (by rw [List.length_replicate]; exact hkt)
              rw [List.getD_eq_getElem?_getD, List.getElem?_replicate, if_pos hkt] at t0
              simp only [Option.getD_some] at t0
              clear hbq hxq hks HB8
              go_wp2_with fail
              exact ⟨⟨k + 1, hkt, by simp, HBP.out⟩, by simp only [intOf]; omega⟩
            · have e1 : decide (((k : Nat) : Int) < ((tn : Nat) : Int)) = false := by simp; omega
              clear hbq hxq HB8
              go_wp2_with fail
              exact ⟨⟨i + 1, by omega, by go_num, HBX3.out.trans (HBP.out.mono HBX3.out.size)⟩, by simp [intOf]; omega⟩
    · have e1 : decide (((i : Nat) : Int) < ((bs.length : Nat) : Int)) = false := by simp; omega
      go_wp2_with fail
      go_ret
      exact ⟨rfl, HBR.out⟩
end Go.Proofs.YtjipdjkcdoajbaaGreatDoor

/-
  PROVED HERE: the books with the list of paths that was left as it came; no walk.
-/
namespace Go.Proofs.YtjipdjkcdoajbaaGreatDoor
open Go.RowKit
/-- A cell of the books' own block is written. -/
theorem BkP.put {w : World} {bb N came came' i : Nat} {kp wp kp' wp' av v : Value} {bs : List PB} (h : BkP w bb N came kp wp av bs) (e : (pbks N came kp wp av).setIfInBounds i v = pbks N came' kp' wp' av) : BkP (w.setCell ⟨bb, i, none⟩ v) bb N came' kp' wp' av bs := by
  have hset : ∀ k, k ≠ bb → (w.setCell ⟨bb, i, none⟩ v).heap[k]? = w.heap[k]? := fun k hk => heap_setCell_other _ _ _ _ (by simpa using hk)
  refine ⟨?_, own_same h.all (fun k hk _ => hset k ?_), fun x hx => ⟨(h.mkd x hx).1.same (fun k cur fr _ hc => hset k (type_ne hc h.blk (by decide))), (h.mkd x hx).2⟩, fun x hx => (h.row x hx).same (fun k cur fr _ hc => hset k (type_ne hc h.blk (by decide)))⟩
  · rw [heap_setCell_same _ bb i _ _ _ h.blk, e]
  · obtain ⟨cur, hc⟩ := own_obj h.all k hk
    exact type_ne hc h.blk (by decide)
/-- A row of texts under a write of the books' own block. -/
theorem own_put {w : World} {bb N came i base n : Nat} {kp wp av v u : Value} {bs : List PB} {xs : List Value} (h : BkP w bb N came kp wp av bs) (ho : w.ownsRow base 9 1 u n xs) : (w.setCell ⟨bb, i, none⟩ v).ownsRow base 9 1 u n xs :=
  own_same ho (fun k hk _ => heap_setCell_other _ _ _ _ (by
    obtain ⟨cur, hc⟩ := own_obj ho k hk
    simpa using type_ne hc h.blk (by decide)))
theorem ss_put {w : World} {bb N came i : Nat} {kp wp av v u : Value} {bs : List PB} {ps : List ByteArray} (h : BkP w bb N came kp wp av bs) (ho : SsAt w u ps) : SsAt (w.setCell ⟨bb, i, none⟩ v) u ps :=
  ho.same (fun k cur fr _ hc => heap_setCell_other _ _ _ _ (by simpa using type_ne hc h.blk (by decide)))
/-- What markP leaves as it was: rows of texts that are not the list's. -/
theorem ps_not {w : World} {bb N came : Nat} {kp wp av lv u : Value} {bs : List PB} (h : BkP w bb N came kp wp av bs) {k : Nat} {cur : Array Value} {fr : Nat × Nat} (hu : u.ownBlock = some k) (hd : ∀ q, lv.ownBlock = some q → u.ownBlock ≠ some q) (hc : w.heap[k]? = some (.cells cur 9 fr)) : ¬ pS bb lv av k := by
  rintro (e | e | e)
  · exact type_ne hc h.blk (by decide) e
  · exact hd k e hu
  · obtain ⟨cur2, hc2⟩ := own_obj h.all k e
    exact type_ne hc hc2 (by decide) rfl
theorem ss_marked {w w' : World} {bb N came : Nat} {kp wp av lv u : Value} {bs : List PB} {ps : List ByteArray} (h : BkP w bb N came kp wp av bs) (hg : Gr (pS bb lv av) w w') (ho : SsAt w u ps) (hd : ∀ q, lv.ownBlock = some q → u.ownBlock ≠ some q) : SsAt w' u ps :=
  ho.same (fun k _ _ hu hc => hg.block k (lt_heap hc) (ps_not h hu hd hc))
theorem own_marked {w w' : World} {bb N came base n : Nat} {kp wp av lv u : Value} {bs : List PB} {xs : List Value} (h : BkP w bb N came kp wp av bs) (hg : Gr (pS bb lv av) w w') (ho : w.ownsRow base 9 1 u n xs) (hd : ∀ q, lv.ownBlock = some q → u.ownBlock ≠ some q) : w'.ownsRow base 9 1 u n xs :=
  own_same ho (fun k hk _ => by
    obtain ⟨cur, hc⟩ := own_obj ho k hk
    exact hg.block k (lt_heap hc) (ps_not h hk hd hc))
/-- The books whole: the list that was left as it came, and what it was. -/
structure BkK (w : World) (bb N came : Nat) (kp wp av : Value) (bs : List PB) (kps : List ByteArray) : Prop where
  bk : BkP w bb N came kp wp av bs
  own : w.ownsRow bb 9 1 kp kps.length (strs kps)
  were : SsAt w wp kps
  wrow : RowS w wp
  d1 : ∀ e ∈ bs, ∀ q, kp.ownBlock = some q → e.pv.ownBlock ≠ some q
  d2 : ∀ q, kp.ownBlock = some q → wp.ownBlock ≠ some q
  len : kps.length ≤ 100000000
theorem BkK.later {w w' : World} {bb N came : Nat} {kp wp av : Value} {bs : List PB} {kps : List ByteArray} (h : BkK w bb N came kp wp av bs kps) (hb : Below w.heap.size w w') : BkK w' bb N came kp wp av bs kps :=
  ⟨h.bk.later hb, ownsRow_later h.own hb, h.were.later hb, h.wrow.same (fun k _ _ _ hc => hb.block k (lt_heap hc)), h.d1, h.d2, h.len⟩
/-- The disks' calls leave the books as they are. -/
theorem BkK.frame {w w' : World} {bb N came : Nat} {kp wp av : Value} {bs : List PB} {kps : List ByteArray} {p : Option Tw} {n B : Nat} (h : BkK w bb N came kp wp av bs kps) (hi : OIn w n B p) (hg : Gr (oOwn p) w w') : BkK w' bb N came kp wp av bs kps := by
  have hk9 : ∀ (k : Nat) (cur : Array Value) (fr : Nat × Nat), w.heap[k]? = some (.cells cur 9 fr) → w'.heap[k]? = w.heap[k]? := fun k cur fr hc => (hi.keeps hg hc (by decide) (by decide) (by decide) (by decide) (by unfold dTy; decide)).trans hc.symm
  refine ⟨h.bk.same ((hi.keeps hg h.bk.blk (by decide) (by decide) (by decide) (by decide) (by unfold dTy; decide)).trans h.bk.blk.symm) (fun k hk => ?_) (fun _ _ k cur fr _ hc => hk9 k cur fr hc), own_same h.own (fun k hk _ => ?_), h.were.same (fun k cur fr _ hc => hk9 k cur fr hc), h.wrow.same (fun k cur fr _ hc => hk9 k cur fr hc), h.d1, h.d2, h.len⟩
  · obtain ⟨cur, hc⟩ := own_obj h.bk.all k hk
    exact (hi.keeps hg hc (by decide) (by decide) (by decide) (by decide) (by unfold dTy; decide)).trans hc.symm
  · obtain ⟨cur, hc⟩ := own_obj h.own k hk
    exact hk9 k cur _ hc
end Go.Proofs.YtjipdjkcdoajbaaGreatDoor
