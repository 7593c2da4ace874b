/-
  PROVED HERE: what the document's own call Copy of disks does.
-/
import Derived.Test.YtjipdjkcdoajbaaGreatDoorRdCpR
import Derived.Deep.RegionHeld
namespace Go.Proofs.YtjipdjkcdoajbaaGreatDoor
open Go.RowKit
set_option maxHeartbeats 4000000 in
set_option maxRecDepth 100000 in
theorem rdCopy_any (b : Nat) (R : RDk) (nd : Nat → ByteArray × Int) (ns : List Nat) (cv : Value) (w : World) (h : RDN w b R nd ns cv) (hf : Fits R nd ns) :
    Calls Tryz.prog 8 #[.pointer (some ⟨b, 0, none⟩)] w fun e w' => ∃ R' nd' ns', e = .returned (.tuple #[.pointer (some ⟨w.heap.size, 0, none⟩), .int .i64 0]) ∧ Below w.heap.size w w' ∧ RDN w' w.heap.size R' nd' ns' (.slice none 0 0) ∧ (∀ k ∈ ns', w.heap.size ≤ k) ∧
      R' = ⟨R.room, R'.now, R'.now, [], 0, -1⟩ ∧ CpDoc R R' nd nd' ns' R.now.length := by
  obtain ⟨i0, hi, hz0, hz1, hz2⟩ := info_parts Tryz.infoDE
  obtain ⟨nv, sv, hid⟩ := h.is
  have HI := hide hid
  have H := hide h
  have c0 := rd_room hid
  have hbl := lt_of_row hid.blk
  obtain ⟨on, cn, hnv⟩ := own_sl hid.now
  subst hnv
  have HNW := hide (newDisk_any R.room w (by have := hf.r0; omega) hf.r1)
  rw [if_neg (by have := hf.r0; omega)] at HNW
  have HF := hide hf
  obtain ⟨n, hn⟩ : ∃ n, n = R.now.length := ⟨_, rfl⟩
  have hnl : n ≤ 100000000 := by rw [hn]; exact hf.now
  have HN := hide hn
  clear h hid hf hn
  go_enter Tryz.func8, Tryz.ntmps8
  go_wp2_with fail
  refine (HNW.out).mono ?_
  rintro _ w1 ⟨rfl, hb1, hd1⟩
  dsimp only
  have HB1 := hide hb1
  have HD1 := hide hd1
  clear hb1 hd1
  go_wp2_with fail
  go_loopw [5] (fun iv wr => ∃ k : Nat, k ≤ n ∧ iv = .int .i64 ((k : Nat) : Int) ∧ CpR w R nd k wr) (fun iv _ => n - (intOf iv).toNat)
  case atStart => exact ⟨0, Nat.zero_le _, rfl, HB1.out, _, nd, [], _, HD1.out, (fun k hk => by cases hk), (fun e he => by cases he), (fun e he => by cases he), rfl, ⟨rfl, (fun i hi => by omega), (fun i hi => by omega), (fun i hi => by omega), (fun i j hi => by omega)⟩, (fun g hg => by cases hg)⟩
  case round =>
    obtain ⟨k, hk, rfl, hb, R', nd', ns', xv, hx, hnd, hin, hns, hR', hcp, hxo⟩ := hrel
    have hi2 := HI.out.later hb
    have r1 : wr.cell? ⟨b, 1, none⟩ = some (.slice on R.now.length cn) := cell_of_row _ _ 1 _ _ _ hi2.blk
    rw [← HN.out] at r1
    have hxl := lt_of_row hx.blk
    have hne : b ≠ w.heap.size := Nat.ne_of_lt hbl
    obtain ⟨ox, cx, hxv⟩ := own_sl hx.now
    subst hxv
    have x1 : wr.cell? ⟨w.heap.size, 1, none⟩ = some (.slice ox R'.now.length cx) := cell_of_row _ _ 1 _ _ _ hx.blk
    have x2 : wr.cell? ⟨w.heap.size, 2, none⟩ = some (.slice none 0 0) := cell_of_row _ _ 2 _ _ _ hx.blk
    have xf := fun j => frozen_of_row wr w.heap.size j _ _ hx.blk
    have HB := hide hb
    have HX := hide hx
    have HND := hide hnd
    have HIN := hide hin
    have HNS := hide hns
    have HCP := hide hcp
    have HXO := hide hxo
    have HR' := hide hR'
    have hll := hcp.len
    have hbr := lt_of_row hi2.blk
    by_cases hlt : k < n
    · have hkl : k < R.now.length := by rw [← HN.out]; exact hlt
      obtain ⟨o', c', hov, hcell⟩ := deAt_own hi2.now
      injection hov with hov1 hov2 hov3
      subst hov1
      obtain ⟨g, rfl, hrg⟩ := hcell k hkl
      have hmem : R.now.getD k DE0 ∈ R.now := by rw [List.getD_eq_getElem?_getD, List.getElem?_eq_getElem hkl]; simp
      have hfm := H.out.inow _ hmem
      have hnb := (H.out.later hb).nds _ hfm
      obtain ⟨E, hE⟩ : ∃ E, E = R.now.getD k DE0 := ⟨_, rfl⟩
      rw [← hE] at hrg hfm hnb
      obtain ⟨ep, ef⟩ := E
      have t0 : wr.cell? ⟨g, k * 2, none⟩ = some (.string ep) := hrg 0 _ rfl
      have t1 : wr.cell? ⟨g, k * 2 + 1, none⟩ = some (.pointer (some ⟨ef, 0, none⟩)) := hrg 1 _ rfl
      dsimp only at hfm hnb
      have n0 : wr.cell? ⟨ef, 0, none⟩ = some (.string (nd ef).1) := cell_of_row _ _ 0 _ _ _ hnb
      have hgl : g < wr.heap.size := World.block_lt_of_cell? wr ⟨g, k * 2, none⟩ t0
      have hel := lt_of_row hnb
      have HE := hide hE
      have hal := ownsRow_later ((hx.now.alloc (.cells #[.string (nd ef).1, .int .i64 ((nd ef).1.size : Int)] 63)).alloc (.cells #[.string ep, .pointer (some ⟨wr.heap.size, 0, none⟩)] 61)) ((Below.refl _ _).drew)
      rw [hll] at hal x1
      have HAL := hide hal
      have HONE := hide (de_one ⟨ep, wr.heap.size⟩)
      have hb63 : k + 1 ≤ maxLen ∧ (k + 1) * 24 ≤ 140737488355328 := by unfold maxLen; omega
      obtain ⟨hb63, hb24⟩ := hb63
      clear hb hx hnd hin hns hcp hxo hi2 hcell hov2 hov3 hrg hmem hnb hE hal hll hR'
      obtain ⟨dt, hdt⟩ : ∃ dt, dt = (nd ef).1 := ⟨_, rfl⟩
      rw [← hdt] at n0 HAL
      have HDT := hide hdt
      clear hdt
      have HXB : Hid (wr.heap[w.heap.size]? = _) := HX.out.blk
      have HCN : Hid ((Value.slice ox k cx).ownBlock ≠ some w.heap.size) := by
        intro e
        have h1 := HX.out.now
        obtain ⟨cur, hc⟩ := own_obj h1 w.heap.size (by cases ox <;> simp_all [Value.ownBlock])
        exact type_ne hc HX.out.blk (by decide) rfl
      have HCB : Hid (∀ q, q < w.heap.size → (Value.slice ox k cx).ownBlock ≠ some q) := by
        intro q hq e
        have := HXO.out q (by cases ox <;> simp_all [Value.ownBlock])
        omega
      have HGW : Hid (g < w.heap.size ∧ ef < w.heap.size) := by
        refine ⟨?_, lt_of_row (H.out.nds ef hfm)⟩
        obtain ⟨cur, hc⟩ := own_obj HI.out.now g rfl
        exact lt_heap hc
      have HKP : Hid (∀ (w5 : World) (o1 o2 : Obj) (gg : Nat) (ii : Nat) (vv : Value), ((wr.drew.alloc o1).alloc o2).grownBy w5 (Value.slice ox k cx).ownBlock → gg < w.heap.size → wr.cell? ⟨gg, ii, none⟩ = some vv → w5.cell? ⟨gg, ii, none⟩ = some vv) := by
        intro w5 o1 o2 gg ii vv hgw hgg hv
        have hgr : gg < wr.heap.size := Nat.lt_of_lt_of_le hgg HB.out.size
        refine (World.cell?_of_block (a := ⟨gg, ii, none⟩) ((hgw.block gg (by show gg < ((wr.alloc _).alloc _).heap.size; rw [size_alloc2]; omega) (fun e => HCB.out gg hgg e.symm)).trans ((Below.heap_alloc _ _ gg (by show gg < (wr.alloc _).heap.size; rw [size_alloc]; omega)).trans (Below.heap_alloc wr.drew _ gg hgr)))).trans hv
      go_wp2_with fail
      refine wp_region_held_drew (S := (fun w' => w'.cell? ⟨b, 1, none⟩ = some (.slice (some ⟨g, 0, none⟩) n cn) ∧ w'.cell? ⟨g, k * 2, none⟩ = some (.string ep) ∧ w'.cell? ⟨ef, 0, none⟩ = some (.string dt))) (by kernel_rfl) ⟨r1, t0, n0⟩ (fun hHeld => ?_)
      refine wpAnyH_take (i := 0) (v := ?_) rfl (by kernel_rfl) (by kernel_rfl) (by kernel_rfl) (fun _ _ _ h => h) (Or.inl ⟨by rfl, ?_⟩) (by assumption) ?_
      rotate_left
      · intro wq hSw; (try dsimp only at hSw); go_simp; (try with_reducible rfl)
      (try simp only [Act.put])
      refine wpAnyH_take (i := 1) (v := ?_) rfl (by kernel_rfl) (by kernel_rfl) (by kernel_rfl) (fun _ _ _ h => h) (Or.inl ⟨by rfl, ?_⟩) (by assumption) ?_
      rotate_left
      · intro wq hSw; (try dsimp only at hSw); go_simp; (try with_reducible rfl)
      (try simp only [Act.put])
      refine wpAnyH_take (i := 2) (v := ?_) rfl (by kernel_rfl) (by kernel_rfl) (by kernel_rfl) (fun _ _ _ h => h) (Or.inl ⟨by rfl, ?_⟩) (by assumption) ?_
      rotate_left
      · intro wq hSw; (try dsimp only at hSw); go_simp; (try with_reducible rfl)
      (try simp only [Act.put])
      refine wpAnyH_take (i := 3) (v := ?_) rfl (by kernel_rfl) (by kernel_rfl) (by kernel_rfl) (fun _ _ _ h => h) (Or.inl ⟨by rfl, ?_⟩) (by assumption) ?_
      rotate_left
      · intro wq hSw; (try dsimp only at hSw); go_simp; (try with_reducible rfl)
      (try simp only [Act.put])
      refine wpAnyH_take (i := 5) (v := ?_) rfl (by kernel_rfl) (by kernel_rfl) (by kernel_rfl) (fun _ _ _ h => h) (Or.inl ⟨by rfl, ?_⟩) (by assumption) ?_
      rotate_left
      · intro wq hSw; (try dsimp only at hSw); go_simp; (try with_reducible rfl)
      (try simp only [Act.put])
      refine wpAnyH_take (i := 6) (v := ?_) rfl (by kernel_rfl) (by kernel_rfl) (by kernel_rfl) (fun _ _ _ h => h) (Or.inl ⟨by rfl, ?_⟩) (by assumption) ?_
      rotate_left
      · intro wq hSw; (try dsimp only at hSw); go_simp; (try with_reducible rfl)
      (try simp only [Act.put])
      refine wpAnyH_take (i := 7) (v := ?_) rfl (by kernel_rfl) (by kernel_rfl) (by kernel_rfl) (fun _ _ _ h => h) (Or.inl ⟨by rfl, ?_⟩) (by assumption) ?_
      rotate_left
      · intro wq hSw; (try dsimp only at hSw); go_simp; (try with_reducible rfl)
      (try simp only [Act.put])
      refine wpAnyH_take (i := 8) (v := ?_) rfl (by kernel_rfl) (by kernel_rfl) (by kernel_rfl) (fun _ _ _ h => h) (Or.inl ⟨by rfl, ?_⟩) (by assumption) ?_
      rotate_left
      · intro wq hSw; (try dsimp only at hSw); go_simp; (try with_reducible rfl)
      (try simp only [Act.put])
      refine wpAnyH_take (i := 9) (v := ?_) rfl (by kernel_rfl) (by kernel_rfl) (by kernel_rfl) (fun _ _ _ h => h) (Or.inl ⟨by rfl, ?_⟩) (by assumption) ?_
      rotate_left
      · intro wq hSw; (try dsimp only at hSw); go_simp; (try with_reducible rfl)
      (try simp only [Act.put])
      refine wpAnyH_take (i := 10) (v := ?_) rfl (by kernel_rfl) (by kernel_rfl) (by kernel_rfl) (fun _ _ _ h => h) (Or.inl ⟨by rfl, ?_⟩) (by assumption) ?_
      rotate_left
      · intro wq hSw; (try dsimp only at hSw); go_simp; (try with_reducible rfl)
      (try simp only [Act.put])
      refine wpAnyH_take (i := 11) (v := ?_) rfl (by kernel_rfl) (by kernel_rfl) (by kernel_rfl) (fun _ _ _ h => h) (Or.inl ⟨by rfl, ?_⟩) (by assumption) ?_
      rotate_left
      · intro wq hSw; (try dsimp only at hSw); go_simp; (try with_reducible rfl)
      (try simp only [Act.put])
      refine wpAnyH_take (i := 12) (v := ?_) rfl (by kernel_rfl) (by kernel_rfl) (by kernel_rfl) (fun _ _ _ h => h) (Or.inl ⟨by rfl, ?_⟩) (by assumption) ?_
      rotate_left
      · intro wq hSw; (try dsimp only at hSw); go_simp; (try with_reducible rfl)
      (try simp only [Act.put])
      refine wpAnyH_take (i := 13) (v := ?_) rfl (by kernel_rfl) (by kernel_rfl) (by kernel_rfl) (fun _ _ _ h => h) (Or.inl ⟨by rfl, ?_⟩) (by assumption) ?_
      rotate_left
      · intro wq hSw; (try dsimp only at hSw); go_simp; (try with_reducible rfl)
      (try simp only [Act.put])
      refine wpAnyH_take (i := 14) (v := ?_) rfl (by kernel_rfl) (by kernel_rfl) (by kernel_rfl) (fun _ _ _ h => h) (Or.inl ⟨by rfl, ?_⟩) (by assumption) ?_
      rotate_left
      · intro wq hSw; (try dsimp only at hSw); go_simp; (try with_reducible rfl)
      (try simp only [Act.put])
      refine wpAnyH_take (i := 15) (v := ?_) rfl (by kernel_rfl) (by kernel_rfl) (by kernel_rfl) (fun _ _ _ h => h) (Or.inl ⟨by rfl, ?_⟩) (by assumption) ?_
      rotate_left
      · intro wq hSw; (try dsimp only at hSw); go_simp; (try with_reducible rfl)
      (try simp only [Act.put])
      refine wpAnyH_take (i := 16) (v := ?_) rfl (by kernel_rfl) (by kernel_rfl) (by kernel_rfl) (fun _ _ _ h => h) (Or.inl ⟨by rfl, ?_⟩) (by assumption) ?_
      rotate_left
      · intro wq hSw; (try dsimp only at hSw); go_simp; (try with_reducible rfl)
      (try simp only [Act.put])
      refine wpAnyH_take (i := 17) (v := ?_) rfl (by kernel_rfl) (by kernel_rfl) (by kernel_rfl) (fun _ _ _ h => h) (Or.inl ⟨by rfl, ?_⟩) (by assumption) ?_
      rotate_left
      · intro wq hSw; (try dsimp only at hSw); go_simp; (try with_reducible rfl)
      (try simp only [Act.put])
      refine wpAnyH_take (i := 18) (v := ?_) rfl (by kernel_rfl) (by kernel_rfl) (by kernel_rfl) (fun _ _ _ h => h) (Or.inl ⟨by rfl, ?_⟩) (by assumption) ?_
      rotate_left
      · intro wq hSw; (try dsimp only at hSw); go_simp; (try with_reducible rfl)
      (try simp only [Act.put])
      refine wpAnyH_take (i := 19) (v := ?_) rfl (by kernel_rfl) (by kernel_rfl) (by kernel_rfl) (fun _ _ _ h => h) (Or.inl ⟨by rfl, ?_⟩) (by assumption) ?_
      rotate_left
      · intro wq hSw; (try dsimp only at hSw); go_simp; (try with_reducible rfl)
      (try simp only [Act.put])
      refine wpAnyH_take (i := 20) (v := ?_) rfl (by kernel_rfl) (by kernel_rfl) (by kernel_rfl) (fun _ _ _ h => h) (Or.inl ⟨by rfl, ?_⟩) (by assumption) ?_
      rotate_left
      · intro wq hSw; (try dsimp only at hSw); go_simp; (try with_reducible rfl)
      (try simp only [Act.put])
      refine wpAnyH_take (i := 21) (v := ?_) rfl (by kernel_rfl) (by kernel_rfl) (by kernel_rfl) (fun _ _ _ h => h) (Or.inl ⟨by rfl, ?_⟩) (by assumption) ?_
      rotate_left
      · intro wq hSw; (try dsimp only at hSw); go_simp; (try with_reducible rfl)
      (try simp only [Act.put])
      refine wpAnyH_take (i := 22) (v := ?_) rfl (by kernel_rfl) (by kernel_rfl) (by kernel_rfl) (fun _ _ _ h => h) (Or.inl ⟨by rfl, ?_⟩) (by assumption) ?_
      rotate_left
      · intro wq hSw; (try dsimp only at hSw); go_simp; (try with_reducible rfl)
      (try simp only [Act.put])
      refine wpAnyH_ready (rs := [4, 23]) (by kernel_rfl) (by simp) ?_
      refine AllReadyH.cons rfl (fun K hK => ?_) ?_
      · go_simp
        refine hK.out _ _ hHeld (fun hHeld => ?_)
        clear hK K
        (try simp only [Act.put])
        refine wpAnyH_ready (rs := [23]) (by kernel_rfl) (by simp) ?_
        refine AllReadyH.cons rfl (fun K hK => ?_) ?_
        · go_simp
          refine hK.out _ _ (by go_keep) (fun hHeld => ?_)
          clear hK K
          (try simp only [Act.put])
          refine wpAnyH_take (i := 24) (v := ?_) rfl (by kernel_rfl) (by kernel_rfl) (by kernel_rfl) (fun _ _ _ h => h) (Or.inl ⟨by rfl, ?_⟩) (by assumption) ?_
          rotate_left
          · intro wq hSw; (try dsimp only at hSw); go_simp; (try with_reducible rfl)
          (try simp only [Act.put])
          refine wpAnyH_ready (rs := [25]) (by kernel_rfl) (by simp) ?_
          refine AllReadyH.cons rfl (fun K hK => ?_) ?_
          · go_simp
            refine hK.out _ _ (by go_keep) (fun hHeld => ?_)
            clear hK K
            (try simp only [Act.put])
            refine wpAnyH_ready (rs := [26]) (by kernel_rfl) (by simp) ?_
            refine AllReadyH.cons rfl (fun K hK => ?_) ?_
            · refine step_append_lies _ (by rfl) _ _ _ (by rfl) 0 61 i0 _ 2 24 Tryz.underlying54 hi hz0 hz1 hz2 (by rfl) (by decide) _ k _ (by rfl) HAL.out ⟨wr.heap.size + 1, 0, none⟩ 1 1 [.string ep, .pointer (some ⟨wr.heap.size, 0, none⟩)] (by rfl) (by rfl) (row_cells (heap_alloc2_new _ _ _)) HONE.out (by decide) hb63 hb24 (Nat.zero_le _) _ rfl ?_; intro g2 cap2 w5 hown5 hgrow hat hlt5; have sb : w5.heap[w.heap.size]? = _ := (hgrow.block w.heap.size (by show w.heap.size < ((wr.alloc _).alloc _).heap.size; rw [size_alloc2]; omega) (fun e => HCN.out e.symm)).trans ((Below.heap_alloc _ _ w.heap.size (by rw [size_alloc]; omega)).trans ((Below.heap_alloc wr _ w.heap.size hxl).trans HXB.out)); have s1 : w5.cell? ⟨w.heap.size, 1, none⟩ = _ := cell_of_row _ _ 1 _ _ _ sb; have sf := frozen_of_row w5 w.heap.size 1 _ _ sb; have hk5 := HKP.out w5 _ _ b 1 _ hgrow hbl r1; have hk6 := HKP.out w5 _ _ g (k * 2) _ hgrow HGW.out.1 t0; have hk7 := HKP.out w5 _ _ ef 0 _ hgrow HGW.out.2 n0; have hk8 : (w5.setCell ⟨w.heap.size, 1, none⟩ (.slice (some ⟨g2, 0, none⟩) (k + 1) cap2)).cell? ⟨b, 1, none⟩ = _ := (World.cell?_of_block (a := ⟨b, 1, none⟩) (heap_setCell_other _ _ _ _ (by simp; omega))).trans hk5; have hk9 : (w5.setCell ⟨w.heap.size, 1, none⟩ (.slice (some ⟨g2, 0, none⟩) (k + 1) cap2)).cell? ⟨g, k * 2, none⟩ = _ := (World.cell?_of_block (a := ⟨g, k * 2, none⟩) (heap_setCell_other _ _ _ _ (by have := HGW.out.1; simp; omega))).trans hk6; have hk10 : (w5.setCell ⟨w.heap.size, 1, none⟩ (.slice (some ⟨g2, 0, none⟩) (k + 1) cap2)).cell? ⟨ef, 0, none⟩ = _ := (World.cell?_of_block (a := ⟨ef, 0, none⟩) (heap_setCell_other _ _ _ _ (by have := HGW.out.2; simp; omega))).trans hk7
              refine hK.out _ _ ⟨hk5, hk6, hk7⟩ (fun hHeld => ?_)
              clear hK K
              (try simp only [Act.put])
              refine wpAnyH_take (i := 27) (v := ?_) rfl (by kernel_rfl) (by kernel_rfl) (by kernel_rfl) (fun _ _ _ h => h) (Or.inl ⟨by rfl, ?_⟩) (by assumption) ?_
              rotate_left
              · intro wq hSw; (try dsimp only at hSw); go_simp; (try with_reducible rfl)
              (try simp only [Act.put])
              refine wpAnyH_take (i := 28) (v := ?_) rfl (by kernel_rfl) (by kernel_rfl) (by kernel_rfl) (fun _ _ _ h => h) (Or.inl ⟨by rfl, ?_⟩) (by assumption) ?_
              rotate_left
              · intro wq hSw; (try dsimp only at hSw); go_simp; (try with_reducible rfl)
              (try simp only [Act.put])
              refine wpAnyH_ready (rs := [29]) (by kernel_rfl) (by simp) ?_
              refine AllReadyH.cons rfl (fun K hK => ?_) ?_
              · go_simp
                refine hK.out _ _ ⟨hk8, hk9, hk10⟩ (fun hHeld => ?_)
                clear hK K
                (try simp only [Act.put])
                refine wpAnyH_done (by kernel_rfl) ?_ _
                have HST := hide (cpR_step HB.out HX.out HND.out HIN.out HNS.out HR'.out HCP.out HXO.out HE.out (by rw [← HDT.out]; exact ⟨hgrow.os, hgrow.tape, hgrow.output, hgrow.size, hgrow.block⟩) hown5 hat (by show wr.heap.size ≤ ((wr.alloc _).alloc _).heap.size; rw [size_alloc2]; omega))
                obtain ⟨w6, hw6⟩ : ∃ w6, w6 = w5.setCell ⟨w.heap.size, 1, none⟩ (.slice (some ⟨g2, 0, none⟩) (k + 1) cap2) := ⟨_, rfl⟩
                rw [← hw6] at HST ⊢
                clear hw6 hgrow hown5 hat sb s1 sf
                go_wp2_with fail
                exact ⟨⟨k + 1, hlt, by simp, HST.out⟩, by simp only [intOf]; omega⟩
              exact AllReadyH.nil
            exact AllReadyH.nil
          exact AllReadyH.nil
        exact AllReadyH.nil
      refine AllReadyH.cons rfl (fun K hK => ?_) ?_
      · go_simp
        refine hK.out _ _ (by go_keep) (fun hHeld => ?_)
        clear hK K
        (try simp only [Act.put])
        refine wpAnyH_take (i := 24) (v := ?_) rfl (by kernel_rfl) (by kernel_rfl) (by kernel_rfl) (fun _ _ _ h => h) (Or.inl ⟨by rfl, ?_⟩) (by assumption) ?_
        rotate_left
        · intro wq hSw; (try dsimp only at hSw); go_simp; (try with_reducible rfl)
        (try simp only [Act.put])
        refine wpAnyH_ready (rs := [4, 25]) (by kernel_rfl) (by simp) ?_
        refine AllReadyH.cons rfl (fun K hK => ?_) ?_
        · go_simp
          refine hK.out _ _ hHeld (fun hHeld => ?_)
          clear hK K
          (try simp only [Act.put])
          refine wpAnyH_ready (rs := [25]) (by kernel_rfl) (by simp) ?_
          refine AllReadyH.cons rfl (fun K hK => ?_) ?_
          · go_simp
            refine hK.out _ _ (by go_keep) (fun hHeld => ?_)
            clear hK K
            (try simp only [Act.put])
            refine wpAnyH_ready (rs := [26]) (by kernel_rfl) (by simp) ?_
            refine AllReadyH.cons rfl (fun K hK => ?_) ?_
            · refine step_append_lies _ (by rfl) _ _ _ (by rfl) 0 61 i0 _ 2 24 Tryz.underlying54 hi hz0 hz1 hz2 (by rfl) (by decide) _ k _ (by rfl) HAL.out ⟨wr.heap.size + 1, 0, none⟩ 1 1 [.string ep, .pointer (some ⟨wr.heap.size, 0, none⟩)] (by rfl) (by rfl) (row_cells (heap_alloc2_new _ _ _)) HONE.out (by decide) hb63 hb24 (Nat.zero_le _) _ rfl ?_; intro g2 cap2 w5 hown5 hgrow hat hlt5; have sb : w5.heap[w.heap.size]? = _ := (hgrow.block w.heap.size (by show w.heap.size < ((wr.alloc _).alloc _).heap.size; rw [size_alloc2]; omega) (fun e => HCN.out e.symm)).trans ((Below.heap_alloc _ _ w.heap.size (by rw [size_alloc]; omega)).trans ((Below.heap_alloc wr _ w.heap.size hxl).trans HXB.out)); have s1 : w5.cell? ⟨w.heap.size, 1, none⟩ = _ := cell_of_row _ _ 1 _ _ _ sb; have sf := frozen_of_row w5 w.heap.size 1 _ _ sb; have hk5 := HKP.out w5 _ _ b 1 _ hgrow hbl r1; have hk6 := HKP.out w5 _ _ g (k * 2) _ hgrow HGW.out.1 t0; have hk7 := HKP.out w5 _ _ ef 0 _ hgrow HGW.out.2 n0; have hk8 : (w5.setCell ⟨w.heap.size, 1, none⟩ (.slice (some ⟨g2, 0, none⟩) (k + 1) cap2)).cell? ⟨b, 1, none⟩ = _ := (World.cell?_of_block (a := ⟨b, 1, none⟩) (heap_setCell_other _ _ _ _ (by simp; omega))).trans hk5; have hk9 : (w5.setCell ⟨w.heap.size, 1, none⟩ (.slice (some ⟨g2, 0, none⟩) (k + 1) cap2)).cell? ⟨g, k * 2, none⟩ = _ := (World.cell?_of_block (a := ⟨g, k * 2, none⟩) (heap_setCell_other _ _ _ _ (by have := HGW.out.1; simp; omega))).trans hk6; have hk10 : (w5.setCell ⟨w.heap.size, 1, none⟩ (.slice (some ⟨g2, 0, none⟩) (k + 1) cap2)).cell? ⟨ef, 0, none⟩ = _ := (World.cell?_of_block (a := ⟨ef, 0, none⟩) (heap_setCell_other _ _ _ _ (by have := HGW.out.2; simp; omega))).trans hk7
              refine hK.out _ _ ⟨hk5, hk6, hk7⟩ (fun hHeld => ?_)
              clear hK K
              (try simp only [Act.put])
              refine wpAnyH_take (i := 27) (v := ?_) rfl (by kernel_rfl) (by kernel_rfl) (by kernel_rfl) (fun _ _ _ h => h) (Or.inl ⟨by rfl, ?_⟩) (by assumption) ?_
              rotate_left
              · intro wq hSw; (try dsimp only at hSw); go_simp; (try with_reducible rfl)
              (try simp only [Act.put])
              refine wpAnyH_take (i := 28) (v := ?_) rfl (by kernel_rfl) (by kernel_rfl) (by kernel_rfl) (fun _ _ _ h => h) (Or.inl ⟨by rfl, ?_⟩) (by assumption) ?_
              rotate_left
              · intro wq hSw; (try dsimp only at hSw); go_simp; (try with_reducible rfl)
              (try simp only [Act.put])
              refine wpAnyH_ready (rs := [29]) (by kernel_rfl) (by simp) ?_
              refine AllReadyH.cons rfl (fun K hK => ?_) ?_
              · go_simp
                refine hK.out _ _ ⟨hk8, hk9, hk10⟩ (fun hHeld => ?_)
                clear hK K
                (try simp only [Act.put])
                refine wpAnyH_done (by kernel_rfl) ?_ _
                have HST := hide (cpR_step HB.out HX.out HND.out HIN.out HNS.out HR'.out HCP.out HXO.out HE.out (by rw [← HDT.out]; exact ⟨hgrow.os, hgrow.tape, hgrow.output, hgrow.size, hgrow.block⟩) hown5 hat (by show wr.heap.size ≤ ((wr.alloc _).alloc _).heap.size; rw [size_alloc2]; omega))
                obtain ⟨w6, hw6⟩ : ∃ w6, w6 = w5.setCell ⟨w.heap.size, 1, none⟩ (.slice (some ⟨g2, 0, none⟩) (k + 1) cap2) := ⟨_, rfl⟩
                rw [← hw6] at HST ⊢
                clear hw6 hgrow hown5 hat sb s1 sf
                go_wp2_with fail
                exact ⟨⟨k + 1, hlt, by simp, HST.out⟩, by simp only [intOf]; omega⟩
              exact AllReadyH.nil
            exact AllReadyH.nil
          exact AllReadyH.nil
        refine AllReadyH.cons rfl (fun K hK => ?_) ?_
        · go_simp
          refine hK.out _ _ (by go_keep) (fun hHeld => ?_)
          clear hK K
          (try simp only [Act.put])
          refine wpAnyH_ready (rs := [4]) (by kernel_rfl) (by simp) ?_
          refine AllReadyH.cons rfl (fun K hK => ?_) ?_
          · go_simp
            refine hK.out _ _ hHeld (fun hHeld => ?_)
            clear hK K
            (try simp only [Act.put])
            refine wpAnyH_ready (rs := [26]) (by kernel_rfl) (by simp) ?_
            refine AllReadyH.cons rfl (fun K hK => ?_) ?_
            · refine step_append_lies _ (by rfl) _ _ _ (by rfl) 0 61 i0 _ 2 24 Tryz.underlying54 hi hz0 hz1 hz2 (by rfl) (by decide) _ k _ (by rfl) HAL.out ⟨wr.heap.size + 1, 0, none⟩ 1 1 [.string ep, .pointer (some ⟨wr.heap.size, 0, none⟩)] (by rfl) (by rfl) (row_cells (heap_alloc2_new _ _ _)) HONE.out (by decide) hb63 hb24 (Nat.zero_le _) _ rfl ?_; intro g2 cap2 w5 hown5 hgrow hat hlt5; have sb : w5.heap[w.heap.size]? = _ := (hgrow.block w.heap.size (by show w.heap.size < ((wr.alloc _).alloc _).heap.size; rw [size_alloc2]; omega) (fun e => HCN.out e.symm)).trans ((Below.heap_alloc _ _ w.heap.size (by rw [size_alloc]; omega)).trans ((Below.heap_alloc wr _ w.heap.size hxl).trans HXB.out)); have s1 : w5.cell? ⟨w.heap.size, 1, none⟩ = _ := cell_of_row _ _ 1 _ _ _ sb; have sf := frozen_of_row w5 w.heap.size 1 _ _ sb; have hk5 := HKP.out w5 _ _ b 1 _ hgrow hbl r1; have hk6 := HKP.out w5 _ _ g (k * 2) _ hgrow HGW.out.1 t0; have hk7 := HKP.out w5 _ _ ef 0 _ hgrow HGW.out.2 n0; have hk8 : (w5.setCell ⟨w.heap.size, 1, none⟩ (.slice (some ⟨g2, 0, none⟩) (k + 1) cap2)).cell? ⟨b, 1, none⟩ = _ := (World.cell?_of_block (a := ⟨b, 1, none⟩) (heap_setCell_other _ _ _ _ (by simp; omega))).trans hk5; have hk9 : (w5.setCell ⟨w.heap.size, 1, none⟩ (.slice (some ⟨g2, 0, none⟩) (k + 1) cap2)).cell? ⟨g, k * 2, none⟩ = _ := (World.cell?_of_block (a := ⟨g, k * 2, none⟩) (heap_setCell_other _ _ _ _ (by have := HGW.out.1; simp; omega))).trans hk6; have hk10 : (w5.setCell ⟨w.heap.size, 1, none⟩ (.slice (some ⟨g2, 0, none⟩) (k + 1) cap2)).cell? ⟨ef, 0, none⟩ = _ := (World.cell?_of_block (a := ⟨ef, 0, none⟩) (heap_setCell_other _ _ _ _ (by have := HGW.out.2; simp; omega))).trans hk7
              refine hK.out _ _ ⟨hk5, hk6, hk7⟩ (fun hHeld => ?_)
              clear hK K
              (try simp only [Act.put])
              refine wpAnyH_take (i := 27) (v := ?_) rfl (by kernel_rfl) (by kernel_rfl) (by kernel_rfl) (fun _ _ _ h => h) (Or.inl ⟨by rfl, ?_⟩) (by assumption) ?_
              rotate_left
              · intro wq hSw; (try dsimp only at hSw); go_simp; (try with_reducible rfl)
              (try simp only [Act.put])
              refine wpAnyH_take (i := 28) (v := ?_) rfl (by kernel_rfl) (by kernel_rfl) (by kernel_rfl) (fun _ _ _ h => h) (Or.inl ⟨by rfl, ?_⟩) (by assumption) ?_
              rotate_left
              · intro wq hSw; (try dsimp only at hSw); go_simp; (try with_reducible rfl)
              (try simp only [Act.put])
              refine wpAnyH_ready (rs := [29]) (by kernel_rfl) (by simp) ?_
              refine AllReadyH.cons rfl (fun K hK => ?_) ?_
              · go_simp
                refine hK.out _ _ ⟨hk8, hk9, hk10⟩ (fun hHeld => ?_)
                clear hK K
                (try simp only [Act.put])
                refine wpAnyH_done (by kernel_rfl) ?_ _
                have HST := hide (cpR_step HB.out HX.out HND.out HIN.out HNS.out HR'.out HCP.out HXO.out HE.out (by rw [← HDT.out]; exact ⟨hgrow.os, hgrow.tape, hgrow.output, hgrow.size, hgrow.block⟩) hown5 hat (by show wr.heap.size ≤ ((wr.alloc _).alloc _).heap.size; rw [size_alloc2]; omega))
                obtain ⟨w6, hw6⟩ : ∃ w6, w6 = w5.setCell ⟨w.heap.size, 1, none⟩ (.slice (some ⟨g2, 0, none⟩) (k + 1) cap2) := ⟨_, rfl⟩
                rw [← hw6] at HST ⊢
                clear hw6 hgrow hown5 hat sb s1 sf
                go_wp2_with fail
                exact ⟨⟨k + 1, hlt, by simp, HST.out⟩, by simp only [intOf]; omega⟩
              exact AllReadyH.nil
            exact AllReadyH.nil
          exact AllReadyH.nil
        exact AllReadyH.nil
      exact AllReadyH.nil
    · have hcmp : decide (k < n) = false := decide_eq_false hlt
      have hkn : k = R.now.length := by rw [← HN.out]; omega
      rw [hll] at x1
      have HKN := hide hkn
      have HLL := hide hll
      have HFIN : Hid (∃ R' nd' ns', Below w.heap.size w (wr.setCell ⟨w.heap.size, 2, none⟩ (.slice ox k cx)) ∧ RDN (wr.setCell ⟨w.heap.size, 2, none⟩ (.slice ox k cx)) w.heap.size R' nd' ns' (.slice none 0 0) ∧ (∀ k ∈ ns', w.heap.size ≤ k) ∧ R' = ⟨R.room, R'.now, R'.now, [], 0, -1⟩ ∧ CpDoc R R' nd nd' ns' R.now.length) := by
        have hs := hx.setSafeV hx.now
        rw [hll] at hs
        refine ⟨{ R' with safe := R'.now }, nd', ns', ⟨hb.os, hb.tape, hb.output, Nat.le_trans hb.size (grownBy_set wr w.heap.size 2 _).size, fun q hq => (heap_setCell_other _ _ _ _ (by simp; omega)).trans (hb.block q hq)⟩, ⟨⟨_, _, hs⟩, fun q hq => ?_, hin, hin, ?_⟩, hns, ?_, ?_⟩
        · have hqr := hnd q hq
          exact (heap_setCell_other _ _ _ _ (by simpa using type_ne hqr hx.blk (by decide))).trans hqr
        · rw [hR']; exact fun c hc => by cases hc
        · rw [hR']
        · rw [← hkn]; exact ⟨hcp.len, hcp.pth, hcp.dat, hcp.inn, hcp.inj⟩
      clear hb hx hnd hin hns hcp hxo hi2 hR' hkn hll hlt hk HB HX HND HIN HNS HCP HXO HR'
      go_wp2_with fail
      refine bodyPost_ret (results_tmp2 rfl _ _ _) rfl ?_
      obtain ⟨R2, nd2, ns2, h1, h2, h3, h4, h5⟩ := HFIN.out
      exact ⟨R2, nd2, ns2, rfl, h1, h2, h3, h4, h5⟩
end Go.Proofs.YtjipdjkcdoajbaaGreatDoor
