/-
  PROVED HERE: what Get of the program's store answers of a content that is there whole.
-/
import Derived.Test.YteicpbcddjjceaaGreatDoorBsPub
import Derived.Test.YteicpbcddjjceaaGreatDoorReading
import Derived.Deep.AppendLies
import Derived.Deep.RegionHeld3
namespace Go.Proofs.YteicpbcddjjceaaGreatDoor
open Go.RowKit Go.MuLone
set_option maxHeartbeats 2000000 in
set_option maxRecDepth 100000 in
theorem find_there (xb sb : Nat) (s : PSt) (cb tb nc nt : Nat) (Dc Dt : DataW Value) (text : ByteArray) (n : Int) (w : World) (hx : BLk w xb sb n) (h : StW w sb s cb tb nc nt Dc Dt) (hu : UnitC Dc) (hd : isDigB text = true) (hh : Maps.has Dc (dKey (rd text)) = true) :
    Calls Tryz.prog 39 #[.pointer (some ⟨xb, 0, none⟩), .string text] w fun e w' => e = .returned (.tuple #[.agg (cells8 (rd text)), .int .i64 0]) ∧ Below w.heap.size w w' := by
  have HRD := hide (fun W => read_any text W)
  rw [hd] at HRD
  have HHS := hide (fun W (hb : Below w.heap.size w W) => has_any sb s cb tb nc nt Dc Dt (rd text) W (h.later hb) hu (rd_len text) (rd_lt text))
  rw [hh] at HHS
  have hds := rd_len text
  generalize rd text = ds at *
  have HX := hide hx
  have HST := hide h
  clear hx h hu hd hh
  go_enter Tryz.func39, Tryz.ntmps39
  go_upto_region 2 with (first | (go_at_call 69; refine (HRD.out _).mono ?_; rintro _ w1 ⟨rfl, hb1⟩) | (refine wpList_store_row rfl 72 _ _ rfl w1.heap.size _ rfl rfl 72 _ (heap_alloc_new _ _) (size40 _ hds) (by rw [cells8_size, hds]; rfl) (cells8_one _) ?_; rw [World.setRow_alloc_new]))
  have hz0 : (w.alloc (.cells (cells8 (Sha.zeros 32)) 72)).heap[w.heap.size]? = some (.cells (cells8 (Sha.zeros 32)) 72 (0, 0)) := heap_alloc_new _ _
  have hb0 : Below w.heap.size w (w.alloc (.cells (cells8 (Sha.zeros 32)) 72)) := (Below.refl _ _).alloc (Nat.le_refl _) _
  have hr1 : w1.heap[w.heap.size]? = some (.cells (cells8 (Sha.zeros 32)) 72 (0, 0)) := (hb1.block _ (lt_heap hz0)).trans hz0
  have hbw1 : Below w.heap.size w w1 := hb0.trans (hb1.mono hb0.size)
  obtain ⟨W, hW⟩ : ∃ W, W = w1.alloc (.cells (cells8 ds) 72) := ⟨_, rfl⟩
  have hBW : Below w1.heap.size w1 W := by rw [hW]; exact (Below.refl _ _).alloc (Nat.le_refl _) _
  have hrow : W.heap[w1.heap.size]? = some (.cells (cells8 ds) 72 (0, 0)) := by rw [hW]; exact heap_alloc_new _ _
  have hrr := (hBW.block _ (lt_heap hr1)).trans hr1
  have hbW : Below w.heap.size w W := hbw1.trans (hBW.mono hbw1.size)
  have hlr := lt_heap hr1
  rw [← hW]
  have c2 : W.cell? ⟨xb, 2, none⟩ = some (.pointer (some ⟨sb, 0, none⟩)) := cell_of_row _ _ 2 _ _ _ (HX.out.later hbW)
  have HBW := hide hbW
  have HROW := hide hrow
  have HRR := hide hrr
  obtain ⟨db, hdb⟩ : ∃ db, db = w1.heap.size := ⟨_, rfl⟩
  obtain ⟨rb, hrb⟩ : ∃ rb, rb = w.heap.size := ⟨_, rfl⟩
  rw [← hdb] at HROW hlr ⊢
  rw [← hrb] at HRR hlr ⊢
  have HRB := hide hrb
  clear hbW hrow hrr hBW hz0 hb0 hr1 hbw1 hb1 hW hdb hrb HRD
  go_wp2_with (refine wpList_load_row rfl 72 _ rfl db rfl 72 _ _ _ HROW.out Tryz.underlying72 rfl (size40 _ hds) ?_)
  have hdr : Below W.heap.size W W.drew := (Below.refl _ _).drew
  have hS0 : W.drew.cell? ⟨xb, 2, none⟩ = some (.pointer (some ⟨sb, 0, none⟩)) ∧ W.drew.rangeAt db 0 (cells8 ds).toList := ⟨cell_later hdr c2, con_r ((hdr.block _ (lt_heap HROW.out)).trans HROW.out)⟩
  have u72 := Tryz.underlying72
  have i72 := size72 ds hds
  have HHS2 := hide (HHS.out W.drew (HBW.out.trans (hdr.mono HBW.out.size)))
  go_region_held3 (fun w' => w'.cell? ⟨xb, 2, none⟩ = some (.pointer (some ⟨sb, 0, none⟩)) ∧ w'.rangeAt db 0 (cells8 ds).toList) (first | exact hS0 | exact hS3 | go_keep) ((go_at_call 70; refine (HHS2.out).mono ?_; rintro _ w3 ⟨rfl, hb3⟩; have hb4 : Below W.heap.size W w3 := hdr.trans hb3; have hr3 := (hb4.block _ (lt_heap HROW.out)).trans HROW.out; have hS3 := And.intro (cell_later hb4 c2) (con_r hr3)))
  have hq3 := (hb4.block _ (lt_heap HRR.out)).trans HRR.out
  have HR3 := hide hr3
  have HQ3 := hide hq3
  have HB4 := hide (HBW.out.trans (hb4.mono HBW.out.size))
  clear hS0 hS3 hr3 hq3 hb3 hb4 hdr c2 HHS HHS2 u72 i72
  go_wp2_with (first | (refine wpList_load_row rfl 72 _ rfl db rfl 72 _ _ _ HR3.out Tryz.underlying72 rfl (size40 _ hds) ?_) | (refine wpList_store_row rfl 72 _ _ rfl rb _ rfl rfl 72 _ HQ3.out (size40 _ hds) (by simp only [cells8_size, hds, Sha.zeros_len]) (cells8_one _) ?_))
  have hsb := HB4.out.setRow (g := rb) (by have := HRB.out; omega) (cells8 ds)
  exact bodyPost_ret (results_cell_tmp Tryz.results39 _ _ rb 72 _ (0, 0) _ (.int .i64 0) rfl rfl (setRow_heap _ _ _ _ _ _ HQ3.out) Tryz.underlying72 rfl (size40 _ hds)) rfl ⟨rfl, hsb⟩
set_option maxHeartbeats 4000000 in
set_option maxRecDepth 100000 in
theorem bGet_there (N xb sb : Nat) (s : PSt) (cb tb nc nt : Nat) (Dc Dt : DataW Value) (text b : ByteArray) (w : World) (hx : BSt w xb sb) (hG : ¬ isG xb) (hN : ∀ k, s.own k → N ≤ k) (hNx : N ≤ xb) (h : StW w sb s cb tb nc nt Dc Dt) (hu : UnitC Dc) (hd : isDigB text = true) (hh : Maps.has Dc (dKey (rd text)) = true)
    (hcon : conR s.ds (rd text) = some b) (hsz : ∀ t, rdD s.ds (cPath (rd text)) = some t → t.size ≤ 140737488351232) :
    Calls Tryz.prog 12 #[.pointer (some ⟨xb, 0, none⟩), .string text] w fun e w' => e = .returned (.tuple #[.string b, .int .i64 0]) ∧ FB N w w' ∧ BSt w' xb sb ∧ StW w' sb s cb tb nc nt Dc Dt := by
  have hx : BLk w xb sb 0 := hx
  have c0 : w.cell? ⟨xb, 0, none⟩ = some (.int .i32 0) := cell_of_row _ _ 0 _ _ _ hx
  have f0 : w.frozen? ⟨xb, 0, none⟩ = false := frozen_of_row _ _ 0 _ _ hx
  obtain ⟨W, hW⟩ : ∃ W, W = w.setCell ⟨xb, 0, none⟩ (.int .i32 1) := ⟨_, rfl⟩
  have hst : StW W sb s cb tb nc nt Dc Dt := by rw [hW]; exact h.lock hx hG
  have hxw : BLk W xb sb 1 := by rw [hW]; exact hx.set 1
  have hfw : FB N w W := by rw [hW]; exact FB.lock hx hNx
  have HFI := hide (find_there xb sb s cb tb nc nt Dc Dt text 1 W hxw hst hu hd hh)
  have HCO := hide (fun W' (hb' : Below W.heap.size W W') => content_any sb s (rd text) W' (hst.later hb').on (rd_len text) (rd_lt text) hsz)
  rw [hcon] at HCO
  have HLK := hide (lock_free Tryz.muLib ⟨xb, 0, none⟩ w c0 f0)
  have HW := hide hW
  have HST := hide hst
  have HXW := hide hxw
  have HFW := hide hfw
  have hds := rd_len text
  generalize rd text = ds at *
  clear hx c0 f0 hst hxw hfw hW h hcon hsz hu hd hh
  go_enter_defers Tryz.func12, Tryz.ntmps12
  go_wp2_with fail
  refine (HLK.out).mono ?_
  rintro _ W1 ⟨rfl, hW1⟩
  have hW1 : W1 = W := hW1.trans HW.out.symm
  rw [hW1]
  dsimp only
  clear hW1 HLK HW
  go_wp2_with (first | (go_at_call 39; refine (HFI.out).mono ?_; rintro _ w1 ⟨rfl, hb1⟩) | (refine wpList_store_row rfl 72 _ _ rfl w1.heap.size _ rfl rfl 72 _ (heap_alloc_new _ _) (size40 _ hds) (by rw [cells8_size, hds]; rfl) (cells8_one _) ?_; rw [World.setRow_alloc_new]))
  obtain ⟨W2, hW2⟩ : ∃ W2, W2 = w1.alloc (.cells (cells8 ds) 72) := ⟨_, rfl⟩
  have hBW : Below w1.heap.size w1 W2 := by rw [hW2]; exact (Below.refl _ _).alloc (Nat.le_refl _) _
  have hrow : W2.heap[w1.heap.size]? = some (.cells (cells8 ds) 72 (0, 0)) := by rw [hW2]; exact heap_alloc_new _ _
  have hb2 : Below W.heap.size W W2 := hb1.trans (hBW.mono hb1.size)
  rw [← hW2]
  have hdr : Below W2.heap.size W2 W2.drew := (Below.refl _ _).drew
  have hb2d : Below W.heap.size W W2.drew := hb2.trans (hdr.mono hb2.size)
  have HCO2 := hide (HCO.out W2.drew hb2d)
  have hnd : ¬ s.own w1.heap.size := fun e => by have := HST.out.inn.lt e; have := hb1.size; omega
  obtain ⟨db, hdb⟩ : ∃ db, db = w1.heap.size := ⟨_, rfl⟩
  rw [← hdb] at hrow hnd ⊢
  have hS0 : W2.drew.cell? ⟨xb, 2, none⟩ = some (.pointer (some ⟨sb, 0, none⟩)) ∧ W2.drew.rangeAt db 0 (cells8 ds).toList := ⟨cell_of_row _ _ 2 _ _ _ (HXW.out.later hb2d), con_r ((hdr.block _ (lt_heap hrow)).trans hrow)⟩
  have HROW := hide ((hdr.block _ (lt_heap hrow)).trans hrow)
  have HB2D := hide hb2d
  have HX2 := hide (HXW.out.later hb2d)
  have HND := hide hnd
  have u72 := Tryz.underlying72
  have i72 := size72 ds hds
  clear hW2 hBW hrow hb2 hdr hb2d hb1 hdb hnd HFI HCO
  go_region_held3 (fun w' => w'.cell? ⟨xb, 2, none⟩ = some (.pointer (some ⟨sb, 0, none⟩)) ∧ w'.rangeAt db 0 (cells8 ds).toList) (first | exact hS0 | exact hS3 | go_keep) ((go_at_call 40; refine (HCO2.out).mono ?_; rintro _ w3 ⟨rfl, hg3⟩; have hr3 := (hg3.gr.block _ (lt_heap HROW.out) HND.out).trans HROW.out; have hx3 := HX2.out.ft (FT.of_go (HST.out.later HB2D.out).inn hN hg3); have hS3 := And.intro (cell_of_row _ _ 2 _ _ _ hx3) (con_r hr3)))
  have HX3 := hide hx3
  have HF3 := hide ((HFW.out.trans (FB.of (FT.of_below HB2D.out))).trans (FB.of (FT.of_go (HST.out.later HB2D.out).inn hN hg3)))
  have HS3 := hide ((HST.out.later HB2D.out).go hg3)
  clear hS0 hS3 hr3 hx3 hg3 HCO2 u72 i72
  go_wp2_with fail
  refine leaves_cons (f := 21) (args := #[.pointer (some ⟨xb, 0, none⟩)]) (by simp) (by simp [go_sem]) ?_
  refine (unlock_deferred Tryz.muLib ⟨xb, 0, none⟩ .returning _ (cell_of_row _ _ 0 _ _ _ HX3.out) (frozen_of_row _ _ 0 _ _ HX3.out)).mono ?_
  rintro e u' w6 ⟨rfl, rfl, rfl⟩
  exact ⟨_, results_tmp2 rfl _ _ _, rfl, HF3.out.trans (FB.lock HX3.out hNx), HX3.out.set 0, HS3.out.lock HX3.out hG⟩
end Go.Proofs.YteicpbcddjjceaaGreatDoor

/-
  PROVED HERE: what the program's function Tags of package index answers: the list of tags of the entries, in memory of its own.
-/
namespace Go.Proofs.YteicpbcddjjceaaGreatDoor
open Go.RowKit
/-- The tag that the program makes of an entry. -/
def Tg.told (t : Tg) : Tg := ⟨t.name, ⟨(Sha.textTo (rd t.dig) 32).toArray⟩, t.size⟩
theorem Tryz.info26c : (Tryz.prog.info? 89).map (fun i => (i.zero, i.size, i.bytes)) = some (some (.agg #[.string ⟨#[]⟩, .string ⟨#[]⟩, .int .i64 0]), 3, 40) := by kernel_rfl
theorem Ent.grown {w0 w w' : World} {b : Nat} {n : ByteArray} {ds : List Nat} {z : Int} {base : Nat} {e : TypeId} {size m : Nat} {v : Value} {xs : List Value} (h : Ent w0 w b n ds z) (hg : w.grownBy w' v.ownBlock) (ho : w.ownsRow base e size v m xs) (hne : 130 ≠ e) (hB : w0.heap.size ≤ base) : Ent w0 w' b n ds z :=
  ⟨grown_keeps hg h.row (own_ne ho h.row hne), grown_below h.below hg ho hB h.below.size⟩
theorem tell_one (n d : ByteArray) (z : Int) : ∀ u ∈ [Value.string n, Value.string d, Value.int .i64 z], u.oneCell' = true := by
  intro u hu
  simp only [List.mem_cons, List.not_mem_nil, or_false] at hu
  rcases hu with rfl | rfl | rfl <;> rfl
set_option maxHeartbeats 2000000 in
set_option maxRecDepth 100000 in
theorem tagsOf_core (v : Value) (l : List Tg) (w : World) (n : Nat) (hn : l.length = n) (h8 : n ≤ 8) (B : Nat) (hown : w.ownsRow B 130 34 v n (l.flatMap Tg.ecells)) :
    Calls Tryz.prog 25 #[v] w fun e w' => Below w.heap.size w w' ∧ ∃ v', e = .returned v' ∧ w'.ownsRow w.heap.size 89 3 v' n ((l.map Tg.told).flatMap Tg.cells) := by
  have HN := hide hn
  have HO := hide hown
  clear hn hown
  have hz71 := (zero_of_info Tryz.info71b).1
  obtain ⟨i0, hi, hz0, hz1, hz2⟩ := info_parts Tryz.info26c
  obtain ⟨oa, cap, rfl⟩ := own_slice HO.out
  go_enter Tryz.func25, Tryz.ntmps25
  go_wp2
  go_loopw [3, 8] (fun v i wr => ∃ k : Nat, k ≤ n ∧ i = .int .i64 ((k : Nat) : Int) ∧ wr.ownsRow w.heap.size 89 3 v k (((l.map Tg.told).take k).flatMap Tg.cells) ∧ Below w.heap.size w wr)
    (fun _ i _ => n - (intOf i).toNat)
  case atStart => exact ⟨0, Nat.zero_le _, rfl, World.ownsRow_nil _ _ _ _, Below.refl _ _⟩
  case round =>
    obtain ⟨k, hk, rfl, hI, hbel⟩ := hrel
    have HI := hide hI
    clear hI
    by_cases hlt : k < n
    · have hbs := hbel.size
      obtain ⟨g, rfl⟩ : ∃ g, oa = some ⟨g, 0, none⟩ := by
        rcases HO.out.2 with ⟨e, h0⟩ | ⟨g, cap', cur, e, _⟩
        · omega
        · injection e with e1 _ _; exact ⟨g, e1⟩
      have hr := rangeAt_later hbel (ecells_range HO.out k (by rw [HN.out]; exact hlt))
      generalize hx : l.getD k default = tx at hr
      have HX := hide hx
      clear hx
      obtain ⟨n1, d1, z1⟩ := tx
      have hrd : Tg.ecells ⟨n1, d1, z1⟩ = (ecellsOf n1 (rd d1) z1).toList := rfl
      rw [hrd] at hr
      clear hrd
      generalize hd : rd d1 = ds at hr
      have hdl : ds.length = 32 := by rw [← hd]; exact rd_len _
      have hdlt : ∀ i, ds.getD i 0 < 256 := by rw [← hd]; exact rd_lt _
      have HD := hide hd
      clear hd
      have HR := hide hr
      clear hr
      have hE0 : Ent w (wr.alloc (.cells (ecellsOf n1 ds z1) 130)) wr.heap.size n1 ds z1 := ⟨heap_alloc_new _ _, hbel.alloc hbs _⟩
      obtain ⟨dT, hdT⟩ : ∃ dT : ByteArray, dT = ⟨(Sha.textTo ds 32).toArray⟩ := ⟨_, rfl⟩
      have C18 : ∀ w, Calls Tryz.prog 23 #[.agg (cells8 ds)] w fun e w' => e = .returned (.string dT) ∧ Below w.heap.size w w' := fun w => by
        rw [hdT]; exact text_any ds w hdl hdlt
      have HdT := hide hdT
      have H18 := hide C18
      clear C18 hdT hdlt
      have i40 := i40len ds hdl
      have l40 : (cells8 ds).toList.length = 32 := by rw [Array.length_toList, cells8_size, hdl]
      have u40 := Tryz.underlying72
      have HE0 := hide hE0
      have HI2 := hide (HI.out.alloc (.cells (ecellsOf n1 ds z1) 130))
      clear hE0
      go_wp2_with (first | (refine wpList_load_mid rfl 130 _ rfl g (k * 34) rfl (ecellsOf n1 ds z1).toList _ HR.out Tryz.underlying130 rfl (by rw [Array.length_toList]; exact size71 _ _ _ hdl) ?_) | (refine wpList_store_row rfl 130 _ _ rfl wr.heap.size _ rfl rfl 130 _ (heap_alloc_new _ _) (size71 _ _ _ hdl) (by rw [ecellsOf_size _ _ _ hdl, ecellsOf_size _ _ _ (Sha.zeros_len _)]) (Array.all_eq_true_iff_forall_mem.2 fun u hu => ecellsOf_one _ _ _ u (by simpa using hu)) ?_; rw [World.setRow_alloc_new]))
      obtain ⟨w2, hw2⟩ : ∃ w2, w2 = wr.alloc (.cells (ecellsOf n1 ds z1) 130) := ⟨_, rfl⟩
      rw [← hw2]
      rw [← hw2] at HE0 HI2
      clear hw2
      have hE2 := HE0.out
      go_region_held3 (fun w' => w'.cell? ⟨wr.heap.size, 0, none⟩ = some (.string n1) ∧ w'.rangeAt wr.heap.size 1 (cells8 ds).toList ∧ w'.cell? ⟨wr.heap.size, 33, none⟩ = some (.int .i64 z1))
        (first | exact (hE2.drew).out hdl | exact ((hE2.drew).later hT).out hdl | exact (((hE2.drew).later hT).later ((Below.refl _ _).alloc (Nat.le_refl _) _)).out hdl | exact ((((hE2.drew).later hT).later ((Below.refl _ _).alloc (Nat.le_refl _) _)).grown hgrow HI4.out (by decide) (Nat.le_refl _)).out hdl)
        (first | (go_at_call 23; refine (H18.out _).mono ?_; rintro _ w3 ⟨rfl, hT⟩) | (have HI4 := hide ((ownsRow_later (w := w2.drew) HI2.out hT).alloc (.cells #[.string n1, .string dT, .int .i64 z1] 89)); refine step_append_lies _ (by rfl) _ _ _ (by rfl) w.heap.size 89 i0 _ 3 40 Tryz.underlying35 hi hz0 hz1 hz2 (by rfl) (by decide) _ k _ (by rfl) HI4.out _ 1 1 [.string n1, .string dT, .int .i64 z1] (by rfl) (by rfl) (row_cells (heap_alloc_new _ _)) (tell_one n1 dT z1) (by decide) (by unfold maxLen; omega) (by omega) (Nat.le_trans ((hE2.drew).later hT).below.size (by simp)) _ rfl ?_; intro g2 cap2 w5 hown5 hgrow hat hlt5))
      go_wp2
      refine ⟨⟨k + 1, by omega, by go_num, ?_, ?_⟩, by simp [intOf]; omega⟩
      · have e := take_flat (l.map Tg.told) k (by rw [List.length_map, HN.out]; exact hlt) Tg.cells
        have e2 : (l.map Tg.told).getD k default = Tg.told ⟨n1, d1, z1⟩ := by
          rw [← HX.out]
          simp [List.getD_eq_getElem?_getD, show k < l.length by rw [HN.out]; exact hlt]
        rw [e, e2]
        have e3 : (Tg.told ⟨n1, d1, z1⟩).cells = [.string n1, .string dT, .int .i64 z1] := by
          unfold Tg.told Tg.cells
          dsimp only
          rw [HD.out, HdT.out]
        rw [e3]
        exact hown5
      · exact ((((hE2.drew).later hT).later ((Below.refl _ _).alloc (Nat.le_refl _) _)).grown hgrow HI4.out (by decide) (Nat.le_refl _)).below
    · have hkn : k = n := by omega
      subst hkn
      go_wp2
      go_ret
      refine ⟨hbel, _, rfl, ?_⟩
      have h := HI.out
      rwa [List.take_of_length_le (by rw [List.length_map, HN.out]; exact Nat.le_refl _)] at h
end Go.Proofs.YteicpbcddjjceaaGreatDoor

/-
  PROVED HERE: what Tags of the program's store answers, of no tag and of one.
-/
namespace Go.Proofs.YteicpbcddjjceaaGreatDoor
open Go.RowKit Go.MuLone Go.Shelf Go.Maps Go.Sort
theorem own_lock {w : World} {xb sb B size n : Nat} {e : TypeId} {v u : Value} {xs : List Value} {m : Int} (h : w.ownsRow B e size v n xs) (hx : BLk w xb sb m) (he : e ≠ 68) : (w.setCell ⟨xb, 0, none⟩ u).ownsRow B e size v n xs := by
  obtain ⟨hlen, h2⟩ := h
  refine ⟨hlen, ?_⟩
  rcases h2 with h2 | ⟨g, cap, cur, rfl, h3, hg, h4⟩
  · exact .inl h2
  · exact .inr ⟨g, cap, cur, rfl, h3, (heap_setCell_other _ _ _ _ (by simpa using type_ne hg hx he)).trans hg, h4⟩
/-- These are the tags of a store. -/
structure TgsOf (D : DataW Value) (l : List Tg) : Prop where
  all : AllE D
  few : (strKeys D).length ≤ 1
  is : ∀ xs, AllV D xs → xs.flatMap EV.cs = l.flatMap Tg.ecells ∧ xs.length = l.length
theorem tgs_none : TgsOf (.map []) [] := ⟨allE_none, Nat.zero_le _, fun xs h => by rw [allV_none h]; exact ⟨rfl, rfl⟩⟩
theorem tgs_one (name : ByteArray) (ds : List Nat) (z : Int) (hds : ds.length = 32) (hlt : ∀ i, ds.getD i 0 < 256) : TgsOf (oneT name ds z) [⟨name, dtx ds, z⟩] := ⟨allE_one name ds z hds, Nat.le_refl _, fun xs h => by
  obtain ⟨h1, h2⟩ := allV_one h
  refine ⟨?_, h2⟩
  rw [h1]
  simp only [List.flatMap_cons, List.flatMap_nil, List.append_nil, Tg.ecells, rd_dtx ds hds hlt]⟩
set_option maxHeartbeats 2000000 in
set_option maxRecDepth 100000 in
theorem sTags_any (sb : Nat) (s : PSt) (cb tb nc nt : Nat) (Dc Dt : DataW Value) (l : List Tg) (w : World) (h : StW w sb s cb tb nc nt Dc Dt) (hl : TgsOf Dt l) :
    Calls Tryz.prog 26 #[.pointer (some ⟨sb, 0, none⟩)] w fun e w' => ∃ v, e = .returned v ∧ w'.ownsRow w.heap.size 130 34 v l.length (l.flatMap Tg.ecells) ∧ Below w.heap.size w w' := by
  have HS := hide (sorted_any tb nt Dt w h.tm hl.all hl.few)
  have c2 := cell_of_row _ _ 2 _ _ _ h.blk
  have HL := hide hl
  clear h hl
  go_enter Tryz.func26, Tryz.ntmps26
  go_wp2_with fail
  refine (HS.out).mono ?_
  rintro _ w1 ⟨v, xs, rfl, hV, hrow, hb⟩
  dsimp only
  obtain ⟨h1, h2⟩ := HL.out.is xs hV
  rw [h1, h2] at hrow
  have HR := hide hrow
  have HB := hide hb
  clear hrow hb h1 h2 hV HS c2
  go_wp2_with fail
  go_ret
  exact ⟨_, rfl, HR.out, HB.out⟩
set_option maxHeartbeats 4000000 in
set_option maxRecDepth 100000 in
theorem bTags_any (N xb sb : Nat) (s : PSt) (cb tb nc nt : Nat) (Dc Dt : DataW Value) (l : List Tg) (w : World) (hx : BSt w xb sb) (hG : ¬ isG xb) (hNx : N ≤ xb) (h : StW w sb s cb tb nc nt Dc Dt) (hl : TgsOf Dt l) (h8 : l.length ≤ 8) :
    Calls Tryz.prog 8 #[.pointer (some ⟨xb, 0, none⟩)] w fun e w' => ∃ v, e = .returned (.tuple #[v, .int .i64 0]) ∧ w'.ownsRow w.heap.size 89 3 v l.length ((l.map Tg.told).flatMap Tg.cells) ∧ FB N w w' ∧ BSt w' xb sb ∧ StW w' sb s cb tb nc nt Dc Dt := by
  have hx : BLk w xb sb 0 := hx
  have c0 : w.cell? ⟨xb, 0, none⟩ = some (.int .i32 0) := cell_of_row _ _ 0 _ _ _ hx
  have f0 : w.frozen? ⟨xb, 0, none⟩ = false := frozen_of_row _ _ 0 _ _ hx
  obtain ⟨W, hW⟩ : ∃ W, W = w.setCell ⟨xb, 0, none⟩ (.int .i32 1) := ⟨_, rfl⟩
  have hst : StW W sb s cb tb nc nt Dc Dt := by rw [hW]; exact h.lock hx hG
  have hxw : BLk W xb sb 1 := by rw [hW]; exact hx.set 1
  have hfw : FB N w W := by rw [hW]; exact FB.lock hx hNx
  have hzw : W.heap.size = w.heap.size := by rw [hW]; simp
  have HTG := hide (sTags_any sb s cb tb nc nt Dc Dt l W hst hl)
  have HLK := hide (lock_free Tryz.muLib ⟨xb, 0, none⟩ w c0 f0)
  have HW := hide hW
  have HST := hide hst
  have HXW := hide hxw
  have HFW := hide hfw
  have HZW := hide hzw
  have c2 : W.cell? ⟨xb, 2, none⟩ = some (.pointer (some ⟨sb, 0, none⟩)) := cell_of_row _ _ 2 _ _ _ hxw
  clear hx c0 f0 hst hxw hfw hW h hzw
  go_enter_defers Tryz.func8, Tryz.ntmps8
  go_wp2_with fail
  refine (HLK.out).mono ?_
  rintro _ W1 ⟨rfl, hW1⟩
  have hW1 : W1 = W := hW1.trans HW.out.symm
  rw [hW1]
  dsimp only
  clear hW1 HLK HW
  go_wp2_with fail
  refine (HTG.out).mono ?_
  rintro _ w1 ⟨v1, rfl, hrow, hb1⟩
  dsimp only
  have HTO := hide (tagsOf_core v1 l w1 l.length rfl h8 _ hrow)
  have HB1 := hide hb1
  clear hrow hb1 HTG
  go_wp2_with fail
  refine (HTO.out).mono ?_
  rintro _ w2 ⟨hb2, v2, rfl, hrow2⟩
  dsimp only
  have hb3 := HB1.out.trans (hb2.mono HB1.out.size)
  have HB3 := hide hb3
  have HX3 := hide (HXW.out.later hb3)
  have HR3 := hide (hrow2.mono_base (by have := HB1.out.size; have := HZW.out; omega : w.heap.size ≤ w1.heap.size))
  clear hb2 hb3 hrow2 HTO
  go_wp2_with fail
  refine leaves_cons (f := 21) (args := #[.pointer (some ⟨xb, 0, none⟩)]) (by simp) (by simp [go_sem]) ?_
  refine (unlock_deferred Tryz.muLib ⟨xb, 0, none⟩ .returning _ (cell_of_row _ _ 0 _ _ _ HX3.out) (frozen_of_row _ _ 0 _ _ HX3.out)).mono ?_
  rintro e u' w6 ⟨rfl, rfl, rfl⟩
  exact ⟨_, results_tmp2 rfl _ _ _, v2, rfl, own_lock HR3.out HX3.out (by decide), (HFW.out.trans (FB.of (FT.of_below HB3.out))).trans (FB.lock HX3.out hNx), HX3.out.set 0, (HST.out.later HB3.out).lock HX3.out hG⟩
end Go.Proofs.YteicpbcddjjceaaGreatDoor
