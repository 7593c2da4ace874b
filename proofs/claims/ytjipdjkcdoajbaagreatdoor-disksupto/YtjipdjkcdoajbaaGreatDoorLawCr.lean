/-
  PROVED HERE: the statement's own crash of a pair of disks.
-/
import Derived.Test.YtjipdjkcdoajbaaGreatDoorLawLk
import Derived.Test.YtjipdjkcdoajbaaGreatDoorRowI
import Derived.BigQuiet
import Derived.Deep.RegionHeld3
namespace Go.Proofs.YtjipdjkcdoajbaaGreatDoor
open Go.RowKit
theorem oCrash (t : Option Tw) (paths : Int) (k1 k2 : Value) (ks : List Int) (w : World) {n B : Nat} (h : OIn w n B t) (hn : n + B ≤ 1048576) (h1 : KAt (oOwn t) w k1 ks) (h2 : KAt (oOwn t) w k2 ks) :
    OCalls 66 #[oX t, .int .i64 paths, k1] 67 #[oD t, .int .i64 paths, k2] t w (n + 1) B := by
  cases t with
  | none => exact oNil (wCrash_nil paths k1 w) (rdCrash_nil paths k2 w)
  | some t => exact (tCrash t paths k1 k2 ks w h.1 h.2 hn h1 h2).opt
theorem OGo.gr {w w' : World} {n B : Nat} {p p' : Option Tw} (h : OGo w w' n B p p') : Gr (oOwn p) w w' := by
  cases p with
  | none =>
    cases p' with
    | none => exact Gr.of_below h
    | some _ => exact h.elim
  | some t =>
    cases p' with
    | none => exact h.elim
    | some t' => exact h.1.gr
theorem OGo.until {w w1 w2 : World} {n B : Nat} {p p' : Option Tw} (h : OGo w w1 n B p p') (hb : Below w1.heap.size w1 w2) : OGo w w2 n B p p' := by
  cases p with
  | none =>
    cases p' with
    | none => exact Below.trans (show Below w.heap.size w w1 from h) (hb.mono (show Below w.heap.size w w1 from h).size)
    | some _ => exact h.elim
  | some t =>
    cases p' with
    | none => exact h.elim
    | some t' => exact ⟨⟨h.1.d, h.1.rb, h.1.inn.later hb, h.1.gr.trans (Gr.of_below hb), h.1.own⟩, h.2⟩
theorem KAt.later {S : Nat → Prop} {w w' : World} {v : Value} {ks : List Int} (h : KAt S w v ks) (hb : Below w.heap.size w w') : KAt S w' v ks :=
  h.frame (Gr.of_below (S := fun _ => False) hb) (fun _ e => e.elim)
theorem OIn.lt {w : World} {n B : Nat} {p : Option Tw} (h : OIn w n B p) {k : Nat} (hk : oOwn p k) : k < w.heap.size := by
  cases p with
  | none => exact hk.elim
  | some t => exact h.1.lt hk
theorem marked (ks : List Int) (m k : Nat) (hm : ks.length = m) (hk : k < 8) : (ks ++ (List.replicate k (-77 : Int) ++ List.replicate (8 - k) 0)).set (m + k) (-77) = ks ++ (List.replicate (k + 1) (-77) ++ List.replicate (8 - (k + 1)) 0) := by
  subst hm
  rw [List.set_append_right _ _ (by omega), Nat.add_sub_cancel_left, List.set_append_right _ _ (by simp), List.length_replicate, Nat.sub_self, show 8 - k = (8 - (k + 1)) + 1 by omega, List.replicate_succ, List.set_cons_zero, List.replicate_succ' (n := k)]
  simp
set_option maxHeartbeats 4000000 in
set_option maxRecDepth 100000 in
theorem lawCrash (p : Option Tw) (paths : Int) (oa : Option Addr) (ca : Nat) (ks : List Int) (m : Nat) (hm : ks.length = m) (w : World) {n B : Nat} (h : OIn w n B p) (hn : n + B ≤ 1048576) (hk : KAt (oOwn p) w (.slice oa m ca) ks) (hms : m ≤ 1048576) :
    Calls Tryz.prog 40 #[.agg #[oX p, oD p], .int .i64 paths, .slice oa m ca] w fun e w' => e = .returned (.bool true) ∧ ∃ p', OGo w w' (n + 1) B p p' := by
  obtain ⟨ax, hx⟩ := oX_ptr p
  obtain ⟨ad, hd⟩ := oD_ptr p
  obtain ⟨i0, hi, hz0, hz1, hz2⟩ := info_parts Tryz.infoInt
  have hmk : ∀ w : World, (Instr.makeSlice 31 (.int .i64 ((m : Int) + 8)) (.int .i64 ((m : Int) + 8))).run Tryz.prog w = .ok (.slice (some ⟨w.heap.size, 0, none⟩) (m + 8) (m + 8)) (w.alloc (.cells (rowI (List.replicate (m + 8) 0)) 3)) := fun w => by
    have := run_make (P := Tryz.prog) w 31 3 i0 _ Tryz.underlying31 hi hz0 .i64 .i64 ((m : Int) + 8) ((m : Int) + 8) (by omega) (Int.le_refl _) (by rw [hz2]; omega) (by omega)
    rw [hz1, show ((m : Int) + 8).toNat = m + 8 by omega, madeI] at this
    exact this
  clear hi hz0 hz1 hz2
  have hb1 : Below w.heap.size w (w.alloc (.cells #[oX p, oD p] 39)) := (Below.refl _ _).alloc (Nat.le_refl _) _
  obtain ⟨w1, hw1⟩ : ∃ w1, w1 = w.alloc (.cells #[.pointer ax, .pointer ad] 39) := ⟨_, rfl⟩
  rw [hx, hd, ← hw1] at hb1
  have hs1 : w1.heap.size = w.heap.size + 1 := by rw [hw1, size_alloc]
  have hbox : w1.heap[w.heap.size]? = some (.cells #[.pointer ax, .pointer ad] 39 (0, 0)) := by rw [hw1]; exact heap_alloc_new _ _
  have hk1 := hk.later hb1
  have h1 := h.later hb1
  obtain ⟨w3, hcp, hrow, hb3⟩ := copiedI (w1.alloc (.cells (rowI (List.replicate (m + 8) 0)) 3)) 3 w1.heap.size (m + 8) (m + 8) ca oa ks (List.replicate (m + 8) 0) (by omega) (by rw [List.length_replicate]; omega) (heap_alloc_new _ _) (by rw [hm]; exact hk1.later ((Below.refl _ _).alloc (Nat.le_refl _) _))
  rw [hm] at hcp hrow
  rw [List.drop_replicate, show m + 8 - m = 8 by omega] at hrow
  have hb13 : Below w1.heap.size w1 w3 := ((Below.refl _ _).alloc (Nat.le_refl _) _).trans hb3
  rw [hs1] at hb13
  rw [hs1] at hrow hb3
  rw [hs1, hw1] at hcp
  have HK1 := hide hk1
  have H1 := hide h1
  have HM := hide hm
  have HB1 := hide hb1
  have HBOX := hide hbox
  have HS1 := hide hs1
  have HROW := hide hrow
  have HNEW : Hid (¬ oOwn p (w.heap.size + 1)) := fun e => by have := h.lt e; omega
  have HB13 := hide hb13
  have HC := hide (fun w' (hb : Below w1.heap.size w1 w') k1 (h1' : KAt (oOwn p) w' k1 ks) => oCrash p paths k1 (.slice oa m ca) ks w' (h1.later hb) hn h1' (hk1.later hb))
  rw [hx, hd] at HC ⊢
  clear hk h h1 hk1 hm hb1 hbox hs1 hrow hb3 hb13
  go_enter Tryz.func40, Tryz.ntmps40
  go_wp2_with fail
  go_loopw [9] (fun i wr => ∃ k q : Nat, k ≤ 8 ∧ q = m + k ∧ i = .int .i64 ((q : Nat) : Int) ∧ wr.heap[w.heap.size + 1]? = some (.cells (rowI (ks ++ (List.replicate k (-77) ++ List.replicate (8 - k) 0))) 3 (0, 0)) ∧ Below (w.heap.size + 1) w1 wr) (fun i _ => m + 8 - (intOf i).toNat)
  case atStart => exact ⟨0, m, Nat.zero_le _, rfl, rfl, HROW.out, HB13.out⟩
  case round =>
    clear hcp hmk
    obtain ⟨k, q, hk8, hq, rfl, hr, hbel⟩ := hrel
    have HR := hide hr
    have HBE := hide hbel
    have HQ := hide hq
    have hqi : (q : Int) ≤ (m : Int) + 8 := by omega
    have hlen : (ks ++ (List.replicate k (-77 : Int) ++ List.replicate (8 - k) 0)).length = m + 8 := by simp only [List.length_append, List.length_replicate]; rw [HM.out]; omega
    have HLEN := hide hlen
    by_cases hlt : k < 8
    · have hlt2 : (q : Int) < (m : Int) + 8 := by omega
      have c1 := rowI_cell hr q (by omega)
      have hf := fun j => frozen_of_row wr (w.heap.size + 1) j _ _ hr
      clear hr hbel hq hlen
      go_wp2_with fail
      refine ⟨⟨k + 1, q + 1, hlt, by have := HQ.out; omega, by simp, (rowI_set HR.out q (-77)).trans (by rw [HQ.out, marked ks m k HM.out hlt]), ⟨HBE.out.os, HBE.out.tape, HBE.out.output, Nat.le_trans HBE.out.size (grownBy_set wr (w.heap.size + 1) q _).size, fun j hj => (heap_setCell_other _ _ _ _ (by simp; omega)).trans (HBE.out.block j hj)⟩⟩, by simp only [intOf]; omega⟩
    · have hk : k = 8 := by omega
      subst hk
      have hlt2 : ¬ (q : Int) < (m : Int) + 8 := by omega
      have hbd : Below w1.heap.size w1 wr.drew := by rw [HS1.out]; exact hbel.drew
      have hbr : Below wr.heap.size wr wr.drew := (Below.refl _ _).drew
      have hrd : wr.drew.heap[w.heap.size + 1]? = some (.cells (rowI (ks ++ List.replicate 8 (-77))) 3 (0, 0)) := by
        refine (hbr.block _ (lt_of_row hr)).trans (hr.trans ?_)
        simp
      have hkd : KAt (oOwn p) wr.drew (.slice (some ⟨w.heap.size + 1, 0, none⟩) m (m + 8)) ks := by
        have := rowI_kat (S := oOwn p) (c := m + 8) (l := ks) (r := List.replicate 8 (-77)) hrd HNEW.out
        rwa [HM.out] at this
      have hbx : wr.heap[w.heap.size]? = some (.cells #[.pointer ax, .pointer ad] 39 (0, 0)) := (hbel.block _ (Nat.lt_succ_self _)).trans HBOX.out
      have c0 : wr.cell? ⟨w.heap.size, 0, none⟩ = some (.pointer ax) := cell_of_row _ _ 0 _ _ _ hbx
      have hbxd : wr.drew.heap[w.heap.size]? = some (.cells #[.pointer ax, .pointer ad] 39 (0, 0)) := (hbr.block _ (lt_of_row hbx)).trans hbx
      have hsl0 : (0 : Int) ≤ (m : Int) := by omega
      have hsl1 : (m : Int) ≤ (m : Int) + 8 := by omega
      have hsl2 : m ≤ m + 8 := by omega
      have HC4 := hide (HC.out wr.drew hbd _ hkd)
      have HBD := hide hbd
      have HRD := hide hrd
      have HBXD := hide hbxd
      have HID := hide (H1.out.later hbd)
      clear hr hbel hlen hbd hbr hrd hkd hbx hbxd HR
      go_wp2_with fail
      go_region_held3 (fun w' => w'.cell? ⟨w.heap.size, 0, none⟩ = some (.pointer ax)) (first | exact hS5 | go_keep) ((go_at_call 66; refine (HC4.out).mono ?_; rintro _ w5 ⟨j, rfl, hgr, hc2⟩; have hS5 : w5.cell? ⟨w.heap.size, 0, none⟩ = some (.pointer ax) := cell_of_row _ _ 0 _ _ _ (HID.out.keeps hgr HBXD.out (by decide) (by decide) (by decide) (by decide) (by unfold dTy; decide))))
      have c1 : w5.cell? ⟨w.heap.size, 1, none⟩ = some (.pointer ad) := cell_of_row _ _ 1 _ _ _ (HID.out.keeps hgr HBXD.out (by decide) (by decide) (by decide) (by decide) (by unfold dTy; decide))
      have HC5 := hide hc2
      clear hc2 hgr
      go_wp2_with fail
      refine HC5.out.mono ?_
      rintro _ w6 ⟨rfl, p', hp'⟩
      dsimp only
      have hr6 := HID.out.keeps hp'.gr HRD.out (by decide) (by decide) (by decide) (by decide) (by unfold dTy; decide)
      have hk6 := (HK1.out.later HBD.out).frame hp'.gr (fun _ e => e)
      have HR6 := hide hr6
      have HK6 := hide hk6
      have HP := hide hp'
      clear hp' hr6 hk6 c1
      go_wp2_with fail
      go_loopw [12] (fun i wz => ∃ z : Nat, z ≤ m + 8 ∧ i = .int .i64 ((z : Nat) : Int) ∧ Below w6.heap.size w6 wz) (fun i _ => m + 8 - (intOf i).toNat)
      case atStart => exact ⟨0, Nat.zero_le _, rfl, Below.refl _ _⟩
      case round =>
        obtain ⟨z, hz, rfl, hbz⟩ := hrel
        rename World => wz
        have hrz := (hbz.block _ (lt_of_row HR6.out)).trans HR6.out
        have hkz := HK6.out.later hbz
        have HBZ := hide hbz
        have hll : (ks ++ List.replicate 8 (-77 : Int)).length = m + 8 := by rw [List.length_append, List.length_replicate, HM.out]
        by_cases hlt : z < m + 8
        · have hc1 := rowI_cell hrz z (by omega)
          have hzi : (z : Int) < (m : Int) + 8 := by omega
          by_cases hzm : z < m
          · have e1 : (ks ++ List.replicate 8 (-77 : Int)).getD z 0 = ks.getD z 0 := by rw [List.getD_eq_getElem?_getD, List.getD_eq_getElem?_getD, List.getElem?_append_left (by rw [HM.out]; exact hzm)]
            rw [e1] at hc1
            obtain ⟨oa', c', hv, hks⟩ := hkz
            injection hv with hv1 hv2 hv3
            subst hv1
            obtain ⟨g, o, rfl, _, hc2⟩ := hks z (by rw [HM.out]; exact hzm)
            obtain ⟨x, hx⟩ : ∃ x, x = ks.getD z 0 := ⟨_, rfl⟩
            rw [← hx] at hc1 hc2
            have hd1 : decide (z < m) = true := decide_eq_true hzm
            have hd2 : decide (m ≤ z) = false := decide_eq_false (by omega)
            have hzl : z < m + 8 := by omega
            have hz0 : (0 : Int) ≤ (z : Int) := by omega
            have hzm2 : (z : Int) < (m : Int) := by omega
            clear hx hks hll hrz hbz hv2 hv3 e1
            go_wp2_with fail
            go_quiet (fail)
            go_wp2_with fail
            exact ⟨⟨z + 1, by omega, by simp, HBZ.out.drewN _⟩, by simp only [intOf]; omega⟩
          · have e1 : (ks ++ List.replicate 8 (-77 : Int)).getD z 0 = -77 := by
              rw [List.getD_eq_getElem?_getD, List.getElem?_append_right (by rw [HM.out]; omega), List.getElem?_replicate, HM.out, if_pos (by omega)]
              rfl
            rw [e1] at hc1
            have hd1 : decide (z < m) = false := decide_eq_false hzm
            have hd2 : decide (m ≤ z) = true := decide_eq_true (by omega)
            have hzl : z < m + 8 := by omega
            have hz0 : (0 : Int) ≤ (z : Int) := by omega
            clear hll hrz hbz hkz e1
            go_wp2_with fail
            go_quiet (fail)
            go_wp2_with fail
            exact ⟨⟨z + 1, by omega, by simp, HBZ.out.drewN _⟩, by simp only [intOf]; omega⟩
        · have hzi : ¬ (z : Int) < (m : Int) + 8 := by omega
          clear hll hrz hbz hkz
          go_wp2_with fail
          go_ret
          exact ⟨rfl, p', (HP.out.from (HB1.out.trans (HBD.out.mono HB1.out.size))).until HBZ.out⟩
set_option maxHeartbeats 1000000 in
set_option maxRecDepth 100000 in
theorem wrCrash (p : Option Tw) (K A C : Int) (S T : ByteArray) (la : Option Addr) (ln lc : Nat) (ks : List Int) (w : World) {n B : Nat} (h : OIn w n B p) (hn : n + B ≤ 1048576) (hm : ks.length = ln) (hk : KAt (oOwn p) w (.slice la ln lc) ks) (hms : ln ≤ 1048576) :
    Calls Tryz.prog 10 #[.agg #[oX p, oD p], .agg #[.int .i64 15, .int .i64 K, .int .i64 A, .int .i64 C, .string S, .string T, .slice la ln lc]] w fun e w' => e = .returned (.bool true) ∧ ∃ p', OGo w w' (n + 1) B p p' := by
  obtain ⟨ax, hx⟩ := oX_ptr p
  obtain ⟨ad, hd⟩ := oD_ptr p
  have hb2 := two_below w (.cells #[oX p, oD p] 39) (.cells #[.int .i64 15, .int .i64 K, .int .i64 A, .int .i64 C, .string S, .string T, .slice la ln lc] 33)
  have hc := lawCrash p A la lc ks ln hm _ (h.later hb2) hn (hk.later hb2) hms
  rw [hx, hd] at hb2 hc
  rw [hx, hd]
  have HC := hide hc
  have HB := hide hb2
  clear h hk hc hb2
  go_enter Tryz.func10, Tryz.ntmps10
  go_wp2_with fail
  refine HC.out.mono ?_
  rintro _ w1 ⟨rfl, p', hp'⟩
  dsimp only
  have HP := hide hp'
  clear hp'
  go_wp2_with fail
  go_ret
  exact ⟨rfl, p', HP.out.from HB.out⟩
end Go.Proofs.YtjipdjkcdoajbaaGreatDoor
