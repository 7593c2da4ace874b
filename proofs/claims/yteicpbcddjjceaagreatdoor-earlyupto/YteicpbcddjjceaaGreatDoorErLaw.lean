/-
  PROVED HERE: that valid of the statement answers true of a store at rest with one empty content and one tag.
-/
import Derived.Test.YteicpbcddjjceaaGreatDoorErValid
namespace Go.Proofs.YteicpbcddjjceaaGreatDoor
open Go.RowKit
/-- The empty content's digest, its path and the index that names it. -/
def emT : ByteArray := ⟨#[101, 51, 98, 48, 99, 52, 52, 50, 57, 56, 102, 99, 49, 99, 49, 52, 57, 97, 102, 98, 102, 52, 99, 56, 57, 57, 54, 102, 98, 57, 50, 52, 50, 55, 97, 101, 52, 49, 101, 52, 54, 52, 57, 98, 57, 51, 52, 99, 97, 52, 57, 53, 57, 57, 49, 98, 55, 56, 53, 50, 98, 56, 53, 53]⟩
def emP : ByteArray := ⟨#[98, 108, 111, 98, 115, 47, 101, 51, 98, 48, 99, 52, 52, 50, 57, 56, 102, 99, 49, 99, 49, 52, 57, 97, 102, 98, 102, 52, 99, 56, 57, 57, 54, 102, 98, 57, 50, 52, 50, 55, 97, 101, 52, 49, 101, 52, 54, 52, 57, 98, 57, 51, 52, 99, 97, 52, 57, 53, 57, 57, 49, 98, 55, 56, 53, 50, 98, 56, 53, 53]⟩
def emD : List Nat := dOfB ⟨#[]⟩
def emX : ByteArray := oneX ⟨#[97]⟩ emD 0
theorem em_text : dtx emD = emT := by kernel_rfl
theorem em_path : cPath emD = emP := by kernel_rfl
theorem em_read : readS emX = .ok [⟨⟨#[97]⟩, emT, 0⟩] 119 := by kernel_rfl
theorem em_told : (([⟨⟨#[97]⟩, emT, 0⟩] : List En).map En.tg).map Tg.told = [⟨⟨#[97]⟩, emT, 0⟩] := by kernel_rfl
theorem em_print : pText [⟨⟨#[97]⟩, emT, 0⟩] = emX := by kernel_rfl
theorem em_perr : pErr [⟨⟨#[97]⟩, emT, 0⟩] = 0 := by kernel_rfl
theorem em_hash : (⟨(Sha.hash (⟨#[]⟩ : ByteArray).data.toList).toArray⟩ : ByteArray) = emT := by kernel_rfl
set_option maxHeartbeats 1000000 in
set_option maxRecDepth 100000 in
theorem entry_one (g c : Nat) (n t : ByteArray) (w : World) (c0 : w.cell? ⟨g, 0, none⟩ = some (.string n)) (c1 : w.cell? ⟨g, 1, none⟩ = some (.string t)) (c2 : w.cell? ⟨g, 2, none⟩ = some (.int .i64 0)) :
    Calls Tryz.prog 32 #[.slice (some ⟨g, 0, none⟩) 1 c, .string t, .int .i64 0] w fun e w' => e = .returned (.bool true) ∧ Below w.heap.size w w' := by
  go_enter Tryz.func32, Tryz.ntmps32
  go_wp2_with fail
  go_loopw [7] (fun iv w' => (iv = .int .i64 0 ∨ iv = .int .i64 1) ∧ Below w.heap.size w w') (fun iv _ => 1 - (intOf iv).toNat)
  case atStart => exact ⟨.inl rfl, Below.refl _ _⟩
  case round =>
    obtain ⟨hi, hb⟩ := hrel
    have k0 := cell_later hb c0
    have k1 := cell_later hb c1
    have k2 := cell_later hb c2
    rcases hi with rfl | rfl
    · go_wp2_with fail
      exact ⟨⟨.inr rfl, hb⟩, by decide⟩
    · go_wp2_with fail
      go_ret
      exact ⟨rfl, hb⟩
theorem own_first {w : World} {B n : Nat} {so : Option Addr} {sc : Nat} {x : Value} {xs : List Value} (h : w.ownsRow B 9 1 (.slice so n sc) n (x :: xs)) : ∃ g, so = some ⟨g, 0, none⟩ ∧ w.cell? ⟨g, 0, none⟩ = some x := by
  obtain ⟨hlen, h2⟩ := h
  rcases h2 with ⟨e, h2⟩ | ⟨g, cap, cur, e, hB, hg, _, _, hsz, htk⟩
  · subst h2
    cases hlen
  · injection e with e1 _ _
    refine ⟨g, e1, ?_⟩
    rw [cell_of_row _ _ 0 _ _ _ hg]
    have hn : 0 < n * 1 := by simp at hlen; omega
    have : (cur.toList.take (n * 1))[0]? = (x :: xs)[0]? := by rw [htk]
    rw [List.getElem?_take, if_pos hn] at this
    simpa using this
theorem own_threeG {w : World} {B g c : Nat} {x y z : Value} (h : w.ownsRow B 89 3 (.slice (some ⟨g, 0, none⟩) 1 c) 1 [x, y, z]) : w.cell? ⟨g, 0, none⟩ = some x ∧ w.cell? ⟨g, 1, none⟩ = some y ∧ w.cell? ⟨g, 2, none⟩ = some z := by
  obtain ⟨g', c', e, _, r0, r1, r2⟩ := own_three h
  injection e with e _ _
  injection e with e
  injection e with e
  subst e
  exact ⟨r0, r1, r2⟩
theorem rowT_go {w w' : World} {B n : Nat} {v : Value} {xs : List Value} {s s' : PSt} (h : w.ownsRow B 89 3 v n xs) (hi : s.In w) (hg : PGo s s' w w') : w'.ownsRow B 89 3 v n xs := own_same h (fun k hk _ => by
  obtain ⟨c, hc⟩ := own_obj h k hk
  exact (hg.keeps hi hc (by decide) (by decide) (by decide) (by decide)).trans hc.symm)
theorem tags_one {w : World} {g : Nat} {n t : ByteArray} (c0 : w.cell? ⟨g, 0, none⟩ = some (.string n)) (c1 : w.cell? ⟨g, 1, none⟩ = some (.string t)) (c2 : w.cell? ⟨g, 2, none⟩ = some (.int .i64 0)) : TagsAt w (some ⟨g, 0, none⟩) [⟨n, t, 0⟩] := fun i hi => by
  have : i = 0 := by simpa using hi
  subst this
  refine ⟨g, 0, rfl, fun j v hj => ?_⟩
  have hj : ([.string n, .string t, .int .i64 0] : List Value)[j]? = some v := hj
  match j with
  | 0 => injection hj with hj; rw [← hj]; exact c0
  | 1 => injection hj with hj; rw [← hj]; exact c1
  | 2 => injection hj with hj; rw [← hj]; exact c2
  | n + 3 => cases hj
set_option maxHeartbeats 8000000 in
set_option maxRecDepth 100000 in
theorem valid_four (s : PSt) (d : Nat) (w : World) (h : DkW w d s) (h4 : FourL emD ⟨#[]⟩ emX s.fd s.R.now) :
    Calls Tryz.prog 9 #[.pointer (some ⟨d, 0, none⟩)] w fun e w' => e = .returned (.bool true) ∧ PGo s s w w' := by
  obtain ⟨a, y, x, z, hnow, fa, fy, fx, fz⟩ := h4
  rw [em_path] at hnow
  have n1 : indexP ≠ journalP := by decide
  have n2 : indexP ≠ layoutP := by decide
  have n3 : journalP ≠ layoutP := by decide
  have m1 : emP ≠ indexP := by decide
  have m2 : emP ≠ journalP := by decide
  have m3 : emP ≠ layoutP := by decide
  have f0 : findE emP s.R.now = some a := by rw [hnow]; simp [findE]
  have f1 : findE indexP s.R.now = some y := by rw [hnow]; simp [findE, m1]
  have f2 : findE journalP s.R.now = some x := by rw [hnow]; simp [findE, n1, m2]
  have f3 : findE layoutP s.R.now = some z := by rw [hnow]; simp [findE, n2, n3, m3]
  have HLS := hide (bList_any s d w h (by rw [hnow]; simp))
  have HRL := hide (fun W (hg : PGo s s w W) => bRead_any s d z layoutP W (h.go hg) (by decide) f3)
  have HRI := hide (fun W (hg : PGo s s w W) => bRead_any s d y indexP W (h.go hg) (by decide) f1)
  have HRJ := hide (fun W (hg : PGo s s w W) => bRead_any s d x journalP W (h.go hg) (by decide) f2)
  have HRC := hide (fun W (hg : PGo s s w W) => bRead_any s d a emP W (h.go hg) (by decide) f0)
  rw [fz] at HRL
  rw [fy] at HRI
  rw [fx] at HRJ
  rw [fa] at HRC
  have hl3 : s.R.now.length = 4 := by rw [hnow]; rfl
  have hpv : pathVs s.R.now = [.string emP, .string indexP, .string journalP, .string layoutP] := by rw [hnow]; rfl
  rw [hl3, hpv] at HLS
  have H := hide h
  clear h hnow fx fy fz fa f0 f1 f2 f3 hl3 hpv
  unfold layoutP at HRL
  unfold indexP at HRI
  unfold journalP at HRJ
  go_enter Tryz.func9, Tryz.ntmps9
  go_wp2_with fail
  refine (HLS.out).mono ?_
  rintro _ w1 ⟨v, rfl, hrow, hb1⟩
  dsimp only
  obtain ⟨so, sc, rfl⟩ := own_sl hrow
  have HG1 := hide (PGo.refl H.out.inn hb1)
  have HRW1 := hide hrow
  clear hrow hb1 HLS
  go_wp2_with fail
  refine (HRL.out _ HG1.out).mono ?_
  rintro _ w2 ⟨rfl, hg2⟩
  dsimp only
  have HRW2 := hide (row_go HRW1.out HG1.out.inn hg2)
  have HG2 := hide (HG1.out.trans hg2)
  clear hg2 HRL HRW1
  go_wp2_with fail
  refine (HRI.out _ HG2.out).mono ?_
  rintro _ w3 ⟨rfl, hg3⟩
  dsimp only
  have HRW3 := hide (row_go HRW2.out HG2.out.inn hg3)
  have HG3 := hide (HG2.out.trans hg3)
  clear hg3 HRI HRW2
  go_wp2_with fail
  refine (HRJ.out _ HG3.out).mono ?_
  rintro _ w4 ⟨rfl, hg4⟩
  dsimp only
  have HRW4 := hide (row_go HRW3.out HG3.out.inn hg4)
  have HG4 := hide (HG3.out.trans hg4)
  clear hg4 HRJ HRW3
  have hlT : layoutT = ⟨#[123, 34, 118, 101, 114, 115, 105, 111, 110, 34, 58, 49, 125]⟩ := rfl
  rw [hlT]
  have HPA := hide (parse_any emX w4 (Nat.le_trans (oneX_size _ _ _ (by decide) (by decide)) (by decide)))
  have hread := em_read
  have hprint := em_print
  generalize emX = ET at *
  clear hlT
  go_wp2_with fail
  refine (HPA.out).mono ?_
  rintro e5 w5 ⟨hb5, v5, hv5⟩
  obtain ⟨g5, c5, rfl, hrt5⟩ : ∃ g5 c5, e5 = .returned (.tuple #[.slice (some ⟨g5, 0, none⟩) 1 c5, .int .i64 0, .int .i64 0]) ∧ w5.ownsRow w4.heap.size 89 3 (.slice (some ⟨g5, 0, none⟩) 1 c5) 1 [.string ⟨#[97]⟩, .string emT, .int .i64 0] := by
    rcases hv5 with ⟨es, c, hr, rfl, hrow, _⟩ | ⟨p, hr, _⟩
    · rw [hread] at hr
      injection hr with hr _
      subst hr
      rw [em_told] at hrow
      obtain ⟨g, c, rfl, _⟩ := own_three hrow
      exact ⟨g, c, rfl, hrow⟩
    · rw [hread] at hr
      cases hr
  obtain ⟨k0, k1, k2⟩ := own_threeG hrt5
  have HRT5 := hide hrt5
  dsimp only
  have hg5 : PGo s s w w5 := HG4.out.trans (PGo.refl HG4.out.inn hb5)
  have HPR := hide (ownPrint_any (some ⟨g5, 0, none⟩) c5 [⟨⟨#[97]⟩, emT, 0⟩] w5 (tags_one k0 k1 k2) (fun i => by
    match i with
    | 0 => decide
    | n + 1 => show (⟨#[]⟩ : ByteArray).size ≤ _; decide) ((H.out.go hg5).gl.tab))
  rw [hprint, em_perr] at HPR
  have HG5 := hide hg5
  have HRW5 := hide (ownsRow_later HRW4.out hb5)
  clear hb5 hv5 hg5 hread hprint HPA HRW4 hrt5
  go_wp2_with fail
  refine (HPR.out).mono ?_
  rintro _ w6 ⟨rfl, hb6⟩
  dsimp only
  have HG6 := hide (HG5.out.trans (PGo.refl HG5.out.inn hb6))
  have HRW6 := hide (ownsRow_later HRW5.out hb6)
  have HRT6 := hide (ownsRow_later HRT5.out hb6)
  clear hb6 HPR HRW5 k0 k1 k2 HRT5
  go_wp2_with fail
  have u6 : (emP.extract 0 6) = ⟨#[98, 108, 111, 98, 115, 47]⟩ := by decide +kernel
  have u70 : emP.size = 70 := by decide +kernel
  have uT : (emP.extract 6 70) = emT := by decide +kernel
  go_loopw [16] (fun iv w' => (iv = .int .i64 0 ∨ iv = .int .i64 1) ∧ PGo s s w w' ∧ w'.ownsRow w.heap.size 9 1 (.slice so 4 sc) 4 [.string emP, .string indexP, .string journalP, .string layoutP] ∧ w'.ownsRow w4.heap.size 89 3 (.slice (some ⟨g5, 0, none⟩) 1 c5) 1 [.string ⟨#[97]⟩, .string emT, .int .i64 0]) (fun iv _ => 1 - (intOf iv).toNat)
  case atStart => exact ⟨.inl rfl, HG6.out, HRW6.out, HRT6.out⟩
  case round =>
    obtain ⟨hi, hgo, hrw, hrt⟩ := hrel
    have HRT := hide hrt
    have HGO := hide hgo
    have HRW := hide hrw
    rcases hi with rfl | rfl
    · obtain ⟨g, rfl, r0⟩ := own_first hrw
      have HRC1 := hide (HRC.out wr hgo)
      clear hgo hrw hrt HG6 HRW6 HRT6
      go_wp2_with fail
      refine (HRC1.out).mono ?_
      rintro _ w7 ⟨rfl, hg7⟩
      dsimp only
      have HG7 := hide (HGO.out.trans hg7)
      have HRW7 := hide (row_go HRW.out HGO.out.inn hg7)
      have HRT7 := hide (rowT_go HRT.out HGO.out.inn hg7)
      clear hg7 HRC1 HRW HRT r0
      obtain ⟨g', e', r7⟩ := own_first HRW7.out
      injection e' with e'
      injection e' with e'
      subst e'
      have hgl7 := (H.out.go HG7.out).gl
      have HHA := hide (fun W (hb : Below w7.heap.size w7 W) => hash_any ⟨#[]⟩ W (by decide) (hgl7.later hb).hk)
      have HHA2 : Hid (∀ W, Below w7.heap.size w7 W → Calls Tryz.prog 31 #[.string ⟨#[]⟩] W fun e w' => e = .returned (.string emT) ∧ Below W.heap.size W w') := hide (fun W hb => (HHA.out W hb).mono fun e w' he => by rw [em_hash] at he; exact he)
      clear hgl7 HHA
      have HHA3 := hide (HHA2.out w7.drew (Below.refl w7.heap.size w7).drew)
      have hS0 : w7.drew.cell? ⟨g, 0, none⟩ = some (.string emP) := cell_later (Below.refl w7.heap.size w7).drew r7
      go_wp2_with fail
      go_region_held3 (fun w' => w'.cell? ⟨g, 0, none⟩ = some (.string emP)) (first | exact hS0 | exact hS3 | go_keep) ((go_at_call 31; refine (HHA3.out).mono ?_; rintro _ w8 ⟨rfl, hb8⟩; have hb9 : Below w7.heap.size w7 w8 := ((Below.refl w7.heap.size w7).drew).trans hb8; have hS3 := cell_later hb9 r7))
      have r8 := cell_later hb9 r7
      have HG8 := hide (HG7.out.trans (PGo.refl HG7.out.inn hb9))
      have HRW8 := hide (ownsRow_later HRW7.out hb9)
      have HRT8 := hide (ownsRow_later HRT7.out hb9)
      obtain ⟨k0, k1, k2⟩ := own_threeG HRT8.out
      have HEN := hide (entry_one g5 c5 _ _ w8 k0 k1 k2)
      clear hb8 hb9 hS0 hS3 r7 HHA2 HHA3 HRW7 HRT7 HG7 k0 k1 k2
      go_wp2_with fail
      refine (HEN.out).mono ?_
      rintro _ w9 ⟨rfl, hb10⟩
      dsimp only
      have HG9 := hide (HG8.out.trans (PGo.refl HG8.out.inn hb10))
      have HRW9 := hide (ownsRow_later HRW8.out hb10)
      have HRT9 := hide (ownsRow_later HRT8.out hb10)
      clear hb10 HEN r8
      go_wp2_with fail
      exact ⟨⟨.inr rfl, HG9.out, HRW9.out, HRT9.out⟩, by decide⟩
    · clear hgo hrw hrt HRW HG6 HRW6 HRT6
      have hcat : (⟨#[98, 108, 111, 98, 115, 47]⟩ : ByteArray) ++ emT = emP := by decide +kernel
      have uz : emT.size = 64 := by decide +kernel
      have q6 : ¬ 9223372036854775807 < 6 + emT.size := by rw [uz]; decide
      go_wp2_with fail
      go_loopw [21] (fun iv w' => (iv = .int .i64 0 ∨ iv = .int .i64 1) ∧ PGo s s w w' ∧ w'.ownsRow w4.heap.size 89 3 (.slice (some ⟨g5, 0, none⟩) 1 c5) 1 [.string ⟨#[97]⟩, .string emT, .int .i64 0]) (fun iv _ => 1 - (intOf iv).toNat)
      case atStart => exact ⟨.inl rfl, HGO.out, HRT.out⟩
      case round =>
        obtain ⟨hi, hgo, hrt⟩ := hrel
        have HGO2 := hide hgo
        have HRT2 := hide hrt
        clear HGO HRT
        rcases hi with rfl | rfl
        · obtain ⟨k0, k1, k2⟩ := own_threeG hrt
          have HRC1 := hide (HRC.out _ hgo)
          clear hgo hrt
          go_wp2_with fail
          refine (HRC1.out).mono ?_
          rintro _ w7 ⟨rfl, hg7⟩
          dsimp only
          have HG7 := hide (HGO2.out.trans hg7)
          have HRT7 := hide (rowT_go HRT2.out HGO2.out.inn hg7)
          clear hg7 HRC1 k0 k1 k2
          go_wp2_with fail
          exact ⟨⟨.inr rfl, HG7.out, HRT7.out⟩, by decide⟩
        · clear hgo hrt
          go_wp2_with fail
          go_ret
          exact ⟨rfl, HGO2.out⟩
end Go.Proofs.YteicpbcddjjceaaGreatDoor

/-
  PROVED HERE: that the statement Early answers true, for whatever falls, paths and keeps.
-/
namespace Go.Proofs.YteicpbcddjjceaaGreatDoor
open Go.RowKit
theorem rest_ea {D : DS} {L C : Nat} (h : Rest3 D) (hf : DFit D L C 36) : Ea D := by
  have hgo : ∀ m, goE D.R.safe (D.R.chg.take m) = D.R.now := fun m => by rw [h.2.2, List.take_nil, h.2.1]; rfl
  refine ⟨fun m => .inr ?_, fun m e he => ?_, hf.dat, hf.rise, hf.inv⟩
  · rw [hgo m]; exact h.1
  · rw [hgo m] at he
    obtain ⟨y, x, z, hn, _⟩ := h.1
    rw [hn] at he
    simp only [List.mem_cons, List.not_mem_nil, or_false] at he
    rcases he with rfl | rfl | rfl <;> simp [six]
theorem StW.dk {w : World} {sb : Nat} {s : PSt} {cb tb nc nt d : Nat} {Dc Dt : DataW Value} (h : StW w sb s cb tb nc nt Dc Dt) (hb : BD w d s.b) : DkW w d s := ⟨h.inn, hb, h.gl, h.low⟩
theorem BD.fb {N : Nat} {w w' : World} {d b : Nat} (h : BD w d b) (hf : FB N w w') : BD w' d b := hf.keep _ _ _ _ h (by unfold fT; decide) (by decide)
theorem FB.belowN {N : Nat} {w w' : World} (h : FB N w w') (hN : N ≤ w.heap.size) : Below N w w' := ⟨h.os, h.tape, h.output, h.size, fun k hk => h.low k hk (by omega)⟩
set_option maxHeartbeats 8000000 in
set_option maxRecDepth 100000 in
theorem early_any (w : World) (oa : Option Addr) (cc : Nat) (l : List FallV) (paths : Int) (kv : Value) (ks : List Int) (hg : Gl w) (hl : FallsAt w.heap.size w oa l) (hn : l.length ≤ 1048576) (hka : KAt (fun k => w.heap.size ≤ k) w kv ks) :
    Calls Tryz.prog 3 #[.slice oa l.length cc, .int .i64 paths, kv] w fun e w' => e = .returned (.bool true) ∧ Below w.heap.size w w' := by
  have HBG := hide (begun_any w hg)
  have HG := hide hg
  have HL := hide hl
  have HK := hide hka
  obtain ⟨N, hN⟩ : ∃ N, N = w.heap.size := ⟨_, rfl⟩
  rw [← hN] at HBG HL HK ⊢
  have HN := hide hN
  clear hg hl hka hN
  go_enter Tryz.func3, Tryz.ntmps3
  go_wp2_with fail
  refine (HBG.out).mono ?_
  rintro _ w1 ⟨d0, xb0, rfl, hb1⟩
  dsimp only
  have HB1 := hide hb1
  have hb1' : Below w.heap.size w w1 := by rw [← HN.out]; exact hb1
  have HND := hide (bNew_any 1099511627776 w1 (HG.out.later hb1') (by decide) (by decide))
  have hN1 : N ≤ w1.heap.size := by have := hb1'.size; have := HN.out; omega
  clear hb1 hb1' HBG
  go_wp2_with fail
  refine (HND.out).mono ?_
  rintro _ w2 ⟨d, so, rfl, hb2, hld, hdk, hown, her, hfit, hleft, hroom⟩
  dsimp only
  have hb2N : Below N w w2 := HB1.out.trans (hb2.mono hN1)
  have hN2 : N ≤ w2.heap.size := Nat.le_trans hN1 hb2.size
  have HRO := hide (reopened_any N so d oa cc l w2 0 ⟨hdk, fun k hk => Nat.le_trans hN1 (hown k hk), her, hfit, hleft, by rw [hroom]; decide⟩ (HL.out.low hb2N.block) hn (by decide) hN2)
  have HB2 := hide hb2N
  clear hb2 hdk hown her hfit hleft hroom hb2N HND
  go_wp2_with fail
  refine (HRO.out).mono ?_
  rintro _ w3 ⟨xb, sb, cb, tb, c, s3, rfl, hb3, hbst, hNx, hNs, hst, hdk3, hown3, hr3, hf3, hl3, hro3⟩
  dsimp only
  have hN3 : N ≤ w3.heap.size := Nat.le_trans hN2 hb3.size
  have hGx : ¬ isG xb := fun e => by have := HG.out.lt e; have := HN.out; omega
  have HBB := hide (bBlobs_none N xb sb s3 cb tb 0 0 (.map []) w3 hbst hGx hNx hst)
  have HBD3 := hide hdk3.bd
  have HB3 := hide (HB2.out.trans hb3)
  have HOW3 := hide hown3
  have HR3 := hide hr3
  have HF3 := hide hf3
  have HL3 := hide hl3
  have HRM3 := hide hro3
  clear hb3 hbst hst hdk3 hown3 hr3 hf3 hl3 hro3 HRO
  go_wp2_with fail
  refine (HBB.out).mono ?_
  rintro _ w4 ⟨rfl, hfb4, hx4, hs4⟩
  dsimp only
  have HTG := hide (bTags_any N xb sb s3 cb tb 0 0 (.map []) (.map []) [] w4 hx4 hGx hNx hs4 tgs_none (by decide))
  have HBD4 := hide (HBD3.out.fb hfb4)
  have HB4 := hide (HB3.out.trans (hfb4.belowN hN3))
  have hN4 : N ≤ w4.heap.size := Nat.le_trans hN3 hfb4.size
  clear hfb4 hx4 hs4 HBB HBD3 HB3
  go_wp2_with fail
  refine (HTG.out).mono ?_
  rintro _ w5 ⟨v5, rfl, hrow5, hfb5, hx5, hs5⟩
  dsimp only
  obtain ⟨o5, c5, rfl⟩ := row_nil hrow5
  have hdk5 := hs5.dk (HBD4.out.fb hfb5)
  have HVA := hide (valid_three s3 c w5 hdk5 HR3.out.1)
  have HDK5 := hide hdk5
  have HB5 := hide (HB4.out.trans (hfb5.belowN hN4))
  have hN5 : N ≤ w5.heap.size := Nat.le_trans hN4 hfb5.size
  clear hfb5 hx5 hs5 hdk5 hrow5 HTG HBD4 HB4
  go_wp2_with fail
  refine (HVA.out).mono ?_
  rintro _ w6 ⟨rfl, hg6⟩
  dsimp only
  have hb6 : Below N w w6 := HB5.out.trans (hg6.low HOW3.out hN5)
  have hN6 : N ≤ w6.heap.size := Nat.le_trans hN5 hg6.gr.size
  have HAF := hide (afresh_any N s3 c paths kv ks w6 (HDK5.out.go hg6) HOW3.out hN6 (KAt.low HK.out hb6) (rest_ea HR3.out HF3.out) HR3.out HL3.out HF3.out HRM3.out)
  have HB6 := hide hb6
  clear hg6 hb6 HVA HB5 HDK5
  go_wp2_with fail
  refine (HAF.out).mono ?_
  rintro _ w7 ⟨xb7, sb7, cb7, tb7, s7, rfl, hb7, hbst7, hNx7, hNs7, hst7, hdk7, hown7, hr7, hea7, hf7, hl7, hro7⟩
  dsimp only
  have hG7 : ¬ isG xb7 := fun e => by have := HG.out.lt e; have := HN.out; omega
  have hN7 : N ≤ w7.heap.size := Nat.le_trans hN6 hb7.size
  obtain ⟨rd7, con7⟩ := three_con (ds := dOfB ⟨#[]⟩) hr7.1
  have HPB := hide (bPub_new N xb7 sb7 s7 cb7 tb7 0 0 (.map []) ⟨#[97]⟩ ⟨#[]⟩ w7 hbst7 hG7 hst7 (by decide +kernel) con7 (by decide) (by decide) (by decide) (fun t ht => by rw [rd7] at ht; cases ht) (by decide) hf7 (show Bud _ _ _ from ⟨by omega, by omega, by omega⟩) ⟨hown7, hNs7.1, hNs7.2⟩ hNx7)
  have HBD7 := hide hdk7.bd
  have HB7 := hide (HB6.out.trans hb7)
  have HR7 := hide hr7
  have HF7 := hide hf7
  have HL7 := hide hl7
  have HRM7 := hide hro7
  clear hb7 hbst7 hst7 hdk7 hown7 hr7 hea7 hf7 hl7 hro7 rd7 con7 HAF HB6
  go_wp2_with fail
  refine (HPB.out).mono ?_
  rintro _ w8 ⟨k, s8, rfl, hfb8, hwr, hno8, hbst8, hok8, -⟩
  dsimp only
  obtain ⟨rfl, f8, -, -, -, -⟩ := pub_pure (dOfB ⟨#[]⟩) _ _ HR7.out HF7.out.inow HL7.out HRM7.out (by decide) (oneX_size _ _ _ (by decide) (by decide)) hwr
  obtain ⟨t2, n2, hst8⟩ := hok8 rfl
  obtain ⟨con8, rd8⟩ := four_con (D := s8.ds) f8 rfl
  have hrda : rd emT = dOfB ⟨#[]⟩ := by rw [← em_text]; exact rd_dtx _ (dOfB_len _) (dOfB_lt _)
  have hdga : isDigB emT = true := by rw [← em_text]; exact dtx_dig _ (dOfB_lt _)
  have hdt : dtx (dOfB ⟨#[]⟩) = emT := em_text
  have HGT := hide (bGet_there N xb7 sb7 s8 cb7 t2 1 n2 _ _ emT ⟨#[]⟩ w8 hbst8 hG7 hno8.1 hNx7 hst8 (unitC_one _) hdga (by rw [hrda]; exact has_put _) (by rw [hrda]; exact con8) (fun t ht => by rw [hrda, rd8] at ht; cases ht; decide))
  have hbd8 : BD w8 c s8.b := by
    have h1 := HBD7.out.fb hfb8
    have h2 : s8.b = s7.b := hno8.2
    rw [h2]
    exact h1
  have HBD8 := hide hbd8
  have HB8 := hide (HB7.out.trans (hfb8.belowN hN7))
  have hN8 : N ≤ w8.heap.size := Nat.le_trans hN7 hfb8.size
  have HF8 := hide f8
  have HO8 := hide hno8.1
  rw [if_pos rfl, hdt]
  clear hfb8 hwr hno8 hok8 hbst8 hst8 con8 rd8 hrda hdga hdt hbd8 HPB HB7 HBD7 f8
  go_wp2_with fail
  refine (HGT.out).mono ?_
  rintro _ w9 ⟨rfl, hfb9, -, hs9⟩
  dsimp only
  have HVB := hide (valid_four s8 c w9 (hs9.dk (HBD8.out.fb hfb9)) HF8.out)
  have HB9 := hide (HB8.out.trans (hfb9.belowN hN8))
  have hN9 : N ≤ w9.heap.size := Nat.le_trans hN8 hfb9.size
  clear hfb9 hs9 HGT HB8 HBD8
  go_wp2_with fail
  refine (HVB.out).mono ?_
  rintro _ w10 ⟨rfl, hg10⟩
  dsimp only
  have HB10 := hide (HB9.out.trans (hg10.low HO8.out hN9))
  clear hg10 HVB HB9
  go_wp2_with fail
  go_ret
  exact ⟨rfl, HB10.out⟩
end Go.Proofs.YteicpbcddjjceaaGreatDoor
