/-
  PROVED HERE: what Publish leaves on the disk of an empty store at rest; no walk.
-/
import Derived.Test.YteicpbcddjjceaaGreatDoorErReop
import Derived.Test.YteicpbcddjjceaaGreatDoorKDec
import Derived.Test.YteicpbcddjjceaaGreatDoorParse
import Derived.Test.YteicpbcddjjceaaGreatDoorOwnPrint
namespace Go.Proofs.YteicpbcddjjceaaGreatDoor
open Go.RowKit
theorem Ran.step {D D' : DS} {t : Stp} {l : List Stp} {k : Int} {n : Nat} (P : DS → Prop) (h : Ran D (t :: l) k n D') (he : ∀ k1 X, stR D t k1 X → k1 = 0 ∧ P X) : ∃ D1 m, P D1 ∧ Ran D1 l k m D' := by
  obtain ⟨k1, D1, h1, h2⟩ := h
  obtain ⟨rfl, hP⟩ := he k1 D1 h1
  rcases h2 with ⟨h2, _⟩ | ⟨_, m, _, h3⟩
  · exact absurd rfl h2
  · exact ⟨D1, m, hP, h3⟩
theorem cP_size (ds : List Nat) : (cPath ds).size = 70 := by
  unfold cPath
  rw [bytes_size, List.length_append, Sha.textTo_len]
  rfl
theorem cP_path (ds : List Nat) : isPathB (cPath ds) = true := by
  simp [isPathB, cP_size]
theorem cP_data (ds : List Nat) : (cPath ds).data.toList = 98 :: 108 :: (([111, 98, 115, 47] : List UInt8) ++ Sha.textTo ds 32) := by
  unfold cPath
  rfl
theorem cP_index (ds : List Nat) : lessB (cPath ds) indexP = true := by rw [less_eq, cP_data]; rfl
theorem cP_journal (ds : List Nat) : lessB (cPath ds) journalP = true := by rw [less_eq, cP_data]; rfl
theorem cP_layout (ds : List Nat) : lessB (cPath ds) layoutP = true := by rw [less_eq, cP_data]; rfl
theorem cP_p0 (ds : List Nat) : lessB p0 (cPath ds) = true := by rw [less_eq, cP_data]; rfl
theorem cP_p1 (ds : List Nat) : lessB p1 (cPath ds) = true := by rw [less_eq, cP_data]; rfl
theorem cP_p1' (ds : List Nat) : lessB (cPath ds) p1 = false := by rw [less_eq, cP_data]; rfl
/-- The four files of a store of one content and one tag. -/
def FourL (ds : List Nat) (b X : ByteArray) (fd : Nat → ByteArray × Int) (l : List DE) : Prop := ∃ a i x z, l = [⟨cPath ds, a⟩, ⟨indexP, i⟩, ⟨journalP, x⟩, ⟨layoutP, z⟩] ∧ fd a = (b, (b.size : Int)) ∧ fd i = (X, (X.size : Int)) ∧ fd x = (⟨#[]⟩, 0) ∧ fd z = (layoutT, 13)
structure P4 (D X : DS) (l : List DE) (a i x z : Nat) (da di : ByteArray × Int) : Prop where
  left : X.R.left = -1
  room : X.R.room = D.R.room
  now : X.R.now = l
  fa : X.fd a = da
  fi : X.fd i = di
  fx : X.fd x = (⟨#[]⟩, 0)
  fz : X.fd z = (layoutT, 13)
theorem wrS_two (c b X : ByteArray) : wrS [(c, b), (indexP, X)] = [sAp p0 b, sAp p1 X, sSy p0, sSy p1, sRn p0 c, sRn p1 indexP, sSd] := by
  rw [← bPath0, ← bPath1]
  rfl
set_option linter.unusedSimpArgs false in
theorem pub_pure {D D' : DS} {k : Int} (ds : List Nat) (b X : ByteArray) (h3 : Rest3 D) (hin : ∀ e ∈ D.R.now, e.blk ∈ D.fs) (hl : D.R.left = -1) (hroom : 1000000 ≤ D.R.room) (hb : b.size ≤ 300) (hX : X.size ≤ 1000) (hw : WrR D [(cPath ds, b), (indexP, X)] k D') :
    k = 0 ∧ FourL ds b X D'.fd D'.R.now ∧ D'.R.safe = D'.R.now ∧ D'.R.chg = [] ∧ D'.R.left = -1 ∧ D'.R.room = D.R.room := by
  obtain ⟨⟨y, x, z, hnow, fx, fy, fz⟩, hsafe, hchg⟩ := h3
  obtain ⟨m, D1, hr, hor⟩ := hw
  rw [wrS_two] at hr
  have iy : y ∈ D.fs := hin ⟨indexP, y⟩ (by rw [hnow]; simp)
  have ix : x ∈ D.fs := hin ⟨journalP, x⟩ (by rw [hnow]; simp)
  have iz : z ∈ D.fs := hin ⟨layoutP, z⟩ (by rw [hnow]; simp)
  have ze : (⟨#[]⟩ : ByteArray).size = 0 := rfl
  have zi : emptyT.size = 23 := rfl
  have zl : layoutT.size = 13 := rfl
  have l1 : lessB p0 indexP = true := by rw [less_eq]; decide
  have l2 : lessB p1 p0 = false := by rw [less_eq]; decide
  have l3 : lessB p1 indexP = true := by rw [less_eq]; decide
  have l4 : lessB indexP (cPath ds) = false := by rw [less_eq, cP_data]; rfl
  have l5 : lessB indexP journalP = true := by rw [less_eq]; decide
  have n1 : indexP ≠ p0 := by decide
  have n2 : journalP ≠ p0 := by decide
  have n3 : layoutP ≠ p0 := by decide
  have n4 : p0 ≠ p1 := by decide
  have n5 : indexP ≠ p1 := by decide
  have n6 : journalP ≠ p1 := by decide
  have n7 : layoutP ≠ p1 := by decide
  have n8 : p1 ≠ cPath ds := less_ne (cP_p1 ds)
  have n9 : p0 ≠ cPath ds := less_ne (cP_p0 ds)
  have n10 : indexP ≠ cPath ds := Ne.symm (less_ne (cP_index ds))
  have n11 : journalP ≠ cPath ds := Ne.symm (less_ne (cP_journal ds))
  have n12 : layoutP ≠ cPath ds := Ne.symm (less_ne (cP_layout ds))
  have n13 : journalP ≠ indexP := by decide
  have n14 : layoutP ≠ indexP := by decide
  have e0 : p0 ≠ ⟨#[]⟩ := by decide
  have e1 : p1 ≠ ⟨#[]⟩ := by decide
  have e2 : cPath ds ≠ ⟨#[]⟩ := fun e => by have := congrArg ByteArray.size e; rw [cP_size] at this; cases this
  have e3 : indexP ≠ ⟨#[]⟩ := by decide
  have e4 : journalP ≠ ⟨#[]⟩ := by decide
  have e5 : layoutP ≠ ⟨#[]⟩ := by decide
  have cl := cP_index ds
  have cl1 := cP_p1' ds
  obtain ⟨A, mA, ⟨a, ha, pA, inA⟩, hr⟩ := hr.step (fun X1 => ∃ a, a ∉ D.fs ∧ P4 D X1 [⟨p0, a⟩, ⟨indexP, y⟩, ⟨journalP, x⟩, ⟨layoutP, z⟩] a y x z (b, 0) (emptyT, 23) ∧ X1.fs = a :: D.fs) (fun k1 X1 hs => by
    obtain ⟨a, ha, h0, rfl⟩ := st_ap hs (by decide) (by omega) (by rw [hnow]; simp only [usedE, fx, fy, fz, ze, zi, zl]; omega) (by rw [hnow]; simp [findE, n1, n2, n3])
    have hy : y ≠ a := fun e => ha (e ▸ iy)
    have hx : x ≠ a := fun e => ha (e ▸ ix)
    have hz : z ≠ a := fun e => ha (e ▸ iz)
    refine ⟨h0, a, ha, ⟨wrote_whole hl, rfl, ?_, by simp [addD, setNd], by simp [addD, setNd, hy, fy], by simp [addD, setNd, hx, fx], by simp [addD, setNd, hz, fz]⟩, rfl⟩
    rw [addD_now, hnow]
    simp [applyE, withE, l1, n1, n2, n3, e0, e3, e4, e5])
  obtain ⟨Bs, mB, ⟨i, hi, pB, inB⟩, hr⟩ := hr.step (fun X1 => ∃ i, i ∉ A.fs ∧ P4 D X1 [⟨p0, a⟩, ⟨p1, i⟩, ⟨indexP, y⟩, ⟨journalP, x⟩, ⟨layoutP, z⟩] a i x z (b, 0) (X, 0) ∧ X1.fs = i :: A.fs) (fun k1 X1 hs => by
    obtain ⟨i, hi, h0, rfl⟩ := st_ap hs (by decide) (by rw [pA.left]; omega) (by rw [pA.now, pA.room]; simp only [usedE, pA.fa, pA.fi, pA.fx, pA.fz, ze, zi, zl]; omega) (by rw [pA.now]; simp [findE, n4, n5, n6, n7])
    have ia : a ≠ i := fun e => hi (by rw [inA]; simp [e])
    have hx : x ≠ i := fun e => hi (by rw [inA, ← e]; simp [ix])
    have hz : z ≠ i := fun e => hi (by rw [inA, ← e]; simp [iz])
    refine ⟨h0, i, hi, ⟨wrote_whole pA.left, pA.room, ?_, by simp [addD, setNd, ia, pA.fa], by simp [addD, setNd], by simp [addD, setNd, hx, pA.fx], by simp [addD, setNd, hz, pA.fz]⟩, rfl⟩
    rw [addD_now, pA.now]
    simp [applyE, withE, l2, l3, n4, n5, n6, n7, e0, e1, e3, e4, e5])
  have ia : a ≠ i := fun e => hi (by rw [inA]; simp [e])
  have hxa : x ≠ a := fun e => ha (e ▸ ix)
  have hza : z ≠ a := fun e => ha (e ▸ iz)
  have hxi : x ≠ i := fun e => hi (by rw [inA, ← e]; simp [ix])
  have hzi : z ≠ i := fun e => hi (by rw [inA, ← e]; simp [iz])
  obtain ⟨Cs, mC, pC, hr⟩ := hr.step (fun X1 => P4 D X1 [⟨p0, a⟩, ⟨p1, i⟩, ⟨indexP, y⟩, ⟨journalP, x⟩, ⟨layoutP, z⟩] a i x z (b, (b.size : Int)) (X, 0)) (fun k1 X1 hs => by
    obtain ⟨h0, rfl⟩ := st_sy (g := a) hs (by decide) (by rw [pB.left]; omega) (by rw [pB.now]; rfl)
    rw [pB.fa]
    exact ⟨h0, wrote_whole pB.left, pB.room, pB.now, by simp [wroteD, setNd], by simp [wroteD, setNd, Ne.symm ia, pB.fi], by simp [wroteD, setNd, hxa, pB.fx], by simp [wroteD, setNd, hza, pB.fz]⟩)
  obtain ⟨Es, mE, pE, hr⟩ := hr.step (fun X1 => P4 D X1 [⟨p0, a⟩, ⟨p1, i⟩, ⟨indexP, y⟩, ⟨journalP, x⟩, ⟨layoutP, z⟩] a i x z (b, (b.size : Int)) (X, (X.size : Int))) (fun k1 X1 hs => by
    obtain ⟨h0, rfl⟩ := st_sy (g := i) hs (by decide) (by rw [pC.left]; omega) (by rw [pC.now]; simp [findE, n4])
    rw [pC.fi]
    exact ⟨h0, wrote_whole pC.left, pC.room, pC.now, by simp [wroteD, setNd, ia, pC.fa], by simp [wroteD, setNd], by simp [wroteD, setNd, hxi, pC.fx], by simp [wroteD, setNd, hzi, pC.fz]⟩)
  obtain ⟨Fs, mF, pF, hr⟩ := hr.step (fun X1 => P4 D X1 [⟨p1, i⟩, ⟨cPath ds, a⟩, ⟨indexP, y⟩, ⟨journalP, x⟩, ⟨layoutP, z⟩] a i x z (b, (b.size : Int)) (X, (X.size : Int))) (fun k1 X1 hs => by
    obtain ⟨h0, rfl⟩ := st_rn (g := a) hs (by decide) (cP_path ds) n9 (by rw [pE.left]; omega) (by rw [pE.now]; rfl)
    refine ⟨h0, wrote_whole pE.left, pE.room, ?_, pE.fa, pE.fi, pE.fx, pE.fz⟩
    rw [pushD_now, pE.now]
    simp [applyE, withE, cl, cl1, n1, n2, n3, Ne.symm n4, n8, n10, n11, n12, e2])
  obtain ⟨Gs, mG, pG, hr⟩ := hr.step (fun X1 => P4 D X1 [⟨cPath ds, a⟩, ⟨indexP, i⟩, ⟨journalP, x⟩, ⟨layoutP, z⟩] a i x z (b, (b.size : Int)) (X, (X.size : Int))) (fun k1 X1 hs => by
    obtain ⟨h0, rfl⟩ := st_rn (g := i) hs (by decide) (by decide) (by decide) (by rw [pF.left]; omega) (by rw [pF.now]; rfl)
    refine ⟨h0, wrote_whole pF.left, pF.room, ?_, pF.fa, pF.fi, pF.fx, pF.fz⟩
    have l6 : lessB indexP indexP = false := by rw [less_eq]; decide
    rw [pushD_now, pF.now]
    simp [applyE, withE, l4, l5, l6, n5, n6, n7, Ne.symm n8, Ne.symm n10, n13, n14, e3])
  obtain ⟨Hs, mH, pH, hr⟩ := hr.step (fun X1 => P4 D X1 [⟨cPath ds, a⟩, ⟨indexP, i⟩, ⟨journalP, x⟩, ⟨layoutP, z⟩] a i x z (b, (b.size : Int)) (X, (X.size : Int)) ∧ X1.R.safe = X1.R.now ∧ X1.R.chg = []) (fun k1 X1 hs => by
    obtain ⟨h0, rfl⟩ := st_sd hs (by rw [pG.left]; omega)
    exact ⟨h0, ⟨wrote_whole pG.left, pG.room, pG.now, pG.fa, pG.fi, pG.fx, pG.fz⟩, rfl, rfl⟩)
  obtain ⟨rfl, _, rfl⟩ := hr
  rcases hor with ⟨_, rfl⟩ | ⟨h, _⟩
  · obtain ⟨pH, s1, s2⟩ := pH
    exact ⟨rfl, ⟨a, i, x, z, pH.now, pH.fa, pH.fi, pH.fx, pH.fz⟩, s1, s2, pH.left, pH.room⟩
  · exact absurd rfl h
end Go.Proofs.YteicpbcddjjceaaGreatDoor

/-
  PROVED HERE: what begun of the statement answers.
-/
namespace Go.Proofs.YteicpbcddjjceaaGreatDoor
open Go.RowKit
/-- The digest of 'abc', as the statement tells it. -/
def abcT : ByteArray := ⟨#[98, 97, 55, 56, 49, 54, 98, 102, 56, 102, 48, 49, 99, 102, 101, 97, 52, 49, 52, 49, 52, 48, 100, 101, 53, 100, 97, 101, 50, 50, 50, 51, 98, 48, 48, 51, 54, 49, 97, 51, 57, 54, 49, 55, 55, 97, 57, 99, 98, 52, 49, 48, 102, 102, 54, 49, 102, 50, 48, 48, 49, 53, 97, 100]⟩
theorem abc_known : dtx (dOfB ⟨#[97, 98, 99]⟩) = abcT := by kernel_rfl
theorem new_er (r : Int) (h0 : 0 ≤ r) (h1 : r ≤ 9223372036854775807) (fd : Nat → ByteArray × Int) : Er ⟨⟨r, [], [], [], 0, -1⟩, [], fd⟩ ∧ DFit ⟨⟨r, [], [], [], 0, -1⟩, [], fd⟩ 6 0 36 := by
  have hinv : Inv ⟨r, [], [], [], 0, -1⟩ := ⟨rfl, fun e he => by cases he⟩
  have hr : Rise [] := List.Pairwise.nil
  refine ⟨⟨⟨fun m => .inl ?_, fun m e he => ?_, fun f hf => (by cases hf), hr, hinv⟩, rfl⟩, ⟨Nat.zero_le _, Int.le_refl _, Int.le_refl _, Int.le_refl _, (by show (-1 : Int) ≤ _; omega), h0, h1, fun f hf => (by cases hf), fun c hc => (by cases hc), hinv, fun e he => (by cases he), fun e he => (by cases he), fun c hc => (by cases hc), hr⟩⟩
  · show findE layoutP (goE [] (List.take m [])) = none
    rw [List.take_nil]
    rfl
  · have he : e ∈ goE [] (List.take m []) := he
    rw [List.take_nil] at he
    cases he
theorem bNew_any (r : Int) (w : World) (hg : Gl w) (h0 : 0 ≤ r) (h1 : r ≤ 9223372036854775807) :
    Calls Tryz.prog 5 #[.int .i64 r] w fun e w' => ∃ d so, e = .returned (.pointer (some ⟨d, 0, none⟩)) ∧ Below w.heap.size w w' ∧ w.heap.size ≤ d ∧ DkW w' d so ∧ (∀ k, so.own k → w.heap.size ≤ k) ∧ Er so.ds ∧ DFit so.ds 6 0 36 ∧ so.R.left = -1 ∧ so.R.room = r := by
  refine (wNewDisk r (fun g w' => ∃ so : PSt, so.b = g ∧ Below w.heap.size w w' ∧ so.In w' ∧ (∀ k, so.own k → w.heap.size ≤ k) ∧ so.ds = ⟨⟨r, [], [], [], 0, -1⟩, [], so.fd⟩) w ((pnew_any r w).mono ?_)).mono ?_
  · rintro e w' ⟨rfl, hb, hpd, hsz⟩
    rw [if_neg (by omega)] at hpd
    refine ⟨_, rfl, ⟨w.heap.size + 1 + 1, w.heap.size, w.heap.size + 1, .slice none 0 0, ⟨r, [], [], [], 0, -1⟩, [], fun _ => (⟨#[]⟩, 0), fun _ => .slice none 0 0⟩, rfl, hb, ⟨hpd, fun f hf => (by cases hf), fun f hf => (by cases hf), fun e he => (by cases he), fun e he => (by cases he), fun c hc => (by cases hc)⟩, fun k hk => ?_, rfl⟩
    rcases hk with e | e | e | e | e | ⟨f, hf, e⟩
    · have e : k = w.heap.size + 1 + 1 := e; omega
    · have e : k = w.heap.size := e; omega
    · have e : k = w.heap.size + 1 := e; omega
    · cases e
    · cases e
    · cases hf
  · rintro e w' ⟨g, w1, rfl, rfl, so, rfl, hb, hin, hown, hds⟩
    have hba := hb.alloc hb.size (.cells #[.pointer (some ⟨so.b, 0, none⟩)] 49)
    obtain ⟨e1, e2⟩ := new_er r h0 h1 so.fd
    rw [← hds] at e1 e2
    exact ⟨w1.heap.size, so, rfl, hba, hb.size, ⟨hin.later ((Below.refl _ _).alloc (Nat.le_refl _) _), heap_alloc_new _ _, hg.later hba, fun k hk hG => by have := hown k hk; have := hg.lt hG; omega⟩, hown, e1, e2, congrArg (fun D : DS => D.R.left) hds, congrArg (fun D : DS => D.R.room) hds⟩
/-- A frame that tells from where on it writes, as one of all that lay there. -/
theorem FB.below {w0 w w' : World} (h : FB w0.heap.size w w') (hb : Below w0.heap.size w0 w) : Below w0.heap.size w0 w' := hb.trans ⟨h.os, h.tape, h.output, h.size, fun k hk => h.low k hk (Nat.lt_of_lt_of_le hk hb.size)⟩
theorem own_three {w : World} {B : Nat} {v : Value} {x y z : Value} (h : w.ownsRow B 89 3 v 1 [x, y, z]) : ∃ g c, v = .slice (some ⟨g, 0, none⟩) 1 c ∧ B ≤ g ∧ w.cell? ⟨g, 0, none⟩ = some x ∧ w.cell? ⟨g, 1, none⟩ = some y ∧ w.cell? ⟨g, 2, none⟩ = some z := by
  obtain ⟨hlen, h2⟩ := h
  rcases h2 with ⟨_, h2⟩ | ⟨g, cap, cur, rfl, hB, hg, _, _, hsz, htk⟩
  · cases h2
  · have key : ∀ j, j < 3 → cur[j]? = ([x, y, z] : List Value)[j]? := by
      intro j hj
      rw [← htk, List.getElem?_take, if_pos (by omega)]
      simp
    refine ⟨g, cap, rfl, hB, ?_, ?_, ?_⟩
    · rw [cell_of_row _ _ 0 _ _ _ hg, key 0 (by omega)]; rfl
    · rw [cell_of_row _ _ 1 _ _ _ hg, key 1 (by omega)]; rfl
    · rw [cell_of_row _ _ 2 _ _ _ hg, key 2 (by omega)]; rfl
theorem has_put (ds : List Nat) : Maps.has (dPut (.map []) ds) (dKey ds) = true := by
  rw [dPut_one]
  unfold dKey
  simp [Maps.has, Lit.sameKey]
theorem four_con {D : DS} {ds : List Nat} {b X : ByteArray} (h : FourL ds b X D.fd D.R.now) (hd : ds = dOfB b) : conR D ds = some b ∧ rdD D (cPath ds) = some b := by
  obtain ⟨a, i, x, z, hn, fa, _⟩ := h
  have h1 : rdD D (cPath ds) = some b := by
    unfold rdD
    rw [if_neg (by rw [cP_path]; decide), hn]
    simp [findE, fa]
  refine ⟨?_, h1⟩
  unfold conR
  rw [h1]
  simp only [Option.filter]
  rw [if_pos]
  simp [hd, dOfB]
theorem three_con {D : DS} {ds : List Nat} (h : ThreeL D.fd D.R.now) : rdD D (cPath ds) = none ∧ conR D ds = none := by
  obtain ⟨y, x, z, hn, _⟩ := h
  have n1 : indexP ≠ cPath ds := Ne.symm (less_ne (cP_index ds))
  have n2 : journalP ≠ cPath ds := Ne.symm (less_ne (cP_journal ds))
  have n3 : layoutP ≠ cPath ds := Ne.symm (less_ne (cP_layout ds))
  have h1 : rdD D (cPath ds) = none := by
    unfold rdD
    rw [if_neg (by rw [cP_path]; decide), hn]
    simp [findE, n1, n2, n3]
  exact ⟨h1, by unfold conR; rw [h1]; rfl⟩
set_option maxHeartbeats 4000000 in
set_option maxRecDepth 100000 in
theorem kWithin (w : World) (hg : Gl w) :
    Calls Tryz.prog 13 #[.int .i64 1099511627776] w fun e w' => ∃ d xb, e = .returned (.tuple #[.pointer (some ⟨d, 0, none⟩), .pointer (some ⟨xb, 0, none⟩), .bool false]) ∧ Below w.heap.size w w' := by
  have HND := hide (bNew_any 1099511627776 w hg (by decide) (by decide))
  have HGL := hide hg
  clear hg
  go_enter Tryz.func13, Tryz.ntmps13
  go_wp2_with fail
  refine (HND.out).mono ?_
  rintro _ w1 ⟨d, so, rfl, hb1, hld, hdk, hown, her, hfit, hleft, hroom⟩
  dsimp only
  have hnl : so.R.now.length ≤ 6 := hfit.nowLen
  have HOP := hide (bOpen_any so w1 d hdk.inn hdk.gl hdk.low hfit (show Bud _ _ _ from ⟨by omega, by omega, by omega⟩) her.paths her.case hdk.bd)
  have HB1 := hide hb1
  have HOW := hide hown
  have HER := hide her
  have HFI := hide hfit
  have HLE := hide hleft
  have HRR := hide (show so.ds.R.room = 1099511627776 from hroom)
  have hN2 : w.heap.size ≤ w1.heap.size := hb1.size
  clear hb1 hdk hown her hfit hleft hroom hnl HND
  go_wp2_with fail
  refine (HOP.out).mono ?_
  rintro _ w2 ⟨k, s3, sv, rfl, hg3, hop3, hok, hno⟩
  dsimp only
  obtain ⟨rfl, kp3, ea3, r3⟩ := open_pure HER.out (by rw [HRR.out]; decide) hop3
  have fit3 := open_fit HER.out (by rw [HRR.out]; decide) HFI.out hop3
  obtain ⟨xb, sb, cb, tb, rfl, hbst, hlsb, hlxb, hst⟩ := hok rfl
  have h3 := r3 HLE.out
  obtain ⟨rd3, con3⟩ := three_con (ds := dOfB ⟨#[97, 98, 99]⟩) h3.1
  have hGx : ¬ isG xb := fun e => by have := HGL.out.lt e; omega
  have hroom3 : (1000000 : Int) ≤ s3.ds.R.room := by rw [kp3.1, HRR.out]; decide
  have HB2 := hide (HB1.out.trans (hg3.low (N := w.heap.size) HOW.out hN2))
  have HNB := hide (show NB w.heap.size s3 sb cb from ⟨hg3.ownN HOW.out hN2, by omega, by omega⟩)
  have HPB := hide (bPub_new w.heap.size xb sb s3 cb tb 0 0 (.map []) ⟨#[108, 97, 116, 101, 115, 116]⟩ ⟨#[97, 98, 99]⟩ w2 hbst hGx hst (by decide +kernel) con3 (by decide) (by decide) (by decide) (fun t ht => by rw [rd3] at ht; cases ht) (by decide) fit3 (show Bud _ _ _ from ⟨by omega, by omega, by omega⟩) HNB.out (by omega))
  have H3 := hide h3
  have HF3 := hide fit3
  have HL3 := hide (kp3.2 HLE.out)
  have HR3 := hide hroom3
  clear hop3 kp3 ea3 r3 fit3 hok hno hst hbst hg3 HOP h3 rd3 con3 hroom3
  go_wp2_with fail
  refine (HPB.out).mono ?_
  rintro _ w4 ⟨k, s4, rfl, hfb, hwr, hno4, hbst4, hok4, -⟩
  dsimp only
  obtain ⟨rfl, f4, hs4, hc4, hl4, hr4⟩ := pub_pure (dOfB ⟨#[97, 98, 99]⟩) _ _ H3.out HF3.out.inow HL3.out HR3.out (by decide) (oneX_size _ _ _ (by decide) (by decide)) hwr
  obtain ⟨t2, n2, hst4⟩ := hok4 rfl
  obtain ⟨con4, rd4⟩ := four_con (D := s4.ds) f4 rfl
  have hrda : rd abcT = dOfB ⟨#[97, 98, 99]⟩ := by rw [← abc_known]; exact rd_dtx _ (dOfB_len _) (dOfB_lt _)
  have hdga : isDigB abcT = true := by rw [← abc_known]; exact dtx_dig _ (dOfB_lt _)
  have HGT := hide (bGet_there w.heap.size xb sb s4 cb t2 1 n2 _ _ abcT ⟨#[97, 98, 99]⟩ w4 hbst4 hGx hno4.1 (by omega) hst4 (unitC_one _) hdga (by rw [hrda]; exact has_put _) (by rw [hrda]; exact con4) (fun t ht => by rw [hrda, rd4] at ht; cases ht; decide))
  have HB4 := hide (FB.below (w0 := w) hfb HB2.out)
  have HS4 := hide hst4
  have HK := hide abc_known
  have hdl := dOfB_len ⟨#[97, 98, 99]⟩
  have hdlt := dOfB_lt ⟨#[97, 98, 99]⟩
  rw [if_pos rfl, abc_known]
  generalize hDS : dOfB ⟨#[97, 98, 99]⟩ = ds at *
  clear hfb hwr hno4 hok4 f4 hs4 hc4 hl4 hr4 hst4 hbst4 con4 rd4 hrda hdga HPB H3 HF3
  unfold abcT at HGT ⊢
  go_wp2_with fail
  refine (HGT.out).mono ?_
  rintro _ w5 ⟨rfl, hfb5, hbst5, hst5⟩
  dsimp only
  have HTG := hide (bTags_any w.heap.size xb sb s4 cb t2 1 n2 _ _ [⟨⟨#[108, 97, 116, 101, 115, 116]⟩, dtx ds, 3⟩] w5 hbst5 hGx (by omega) hst5 (tgs_one _ ds _ hdl hdlt) (by simp))
  have HB5 := hide (FB.below (w0 := w) hfb5 HB4.out)
  clear hfb5 hbst5 hst5 HGT HB4 HS4
  go_wp2_with fail
  refine (HTG.out).mono ?_
  rintro _ w6 ⟨v6, rfl, hrow6, hfb6, -, -⟩
  dsimp only
  have htold : (([⟨⟨#[108, 97, 116, 101, 115, 116]⟩, dtx ds, 3⟩] : List Tg).map Tg.told).flatMap Tg.cells = [.string ⟨#[108, 97, 116, 101, 115, 116]⟩, .string abcT, .int .i64 3] := by
    have : (⟨(Sha.textTo (rd (dtx ds)) 32).toArray⟩ : ByteArray) = abcT := by rw [rd_dtx ds hdl hdlt]; exact HK.out
    simp only [List.map_cons, List.map_nil, Tg.told, List.flatMap_cons, List.flatMap_nil, List.append_nil, Tg.cells, this]
  rw [htold] at hrow6
  obtain ⟨g, c, rfl, -, r0, r1, r2⟩ := own_three hrow6
  have HB6 := hide (FB.below (w0 := w) hfb6 HB5.out)
  unfold abcT at r1
  clear hfb6 hrow6 htold HTG HB5
  go_wp2_with fail
  refine bodyPost_ret (results_tmp3 rfl _ _ _) rfl ?_
  exact ⟨⟨d, xb, rfl⟩, HB6.out⟩
set_option maxHeartbeats 1000000 in
set_option maxRecDepth 100000 in
theorem begun_any (w : World) (hg : Gl w) :
    Calls Tryz.prog 4 #[] w fun e w' => ∃ d xb, e = .returned (.tuple #[.pointer (some ⟨d, 0, none⟩), .pointer (some ⟨xb, 0, none⟩)]) ∧ Below w.heap.size w w' := by
  have HW := hide (kWithin w hg)
  clear hg
  go_enter Tryz.func4, Tryz.ntmps4
  go_wp2_with fail
  refine (HW.out).mono ?_
  rintro _ w1 ⟨d, xb, rfl, hb⟩
  dsimp only
  have HB := hide hb
  clear hb HW
  go_wp2_with fail
  refine bodyPost_ret (results_tmp2 rfl _ _ _) rfl ?_
  exact ⟨d, xb, rfl, HB.out⟩
end Go.Proofs.YteicpbcddjjceaaGreatDoor

/-
  PROVED HERE: what held and settled of the statement answer.
-/
namespace Go.Proofs.YteicpbcddjjceaaGreatDoor
open Go.RowKit
theorem bList_any (s : PSt) (d : Nat) (w : World) (h : DkW w d s) (hl : s.R.now.length ≤ 100000000) :
    Calls Tryz.prog 27 #[.pointer (some ⟨d, 0, none⟩)] w fun e w' => ∃ v, e = .returned (.tuple #[v, .int .i64 0]) ∧ w'.ownsRow w.heap.size 9 1 v s.R.now.length (pathVs s.R.now) ∧ Below w.heap.size w w' :=
  wList d s.b (fun v w' => w'.ownsRow w.heap.size 9 1 v s.R.now.length (pathVs s.R.now) ∧ Below w.heap.size w w') w h.bd (plist_any s.b s.R s.mb s.lb s.cv w h.inn.is hl)
theorem bRead_any (s : PSt) (d f : Nat) (p : ByteArray) (w : World) (h : DkW w d s) (hp : isPathB p = true) (hf : findE p s.R.now = some f) :
    Calls Tryz.prog 28 #[.pointer (some ⟨d, 0, none⟩), .string p] w fun e w' => e = .returned (.tuple #[.string (s.fd f).1, .int .i64 0]) ∧ PGo s s w w' := by
  have hps : p.size ≤ 9223372036854775807 := by
    simp only [isPathB, Bool.and_eq_true, decide_eq_true_eq] at hp
    omega
  refine (wRead s d p w 0 (fun s1 => s1 = s) (s.fd f).1 h.bd h.gl.err ((pdRead s p w h.inn hps).mono ?_)).mono ?_
  · rintro e w' ⟨v, t, rfl, _, _, h3⟩
    obtain ⟨h4, rfl⟩ := h3 f hp hf
    exact ⟨v, rfl, h4⟩
  · rintro e w' ⟨rfl, _, h3⟩
    obtain ⟨s1, hg, rfl⟩ := h3 rfl
    exact ⟨rfl, hg⟩
/-- What held tells of the files. -/
def hOne (fd : Nat → ByteArray × Int) (out : ByteArray) (e : DE) : ByteArray := out ++ e.path ++ ⟨#[32]⟩ ++ ⟨(Lib.itoa ((fd e.blk).1.size : Int)).toArray⟩ ++ ⟨#[32]⟩ ++ (fd e.blk).1 ++ ⟨#[59]⟩
def hT (fd : Nat → ByteArray × Int) (l : List DE) : ByteArray := l.foldl (hOne fd) ⟨#[]⟩
theorem hT_snoc (fd : Nat → ByteArray × Int) (l : List DE) (e : DE) : hT fd (l ++ [e]) = hOne fd (hT fd l) e := by
  unfold hT
  rw [List.foldl_append]
  rfl
theorem itoa_len3 (z : Nat) (hz : z ≤ 300) : (Lib.itoa (z : Int)).length ≤ 21 := Lib.itoa_length_le (z : Int) (by omega) (by omega)
theorem ba_size (a b : ByteArray) : (a ++ b).size = a.size + b.size := ByteArray.size_append
theorem hOne_size (fd : Nat → ByteArray × Int) (out : ByteArray) (e : DE) (hp : e.path.size ≤ 80) (hz : (fd e.blk).1.size ≤ 300) : (hOne fd out e).size ≤ out.size + 500 := by
  unfold hOne
  simp only [ba_size]
  have h1 := itoa_len3 _ hz
  have h2 : (⟨(Lib.itoa ((fd e.blk).1.size : Int)).toArray⟩ : ByteArray).size = (Lib.itoa ((fd e.blk).1.size : Int)).length := bytes_size _
  have h3 : (⟨#[32]⟩ : ByteArray).size = 1 := rfl
  have h4 : (⟨#[59]⟩ : ByteArray).size = 1 := rfl
  omega
theorem row_go {w w' : World} {B n : Nat} {v : Value} {xs : List Value} {s s' : PSt} (h : w.ownsRow B 9 1 v n xs) (hi : s.In w) (hg : PGo s s' w w') : w'.ownsRow B 9 1 v n xs := own_same h (fun k hk _ => by
  obtain ⟨c, hc⟩ := own_obj h k hk
  exact (hg.keeps hi hc (by decide) (by decide) (by decide) (by decide)).trans hc.symm)
set_option maxHeartbeats 4000000 in
set_option maxRecDepth 100000 in
theorem held_any (s : PSt) (d : Nat) (w : World) (h : DkW w d s) (hl : s.R.now.length ≤ 10) (hp : ∀ e ∈ s.R.now, isPathB e.path = true) (hr : Rise s.R.now) (hz : ∀ e ∈ s.R.now, (s.fd e.blk).1.size ≤ 300) :
    Calls Tryz.prog 62 #[.pointer (some ⟨d, 0, none⟩)] w fun e w' => e = .returned (.string (hT s.fd s.R.now)) ∧ PGo s s w w' := by
  have HLS := hide (bList_any s d w h (by omega))
  have H := hide h
  have HP := hide hp
  have HR := hide hr
  have HZ := hide hz
  obtain ⟨n, hn⟩ : ∃ n, n = s.R.now.length := ⟨_, rfl⟩
  rw [← hn] at hl
  have HN := hide hn
  clear h hp hr hz hn
  go_enter Tryz.func62, Tryz.ntmps62
  go_wp2_with fail
  refine (HLS.out).mono ?_
  rintro _ w1 ⟨v, rfl, hrow, hb1⟩
  dsimp only
  obtain ⟨so, sc, rfl⟩ := own_sl hrow
  rw [← HN.out]
  rw [← HN.out] at hrow
  have HROW := hide hrow
  have HB1 := hide hb1
  clear hrow hb1 HLS
  go_wp2_with fail
  go_loopw [5, 6] (fun ov iv wr => ∃ (j : Nat), iv = .int .i64 ((j : Nat) : Int) ∧ j ≤ n ∧ ov = .string (hT s.fd (s.R.now.take j)) ∧ (hT s.fd (s.R.now.take j)).size ≤ j * 500 ∧ PGo s s w wr ∧ wr.ownsRow w.heap.size 9 1 (.slice so n sc) n (pathVs s.R.now)) (fun _ iv _ => n - (intOf iv).toNat)
  case atStart => exact ⟨0, rfl, Nat.zero_le _, rfl, Nat.le_refl _, PGo.refl H.out.inn HB1.out, HROW.out⟩
  case round =>
    obtain ⟨j, rfl, hj, rfl, hsz, hgo, hrw⟩ := hrel
    have HGO := hide hgo
    have HRW := hide hrw
    by_cases hlt : j < n
    · have hjl : j < s.R.now.length := by rw [← HN.out]; exact hlt
      have he : s.R.now.getD j DE0 ∈ s.R.now := de_mem hjl
      have htk : s.R.now.take (j + 1) = s.R.now.take j ++ [s.R.now.getD j DE0] := by
        rw [List.take_add_one, List.getElem?_eq_getElem hjl, List.getD_eq_getElem?_getD, List.getElem?_eq_getElem hjl]
        rfl
      have hrw2 : wr.ownsRow w.heap.size 9 1 (.slice so n sc) s.R.now.length (pathVs s.R.now) := by rw [← HN.out]; exact hrw
      obtain ⟨o2, cap2, e2, hcells⟩ := own_str hrw2
      obtain ⟨g, rfl, hc⟩ := hcells j hjl
      injection e2 with e2 e3 e4
      subst e2
      have hpp := HP.out _ he
      have hp80 : (s.R.now.getD j DE0).path.size ≤ 80 := by
        simp only [isPathB, Bool.and_eq_true, decide_eq_true_eq] at hpp
        omega
      have hz3 := HZ.out _ he
      have hdk := H.out.go hgo
      have HRD := hide (bRead_any s d _ _ wr hdk hpp (find_mem HR.out _ he))
      have hone := hOne_size s.fd (hT s.fd (s.R.now.take j)) (s.R.now.getD j DE0) hp80 hz3
      have HNX := hide (hT_snoc s.fd (s.R.now.take j) (s.R.now.getD j DE0))
      rw [← htk] at HNX
      have HONE := hide hone
      unfold hOne at HNX
      generalize hT s.fd (s.R.now.take j) = O at *
      generalize hE : s.R.now.getD j DE0 = E at *
      have d1 : decide (((j : Nat) : Int) < ((n : Nat) : Int)) = true := decide_eq_true (by omega)
      clear hgo hrw hrw2 he htk hjl hpp hdk hone e3 e4 hcells
      go_wp2_with fail
      refine (HRD.out).mono ?_
      rintro _ w2 ⟨rfl, hg2⟩
      dsimp only
      have hin1 := (H.out.go HGO.out).inn
      have hrw3 := row_go HRW.out hin1 hg2
      have hc2 : w2.cell? ⟨g, j, none⟩ = some (.string E.path) := by
        have hrw4 : w2.ownsRow w.heap.size 9 1 (.slice (some ⟨g, 0, none⟩) n sc) s.R.now.length (pathVs s.R.now) := by rw [← HN.out]; exact hrw3
        obtain ⟨o3, cap3, e5, hcells3⟩ := own_str hrw4
        obtain ⟨g3, rfl, hc3⟩ := hcells3 j (by rw [← HN.out]; exact hlt)
        injection e5 with e5 _ _
        injection e5 with e5
        injection e5 with e5
        subst e5
        rw [hE] at hc3
        exact hc3
      have HDC := hide (fun W => decimalK_any (s.fd E.blk).1.size hz3 W)
      have hti := itoa_len3 _ hz3
      have htz : (⟨(Lib.itoa ((s.fd E.blk).1.size : Int)).toArray⟩ : ByteArray).size ≤ 21 := by rw [bytes_size]; exact hti
      have HGO2 := hide (HGO.out.trans hg2)
      have HRW3 := hide hrw3
      generalize (s.fd E.blk).1 = Bt at *
      generalize (⟨(Lib.itoa (Bt.size : Int)).toArray⟩ : ByteArray) = Tx at *
      have q1 : ¬ 9223372036854775807 < O.size + E.path.size := by omega
      have q2 : ¬ 9223372036854775807 < O.size + E.path.size + 1 := by omega
      have q3 : ¬ 9223372036854775807 < O.size + E.path.size + 1 + Tx.size := by omega
      have q4 : ¬ 9223372036854775807 < O.size + E.path.size + 1 + Tx.size + 1 := by omega
      have q5 : ¬ 9223372036854775807 < O.size + E.path.size + 1 + Tx.size + 1 + Bt.size := by omega
      have q6 : ¬ 9223372036854775807 < O.size + E.path.size + 1 + Tx.size + 1 + Bt.size + 1 := by omega
      clear hg2 hin1 hrw3 hc hti HRD HRW
      have HDC2 := hide (HDC.out w2.drew)
      have hgl : g < w2.heap.size := World.block_lt_of_cell? _ _ hc2
      have hS0 : w2.drew.cell? ⟨g, j, none⟩ = some (.string E.path) := cell_later (Below.refl w2.heap.size w2).drew hc2
      go_wp2_with fail
      go_region_held3 (fun w' => w'.cell? ⟨g, j, none⟩ = some (.string E.path)) (first | exact hS0 | exact hS3 | go_keep) ((go_at_call 63; refine (HDC2.out).mono ?_; rintro _ w3 ⟨rfl, hb3⟩; have hb4 : Below w2.heap.size w2 w3 := ((Below.refl w2.heap.size w2).drew).trans hb3; have hS3 := cell_later hb4 hc2))
      have HB4 := hide hb4
      clear hb3 hb4 hS0 hS3 hc2 HDC HDC2
      go_wp2_with fail
      have hr9 := ownsRow_later HRW3.out HB4.out
      refine ⟨⟨j + 1, by simp, by omega, by rw [HNX.out], ?_, HGO2.out.trans (PGo.refl HGO2.out.inn HB4.out), hr9⟩, by simp only [intOf]; omega⟩
      rw [HNX.out]
      simp only [ba_size]
      have h3 : (⟨#[32]⟩ : ByteArray).size = 1 := rfl
      have h4 : (⟨#[59]⟩ : ByteArray).size = 1 := rfl
      omega
    · have hjn : j = n := by omega
      subst hjn
      have d1 : decide (((j : Nat) : Int) < ((j : Nat) : Int)) = false := decide_eq_false (by omega)
      have ht : s.R.now.take j = s.R.now := List.take_of_length_le (by rw [← HN.out]; exact Nat.le_refl _)
      rw [ht]
      clear hgo hrw hsz
      go_wp2_with fail
      go_ret
      exact ⟨rfl, HGO.out⟩
/-- A crash leaves a disk whose files are synced as it was. -/
theorem crD_rest {D : DS} (h3 : D.R.safe = D.R.now) (hc : D.R.chg = []) (hk : ∀ e ∈ D.R.now, ∀ k, cutK (D.fd e.blk) k = D.fd e.blk) (hl : D.R.left = -1) (n : Nat) (ks : List Int) : crD D n ks = D := by
  have h1 : goE D.R.safe (D.R.chg.take n) = D.R.now := by rw [hc, List.take_nil, h3]; rfl
  unfold crD
  rw [h1, crash_same _ _ _ hk]
  obtain ⟨⟨room, now, safe, chg, count, left⟩, fs, fd⟩ := D
  simp only at h3 hc hl
  subst h3 hc hl
  rfl
set_option maxHeartbeats 1000000 in
set_option maxRecDepth 100000 in
theorem settled_any (N : Nat) (s : PSt) (d : Nat) (paths : Int) (kv : Value) (ks : List Int) (w : World) {L C B : Nat} (h : DkW w d s) (hown : ∀ k, s.own k → N ≤ k) (hNw : N ≤ w.heap.size) (hka : KAt (fun k => N ≤ k) w kv ks) (he : Ea s.ds) (h3 : Rest3 s.ds) (hl : s.R.left = -1) (hf : DFit s.ds L C B) (hL : L ≤ 1000000) (hB : B ≤ 1000000) :
    Calls Tryz.prog 33 #[.pointer (some ⟨d, 0, none⟩), .int .i64 paths, kv] w fun e w' => e = .returned (.bool true) ∧ ∃ s', PGo s s' w w' ∧ s'.ds = s.ds := by
  obtain ⟨y, x, z, hnow, fx, fy, fz⟩ := h3.1
  have hnow : s.R.now = [⟨indexP, y⟩, ⟨journalP, x⟩, ⟨layoutP, z⟩] := hnow
  have fx : s.fd x = (⟨#[]⟩, 0) := fx
  have fy : s.fd y = (emptyT, 23) := fy
  have fz : s.fd z = (layoutT, 13) := fz
  have hlen : s.R.now.length ≤ 10 := by rw [hnow]; simp
  have hp : ∀ e ∈ s.R.now, isPathB e.path = true := fun e hm => six_path (by rw [hnow] at hm; simp only [List.mem_cons, List.not_mem_nil, or_false] at hm; rcases hm with rfl | rfl | rfl <;> simp [six])
  have hr : Rise s.R.now := by rw [hnow]; exact three_rise _ _ _
  have hz : ∀ e ∈ s.R.now, (s.fd e.blk).1.size ≤ 300 := fun e hm => by
    rw [hnow] at hm
    simp only [List.mem_cons, List.not_mem_nil, or_false] at hm
    rcases hm with rfl | rfl | rfl
    · show (s.fd y).1.size ≤ 300; rw [fy]; decide
    · show (s.fd x).1.size ≤ 300; rw [fx]; decide
    · show (s.fd z).1.size ≤ 300; rw [fz]; decide
  have hcut : ∀ e ∈ s.R.now, ∀ k, cutK (s.fd e.blk) k = s.fd e.blk := fun e hm k => by
    rw [hnow] at hm
    simp only [List.mem_cons, List.not_mem_nil, or_false] at hm
    rcases hm with rfl | rfl | rfl
    · show cutK (s.fd y) k = s.fd y; rw [fy]; exact cut_whole emptyT k
    · show cutK (s.fd x) k = s.fd x; rw [fx]; exact cut_whole ⟨#[]⟩ k
    · show cutK (s.fd z) k = s.fd z; rw [fz]; exact cut_whole layoutT k
  have HH1 := hide (held_any s d w h hlen hp hr hz)
  have HCR := hide (fun W (hg : PGo s s w W) => bCrash_any s d paths kv ks W (h.go hg) ((KAt.low hka (hg.low hown hNw)).mono hown) he hf hL hB)
  have HH2 := hide (fun W (s' : PSt) (hg : PGo s s' w W) (e : s'.ds = s.ds) => held_any s' d W (h.go hg) (by rw [show s'.R = s.R from congrArg DS.R e]; exact hlen) (by rw [show s'.R = s.R from congrArg DS.R e]; exact hp) (by rw [show s'.R = s.R from congrArg DS.R e]; exact hr) (by rw [show s'.R = s.R from congrArg DS.R e, show s'.fd = s.fd from congrArg DS.fd e]; exact hz))
  have HCD := hide (fun n => crD_rest (D := s.ds) h3.2.1 h3.2.2 hcut hl n ks)
  clear h hown hNw hka he h3 hl hf hlen hp hr hz hcut hnow fx fy fz
  go_enter Tryz.func33, Tryz.ntmps33
  go_wp2_with fail
  refine (HH1.out).mono ?_
  rintro _ w1 ⟨rfl, hg1⟩
  dsimp only
  have HG1 := hide hg1
  clear hg1 HH1
  go_wp2_with fail
  refine (HCR.out _ HG1.out).mono ?_
  rintro _ w2 ⟨rfl, s', hg2, hd2⟩
  dsimp only
  have hd2 : s'.ds = s.ds := hd2.trans (HCD.out _)
  have HG2 := hide (HG1.out.trans hg2)
  have HD2 := hide hd2
  clear hg2 hd2 HCR
  go_wp2_with fail
  refine (HH2.out _ s' HG2.out HD2.out).mono ?_
  rintro _ w3 ⟨rfl, hg3⟩
  dsimp only
  rw [show s'.R = s.R from congrArg DS.R HD2.out, show s'.fd = s.fd from congrArg DS.fd HD2.out]
  have HG3 := hide (HG2.out.trans hg3)
  clear hg3 HH2
  generalize hT s.fd s.R.now = Tx
  go_wp2_with fail
  go_ret
  exact ⟨rfl, s', HG3.out, HD2.out⟩
end Go.Proofs.YteicpbcddjjceaaGreatDoor

/-
  PROVED HERE: what shown answers of an empty store, and afresh.
-/
namespace Go.Proofs.YteicpbcddjjceaaGreatDoor
open Go.RowKit
theorem row_nil {w : World} {B : Nat} {e : TypeId} {size : Nat} {v : Value} (h : w.ownsRow B e size v 0 []) : ∃ o c, v = .slice o 0 c := own_sl h
set_option maxHeartbeats 2000000 in
set_option maxRecDepth 100000 in
theorem shown_none (N xb sb : Nat) (s : PSt) (cb tb nc nt : Nat) (w : World) (hx : BSt w xb sb) (hG : ¬ isG xb) (hNx : N ≤ xb) (h : StW w sb s cb tb nc nt (.map []) (.map [])) :
    Calls Tryz.prog 34 #[.pointer (some ⟨xb, 0, none⟩)] w fun e w' => e = .returned (.tuple #[.string ⟨#[]⟩, .bool true]) ∧ FB N w w' ∧ BSt w' xb sb ∧ StW w' sb s cb tb nc nt (.map []) (.map []) := by
  have HBB := hide (bBlobs_none N xb sb s cb tb nc nt (.map []) w hx hG hNx h)
  have HTT := hide (fun W (hx : BSt W xb sb) (h : StW W sb s cb tb nc nt (.map []) (.map [])) => bTags_any N xb sb s cb tb nc nt (.map []) (.map []) [] W hx hG hNx h tgs_none (by decide))
  clear hx h
  go_enter Tryz.func34, Tryz.ntmps34
  go_wp2_with fail
  refine (HBB.out).mono ?_
  rintro _ w1 ⟨rfl, hf1, hx1, hs1⟩
  dsimp only
  have HT1 := hide (HTT.out w1 hx1 hs1)
  have HF1 := hide hf1
  clear hf1 hx1 hs1 HBB HTT
  go_wp2_with fail
  refine (HT1.out).mono ?_
  rintro _ w2 ⟨v, rfl, hrow, hf2, hx2, hs2⟩
  dsimp only
  obtain ⟨o2, c2, rfl⟩ := row_nil hrow
  have HF2 := hide (HF1.out.trans hf2)
  have HX2 := hide hx2
  have HS2 := hide hs2
  clear hf2 hx2 hs2 hrow HT1 HF1
  go_wp2_with fail
  go_loopw [8, 9] (fun ov iv wr => ov = .string ⟨#[]⟩ ∧ iv = .int .i64 0 ∧ wr = w2) (fun _ _ _ => 0)
  case atStart => exact ⟨rfl, rfl, rfl⟩
  case round =>
    obtain ⟨rfl, rfl, rfl⟩ := hrel
    go_wp2_with fail
    go_loopw [8, 12] (fun ov iv w' => ov = .string ⟨#[]⟩ ∧ iv = .int .i64 0 ∧ w' = wr) (fun _ _ _ => 0)
    case atStart => exact ⟨rfl, rfl, rfl⟩
    case round =>
      obtain ⟨rfl, rfl, rfl⟩ := hrel
      go_wp2_with fail
      refine bodyPost_ret (results_tmp2 rfl _ _ _) rfl ?_
      exact ⟨rfl, HF2.out, HX2.out, HS2.out⟩
set_option maxHeartbeats 2000000 in
set_option maxRecDepth 100000 in
theorem afresh_any (N : Nat) (s : PSt) (d : Nat) (paths : Int) (kv : Value) (ks : List Int) (w : World) (h : DkW w d s) (hown : ∀ k, s.own k → N ≤ k) (hNw : N ≤ w.heap.size) (hka : KAt (fun k => N ≤ k) w kv ks) (he : Ea s.ds) (h3 : Rest3 s.ds) (hl : s.R.left = -1) (hf : DFit s.ds 100 100 36) (hr : 1000000 ≤ s.R.room) :
    Calls Tryz.prog 10 #[.pointer (some ⟨d, 0, none⟩), .int .i64 paths, kv, .string ⟨#[]⟩] w fun e w' => ∃ xb sb cb tb s', e = .returned (.pointer (some ⟨xb, 0, none⟩)) ∧ Below N w w' ∧ BSt w' xb sb ∧ N ≤ xb ∧ (N ≤ sb ∧ N ≤ cb) ∧ StW w' sb s' cb tb 0 0 (.map []) (.map []) ∧ DkW w' d s' ∧ (∀ k, s'.own k → N ≤ k) ∧ Rest3 s'.ds ∧ Ea s'.ds ∧ DFit s'.ds 100 1000 36 ∧ s'.R.left = -1 ∧ 1000000 ≤ s'.R.room := by
  have HSE := hide (settled_any N s d paths kv ks w h hown hNw hka he h3 hl hf (by decide) (by decide))
  have her : Er s.ds := ⟨he, h3.2.2⟩
  have hfit : DFit s.ds 6 100 36 := by
    have hlen : s.ds.R.safe.length + s.ds.R.chg.length ≤ 6 := by
      obtain ⟨y, x, z, hnow, _⟩ := h3.1
      rw [h3.2.1, h3.2.2, hnow]
      simp
    exact ⟨hlen, hf.c0, hf.c1, hf.l0, hf.l1, hf.r0, hf.r1, hf.dat, hf.chf, hf.inv, hf.inow, hf.isafe, hf.ichg, hf.rise⟩
  have HOP := hide (fun (s' : PSt) (W : World) (hg : PGo s s' w W) (e : s'.ds = s.ds) => bOpen_any s' W d (h.go hg).inn (h.go hg).gl (h.go hg).low (by rw [e]; exact hfit) (show Bud _ _ _ from ⟨by have : s'.R.now.length ≤ 6 := by { rw [show s'.R = s.R from congrArg DS.R e]; exact hfit.nowLen }; omega, by have : s'.R.now.length ≤ 6 := by { rw [show s'.R = s.R from congrArg DS.R e]; exact hfit.nowLen }; omega, by omega⟩) (by rw [show s'.R = s.ds.R from congrArg DS.R e]; exact her.paths) (by rw [e]; exact her.case) (h.go hg).bd)
  have H := hide h
  have HOW := hide hown
  have HER := hide her
  have HFI := hide hfit
  have HLE := hide (show s.ds.R.left = -1 from hl)
  have HRO := hide (show 1000000 ≤ s.ds.R.room from hr)
  clear h hown hka he h3 hl hf hr her hfit
  go_enter Tryz.func10, Tryz.ntmps10
  go_wp2_with fail
  refine (HSE.out).mono ?_
  rintro _ w1 ⟨rfl, s1, hg1, hd1⟩
  dsimp only
  have HO1 := hide (HOP.out s1 w1 hg1 hd1)
  have HG1 := hide hg1
  have HD1 := hide hd1
  have hN1 : N ≤ w1.heap.size := Nat.le_trans hNw hg1.gr.size
  clear hg1 hd1 HSE HOP
  go_wp2_with fail
  refine (HO1.out).mono ?_
  rintro _ w2 ⟨k, s2, sv, rfl, hg2, hop, hok, hno⟩
  dsimp only
  rw [HD1.out] at hop
  obtain ⟨rfl, kp, ea, r3⟩ := open_pure HER.out (by have := HRO.out; omega) hop
  have fit2 := open_fit HER.out (by have := HRO.out; omega) HFI.out hop
  obtain ⟨xb, sb, cb, tb, rfl, hbst, hlsb, hlxb, hst⟩ := hok rfl
  have hGx : ¬ isG xb := fun e => by have := ((H.out.go HG1.out).gl).lt e; omega
  have HSH := hide (shown_none N xb sb s2 cb tb 0 0 w2 hbst hGx (by omega) hst)
  have HG2 := hide (HG1.out.trans hg2)
  have HR3 := hide (r3 HLE.out)
  have HEA := hide ea
  have HF2 := hide fit2
  have HKP := hide kp
  clear hop hok hno hst hbst hg2 r3 ea fit2 kp HO1
  go_wp2_with fail
  refine (HSH.out).mono ?_
  rintro _ w3 ⟨rfl, hf3, hx3, hs3⟩
  dsimp only
  have HF3 := hide hf3
  have HX3 := hide hx3
  have HS3 := hide hs3
  clear hf3 hx3 hs3 HSH
  go_wp2_with fail
  go_ret
  have hb2 : Below N w w2 := HG2.out.low HOW.out hNw
  have hN2 : N ≤ w2.heap.size := Nat.le_trans hNw HG2.out.gr.size
  have hbd : BD w3 d s2.b := HF3.out.keep _ _ _ _ (H.out.go HG2.out).bd (by unfold fT; decide) (by decide)
  refine ⟨xb, sb, cb, tb, s2, rfl, hb2.trans ⟨HF3.out.os, HF3.out.tape, HF3.out.output, HF3.out.size, fun k hk => HF3.out.low k hk (by omega)⟩, HX3.out, by omega, by omega, HS3.out, ⟨HS3.out.inn, hbd, HS3.out.gl, HS3.out.low⟩, HG2.out.ownN HOW.out hNw, HR3.out, HEA.out, HF2.out.mono (by omega) (by omega) (Nat.le_refl _), HKP.out.2 HLE.out, ?_⟩
  have : s2.ds.R.room = s.ds.R.room := HKP.out.1
  show 1000000 ≤ s2.ds.R.room
  rw [this]
  exact HRO.out
end Go.Proofs.YteicpbcddjjceaaGreatDoor

/-
  PROVED HERE: that valid of the statement answers true of a store at rest that is empty, or has one content and one tag.
-/
namespace Go.Proofs.YteicpbcddjjceaaGreatDoor
open Go.RowKit
set_option maxHeartbeats 4000000 in
set_option maxRecDepth 100000 in
theorem valid_three (s : PSt) (d : Nat) (w : World) (h : DkW w d s) (h3 : ThreeL s.fd s.R.now) :
    Calls Tryz.prog 9 #[.pointer (some ⟨d, 0, none⟩)] w fun e w' => e = .returned (.bool true) ∧ PGo s s w w' := by
  obtain ⟨y, x, z, hnow, fx, fy, fz⟩ := h3
  have n1 : indexP ≠ journalP := by decide
  have n2 : indexP ≠ layoutP := by decide
  have n3 : journalP ≠ layoutP := by decide
  have f1 : findE indexP s.R.now = some y := by rw [hnow]; rfl
  have f2 : findE journalP s.R.now = some x := by rw [hnow]; simp [findE, n1]
  have f3 : findE layoutP s.R.now = some z := by rw [hnow]; simp [findE, n2, n3]
  have HLS := hide (bList_any s d w h (by rw [hnow]; simp))
  have HRL := hide (fun W (hg : PGo s s w W) => bRead_any s d z layoutP W (h.go hg) (by decide) f3)
  have HRI := hide (fun W (hg : PGo s s w W) => bRead_any s d y indexP W (h.go hg) (by decide) f1)
  have HRJ := hide (fun W (hg : PGo s s w W) => bRead_any s d x journalP W (h.go hg) (by decide) f2)
  rw [fz] at HRL
  rw [fy] at HRI
  rw [fx] at HRJ
  have hl3 : s.R.now.length = 3 := by rw [hnow]; rfl
  rw [hl3] at HLS
  have H := hide h
  clear h hnow fx fy fz f1 f2 f3 hl3
  unfold layoutP at HRL
  unfold indexP at HRI
  unfold journalP at HRJ
  go_enter Tryz.func9, Tryz.ntmps9
  go_wp2_with fail
  refine (HLS.out).mono ?_
  rintro _ w1 ⟨v, rfl, hrow, hb1⟩
  dsimp only
  obtain ⟨so, sc, rfl⟩ := own_sl hrow
  have HG1 := hide (PGo.refl H.out.inn hb1)
  clear hrow hb1 HLS
  go_wp2_with fail
  refine (HRL.out _ HG1.out).mono ?_
  rintro _ w2 ⟨rfl, hg2⟩
  dsimp only
  have HG2 := hide (HG1.out.trans hg2)
  clear hg2 HRL
  go_wp2_with fail
  refine (HRI.out _ HG2.out).mono ?_
  rintro _ w3 ⟨rfl, hg3⟩
  dsimp only
  have HG3 := hide (HG2.out.trans hg3)
  clear hg3 HRI
  go_wp2_with fail
  refine (HRJ.out _ HG3.out).mono ?_
  rintro _ w4 ⟨rfl, hg4⟩
  dsimp only
  have HG4 := hide (HG3.out.trans hg4)
  clear hg4 HRJ
  have hlT : layoutT = ⟨#[123, 34, 118, 101, 114, 115, 105, 111, 110, 34, 58, 49, 125]⟩ := rfl
  rw [hlT]
  have HPA := hide (parse_any emptyT w4 (by decide))
  generalize hET : emptyT = ET at *
  clear hlT
  go_wp2_with fail
  refine (HPA.out).mono ?_
  rintro e5 w5 ⟨hb5, v5, hv5⟩
  obtain ⟨o5, c5, rfl⟩ : ∃ o5 c5, e5 = .returned (.tuple #[.slice o5 0 c5, .int .i64 0, .int .i64 0]) := by
    rcases hv5 with ⟨es, c, hr, rfl, hrow, _⟩ | ⟨p, hr, _⟩
    · rw [← hET, read_empty.choose_spec] at hr
      injection hr with hr _
      subst hr
      obtain ⟨o, c, rfl⟩ := own_sl hrow
      exact ⟨o, c, rfl⟩
    · rw [← hET, read_empty.choose_spec] at hr
      cases hr
  dsimp only
  have hg5 : PGo s s w w5 := HG4.out.trans (PGo.refl HG4.out.inn hb5)
  have HPR := hide (ownPrint_any o5 c5 [] w5 (fun i hi => by cases hi) (fun i => by simp; decide) ((H.out.go hg5).gl.tab))
  rw [show pText [] = ET from hET ▸ rfl, show pErr [] = 0 from rfl] at HPR
  have HG5 := hide hg5
  clear hb5 hv5 hg5 hET HPA
  go_wp2_with fail
  refine (HPR.out).mono ?_
  rintro _ w6 ⟨rfl, hb6⟩
  dsimp only
  have HG6 := hide (HG5.out.trans (PGo.refl HG5.out.inn hb6))
  clear hb6 HPR
  go_wp2_with fail
  go_loopw [16] (fun iv w' => iv = .int .i64 0 ∧ w' = w6) (fun _ _ => 0)
  case atStart => exact ⟨rfl, rfl⟩
  case round =>
    obtain ⟨rfl, rfl⟩ := hrel
    go_wp2_with fail
    go_loopw [21] (fun iv w' => iv = .int .i64 0 ∧ w' = wr) (fun _ _ => 0)
    case atStart => exact ⟨rfl, rfl⟩
    case round =>
      obtain ⟨rfl, rfl⟩ := hrel
      go_wp2_with fail
      go_ret
      exact ⟨rfl, HG6.out⟩
end Go.Proofs.YteicpbcddjjceaaGreatDoor
