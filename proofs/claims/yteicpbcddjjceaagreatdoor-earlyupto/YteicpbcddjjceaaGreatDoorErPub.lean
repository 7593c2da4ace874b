/-
  PROVED HERE: what reopened of the statement does: a disk that breaks and crashes while it is opened, and its copy, opened.
-/
import Derived.Test.YteicpbcddjjceaaGreatDoorKPick
namespace Go.Proofs.YteicpbcddjjceaaGreatDoor
open Go.RowKit
theorem bCopy_any (s : PSt) (d : Nat) (w : World) {C : Nat} (h : DkW w d s) (he : Er s.ds) (hf : DFit s.ds 6 C 36) :
    Calls Tryz.prog 19 #[.pointer (some ⟨d, 0, none⟩)] w fun e w' => ∃ d' so, e = .returned (.tuple #[.pointer (some ⟨d', 0, none⟩), .int .i64 0]) ∧ Below w.heap.size w w' ∧ w.heap.size ≤ d' ∧ DkW w' d' so ∧ (∀ k, so.own k → w.heap.size ≤ k) ∧ Er so.ds ∧ DFit so.ds 6 0 36 ∧ so.R.left = -1 ∧ so.R.room = s.R.room := by
  have hnl : s.R.now.length ≤ 6 := hf.nowLen
  refine (wCopy d s.b (fun g w' => ∃ so : PSt, so.b = g ∧ Below w.heap.size w w' ∧ so.In w' ∧ (∀ k, so.own k → w.heap.size ≤ k) ∧ Er so.ds ∧ DFit so.ds 6 0 36 ∧ so.R.left = -1 ∧ so.R.room = s.R.room) w h.bd ((pdCopy s w h.inn hf.r0 (by omega) (fun f hf' => by have : (s.fd f).1.size ≤ 36 := (hf.dat f hf').1; omega)).mono ?_)).mono ?_
  · rintro e w' ⟨so, ψ, rfl, hb, hin, hown, hR, hc⟩
    obtain ⟨a1, a2, a3, a4⟩ := copy_er he h.inn.inow hin hR hc hf.r0 hf.r1
    exact ⟨so.b, rfl, so.cut, rfl, hb, hin.cut (by rw [hR]) (by rw [hR]), fun k hk => hown k (hin.cutOwn hk), a1, a2, a3, a4⟩
  · rintro e w' ⟨g, w1, rfl, rfl, so, rfl, hb, hin, hown, e1, e2, e3, e4⟩
    have hba := hb.alloc hb.size (.cells #[.pointer (some ⟨so.b, 0, none⟩)] 49)
    exact ⟨w1.heap.size, so, rfl, hba, hb.size, ⟨hin.later ((Below.refl _ _).alloc (Nat.le_refl _) _), heap_alloc_new _ _, h.gl.later hba, fun k hk hG => by have := hown k hk; have := h.gl.lt hG; omega⟩, hown, e1, e2, e3, e4⟩
theorem DFit.dat36 {D : DS} {L C B : Nat} (h : DFit D L C B) (hd : ∀ f ∈ D.fs, FitB 36 (D.fd f)) : DFit D L C 36 := ⟨h.len, h.c0, h.c1, h.l0, h.l1, h.r0, h.r1, hd, h.chf, h.inv, h.inow, h.isafe, h.ichg, h.rise⟩
theorem open_fit {D D' : DS} {k : Int} {C : Nat} (h : Er D) (hr : 36 ≤ D.R.room) (hf : DFit D 6 C 36) (hb : OpR D k D') : DFit D' 30 (C + 30) 36 := by
  obtain ⟨rfl, _, ea, _⟩ := open_pure h hr hb
  have hnl := hf.nowLen
  have hrl := rmS_len (fun _ => true) D.R.now
  have hrf := rmS_len foreignB D.R.now
  rcases hb with ⟨_, h2⟩ | ⟨_, h2⟩
  · rcases h2 with ⟨_, h2, _⟩ | ⟨_, k1, m, D1, h3, h4⟩
    · exact absurd rfl h2
    · have f1 := hf.ran h3
      rcases h4 with ⟨h4, h5, _⟩ | ⟨_, m2, D2, h5, h6⟩
      · exact absurd h5.symm h4
      · have f2 := f1.ran h5
        rcases h6 with ⟨_, rfl⟩ | ⟨h6, _⟩
        · have hw : (wrS beginFl).length = 10 := by rw [wrS_begin]; rfl
          rw [hw] at f2
          exact (f2.dat36 ea.dat).mono (by omega) (by omega) (Nat.le_refl _)
        · exact absurd rfl h6
  · obtain ⟨k1, m, D1, h3, h4⟩ := h2
    have f1 := hf.ran h3
    rcases h4 with ⟨h4, h5, _⟩ | ⟨_, h5⟩
    · exact absurd h5.symm h4
    · have f2 := f1.st h5
      exact (f2.dat36 ea.dat).mono (by omega) (by omega) (Nat.le_refl _)
theorem PGo.low {N : Nat} {s s' : PSt} {w w' : World} (hg : PGo s s' w w') (ho : ∀ k, s.own k → N ≤ k) (hN : N ≤ w.heap.size) : Below N w w' := ⟨hg.gr.os, hg.gr.tape, hg.gr.output, hg.gr.size, fun k hk => hg.gr.block k (by omega) (fun e => by have := ho k e; omega)⟩
theorem PGo.ownN {N : Nat} {s s' : PSt} {w w' : World} (hg : PGo s s' w w') (ho : ∀ k, s.own k → N ≤ k) (hN : N ≤ w.heap.size) : ∀ k, s'.own k → N ≤ k := fun k hk => (hg.own k hk).elim (ho k) (fun e => by omega)
/-- A disk that breaks at a later step. -/
theorem Er.brk {D : DS} {C : Nat} (h : Er D) (hf : DFit D 6 C 36) (n : Nat) (hn : n < 40) : Er ⟨{ D.R with left := (n : Int) }, D.fs, D.fd⟩ ∧ DFit ⟨{ D.R with left := (n : Int) }, D.fs, D.fd⟩ 6 C 36 :=
  ⟨⟨⟨h.ea.each, h.ea.six, h.ea.dat, h.ea.rise, ⟨h.ea.inv.go, h.ea.inv.ne⟩⟩, h.chg⟩, ⟨hf.len, hf.c0, hf.c1, by show (-1 : Int) ≤ (n : Int); omega, by show (n : Int) ≤ _; omega, hf.r0, hf.r1, hf.dat, hf.chf, ⟨hf.inv.go, hf.inv.ne⟩, hf.inow, hf.isafe, hf.ichg, hf.rise⟩⟩
theorem Er.paths {D : DS} (h : Er D) : ∀ e ∈ D.R.now, e.path.size ≤ 9223372036854775807 := fun e he => by
  have h1 := h.ea.six 0 e
  rw [List.take_zero] at h1
  rw [h.now] at he
  have h2 := six_path (h1 he)
  simp only [isPathB, Bool.and_eq_true, decide_eq_true_eq] at h2
  omega
theorem cell_low2 {N g o : Nat} {w w' : World} {u : Value} (hb : Below N w w') (hg : g < N) (h : w.cell? ⟨g, o, none⟩ = some u) : w'.cell? ⟨g, o, none⟩ = some u := (World.cell?_of_block (a := ⟨g, o, none⟩) (hb.block g hg)).trans h
theorem KAt.low {N : Nat} {w w' : World} {kv : Value} {ks : List Int} (h : KAt (fun k => N ≤ k) w kv ks) (hb : Below N w w') : KAt (fun k => N ≤ k) w' kv ks := by
  obtain ⟨oa, c, e, hk⟩ := h
  refine ⟨oa, c, e, fun j hj => ?_⟩
  obtain ⟨g, o, e2, hn, hc⟩ := hk j hj
  exact ⟨g, o, e2, hn, cell_low2 hb (by omega) hc⟩
/-- The falls that a statement hands in. -/
structure FallV where
  n : Int
  paths : Int
  kv : Value
  ks : List Int
def fall0 : FallV := ⟨0, 0, .slice none 0 0, []⟩
def FallV.ok (f : FallV) : Prop := -9223372036854775808 ≤ f.n ∧ f.n ≤ 9223372036854775807
/-- They lie below N. -/
def FallsAt (N : Nat) (w : World) (oa : Option Addr) (l : List FallV) : Prop := ∀ i, i < l.length → ∃ g o, oa = some ⟨g, o, none⟩ ∧ g < N ∧ w.cell? ⟨g, o + i * 3, none⟩ = some (.int .i64 (l.getD i fall0).n) ∧ w.cell? ⟨g, o + i * 3 + 1, none⟩ = some (.int .i64 (l.getD i fall0).paths) ∧ w.cell? ⟨g, o + i * 3 + 2, none⟩ = some (l.getD i fall0).kv ∧ KAt (fun k => N ≤ k) w (l.getD i fall0).kv (l.getD i fall0).ks ∧ (l.getD i fall0).ok
theorem FallsAt.low {N : Nat} {w w' : World} {oa : Option Addr} {l : List FallV} (h : FallsAt N w oa l) (hs : ∀ k, k < N → w'.heap[k]? = w.heap[k]?) : FallsAt N w' oa l := fun i hi => by
  obtain ⟨g, o, e, hg, c0, c1, c2, ⟨oa2, c, e2, hk⟩, hok⟩ := h i hi
  refine ⟨g, o, e, hg, (World.cell?_of_block (hs g hg)).trans c0, (World.cell?_of_block (hs g hg)).trans c1, (World.cell?_of_block (hs g hg)).trans c2, ⟨oa2, c, e2, fun j hj => ?_⟩, hok⟩
  obtain ⟨g2, o2, e3, hn, hc⟩ := hk j hj
  exact ⟨g2, o2, e3, hn, (World.cell?_of_block (hs g2 (by omega))).trans hc⟩
/-- Between two falls. -/
structure Rp (N : Nat) (w : World) (d : Nat) (s : PSt) (C : Nat) : Prop where
  dk : DkW w d s
  own : ∀ k, s.own k → N ≤ k
  er : Er s.ds
  fit : DFit s.ds 6 C 36
  left : s.R.left = -1
  room : 1000000 ≤ s.R.room
set_option maxHeartbeats 4000000 in
set_option maxRecDepth 100000 in
theorem reopened_any (N : Nat) (s : PSt) (d : Nat) (oa : Option Addr) (cc : Nat) (l : List FallV) (w : World) (C0 : Nat) (h : Rp N w d s C0) (hl : FallsAt N w oa l) (hn : l.length ≤ 1048576) (hC : C0 ≤ 1000000) (hNw : N ≤ w.heap.size) :
    Calls Tryz.prog 6 #[.pointer (some ⟨d, 0, none⟩), .slice oa l.length cc] w fun e w' => ∃ xb sb cb tb c so, e = .returned (.tuple #[.pointer (some ⟨xb, 0, none⟩), .pointer (some ⟨c, 0, none⟩)]) ∧ Below N w w' ∧ BSt w' xb sb ∧ N ≤ xb ∧ (N ≤ sb ∧ N ≤ cb) ∧ StW w' sb so cb tb 0 0 (.map []) (.map []) ∧ DkW w' c so ∧ (∀ k, so.own k → N ≤ k) ∧ Rest3 so.ds ∧ DFit so.ds 100 100 36 ∧ so.R.left = -1 ∧ 1000000 ≤ so.R.room := by
  have H := hide h
  have HL := hide hl
  clear h hl
  go_enter Tryz.func6, Tryz.ntmps6
  go_wp2_with fail
  go_loopw [6] (fun iv wr => ∃ (j : Nat) (s1 : PSt), iv = .int .i64 ((j : Nat) : Int) ∧ j ≤ l.length ∧ Rp N wr d s1 (C0 + 30 * j) ∧ Below N w wr) (fun iv _ => l.length - (intOf iv).toNat)
  case atStart => exact ⟨0, s, rfl, Nat.zero_le _, H.out, Below.refl _ _⟩
  case round =>
    obtain ⟨j, s1, rfl, hj, hrp, hbl⟩ := hrel
    have hN1 : N ≤ wr.heap.size := Nat.le_trans hNw hbl.size
    have HRP := hide hrp
    have HBL := hide hbl
    have hls := HL.out.low hbl.block
    by_cases hlt : j < l.length
    · obtain ⟨g, o, rfl, hg, c0, c1, c2, hka, hok⟩ := hls j hlt
      generalize l.getD j fall0 = F at *
      have d1 : decide (((j : Nat) : Int) < ((l.length : Nat) : Int)) = true := decide_eq_true (by omega)
      have HPK := hide (pick_any F.n 40 (by decide) (by decide) hok.1 hok.2)
      have HKA := hide hka
      have HLS := hide hls
      clear hrp hbl hka hls
      go_wp2_with fail
      refine (HPK.out _).mono ?_
      rintro _ wp ⟨rfl, hwp⟩
      rw [hwp]
      dsimp only
      have hpl := pickN_lt F.n 40 (by decide)
      generalize pickN F.n 40 = n at *
      clear hwp HPK
      have HBR := hide (bBreak_any s1 d (n : Int) wr HRP.out.dk (by omega))
      go_wp2_with fail
      refine (HBR.out).mono ?_
      rintro _ w1 ⟨rfl, s2, hg2, hd2⟩
      dsimp only
      have hdk2 := HRP.out.dk.go hg2
      obtain ⟨er2', fit2'⟩ := HRP.out.er.brk HRP.out.fit n hpl
      have hbe : Below N wr w1 := hg2.low HRP.out.own hN1
      have hN2 : N ≤ w1.heap.size := Nat.le_trans hN1 hg2.gr.size
      have ho2 := hg2.ownN HRP.out.own hN1
      have er2 : Er s2.ds := by rw [hd2]; exact er2'
      have fit2 : DFit s2.ds 6 (C0 + 30 * j) 36 := by rw [hd2]; exact fit2'
      clear er2' fit2'
      have hroom2 : s2.R.room = s1.R.room := congrArg (fun D : DS => D.R.room) hd2
      have hnl2 : s2.R.now.length ≤ 6 := fit2.nowLen
      have HOP := hide (bOpen_any s2 w1 d hdk2.inn hdk2.gl hdk2.low fit2 (show Bud _ _ _ from ⟨by omega, by omega, by omega⟩) er2.paths er2.case hdk2.bd)
      have HB2 := hide (HBL.out.trans hbe)
      have HE2 := hide er2
      have HF2 := hide fit2
      have HO2 := hide ho2
      have HDK2 := hide hdk2
      have HR2 := hide (show 1000000 ≤ s2.R.room by rw [hroom2]; exact HRP.out.room)
      have HC1 := hide (cell_low2 hbe hg c1)
      have HC2 := hide (cell_low2 hbe hg c2)
      have HKA2 := hide (KAt.low HKA.out hbe)
      clear hd2 hg2 hdk2 er2 fit2 hbe ho2 hroom2 hnl2 HBR c0 c1 c2
      go_wp2_with fail
      refine (HOP.out).mono ?_
      rintro _ w2 ⟨k, s3, sv, rfl, hg3, hop3, -, -⟩
      dsimp only
      obtain ⟨rfl, kp3, ea3, -⟩ := open_pure HE2.out (by have : 1000000 ≤ s2.ds.R.room := HR2.out; omega) hop3
      have fit3 := open_fit HE2.out (by have : 1000000 ≤ s2.ds.R.room := HR2.out; omega) HF2.out hop3
      have hbe3 : Below N w1 w2 := hg3.low HO2.out hN2
      have hN3 : N ≤ w2.heap.size := Nat.le_trans hN2 hg3.gr.size
      have ho3 := hg3.ownN HO2.out hN2
      have hdk3 := HDK2.out.go hg3
      have hka3 := KAt.low HKA2.out hbe3
      have hdr : Below w2.heap.size w2 w2.drew := (Below.refl _ _).drew
      have hdrN : Below N w2 w2.drew := (Below.refl _ _).drew
      have HCR := hide (bCrash_any s3 d F.paths F.kv F.ks w2.drew (hdk3.later hdr) ((KAt.low hka3 hdrN).mono ho3) ea3 fit3 (by omega) (by omega))
      have hS0 := And.intro (cell_low2 hdrN hg (cell_low2 hbe3 hg HC1.out)) (cell_low2 hdrN hg (cell_low2 hbe3 hg HC2.out))
      obtain ⟨er4, fit4⟩ := crash_er ea3 fit3 (nCr F.paths s3.R.chg.length) F.ks
      have HB3 := hide ((HB2.out.trans hbe3).trans hdrN)
      have HE4 := hide er4
      have HF4 := hide fit4
      have HO3 := hide ho3
      have HDK3 := hide (hdk3.later hdr)
      have HR3 := hide (show 1000000 ≤ s3.ds.R.room by rw [kp3.1]; exact HR2.out)
      clear hop3 kp3 ea3 fit3 hbe3 ho3 hdk3 hka3 er4 fit4 hg3 HOP HC1 HC2 hdr hdrN
      go_wp2_with fail
      go_region_held3 (fun w' => w'.cell? ⟨g, o + j * 3 + 1, none⟩ = some (.int .i64 F.paths) ∧ w'.cell? ⟨g, o + j * 3 + 2, none⟩ = some F.kv) (first | exact hS0 | exact hS3 | go_keep) ((go_at_call 18; refine (HCR.out).mono ?_; rintro _ w3 ⟨rfl, s4, hg4, hd4⟩; have hb4 : Below N w2.drew w3 := hg4.low HO3.out hN3; have hS3 := And.intro (cell_low2 hb4 hg hS0.1) (cell_low2 hb4 hg hS0.2)))
      have hrp4 : Rp N w3 d s4 (C0 + 30 * (j + 1)) := by
        refine ⟨HDK3.out.go hg4, hg4.ownN HO3.out hN3, ?_, ?_, ?_, ?_⟩
        · rw [hd4]; exact HE4.out
        · rw [hd4]; exact HF4.out.mono (Nat.le_refl _) (by omega) (Nat.le_refl _)
        · exact congrArg (fun D : DS => D.R.left) hd4
        · have : s4.R.room = s3.R.room := congrArg (fun D : DS => D.R.room) hd4
          rw [this]
          exact HR3.out
      have HRP4 := hide hrp4
      have HB4 := hide (HB3.out.trans hb4)
      clear hd4 hg4 hb4 hS0 hS3 hrp4 HCR
      go_wp2_with fail
      exact ⟨⟨j + 1, s4, by simp, by omega, HRP4.out, HB4.out⟩, by simp only [intOf]; omega⟩
    · have hjl : j = l.length := by omega
      have d1 : decide (((j : Nat) : Int) < ((l.length : Nat) : Int)) = false := decide_eq_false (by omega)
      have HCP := hide (bCopy_any s1 d wr HRP.out.dk HRP.out.er HRP.out.fit)
      clear hrp hbl hls hjl
      go_wp2_with fail
      refine (HCP.out).mono ?_
      rintro _ w1 ⟨c, so, rfl, hb1, hlc, hdk, hown, her, hfit, hleft, hroom⟩
      dsimp only
      have hnl : so.R.now.length ≤ 6 := hfit.nowLen
      have hrr : 1000000 ≤ so.R.room := by rw [hroom]; exact HRP.out.room
      have HOP := hide (bOpen_any so w1 c hdk.inn hdk.gl hdk.low hfit (show Bud _ _ _ from ⟨by omega, by omega, by omega⟩) her.paths her.case hdk.bd)
      have HB1 := hide hb1
      have HDK := hide hdk
      have HOW := hide (fun k hk => Nat.le_trans hN1 (hown k hk))
      have HER := hide her
      have HFI := hide hfit
      have HLE := hide hleft
      have HRR := hide hrr
      have hN2 : N ≤ w1.heap.size := Nat.le_trans hN1 hb1.size
      clear hb1 hdk hown her hfit hleft hroom hnl hrr HCP
      go_wp2_with fail
      refine (HOP.out).mono ?_
      rintro _ w2 ⟨k, s3, sv, rfl, hg3, hop3, hok, hno⟩
      dsimp only
      obtain ⟨rfl, kp3, ea3, r3⟩ := open_pure HER.out (by have : 1000000 ≤ so.ds.R.room := HRR.out; omega) hop3
      have fit3 := open_fit HER.out (by have : 1000000 ≤ so.ds.R.room := HRR.out; omega) HFI.out hop3
      obtain ⟨xb, sb, cb, tb, rfl, hbst, hlsb, hlxb, hst⟩ := hok rfl
      have HS := hide hst
      have HBST := hide hbst
      have HG3 := hide hg3
      have HR3 := hide (r3 HLE.out)
      have HF3 := hide fit3
      have HKP := hide kp3
      clear hop3 kp3 ea3 r3 fit3 hok hno hst hbst hg3 HOP
      go_wp2_with fail
      refine bodyPost_ret (results_tmp2 rfl _ _ _) rfl ?_
      refine ⟨xb, sb, cb, tb, c, s3, rfl, (HBL.out.trans (HB1.out.mono hN1)).trans (HG3.out.low HOW.out hN2), HBST.out, by omega, by omega, HS.out, HDK.out.go HG3.out, HG3.out.ownN HOW.out hN2, HR3.out, HF3.out.mono (by omega) (by omega) (Nat.le_refl _), HKP.out.2 HLE.out, ?_⟩
      have : s3.R.room = so.R.room := HKP.out.1
      rw [this]
      exact HRR.out
end Go.Proofs.YteicpbcddjjceaaGreatDoor

/-
  PROVED HERE: what Publish leaves on the disk of an empty store at rest; no walk.
-/
namespace Go.Proofs.YteicpbcddjjceaaGreatDoor
open Go.RowKit
theorem Ran.step {D D' : DS} {t : Stp} {l : List Stp} {k : Int} {n : Nat} (P : DS → Prop) (h : Ran D (t :: l) k n D') (he : ∀ k1 X, stR D t k1 X → k1 = 0 ∧ P X) : ∃ D1 m, P D1 ∧ Ran D1 l k m D' := by
  obtain ⟨k1, D1, h1, h2⟩ := h
  obtain ⟨rfl, hP⟩ := he k1 D1 h1
  rcases h2 with ⟨h2, _⟩ | ⟨_, m, _, h3⟩
  · exact absurd rfl h2
  · exact ⟨D1, m, hP, h3⟩
theorem cP_size (ds : List Nat) : (cPath ds).size = 70 := by
  unfold cPath
  rw [bytes_size, List.length_append, Sha.textTo_len]
  rfl
theorem cP_path (ds : List Nat) : isPathB (cPath ds) = true := by
  simp [isPathB, cP_size]
theorem cP_data (ds : List Nat) : (cPath ds).data.toList = 98 :: 108 :: (([111, 98, 115, 47] : List UInt8) ++ Sha.textTo ds 32) := by
  unfold cPath
  rfl
theorem cP_index (ds : List Nat) : lessB (cPath ds) indexP = true := by rw [less_eq, cP_data]; rfl
theorem cP_journal (ds : List Nat) : lessB (cPath ds) journalP = true := by rw [less_eq, cP_data]; rfl
theorem cP_layout (ds : List Nat) : lessB (cPath ds) layoutP = true := by rw [less_eq, cP_data]; rfl
theorem cP_p0 (ds : List Nat) : lessB p0 (cPath ds) = true := by rw [less_eq, cP_data]; rfl
theorem cP_p1 (ds : List Nat) : lessB p1 (cPath ds) = true := by rw [less_eq, cP_data]; rfl
theorem cP_p1' (ds : List Nat) : lessB (cPath ds) p1 = false := by rw [less_eq, cP_data]; rfl
/-- The four files of a store of one content and one tag. -/
def FourL (ds : List Nat) (b X : ByteArray) (fd : Nat → ByteArray × Int) (l : List DE) : Prop := ∃ a i x z, l = [⟨cPath ds, a⟩, ⟨indexP, i⟩, ⟨journalP, x⟩, ⟨layoutP, z⟩] ∧ fd a = (b, (b.size : Int)) ∧ fd i = (X, (X.size : Int)) ∧ fd x = (⟨#[]⟩, 0) ∧ fd z = (layoutT, 13)
structure P4 (D X : DS) (l : List DE) (a i x z : Nat) (da di : ByteArray × Int) : Prop where
  left : X.R.left = -1
  room : X.R.room = D.R.room
  now : X.R.now = l
  fa : X.fd a = da
  fi : X.fd i = di
  fx : X.fd x = (⟨#[]⟩, 0)
  fz : X.fd z = (layoutT, 13)
theorem wrS_two (c b X : ByteArray) : wrS [(c, b), (indexP, X)] = [sAp p0 b, sAp p1 X, sSy p0, sSy p1, sRn p0 c, sRn p1 indexP, sSd] := by
  rw [← bPath0, ← bPath1]
  rfl
set_option linter.unusedSimpArgs false in
theorem pub_pure {D D' : DS} {k : Int} (ds : List Nat) (b X : ByteArray) (h3 : Rest3 D) (hin : ∀ e ∈ D.R.now, e.blk ∈ D.fs) (hl : D.R.left = -1) (hroom : 1000000 ≤ D.R.room) (hb : b.size ≤ 300) (hX : X.size ≤ 1000) (hw : WrR D [(cPath ds, b), (indexP, X)] k D') :
    k = 0 ∧ FourL ds b X D'.fd D'.R.now ∧ D'.R.safe = D'.R.now ∧ D'.R.chg = [] ∧ D'.R.left = -1 ∧ D'.R.room = D.R.room := by
  obtain ⟨⟨y, x, z, hnow, fx, fy, fz⟩, hsafe, hchg⟩ := h3
  obtain ⟨m, D1, hr, hor⟩ := hw
  rw [wrS_two] at hr
  have iy : y ∈ D.fs := hin ⟨indexP, y⟩ (by rw [hnow]; simp)
  have ix : x ∈ D.fs := hin ⟨journalP, x⟩ (by rw [hnow]; simp)
  have iz : z ∈ D.fs := hin ⟨layoutP, z⟩ (by rw [hnow]; simp)
  have ze : (⟨#[]⟩ : ByteArray).size = 0 := rfl
  have zi : emptyT.size = 23 := rfl
  have zl : layoutT.size = 13 := rfl
  have l1 : lessB p0 indexP = true := by rw [less_eq]; decide
  have l2 : lessB p1 p0 = false := by rw [less_eq]; decide
  have l3 : lessB p1 indexP = true := by rw [less_eq]; decide
  have l4 : lessB indexP (cPath ds) = false := by rw [less_eq, cP_data]; rfl
  have l5 : lessB indexP journalP = true := by rw [less_eq]; decide
  have n1 : indexP ≠ p0 := by decide
  have n2 : journalP ≠ p0 := by decide
  have n3 : layoutP ≠ p0 := by decide
  have n4 : p0 ≠ p1 := by decide
  have n5 : indexP ≠ p1 := by decide
  have n6 : journalP ≠ p1 := by decide
  have n7 : layoutP ≠ p1 := by decide
  have n8 : p1 ≠ cPath ds := less_ne (cP_p1 ds)
  have n9 : p0 ≠ cPath ds := less_ne (cP_p0 ds)
  have n10 : indexP ≠ cPath ds := Ne.symm (less_ne (cP_index ds))
  have n11 : journalP ≠ cPath ds := Ne.symm (less_ne (cP_journal ds))
  have n12 : layoutP ≠ cPath ds := Ne.symm (less_ne (cP_layout ds))
  have n13 : journalP ≠ indexP := by decide
  have n14 : layoutP ≠ indexP := by decide
  have e0 : p0 ≠ ⟨#[]⟩ := by decide
  have e1 : p1 ≠ ⟨#[]⟩ := by decide
  have e2 : cPath ds ≠ ⟨#[]⟩ := fun e => by have := congrArg ByteArray.size e; rw [cP_size] at this; cases this
  have e3 : indexP ≠ ⟨#[]⟩ := by decide
  have e4 : journalP ≠ ⟨#[]⟩ := by decide
  have e5 : layoutP ≠ ⟨#[]⟩ := by decide
  have cl := cP_index ds
  have cl1 := cP_p1' ds
  obtain ⟨A, mA, ⟨a, ha, pA, inA⟩, hr⟩ := hr.step (fun X1 => ∃ a, a ∉ D.fs ∧ P4 D X1 [⟨p0, a⟩, ⟨indexP, y⟩, ⟨journalP, x⟩, ⟨layoutP, z⟩] a y x z (b, 0) (emptyT, 23) ∧ X1.fs = a :: D.fs) (fun k1 X1 hs => by
    obtain ⟨a, ha, h0, rfl⟩ := st_ap hs (by decide) (by omega) (by rw [hnow]; simp only [usedE, fx, fy, fz, ze, zi, zl]; omega) (by rw [hnow]; simp [findE, n1, n2, n3])
    have hy : y ≠ a := fun e => ha (e ▸ iy)
    have hx : x ≠ a := fun e => ha (e ▸ ix)
    have hz : z ≠ a := fun e => ha (e ▸ iz)
    refine ⟨h0, a, ha, ⟨wrote_whole hl, rfl, ?_, by simp [addD, setNd], by simp [addD, setNd, hy, fy], by simp [addD, setNd, hx, fx], by simp [addD, setNd, hz, fz]⟩, rfl⟩
    rw [addD_now, hnow]
    simp [applyE, withE, l1, n1, n2, n3, e0, e3, e4, e5])
  obtain ⟨Bs, mB, ⟨i, hi, pB, inB⟩, hr⟩ := hr.step (fun X1 => ∃ i, i ∉ A.fs ∧ P4 D X1 [⟨p0, a⟩, ⟨p1, i⟩, ⟨indexP, y⟩, ⟨journalP, x⟩, ⟨layoutP, z⟩] a i x z (b, 0) (X, 0) ∧ X1.fs = i :: A.fs) (fun k1 X1 hs => by
    obtain ⟨i, hi, h0, rfl⟩ := st_ap hs (by decide) (by rw [pA.left]; omega) (by rw [pA.now, pA.room]; simp only [usedE, pA.fa, pA.fi, pA.fx, pA.fz, ze, zi, zl]; omega) (by rw [pA.now]; simp [findE, n4, n5, n6, n7])
    have ia : a ≠ i := fun e => hi (by rw [inA]; simp [e])
    have hx : x ≠ i := fun e => hi (by rw [inA, ← e]; simp [ix])
    have hz : z ≠ i := fun e => hi (by rw [inA, ← e]; simp [iz])
    refine ⟨h0, i, hi, ⟨wrote_whole pA.left, pA.room, ?_, by simp [addD, setNd, ia, pA.fa], by simp [addD, setNd], by simp [addD, setNd, hx, pA.fx], by simp [addD, setNd, hz, pA.fz]⟩, rfl⟩
    rw [addD_now, pA.now]
    simp [applyE, withE, l2, l3, n4, n5, n6, n7, e0, e1, e3, e4, e5])
  have ia : a ≠ i := fun e => hi (by rw [inA]; simp [e])
  have hxa : x ≠ a := fun e => ha (e ▸ ix)
  have hza : z ≠ a := fun e => ha (e ▸ iz)
  have hxi : x ≠ i := fun e => hi (by rw [inA, ← e]; simp [ix])
  have hzi : z ≠ i := fun e => hi (by rw [inA, ← e]; simp [iz])
  obtain ⟨Cs, mC, pC, hr⟩ := hr.step (fun X1 => P4 D X1 [⟨p0, a⟩, ⟨p1, i⟩, ⟨indexP, y⟩, ⟨journalP, x⟩, ⟨layoutP, z⟩] a i x z (b, (b.size : Int)) (X, 0)) (fun k1 X1 hs => by
    obtain ⟨h0, rfl⟩ := st_sy (g := a) hs (by decide) (by rw [pB.left]; omega) (by rw [pB.now]; rfl)
    rw [pB.fa]
    exact ⟨h0, wrote_whole pB.left, pB.room, pB.now, by simp [wroteD, setNd], by simp [wroteD, setNd, Ne.symm ia, pB.fi], by simp [wroteD, setNd, hxa, pB.fx], by simp [wroteD, setNd, hza, pB.fz]⟩)
  obtain ⟨Es, mE, pE, hr⟩ := hr.step (fun X1 => P4 D X1 [⟨p0, a⟩, ⟨p1, i⟩, ⟨indexP, y⟩, ⟨journalP, x⟩, ⟨layoutP, z⟩] a i x z (b, (b.size : Int)) (X, (X.size : Int))) (fun k1 X1 hs => by
    obtain ⟨h0, rfl⟩ := st_sy (g := i) hs (by decide) (by rw [pC.left]; omega) (by rw [pC.now]; simp [findE, n4])
    rw [pC.fi]
    exact ⟨h0, wrote_whole pC.left, pC.room, pC.now, by simp [wroteD, setNd, ia, pC.fa], by simp [wroteD, setNd], by simp [wroteD, setNd, hxi, pC.fx], by simp [wroteD, setNd, hzi, pC.fz]⟩)
  obtain ⟨Fs, mF, pF, hr⟩ := hr.step (fun X1 => P4 D X1 [⟨p1, i⟩, ⟨cPath ds, a⟩, ⟨indexP, y⟩, ⟨journalP, x⟩, ⟨layoutP, z⟩] a i x z (b, (b.size : Int)) (X, (X.size : Int))) (fun k1 X1 hs => by
    obtain ⟨h0, rfl⟩ := st_rn (g := a) hs (by decide) (cP_path ds) n9 (by rw [pE.left]; omega) (by rw [pE.now]; rfl)
    refine ⟨h0, wrote_whole pE.left, pE.room, ?_, pE.fa, pE.fi, pE.fx, pE.fz⟩
    rw [pushD_now, pE.now]
    simp [applyE, withE, cl, cl1, n1, n2, n3, Ne.symm n4, n8, n10, n11, n12, e2])
  obtain ⟨Gs, mG, pG, hr⟩ := hr.step (fun X1 => P4 D X1 [⟨cPath ds, a⟩, ⟨indexP, i⟩, ⟨journalP, x⟩, ⟨layoutP, z⟩] a i x z (b, (b.size : Int)) (X, (X.size : Int))) (fun k1 X1 hs => by
    obtain ⟨h0, rfl⟩ := st_rn (g := i) hs (by decide) (by decide) (by decide) (by rw [pF.left]; omega) (by rw [pF.now]; rfl)
    refine ⟨h0, wrote_whole pF.left, pF.room, ?_, pF.fa, pF.fi, pF.fx, pF.fz⟩
    have l6 : lessB indexP indexP = false := by rw [less_eq]; decide
    rw [pushD_now, pF.now]
    simp [applyE, withE, l4, l5, l6, n5, n6, n7, Ne.symm n8, Ne.symm n10, n13, n14, e3])
  obtain ⟨Hs, mH, pH, hr⟩ := hr.step (fun X1 => P4 D X1 [⟨cPath ds, a⟩, ⟨indexP, i⟩, ⟨journalP, x⟩, ⟨layoutP, z⟩] a i x z (b, (b.size : Int)) (X, (X.size : Int)) ∧ X1.R.safe = X1.R.now ∧ X1.R.chg = []) (fun k1 X1 hs => by
    obtain ⟨h0, rfl⟩ := st_sd hs (by rw [pG.left]; omega)
    exact ⟨h0, ⟨wrote_whole pG.left, pG.room, pG.now, pG.fa, pG.fi, pG.fx, pG.fz⟩, rfl, rfl⟩)
  obtain ⟨rfl, _, rfl⟩ := hr
  rcases hor with ⟨_, rfl⟩ | ⟨h, _⟩
  · obtain ⟨pH, s1, s2⟩ := pH
    exact ⟨rfl, ⟨a, i, x, z, pH.now, pH.fa, pH.fi, pH.fx, pH.fz⟩, s1, s2, pH.left, pH.room⟩
  · exact absurd rfl h
end Go.Proofs.YteicpbcddjjceaaGreatDoor
