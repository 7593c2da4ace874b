/-
  PROVED HERE: what write of a store does: the files are laid beside the store and brought in; if a step is refused, what was laid is taken back.
-/
import Derived.Test.YteicpbcddjjceaaGreatDoorStBring
import Derived.Defers
namespace Go.Proofs.YteicpbcddjjceaaGreatDoor
open Go.RowKit
theorem ErrV.go {w w' : World} {s s' : PSt} {v : Value} {k : Int} (h : ErrV w v k) (hi : s.In w) (hg : PGo s s' w w') : ErrV w' v k := by
  rcases h with h | ⟨h1, sv, nm, h2, h3⟩
  · exact .inl h
  · exact .inr ⟨h1, sv, nm, h2, hg.keeps hi h3 (by decide) (by decide) (by decide) (by decide)⟩
/-- A cell of a block that is new and none of the disk's is written. -/
theorem PGo.setNew {s s1 : PSt} {w wr : World} {b i : Nat} {cur : Array Value} {T : TypeId} {v : Value} (hg : PGo s s1 w wr) (hb : w.heap.size ≤ b) (hc : wr.heap[b]? = some (.cells cur T (0, 0))) (h1 : T ≠ 105) (h2 : T ≠ 227) (h3 : T ≠ 159) (h4 : T ≠ 5) : PGo s s1 w (wr.setCell ⟨b, i, none⟩ v) := by
  have hset : ∀ k, k ≠ b → (wr.setCell ⟨b, i, none⟩ v).heap[k]? = wr.heap[k]? := fun k hk => heap_setCell_other _ _ _ _ (by simpa using hk)
  have hg1 := grownBy_set wr b i v
  exact ⟨hg.b, hg.inn.same (fun k hk => hset k (fun e => hg.inn.notOwn hc h1 h2 h3 h4 (by rw [← e]; exact hk))), ⟨hg1.os.trans hg.gr.os, hg1.tape.trans hg.gr.tape, hg1.output.trans hg.gr.output, Nat.le_trans hg.gr.size hg1.size, fun k hk hn => (hset k (by omega)).trans (hg.gr.block k hk hn)⟩, hg.own⟩
theorem dk_ap {s : PSt} {w : World} {p q : ByteArray} {L C B : Nat} (h : s.In w) (hf : DFit s.ds L C B) (hb : Bud L C B) (hp : p.size ≤ 9223372036854775807) (hq : q.size ≤ 1000000) :
    Calls Tryz.prog 176 #[.pointer (some ⟨s.b, 0, none⟩), .string p, .string q] w (DRs s w fun k D' => stR s.ds (sAp p q) k D') := dkAppend s p q w h hf hb hp hq
def apL (fl : List (ByteArray × ByteArray)) : List Stp := (List.range fl.length).map fun t => sAp (bPath t) (fl.getD t f0).2
def wrS (fl : List (ByteArray × ByteArray)) : List Stp := apL fl ++ biS fl
theorem apL_len (fl : List (ByteArray × ByteArray)) : (apL fl).length = fl.length := by simp [apL]
theorem apL_at (fl : List (ByteArray × ByteArray)) (j : Nat) (hj : j < fl.length) : (apL fl)[j]? = some (sAp (bPath j) (fl.getD j f0).2) := by simp [apL, hj]
/-- What write does. -/
def WrR (D : DS) (fl : List (ByteArray × ByteArray)) (k : Int) (D' : DS) : Prop := ∃ m D1, Ran D (wrS fl) k m D1 ∧ ((k = 0 ∧ D' = D1) ∨ (k ≠ 0 ∧ RanI D1 (tbS (min m fl.length)) D'))
set_option maxHeartbeats 1000000 in
set_option maxRecDepth 100000 in
theorem writeD_ok (ge gs gl : Nat) (u : FrameMode) (w : World) (he : w.cell? ⟨ge, 0, none⟩ = some .nilIface) :
    CallsD Tryz.prog 174 #[.pointer (some ⟨ge, 0, none⟩), .pointer (some ⟨gs, 0, none⟩), .pointer (some ⟨gl, 0, none⟩)] u w fun e u' w' => u' = u ∧ (e = .returned (.tuple #[]) ∧ w' = w) := by
  go_enter_d Tryz.func174, Tryz.ntmps174
  go_wp2_with fail
  go_end0
  exact ⟨rfl, rfl⟩
set_option maxHeartbeats 1000000 in
set_option maxRecDepth 100000 in
theorem writeD_err (ge gs gl sb n : Nat) (s : PSt) (sv : Nat) (u : FrameMode) (w : World) {L C B : Nat} (he : w.cell? ⟨ge, 0, none⟩ = some (.iface 150 (.pointer (some ⟨sv, 0, none⟩)))) (hs : w.cell? ⟨gs, 0, none⟩ = some (.pointer (some ⟨sb, 0, none⟩))) (hl : w.cell? ⟨gl, 0, none⟩ = some (.int .i64 ((n : Nat) : Int)))
    (h : On w sb s) (hf : DFit s.ds L C B) (hb : Bud (L + n + 1) (C + n + 1) B) (hn : n ≤ 300) :
    CallsD Tryz.prog 174 #[.pointer (some ⟨ge, 0, none⟩), .pointer (some ⟨gs, 0, none⟩), .pointer (some ⟨gl, 0, none⟩)] u w fun e u' w' => u' = u ∧ (e = .returned (.tuple #[]) ∧ ∃ s', PGo s s' w w' ∧ RanI s.ds (tbS n) s'.ds) := by
  have HT := hide (takeBack_any sb s n w h hf hb hn)
  clear h hf hb
  go_enter_d Tryz.func174, Tryz.ntmps174
  go_wp2_with fail
  refine HT.out.mono ?_
  rintro _ w1 ⟨rfl, s1, h1, h2⟩
  dsimp only
  have H1 := hide h1
  have H2 := hide h2
  clear h1 h2 he hs hl
  go_wp2_with fail
  go_end0
  exact ⟨rfl, s1, H1.out, H2.out⟩
theorem ran_next2 {S : List Stp} {D D1 D2 : DS} {i m : Nat} {t : Stp} {k : Int} (h : Ran D (S.take i) 0 m D1) (ht : S[i]? = some t) (hs : stR D1 t k D2) (hk : k ≠ 0) : Ran D S k m D2 := by
  have hi : i < S.length := (List.getElem?_eq_some_iff.1 ht).1
  have e1 : S.take (i + 1) = S.take i ++ [t] := by
    rw [List.take_succ_eq_append_getElem hi]
    rw [List.getElem?_eq_getElem hi] at ht
    rw [Option.some.inj ht]
  have h1 := h.app (Ran.one hs)
  rw [if_neg hk, Nat.add_zero] at h1
  have h2 := h1.stop (S.drop (i + 1)) hk
  rw [← e1, List.take_append_drop] at h2
  exact h2
theorem wrS_len (fl : List (ByteArray × ByteArray)) : (wrS fl).length = fl.length + (biS fl).length := by unfold wrS; rw [List.length_append, apL_len]
theorem szs_wr (fl : List (ByteArray × ByteArray)) : szs (wrS fl) = szs (apL fl) + szs (biS fl) := by unfold wrS szs; rw [List.map_append, List.sum_append]
/-- The three variables that write's deferred function sees. -/
structure WV (w : World) (gs ge gl sb j : Nat) (ev : Value) : Prop where
  s : w.heap[gs]? = some (.cells #[.pointer (some ⟨sb, 0, none⟩)] 66 (0, 0))
  e : w.heap[ge]? = some (.cells #[ev] 96 (0, 0))
  l : w.heap[gl]? = some (.cells #[.int .i64 ((j : Nat) : Int)] 3 (0, 0))
theorem WV.later {w w' : World} {gs ge gl sb j : Nat} {ev : Value} (h : WV w gs ge gl sb j ev) (hb : Below w.heap.size w w') : WV w' gs ge gl sb j ev :=
  ⟨(hb.block _ (lt_of_row h.s)).trans h.s, (hb.block _ (lt_of_row h.e)).trans h.e, (hb.block _ (lt_of_row h.l)).trans h.l⟩
theorem WV.go {w w' : World} {gs ge gl sb j : Nat} {ev : Value} {s s' : PSt} (h : WV w gs ge gl sb j ev) (hi : s.In w) (hg : PGo s s' w w') : WV w' gs ge gl sb j ev :=
  ⟨hg.keeps hi h.s (by decide) (by decide) (by decide) (by decide), hg.keeps hi h.e (by decide) (by decide) (by decide) (by decide), hg.keeps hi h.l (by decide) (by decide) (by decide) (by decide)⟩
theorem WV.setL {w : World} {gs ge gl sb j : Nat} {ev : Value} (h : WV w gs ge gl sb j ev) (j' : Nat) : WV (w.setCell ⟨gl, 0, none⟩ (.int .i64 ((j' : Nat) : Int))) gs ge gl sb j' ev :=
  ⟨(heap_setCell_other _ _ _ _ (by simpa using type_ne h.s h.l (by decide))).trans h.s, (heap_setCell_other _ _ _ _ (by simpa using type_ne h.e h.l (by decide))).trans h.e, by rw [heap_setCell_same _ gl 0 _ _ _ h.l]; rfl⟩
theorem WV.setE {w : World} {gs ge gl sb j : Nat} {ev : Value} (h : WV w gs ge gl sb j ev) (ev' : Value) : WV (w.setCell ⟨ge, 0, none⟩ ev') gs ge gl sb j ev' :=
  ⟨(heap_setCell_other _ _ _ _ (by simpa using type_ne h.s h.e (by decide))).trans h.s, by rw [heap_setCell_same _ ge 0 _ _ _ h.e]; rfl, (heap_setCell_other _ _ _ _ (by simpa using type_ne h.l h.e (by decide))).trans h.l⟩
/-- What a round of write reads. -/
def W4 (w : World) (gs gl sb xb b j : Nat) (fb : ByteArray) : Prop := w.cell? ⟨gs, 0, none⟩ = some (.pointer (some ⟨sb, 0, none⟩)) ∧ w.cell? ⟨sb, 0, none⟩ = some (.pointer (some ⟨b, 0, none⟩)) ∧ w.cell? ⟨gl, 0, none⟩ = some (.int .i64 ((j : Nat) : Int)) ∧ w.cell? ⟨xb, 1, none⟩ = some (.string fb)
theorem w4_of {w : World} {gs ge gl sb xb b j : Nat} {ev : Value} {fp fb : ByteArray} (h1 : WV w gs ge gl sb j ev) (h2 : SB w sb b) (h3 : w.heap[xb]? = some (.cells #[.string fp, .string fb] 203 (0, 0))) : W4 w gs gl sb xb b j fb := by
  obtain ⟨cv, tv, h2⟩ := h2
  exact ⟨cell_of_row _ _ 0 _ _ _ h1.s, cell_of_row _ _ 0 _ _ _ h2, cell_of_row _ _ 0 _ _ _ h1.l, cell_of_row _ _ 1 _ _ _ h3⟩
theorem w4_go {w w' : World} {gs ge gl sb xb j : Nat} {s s' : PSt} {ev : Value} {fp fb : ByteArray} (h1 : WV w gs ge gl sb j ev) (h2 : SB w sb s.b) (h3 : w.heap[xb]? = some (.cells #[.string fp, .string fb] 203 (0, 0))) (hi : s.In w) (hg : PGo s s' w w') : W4 w' gs gl sb xb s.b j fb := by
  have h4 := h2.go hi hg
  rw [hg.b] at h4
  exact w4_of (h1.go hi hg) h4 (hg.keeps hi h3 (by decide) (by decide) (by decide) (by decide))
set_option maxHeartbeats 4000000 in
set_option maxRecDepth 100000 in
theorem write_any (sb : Nat) (s : PSt) (v : Value) (fl : List (ByteArray × ByteArray)) (w : World) {L C B : Nat} (h : On w sb s) (hfl : FlAt w v fl) (hf : DFit s.ds L C B) (hb : Bud (L + (wrS fl).length + fl.length + 1) (C + (wrS fl).length + fl.length + 1) (B + szs (wrS fl))) (hn0 : fl ≠ []) (hn : fl.length ≤ 300) (hp : ∀ f ∈ fl, f.1.size ≤ 1000 ∧ f.2.size ≤ 1000000) :
    Calls Tryz.prog 127 #[.pointer (some ⟨sb, 0, none⟩), v] w fun e w' => ∃ ev k s', e = .returned ev ∧ ErrV w' ev k ∧ PGo s s' w w' ∧ WrR s.ds fl k s'.ds := by
  have H := hide h
  have HF := hide hf
  have HB := hide hb
  have HFL := hide hfl
  have HP := hide hp
  obtain ⟨oa, c, rfl, -⟩ := hfl
  obtain ⟨n, hnl⟩ : ∃ n, n = fl.length := ⟨_, rfl⟩
  have hnp : 0 < n := by rw [hnl]; exact List.length_pos_iff.2 hn0
  have hz : (((n : Nat) : Int) == 0) = false := by simp; omega
  have hz2 : ¬ ((n : Nat) : Int) = 0 := by omega
  rw [← hnl] at HFL hn ⊢
  have HN := hide hnl
  have hmf : ∀ (fn : Fn) (first cap : Array Value) (w : World), (Instr.makeFunc fn first cap).run Tryz.prog w = .ok (.func fn first cap) w := fun _ _ _ _ => rfl
  have hb3 := three_below w (.cells #[.pointer (some ⟨sb, 0, none⟩)] 66) (.cells #[.nilIface] 96) (.cells #[.int .i64 0] 3)
  have k0 := three0 w #[.pointer (some ⟨sb, 0, none⟩)] 66 (.cells #[.nilIface] 96) (.cells #[.int .i64 0] 3)
  have k1 := three1 w (.cells #[.pointer (some ⟨sb, 0, none⟩)] 66) #[.nilIface] 96 (.cells #[.int .i64 0] 3)
  have k2 := three2 w (.cells #[.pointer (some ⟨sb, 0, none⟩)] 66) (.cells #[.nilIface] 96) #[.int .i64 0] 3
  have HB3 := hide hb3
  have HK0 := hide k0
  have HK1 := hide k1
  have HK2 := hide k2
  clear h hf hb hp hnl hb3 k0 k1 k2 hn0
  go_enter_defers Tryz.func127, Tryz.ntmps127
  go_wp2_with fail
  obtain ⟨gs, hgs⟩ : ∃ gs, gs = w.heap.size := ⟨_, rfl⟩
  obtain ⟨ge, hge⟩ : ∃ ge, ge = w.heap.size + 1 := ⟨_, rfl⟩
  obtain ⟨gl, hgl⟩ : ∃ gl, gl = w.heap.size + 1 + 1 := ⟨_, rfl⟩
  have hwv0 : WV (((w.alloc (.cells #[.pointer (some ⟨sb, 0, none⟩)] 66)).alloc (.cells #[.nilIface] 96)).alloc (.cells #[.int .i64 0] 3)) gs ge gl sb 0 .nilIface := by
    rw [hgs, hge, hgl]
    exact ⟨HK0.out, HK1.out, HK2.out⟩
  obtain ⟨w0, hw0⟩ : ∃ w0, w0 = (((w.alloc (.cells #[.pointer (some ⟨sb, 0, none⟩)] 66)).alloc (.cells #[.nilIface] 96)).alloc (.cells #[.int .i64 0] 3)) := ⟨_, rfl⟩
  have hb0 := HB3.out
  rw [← hw0] at hwv0 hb0 ⊢
  rw [← hgl, ← hge, ← hgs]
  have hnew : w.heap.size ≤ ge ∧ w.heap.size ≤ gl := by omega
  have HNEW := hide hnew
  have HWV0 := hide hwv0
  have HB0 := hide hb0
  clear hw0 hwv0 hb0 hgs hge hgl hnew HK0 HK1 HK2 HB3 hz hz2 hmf
  go_loopw [15] (fun iv wr => ∃ (j : Nat) (s1 : PSt), j ≤ n ∧ iv = .int .i64 ((j : Nat) : Int) ∧ PGo s s1 w wr ∧ Ran s.ds ((apL fl).take j) 0 j s1.ds ∧ WV wr gs ge gl sb j .nilIface) (fun iv _ => n - (intOf iv).toNat)
  case atStart => exact ⟨0, s, Nat.zero_le _, rfl, PGo.refl H.out.inn HB0.out, ⟨rfl, rfl, rfl⟩, HWV0.out⟩
  case round =>
    clear HWV0 HB0
    obtain ⟨j, s1, hj, rfl, hgo, hr, hwv⟩ := hrel
    have hon := H.out.go hgo
    have HON := hide hon
    have HGO := hide hgo
    have HR := hide hr
    have HF1 := hide ((HF.out.take hr).mono (L' := L + (wrS fl).length) (C' := C + (wrS fl).length) (B' := B + szs (wrS fl)) (by rw [wrS_len, apL_len]; omega) (by rw [wrS_len, apL_len]; omega) (by rw [szs_wr]; omega))
    have hflr := HFL.out.go H.out.inn hgo
    have HWV := hide hwv
    obtain ⟨cv, tv, hbl⟩ := hon.sb
    have c0 : wr.cell? ⟨sb, 0, none⟩ = some (.pointer (some ⟨s1.b, 0, none⟩)) := cell_of_row _ _ 0 _ _ _ hbl
    have g0 : wr.cell? ⟨gs, 0, none⟩ = some (.pointer (some ⟨sb, 0, none⟩)) := cell_of_row _ _ 0 _ _ _ hwv.s
    have l0 : wr.cell? ⟨gl, 0, none⟩ = some (.int .i64 ((j : Nat) : Int)) := cell_of_row _ _ 0 _ _ _ hwv.l
    clear hon hgo hr hbl hwv
    by_cases hlt : j < n
    · have hps := bPath_size j (by omega)
      have hil : j < fl.length := by rw [← HN.out]; exact hlt
      obtain ⟨oa2, cc2, hv2, hk2⟩ := hflr
      injection hv2 with hv2 hv3 hv4
      subst hv2
      clear hv3 hv4
      obtain ⟨g, cur, fr, rfl, hgh, r0, r1⟩ := hk2 j hil
      have hmem : fl.getD j f0 ∈ fl := by rw [List.getD_eq_getElem?_getD, List.getElem?_eq_getElem hil]; exact List.getElem_mem hil
      have hfs := HP.out _ hmem
      have HAT := hide (apL_at fl j hil)
      generalize fl.getD j f0 = ff at r0 r1 hfs HAT
      obtain ⟨fp, fb⟩ := ff
      dsimp only at r0 r1 hfs HAT
      have hbo : Below wr.heap.size wr (wr.alloc (.cells #[.string fp, .string fb] 203)) := (Below.refl _ _).alloc (Nat.le_refl _) _
      have cx := cell_later hbo c0
      have gx := cell_later hbo g0
      have lx := cell_later hbo l0
      obtain ⟨X, hX⟩ : ∃ X, X = wr.alloc (.cells #[.string fp, .string fb] 203) := ⟨_, rfl⟩
      have hxr : X.heap[wr.heap.size]? = some (.cells #[.string fp, .string fb] 203 (0, 0)) := by rw [hX]; exact heap_alloc_new _ _
      rw [← hX] at hbo cx gx lx
      have HBO := hide hbo
      have HBP := hide (besidePath_any j (by omega) X.drew ((HON.out.later hbo).later (Below.refl _ _).drew).gl.tab)
      have HAP := hide (fun (w' : World) (hb' : Below wr.heap.size wr w') => dk_ap (p := bPath j) (q := fb) (HON.out.inn.later hb') HF1.out (HB.out.mono (by omega) (by omega) (Nat.le_refl _)) (by omega) hfs.2)
      have x1 : X.cell? ⟨wr.heap.size, 1, none⟩ = some (.string fb) := cell_of_row _ _ 1 _ _ _ hxr
      have HXR := hide hxr
      have HXX := hide hX
      clear hps hk2 hgh hmem hfs hbo hxr hX
      go_upto_region 8 with fail
      rw [← HXX.out]
      clear HXX c0 r0 r1 g0 l0
      obtain ⟨xb, hxb⟩ : ∃ xb, xb = wr.heap.size := ⟨_, rfl⟩
      rw [← hxb] at x1 HXR ⊢
      clear hxb
      go_region_held3 (fun w' => w'.cell? ⟨gs, 0, none⟩ = some (.pointer (some ⟨sb, 0, none⟩)) ∧ w'.cell? ⟨sb, 0, none⟩ = some (.pointer (some ⟨s1.b, 0, none⟩)) ∧ w'.cell? ⟨gl, 0, none⟩ = some (.int .i64 ((j : Nat) : Int)) ∧ w'.cell? ⟨xb, 1, none⟩ = some (.string fb)) (first | go_keep | exact hS3 | exact hS2) ((first | (go_at_call 128; refine (HBP.out).mono ?_; rintro _ w2 ⟨rfl, hb2⟩; have hb3 : Below X.heap.size X w2 := ((Below.refl X.heap.size X).drew).trans hb2; have hb4 : Below wr.heap.size wr w2 := HBO.out.trans (hb3.mono HBO.out.size); have hS2 := w4_of (HWV.out.later hb4) (HON.out.sb.later hb4) ((hb3.block _ (lt_of_row HXR.out)).trans HXR.out)) | (go_at_call 176; refine (HAP.out _ hb4).mono ?_; rintro _ w3 ⟨ev, k, s2, rfl, hv, hg2, hst⟩; have hS3 := w4_go (HWV.out.later hb4) (HON.out.sb.later hb4) ((hb3.block _ (lt_of_row HXR.out)).trans HXR.out) (HON.out.inn.later hb4) hg2)))
      have hg3 := HGO.out.trans ((PGo.refl HON.out.inn hb4).trans hg2)
      have hwv3 := (HWV.out.later hb4).go (HON.out.inn.later hb4) hg2
      have HG3 := hide hg3
      have HWV3 := hide hwv3
      have HST := hide hst
      have l3 : w3.cell? ⟨gl, 0, none⟩ = some (.int .i64 ((j : Nat) : Int)) := cell_of_row _ _ 0 _ _ _ hwv3.l
      have lf : w3.frozen? ⟨gl, 0, none⟩ = false := frozen_of_row _ _ 0 _ _ hwv3.l
      have e3 : w3.cell? ⟨ge, 0, none⟩ = some .nilIface := cell_of_row _ _ 0 _ _ _ hwv3.e
      have ef : w3.frozen? ⟨ge, 0, none⟩ = false := frozen_of_row _ _ 0 _ _ hwv3.e
      clear hg2 hst hb2 hb3 hb4 hS2 hS3 cx gx lx x1 HBP HAP hg3 hwv3
      rcases hv with ⟨hk0, rfl⟩ | ⟨hk0, sv, nm, rfl, hse⟩
      · have HNX := hide ((ran_next HR.out HAT.out HST.out).1 hk0)
        clear hk0 e3 ef
        go_wp2_with fail
        have ecast : (((j : Nat) : Int) + 1) = (((j + 1 : Nat) : Nat) : Int) := by omega
        refine ⟨⟨j + 1, s2, hlt, by simp, ?_, HNX.out, ?_⟩, by simp only [intOf]; omega⟩
        · exact HG3.out.setNew HNEW.out.2 HWV3.out.l (by decide) (by decide) (by decide) (by decide)
        · rw [ecast]
          exact HWV3.out.setL (j + 1)
      · have HE := hide hse
        have HRN := hide (ran_next2 HR.out HAT.out HST.out hk0)
        have HK := hide hk0
        clear hse hk0 l3 lf
        go_wp2_with fail
        have hg4 := HG3.out.setNew (v := .iface 150 (.pointer (some ⟨sv, 0, none⟩))) (i := 0) HNEW.out.1 HWV3.out.e (by decide) (by decide) (by decide) (by decide)
        have hwv4 := HWV3.out.setE (.iface 150 (.pointer (some ⟨sv, 0, none⟩)))
        have hrn : Ran s.ds (wrS fl) k j s2.ds := HRN.out.stop _ HK.out
        refine leaves_cons (f := 174) (args := #[.pointer (some ⟨ge, 0, none⟩), .pointer (some ⟨gs, 0, none⟩), .pointer (some ⟨gl, 0, none⟩)]) (by simp) (by simp [go_sem]) ?_
        refine (writeD_err ge gs gl sb j s2 sv _ _ (cell_of_row _ _ 0 _ _ _ hwv4.e) (cell_of_row _ _ 0 _ _ _ hwv4.s) (cell_of_row _ _ 0 _ _ _ hwv4.l) (H.out.go hg4) (HF.out.ran hrn) (HB.out.mono (by rw [← HN.out]; omega) (by rw [← HN.out]; omega) (Nat.le_refl _)) (by omega)).mono ?_
        rintro e u' w5 ⟨rfl, rfl, s5, h5, h6⟩
        have hwv5 := hwv4.go hg4.inn h5
        have c5 : w5.cell? ⟨ge, 0, none⟩ = some (.iface 150 (.pointer (some ⟨sv, 0, none⟩))) := cell_of_row _ _ 0 _ _ _ hwv5.e
        have hse5 : w5.heap[sv]? = some (.cells #[.string nm, refV k] 152 (0, 0)) := h5.keeps hg4.inn ((heap_setCell_other _ _ _ _ (by simpa using type_ne HE.out HWV3.out.e (by decide))).trans HE.out) (by decide) (by decide) (by decide) (by decide)
        refine ⟨.iface 150 (.pointer (some ⟨sv, 0, none⟩)), ?_, _, k, s5, rfl, .inr ⟨HK.out, sv, nm, rfl, hse5⟩, hg4.trans h5, j, s2.ds, hrn, .inr ⟨HK.out, by rw [Nat.min_eq_left (by rw [← HN.out]; exact hj)]; exact h6⟩⟩
        simp [results, Tryz.results127, go_sem, c5]
    · have hjn : j = n := by omega
      subst hjn
      have d1 : decide (((j : Nat) : Int) < ((j : Nat) : Int)) = false := decide_eq_false (by omega)
      have hran : Ran s.ds (apL fl) 0 j s1.ds := by
        have h7 := HR.out
        rwa [List.take_of_length_le (by rw [apL_len, ← HN.out]; exact Nat.le_refl _)] at h7
      have HRAN := hide hran
      have hf2 := HF.out.ran hran
      have HBI := hide (bringIn_any sb s1 (.slice oa j c) fl wr HON.out hflr (HF.out.ran hran) (HB.out.mono (by rw [wrS_len, apL_len]; omega) (by rw [wrS_len, apL_len]; omega) (by rw [szs_wr]; omega)) (by rw [← HN.out]; omega) (fun f hf => (HP.out f hf).1))
      clear hflr hran hf2 l0 c0
      go_wp2_with fail
      refine HBI.out.mono ?_
      rintro _ w3 ⟨ev, k, m, s2, rfl, hv, hg2, hst⟩
      dsimp only
      have hg3 := HGO.out.trans hg2
      have hwv3 := HWV.out.go HON.out.inn hg2
      have HG3 := hide hg3
      have HWV3 := hide hwv3
      have hrn : Ran s.ds (wrS fl) k (j + m) s2.ds := HRAN.out.app hst
      have HRN := hide hrn
      have e3 : w3.cell? ⟨ge, 0, none⟩ = some .nilIface := cell_of_row _ _ 0 _ _ _ hwv3.e
      have ef : w3.frozen? ⟨ge, 0, none⟩ = false := frozen_of_row _ _ 0 _ _ hwv3.e
      clear hg2 hst hg3 hwv3 hrn g0
      rcases hv with ⟨hk0, rfl⟩ | ⟨hk0, sv, nm, rfl, hse⟩
      · have HK := hide hk0
        clear hk0
        go_wp2_with fail
        have hg4 := HG3.out.setNew (v := .nilIface) (i := 0) HNEW.out.1 HWV3.out.e (by decide) (by decide) (by decide) (by decide)
        have hwv4 := HWV3.out.setE .nilIface
        have c5 := cell_of_row _ _ 0 _ _ _ hwv4.e
        refine leaves_cons (f := 174) (args := #[.pointer (some ⟨ge, 0, none⟩), .pointer (some ⟨gs, 0, none⟩), .pointer (some ⟨gl, 0, none⟩)]) (by simp) (by simp [go_sem]) ?_
        refine (writeD_ok ge gs gl _ _ c5).mono ?_
        rintro e u' w5 ⟨rfl, rfl, rfl⟩
        refine ⟨.nilIface, ?_, _, k, s2, rfl, .inl ⟨HK.out, rfl⟩, hg4, j + m, s2.ds, HRN.out, .inl ⟨HK.out, rfl⟩⟩
        have c6 : (w3.setCell ⟨ge, 0, none⟩ Value.nilIface).cell? ⟨ge, 0, none⟩ = some .nilIface := c5
        simp [results, Tryz.results127, go_sem, c6]
      · have HE := hide hse
        have HK := hide hk0
        clear hse hk0
        go_wp2_with fail
        have hg4 := HG3.out.setNew (v := .iface 150 (.pointer (some ⟨sv, 0, none⟩))) (i := 0) HNEW.out.1 HWV3.out.e (by decide) (by decide) (by decide) (by decide)
        have hwv4 := HWV3.out.setE (.iface 150 (.pointer (some ⟨sv, 0, none⟩)))
        have hrn := HRN.out
        refine leaves_cons (f := 174) (args := #[.pointer (some ⟨ge, 0, none⟩), .pointer (some ⟨gs, 0, none⟩), .pointer (some ⟨gl, 0, none⟩)]) (by simp) (by simp [go_sem]) ?_
        refine (writeD_err ge gs gl sb j s2 sv _ _ (cell_of_row _ _ 0 _ _ _ hwv4.e) (cell_of_row _ _ 0 _ _ _ hwv4.s) (cell_of_row _ _ 0 _ _ _ hwv4.l) (H.out.go hg4) (HF.out.ran hrn) (HB.out.mono (by rw [← HN.out]; omega) (by rw [← HN.out]; omega) (Nat.le_refl _)) (by omega)).mono ?_
        rintro e u' w5 ⟨rfl, rfl, s5, h5, h6⟩
        have hwv5 := hwv4.go hg4.inn h5
        have c5 : w5.cell? ⟨ge, 0, none⟩ = some (.iface 150 (.pointer (some ⟨sv, 0, none⟩))) := cell_of_row _ _ 0 _ _ _ hwv5.e
        have hse5 : w5.heap[sv]? = some (.cells #[.string nm, refV k] 152 (0, 0)) := h5.keeps hg4.inn ((heap_setCell_other _ _ _ _ (by simpa using type_ne HE.out HWV3.out.e (by decide))).trans HE.out) (by decide) (by decide) (by decide) (by decide)
        refine ⟨.iface 150 (.pointer (some ⟨sv, 0, none⟩)), ?_, _, k, s5, rfl, .inr ⟨HK.out, sv, nm, rfl, hse5⟩, hg4.trans h5, j + m, s2.ds, hrn, .inr ⟨HK.out, by rw [← HN.out, Nat.min_eq_right (by omega)]; exact h6⟩⟩
        simp [results, Tryz.results127, go_sem, c5]
end Go.Proofs.YteicpbcddjjceaaGreatDoor

/-
  PROVED HERE: what the disk's call Fit answers; the functions that begin a store hands on.
-/
namespace Go.Proofs.YteicpbcddjjceaaGreatDoor
open Go.RowKit
set_option maxHeartbeats 1000000 in
set_option maxRecDepth 100000 in
theorem dkFit (s : PSt) (n : Int) (w : World) (h : s.In w) :
    Calls Tryz.prog 124 #[.pointer (some ⟨s.b, 0, none⟩), .int .i64 n] w fun e w' => ∃ v k, e = .returned v ∧ ErrV w' v k ∧ (k = 0 ↔ n ≤ s.R.room) ∧ PGo s s w w' := by
  have c0 : w.cell? ⟨s.b, 0, none⟩ = some (.int .i64 s.R.room) := cell_of_row _ _ 0 _ _ _ h.is.blk
  have H := hide h
  clear h
  by_cases hn : s.R.room < n
  · have key : Calls Tryz.prog 124 #[.pointer (some ⟨s.b, 0, none⟩), .int .i64 n] w fun e w' => ∃ v, e = .returned v ∧ stepE w' v 4 ∧ Below w.heap.size w w' := by
      have hfin : stepE (w.alloc (.cells #[.string ⟨#[70, 105, 116]⟩, .iface 147 (.int .i64 4)] 152)) (.iface 150 (.pointer (some ⟨w.heap.size, 0, none⟩))) 4 := ⟨_, _, rfl, heap_alloc_new _ _⟩
      have HFIN := hide hfin
      have hd : decide (s.R.room < n) = true := decide_eq_true hn
      clear hfin
      go_enter Tryz.func124, Tryz.ntmps124
      go_wp2_with fail
      go_ret
      exact ⟨_, rfl, HFIN.out, (Below.refl _ _).alloc (Nat.le_refl _) _⟩
    refine key.mono ?_
    rintro e w' ⟨v, rfl, h1, h2⟩
    exact ⟨v, 4, rfl, .inr ⟨by decide, h1⟩, ⟨fun h => absurd h (by decide), fun h => absurd hn (by omega)⟩, PGo.refl H.out h2⟩
  · have key : Calls Tryz.prog 124 #[.pointer (some ⟨s.b, 0, none⟩), .int .i64 n] w fun e w' => e = .returned .nilIface ∧ w' = w := by
      have hd : decide (s.R.room < n) = false := decide_eq_false hn
      go_enter Tryz.func124, Tryz.ntmps124
      go_wp2_with fail
      go_ret
      exact ⟨rfl, rfl⟩
    refine key.mono ?_
    rintro e w' ⟨rfl, rfl⟩
    exact ⟨_, 0, rfl, .inl ⟨rfl, rfl⟩, ⟨fun _ => by omega, fun _ => rfl⟩, PGo.refl H.out (Below.refl _ _)⟩
/-- Every path is removed where a store begins. -/
theorem begin1_any (p : ByteArray) (w : World) : Calls Tryz.prog 126 #[.string p] w fun e w' => e = .returned (.bool true) ∧ w' = w := by
  go_enter Tryz.func126, Tryz.ntmps126
  go_wp2_with fail
  go_ret
  exact ⟨rfl, rfl⟩
end Go.Proofs.YteicpbcddjjceaaGreatDoor
