/-
  PROVED HERE: what bringIn of a store does: the files that are laid are synced, each goes to its path, and the paths are synced; up to the first step that is refused.
-/
import Derived.Test.YteicpbcddjjceaaGreatDoorStBack
namespace Go.Proofs.YteicpbcddjjceaaGreatDoor
open Go.RowKit
theorem ran_next {S : List Stp} {D D1 D2 : DS} {i m : Nat} {t : Stp} {k : Int} (h : Ran D (S.take i) 0 m D1) (ht : S[i]? = some t) (hs : stR D1 t k D2) : (k = 0 → Ran D (S.take (i + 1)) 0 (m + 1) D2) ∧ (k ≠ 0 → ∃ n, Ran D S k n D2) := by
  have hi : i < S.length := (List.getElem?_eq_some_iff.1 ht).1
  have e1 : S.take (i + 1) = S.take i ++ [t] := by
    rw [List.take_succ_eq_append_getElem hi]
    rw [List.getElem?_eq_getElem hi] at ht
    rw [Option.some.inj ht]
  have h1 := h.app (Ran.one hs)
  constructor
  · intro hk
    rw [e1]
    rw [if_pos hk, hk] at h1
    exact h1
  · intro hk
    have h2 := h1.stop (S.drop (i + 1)) hk
    rw [← e1, List.take_append_drop] at h2
    exact ⟨_, h2⟩
theorem szs_take (S : List Stp) : ∀ i, szs (S.take i) ≤ szs S := by
  induction S with
  | nil => intro i; simp [szs]
  | cons t S ih =>
    intro i
    cases i with
    | zero => simp [szs]
    | succ i =>
      have := ih i
      unfold szs at this ⊢
      simp only [List.take_succ_cons, List.map_cons, List.sum_cons]
      omega
theorem DFit.take {S : List Stp} {D D1 : DS} {L C B i m : Nat} {k : Int} (h : DFit D L C B) (hr : Ran D (S.take i) k m D1) : DFit D1 (L + S.length) (C + S.length) (B + szs S) :=
  (h.ran hr).mono (by rw [List.length_take]; omega) (by rw [List.length_take]; omega) (by have := szs_take S i; omega)
/-- What bringIn does. -/
def biS (fl : List (ByteArray × ByteArray)) : List Stp := (List.range fl.length).map (fun t => sSy (bPath t)) ++ ((List.range fl.length).map (fun t => sRn (bPath t) (fl.getD t f0).1) ++ [sSd])
theorem biS_len (fl : List (ByteArray × ByteArray)) : (biS fl).length = fl.length + (fl.length + 1) := by simp [biS]
theorem biS_sy (fl : List (ByteArray × ByteArray)) (j : Nat) (hj : j < fl.length) : (biS fl)[j]? = some (sSy (bPath j)) := by
  unfold biS
  rw [List.getElem?_append_left (by simpa using hj)]
  simp [hj]
theorem biS_rn (fl : List (ByteArray × ByteArray)) (j : Nat) (hj : j < fl.length) : (biS fl)[fl.length + j]? = some (sRn (bPath j) (fl.getD j f0).1) := by
  unfold biS
  rw [List.getElem?_append_right (by simp), List.length_map, List.length_range, Nat.add_sub_cancel_left, List.getElem?_append_left (by simpa using hj)]
  simp [hj]
theorem biS_sd (fl : List (ByteArray × ByteArray)) : (biS fl)[fl.length + fl.length]? = some sSd := by
  unfold biS
  rw [List.getElem?_append_right (by simp), List.length_map, List.length_range, Nat.add_sub_cancel_left, List.getElem?_append_right (by simp)]
  simp
theorem szs_bi (fl : List (ByteArray × ByteArray)) : szs (biS fl) = 0 := by
  have h1 : ∀ l : List Nat, szs (l.map (fun t => sSy (bPath t))) = 0 := fun l => by
    induction l with
    | nil => rfl
    | cons a l ih => unfold szs at ih ⊢; simp only [List.map_cons, List.sum_cons, ih]; rfl
  have h2 : ∀ l : List Nat, szs (l.map (fun t => sRn (bPath t) (fl.getD t f0).1)) = 0 := fun l => by
    induction l with
    | nil => rfl
    | cons a l ih => unfold szs at ih ⊢; simp only [List.map_cons, List.sum_cons, ih]; rfl
  have h3 := h1 (List.range fl.length)
  have h4 := h2 (List.range fl.length)
  unfold biS
  unfold szs at h3 h4 ⊢
  rw [List.map_append, List.map_append, List.sum_append, List.sum_append, h3, h4]
  rfl
theorem dk_sy {s : PSt} {w : World} {p : ByteArray} {L C B : Nat} (h : s.In w) (hf : DFit s.ds L C B) (hb : Bud L C B) (hp : p.size ≤ 9223372036854775807) :
    Calls Tryz.prog 214 #[.pointer (some ⟨s.b, 0, none⟩), .string p] w (DRs s w fun k D' => stR s.ds (sSy p) k D') := dkSync s p w h hf hb hp
theorem dk_rn {s : PSt} {w : World} {p q : ByteArray} {L C B : Nat} (h : s.In w) (hf : DFit s.ds L C B) (hb : Bud L C B) (hp : p.size ≤ 9223372036854775807) (hq : q.size ≤ 9223372036854775807) :
    Calls Tryz.prog 130 #[.pointer (some ⟨s.b, 0, none⟩), .string p, .string q] w (DRs s w fun k D' => stR s.ds (sRn p q) k D') := dkRename s p q w h hf hb hp hq
theorem dk_sd {s : PSt} {w : World} {L C B : Nat} (h : s.In w) (hf : DFit s.ds L C B) (hb : Bud L C B) :
    Calls Tryz.prog 134 #[.pointer (some ⟨s.b, 0, none⟩)] w (DRs s w fun k D' => stR s.ds sSd k D') := dkSyncDir s w h hf hb
set_option maxHeartbeats 4000000 in
set_option maxRecDepth 100000 in
theorem bringIn_any (sb : Nat) (s : PSt) (v : Value) (fl : List (ByteArray × ByteArray)) (w : World) {L C B : Nat} (h : On w sb s) (hfl : FlAt w v fl) (hf : DFit s.ds L C B) (hb : Bud (L + (biS fl).length) (C + (biS fl).length) (B + szs (biS fl))) (hn : fl.length ≤ 300) (hp : ∀ f ∈ fl, f.1.size ≤ 1000) :
    Calls Tryz.prog 177 #[.pointer (some ⟨sb, 0, none⟩), v] w fun e w' => ∃ ev k m s', e = .returned ev ∧ ErrV w' ev k ∧ PGo s s' w w' ∧ Ran s.ds (biS fl) k m s'.ds := by
  have H := hide h
  have HF := hide hf
  have HB := hide hb
  have HFL := hide hfl
  have HP := hide hp
  obtain ⟨oa, c, rfl, -⟩ := hfl
  obtain ⟨n, hnl⟩ : ∃ n, n = fl.length := ⟨_, rfl⟩
  rw [← hnl] at HFL hn ⊢
  have HN := hide hnl
  clear h hf hb hp hnl
  go_enter Tryz.func177, Tryz.ntmps177
  go_wp2_with fail
  go_loopw [12] (fun iv wr => ∃ (j : Nat) (s1 : PSt), j ≤ n ∧ iv = .int .i64 ((j : Nat) : Int) ∧ PGo s s1 w wr ∧ Ran s.ds ((biS fl).take j) 0 j s1.ds) (fun iv _ => n - (intOf iv).toNat)
  case atStart => exact ⟨0, s, Nat.zero_le _, rfl, PGo.refl H.out.inn (Below.refl _ _), rfl, rfl, rfl⟩
  case round =>
    obtain ⟨j, s1, hj, rfl, hgo, hr⟩ := hrel
    have hon := H.out.go hgo
    have HON := hide hon
    have HGO := hide hgo
    have HR := hide hr
    have HF1 := hide (HF.out.take hr)
    obtain ⟨cv, tv, hbl⟩ := hon.sb
    have c0 : wr.cell? ⟨sb, 0, none⟩ = some (.pointer (some ⟨s1.b, 0, none⟩)) := cell_of_row _ _ 0 _ _ _ hbl
    clear hon hgo hr hbl
    by_cases hlt : j < n
    · have hps := bPath_size j (by omega)
      have HBP := hide (besidePath_any j (by omega) wr.drew (HON.out.later (Below.refl _ _).drew).gl.tab)
      have HSY := hide (fun (w' : World) (hb' : Below wr.heap.size wr w') => dk_sy (p := bPath j) (HON.out.inn.later hb') HF1.out HB.out (by omega))
      clear hps
      go_wp2_with fail
      go_region_with (first | (go_at_call 128; refine (HBP.out).mono ?_; rintro _ w2 ⟨rfl, hb2⟩; have hb3 : Below wr.heap.size wr w2 := ((Below.refl wr.heap.size wr).drew).trans hb2; have c1 := cell_later hb3 c0) | (go_at_call 214; refine (HSY.out _ hb3).mono ?_; rintro _ w3 ⟨ev, k, s2, rfl, hv, hg2, hst⟩))
      all_goals
        have HG2 := hide (HGO.out.trans ((PGo.refl HON.out.inn hb3).trans hg2))
        have HNX := hide (ran_next HR.out (biS_sy fl j (by rw [← HN.out]; exact hlt)) hst)
        clear hg2 hst hb2 hb3 c0 c1 HBP HSY
        rcases hv with ⟨hk0, rfl⟩ | ⟨hk0, sv, nm, rfl, hse⟩
        · have HNX0 := hide (HNX.out.1 hk0)
          clear HNX hk0
          go_wp2_with fail
          exact ⟨⟨j + 1, s2, hlt, by simp, HG2.out, HNX0.out⟩, by simp only [intOf]; omega⟩
        · have HE := hide hse
          clear hse
          go_wp2_with fail
          go_ret
          obtain ⟨m, hm⟩ := HNX.out.2 hk0
          exact ⟨_, k, m, s2, rfl, .inr ⟨hk0, sv, nm, rfl, HE.out⟩, HG2.out, hm⟩
    · have hjn : j = n := by omega
      subst hjn
      have d1 : decide (((j : Nat) : Int) < ((j : Nat) : Int)) = false := decide_eq_false (by omega)
      clear c0
      go_wp2_with fail
      go_loopw [28] (fun iv wq => ∃ (i : Nat) (s1 : PSt), i ≤ j ∧ iv = .int .i64 ((i : Nat) : Int) ∧ PGo s s1 w wq ∧ Ran s.ds ((biS fl).take (j + i)) 0 (j + i) s1.ds) (fun iv _ => j - (intOf iv).toNat)
      case atStart => exact ⟨0, s1, Nat.zero_le _, rfl, HGO.out, HR.out⟩
      case round =>
        clear HON HGO HR HF1
        obtain ⟨i, s2, hi, rfl, hgo, hr⟩ := hrel
        have hon := H.out.go hgo
        have HON := hide hon
        have HGO := hide hgo
        have HR := hide hr
        have HF1 := hide (HF.out.take hr)
        have hflr := HFL.out.go H.out.inn hgo
        obtain ⟨cv, tv, hbl⟩ := hon.sb
        have c0 : wr.cell? ⟨sb, 0, none⟩ = some (.pointer (some ⟨s2.b, 0, none⟩)) := cell_of_row _ _ 0 _ _ _ hbl
        clear hon hgo hr hbl
        by_cases hlt : i < j
        · have hps := bPath_size i (by omega)
          have hil : i < fl.length := by rw [← HN.out]; exact hlt
          obtain ⟨oa2, cc2, hv2, hk2⟩ := hflr
          injection hv2 with hv2 hv3 hv4
          subst hv2
          clear hv3 hv4
          obtain ⟨g, cur, fr, rfl, hgh, r0, r1⟩ := hk2 i hil
          have hmem : fl.getD i f0 ∈ fl := by rw [List.getD_eq_getElem?_getD, List.getElem?_eq_getElem hil]; exact List.getElem_mem hil
          have hfs := HP.out _ hmem
          have HRNX := hide (biS_rn fl i hil)
          generalize fl.getD i f0 = ff at r0 r1 hfs HRNX
          obtain ⟨fp, fb⟩ := ff
          dsimp only at r0 r1 hfs HRNX
          have hbo : Below wr.heap.size wr (wr.alloc (.cells #[.string fp, .string fb] 203)) := (Below.refl _ _).alloc (Nat.le_refl _) _
          have c0x := cell_later hbo c0
          obtain ⟨X, hX⟩ : ∃ X, X = wr.alloc (.cells #[.string fp, .string fb] 203) := ⟨_, rfl⟩
          have hxr : X.heap[wr.heap.size]? = some (.cells #[.string fp, .string fb] 203 (0, 0)) := by rw [hX]; exact heap_alloc_new _ _
          rw [← hX] at hbo c0x
          have HBO := hide hbo
          have HBP := hide (besidePath_any i (by omega) X.drew ((HON.out.later hbo).later (Below.refl _ _).drew).gl.tab)
          have HSY := hide (fun (w' : World) (hb' : Below wr.heap.size wr w') => dk_rn (p := bPath i) (q := fp) (HON.out.inn.later hb') HF1.out HB.out (by omega) (by omega))
          have x0 : X.cell? ⟨wr.heap.size, 0, none⟩ = some (.string fp) := cell_of_row _ _ 0 _ _ _ hxr
          have HXX := hide hX
          clear hps hk2 hgh hmem hfs hbo hxr hX
          go_upto_region 11 with fail
          rw [← HXX.out]
          clear HXX c0 r0 r1
          obtain ⟨xb, hxb⟩ : ∃ xb, xb = wr.heap.size := ⟨_, rfl⟩
          rw [← hxb] at x0 ⊢
          clear hxb
          go_region_with (first | (go_at_call 128; refine (HBP.out).mono ?_; rintro _ w2 ⟨rfl, hb2⟩; have hb3 : Below X.heap.size X w2 := ((Below.refl X.heap.size X).drew).trans hb2; have c1 := cell_later hb3 c0x; have x1 := cell_later hb3 x0) | (go_at_call 130; refine (HSY.out _ (HBO.out.trans (hb3.mono HBO.out.size))).mono ?_; rintro _ w3 ⟨ev, k, s3, rfl, hv, hg2, hst⟩))
          all_goals
            have HG2 := hide (HGO.out.trans ((PGo.refl HON.out.inn (HBO.out.trans (hb3.mono HBO.out.size))).trans hg2))
            have HNX := hide (ran_next HR.out (by rw [HN.out]; exact HRNX.out) hst)
            clear hg2 hst hb2 hb3 c0x c1 x0 x1 HBP HSY
            rcases hv with ⟨hk0, rfl⟩ | ⟨hk0, sv, nm, rfl, hse⟩
            · have HNX0 := hide (HNX.out.1 hk0)
              clear HNX hk0
              go_wp2_with fail
              exact ⟨⟨i + 1, s3, hlt, by simp, HG2.out, HNX0.out⟩, by simp only [intOf]; omega⟩
            · have HE := hide hse
              clear hse
              go_wp2_with fail
              go_ret
              obtain ⟨m, hm⟩ := HNX.out.2 hk0
              exact ⟨_, k, m, s3, rfl, .inr ⟨hk0, sv, nm, rfl, HE.out⟩, HG2.out, hm⟩
        · have hin : i = j := by omega
          subst hin
          have d2 : decide (((i : Nat) : Int) < ((i : Nat) : Int)) = false := decide_eq_false (by omega)
          have HSD := hide (dk_sd (s := s2) (w := wr) HON.out.inn HF1.out HB.out)
          clear hflr
          go_wp2_with fail
          refine HSD.out.mono ?_
          rintro _ w3 ⟨ev, k, s3, rfl, hv, hg2, hst⟩
          dsimp only
          have HG2 := hide (HGO.out.trans hg2)
          have HNX := hide (ran_next HR.out (by rw [HN.out]; exact biS_sd fl) hst)
          have HV := hide hv
          have hone : ∃ u, ev = .nilIface ∨ ev = .iface 150 u := by
            rcases hv with ⟨_, rfl⟩ | ⟨_, sv, nm, rfl, _⟩
            · exact ⟨.nilIface, .inl rfl⟩
            · exact ⟨_, .inr rfl⟩
          clear hg2 hst hv c0
          go_wp2_with fail
          go_ret
          by_cases hk0 : k = 0
          · refine ⟨ev, k, i + i + 1, s3, rfl, HV.out, HG2.out, ?_⟩
            have h7 := HNX.out.1 hk0
            rw [List.take_of_length_le (by rw [biS_len, ← HN.out]; omega)] at h7
            rw [hk0]
            exact h7
          · obtain ⟨m, hm⟩ := HNX.out.2 hk0
            exact ⟨ev, k, m, s3, rfl, HV.out, HG2.out, hm⟩
end Go.Proofs.YteicpbcddjjceaaGreatDoor
