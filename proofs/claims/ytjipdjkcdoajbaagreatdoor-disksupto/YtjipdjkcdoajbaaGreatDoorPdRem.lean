/-
  PROVED HERE: what the program's own Remove and Truncate of disks do.
-/
import Derived.Test.YtjipdjkcdoajbaaGreatDoorPdUsed
namespace Go.Proofs.YtjipdjkcdoajbaaGreatDoor
open Go.RowKit
/-- The sizes of a disk that the walks of changes ask for. -/
def PFit (R : RDk) : Prop := R.now.length ≤ 100000000 ∧ R.chg.length ≤ 100000000
theorem path_small {p : ByteArray} (h : isPathB p = true) : p.size ≤ 1000000000 := by
  unfold isPathB at h
  simp only [Bool.and_eq_true, decide_eq_true_eq] at h
  omega
theorem applyE_mem {l : List DE} {c : CH} {e : DE} (h : e ∈ applyE l c) : e ∈ l ∨ e.blk = c.blk := by
  unfold applyE at h
  split at h
  · rcases withE_mem h with h | ⟨b, h, _⟩
    · exact .inl h
    · cases h
  · rcases withE_mem h with h | ⟨b, h, hb⟩
    · rcases withE_mem h with h | ⟨b, h, _⟩
      · exact .inl h
      · cases h
    · injection h with h
      exact .inr (by rw [hb, h])
/-- The disk behind a change of paths. -/
theorem PGo.change {s : PSt} {w w' : World} (h : s.In w) {frm too : ByteArray} {f : Nat} {cv' : Value} (hf : f ∈ s.fs) (hg : Gr (fun k => k = s.b ∨ k = s.mb ∨ s.cv.ownBlock = some k) w w')
    (hd : PDIs w' s.b { s.R with now := applyE s.R.now ⟨frm, too, f⟩, chg := s.R.chg ++ [⟨frm, too, f⟩] } s.mb s.lb cv') (hv : NewOr w s.cv cv') :
    PGo s { s with R := { s.R with now := applyE s.R.now ⟨frm, too, f⟩, chg := s.R.chg ++ [⟨frm, too, f⟩] }, cv := cv' } w w' := by
  refine PGo.disk h (hg.mono fun k _ e => ?_) hd (.inl rfl) (.inl rfl) hv ?_ h.isafe ?_
  · rcases e with e | e | e
    · exact .inl e
    · exact .inr (.inl e)
    · exact .inr (.inr (.inr e))
  · intro e he
    rcases applyE_mem he with he | he
    · exact h.inow e he
    · rw [he]; exact hf
  · intro c hc
    rcases List.mem_append.1 hc with hc | hc
    · exact h.ichg c hc
    · simp only [List.mem_singleton] at hc
      rw [hc]; exact hf
set_option maxHeartbeats 1000000 in
set_option maxRecDepth 100000 in
theorem premC (s : PSt) (g0 g1 : Nat) (p : ByteArray) (w : World) (h : s.In w) (c0 : w.cell? ⟨g0, 0, none⟩ = some (.pointer (some ⟨s.b, 0, none⟩))) (c1 : w.cell? ⟨g1, 0, none⟩ = some (.string p)) (hp : p.size ≤ 9223372036854775807) (hpp : isPathB p = true) (hft : PFit s.R) :
    Calls Tryz.prog 78 #[.pointer (some ⟨g0, 0, none⟩), .pointer (some ⟨g1, 0, none⟩)] w fun e w1 =>
      (∃ k, (k = 3 ∧ findE p s.R.now = none) ∧ e = .returned (refV k) ∧ Below w.heap.size w w1) ∨ (e = .returned .nilIface ∧ ∃ s1, PGo s s1 w w1 ∧ s1.R.count = s.R.count ∧ s1.R.left = s.R.left ∧ ∃ f, findE p s.R.now = some f ∧ s1.R = { s.R with now := applyE s.R.now ⟨p, ⟨#[]⟩, f⟩, chg := s.R.chg ++ [⟨p, ⟨#[]⟩, f⟩] } ∧ s1.fs = s.fs ∧ s1.fd = s.fd) := by
  have HF := hide (pfind_any s.b s.R s.mb s.lb s.cv p w h.is hp)
  rw [hpp] at HF
  simp only [if_true] at HF
  have H := hide h
  clear h
  cases hfo : findE p s.R.now with
  | none =>
    rw [hfo] at HF
    dsimp only [refV] at HF
    go_enter Tryz.func78, Tryz.ntmps78
    go_wp2_with fail
    refine (HF.out).mono ?_
    rintro _ w1 ⟨hw, rfl⟩
    subst hw
    dsimp only
    go_wp2_with fail
    go_ret
    exact .inl ⟨3, ⟨rfl, by first | trivial | rfl⟩, rfl, Below.refl _ _⟩
  | some f =>
    rw [hfo] at HF
    dsimp only at HF
    have hm : f ∈ s.fs := by
      obtain ⟨e, he, hb⟩ := findE_mem hfo
      rw [← hb]; exact H.out.inow e he
    have HS := hide (pchange_any s.b f s.R s.mb s.lb s.cv p ⟨#[]⟩ w H.out.is hft.1 hft.2 (path_small hpp) (by decide))
    go_enter Tryz.func78, Tryz.ntmps78
    go_wp2_with fail
    refine (HF.out).mono ?_
    rintro _ w1 ⟨hw, rfl⟩
    subst hw
    dsimp only
    go_wp2_with fail
    refine (HS.out).mono ?_
    rintro _ w2 ⟨rfl, hg2, cv', hd2, hn2⟩
    dsimp only
    have HGO := hide (PGo.change H.out hm hg2 hd2 hn2)
    clear hg2 hd2 hn2
    go_wp2_with fail
    go_ret
    first
      | exact .inr ⟨rfl, _, HGO.out, rfl, rfl, f, by first | trivial | rfl, rfl, rfl, rfl⟩
      | exact ⟨rfl, _, HGO.out, rfl, rfl, rfl, rfl, rfl⟩
set_option maxHeartbeats 1000000 in
set_option maxRecDepth 100000 in
theorem pdRemove (s : PSt) (p : ByteArray) (w : World) (h : s.In w) (hp : p.size ≤ 9223372036854775807) (hf : Cnt4 s.R) (hft : PFit s.R) :
    Calls Tryz.prog 60 #[.pointer (some ⟨s.b, 0, none⟩), .string p] w fun e w' => ∃ v, e = .returned v ∧
      (isPathB p = false → PRet s w 2 (fun _ => True) v w') ∧
      (isPathB p = true → s.R.left = 0 → PRet s w 0 (fun s1 => s1 = s) v w') ∧
      (isPathB p = true → s.R.left ≠ 0 → findE p s.R.now = none → PRet s w 3 (fun _ => True) v w') ∧
      (∀ f, isPathB p = true → s.R.left ≠ 0 → findE p s.R.now = some f → PRet s w 0 (fun s1 => s1.R = RDk.wrote { s.R with now := applyE s.R.now ⟨p, ⟨#[]⟩, f⟩, chg := s.R.chg ++ [⟨p, ⟨#[]⟩, f⟩] } ∧ s1.fs = s.fs ∧ s1.fd = s.fd) v w') := by
  have hb3 := three_below w (.cells #[.pointer (some ⟨s.b, 0, none⟩)] 50) (.cells #[.string p] 9) (.cells #[.string p] 9)
  have h3 := h.later hb3
  have hs : StrsAt (((w.alloc (.cells #[.pointer (some ⟨s.b, 0, none⟩)] 50)).alloc (.cells #[.string p] 9)).alloc (.cells #[.string p] 9)) (.slice (some ⟨w.heap.size + 1 + 1, 0, none⟩) 1 1) [p] := by
    refine ⟨_, 1, rfl, fun i hi => ⟨_, rfl, ?_⟩⟩
    have : i = 0 := by simpa using hi
    subst this
    exact cell_of_row _ _ 0 _ _ _ (three2 _ _ _ _ _)
  have HST := hide (pstep_one s ⟨#[82, 101, 109, 111, 118, 101]⟩ _ p 78 #[.pointer (some ⟨w.heap.size, 0, none⟩), .pointer (some ⟨w.heap.size + 1, 0, none⟩)] _ _ _ h3 hs hp hf (Tryz.enter _ _ Tryz.func78 (by kernel_rfl) _ rfl) (fun hpp => premC s _ _ p _ h3 (cell_of_row _ _ 0 _ _ _ (three0 _ _ _ _ _)) (cell_of_row _ _ 0 _ _ _ (three1 _ _ _ _ _)) hp hpp hft))
  have HB := hide hb3
  have H := hide h
  clear hb3 h3 hs h
  go_enter Tryz.func60, Tryz.ntmps60
  go_wp2_with fail
  refine (HST.out).mono ?_
  rintro _ w' ⟨v, rfl, h1, h2, h3⟩
  dsimp only
  have H1 := hide h1
  have H2 := hide h2
  have H3 := hide h3
  clear h1 h2 h3
  go_wp2_with fail
  go_ret
  refine ⟨_, rfl, fun h => (H1.out h).below H.out HB.out, fun h h0 => (H2.out h h0).below H.out HB.out, fun h h0 hn => ?_, fun f h h0 hn => ?_⟩
  · rcases H3.out h h0 with ⟨k, ⟨rfl, _⟩, h4, h5⟩ | ⟨rfl, s1, h4, f, h5, _⟩
    · exact (PRet.bad (by decide) h4 h5).below H.out HB.out
    · rw [hn] at h5; cases h5
  · rcases H3.out h h0 with ⟨k, ⟨rfl, h6⟩, h4, h5⟩ | ⟨rfl, s1, h4, f', h5, h6, h7, h8⟩
    · rw [hn] at h6; cases h6
    · rw [hn] at h5
      injection h5 with h5
      subst h5
      exact (PRet.ok h4 ⟨by dsimp only; rw [h6], h7, h8⟩).below H.out HB.out
theorem four_below (w : World) (o1 o2 o3 o4 : Obj) : Below w.heap.size w ((((w.alloc o1).alloc o2).alloc o3).alloc o4) :=
  (three_below w o1 o2 o3).alloc (three_below w o1 o2 o3).size o4
theorem four0 (w : World) (a : Array Value) (t : TypeId) (o2 o3 o4 : Obj) : ((((w.alloc (.cells a t)).alloc o2).alloc o3).alloc o4).heap[w.heap.size]? = some (.cells a t (0, 0)) := by
  rw [Below.heap_alloc _ _ _ (by simp <;> omega)]; exact three0 _ _ _ _ _
theorem four1 (w : World) (o1 : Obj) (a : Array Value) (t : TypeId) (o3 o4 : Obj) : ((((w.alloc o1).alloc (.cells a t)).alloc o3).alloc o4).heap[w.heap.size + 1]? = some (.cells a t (0, 0)) := by
  rw [Below.heap_alloc _ _ _ (by simp <;> omega)]; exact three1 _ _ _ _ _
theorem four2 (w : World) (o1 o2 : Obj) (a : Array Value) (t : TypeId) (o4 : Obj) : ((((w.alloc o1).alloc o2).alloc (.cells a t)).alloc o4).heap[w.heap.size + 1 + 1]? = some (.cells a t (0, 0)) := by
  rw [Below.heap_alloc _ _ _ (by simp)]; exact three2 _ _ _ _ _
theorem four3 (w : World) (o1 o2 o3 : Obj) (a : Array Value) (t : TypeId) : ((((w.alloc o1).alloc o2).alloc o3).alloc (.cells a t)).heap[w.heap.size + 1 + 1 + 1]? = some (.cells a t (0, 0)) := by
  have := heap_alloc_new (((w.alloc o1).alloc o2).alloc o3) (.cells a t)
  rw [size_alloc, size_alloc, size_alloc] at this
  exact this
set_option maxHeartbeats 1000000 in
set_option maxRecDepth 100000 in
theorem ptruncC (s : PSt) (g0 g1 g2 : Nat) (p : ByteArray) (n : Int) (w : World) (h : s.In w) (c0 : w.cell? ⟨g0, 0, none⟩ = some (.pointer (some ⟨s.b, 0, none⟩))) (c1 : w.cell? ⟨g1, 0, none⟩ = some (.string p)) (c2 : w.cell? ⟨g2, 0, none⟩ = some (.int .i64 n)) (hp : p.size ≤ 9223372036854775807) (hpp : isPathB p = true) :
    Calls Tryz.prog 79 #[.pointer (some ⟨g0, 0, none⟩), .pointer (some ⟨g1, 0, none⟩), .pointer (some ⟨g2, 0, none⟩)] w fun e w1 =>
      (∃ k, ((k = 3 ∧ findE p s.R.now = none) ∨ (k = 5 ∧ ∃ f, findE p s.R.now = some f ∧ (n < 0 ∨ ((s.fd f).1.size : Int) < n))) ∧ e = .returned (refV k) ∧ Below w.heap.size w w1) ∨
      (e = .returned .nilIface ∧ ∃ s1, PGo s s1 w w1 ∧ s1.R.count = s.R.count ∧ s1.R.left = s.R.left ∧ ∃ f, findE p s.R.now = some f ∧ 0 ≤ n ∧ n ≤ ((s.fd f).1.size : Int) ∧ s1.R = s.R ∧ s1.fs = s.fs ∧ s1.fd = setNd s.fd f ((s.fd f).1.extract 0 n.toNat, min (s.fd f).2 n)) := by
  have HF := hide (pfind_any s.b s.R s.mb s.lb s.cv p w h.is hp)
  rw [hpp] at HF
  simp only [if_true] at HF
  have H := hide h
  clear h
  cases hfo : findE p s.R.now with
  | none =>
    rw [hfo] at HF
    dsimp only [refV] at HF
    go_enter Tryz.func79, Tryz.ntmps79
    go_wp2_with fail
    refine (HF.out).mono ?_
    rintro _ w1 ⟨hw, rfl⟩
    subst hw
    dsimp only
    go_wp2_with fail
    go_ret
    exact .inl ⟨3, .inl ⟨rfl, by first | trivial | rfl⟩, rfl, Below.refl _ _⟩
  | some f =>
    rw [hfo] at HF
    dsimp only at HF
    have hm : f ∈ s.fs := by
      obtain ⟨e, he, hb⟩ := findE_mem hfo
      rw [← hb]; exact H.out.inow e he
    obtain ⟨o, cap, hfv, hc1, hc2⟩ := (H.out.fds f hm).shape
    have f0 : w.cell? ⟨f, 0, none⟩ = some (s.fv f) := cell_of_row _ _ 0 _ _ _ (H.out.fds f hm).blk
    rw [hfv] at f0
    obtain ⟨sz, hsz⟩ : ∃ sz, sz = (s.fd f).1.size := ⟨_, rfl⟩
    rw [← hsz] at f0 hc1
    have HSZ := hide hsz
    clear hsz
    have HH := hide (H.out)
    by_cases hneg : n < 0
    · go_enter Tryz.func79, Tryz.ntmps79
      go_wp2_with fail
      refine (HF.out).mono ?_
      rintro _ w1 ⟨hw, rfl⟩
      subst hw
      dsimp only
      go_wp2_with fail
      go_quiet (fail)
      go_wp2_with fail
      go_ret
      exact .inl ⟨5, .inr ⟨rfl, f, by first | trivial | rfl, .inl hneg⟩, rfl, (Below.refl _ _).drewN nq⟩
    · have hneg2 : decide (n < 0) = false := decide_eq_false hneg
      by_cases hgt : (sz : Int) < n
      · go_enter Tryz.func79, Tryz.ntmps79
        go_wp2_with fail
        refine (HF.out).mono ?_
        rintro _ w1 ⟨hw, rfl⟩
        subst hw
        dsimp only
        go_wp2_with fail
        go_quiet (fail)
        go_wp2_with fail
        go_ret
        exact .inl ⟨5, .inr ⟨rfl, f, by first | trivial | rfl, .inr (by rw [← HSZ.out]; exact hgt)⟩, rfl, (Below.refl _ _).drewN nq⟩
      · have hgt2 : decide ((sz : Int) < n) = false := decide_eq_false hgt
        have hnn : ((n.toNat : Nat) : Int) = n := by omega
        have HCT := hide (fun (w' : World) (hb : Below w.heap.size w w') => pcut_any f (s.fd f) (s.fv f) n.toNat w' ((H.out.later hb).fds f hm) (by rw [← HSZ.out]; omega))
        rw [hnn] at HCT
        go_enter Tryz.func79, Tryz.ntmps79
        go_wp2_with fail
        refine (HF.out).mono ?_
        rintro _ w1 ⟨hw, rfl⟩
        subst hw
        dsimp only
        go_wp2_with fail
        go_quiet (fail)
        go_wp2_with fail
        refine (HCT.out _ ((Below.refl _ _).drewN nq)).mono ?_
        rintro _ w2 ⟨rfl, hg2, v', hfd2, ho2⟩
        dsimp only
        have hbq : Below w1.heap.size w1 (w1.drewN nq) := (Below.refl _ _).drewN nq
        have hgo := (PGo.refl H.out hbq).trans (PGo.file (H.out.later hbq) hm ((Gr.of_grownBy hg2 (.inl rfl)) : Gr (fun k => k = f ∨ (s.fv f).ownBlock = some k) _ w2) hfd2 (.inl ho2))
        have HGO := hide hgo
        clear hgo hg2 hfd2 hbq ho2
        go_wp2_with fail
        go_ret
        exact .inr ⟨rfl, _, HGO.out, rfl, rfl, f, by first | trivial | rfl, by omega, by rw [← HSZ.out]; omega, rfl, rfl, rfl⟩
set_option maxHeartbeats 1000000 in
set_option maxRecDepth 100000 in
theorem pdTruncate (s : PSt) (p : ByteArray) (n : Int) (w : World) (h : s.In w) (hp : p.size ≤ 9223372036854775807) (hf : Cnt4 s.R) :
    Calls Tryz.prog 61 #[.pointer (some ⟨s.b, 0, none⟩), .string p, .int .i64 n] w fun e w' => ∃ v, e = .returned v ∧
      (isPathB p = false → PRet s w 2 (fun _ => True) v w') ∧
      (isPathB p = true → s.R.left = 0 → PRet s w 0 (fun s1 => s1 = s) v w') ∧
      (isPathB p = true → s.R.left ≠ 0 → findE p s.R.now = none → PRet s w 3 (fun _ => True) v w') ∧
      (∀ f, isPathB p = true → s.R.left ≠ 0 → findE p s.R.now = some f → ((n < 0 ∨ ((s.fd f).1.size : Int) < n) ∧ PRet s w 5 (fun _ => True) v w') ∨
        (0 ≤ n ∧ n ≤ ((s.fd f).1.size : Int) ∧ PRet s w 0 (fun s1 => s1.R = s.R.wrote ∧ s1.fs = s.fs ∧ s1.fd = setNd s.fd f ((s.fd f).1.extract 0 n.toNat, min (s.fd f).2 n)) v w')) := by
  have hb3 := four_below w (.cells #[.pointer (some ⟨s.b, 0, none⟩)] 50) (.cells #[.string p] 9) (.cells #[.int .i64 n] 3) (.cells #[.string p] 9)
  have h3 := h.later hb3
  have hs : StrsAt ((((w.alloc (.cells #[.pointer (some ⟨s.b, 0, none⟩)] 50)).alloc (.cells #[.string p] 9)).alloc (.cells #[.int .i64 n] 3)).alloc (.cells #[.string p] 9)) (.slice (some ⟨w.heap.size + 1 + 1 + 1, 0, none⟩) 1 1) [p] := by
    refine ⟨_, 1, rfl, fun i hi => ⟨_, rfl, ?_⟩⟩
    have : i = 0 := by simpa using hi
    subst this
    exact cell_of_row _ _ 0 _ _ _ (four3 _ _ _ _ _ _)
  have HST := hide (pstep_one s ⟨#[84, 114, 117, 110, 99, 97, 116, 101]⟩ _ p 79 #[.pointer (some ⟨w.heap.size, 0, none⟩), .pointer (some ⟨w.heap.size + 1, 0, none⟩), .pointer (some ⟨w.heap.size + 1 + 1, 0, none⟩)] _ _ _ h3 hs hp hf (Tryz.enter _ _ Tryz.func79 (by kernel_rfl) _ rfl) (fun hpp => ptruncC s _ _ _ p n _ h3 (cell_of_row _ _ 0 _ _ _ (four0 _ _ _ _ _ _)) (cell_of_row _ _ 0 _ _ _ (four1 _ _ _ _ _ _)) (cell_of_row _ _ 0 _ _ _ (four2 _ _ _ _ _ _)) hp hpp))
  have HB := hide hb3
  have H := hide h
  clear hb3 h3 hs h
  go_enter Tryz.func61, Tryz.ntmps61
  go_wp2_with fail
  refine (HST.out).mono ?_
  rintro _ w' ⟨v, rfl, h1, h2, h3⟩
  dsimp only
  have H1 := hide h1
  have H2 := hide h2
  have H3 := hide h3
  clear h1 h2 h3
  go_wp2_with fail
  go_ret
  refine ⟨_, rfl, fun h => (H1.out h).below H.out HB.out, fun h h0 => (H2.out h h0).below H.out HB.out, fun h h0 hn => ?_, fun f h h0 hn => ?_⟩
  · rcases H3.out h h0 with ⟨k, (⟨rfl, _⟩ | ⟨rfl, f, h6, _⟩), h4, h5⟩ | ⟨rfl, s1, h4, f, h5, _⟩
    · exact (PRet.bad (by decide) h4 h5).below H.out HB.out
    · rw [hn] at h6; cases h6
    · rw [hn] at h5; cases h5
  · rcases H3.out h h0 with ⟨k, (⟨rfl, h6⟩ | ⟨rfl, f', h6, h7⟩), h4, h5⟩ | ⟨rfl, s1, h4, f', h5, h6, h7, h8, h9, h10⟩
    · rw [hn] at h6; cases h6
    · rw [hn] at h6
      injection h6 with h6
      subst h6
      exact .inl ⟨h7, (PRet.bad (by decide) h4 h5).below H.out HB.out⟩
    · rw [hn] at h5
      injection h5 with h5
      subst h5
      exact .inr ⟨h6, h7, (PRet.ok h4 ⟨by dsimp only; rw [h8], h9, h10⟩).below H.out HB.out⟩
end Go.Proofs.YtjipdjkcdoajbaaGreatDoor
