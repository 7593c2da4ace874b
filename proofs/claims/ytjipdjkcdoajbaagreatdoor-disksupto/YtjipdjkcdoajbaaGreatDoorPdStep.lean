/-
  PROVED HERE: what the program's own function step of disks does, whatever the function that writes.
-/
import Derived.Test.YtjipdjkcdoajbaaGreatDoorPdState
namespace Go.Proofs.YtjipdjkcdoajbaaGreatDoor
open Go.RowKit
/-- Some path is none. -/
def anyBad (ps : List ByteArray) : Bool := ps.any fun p => !isPathB p
/-- The slice v shows these texts. -/
def StrsAt (w : World) (v : Value) (ps : List ByteArray) : Prop := ∃ oa c, v = .slice oa ps.length c ∧ ∀ i, i < ps.length → ∃ g, oa = some ⟨g, 0, none⟩ ∧ w.cell? ⟨g, i, none⟩ = some (.string (ps.getD i ⟨#[]⟩))
theorem StrsAt.later {w w' : World} {v : Value} {ps : List ByteArray} (h : StrsAt w v ps) (hb : Below w.heap.size w w') : StrsAt w' v ps := by
  obtain ⟨oa, c, e, h⟩ := h
  refine ⟨oa, c, e, fun i hi => ?_⟩
  obtain ⟨g, e2, hr⟩ := h i hi
  exact ⟨g, e2, cell_later hb hr⟩
theorem any_none {ps : List ByteArray} (h : ∀ j, j < ps.length → isPathB (ps.getD j ⟨#[]⟩) = true) : anyBad ps = false := by
  unfold anyBad
  rw [List.any_eq_false]
  intro p hp
  obtain ⟨i, hi, rfl⟩ := List.getElem_of_mem hp
  have := h i hi
  rw [List.getD_eq_getElem?_getD, List.getElem?_eq_getElem hi] at this
  simpa using this
theorem any_some {ps : List ByteArray} {k : Nat} (hk : k < ps.length) (h : isPathB (ps.getD k ⟨#[]⟩) = false) : anyBad ps = true := by
  unfold anyBad
  rw [List.any_eq_true]
  refine ⟨ps.getD k ⟨#[]⟩, ?_, by rw [h]; rfl⟩
  rw [List.getD_eq_getElem?_getD, List.getElem?_eq_getElem hk]
  simp
set_option maxHeartbeats 1000000 in
set_option maxRecDepth 100000 in
theorem indexF_any (v : Value) (ps : List ByteArray) (w : World) (h : StrsAt w v ps) (hl : ps.length ≤ 1000000000) (hp : ∀ p ∈ ps, p.size ≤ 9223372036854775807) :
    Calls Tryz.prog 104 #[v, .func (.func 86) #[] #[]] w fun e w' => w' = w ∧ ∃ i : Int, e = .returned (.int .i64 i) ∧ decide (0 ≤ i) = anyBad ps := by
  obtain ⟨oa, c, rfl, hr⟩ := h
  obtain ⟨n, hn⟩ : ∃ n, n = ps.length := ⟨_, rfl⟩
  rw [← hn] at hr hl ⊢
  have HN := hide hn
  have HR := hide hr
  have HI := hide (fun p (hm : p ∈ ps) => isNoPath_any p w (hp p hm))
  clear hn hr
  go_enter Tryz.func104, Tryz.ntmps104
  go_wp2_with fail
  go_loopw [8] (fun iv wr => ∃ k : Nat, k ≤ n ∧ iv = .int .i64 ((k : Nat) : Int) ∧ wr = w ∧ ∀ j, j < k → isPathB (ps.getD j ⟨#[]⟩) = true) (fun iv _ => n - (intOf iv).toNat)
  case atStart => exact ⟨0, Nat.zero_le _, rfl, rfl, fun j hj => by omega⟩
  case round =>
    obtain ⟨k, hk, rfl, hw, hne⟩ := hrel
    subst hw
    have HNE := hide hne
    clear hne
    by_cases hlt : k < n
    · obtain ⟨g, rfl, hrg⟩ := HR.out k hlt
      have hmem : ps.getD k ⟨#[]⟩ ∈ ps := by
        have hk2 : k < ps.length := by rw [← HN.out]; exact hlt
        rw [List.getD_eq_getElem?_getD, List.getElem?_eq_getElem hk2]; simp
      have HC := hide (HI.out _ hmem)
      obtain ⟨p, hpe⟩ : ∃ p, p = ps.getD k ⟨#[]⟩ := ⟨_, rfl⟩
      rw [← hpe] at hrg HC
      have HPE := hide hpe
      clear hmem hpe
      go_wp2_with fail
      refine (HC.out).mono ?_
      rintro _ w1 ⟨rfl, hw⟩
      subst hw
      dsimp only
      cases hb : isPathB p with
      | true =>
        simp only [Bool.not_true]
        go_wp2_with fail
        go_roundw
        case rel =>
          refine ⟨k + 1, by omega, by go_num, by first | trivial | rfl, fun j hj => ?_⟩
          by_cases e : j = k
          · subst e; rw [← HPE.out]; exact hb
          · exact HNE.out j (by omega)
        case measure => simp [intOf]; omega
      | false =>
        simp only [Bool.not_false]
        go_wp2_with fail
        go_ret
        refine ⟨rfl, _, rfl, ?_⟩
        rw [any_some (k := k) (by rw [← HN.out]; exact hlt) (by rw [← HPE.out]; exact hb)]
        simp
    · have e1 : decide (((k : Nat) : Int) < ((n : Nat) : Int)) = false := by simp; omega
      go_wp2_with fail
      go_ret
      refine ⟨rfl, _, rfl, ?_⟩
      rw [any_none (fun j hj => HNE.out j (by rw [← HN.out] at hj; omega))]
      decide
set_option maxHeartbeats 1000000 in
set_option maxRecDepth 100000 in
theorem containsF_any (v : Value) (ps : List ByteArray) (w : World) (h : StrsAt w v ps) (hl : ps.length ≤ 1000000000) (hp : ∀ p ∈ ps, p.size ≤ 9223372036854775807) :
    Calls Tryz.prog 93 #[v, .func (.func 86) #[] #[]] w fun e w' => w' = w ∧ e = .returned (.bool (anyBad ps)) := by
  have HI := hide (indexF_any v ps w h hl hp)
  obtain ⟨oa, c, rfl, _⟩ := h
  go_enter Tryz.func93, Tryz.ntmps93
  go_wp2_with fail
  refine (HI.out).mono ?_
  rintro _ w1 ⟨hw, i, rfl, hi⟩
  subst hw
  dsimp only
  have HX := hide hi
  clear hi
  go_wp2_with fail
  go_ret
  refine ⟨rfl, ?_⟩
  rw [← HX.out]
  rfl
theorem PDIs.setCount {w : World} {b mb lb : Nat} {R : RDk} {cv : Value} (h : PDIs w b R mb lb cv) (c : Int) : PDIs (w.setCell ⟨b, 4, none⟩ (.int .i64 c)) b { R with count := c } mb lb cv := by
  obtain ⟨n1, n2, n3, n4, n5⟩ := h.ne
  have hset : ∀ k, k ≠ b → (w.setCell ⟨b, 4, none⟩ (.int .i64 c)).heap[k]? = w.heap[k]? := fun k hk => heap_setCell_other _ _ _ _ (by simpa using hk)
  exact ⟨by rw [heap_setCell_same _ b 4 _ _ _ h.blk]; rfl, h.now.later (hset _ (Ne.symm n4)), h.safe.later (hset _ (Ne.symm n5)), h.apart, own_same h.chg (fun k hk _ => hset k (fun e => n1 (by rw [← e]; exact hk)))⟩
theorem PDIs.setLeft {w : World} {b mb lb : Nat} {R : RDk} {cv : Value} (h : PDIs w b R mb lb cv) (c : Int) : PDIs (w.setCell ⟨b, 5, none⟩ (.int .i64 c)) b { R with left := c } mb lb cv := by
  obtain ⟨n1, n2, n3, n4, n5⟩ := h.ne
  have hset : ∀ k, k ≠ b → (w.setCell ⟨b, 5, none⟩ (.int .i64 c)).heap[k]? = w.heap[k]? := fun k hk => heap_setCell_other _ _ _ _ (by simpa using hk)
  exact ⟨by rw [heap_setCell_same _ b 5 _ _ _ h.blk]; rfl, h.now.later (hset _ (Ne.symm n4)), h.safe.later (hset _ (Ne.symm n5)), h.apart, own_same h.chg (fun k hk _ => hset k (fun e => n1 (by rw [← e]; exact hk)))⟩
theorem PGo.set {s : PSt} {w w' : World} (h : s.In w) {R' : RDk} (hg : w.grownBy w' (some s.b)) (hd : PDIs w' s.b R' s.mb s.lb s.cv) (h1 : R'.now = s.R.now) (h2 : R'.safe = s.R.safe) (h3 : R'.chg = s.R.chg) : PGo s { s with R := R' } w w' :=
  PGo.disk h (Gr.of_grownBy hg (.inl rfl)) hd (.inl rfl) (.inl rfl) (.inl rfl) (by rw [h1]; exact h.inow) (by rw [h2]; exact h.isafe) (by rw [h3]; exact h.ichg)
set_option maxHeartbeats 1000000 in
set_option maxRecDepth 100000 in
theorem pstep_bad (b : Nat) (nm : ByteArray) (pv : Value) (ps : List ByteArray) (fvv : Value) (w : World) (hs : StrsAt w pv ps) (hl : ps.length ≤ 1000000000) (hp : ∀ p ∈ ps, p.size ≤ 9223372036854775807) (hb : anyBad ps = true) :
    Calls Tryz.prog 73 #[.pointer (some ⟨b, 0, none⟩), .string nm, pv, fvv] w fun e w' => ∃ v, e = .returned v ∧ stepE w' v 2 ∧ Below w.heap.size w w' := by
  have HC := hide (containsF_any pv ps w hs hl hp)
  rw [hb] at HC
  obtain ⟨oa, c, rfl, _⟩ := hs
  have hfin : stepE (w.alloc (.cells #[.string nm, .iface 124 (.int .i64 2)] 123)) (.iface 121 (.pointer (some ⟨w.heap.size, 0, none⟩))) 2 := ⟨_, nm, rfl, heap_alloc_new _ _⟩
  have HF := hide hfin
  clear hfin
  go_enter Tryz.func73, Tryz.ntmps73
  go_wp2_with fail
  refine (HC.out).mono ?_
  rintro _ w1 ⟨hw, rfl⟩
  subst hw
  dsimp only
  go_wp2_with fail
  go_ret
  exact ⟨_, rfl, HF.out, (Below.refl _ _).alloc (Nat.le_refl _) _⟩
set_option maxHeartbeats 1000000 in
set_option maxRecDepth 100000 in
theorem pstep_broken (s : PSt) (nm : ByteArray) (pv : Value) (ps : List ByteArray) (fvv : Value) (w : World) (h : s.In w) (hs : StrsAt w pv ps) (hl : ps.length ≤ 1000000000) (hp : ∀ p ∈ ps, p.size ≤ 9223372036854775807) (hb : anyBad ps = false) (h0 : s.R.left = 0) :
    Calls Tryz.prog 73 #[.pointer (some ⟨s.b, 0, none⟩), .string nm, pv, fvv] w fun e w' => e = .returned .nilIface ∧ w' = w := by
  have HC := hide (containsF_any pv ps w hs hl hp)
  rw [hb] at HC
  obtain ⟨oa, c, rfl, _⟩ := hs
  have c5 : w.cell? ⟨s.b, 5, none⟩ = some (.int .i64 s.R.left) := cell_of_row _ _ 5 _ _ _ h.is.blk
  rw [h0] at c5
  clear h
  go_enter Tryz.func73, Tryz.ntmps73
  go_wp2_with fail
  refine (HC.out).mono ?_
  rintro _ w1 ⟨hw, rfl⟩
  subst hw
  dsimp only
  go_wp2_with fail
  go_ret
  exact ⟨rfl, rfl⟩
set_option maxHeartbeats 2000000 in
set_option maxRecDepth 100000 in
theorem pstep_run (s : PSt) (nm : ByteArray) (pv : Value) (ps : List ByteArray) (K : Nat) (cap : Array Value) (w : World) (Bad : Int → Prop) (P : PSt → Prop) (h : s.In w) (hs : StrsAt w pv ps) (hl : ps.length ≤ 1000000000) (hp : ∀ p ∈ ps, p.size ≤ 9223372036854775807) (hb : anyBad ps = false) (h0 : s.R.left ≠ 0) (hf : Cnt4 s.R)
    (hcf : ∀ (args : Array Value) (w : World), (callFunc K args).run Tryz.prog w = .ok (.enter K args) w)
    (hv : Calls Tryz.prog K cap w fun e w1 => (∃ k, Bad k ∧ e = .returned (refV k) ∧ Below w.heap.size w w1) ∨ (e = .returned .nilIface ∧ ∃ s1, PGo s s1 w w1 ∧ s1.R.count = s.R.count ∧ s1.R.left = s.R.left ∧ P s1)) :
    Calls Tryz.prog 73 #[.pointer (some ⟨s.b, 0, none⟩), .string nm, pv, .func (.func K) #[] cap] w fun e w' =>
      (∃ k v, Bad k ∧ e = .returned v ∧ stepE w' v k ∧ Below w.heap.size w w') ∨ (e = .returned .nilIface ∧ ∃ s1, PGo s { s1 with R := s1.R.wrote } w w' ∧ P s1) := by
  have HC := hide (containsF_any pv ps w hs hl hp)
  rw [hb] at HC
  obtain ⟨oa, c, rfl, _⟩ := hs
  have c5 : w.cell? ⟨s.b, 5, none⟩ = some (.int .i64 s.R.left) := cell_of_row _ _ 5 _ _ _ h.is.blk
  have HV := hide hv
  have HF := hide hf
  have e5 : decide (s.R.left = 0) = false := decide_eq_false h0
  clear h hv hf
  go_enter Tryz.func73, Tryz.ntmps73
  go_wp2_with fail
  refine (HC.out).mono ?_
  rintro _ w1 ⟨hw, rfl⟩
  subst hw
  dsimp only
  go_wp2_with fail
  refine (HV.out).mono ?_
  rintro _ w2 (⟨k, hbk, rfl, hbl⟩ | ⟨rfl, s1, hgo, hcn, hlf, hP⟩)
  · dsimp only [refV]
    have hfin : stepE (w2.alloc (.cells #[.string nm, .iface 124 (.int .i64 k)] 123)) (.iface 121 (.pointer (some ⟨w2.heap.size, 0, none⟩))) k := ⟨_, nm, rfl, heap_alloc_new _ _⟩
    have HFIN := hide hfin
    have HBL := hide (hbl.alloc hbl.size (.cells #[.string nm, .iface 124 (.int .i64 k)] 123))
    have HBK := hide hbk
    clear hfin hbl hbk
    go_wp2_with fail
    go_ret
    exact .inl ⟨k, _, HBK.out, rfl, HFIN.out, HBL.out⟩
  · dsimp only
    have hin := hgo.inn
    have hbb := hgo.b
    have hd := hin.is
    rw [hbb] at hd
    have k4 : w2.cell? ⟨s.b, 4, none⟩ = some (.int .i64 s1.R.count) := cell_of_row _ _ 4 _ _ _ hd.blk
    have k5 : w2.cell? ⟨s.b, 5, none⟩ = some (.int .i64 s1.R.left) := cell_of_row _ _ 5 _ _ _ hd.blk
    have kf := fun j => frozen_of_row w2 s.b j _ _ hd.blk
    obtain ⟨q1, q2, q3, q4⟩ : Cnt4 s1.R := by unfold Cnt4; rw [hcn, hlf]; exact HF.out
    have hl0 : s1.R.left ≠ 0 := by rw [hlf]; exact h0
    by_cases hm1 : s1.R.left = -1
    · have hR : s1.R.wrote = { s1.R with count := s1.R.count + 1 } := by
        unfold RDk.wrote
        rw [if_neg (by omega)]
      have hgo2 : PGo s { s1 with R := s1.R.wrote } w1 (w2.setCell ⟨s.b, 4, none⟩ (.int .i64 (s1.R.count + 1))) := by
        refine hgo.trans (PGo.set hin (by rw [hbb]; exact grownBy_set _ _ _ _) ?_ rfl rfl rfl)
        rw [hbb, hR]
        exact hd.setCount _
      have HGO := hide hgo2
      have HP := hide hP
      rw [hm1] at k5
      clear hgo2 hR hgo hP hin hd hl0 hlf hcn
      go_wp2_with fail
      go_ret
      exact .inr ⟨rfl, s1, HGO.out, HP.out⟩
    · have hR : s1.R.wrote = { s1.R with count := s1.R.count + 1, left := s1.R.left - 1 } := by
        unfold RDk.wrote
        rw [if_pos (by omega)]
      have hgo2 : PGo s { s1 with R := s1.R.wrote } w1 ((w2.setCell ⟨s.b, 4, none⟩ (.int .i64 (s1.R.count + 1))).setCell ⟨s.b, 5, none⟩ (.int .i64 (s1.R.left - 1))) := by
        refine hgo.trans (PGo.set hin (by rw [hbb]; exact grownBy_trans (grownBy_set _ _ _ _) (grownBy_set _ _ _ _)) ?_ rfl rfl rfl)
        rw [hbb, hR]
        exact (hd.setCount _).setLeft _
      have HGO := hide hgo2
      have HP := hide hP
      have m5 : decide (s1.R.left = -1) = false := decide_eq_false hm1
      have hw1 : s1.R.left - 1 ≤ 9223372036854775807 := by omega
      have hw2 : -9223372036854775808 ≤ s1.R.left - 1 := by omega
      clear hgo2 hR hgo hP hin hd hl0 hlf hcn
      go_wp2_with fail
      go_ret
      exact .inr ⟨rfl, s1, HGO.out, HP.out⟩
end Go.Proofs.YtjipdjkcdoajbaaGreatDoor
