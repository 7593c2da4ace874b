/-
  PROVED HERE: what the program's own function step of disks does, whatever the function that writes.
-/
import Derived.Test.YteicpbcddjjceaaGreatDoorPdState
namespace Go.Proofs.YteicpbcddjjceaaGreatDoor
open Go.RowKit
/-- Some path is none. -/
def anyBad (ps : List ByteArray) : Bool := ps.any fun p => !isPathB p
/-- The slice v shows these texts. -/
def StrsAt (w : World) (v : Value) (ps : List ByteArray) : Prop := ∃ oa c, v = .slice oa ps.length c ∧ ∀ i, i < ps.length → ∃ g, oa = some ⟨g, 0, none⟩ ∧ w.cell? ⟨g, i, none⟩ = some (.string (ps.getD i ⟨#[]⟩))
theorem StrsAt.later {w w' : World} {v : Value} {ps : List ByteArray} (h : StrsAt w v ps) (hb : Below w.heap.size w w') : StrsAt w' v ps := by
  obtain ⟨oa, c, e, h⟩ := h
  refine ⟨oa, c, e, fun i hi => ?_⟩
  obtain ⟨g, e2, hr⟩ := h i hi
  exact ⟨g, e2, cell_later hb hr⟩
theorem any_none {ps : List ByteArray} (h : ∀ j, j < ps.length → isPathB (ps.getD j ⟨#[]⟩) = true) : anyBad ps = false := by
  unfold anyBad
  rw [List.any_eq_false]
  intro p hp
  obtain ⟨i, hi, rfl⟩ := List.getElem_of_mem hp
  have := h i hi
  rw [List.getD_eq_getElem?_getD, List.getElem?_eq_getElem hi] at this
  simpa using this
theorem any_some {ps : List ByteArray} {k : Nat} (hk : k < ps.length) (h : isPathB (ps.getD k ⟨#[]⟩) = false) : anyBad ps = true := by
  unfold anyBad
  rw [List.any_eq_true]
  refine ⟨ps.getD k ⟨#[]⟩, ?_, by rw [h]; rfl⟩
  rw [List.getD_eq_getElem?_getD, List.getElem?_eq_getElem hk]
  simp
set_option maxHeartbeats 1000000 in
set_option maxRecDepth 100000 in
theorem indexF_any (v : Value) (ps : List ByteArray) (w : World) (h : StrsAt w v ps) (hl : ps.length ≤ 1000000000) (hp : ∀ p ∈ ps, p.size ≤ 9223372036854775807) :
    Calls Tryz.prog 241 #[v, .func (.func 148) #[] #[]] w fun e w' => w' = w ∧ ∃ i : Int, e = .returned (.int .i64 i) ∧ decide (0 ≤ i) = anyBad ps := by
  obtain ⟨oa, c, rfl, hr⟩ := h
  obtain ⟨n, hn⟩ : ∃ n, n = ps.length := ⟨_, rfl⟩
  rw [← hn] at hr hl ⊢
  have HN := hide hn
  have HR := hide hr
  have HI := hide (fun p (hm : p ∈ ps) => isNoPath_any p w (hp p hm))
  clear hn hr
  go_enter Tryz.func241, Tryz.ntmps241
  go_wp2_with fail
  go_loopw [8] (fun iv wr => ∃ k : Nat, k ≤ n ∧ iv = .int .i64 ((k : Nat) : Int) ∧ wr = w ∧ ∀ j, j < k → isPathB (ps.getD j ⟨#[]⟩) = true) (fun iv _ => n - (intOf iv).toNat)
  case atStart => exact ⟨0, Nat.zero_le _, rfl, rfl, fun j hj => by omega⟩
  case round =>
    obtain ⟨k, hk, rfl, hw, hne⟩ := hrel
    subst hw
    have HNE := hide hne
    clear hne
    by_cases hlt : k < n
    · obtain ⟨g, rfl, hrg⟩ := HR.out k hlt
      have hmem : ps.getD k ⟨#[]⟩ ∈ ps := by
        have hk2 : k < ps.length := by rw [← HN.out]; exact hlt
        rw [List.getD_eq_getElem?_getD, List.getElem?_eq_getElem hk2]; simp
      have HC := hide (HI.out _ hmem)
      obtain ⟨p, hpe⟩ : ∃ p, p = ps.getD k ⟨#[]⟩ := ⟨_, rfl⟩
      rw [← hpe] at hrg HC
      have HPE := hide hpe
      clear hmem hpe
      go_wp2_with fail
      refine (HC.out).mono ?_
      rintro _ w1 ⟨rfl, hw⟩
      subst hw
      dsimp only
      cases hb : isPathB p with
      | true =>
        simp only [Bool.not_true]
        go_wp2_with fail
        go_roundw
        case rel =>
          refine ⟨k + 1, by omega, by go_num, by first | trivial | rfl, fun j hj => ?_⟩
          by_cases e : j = k
          · subst e; rw [← HPE.out]; exact hb
          · exact HNE.out j (by omega)
        case measure => simp [intOf]; omega
      | false =>
        simp only [Bool.not_false]
        go_wp2_with fail
        go_ret
        refine ⟨rfl, _, rfl, ?_⟩
        rw [any_some (k := k) (by rw [← HN.out]; exact hlt) (by rw [← HPE.out]; exact hb)]
        simp
    · have e1 : decide (((k : Nat) : Int) < ((n : Nat) : Int)) = false := by simp; omega
      go_wp2_with fail
      go_ret
      refine ⟨rfl, _, rfl, ?_⟩
      rw [any_none (fun j hj => HNE.out j (by rw [← HN.out] at hj; omega))]
      decide
set_option maxHeartbeats 1000000 in
set_option maxRecDepth 100000 in
theorem containsF_any (v : Value) (ps : List ByteArray) (w : World) (h : StrsAt w v ps) (hl : ps.length ≤ 1000000000) (hp : ∀ p ∈ ps, p.size ≤ 9223372036854775807) :
    Calls Tryz.prog 216 #[v, .func (.func 148) #[] #[]] w fun e w' => w' = w ∧ e = .returned (.bool (anyBad ps)) := by
  have HI := hide (indexF_any v ps w h hl hp)
  obtain ⟨oa, c, rfl, _⟩ := h
  go_enter Tryz.func216, Tryz.ntmps216
  go_wp2_with fail
  refine (HI.out).mono ?_
  rintro _ w1 ⟨hw, i, rfl, hi⟩
  subst hw
  dsimp only
  have HX := hide hi
  clear hi
  go_wp2_with fail
  go_ret
  refine ⟨rfl, ?_⟩
  rw [← HX.out]
  rfl
theorem PDIs.setCount {w : World} {b mb lb : Nat} {R : RDk} {cv : Value} (h : PDIs w b R mb lb cv) (c : Int) : PDIs (w.setCell ⟨b, 4, none⟩ (.int .i64 c)) b { R with count := c } mb lb cv := by
  obtain ⟨n1, n2, n3, n4, n5⟩ := h.ne
  have hset : ∀ k, k ≠ b → (w.setCell ⟨b, 4, none⟩ (.int .i64 c)).heap[k]? = w.heap[k]? := fun k hk => heap_setCell_other _ _ _ _ (by simpa using hk)
  exact ⟨by rw [heap_setCell_same _ b 4 _ _ _ h.blk]; rfl, h.now.later (hset _ (Ne.symm n4)), h.safe.later (hset _ (Ne.symm n5)), h.apart, own_same h.chg (fun k hk _ => hset k (fun e => n1 (by rw [← e]; exact hk)))⟩
theorem PDIs.setLeft {w : World} {b mb lb : Nat} {R : RDk} {cv : Value} (h : PDIs w b R mb lb cv) (c : Int) : PDIs (w.setCell ⟨b, 5, none⟩ (.int .i64 c)) b { R with left := c } mb lb cv := by
  obtain ⟨n1, n2, n3, n4, n5⟩ := h.ne
  have hset : ∀ k, k ≠ b → (w.setCell ⟨b, 5, none⟩ (.int .i64 c)).heap[k]? = w.heap[k]? := fun k hk => heap_setCell_other _ _ _ _ (by simpa using hk)
  exact ⟨by rw [heap_setCell_same _ b 5 _ _ _ h.blk]; rfl, h.now.later (hset _ (Ne.symm n4)), h.safe.later (hset _ (Ne.symm n5)), h.apart, own_same h.chg (fun k hk _ => hset k (fun e => n1 (by rw [← e]; exact hk)))⟩
theorem PGo.set {s : PSt} {w w' : World} (h : s.In w) {R' : RDk} (hg : w.grownBy w' (some s.b)) (hd : PDIs w' s.b R' s.mb s.lb s.cv) (h1 : R'.now = s.R.now) (h2 : R'.safe = s.R.safe) (h3 : R'.chg = s.R.chg) : PGo s { s with R := R' } w w' :=
  PGo.disk h (Gr.of_grownBy hg (.inl rfl)) hd (.inl rfl) (.inl rfl) (.inl rfl) (by rw [h1]; exact h.inow) (by rw [h2]; exact h.isafe) (by rw [h3]; exact h.ichg)
set_option maxHeartbeats 1000000 in
set_option maxRecDepth 100000 in
theorem pstep_bad (b : Nat) (nm : ByteArray) (pv : Value) (ps : List ByteArray) (fvv : Value) (w : World) (hs : StrsAt w pv ps) (hl : ps.length ≤ 1000000000) (hp : ∀ p ∈ ps, p.size ≤ 9223372036854775807) (hb : anyBad ps = true) :
    Calls Tryz.prog 179 #[.pointer (some ⟨b, 0, none⟩), .string nm, pv, fvv] w fun e w' => ∃ v, e = .returned v ∧ stepE w' v 2 ∧ Below w.heap.size w w' := by
  have HC := hide (containsF_any pv ps w hs hl hp)
  rw [hb] at HC
  obtain ⟨oa, c, rfl, _⟩ := hs
  have hfin : stepE (w.alloc (.cells #[.string nm, .iface 147 (.int .i64 2)] 152)) (.iface 150 (.pointer (some ⟨w.heap.size, 0, none⟩))) 2 := ⟨_, nm, rfl, heap_alloc_new _ _⟩
  have HF := hide hfin
  clear hfin
  go_enter Tryz.func179, Tryz.ntmps179
  go_wp2_with fail
  refine (HC.out).mono ?_
  rintro _ w1 ⟨hw, rfl⟩
  subst hw
  dsimp only
  go_wp2_with fail
  go_ret
  exact ⟨_, rfl, HF.out, (Below.refl _ _).alloc (Nat.le_refl _) _⟩
set_option maxHeartbeats 1000000 in
set_option maxRecDepth 100000 in
theorem pstep_broken (s : PSt) (nm : ByteArray) (pv : Value) (ps : List ByteArray) (fvv : Value) (w : World) (h : s.In w) (hs : StrsAt w pv ps) (hl : ps.length ≤ 1000000000) (hp : ∀ p ∈ ps, p.size ≤ 9223372036854775807) (hb : anyBad ps = false) (h0 : s.R.left = 0) :
    Calls Tryz.prog 179 #[.pointer (some ⟨s.b, 0, none⟩), .string nm, pv, fvv] w fun e w' => e = .returned .nilIface ∧ w' = w := by
  have HC := hide (containsF_any pv ps w hs hl hp)
  rw [hb] at HC
  obtain ⟨oa, c, rfl, _⟩ := hs
  have c5 : w.cell? ⟨s.b, 5, none⟩ = some (.int .i64 s.R.left) := cell_of_row _ _ 5 _ _ _ h.is.blk
  rw [h0] at c5
  clear h
  go_enter Tryz.func179, Tryz.ntmps179
  go_wp2_with fail
  refine (HC.out).mono ?_
  rintro _ w1 ⟨hw, rfl⟩
  subst hw
  dsimp only
  go_wp2_with fail
  go_ret
  exact ⟨rfl, rfl⟩
set_option maxHeartbeats 2000000 in
set_option maxRecDepth 100000 in
theorem pstep_run (s : PSt) (nm : ByteArray) (pv : Value) (ps : List ByteArray) (K : Nat) (cap : Array Value) (w : World) (Bad : Int → Prop) (P : PSt → Prop) (h : s.In w) (hs : StrsAt w pv ps) (hl : ps.length ≤ 1000000000) (hp : ∀ p ∈ ps, p.size ≤ 9223372036854775807) (hb : anyBad ps = false) (h0 : s.R.left ≠ 0) (hf : Cnt4 s.R)
    (hcf : ∀ (args : Array Value) (w : World), (callFunc K args).run Tryz.prog w = .ok (.enter K args) w)
    (hv : Calls Tryz.prog K cap w fun e w1 => (∃ k, Bad k ∧ e = .returned (refV k) ∧ Below w.heap.size w w1) ∨ (e = .returned .nilIface ∧ ∃ s1, PGo s s1 w w1 ∧ s1.R.count = s.R.count ∧ s1.R.left = s.R.left ∧ P s1)) :
    Calls Tryz.prog 179 #[.pointer (some ⟨s.b, 0, none⟩), .string nm, pv, .func (.func K) #[] cap] w fun e w' =>
      (∃ k v, Bad k ∧ e = .returned v ∧ stepE w' v k ∧ Below w.heap.size w w') ∨ (e = .returned .nilIface ∧ ∃ s1, PGo s { s1 with R := s1.R.wrote } w w' ∧ P s1) := by
  have HC := hide (containsF_any pv ps w hs hl hp)
  rw [hb] at HC
  obtain ⟨oa, c, rfl, _⟩ := hs
  have c5 : w.cell? ⟨s.b, 5, none⟩ = some (.int .i64 s.R.left) := cell_of_row _ _ 5 _ _ _ h.is.blk
  have HV := hide hv
  have HF := hide hf
  have e5 : decide (s.R.left = 0) = false := decide_eq_false h0
  clear h hv hf
  go_enter Tryz.func179, Tryz.ntmps179
  go_wp2_with fail
  refine (HC.out).mono ?_
  rintro _ w1 ⟨hw, rfl⟩
  subst hw
  dsimp only
  go_wp2_with fail
  refine (HV.out).mono ?_
  rintro _ w2 (⟨k, hbk, rfl, hbl⟩ | ⟨rfl, s1, hgo, hcn, hlf, hP⟩)
  · dsimp only [refV]
    have hfin : stepE (w2.alloc (.cells #[.string nm, .iface 147 (.int .i64 k)] 152)) (.iface 150 (.pointer (some ⟨w2.heap.size, 0, none⟩))) k := ⟨_, nm, rfl, heap_alloc_new _ _⟩
    have HFIN := hide hfin
    have HBL := hide (hbl.alloc hbl.size (.cells #[.string nm, .iface 147 (.int .i64 k)] 152))
    have HBK := hide hbk
    clear hfin hbl hbk
    go_wp2_with fail
    go_ret
    exact .inl ⟨k, _, HBK.out, rfl, HFIN.out, HBL.out⟩
  · dsimp only
    have hin := hgo.inn
    have hbb := hgo.b
    have hd := hin.is
    rw [hbb] at hd
    have k4 : w2.cell? ⟨s.b, 4, none⟩ = some (.int .i64 s1.R.count) := cell_of_row _ _ 4 _ _ _ hd.blk
    have k5 : w2.cell? ⟨s.b, 5, none⟩ = some (.int .i64 s1.R.left) := cell_of_row _ _ 5 _ _ _ hd.blk
    have kf := fun j => frozen_of_row w2 s.b j _ _ hd.blk
    obtain ⟨q1, q2, q3, q4⟩ : Cnt4 s1.R := by unfold Cnt4; rw [hcn, hlf]; exact HF.out
    have hl0 : s1.R.left ≠ 0 := by rw [hlf]; exact h0
    by_cases hm1 : s1.R.left = -1
    · have hR : s1.R.wrote = { s1.R with count := s1.R.count + 1 } := by
        unfold RDk.wrote
        rw [if_neg (by omega)]
      have hgo2 : PGo s { s1 with R := s1.R.wrote } w1 (w2.setCell ⟨s.b, 4, none⟩ (.int .i64 (s1.R.count + 1))) := by
        refine hgo.trans (PGo.set hin (by rw [hbb]; exact grownBy_set _ _ _ _) ?_ rfl rfl rfl)
        rw [hbb, hR]
        exact hd.setCount _
      have HGO := hide hgo2
      have HP := hide hP
      rw [hm1] at k5
      clear hgo2 hR hgo hP hin hd hl0 hlf hcn
      go_wp2_with fail
      go_ret
      exact .inr ⟨rfl, s1, HGO.out, HP.out⟩
    · have hR : s1.R.wrote = { s1.R with count := s1.R.count + 1, left := s1.R.left - 1 } := by
        unfold RDk.wrote
        rw [if_pos (by omega)]
      have hgo2 : PGo s { s1 with R := s1.R.wrote } w1 ((w2.setCell ⟨s.b, 4, none⟩ (.int .i64 (s1.R.count + 1))).setCell ⟨s.b, 5, none⟩ (.int .i64 (s1.R.left - 1))) := by
        refine hgo.trans (PGo.set hin (by rw [hbb]; exact grownBy_trans (grownBy_set _ _ _ _) (grownBy_set _ _ _ _)) ?_ rfl rfl rfl)
        rw [hbb, hR]
        exact (hd.setCount _).setLeft _
      have HGO := hide hgo2
      have HP := hide hP
      have m5 : decide (s1.R.left = -1) = false := decide_eq_false hm1
      have hw1 : s1.R.left - 1 ≤ 9223372036854775807 := by omega
      have hw2 : -9223372036854775808 ≤ s1.R.left - 1 := by omega
      clear hgo2 hR hgo hP hin hd hl0 hlf hcn
      go_wp2_with fail
      go_ret
      exact .inr ⟨rfl, s1, HGO.out, HP.out⟩
end Go.Proofs.YteicpbcddjjceaaGreatDoor

/-
  PROVED HERE: what the program's own Sync of disks does.
-/
namespace Go.Proofs.YteicpbcddjjceaaGreatDoor
open Go.RowKit
/-- How a call of the disk comes back: refused, or gone on. -/
def PRet (s : PSt) (w : World) (k : Int) (P : PSt → Prop) (v : Value) (w' : World) : Prop :=
  (k ≠ 0 → stepE w' v k ∧ Below w.heap.size w w') ∧ (k = 0 → v = .nilIface ∧ ∃ s1, PGo s s1 w w' ∧ P s1)
theorem PRet.bad {s : PSt} {w w' : World} {k : Int} {P : PSt → Prop} {v : Value} (hk : k ≠ 0) (h1 : stepE w' v k) (h2 : Below w.heap.size w w') : PRet s w k P v w' := ⟨fun _ => ⟨h1, h2⟩, fun h => absurd h hk⟩
theorem PRet.ok {s s1 : PSt} {w w' : World} {P : PSt → Prop} (h1 : PGo s s1 w w') (h2 : P s1) : PRet s w 0 P .nilIface w' := ⟨fun h => absurd rfl h, fun _ => ⟨rfl, s1, h1, h2⟩⟩
theorem PRet.below {s : PSt} {w w1 w' : World} {k : Int} {P : PSt → Prop} {v : Value} (h : PRet s w1 k P v w') (hi : s.In w) (hb : Below w.heap.size w w1) : PRet s w k P v w' :=
  ⟨fun hk => ⟨(h.1 hk).1, hb.trans ((h.1 hk).2.mono hb.size)⟩, fun hk => ⟨(h.2 hk).1, by obtain ⟨s1, h1, h2⟩ := (h.2 hk).2; exact ⟨s1, (PGo.refl hi hb).trans h1, h2⟩⟩⟩
theorem stepE.later {w w' : World} {v : Value} {k : Int} (h : stepE w v k) (hb : Below w.heap.size w w') : stepE w' v k := by
  obtain ⟨s, nm, e, hs⟩ := h
  exact ⟨s, nm, e, (hb.block s (lt_heap hs)).trans hs⟩
theorem errno_ret {s : PSt} {w w1 : World} {k : Int} {P : PSt → Prop} {v : Value} (h : PRet s w k P v w1) (hg : w.cell? ⟨0, 0, none⟩ = some errT) :
    Calls Tryz.prog 41 #[v] w1 fun e2 w2 => e2 = .returned (.int .i64 k) ∧ (k ≠ 0 → Below w.heap.size w w2) ∧ (k = 0 → ∃ s1, PGo s s1 w w2 ∧ P s1) := by
  by_cases hk : k = 0
  · obtain ⟨rfl, s1, hgo, hP⟩ := h.2 hk
    refine (errno_nil w1).mono ?_
    rintro e2 w2 ⟨rfl, hb⟩
    subst hk
    exact ⟨rfl, fun h => absurd rfl h, fun _ => ⟨s1, hgo.trans (PGo.refl hgo.inn hb), hP⟩⟩
  · obtain ⟨hs, hb⟩ := h.1 hk
    refine (errno_step v k w1 hs (cell_later hb hg)).mono ?_
    rintro e2 w2 ⟨rfl, hb2⟩
    exact ⟨rfl, fun _ => hb.trans (hb2.mono hb.size), fun h => absurd h hk⟩
theorem three0 (w : World) (a : Array Value) (t : TypeId) (o2 o3 : Obj) : (((w.alloc (.cells a t)).alloc o2).alloc o3).heap[w.heap.size]? = some (.cells a t (0, 0)) := by
  rw [Below.heap_alloc _ _ _ (by rw [size_alloc, size_alloc]; omega), Below.heap_alloc _ _ _ (by rw [size_alloc]; omega)]
  exact heap_alloc_new _ _
theorem three1 (w : World) (o1 : Obj) (a : Array Value) (t : TypeId) (o3 : Obj) : (((w.alloc o1).alloc (.cells a t)).alloc o3).heap[w.heap.size + 1]? = some (.cells a t (0, 0)) := by
  rw [Below.heap_alloc _ _ _ (by rw [size_alloc, size_alloc]; omega)]
  have := heap_alloc_new (w.alloc o1) (.cells a t)
  rw [size_alloc] at this
  exact this
theorem three2 (w : World) (o1 o2 : Obj) (a : Array Value) (t : TypeId) : (((w.alloc o1).alloc o2).alloc (.cells a t)).heap[w.heap.size + 1 + 1]? = some (.cells a t (0, 0)) := by
  have := heap_alloc_new ((w.alloc o1).alloc o2) (.cells a t)
  rw [size_alloc, size_alloc] at this
  exact this
/-- A step with one path. -/
theorem pstep_one (s : PSt) (nm : ByteArray) (pv : Value) (p : ByteArray) (K : Nat) (cap : Array Value) (w : World) (Bad : Int → Prop) (P : PSt → Prop) (h : s.In w) (hs : StrsAt w pv [p]) (hp : p.size ≤ 9223372036854775807) (hf : Cnt4 s.R)
    (hcf : ∀ (args : Array Value) (w : World), (callFunc K args).run Tryz.prog w = .ok (.enter K args) w)
    (hv : isPathB p = true → Calls Tryz.prog K cap w fun e w1 => (∃ k, Bad k ∧ e = .returned (refV k) ∧ Below w.heap.size w w1) ∨ (e = .returned .nilIface ∧ ∃ s1, PGo s s1 w w1 ∧ s1.R.count = s.R.count ∧ s1.R.left = s.R.left ∧ P s1)) :
    Calls Tryz.prog 179 #[.pointer (some ⟨s.b, 0, none⟩), .string nm, pv, .func (.func K) #[] cap] w fun e w' => ∃ v, e = .returned v ∧
      (isPathB p = false → PRet s w 2 (fun _ => True) v w') ∧ (isPathB p = true → s.R.left = 0 → PRet s w 0 (fun s1 => s1 = s) v w') ∧
      (isPathB p = true → s.R.left ≠ 0 → (∃ k, Bad k ∧ stepE w' v k ∧ Below w.heap.size w w') ∨ (v = .nilIface ∧ ∃ s1, PGo s { s1 with R := s1.R.wrote } w w' ∧ P s1)) := by
  have hq : ∀ q ∈ [p], q.size ≤ 9223372036854775807 := by intro q hq; simp only [List.mem_singleton] at hq; rw [hq]; exact hp
  cases hpp : isPathB p with
  | false =>
    have ha : anyBad [p] = true := by simp [anyBad, hpp]
    refine (pstep_bad s.b nm pv [p] _ w hs (by simp) hq ha).mono ?_
    rintro e w' ⟨v, rfl, h1, h2⟩
    exact ⟨v, rfl, fun _ => PRet.bad (by decide) h1 h2, (fun h => by cases h), (fun h => by cases h)⟩
  | true =>
    have ha : anyBad [p] = false := by simp [anyBad, hpp]
    by_cases h0 : s.R.left = 0
    · refine (pstep_broken s nm pv [p] _ w h hs (by simp) hq ha h0).mono ?_
      rintro e w' ⟨rfl, rfl⟩
      exact ⟨_, rfl, (fun h => by cases h), fun _ _ => PRet.ok (PGo.refl h (Below.refl _ _)) rfl, fun _ h1 => absurd h0 h1⟩
    · refine (pstep_run s nm pv [p] K cap w Bad P h hs (by simp) hq ha h0 hf hcf (hv hpp)).mono ?_
      rintro e w' (⟨k, v, h1, rfl, h2, h3⟩ | ⟨rfl, h1⟩)
      · exact ⟨v, rfl, (fun h => by cases h), fun _ h1 => absurd h1 h0, fun _ _ => .inl ⟨k, h1, h2, h3⟩⟩
      · exact ⟨_, rfl, (fun h => by cases h), fun _ h1 => absurd h1 h0, fun _ _ => .inr ⟨rfl, h1⟩⟩
/-- The closed facts that the walk of a disk asks for of its closures. -/
theorem Tryz.enter (K : Nat) (fn : Func) (h1 : Tryz.prog.funcs[K]? = some fn) (h2 : (fn.name == "runtime.NumGoroutine") = false) (c : Code) (h3 : fn.body = some c) (args : Array Value) (w : World) : (callFunc K args).run Tryz.prog w = .ok (.enter K args) w := enters_of h1 h2 h3 args w
set_option maxHeartbeats 1000000 in
set_option maxRecDepth 100000 in
theorem psyncC (s : PSt) (g0 g1 : Nat) (p : ByteArray) (w : World) (h : s.In w) (c0 : w.cell? ⟨g0, 0, none⟩ = some (.pointer (some ⟨s.b, 0, none⟩))) (c1 : w.cell? ⟨g1, 0, none⟩ = some (.string p)) (hp : p.size ≤ 9223372036854775807) (hpp : isPathB p = true) :
    Calls Tryz.prog 239 #[.pointer (some ⟨g0, 0, none⟩), .pointer (some ⟨g1, 0, none⟩)] w fun e w1 =>
      (∃ k, (k = 3 ∧ findE p s.R.now = none) ∧ e = .returned (refV k) ∧ Below w.heap.size w w1) ∨ (e = .returned .nilIface ∧ ∃ s1, PGo s s1 w w1 ∧ s1.R.count = s.R.count ∧ s1.R.left = s.R.left ∧ ∃ f, findE p s.R.now = some f ∧ s1.R = s.R ∧ s1.fs = s.fs ∧ s1.fd = setNd s.fd f ((s.fd f).1, ((s.fd f).1.size : Int))) := by
  have HF := hide (pfind_any s.b s.R s.mb s.lb s.cv p w h.is hp)
  rw [hpp] at HF
  simp only [if_true] at HF
  have H := hide h
  clear h
  cases hfo : findE p s.R.now with
  | none =>
    rw [hfo] at HF
    dsimp only [refV] at HF
    go_enter Tryz.func239, Tryz.ntmps239
    go_wp2_with fail
    refine (HF.out).mono ?_
    rintro _ w1 ⟨hw, rfl⟩
    subst hw
    dsimp only
    go_wp2_with fail
    go_ret
    exact .inl ⟨3, ⟨rfl, by first | trivial | rfl⟩, rfl, Below.refl _ _⟩
  | some f =>
    rw [hfo] at HF
    dsimp only at HF
    have hm : f ∈ s.fs := by
      obtain ⟨e, he, hb⟩ := findE_mem hfo
      rw [← hb]; exact H.out.inow e he
    have HS := hide (psync_file f _ _ w (H.out.fds f hm))
    go_enter Tryz.func239, Tryz.ntmps239
    go_wp2_with fail
    refine (HF.out).mono ?_
    rintro _ w1 ⟨hw, rfl⟩
    subst hw
    dsimp only
    go_wp2_with fail
    refine (HS.out).mono ?_
    rintro _ w2 ⟨rfl, hg2, hfd2⟩
    dsimp only
    have hgo := PGo.file H.out hm ((Gr.of_grownBy hg2 (.inl rfl)) : Gr (fun k => k = f ∨ (s.fv f).ownBlock = some k) w1 w2) hfd2 (.inl rfl)
    have HGO := hide hgo
    clear hgo hg2 hfd2
    go_wp2_with fail
    go_ret
    exact .inr ⟨rfl, _, HGO.out, rfl, rfl, f, rfl, rfl, rfl, rfl⟩
set_option maxHeartbeats 1000000 in
set_option maxRecDepth 100000 in
theorem pdSync (s : PSt) (p : ByteArray) (w : World) (h : s.In w) (hp : p.size ≤ 9223372036854775807) (hf : Cnt4 s.R) :
    Calls Tryz.prog 214 #[.pointer (some ⟨s.b, 0, none⟩), .string p] w fun e w' => ∃ v, e = .returned v ∧
      (isPathB p = false → PRet s w 2 (fun _ => True) v w') ∧
      (isPathB p = true → s.R.left = 0 → PRet s w 0 (fun s1 => s1 = s) v w') ∧
      (isPathB p = true → s.R.left ≠ 0 → findE p s.R.now = none → PRet s w 3 (fun _ => True) v w') ∧
      (∀ f, isPathB p = true → s.R.left ≠ 0 → findE p s.R.now = some f → PRet s w 0 (fun s1 => s1.R = s.R.wrote ∧ s1.fs = s.fs ∧ s1.fd = setNd s.fd f ((s.fd f).1, ((s.fd f).1.size : Int))) v w') := by
  have hb3 := three_below w (.cells #[.pointer (some ⟨s.b, 0, none⟩)] 46) (.cells #[.string p] 9) (.cells #[.string p] 9)
  have h3 := h.later hb3
  have hs : StrsAt (((w.alloc (.cells #[.pointer (some ⟨s.b, 0, none⟩)] 46)).alloc (.cells #[.string p] 9)).alloc (.cells #[.string p] 9)) (.slice (some ⟨w.heap.size + 1 + 1, 0, none⟩) 1 1) [p] := by
    refine ⟨_, 1, rfl, fun i hi => ⟨_, rfl, ?_⟩⟩
    have : i = 0 := by simpa using hi
    subst this
    exact cell_of_row _ _ 0 _ _ _ (three2 _ _ _ _ _)
  have HST := hide (pstep_one s ⟨#[83, 121, 110, 99]⟩ _ p 239 #[.pointer (some ⟨w.heap.size, 0, none⟩), .pointer (some ⟨w.heap.size + 1, 0, none⟩)] _ _ _ h3 hs hp hf (Tryz.enter _ _ Tryz.func239 (by kernel_rfl) _ rfl) (fun hpp => psyncC s _ _ p _ h3 (cell_of_row _ _ 0 _ _ _ (three0 _ _ _ _ _)) (cell_of_row _ _ 0 _ _ _ (three1 _ _ _ _ _)) hp hpp))
  have HB := hide hb3
  have H := hide h
  clear hb3 h3 hs h
  go_enter Tryz.func214, Tryz.ntmps214
  go_wp2_with fail
  refine (HST.out).mono ?_
  rintro _ w' ⟨v, rfl, h1, h2, h3⟩
  dsimp only
  have H1 := hide h1
  have H2 := hide h2
  have H3 := hide h3
  clear h1 h2 h3
  go_wp2_with fail
  go_ret
  refine ⟨_, rfl, fun h => (H1.out h).below H.out HB.out, fun h h0 => (H2.out h h0).below H.out HB.out, fun h h0 hn => ?_, fun f h h0 hn => ?_⟩
  · rcases H3.out h h0 with ⟨k, ⟨rfl, _⟩, h4, h5⟩ | ⟨rfl, s1, h4, f, h5, _⟩
    · exact (PRet.bad (by decide) h4 h5).below H.out HB.out
    · rw [hn] at h5; cases h5
  · rcases H3.out h h0 with ⟨k, ⟨rfl, h6⟩, h4, h5⟩ | ⟨rfl, s1, h4, f', h5, h6, h7, h8⟩
    · rw [hn] at h6; cases h6
    · rw [hn] at h5
      injection h5 with h5
      subst h5
      exact (PRet.ok h4 ⟨by dsimp only; rw [h6], h7, h8⟩).below H.out HB.out
end Go.Proofs.YteicpbcddjjceaaGreatDoor
