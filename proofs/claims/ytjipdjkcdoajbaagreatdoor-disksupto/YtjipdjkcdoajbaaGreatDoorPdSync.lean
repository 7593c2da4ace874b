/-
  PROVED HERE: what the program's own Sync of disks does.
-/
import Derived.Test.YtjipdjkcdoajbaaGreatDoorPdStep
namespace Go.Proofs.YtjipdjkcdoajbaaGreatDoor
open Go.RowKit
/-- How a call of the disk comes back: refused, or gone on. -/
def PRet (s : PSt) (w : World) (k : Int) (P : PSt → Prop) (v : Value) (w' : World) : Prop :=
  (k ≠ 0 → stepE w' v k ∧ Below w.heap.size w w') ∧ (k = 0 → v = .nilIface ∧ ∃ s1, PGo s s1 w w' ∧ P s1)
theorem PRet.bad {s : PSt} {w w' : World} {k : Int} {P : PSt → Prop} {v : Value} (hk : k ≠ 0) (h1 : stepE w' v k) (h2 : Below w.heap.size w w') : PRet s w k P v w' := ⟨fun _ => ⟨h1, h2⟩, fun h => absurd h hk⟩
theorem PRet.ok {s s1 : PSt} {w w' : World} {P : PSt → Prop} (h1 : PGo s s1 w w') (h2 : P s1) : PRet s w 0 P .nilIface w' := ⟨fun h => absurd rfl h, fun _ => ⟨rfl, s1, h1, h2⟩⟩
theorem PRet.below {s : PSt} {w w1 w' : World} {k : Int} {P : PSt → Prop} {v : Value} (h : PRet s w1 k P v w') (hi : s.In w) (hb : Below w.heap.size w w1) : PRet s w k P v w' :=
  ⟨fun hk => ⟨(h.1 hk).1, hb.trans ((h.1 hk).2.mono hb.size)⟩, fun hk => ⟨(h.2 hk).1, by obtain ⟨s1, h1, h2⟩ := (h.2 hk).2; exact ⟨s1, (PGo.refl hi hb).trans h1, h2⟩⟩⟩
theorem stepE.later {w w' : World} {v : Value} {k : Int} (h : stepE w v k) (hb : Below w.heap.size w w') : stepE w' v k := by
  obtain ⟨s, nm, e, hs⟩ := h
  exact ⟨s, nm, e, (hb.block s (lt_heap hs)).trans hs⟩
theorem errno_ret {s : PSt} {w w1 : World} {k : Int} {P : PSt → Prop} {v : Value} (h : PRet s w k P v w1) (hg : w.cell? ⟨0, 0, none⟩ = some errT) :
    Calls Tryz.prog 47 #[v] w1 fun e2 w2 => e2 = .returned (.int .i64 k) ∧ (k ≠ 0 → Below w.heap.size w w2) ∧ (k = 0 → ∃ s1, PGo s s1 w w2 ∧ P s1) := by
  by_cases hk : k = 0
  · obtain ⟨rfl, s1, hgo, hP⟩ := h.2 hk
    refine (errno_nil w1).mono ?_
    rintro e2 w2 ⟨rfl, hb⟩
    subst hk
    exact ⟨rfl, fun h => absurd rfl h, fun _ => ⟨s1, hgo.trans (PGo.refl hgo.inn hb), hP⟩⟩
  · obtain ⟨hs, hb⟩ := h.1 hk
    refine (errno_step v k w1 hs (cell_later hb hg)).mono ?_
    rintro e2 w2 ⟨rfl, hb2⟩
    exact ⟨rfl, fun _ => hb.trans (hb2.mono hb.size), fun h => absurd h hk⟩
theorem three0 (w : World) (a : Array Value) (t : TypeId) (o2 o3 : Obj) : (((w.alloc (.cells a t)).alloc o2).alloc o3).heap[w.heap.size]? = some (.cells a t (0, 0)) := by
  rw [Below.heap_alloc _ _ _ (by rw [size_alloc, size_alloc]; omega), Below.heap_alloc _ _ _ (by rw [size_alloc]; omega)]
  exact heap_alloc_new _ _
theorem three1 (w : World) (o1 : Obj) (a : Array Value) (t : TypeId) (o3 : Obj) : (((w.alloc o1).alloc (.cells a t)).alloc o3).heap[w.heap.size + 1]? = some (.cells a t (0, 0)) := by
  rw [Below.heap_alloc _ _ _ (by rw [size_alloc, size_alloc]; omega)]
  have := heap_alloc_new (w.alloc o1) (.cells a t)
  rw [size_alloc] at this
  exact this
theorem three2 (w : World) (o1 o2 : Obj) (a : Array Value) (t : TypeId) : (((w.alloc o1).alloc o2).alloc (.cells a t)).heap[w.heap.size + 1 + 1]? = some (.cells a t (0, 0)) := by
  have := heap_alloc_new ((w.alloc o1).alloc o2) (.cells a t)
  rw [size_alloc, size_alloc] at this
  exact this
/-- A step with one path. -/
theorem pstep_one (s : PSt) (nm : ByteArray) (pv : Value) (p : ByteArray) (K : Nat) (cap : Array Value) (w : World) (Bad : Int → Prop) (P : PSt → Prop) (h : s.In w) (hs : StrsAt w pv [p]) (hp : p.size ≤ 9223372036854775807) (hf : Cnt4 s.R)
    (hcf : ∀ (args : Array Value) (w : World), (callFunc K args).run Tryz.prog w = .ok (.enter K args) w)
    (hv : isPathB p = true → Calls Tryz.prog K cap w fun e w1 => (∃ k, Bad k ∧ e = .returned (refV k) ∧ Below w.heap.size w w1) ∨ (e = .returned .nilIface ∧ ∃ s1, PGo s s1 w w1 ∧ s1.R.count = s.R.count ∧ s1.R.left = s.R.left ∧ P s1)) :
    Calls Tryz.prog 73 #[.pointer (some ⟨s.b, 0, none⟩), .string nm, pv, .func (.func K) #[] cap] w fun e w' => ∃ v, e = .returned v ∧
      (isPathB p = false → PRet s w 2 (fun _ => True) v w') ∧ (isPathB p = true → s.R.left = 0 → PRet s w 0 (fun s1 => s1 = s) v w') ∧
      (isPathB p = true → s.R.left ≠ 0 → (∃ k, Bad k ∧ stepE w' v k ∧ Below w.heap.size w w') ∨ (v = .nilIface ∧ ∃ s1, PGo s { s1 with R := s1.R.wrote } w w' ∧ P s1)) := by
  have hq : ∀ q ∈ [p], q.size ≤ 9223372036854775807 := by intro q hq; simp only [List.mem_singleton] at hq; rw [hq]; exact hp
  cases hpp : isPathB p with
  | false =>
    have ha : anyBad [p] = true := by simp [anyBad, hpp]
    refine (pstep_bad s.b nm pv [p] _ w hs (by simp) hq ha).mono ?_
    rintro e w' ⟨v, rfl, h1, h2⟩
    exact ⟨v, rfl, fun _ => PRet.bad (by decide) h1 h2, (fun h => by cases h), (fun h => by cases h)⟩
  | true =>
    have ha : anyBad [p] = false := by simp [anyBad, hpp]
    by_cases h0 : s.R.left = 0
    · refine (pstep_broken s nm pv [p] _ w h hs (by simp) hq ha h0).mono ?_
      rintro e w' ⟨rfl, rfl⟩
      exact ⟨_, rfl, (fun h => by cases h), fun _ _ => PRet.ok (PGo.refl h (Below.refl _ _)) rfl, fun _ h1 => absurd h0 h1⟩
    · refine (pstep_run s nm pv [p] K cap w Bad P h hs (by simp) hq ha h0 hf hcf (hv hpp)).mono ?_
      rintro e w' (⟨k, v, h1, rfl, h2, h3⟩ | ⟨rfl, h1⟩)
      · exact ⟨v, rfl, (fun h => by cases h), fun _ h1 => absurd h1 h0, fun _ _ => .inl ⟨k, h1, h2, h3⟩⟩
      · exact ⟨_, rfl, (fun h => by cases h), fun _ h1 => absurd h1 h0, fun _ _ => .inr ⟨rfl, h1⟩⟩
/-- The closed facts that the walk of a disk asks for of its closures. -/
theorem Tryz.enter (K : Nat) (fn : Func) (h1 : Tryz.prog.funcs[K]? = some fn) (h2 : (fn.name == "runtime.NumGoroutine") = false) (c : Code) (h3 : fn.body = some c) (args : Array Value) (w : World) : (callFunc K args).run Tryz.prog w = .ok (.enter K args) w := enters_of h1 h2 h3 args w
set_option maxHeartbeats 1000000 in
set_option maxRecDepth 100000 in
theorem psyncC (s : PSt) (g0 g1 : Nat) (p : ByteArray) (w : World) (h : s.In w) (c0 : w.cell? ⟨g0, 0, none⟩ = some (.pointer (some ⟨s.b, 0, none⟩))) (c1 : w.cell? ⟨g1, 0, none⟩ = some (.string p)) (hp : p.size ≤ 9223372036854775807) (hpp : isPathB p = true) :
    Calls Tryz.prog 81 #[.pointer (some ⟨g0, 0, none⟩), .pointer (some ⟨g1, 0, none⟩)] w fun e w1 =>
      (∃ k, (k = 3 ∧ findE p s.R.now = none) ∧ e = .returned (refV k) ∧ Below w.heap.size w w1) ∨ (e = .returned .nilIface ∧ ∃ s1, PGo s s1 w w1 ∧ s1.R.count = s.R.count ∧ s1.R.left = s.R.left ∧ ∃ f, findE p s.R.now = some f ∧ s1.R = s.R ∧ s1.fs = s.fs ∧ s1.fd = setNd s.fd f ((s.fd f).1, ((s.fd f).1.size : Int))) := by
  have HF := hide (pfind_any s.b s.R s.mb s.lb s.cv p w h.is hp)
  rw [hpp] at HF
  simp only [if_true] at HF
  have H := hide h
  clear h
  cases hfo : findE p s.R.now with
  | none =>
    rw [hfo] at HF
    dsimp only [refV] at HF
    go_enter Tryz.func81, Tryz.ntmps81
    go_wp2_with fail
    refine (HF.out).mono ?_
    rintro _ w1 ⟨hw, rfl⟩
    subst hw
    dsimp only
    go_wp2_with fail
    go_ret
    exact .inl ⟨3, ⟨rfl, by first | trivial | rfl⟩, rfl, Below.refl _ _⟩
  | some f =>
    rw [hfo] at HF
    dsimp only at HF
    have hm : f ∈ s.fs := by
      obtain ⟨e, he, hb⟩ := findE_mem hfo
      rw [← hb]; exact H.out.inow e he
    have HS := hide (psync_file f _ _ w (H.out.fds f hm))
    go_enter Tryz.func81, Tryz.ntmps81
    go_wp2_with fail
    refine (HF.out).mono ?_
    rintro _ w1 ⟨hw, rfl⟩
    subst hw
    dsimp only
    go_wp2_with fail
    refine (HS.out).mono ?_
    rintro _ w2 ⟨rfl, hg2, hfd2⟩
    dsimp only
    have hgo := PGo.file H.out hm ((Gr.of_grownBy hg2 (.inl rfl)) : Gr (fun k => k = f ∨ (s.fv f).ownBlock = some k) w1 w2) hfd2 (.inl rfl)
    have HGO := hide hgo
    clear hgo hg2 hfd2
    go_wp2_with fail
    go_ret
    exact .inr ⟨rfl, _, HGO.out, rfl, rfl, f, rfl, rfl, rfl, rfl⟩
set_option maxHeartbeats 1000000 in
set_option maxRecDepth 100000 in
theorem pdSync (s : PSt) (p : ByteArray) (w : World) (h : s.In w) (hp : p.size ≤ 9223372036854775807) (hf : Cnt4 s.R) :
    Calls Tryz.prog 62 #[.pointer (some ⟨s.b, 0, none⟩), .string p] w fun e w' => ∃ v, e = .returned v ∧
      (isPathB p = false → PRet s w 2 (fun _ => True) v w') ∧
      (isPathB p = true → s.R.left = 0 → PRet s w 0 (fun s1 => s1 = s) v w') ∧
      (isPathB p = true → s.R.left ≠ 0 → findE p s.R.now = none → PRet s w 3 (fun _ => True) v w') ∧
      (∀ f, isPathB p = true → s.R.left ≠ 0 → findE p s.R.now = some f → PRet s w 0 (fun s1 => s1.R = s.R.wrote ∧ s1.fs = s.fs ∧ s1.fd = setNd s.fd f ((s.fd f).1, ((s.fd f).1.size : Int))) v w') := by
  have hb3 := three_below w (.cells #[.pointer (some ⟨s.b, 0, none⟩)] 50) (.cells #[.string p] 9) (.cells #[.string p] 9)
  have h3 := h.later hb3
  have hs : StrsAt (((w.alloc (.cells #[.pointer (some ⟨s.b, 0, none⟩)] 50)).alloc (.cells #[.string p] 9)).alloc (.cells #[.string p] 9)) (.slice (some ⟨w.heap.size + 1 + 1, 0, none⟩) 1 1) [p] := by
    refine ⟨_, 1, rfl, fun i hi => ⟨_, rfl, ?_⟩⟩
    have : i = 0 := by simpa using hi
    subst this
    exact cell_of_row _ _ 0 _ _ _ (three2 _ _ _ _ _)
  have HST := hide (pstep_one s ⟨#[83, 121, 110, 99]⟩ _ p 81 #[.pointer (some ⟨w.heap.size, 0, none⟩), .pointer (some ⟨w.heap.size + 1, 0, none⟩)] _ _ _ h3 hs hp hf (Tryz.enter _ _ Tryz.func81 (by kernel_rfl) _ rfl) (fun hpp => psyncC s _ _ p _ h3 (cell_of_row _ _ 0 _ _ _ (three0 _ _ _ _ _)) (cell_of_row _ _ 0 _ _ _ (three1 _ _ _ _ _)) hp hpp))
  have HB := hide hb3
  have H := hide h
  clear hb3 h3 hs h
  go_enter Tryz.func62, Tryz.ntmps62
  go_wp2_with fail
  refine (HST.out).mono ?_
  rintro _ w' ⟨v, rfl, h1, h2, h3⟩
  dsimp only
  have H1 := hide h1
  have H2 := hide h2
  have H3 := hide h3
  clear h1 h2 h3
  go_wp2_with fail
  go_ret
  refine ⟨_, rfl, fun h => (H1.out h).below H.out HB.out, fun h h0 => (H2.out h h0).below H.out HB.out, fun h h0 hn => ?_, fun f h h0 hn => ?_⟩
  · rcases H3.out h h0 with ⟨k, ⟨rfl, _⟩, h4, h5⟩ | ⟨rfl, s1, h4, f, h5, _⟩
    · exact (PRet.bad (by decide) h4 h5).below H.out HB.out
    · rw [hn] at h5; cases h5
  · rcases H3.out h h0 with ⟨k, ⟨rfl, h6⟩, h4, h5⟩ | ⟨rfl, s1, h4, f', h5, h6, h7, h8⟩
    · rw [hn] at h6; cases h6
    · rw [hn] at h5
      injection h5 with h5
      subst h5
      exact (PRet.ok h4 ⟨by dsimp only; rw [h6], h7, h8⟩).below H.out HB.out
end Go.Proofs.YtjipdjkcdoajbaaGreatDoor
