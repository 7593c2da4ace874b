/-
  PROVED HERE: what the program's own Sync of disks does.
-/
import Derived.Test.YteicpbcddjjceaaGreatDoorPdStep
namespace Go.Proofs.YteicpbcddjjceaaGreatDoor
open Go.RowKit
/-- How a call of the disk comes back: refused, or gone on. -/
def PRet (s : PSt) (w : World) (k : Int) (P : PSt → Prop) (v : Value) (w' : World) : Prop :=
  (k ≠ 0 → stepE w' v k ∧ Below w.heap.size w w') ∧ (k = 0 → v = .nilIface ∧ ∃ s1, PGo s s1 w w' ∧ P s1)
theorem PRet.bad {s : PSt} {w w' : World} {k : Int} {P : PSt → Prop} {v : Value} (hk : k ≠ 0) (h1 : stepE w' v k) (h2 : Below w.heap.size w w') : PRet s w k P v w' := ⟨fun _ => ⟨h1, h2⟩, fun h => absurd h hk⟩
theorem PRet.ok {s s1 : PSt} {w w' : World} {P : PSt → Prop} (h1 : PGo s s1 w w') (h2 : P s1) : PRet s w 0 P .nilIface w' := ⟨fun h => absurd rfl h, fun _ => ⟨rfl, s1, h1, h2⟩⟩
theorem PRet.below {s : PSt} {w w1 w' : World} {k : Int} {P : PSt → Prop} {v : Value} (h : PRet s w1 k P v w') (hi : s.In w) (hb : Below w.heap.size w w1) : PRet s w k P v w' :=
  ⟨fun hk => ⟨(h.1 hk).1, hb.trans ((h.1 hk).2.mono hb.size)⟩, fun hk => ⟨(h.2 hk).1, by obtain ⟨s1, h1, h2⟩ := (h.2 hk).2; exact ⟨s1, (PGo.refl hi hb).trans h1, h2⟩⟩⟩
theorem stepE.later {w w' : World} {v : Value} {k : Int} (h : stepE w v k) (hb : Below w.heap.size w w') : stepE w' v k := by
  obtain ⟨s, nm, e, hs⟩ := h
  exact ⟨s, nm, e, (hb.block s (lt_heap hs)).trans hs⟩
theorem errno_ret {s : PSt} {w w1 : World} {k : Int} {P : PSt → Prop} {v : Value} (h : PRet s w k P v w1) (hg : w.cell? ⟨0, 0, none⟩ = some errT) :
    Calls Tryz.prog 41 #[v] w1 fun e2 w2 => e2 = .returned (.int .i64 k) ∧ (k ≠ 0 → Below w.heap.size w w2) ∧ (k = 0 → ∃ s1, PGo s s1 w w2 ∧ P s1) := by
  by_cases hk : k = 0
  · obtain ⟨rfl, s1, hgo, hP⟩ := h.2 hk
    refine (errno_nil w1).mono ?_
    rintro e2 w2 ⟨rfl, hb⟩
    subst hk
    exact ⟨rfl, fun h => absurd rfl h, fun _ => ⟨s1, hgo.trans (PGo.refl hgo.inn hb), hP⟩⟩
  · obtain ⟨hs, hb⟩ := h.1 hk
    refine (errno_step v k w1 hs (cell_later hb hg)).mono ?_
    rintro e2 w2 ⟨rfl, hb2⟩
    exact ⟨rfl, fun _ => hb.trans (hb2.mono hb.size), fun h => absurd h hk⟩
theorem three0 (w : World) (a : Array Value) (t : TypeId) (o2 o3 : Obj) : (((w.alloc (.cells a t)).alloc o2).alloc o3).heap[w.heap.size]? = some (.cells a t (0, 0)) := by
  rw [Below.heap_alloc _ _ _ (by rw [size_alloc, size_alloc]; omega), Below.heap_alloc _ _ _ (by rw [size_alloc]; omega)]
  exact heap_alloc_new _ _
theorem three1 (w : World) (o1 : Obj) (a : Array Value) (t : TypeId) (o3 : Obj) : (((w.alloc o1).alloc (.cells a t)).alloc o3).heap[w.heap.size + 1]? = some (.cells a t (0, 0)) := by
  rw [Below.heap_alloc _ _ _ (by rw [size_alloc, size_alloc]; omega)]
  have := heap_alloc_new (w.alloc o1) (.cells a t)
  rw [size_alloc] at this
  exact this
theorem three2 (w : World) (o1 o2 : Obj) (a : Array Value) (t : TypeId) : (((w.alloc o1).alloc o2).alloc (.cells a t)).heap[w.heap.size + 1 + 1]? = some (.cells a t (0, 0)) := by
  have := heap_alloc_new ((w.alloc o1).alloc o2) (.cells a t)
  rw [size_alloc, size_alloc] at this
  exact this
/-- A step with one path. -/
theorem pstep_one (s : PSt) (nm : ByteArray) (pv : Value) (p : ByteArray) (K : Nat) (cap : Array Value) (w : World) (Bad : Int → Prop) (P : PSt → Prop) (h : s.In w) (hs : StrsAt w pv [p]) (hp : p.size ≤ 9223372036854775807) (hf : Cnt4 s.R)
    (hcf : ∀ (args : Array Value) (w : World), (callFunc K args).run Tryz.prog w = .ok (.enter K args) w)
    (hv : isPathB p = true → Calls Tryz.prog K cap w fun e w1 => (∃ k, Bad k ∧ e = .returned (refV k) ∧ Below w.heap.size w w1) ∨ (e = .returned .nilIface ∧ ∃ s1, PGo s s1 w w1 ∧ s1.R.count = s.R.count ∧ s1.R.left = s.R.left ∧ P s1)) :
    Calls Tryz.prog 179 #[.pointer (some ⟨s.b, 0, none⟩), .string nm, pv, .func (.func K) #[] cap] w fun e w' => ∃ v, e = .returned v ∧
      (isPathB p = false → PRet s w 2 (fun _ => True) v w') ∧ (isPathB p = true → s.R.left = 0 → PRet s w 0 (fun s1 => s1 = s) v w') ∧
      (isPathB p = true → s.R.left ≠ 0 → (∃ k, Bad k ∧ stepE w' v k ∧ Below w.heap.size w w') ∨ (v = .nilIface ∧ ∃ s1, PGo s { s1 with R := s1.R.wrote } w w' ∧ P s1)) := by
  have hq : ∀ q ∈ [p], q.size ≤ 9223372036854775807 := by intro q hq; simp only [List.mem_singleton] at hq; rw [hq]; exact hp
  cases hpp : isPathB p with
  | false =>
    have ha : anyBad [p] = true := by simp [anyBad, hpp]
    refine (pstep_bad s.b nm pv [p] _ w hs (by simp) hq ha).mono ?_
    rintro e w' ⟨v, rfl, h1, h2⟩
    exact ⟨v, rfl, fun _ => PRet.bad (by decide) h1 h2, (fun h => by cases h), (fun h => by cases h)⟩
  | true =>
    have ha : anyBad [p] = false := by simp [anyBad, hpp]
    by_cases h0 : s.R.left = 0
    · refine (pstep_broken s nm pv [p] _ w h hs (by simp) hq ha h0).mono ?_
      rintro e w' ⟨rfl, rfl⟩
      exact ⟨_, rfl, (fun h => by cases h), fun _ _ => PRet.ok (PGo.refl h (Below.refl _ _)) rfl, fun _ h1 => absurd h0 h1⟩
    · refine (pstep_run s nm pv [p] K cap w Bad P h hs (by simp) hq ha h0 hf hcf (hv hpp)).mono ?_
      rintro e w' (⟨k, v, h1, rfl, h2, h3⟩ | ⟨rfl, h1⟩)
      · exact ⟨v, rfl, (fun h => by cases h), fun _ h1 => absurd h1 h0, fun _ _ => .inl ⟨k, h1, h2, h3⟩⟩
      · exact ⟨_, rfl, (fun h => by cases h), fun _ h1 => absurd h1 h0, fun _ _ => .inr ⟨rfl, h1⟩⟩
/-- The closed facts that the walk of a disk asks for of its closures. -/
theorem Tryz.enter (K : Nat) (fn : Func) (h1 : Tryz.prog.funcs[K]? = some fn) (h2 : (fn.name == "runtime.NumGoroutine") = false) (c : Code) (h3 : fn.body = some c) (args : Array Value) (w : World) : (callFunc K args).run Tryz.prog w = .ok (.enter K args) w := enters_of h1 h2 h3 args w
set_option maxHeartbeats 1000000 in
set_option maxRecDepth 100000 in
theorem psyncC (s : PSt) (g0 g1 : Nat) (p : ByteArray) (w : World) (h : s.In w) (c0 : w.cell? ⟨g0, 0, none⟩ = some (.pointer (some ⟨s.b, 0, none⟩))) (c1 : w.cell? ⟨g1, 0, none⟩ = some (.string p)) (hp : p.size ≤ 9223372036854775807) (hpp : isPathB p = true) :
    Calls Tryz.prog 239 #[.pointer (some ⟨g0, 0, none⟩), .pointer (some ⟨g1, 0, none⟩)] w fun e w1 =>
      (∃ k, (k = 3 ∧ findE p s.R.now = none) ∧ e = .returned (refV k) ∧ Below w.heap.size w w1) ∨ (e = .returned .nilIface ∧ ∃ s1, PGo s s1 w w1 ∧ s1.R.count = s.R.count ∧ s1.R.left = s.R.left ∧ ∃ f, findE p s.R.now = some f ∧ s1.R = s.R ∧ s1.fs = s.fs ∧ s1.fd = setNd s.fd f ((s.fd f).1, ((s.fd f).1.size : Int))) := by
  have HF := hide (pfind_any s.b s.R s.mb s.lb s.cv p w h.is hp)
  rw [hpp] at HF
  simp only [if_true] at HF
  have H := hide h
  clear h
  cases hfo : findE p s.R.now with
  | none =>
    rw [hfo] at HF
    dsimp only [refV] at HF
    go_enter Tryz.func239, Tryz.ntmps239
    go_wp2_with fail
    refine (HF.out).mono ?_
    rintro _ w1 ⟨hw, rfl⟩
    subst hw
    dsimp only
    go_wp2_with fail
    go_ret
    exact .inl ⟨3, ⟨rfl, by first | trivial | rfl⟩, rfl, Below.refl _ _⟩
  | some f =>
    rw [hfo] at HF
    dsimp only at HF
    have hm : f ∈ s.fs := by
      obtain ⟨e, he, hb⟩ := findE_mem hfo
      rw [← hb]; exact H.out.inow e he
    have HS := hide (psync_file f _ _ w (H.out.fds f hm))
    go_enter Tryz.func239, Tryz.ntmps239
    go_wp2_with fail
    refine (HF.out).mono ?_
    rintro _ w1 ⟨hw, rfl⟩
    subst hw
    dsimp only
    go_wp2_with fail
    refine (HS.out).mono ?_
    rintro _ w2 ⟨rfl, hg2, hfd2⟩
    dsimp only
    have hgo := PGo.file H.out hm ((Gr.of_grownBy hg2 (.inl rfl)) : Gr (fun k => k = f ∨ (s.fv f).ownBlock = some k) w1 w2) hfd2 (.inl rfl)
    have HGO := hide hgo
    clear hgo hg2 hfd2
    go_wp2_with fail
    go_ret
    exact .inr ⟨rfl, _, HGO.out, rfl, rfl, f, rfl, rfl, rfl, rfl⟩
set_option maxHeartbeats 1000000 in
set_option maxRecDepth 100000 in
theorem pdSync (s : PSt) (p : ByteArray) (w : World) (h : s.In w) (hp : p.size ≤ 9223372036854775807) (hf : Cnt4 s.R) :
    Calls Tryz.prog 214 #[.pointer (some ⟨s.b, 0, none⟩), .string p] w fun e w' => ∃ v, e = .returned v ∧
      (isPathB p = false → PRet s w 2 (fun _ => True) v w') ∧
      (isPathB p = true → s.R.left = 0 → PRet s w 0 (fun s1 => s1 = s) v w') ∧
      (isPathB p = true → s.R.left ≠ 0 → findE p s.R.now = none → PRet s w 3 (fun _ => True) v w') ∧
      (∀ f, isPathB p = true → s.R.left ≠ 0 → findE p s.R.now = some f → PRet s w 0 (fun s1 => s1.R = s.R.wrote ∧ s1.fs = s.fs ∧ s1.fd = setNd s.fd f ((s.fd f).1, ((s.fd f).1.size : Int))) v w') := by
  have hb3 := three_below w (.cells #[.pointer (some ⟨s.b, 0, none⟩)] 46) (.cells #[.string p] 9) (.cells #[.string p] 9)
  have h3 := h.later hb3
  have hs : StrsAt (((w.alloc (.cells #[.pointer (some ⟨s.b, 0, none⟩)] 46)).alloc (.cells #[.string p] 9)).alloc (.cells #[.string p] 9)) (.slice (some ⟨w.heap.size + 1 + 1, 0, none⟩) 1 1) [p] := by
    refine ⟨_, 1, rfl, fun i hi => ⟨_, rfl, ?_⟩⟩
    have : i = 0 := by simpa using hi
    subst this
    exact cell_of_row _ _ 0 _ _ _ (three2 _ _ _ _ _)
  have HST := hide (pstep_one s ⟨#[83, 121, 110, 99]⟩ _ p 239 #[.pointer (some ⟨w.heap.size, 0, none⟩), .pointer (some ⟨w.heap.size + 1, 0, none⟩)] _ _ _ h3 hs hp hf (Tryz.enter _ _ Tryz.func239 (by kernel_rfl) _ rfl) (fun hpp => psyncC s _ _ p _ h3 (cell_of_row _ _ 0 _ _ _ (three0 _ _ _ _ _)) (cell_of_row _ _ 0 _ _ _ (three1 _ _ _ _ _)) hp hpp))
  have HB := hide hb3
  have H := hide h
  clear hb3 h3 hs h
  go_enter Tryz.func214, Tryz.ntmps214
  go_wp2_with fail
  refine (HST.out).mono ?_
  rintro _ w' ⟨v, rfl, h1, h2, h3⟩
  dsimp only
  have H1 := hide h1
  have H2 := hide h2
  have H3 := hide h3
  clear h1 h2 h3
  go_wp2_with fail
  go_ret
  refine ⟨_, rfl, fun h => (H1.out h).below H.out HB.out, fun h h0 => (H2.out h h0).below H.out HB.out, fun h h0 hn => ?_, fun f h h0 hn => ?_⟩
  · rcases H3.out h h0 with ⟨k, ⟨rfl, _⟩, h4, h5⟩ | ⟨rfl, s1, h4, f, h5, _⟩
    · exact (PRet.bad (by decide) h4 h5).below H.out HB.out
    · rw [hn] at h5; cases h5
  · rcases H3.out h h0 with ⟨k, ⟨rfl, h6⟩, h4, h5⟩ | ⟨rfl, s1, h4, f', h5, h6, h7, h8⟩
    · rw [hn] at h6; cases h6
    · rw [hn] at h5
      injection h5 with h5
      subst h5
      exact (PRet.ok h4 ⟨by dsimp only; rw [h6], h7, h8⟩).below H.out HB.out
end Go.Proofs.YteicpbcddjjceaaGreatDoor

/-
  PROVED HERE: what the program's own Used of disks answers: a range over a map, in whatever order.
-/
namespace Go.Proofs.YteicpbcddjjceaaGreatDoor
open Go.RowKit
/-- How a pointer reads that is not nil. -/
def ptrRd1 : Value → Option (DataW Unit × List MemPlace)
  | .pointer (some ⟨b, 0, none⟩) => some (.lit (.int .i64 (b : Int)), [])
  | _ => none
theorem ptrRd1_inv {v : Value} {z : DataW Unit × List MemPlace} (h : ptrRd1 v = some z) : ∃ b : Nat, v = .pointer (some ⟨b, 0, none⟩) := by
  unfold ptrRd1 at h
  split at h
  · exact ⟨_, rfl⟩
  · cases h
theorem ptrRd1_of (b : Nat) : ptrRd1 (.pointer (some ⟨b, 0, none⟩)) = some (.lit (.int .i64 (b : Int)), []) := rfl
theorem PM.strict {P : Program} {k : TypeId} {w : World} {b : Nat} {l : List DE} (h : PM P k w b l) : w.ownsMap P k ptrRd1 b l.length (dOf l) := by
  obtain ⟨es, clock, hb, F, hs, hD⟩ := h
  have hst : ∀ x ∈ es.toList, ∀ z, ptrRd x.val = some z → ptrRd1 x.val = some z := by
    intro x hx z hz
    obtain ⟨y, hy⟩ := F.reads x hx
    have hm : WideElems.rg P k ptrRd x ∈ l.map dE := by
      have : WideElems.rg P k ptrRd x ∈ (es.toList.map (WideElems.rg P k ptrRd)).foldr DataW.insert [] := mem_sorted.2 (List.mem_map.2 ⟨x, hx, rfl⟩)
      injection hD with hD
      rw [hD]; exact this
    rw [WideElems.rg_of hy] at hm
    obtain ⟨e, _, he⟩ := List.mem_map.1 hm
    obtain ⟨z', hz', hyz⟩ := WideElems.rd_val hy
    rw [hz] at hz'
    injection hz' with hz'
    subst hz'
    rcases ptrRd_inv hz with ⟨_, e2⟩ | ⟨b', e1, e2⟩
    · rw [e2, ← he] at hyz
      cases hyz
    · rw [e1, e2]; rfl
  obtain ⟨F1, hmap, _⟩ := F.stay hst
  exact ⟨es, clock, hb, F1, hs, by rw [hmap]; exact hD⟩
theorem next_find {l : List DE} {x : ByteArray} {f : Nat} {d : DataW Unit} (hat : ∀ zd, (dOf l).atKey (kOf x) zd = d) (hd : d = .lit (.int .i64 (f : Int))) : findE x l = some f := by
  have h1 := hat .nil
  rw [dOf_at, hd] at h1
  cases hf : findE x l with
  | none => rw [hf] at h1; cases h1
  | some g =>
    rw [hf] at h1
    simp only [ptrD, DataW.lit.injEq, Lit.int.injEq, true_and] at h1
    have : g = f := by omega
    rw [this]
/-- The bytes of the files that have come already. -/
def usedL (fd : Nat → ByteArray × Int) (left : Lit → Bool) : List DE → Nat
  | [] => 0
  | e :: es => (if left (kOf e.path) then 0 else (fd e.blk).1.size) + usedL fd left es
theorem usedL_none (fd : Nat → ByteArray × Int) (left : Lit → Bool) : ∀ l : List DE, (∀ k, left k = false) → usedL fd left l = usedE fd l
  | [], _ => rfl
  | e :: es, h => by unfold usedL usedE; rw [h, usedL_none fd left es h]; simp
theorem usedL_all (fd : Nat → ByteArray × Int) (left : Lit → Bool) : ∀ l : List DE, (∀ e ∈ l, left (kOf e.path) = true) → usedL fd left l = 0
  | [], _ => rfl
  | e :: es, h => by unfold usedL; rw [h e (by simp), usedL_all fd left es (fun x hx => h x (by simp [hx]))]; simp
theorem usedL_le (fd : Nat → ByteArray × Int) (left : Lit → Bool) : ∀ l : List DE, usedL fd left l ≤ usedE fd l
  | [] => Nat.le_refl _
  | e :: es => by
    unfold usedL usedE
    have := usedL_le fd left es
    split <;> omega
theorem usedL_off (fd : Nat → ByteArray × Int) (left : Lit → Bool) (x : ByteArray) : ∀ l : List DE, (∀ e ∈ l, e.path ≠ x) → usedL fd (fun z => left z && !z.sameKey (kOf x)) l = usedL fd left l
  | [], _ => rfl
  | e :: es, h => by
    unfold usedL
    rw [usedL_off fd left x es (fun y hy => h y (by simp [hy]))]
    have : (kOf e.path).sameKey (kOf x) = false := by rw [kOf_same]; exact decide_eq_false (h e (by simp))
    simp [this]
theorem usedL_step (fd : Nat → ByteArray × Int) (left : Lit → Bool) (x : ByteArray) (f : Nat) (hx : left (kOf x) = true) : ∀ l : List DE, Rise l → findE x l = some f → usedL fd (fun z => left z && !z.sameKey (kOf x)) l = usedL fd left l + (fd f).1.size
  | [], _, h => by cases h
  | e :: es, hr, h => by
    obtain ⟨h1, h2⟩ := List.pairwise_cons.1 hr
    unfold findE at h
    unfold usedL
    by_cases he : e.path = x
    · rw [if_pos he] at h
      injection h with h
      rw [usedL_off fd left x es (fun y hy hyx => by have := h1 y hy; rw [hyx, he, less_irrefl] at this; cases this)]
      have e1 : (kOf e.path).sameKey (kOf x) = true := by rw [kOf_same]; exact decide_eq_true he
      rw [he] at e1
      simp only [he, hx, e1, h]
      simp
      omega
    · rw [if_neg he] at h
      rw [usedL_step fd left x f hx es h2 h]
      have e1 : (kOf e.path).sameKey (kOf x) = false := by rw [kOf_same]; exact decide_eq_false he
      simp [e1]
      omega
theorem has_path {l : List DE} {e : DE} (h : e ∈ l) : Maps.has (dOf l) (kOf e.path) = true := by
  show (l.map dE).any _ = true
  rw [List.any_eq_true]
  exact ⟨dE e, List.mem_map.2 ⟨e, h, rfl⟩, by show (kOf e.path).sameKey (kOf e.path) = true; rw [kOf_same]; simp⟩
theorem str_inv {P : Program} {k : TypeId} (hk : P.underlying k = some .string) {key : Value} {kl : Lit} (h : keyOf P k key = some kl) : ∃ x : ByteArray, key = .string x := by
  obtain ⟨s, e, _⟩ := WideMaps.string_of_keyOf hk h; exact ⟨s, e⟩
theorem str_key {P : Program} {k : TypeId} (hk : P.underlying k = some .string) {x : ByteArray} {kl : Lit} (h : keyOf P k (.string x) = some kl) : kl = kOf x := by
  obtain ⟨s, e, e2, _⟩ := WideMaps.string_of_keyOf hk h
  injection e with e
  rw [e2, e]; rfl
set_option maxHeartbeats 2000000 in
set_option maxRecDepth 100000 in
theorem pused_any (s : PSt) (w : World) (h : s.In w) (hu : usedE s.fd s.R.now ≤ 1000000000000) :
    Calls Tryz.prog 213 #[.pointer (some ⟨s.b, 0, none⟩)] w fun e w' => e = .returned (.int .i64 ((usedE s.fd s.R.now : Nat) : Int)) ∧ Below w.heap.size w w' := by
  have c1 : w.cell? ⟨s.b, 1, none⟩ = some (.map (some s.mb)) := cell_of_row _ _ 1 _ _ _ h.is.blk
  have H := hide h
  have HM := hide h.is.now.strict
  have HR := hide (h.is.now.rise (Maps.string_keyed Tryz.underlying9))
  have hml := h.is.now.lt
  clear h
  go_enter Tryz.func213, Tryz.ntmps213
  go_wp2_with (at_range; refine wpList_range_own _ rfl _ 102 rfl 9 157 (Maps.string_keyed Tryz.underlying9) Tryz.underlying102 ptrRd1 s.mb s.R.now.length (dOf s.R.now) rfl HM.out ?_; intro w0 hrg0 hg0 hs0)
  go_frame
  have HRG := hide hrg0
  have hB0 : Below w.heap.size w w0 := ⟨hg0.os, hg0.tape, hg0.output, hg0.size, fun k hk => hg0.block k hk (by simp)⟩
  have HB0 := hide hB0
  clear hrg0 hg0 hB0
  go_loopw [3] (fun uv wr => ∃ left cnt, wr.ranges Tryz.prog 9 ptrRd1 s.mb w.heap.size s.R.now.length (dOf s.R.now) left cnt ∧ Below w.heap.size w wr ∧ w.heap.size + 1 ≤ wr.heap.size ∧ uv = .int .i64 ((usedL s.fd left s.R.now : Nat) : Int)) (fun _ wr => wr.rangeLeft s.mb w.heap.size)
  case atStart => exact ⟨_, _, HRG.out, HB0.out, by omega, by rw [usedL_all _ _ _ (fun e he => has_path he)]; rfl⟩
  case round =>
    obtain ⟨left, cnt, hrg, hb, hsz, rfl⟩ := hrel
    have hle := usedL_le s.fd left s.R.now
    have HB := hide hb
    have HRGR := hide hrg
    clear hb
    go_wp2_with (at_next; refine wpList_next_ranges _ rfl _ rfl 9 (Maps.string_keyed Tryz.underlying9) ptrRd1 Value.string (fun f : Nat => Value.pointer (some ⟨f, 0, none⟩)) (fun key kl hkey => str_inv Tryz.underlying9 hkey) (fun v y hv => ptrRd1_inv hv) s.mb w.heap.size _ _ _ _ rfl HRGR.out ?_ ?_)
    · intro _ hl0
      have hval := usedL_none s.fd left s.R.now hl0
      rw [hval]
      clear hrg hl0 hval
      go_wp2_with fail
      go_ret
      exact ⟨rfl, HB.out⟩
    · intro x f kl d ps w1 cnt1 hkey hlk hv hat hrg1 hlt hg1 hs1 hen
      have hkl := str_key Tryz.underlying9 hkey
      subst hkl
      rw [ptrRd1_of] at hv
      injection hv with hv
      injection hv with hd _
      have hfe : findE x s.R.now = some f := next_find hat hd.symm
      have hfm : f ∈ s.fs := by
        obtain ⟨e, he, hbe⟩ := findE_mem hfe
        rw [← hbe]; exact H.out.inow e he
      have hb1 : Below w.heap.size w w1 := HB.out.grown hg1 (by omega) (fun k hk => by injection hk with hk; omega)
      have hfd := (H.out.later hb1).fds f hfm
      obtain ⟨o, cap, hfv, _, _⟩ := hfd.shape
      have f0 : w1.cell? ⟨f, 0, none⟩ = some (s.fv f) := cell_of_row _ _ 0 _ _ _ hfd.blk
      rw [hfv] at f0
      have hst := usedL_step s.fd left x f hlk s.R.now HR.out hfe
      have hle1 := usedL_le s.fd (fun z => left z && !z.sameKey (kOf x)) s.R.now
      rw [hst] at hle1
      have HST := hide hst
      have HB1 := hide hb1
      have HRG1 := hide hrg1
      have HLT := hide hlt
      have hsz1 : w.heap.size + 1 ≤ w1.heap.size := by omega
      have hsum : ((usedL s.fd left s.R.now : Nat) : Int) + (((s.fd f).1.size : Nat) : Int) = ((usedL s.fd left s.R.now + (s.fd f).1.size : Nat) : Int) := by omega
      have HSUM := hide hsum
      clear hrg hkey hlk hat hrg1 hlt hg1 hd hfe hfm hb1 hfd hfv hst hsum
      go_wp2_with fail
      go_roundw
      case rel => exact ⟨_, cnt1, HRG1.out, HB1.out, hsz1, by rw [HST.out, HSUM.out]⟩
      case measure => rw [HRG1.out.left_eq, HRGR.out.left_eq]; exact HLT.out
end Go.Proofs.YteicpbcddjjceaaGreatDoor

/-
  PROVED HERE: what the program's own Remove and Truncate of disks do.
-/
namespace Go.Proofs.YteicpbcddjjceaaGreatDoor
open Go.RowKit
/-- The sizes of a disk that the walks of changes ask for. -/
def PFit (R : RDk) : Prop := R.now.length ≤ 100000000 ∧ R.chg.length ≤ 100000000
theorem path_small {p : ByteArray} (h : isPathB p = true) : p.size ≤ 1000000000 := by
  unfold isPathB at h
  simp only [Bool.and_eq_true, decide_eq_true_eq] at h
  omega
theorem applyE_mem {l : List DE} {c : CH} {e : DE} (h : e ∈ applyE l c) : e ∈ l ∨ e.blk = c.blk := by
  unfold applyE at h
  split at h
  · rcases withE_mem h with h | ⟨b, h, _⟩
    · exact .inl h
    · cases h
  · rcases withE_mem h with h | ⟨b, h, hb⟩
    · rcases withE_mem h with h | ⟨b, h, _⟩
      · exact .inl h
      · cases h
    · injection h with h
      exact .inr (by rw [hb, h])
/-- The disk behind a change of paths. -/
theorem PGo.change {s : PSt} {w w' : World} (h : s.In w) {frm too : ByteArray} {f : Nat} {cv' : Value} (hf : f ∈ s.fs) (hg : Gr (fun k => k = s.b ∨ k = s.mb ∨ s.cv.ownBlock = some k) w w')
    (hd : PDIs w' s.b { s.R with now := applyE s.R.now ⟨frm, too, f⟩, chg := s.R.chg ++ [⟨frm, too, f⟩] } s.mb s.lb cv') (hv : NewOr w s.cv cv') :
    PGo s { s with R := { s.R with now := applyE s.R.now ⟨frm, too, f⟩, chg := s.R.chg ++ [⟨frm, too, f⟩] }, cv := cv' } w w' := by
  refine PGo.disk h (hg.mono fun k _ e => ?_) hd (.inl rfl) (.inl rfl) hv ?_ h.isafe ?_
  · rcases e with e | e | e
    · exact .inl e
    · exact .inr (.inl e)
    · exact .inr (.inr (.inr e))
  · intro e he
    rcases applyE_mem he with he | he
    · exact h.inow e he
    · rw [he]; exact hf
  · intro c hc
    rcases List.mem_append.1 hc with hc | hc
    · exact h.ichg c hc
    · simp only [List.mem_singleton] at hc
      rw [hc]; exact hf
set_option maxHeartbeats 1000000 in
set_option maxRecDepth 100000 in
theorem premC (s : PSt) (g0 g1 : Nat) (p : ByteArray) (w : World) (h : s.In w) (c0 : w.cell? ⟨g0, 0, none⟩ = some (.pointer (some ⟨s.b, 0, none⟩))) (c1 : w.cell? ⟨g1, 0, none⟩ = some (.string p)) (hp : p.size ≤ 9223372036854775807) (hpp : isPathB p = true) (hft : PFit s.R) :
    Calls Tryz.prog 211 #[.pointer (some ⟨g0, 0, none⟩), .pointer (some ⟨g1, 0, none⟩)] w fun e w1 =>
      (∃ k, (k = 3 ∧ findE p s.R.now = none) ∧ e = .returned (refV k) ∧ Below w.heap.size w w1) ∨ (e = .returned .nilIface ∧ ∃ s1, PGo s s1 w w1 ∧ s1.R.count = s.R.count ∧ s1.R.left = s.R.left ∧ ∃ f, findE p s.R.now = some f ∧ s1.R = { s.R with now := applyE s.R.now ⟨p, ⟨#[]⟩, f⟩, chg := s.R.chg ++ [⟨p, ⟨#[]⟩, f⟩] } ∧ s1.fs = s.fs ∧ s1.fd = s.fd ∧ s1.mb = s.mb ∧ s1.lb = s.lb) := by
  have HF := hide (pfind_any s.b s.R s.mb s.lb s.cv p w h.is hp)
  rw [hpp] at HF
  simp only [if_true] at HF
  have H := hide h
  clear h
  cases hfo : findE p s.R.now with
  | none =>
    rw [hfo] at HF
    dsimp only [refV] at HF
    go_enter Tryz.func211, Tryz.ntmps211
    go_wp2_with fail
    refine (HF.out).mono ?_
    rintro _ w1 ⟨hw, rfl⟩
    subst hw
    dsimp only
    go_wp2_with fail
    go_ret
    exact .inl ⟨3, ⟨rfl, by first | trivial | rfl⟩, rfl, Below.refl _ _⟩
  | some f =>
    rw [hfo] at HF
    dsimp only at HF
    have hm : f ∈ s.fs := by
      obtain ⟨e, he, hb⟩ := findE_mem hfo
      rw [← hb]; exact H.out.inow e he
    have HS := hide (pchange_any s.b f s.R s.mb s.lb s.cv p ⟨#[]⟩ w H.out.is hft.1 hft.2 (path_small hpp) (by decide))
    go_enter Tryz.func211, Tryz.ntmps211
    go_wp2_with fail
    refine (HF.out).mono ?_
    rintro _ w1 ⟨hw, rfl⟩
    subst hw
    dsimp only
    go_wp2_with fail
    refine (HS.out).mono ?_
    rintro _ w2 ⟨rfl, hg2, cv', hd2, hn2⟩
    dsimp only
    have HGO := hide (PGo.change H.out hm hg2 hd2 hn2)
    clear hg2 hd2 hn2
    go_wp2_with fail
    go_ret
    first
      | exact .inr ⟨rfl, _, HGO.out, rfl, rfl, f, by first | trivial | rfl, rfl, rfl, rfl, rfl, rfl⟩
      | exact ⟨rfl, _, HGO.out, rfl, rfl, rfl, rfl, rfl, rfl, rfl⟩
set_option maxHeartbeats 1000000 in
set_option maxRecDepth 100000 in
theorem pdRemoveM (s : PSt) (p : ByteArray) (w : World) (h : s.In w) (hp : p.size ≤ 9223372036854775807) (hf : Cnt4 s.R) (hft : PFit s.R) :
    Calls Tryz.prog 173 #[.pointer (some ⟨s.b, 0, none⟩), .string p] w fun e w' => ∃ v, e = .returned v ∧
      (isPathB p = false → PRet s w 2 (fun _ => True) v w') ∧
      (isPathB p = true → s.R.left = 0 → PRet s w 0 (fun s1 => s1 = s) v w') ∧
      (isPathB p = true → s.R.left ≠ 0 → findE p s.R.now = none → PRet s w 3 (fun _ => True) v w') ∧
      (∀ f, isPathB p = true → s.R.left ≠ 0 → findE p s.R.now = some f → PRet s w 0 (fun s1 => s1.R = RDk.wrote { s.R with now := applyE s.R.now ⟨p, ⟨#[]⟩, f⟩, chg := s.R.chg ++ [⟨p, ⟨#[]⟩, f⟩] } ∧ s1.fs = s.fs ∧ s1.fd = s.fd ∧ s1.mb = s.mb ∧ s1.lb = s.lb) v w') := by
  have hb3 := three_below w (.cells #[.pointer (some ⟨s.b, 0, none⟩)] 46) (.cells #[.string p] 9) (.cells #[.string p] 9)
  have h3 := h.later hb3
  have hs : StrsAt (((w.alloc (.cells #[.pointer (some ⟨s.b, 0, none⟩)] 46)).alloc (.cells #[.string p] 9)).alloc (.cells #[.string p] 9)) (.slice (some ⟨w.heap.size + 1 + 1, 0, none⟩) 1 1) [p] := by
    refine ⟨_, 1, rfl, fun i hi => ⟨_, rfl, ?_⟩⟩
    have : i = 0 := by simpa using hi
    subst this
    exact cell_of_row _ _ 0 _ _ _ (three2 _ _ _ _ _)
  have HST := hide (pstep_one s ⟨#[82, 101, 109, 111, 118, 101]⟩ _ p 211 #[.pointer (some ⟨w.heap.size, 0, none⟩), .pointer (some ⟨w.heap.size + 1, 0, none⟩)] _ _ _ h3 hs hp hf (Tryz.enter _ _ Tryz.func211 (by kernel_rfl) _ rfl) (fun hpp => premC s _ _ p _ h3 (cell_of_row _ _ 0 _ _ _ (three0 _ _ _ _ _)) (cell_of_row _ _ 0 _ _ _ (three1 _ _ _ _ _)) hp hpp hft))
  have HB := hide hb3
  have H := hide h
  clear hb3 h3 hs h
  go_enter Tryz.func173, Tryz.ntmps173
  go_wp2_with fail
  refine (HST.out).mono ?_
  rintro _ w' ⟨v, rfl, h1, h2, h3⟩
  dsimp only
  have H1 := hide h1
  have H2 := hide h2
  have H3 := hide h3
  clear h1 h2 h3
  go_wp2_with fail
  go_ret
  refine ⟨_, rfl, fun h => (H1.out h).below H.out HB.out, fun h h0 => (H2.out h h0).below H.out HB.out, fun h h0 hn => ?_, fun f h h0 hn => ?_⟩
  · rcases H3.out h h0 with ⟨k, ⟨rfl, _⟩, h4, h5⟩ | ⟨rfl, s1, h4, f, h5, _⟩
    · exact (PRet.bad (by decide) h4 h5).below H.out HB.out
    · rw [hn] at h5; cases h5
  · rcases H3.out h h0 with ⟨k, ⟨rfl, h6⟩, h4, h5⟩ | ⟨rfl, s1, h4, f', h5, h6, h7, h8, h9, h10⟩
    · rw [hn] at h6; cases h6
    · rw [hn] at h5
      injection h5 with h5
      subst h5
      exact (PRet.ok h4 ⟨by dsimp only; rw [h6], h7, h8, h9, h10⟩).below H.out HB.out
theorem PRet.imp {s : PSt} {w w' : World} {k : Int} {P P' : PSt → Prop} {v : Value} (h : PRet s w k P v w') (hP : ∀ s1, P s1 → P' s1) : PRet s w k P' v w' :=
  ⟨h.1, fun hk => by obtain ⟨h1, s1, h2, h3⟩ := h.2 hk; exact ⟨h1, s1, h2, hP s1 h3⟩⟩
theorem pdRemove (s : PSt) (p : ByteArray) (w : World) (h : s.In w) (hp : p.size ≤ 9223372036854775807) (hf : Cnt4 s.R) (hft : PFit s.R) :
    Calls Tryz.prog 173 #[.pointer (some ⟨s.b, 0, none⟩), .string p] w fun e w' => ∃ v, e = .returned v ∧
      (isPathB p = false → PRet s w 2 (fun _ => True) v w') ∧
      (isPathB p = true → s.R.left = 0 → PRet s w 0 (fun s1 => s1 = s) v w') ∧
      (isPathB p = true → s.R.left ≠ 0 → findE p s.R.now = none → PRet s w 3 (fun _ => True) v w') ∧
      (∀ f, isPathB p = true → s.R.left ≠ 0 → findE p s.R.now = some f → PRet s w 0 (fun s1 => s1.R = RDk.wrote { s.R with now := applyE s.R.now ⟨p, ⟨#[]⟩, f⟩, chg := s.R.chg ++ [⟨p, ⟨#[]⟩, f⟩] } ∧ s1.fs = s.fs ∧ s1.fd = s.fd) v w') :=
  (pdRemoveM s p w h hp hf hft).mono fun _ _ ⟨v, h1, h2, h3, h4, h5⟩ => ⟨v, h1, h2, h3, h4, fun f a b c => (h5 f a b c).imp fun _ e => ⟨e.1, e.2.1, e.2.2.1⟩⟩
theorem four_below (w : World) (o1 o2 o3 o4 : Obj) : Below w.heap.size w ((((w.alloc o1).alloc o2).alloc o3).alloc o4) :=
  (three_below w o1 o2 o3).alloc (three_below w o1 o2 o3).size o4
theorem four0 (w : World) (a : Array Value) (t : TypeId) (o2 o3 o4 : Obj) : ((((w.alloc (.cells a t)).alloc o2).alloc o3).alloc o4).heap[w.heap.size]? = some (.cells a t (0, 0)) := by
  rw [Below.heap_alloc _ _ _ (by simp <;> omega)]; exact three0 _ _ _ _ _
theorem four1 (w : World) (o1 : Obj) (a : Array Value) (t : TypeId) (o3 o4 : Obj) : ((((w.alloc o1).alloc (.cells a t)).alloc o3).alloc o4).heap[w.heap.size + 1]? = some (.cells a t (0, 0)) := by
  rw [Below.heap_alloc _ _ _ (by simp <;> omega)]; exact three1 _ _ _ _ _
theorem four2 (w : World) (o1 o2 : Obj) (a : Array Value) (t : TypeId) (o4 : Obj) : ((((w.alloc o1).alloc o2).alloc (.cells a t)).alloc o4).heap[w.heap.size + 1 + 1]? = some (.cells a t (0, 0)) := by
  rw [Below.heap_alloc _ _ _ (by simp)]; exact three2 _ _ _ _ _
theorem four3 (w : World) (o1 o2 o3 : Obj) (a : Array Value) (t : TypeId) : ((((w.alloc o1).alloc o2).alloc o3).alloc (.cells a t)).heap[w.heap.size + 1 + 1 + 1]? = some (.cells a t (0, 0)) := by
  have := heap_alloc_new (((w.alloc o1).alloc o2).alloc o3) (.cells a t)
  rw [size_alloc, size_alloc, size_alloc] at this
  exact this
end Go.Proofs.YteicpbcddjjceaaGreatDoor
