/-
  PROVED HERE: what Digests of a store gives where it has no content: no digest.
-/
import Derived.Test.YteicpbcddjjceaaGreatDoorBsTags
import Derived.Test.YteicpbcddjjceaaGreatDoorReading
import Derived.Test.YteicpbcddjjceaaGreatDoorPdFit
import Derived.Test.YteicpbcddjjceaaGreatDoorDkPure
namespace Go.Proofs.YteicpbcddjjceaaGreatDoor
open Go.RowKit Go.Shelf Go.Maps Go.Sort
attribute [local go_sem] Oper.semAt_some
/-- The sequence's value that is none. -/
def encN : Empty → Array Value := fun x => x.elim
set_option maxRecDepth 100000 in
set_option maxHeartbeats 2000000 in
theorem keys1_in (F : Fence) (n : Nat) (hf : F.fn 93) (hro : F.round = none) (l Bm b nn : Nat) (J Jx : List Empty → World → Prop)
    (W : World) (hJ : AbidesFrom W.heap.size J) (hm : W.cell? ⟨Bm, 0, none⟩ = some (.map (some b))) (hown : CM W b nn (.map [])) (h0 : J [] W) :
    CallsIn F n Tryz.prog 93 #[.func (.yield l) #[] #[], .pointer (some ⟨Bm, 0, none⟩)] W fun e W' => (∃ v, e = .returned v) ∧
      ((∃ xs, True ∧ J xs W') ∨ (∃ pre, True ∧ Jx pre W')) := by
  have hz71 := (zero_of_info Tryz.info72).1
  refine callsIn_of_wp Tryz.func93 rfl hf ?_ hro
  simp only [Tryz.ntmps93, List.size_toArray, List.length_cons, List.length_nil, Nat.reduceAdd, Nat.reduceSub, Array.replicate_succ, Array.replicate_zero, List.push_toArray, List.append_toArray, List.nil_append, List.cons_append]
  gi_wp2_with (first
    | (gi_at_range; refine wpListIn_range_own _ rfl _ 119 rfl 72 59 dig_keyed Tryz.underlying119 _ b nn _ rfl hown ?_; intro w0 hrg0 hg0 hs0)
    | gi_in)
  go_frame
  gi_loopw [] (fun wr => ∃ (left : Lit → Bool) (cnt : Nat), wr.ranges Tryz.prog 72 heldR b W.heap.size nn (.map []) left cnt ∧ (∀ kl, left kl = false) ∧ J [] wr)
    (fun wr => wr.rangeLeft b W.heap.size)
  case atStart =>
    exact ⟨_, _, hrg0, fun kl => rfl, hJ [] W w0 none h0 hg0 (fun r e => by cases e)⟩
  case round =>
    obtain ⟨left, cnt, hrg, hl0, hJs⟩ := hrel
    gi_wp2_with (first
      | (gi_at_next; refine wpListIn_next_ranges _ rfl _ rfl 72 dig_keyed heldR (fun c : Value => c) (fun c : Value => c) (fun key kl hk => ⟨key, rfl⟩) (fun v y hv => ⟨v, rfl⟩) b W.heap.size nn _ _ _ rfl hrg ?_ ?_)
      | gi_in)
    intro _
    gi_wp2
    go_end0
    exact ⟨⟨_, rfl⟩, .inl ⟨[], trivial, hJs⟩⟩
theorem keys_in (F : Fence) (n : Nat) (hf : F.fn 51) (hro : F.round = none) (mb : Option Nat) (w : World) :
    CallsIn F n Tryz.prog 51 #[.map mb] w fun e w' => e = .returned (.func (.func 93) #[] #[.pointer (some ⟨w.heap.size, 0, none⟩)]) ∧ w' = w.alloc (.cells #[.map mb] 119) := by
  refine callsIn_of_wp Tryz.func51 rfl hf ?_ hro
  simp only [Tryz.ntmps51, List.size_toArray, List.length_cons, List.length_nil, Nat.reduceAdd, Nat.reduceSub, Array.replicate_succ, Array.replicate_zero, List.push_toArray, List.append_toArray, List.nil_append, List.cons_append]
  gi_wp2
  go_ret
  exact ⟨rfl, rfl⟩
theorem keys_stops (F : Fence) (n : Nat) (hf : F.fn 93) (hro : F.round = none) (Bm b nn : Nat) (w : World) (hm : w.cell? ⟨Bm, 0, none⟩ = some (.map (some b))) (hown : CM w b nn (.map [])) :
    SeqStopsK F n Tryz.prog 93 #[.pointer (some ⟨Bm, 0, none⟩)] encN KeepsWalks (fun _ => True) (fun _ => True) 0 w := fun l J Jx W hW hJ _ _ h0 =>
  keys1_in F n hf hro l Bm b nn J Jx W hJ (cell_later hW hm) (owns_same hown (hW.block b hown.lt)) h0
theorem nil_of (xs : List Empty) : xs = [] := by
  cases xs with
  | nil => rfl
  | cons x _ => exact x.elim
/-- Between two rounds of AppendSeq. -/
def DI (w : World) (_ : List Empty) (W : World) : Prop := W.heap[w.heap.size]? = some (.cells #[.slice none 0 0] 69 (0, 0)) ∧ Below w.heap.size w W
theorem di_own (w : World) (B : Nat) (hB : w.heap.size ≤ B) : OwnFrom B (DI w) := by
  rintro pre X Y row ⟨h1, h3⟩ hgr hr
  refine ⟨(hgr.block _ (lt_heap h1) (fun e => by
    obtain ⟨o, x2, x3⟩ := (hr _ e.symm).2
    rw [h1] at x2
    cases x2
    cases x3)).trans h1, h3.grown hgr h3.size (fun k e => by have := (hr k e).1; omega)⟩
set_option maxRecDepth 100000 in
set_option maxHeartbeats 4000000 in
theorem appendSeqD_in (n : Nat) (hn : 5 ≤ n) (g : Nat) (lb : Array Value) (eg : ∀ args w, (callFunc g args).run Tryz.prog w = .ok (.enter g args) w) (w : World)
    (hseq : SeqStopsK Fence.wide (n - 1) Tryz.prog g lb encN KeepsWalks (fun _ => True) (fun _ => True) 0 w) :
    CallsIn Fence.wide n Tryz.prog 144 #[.slice none 0 0, .func (.func g) #[] lb] w fun e w' => e = .returned (.slice none 0 0) ∧ Below w.heap.size w w' := by
  refine callsIn_of_wp_marks Tryz.func144 rfl trivial ?_ rfl
  simp only [Tryz.ntmps144, List.size_toArray, List.length_cons, List.length_nil, Nat.reduceAdd, Nat.reduceSub, Array.replicate_succ, Array.replicate_zero, List.push_toArray, List.append_toArray, List.nil_append, List.cons_append]
  gi_wp2_with fail
  obtain ⟨w1, hw1⟩ : ∃ w1, w1 = w.alloc (.cells #[.slice none 0 0] 69) := ⟨_, rfl⟩
  have hb1 : Below w.heap.size w w1 := by rw [hw1]; exact (Below.refl _ _).alloc (Nat.le_refl _) _
  have hx1 : w1.heap[w.heap.size]? = some (.cells #[.slice none 0 0] 69 (0, 0)) := by rw [hw1]; exact heap_alloc_new _ _
  have hs1 : w1.heap.size = w.heap.size + 1 := by rw [hw1, size_alloc]
  rw [← hw1]
  refine wpIn_rangeFunc_ownH (F := Fence.wide) (n := n) rfl (by omega) (gf := g) (lb := lb) rfl trivial eg hseq KeepsWalks.trans (walksK_b (w := w1)) hb1 (fun x => x.elim)
    (DI w) (fun _ _ _ => False) (di_own w _ (by omega)) (fun _ _ _ _ _ h _ _ => h.elim)
    ⟨hx1, hb1⟩ (fun _ _ _ => True) (fun _ _ _ _ _ _ _ _ _ => trivial) ?assign ?body ?done ?stop
  case assign =>
    intro l pre x
    exact x.elim
  case body =>
    intro l pre x
    exact x.elim
  case done =>
    rintro D xs W hD hS ⟨i1, i3⟩ hK
    have ce := cell_of_row _ _ 0 _ _ _ i1
    have HI3 := hide i3
    have HI1 := hide i1
    clear i1 i3
    gi_wp2
    refine ⟨by simp, .inl ⟨_, _, rfl, run_takeDeferred hK, ?_⟩⟩
    exact ⟨_, results_tmp rfl _ _ _, rfl, HI3.out.grown (grown_put _ _ _) HI3.out.size (fun k e => by injection e with e; omega)⟩
  case stop =>
    rintro D c pre W hD _ h
    exact h.elim
set_option maxRecDepth 100000 in
set_option maxHeartbeats 1000000 in
theorem collectD_in (n : Nat) (hn : 6 ≤ n) (g : Nat) (lb : Array Value) (eg : ∀ args w, (callFunc g args).run Tryz.prog w = .ok (.enter g args) w) (w : World)
    (hseq : SeqStopsK Fence.wide (n - 1 - 1) Tryz.prog g lb encN KeepsWalks (fun _ => True) (fun _ => True) 0 w) :
    CallsIn Fence.wide n Tryz.prog 91 #[.func (.func g) #[] lb] w fun e w' => e = .returned (.slice none 0 0) ∧ Below w.heap.size w w' := by
  have f1 : Fence.wide.fn 144 := trivial
  have HA := hide (appendSeqD_in (n - 1) (by omega) g lb eg w hseq)
  refine callsIn_of_wp Tryz.func91 rfl trivial ?_ rfl
  simp only [Tryz.ntmps91, List.size_toArray, List.length_cons, List.length_nil, Nat.reduceAdd, Nat.reduceSub, Array.replicate_succ, Array.replicate_zero, List.push_toArray, List.append_toArray, List.nil_append, List.cons_append]
  gi_wp2_with fail
  refine ⟨fun _ => by omega, ?_⟩
  refine (HA.out).mono ?_
  rintro _ w1 ⟨rfl, h3⟩
  dsimp only
  gi_wp2_with fail
  go_ret
  exact ⟨rfl, h3⟩
set_option maxRecDepth 100000 in
set_option maxHeartbeats 1000000 in
theorem sortedFuncD_none (tb nn Bm : Nat) (f : Value) (w : World) (h : CM w tb nn (.map [])) (hm : w.cell? ⟨Bm, 0, none⟩ = some (.map (some tb))) :
    Calls Tryz.prog 50 #[.func (.func 93) #[] #[.pointer (some ⟨Bm, 0, none⟩)], f] w fun e w' => e = .returned (.slice none 0 0) ∧ Below w.heap.size w w' := by
  have HC := hide (callsIn_wide.1 (collectD_in 8 (by decide) 93 #[.pointer (some ⟨Bm, 0, none⟩)] (enters_of Tryz.func93 (by kernel_rfl) rfl) w (keys_stops Fence.wide 6 trivial rfl Bm tb nn w hm h)))
  clear h hm
  go_enter Tryz.func50, Tryz.ntmps50
  go_wp2_with fail
  refine (HC.out).mono ?_
  rintro _ w1 ⟨rfl, hb⟩
  dsimp only
  have HSO := hide (sortD_one none 0 0 (by decide) f w1)
  have HB := hide hb
  clear hb HC
  go_wp2_with fail
  refine (HSO.out).mono ?_
  rintro _ w2 ⟨rfl, rfl⟩
  dsimp only
  go_wp2_with fail
  go_ret
  exact ⟨rfl, HB.out⟩
set_option maxRecDepth 100000 in
set_option maxHeartbeats 1000000 in
theorem digests_none (sb : Nat) (s : PSt) (cb tb nc nt : Nat) (Dt : DataW Value) (w : World) (h : StW w sb s cb tb nc nt (.map []) Dt) :
    Calls Tryz.prog 22 #[.pointer (some ⟨sb, 0, none⟩)] w fun e w' => e = .returned (.slice none 0 0) ∧ Below w.heap.size w w' := by
  have HVL := hide (callsIn_wide.1 (keys_in Fence.wide 3 trivial rfl (some cb) w))
  have c1 := cell_of_row _ _ 1 _ _ _ h.blk
  have H := hide h.cm
  have hmf : ∀ (fn : Fn) (first cap : Array Value) (w : World), (Instr.makeFunc fn first cap).run Tryz.prog w = .ok (.func fn first cap) w := fun _ _ _ _ => rfl
  clear h
  go_enter Tryz.func22, Tryz.ntmps22
  go_wp2_with fail
  refine (HVL.out).mono ?_
  rintro _ w1 ⟨rfl, hw1⟩
  dsimp only
  have hb1 : Below w.heap.size w w1 := by rw [hw1]; exact (Below.refl _ _).alloc (Nat.le_refl _) _
  have hx1 : w1.heap[w.heap.size]? = some (.cells #[.map (some cb)] 119 (0, 0)) := by rw [hw1]; exact heap_alloc_new _ _
  have HSF := hide (fun f => sortedFuncD_none cb nc w.heap.size f w1 (owns_same H.out (hb1.block _ H.out.lt)) (cell_of_row _ _ 0 _ _ _ hx1))
  have HB1 := hide hb1
  clear hb1 hx1 hw1 HVL
  go_wp2_with fail
  refine (HSF.out _).mono ?_
  rintro _ w2 ⟨rfl, hb⟩
  dsimp only
  have HB := hide hb
  clear hb HSF
  go_wp2_with fail
  go_ret
  exact ⟨rfl, HB1.out.trans (HB.out.mono HB1.out.size)⟩
end Go.Proofs.YteicpbcddjjceaaGreatDoor

/-
  PROVED HERE: what Blobs of the program's store answers where it has no content.
-/
namespace Go.Proofs.YteicpbcddjjceaaGreatDoor
open Go.RowKit Go.MuLone
set_option maxHeartbeats 4000000 in
set_option maxRecDepth 100000 in
theorem bBlobs_none (N xb sb : Nat) (s : PSt) (cb tb nc nt : Nat) (Dt : DataW Value) (w : World) (hx : BSt w xb sb) (hG : ¬ isG xb) (hNx : N ≤ xb) (h : StW w sb s cb tb nc nt (.map []) Dt) :
    Calls Tryz.prog 7 #[.pointer (some ⟨xb, 0, none⟩)] w fun e w' => e = .returned (.tuple #[.slice none 0 0, .int .i64 0]) ∧ FB N w w' ∧ BSt w' xb sb ∧ StW w' sb s cb tb nc nt (.map []) Dt := by
  have hx : BLk w xb sb 0 := hx
  have c0 : w.cell? ⟨xb, 0, none⟩ = some (.int .i32 0) := cell_of_row _ _ 0 _ _ _ hx
  have f0 : w.frozen? ⟨xb, 0, none⟩ = false := frozen_of_row _ _ 0 _ _ hx
  obtain ⟨W, hW⟩ : ∃ W, W = w.setCell ⟨xb, 0, none⟩ (.int .i32 1) := ⟨_, rfl⟩
  have hst : StW W sb s cb tb nc nt (.map []) Dt := by rw [hW]; exact h.lock hx hG
  have hxw : BLk W xb sb 1 := by rw [hW]; exact hx.set 1
  have hfw : FB N w W := by rw [hW]; exact FB.lock hx hNx
  have HDG := hide (digests_none sb s cb tb nc nt Dt W hst)
  have HLK := hide (lock_free Tryz.muLib ⟨xb, 0, none⟩ w c0 f0)
  have HW := hide hW
  have HST := hide hst
  have HXW := hide hxw
  have HFW := hide hfw
  have c2 : W.cell? ⟨xb, 2, none⟩ = some (.pointer (some ⟨sb, 0, none⟩)) := cell_of_row _ _ 2 _ _ _ hxw
  clear hx c0 f0 hst hxw hfw hW h
  go_enter_defers Tryz.func7, Tryz.ntmps7
  go_wp2_with fail
  refine (HLK.out).mono ?_
  rintro _ W1 ⟨rfl, hW1⟩
  have hW1 : W1 = W := hW1.trans HW.out.symm
  rw [hW1]
  dsimp only
  clear hW1 HLK HW
  go_wp2_with fail
  refine (HDG.out).mono ?_
  rintro _ w1 ⟨rfl, hb1⟩
  dsimp only
  have HB1 := hide hb1
  clear hb1 HDG c2
  go_wp2_with fail
  go_loopw [4, 22] (fun lv iv wr => lv = .slice none 0 0 ∧ iv = .int .i64 0 ∧ wr = w1) (fun _ _ _ => 0)
  case atStart => exact ⟨rfl, rfl, rfl⟩
  case round =>
    obtain ⟨rfl, rfl, rfl⟩ := hrel
    go_wp2_with fail
    have HX3 := hide (HXW.out.later HB1.out)
    refine leaves_cons (f := 21) (args := #[.pointer (some ⟨xb, 0, none⟩)]) (by simp) (by simp [go_sem]) ?_
    refine (unlock_deferred Tryz.muLib ⟨xb, 0, none⟩ .returning _ (cell_of_row _ _ 0 _ _ _ HX3.out) (frozen_of_row _ _ 0 _ _ HX3.out)).mono ?_
    rintro e u' w6 ⟨rfl, rfl, rfl⟩
    exact ⟨_, results_tmp2 rfl _ _ _, rfl, (HFW.out.trans (FB.of (FT.of_below HB1.out))).trans (FB.lock HX3.out hNx), HX3.out.set 0, (HST.out.later HB1.out).lock HX3.out hG⟩
end Go.Proofs.YteicpbcddjjceaaGreatDoor

/-
  PROVED HERE: Break, Crash, Copy and NewDisk of the program, over Early's disks.
-/
namespace Go.Proofs.YteicpbcddjjceaaGreatDoor
open Go.RowKit
/-- A disk of the program, whole. -/
structure DkW (w : World) (d : Nat) (s : PSt) : Prop where
  inn : s.In w
  bd : BD w d s.b
  gl : Gl w
  low : LowS s
theorem DkW.go {w w' : World} {d : Nat} {s s' : PSt} (h : DkW w d s) (hg : PGo s s' w w') : DkW w' d s' := by
  obtain ⟨g1, g2⟩ := h.gl.go h.low hg
  refine ⟨hg.inn, ?_, g1, g2⟩
  unfold BD
  rw [hg.b]
  exact hg.keeps h.inn h.bd (by decide) (by decide) (by decide) (by decide)
theorem DkW.later {w w' : World} {d : Nat} {s : PSt} (h : DkW w d s) (hb : Below w.heap.size w w') : DkW w' d s := h.go (PGo.refl h.inn hb)
theorem bBreak_any (s : PSt) (d : Nat) (n : Int) (w : World) (h : DkW w d s) (hn : 0 ≤ n) :
    Calls Tryz.prog 15 #[.pointer (some ⟨d, 0, none⟩), .int .i64 n] w fun e w' => e = .returned (.int .i64 0) ∧ ∃ s', PGo s s' w w' ∧ s'.ds = ⟨{ s.R with left := n }, s.fs, s.fd⟩ := by
  refine (wBreak s d n w 0 (fun s1 => s1 = { s with R := { s.R with left := n } }) h.bd h.gl.err ((pdBreak s n w h.inn).mono ?_)).mono ?_
  · rintro e w' ⟨v, rfl, _, h2⟩
    exact ⟨v, rfl, h2 (by omega)⟩
  · rintro e w' ⟨rfl, _, h2⟩
    obtain ⟨s1, hg, rfl⟩ := h2 rfl
    exact ⟨rfl, _, hg, rfl⟩
theorem bCrash_any (s : PSt) (d : Nat) (paths : Int) (kv : Value) (ks : List Int) (w : World) {L C B : Nat} (h : DkW w d s) (hk : KAt s.own w kv ks) (he : Ea s.ds) (hf : DFit s.ds L C B) (hL : L ≤ 1000000) (hB : B ≤ 1000000) :
    Calls Tryz.prog 18 #[.pointer (some ⟨d, 0, none⟩), .int .i64 paths, kv] w fun e w' => e = .returned (.int .i64 0) ∧ ∃ s', PGo s s' w w' ∧ s'.ds = crD s.ds (nCr paths s.R.chg.length) ks := by
  have hLe : (s.R.chg.take (nCr paths s.R.chg.length)).foldl applyE s.R.safe = goE s.R.safe (s.R.chg.take (nCr paths s.R.chg.length)) := goE_apply _ he.inv.ne
  refine wCrash d s.b paths kv (fun w' => ∃ s', PGo s s' w w' ∧ s'.ds = crD s.ds (nCr paths s.R.chg.length) ks) w h.bd ((pdCrash s paths kv ks w h.inn hk ⟨?_, hf.chf, fun f hf' => ?_⟩ _ hLe.symm ?_).mono ?_)
  · have := hf.len
    show s.R.safe.length + s.R.chg.length ≤ 100000000
    have : s.R.safe.length + s.R.chg.length ≤ L := this
    omega
  · obtain ⟨a, b, c⟩ := hf.dat f hf'
    exact ⟨by have : (s.fd f).1.size ≤ B := a; omega, b, c⟩
  · intro e he'
    rcases goE_mem _ he' with he' | ⟨c, hc, e1⟩
    · exact hf.isafe e he'
    · rw [e1]
      exact hf.ichg c (List.mem_of_mem_take hc)
  · rintro e w' ⟨rfl, s', hg, h1, h2, h3⟩
    refine ⟨rfl, s', hg, ?_⟩
    unfold PSt.ds crD
    rw [h1, h2, h3]
/-- A disk keeps no more files than those under its paths. -/
def PSt.cut (s : PSt) : PSt := { s with fs := s.R.now.map DE.blk }
theorem PSt.In.cut {s : PSt} {w : World} (h : s.In w) (h1 : s.R.safe = s.R.now) (h2 : s.R.chg = []) : s.cut.In w := by
  have hm : ∀ f ∈ s.cut.fs, f ∈ s.fs := fun f hf => by
    obtain ⟨e, he, rfl⟩ := List.mem_map.1 hf
    exact h.inow e he
  refine ⟨h.is, fun f hf => h.fds f (hm f hf), fun f hf g hg => h.sep f (hm f hf) g (hm g hg), fun e he => List.mem_map.2 ⟨e, he, rfl⟩, fun e he => ?_, fun c hc => ?_⟩
  · have he : e ∈ s.R.safe := he
    rw [h1] at he
    exact List.mem_map.2 ⟨e, he, rfl⟩
  · have hc : c ∈ s.R.chg := hc
    rw [h2] at hc
    cases hc
theorem PSt.In.cutOwn {s : PSt} {w : World} (h : s.In w) {k : Nat} (hk : s.cut.own k) : s.own k := by
  have hm : ∀ f ∈ s.cut.fs, f ∈ s.fs := fun f hf => by
    obtain ⟨e, he, rfl⟩ := List.mem_map.1 hf
    exact h.inow e he
  rcases hk with e | e | e | e | e | ⟨f, hf, e⟩
  · exact .inl e
  · exact .inr (.inl e)
  · exact .inr (.inr (.inl e))
  · exact .inr (.inr (.inr (.inl e)))
  · exact .inr (.inr (.inr (.inr (.inl (hm _ e)))))
  · exact .inr (.inr (.inr (.inr (.inr ⟨f, hm f hf, e⟩))))
theorem find_mem : ∀ {l : List DE}, Rise l → ∀ e ∈ l, findE e.path l = some e.blk
  | [], _, e, he => by cases he
  | a :: l, hr, e, he => by
    have h1 := List.pairwise_cons.1 hr
    show (if a.path = e.path then some a.blk else findE e.path l) = _
    rcases List.mem_cons.1 he with rfl | he
    · rw [if_pos rfl]
    · rw [if_neg (less_ne (h1.1 e he))]
      exact find_mem h1.2 e he
theorem three_rise (y x z : Nat) : Rise [⟨indexP, y⟩, ⟨journalP, x⟩, ⟨layoutP, z⟩] := by
  have a1 : lessB indexP journalP = true := by rw [less_eq]; decide
  have a2 : lessB indexP layoutP = true := by rw [less_eq]; decide
  have a3 : lessB journalP layoutP = true := by rw [less_eq]; decide
  simp [Rise, a1, a2, a3]
/-- A copy of a disk at rest is one. -/
theorem copy_er {s so : PSt} {ψ : ByteArray → Nat} {w : World} (h : Er s.ds) (hin : ∀ e ∈ s.R.now, e.blk ∈ s.fs) (hso : so.In w) (hR : so.R = ⟨s.R.room, so.R.now, so.R.now, [], 0, -1⟩) (hc : CpRel s so ψ (fun _ => false)) (hr0 : 0 ≤ s.R.room) (hr1 : s.R.room ≤ 9223372036854775807) : Er so.cut.ds ∧ DFit so.cut.ds 6 0 36 ∧ so.R.left = -1 ∧ so.R.room = s.R.room := by
  have hsafe : so.R.safe = so.R.now := by rw [hR]
  have hchg : so.R.chg = [] := by rw [hR]
  have hleft : so.R.left = -1 := by rw [hR]
  have hroom : so.R.room = s.R.room := by rw [hR]
  have hcount : so.R.count = 0 := by rw [hR]
  have hrise : Rise so.R.now := PM.rise hso.is.now (Maps.string_keyed Tryz.underlying9)
  have hrs : Rise s.R.now := by
    have := h.ea.rise
    rw [← h.now] at this
    exact this
  have hfnd : ∀ x, findE x so.R.now = (findE x s.R.now).map fun _ => ψ x := fun x => by simpa using hc.fnd x
  have hback : ∀ e ∈ so.R.now, ∃ e' ∈ s.R.now, e'.path = e.path ∧ e.blk = ψ e.path ∧ so.fd e.blk = ((s.fd e'.blk).1, ((s.fd e'.blk).1.size : Int)) := fun e he => by
    have h1 := find_mem hrise e he
    rw [hfnd] at h1
    cases h2 : findE e.path s.R.now with
    | none => rw [h2] at h1; cases h1
    | some f =>
      rw [h2] at h1
      obtain ⟨e', he', hp, hb⟩ := findE_some h2
      injection h1 with h1
      refine ⟨e', he', hp, h1.symm, ?_⟩
      rw [← h1, hb]
      exact hc.dat _ f rfl h2
  have hsix : ∀ e ∈ so.R.now, e.path ∈ six := fun e he => by
    obtain ⟨e', he', hp, _⟩ := hback e he
    have := h.ea.six 0 e'
    rw [List.take_zero] at this
    have h3 : e' ∈ s.ds.R.safe := by rw [← h.now]; exact he'
    rw [← hp]
    exact this h3
  have hdat : ∀ f ∈ so.cut.ds.fs, FitB 36 (so.cut.ds.fd f) := fun f hf => by
    obtain ⟨e, he, rfl⟩ := List.mem_map.1 hf
    obtain ⟨e', he', _, _, hd⟩ := hback e he
    show FitB 36 (so.fd e.blk)
    rw [hd]
    have := (h.ea.dat e'.blk (hin e' he')).1
    exact ⟨this, by simp, Int.le_refl _⟩
  have hinv : Inv so.cut.ds.R := ⟨by show so.R.now = goE so.R.safe so.R.chg; rw [hsafe, hchg]; rfl, fun e he => by
    have he : e ∈ so.R.safe := he
    rw [hsafe] at he
    exact six_ne (hsix e he)⟩
  have hnow : ∀ m, goE so.cut.ds.R.safe (so.cut.ds.R.chg.take m) = so.R.now := fun m => by
    show goE so.R.safe (so.R.chg.take m) = so.R.now
    rw [hsafe, hchg, List.take_nil]
    rfl
  have hrs2 : Rise so.cut.ds.R.safe := by show Rise so.R.safe; rw [hsafe]; exact hrise
  refine ⟨⟨⟨fun m => ?_, fun m e he => ?_, hdat, hrs2, hinv⟩, hchg⟩, ?_, hleft, hroom⟩
  · rw [hnow m]
    rcases h.or with hn | ⟨y, x, z, e, fx, fy, fz⟩
    · refine .inl ?_
      have hn : findE layoutP s.R.now = none := hn
      rw [hfnd, hn]
      rfl
    · refine .inr ?_
      have e : s.R.now = [⟨indexP, y⟩, ⟨journalP, x⟩, ⟨layoutP, z⟩] := e
      have n1 : indexP ≠ journalP := by decide
      have n2 : indexP ≠ layoutP := by decide
      have n3 : journalP ≠ layoutP := by decide
      have f1 : findE indexP s.R.now = some y := by rw [e]; rfl
      have f2 : findE journalP s.R.now = some x := by rw [e]; simp [findE, n1]
      have f3 : findE layoutP s.R.now = some z := by rw [e]; simp [findE, n2, n3]
      refine ⟨ψ indexP, ψ journalP, ψ layoutP, rise_ext hrise (three_rise _ _ _) (fun p => ?_), ?_, ?_, ?_⟩
      · rw [hfnd, e]
        by_cases c1 : indexP = p
        · subst c1; simp [findE]
        · by_cases c2 : journalP = p
          · subst c2; simp [findE, c1]
          · by_cases c3 : layoutP = p
            · subst c3; simp [findE, c1, c2]
            · simp [findE, c1, c2, c3]
      · have := hc.dat journalP x rfl f2
        rw [show s.fd x = (⟨#[]⟩, 0) from fx] at this
        exact this
      · have := hc.dat indexP y rfl f1
        rw [show s.fd y = (emptyT, 23) from fy] at this
        exact this
      · have := hc.dat layoutP z rfl f3
        rw [show s.fd z = (layoutT, 13) from fz] at this
        exact this
  · rw [hnow m] at he
    exact hsix e he
  · have hlen := six_len hrise hsix
    have hib : ∀ e ∈ so.R.now, e.blk ∈ so.cut.fs := fun e he => List.mem_map.2 ⟨e, he, rfl⟩
    exact ⟨by show so.R.safe.length + so.R.chg.length ≤ 6; rw [hsafe, hchg]; simpa using hlen, by show 0 ≤ so.R.count; omega, by show so.R.count ≤ _; omega, by show -1 ≤ so.R.left; omega, by show so.R.left ≤ _; omega, by show 0 ≤ so.R.room; omega, by show so.R.room ≤ _; omega, hdat, (fun c hc => by have hc : c ∈ so.R.chg := hc; rw [hchg] at hc; cases hc), hinv, hib, (fun e he => by have he : e ∈ so.R.safe := he; rw [hsafe] at he; exact hib e he), (fun c hc => by have hc : c ∈ so.R.chg := hc; rw [hchg] at hc; cases hc), hrs2⟩
end Go.Proofs.YteicpbcddjjceaaGreatDoor

/-
  PROVED HERE: what pick of the statements answers.
-/
namespace Go.Proofs.YteicpbcddjjceaaGreatDoor
open Go.RowKit
/-- Which of n things a raw number speaks of. -/
def pickN (c : Int) (n : Nat) : Nat := ((if c < 0 then -(c + 1) else c) % (n : Int)).toNat
theorem pickN_lt (c : Int) (n : Nat) (h : 0 < n) : pickN c n < n := by
  unfold pickN
  have h1 := Int.emod_nonneg (if c < 0 then -(c + 1) else c) (show (n : Int) ≠ 0 by omega)
  have h2 := Int.emod_lt_of_pos (if c < 0 then -(c + 1) else c) (show (0 : Int) < n by omega)
  omega
theorem pickN_val (c : Int) (n : Nat) (h : 0 < n) : ((pickN c n : Nat) : Int) = (if c < 0 then -(c + 1) else c) % (n : Int) := by
  unfold pickN
  have h1 := Int.emod_nonneg (if c < 0 then -(c + 1) else c) (show (n : Int) ≠ 0 by omega)
  omega
set_option maxRecDepth 100000 in
theorem pick_any (c : Int) (n : Nat) (h0 : 0 < n) (h1 : n ≤ 9223372036854775807) (hc : -9223372036854775808 ≤ c) (hc2 : c ≤ 9223372036854775807) (w : World) :
    Calls Tryz.prog 16 #[.int .i64 c, .int .i64 ((n : Nat) : Int)] w fun e w' => e = .returned (.int .i64 ((pickN c n : Nat) : Int)) ∧ w' = w := by
  have hv := pickN_val c n h0
  obtain ⟨r, hr⟩ : ∃ r, r = pickN c n := ⟨_, rfl⟩
  rw [← hr] at hv ⊢
  clear hr
  have hn0 : ¬ (n : Int) = 0 := by omega
  by_cases h : c < 0
  · rw [if_pos h] at hv
    have HV := hide hv
    clear hv
    have a1 : 0 ≤ -(c + 1) := by omega
    go_enter Tryz.func16, Tryz.ntmps16
    go_wp2
    go_ret
    refine ⟨?_, rfl⟩
    show Ending.returned (.int .i64 (-((c + 1).tmod ↑n))) = _
    rw [HV.out, ← Int.neg_tmod, Int.tmod_eq_emod_of_nonneg a1]
  · rw [if_neg h] at hv
    have HV := hide hv
    clear hv
    have a1 : 0 ≤ c := by omega
    go_enter Tryz.func16, Tryz.ntmps16
    go_wp2
    go_ret
    refine ⟨?_, rfl⟩
    rw [HV.out]
    rfl
end Go.Proofs.YteicpbcddjjceaaGreatDoor
