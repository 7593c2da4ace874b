/-
  PROVED HERE: the calls Crash and those that ask: the program's and the document's have the same answer; no walk.
-/
import Derived.Test.YtjipdjkcdoajbaaGreatDoorTwinMore
namespace Go.Proofs.YtjipdjkcdoajbaaGreatDoor
open Go.RowKit
def FitB (B : Nat) (x : ByteArray × Int) : Prop := x.1.size ≤ B ∧ 0 ≤ x.2 ∧ x.2 ≤ (x.1.size : Int)
theorem cutK_fit {B : Nat} {x : ByteArray × Int} (h : FitB B x) (k : Int) : FitB B (cutK x k) := by
  obtain ⟨h1, h2, h3⟩ := h
  unfold FitB cutK
  dsimp only
  rw [size_ext _ (by omega)]
  omega
theorem crashN_fit {B : Nat} : ∀ (l : List DE) (fd : Nat → ByteArray × Int) (ks : List Int), (∀ e ∈ l, FitB B (fd e.blk)) → ∀ f, FitB B (fd f) → FitB B (crashN fd l ks f)
  | [], _, _, _, _, h => h
  | e :: es, fd, ks, hl, f, h => by
    have he := hl e (by simp)
    have key : ∀ g, FitB B (fd g) → FitB B (setNd fd e.blk (cutK (fd e.blk) (ks.headD 0)) g) := by
      intro g hg
      unfold setNd
      split
      · exact cutK_fit he _
      · exact hg
    unfold crashN
    exact crashN_fit es _ _ (fun x hx => key _ (hl x (by simp [hx]))) f (key f h)
theorem KAt.frame {w w' : World} {v : Value} {ks : List Int} {S S' : Nat → Prop} (h : KAt S w v ks) (hg : Gr S' w w') (hS : ∀ k, S' k → S k) : KAt S w' v ks := by
  obtain ⟨oa, c, rfl, hk⟩ := h
  refine ⟨oa, c, rfl, fun i hi => ?_⟩
  obtain ⟨g, o, h1, h2, h3⟩ := hk i hi
  have hb := hg.block g (World.block_lt_of_cell? _ _ h3) (fun e => h2 (hS g e))
  exact ⟨g, o, h1, h2, (World.cell?_of_block (a := ⟨g, o + i, none⟩) hb).trans h3⟩
theorem KAt.mono {w : World} {v : Value} {ks : List Int} {S S' : Nat → Prop} (h : KAt S w v ks) (hS : ∀ k, S' k → S k) : KAt S' w v ks := by
  obtain ⟨oa, c, rfl, hk⟩ := h
  refine ⟨oa, c, rfl, fun i hi => ?_⟩
  obtain ⟨g, o, h1, h2, h3⟩ := hk i hi
  exact ⟨g, o, h1, fun e => h2 (hS g e), h3⟩
theorem tCrash (t : Tw) (paths : Int) (k1 k2 : Value) (ks : List Int) (w : World) {n B : Nat} (h : t.In w) (hb : TB t.r n B) (hn : n + B ≤ 1048576) (h1 : KAt t.own w k1 ks) (h2 : KAt t.own w k2 ks) :
    TCalls 66 #[.pointer (some ⟨t.d, 0, none⟩), .int .i64 paths, k1] 67 #[.pointer (some ⟨t.r.b, 0, none⟩), .int .i64 paths, k2] t w (n + 1) B := by
  obtain ⟨m, hm⟩ : ∃ m, m = nCr paths t.r.R.chg.length := ⟨_, rfl⟩
  have hml : m ≤ t.r.R.chg.length := by rw [hm]; exact nCr_le _ _
  obtain ⟨L, hL⟩ : ∃ L, L = goE t.r.R.safe (t.r.R.chg.take m) := ⟨_, rfl⟩
  have hc : t.s.R.chg = t.r.R.chg.map (CH.mv t.φ) := by rw [h.tie.eqR]; rfl
  have hcl : t.s.R.chg.length = t.r.R.chg.length := by rw [hc, List.length_map]
  have hset : (t.s.R.chg.take (nCr paths t.s.R.chg.length)).foldl applyE t.s.R.safe = L.map (DE.mv t.φ) := by rw [hcl, ← hm, hc, ← List.map_take, h.tie.settled, ← hL]
  have hLn : ∀ e ∈ L, e.blk ∈ t.r.ns := by
    intro e he
    rw [hL] at he
    rcases goE_mem _ he with h3 | ⟨c, hc2, h3⟩
    · exact h.r.isafe e h3
    · rw [h3]; exact h.r.ichg c (List.mem_of_mem_take hc2)
  have hlen : L.length ≤ n := by
    have h3 := goE_le (t.r.R.chg.take m) t.r.R.safe
    rw [← hL, List.length_take] at h3
    have := hb.len
    omega
  have hfit := hb.fits h.tie.inv h.r hn
  have hl1 : t.s.R.safe.length + t.s.R.chg.length ≤ 100000000 := by
    have := hb.len
    rw [h.tie.eqR]
    show (t.r.R.safe.map _).length + (t.r.R.chg.map _).length ≤ _
    rw [List.length_map, List.length_map]; omega
  have hcf : CFit t.s := ⟨hl1, by rw [hc]; exact chFit_mv _ hb.chf, fun f hf => by
    obtain ⟨k, hk, rfl⟩ := h.tie.sur f hf
    rw [h.tie.dat k hk]
    exact hfit.data k hk⟩
  have hpd := pdCrash t.s paths k1 ks w h.p (h1.mono fun k hk => .inl hk) hcf (L.map (DE.mv t.φ)) hset.symm (by
    intro e he
    obtain ⟨x, hx, rfl⟩ := List.mem_map.1 he
    exact h.tie.inn _ (hLn x hx))
  have hwc := wCrash t.d t.s.b paths k1 _ w h.bd hpd
  refine hwc.mono ?_
  rintro _ w1 ⟨rfl, s1, hgo, hs1, hs2, hs3⟩
  have hr1 : t.r.In w1 := h.r.frame h.p hgo.gr
  have hk2 := (h2.frame hgo.gr (fun k hk => .inl hk)).mono (S' := fun k => k = t.r.b ∨ k ∈ t.r.ns) (fun k hk => .inr (hk.elim .inl (fun e => .inr (.inl e))))
  have hd1 : BD w1 t.d t.s.b := (hgo.gr.block _ (lt_of_row h.bd) (h.p.notOwn h.bd (by decide) (by decide) (by decide) (by decide))).trans h.bd
  refine ⟨0, rfl, hgo.gr.mono fun q _ hq => .inl hq, (rdCrash_any t.r.b t.r.R t.r.nd t.r.ns t.r.cv paths k2 ks w1 hr1 hfit (by have := hb.len; omega) hk2 L (by rw [hL, hm])).mono ?_⟩
  rintro _ w2 ⟨rfl, hrd, hgr⟩
  have hgr2 : Gr t.r.own w1 w2 := hgr.mono fun k _ hk => hk.imp id .inl
  have hd2 : BD w2 t.d t.s.b := by
    refine (hgr2.block _ (lt_of_row hd1) (fun ho => ?_)).trans hd1
    obtain ⟨_, T2, ht, hc⟩ := hr1.ty ho
    exact type_ne hd1 hc (fun e => by rw [← e] at ht; revert ht; unfold dTy; decide) rfl
  refine ⟨rfl, ⟨t.d, s1, ⟨t.r.b, { t.r.R with now := L, safe := L, chg := [], left := -1 }, crashN t.r.nd L ks, t.r.ns, .slice none 0 0⟩, t.φ⟩, ⟨rfl, rfl, ⟨by rw [hgo.b]; exact hd2, hgo.inn.frame hr1 hgr2, hrd, ?_⟩, ⟨hgr2.os.trans hgo.gr.os, hgr2.tape.trans hgo.gr.tape, hgr2.output.trans hgo.gr.output, Nat.le_trans hgo.gr.size hgr2.size, fun q hq hne => ?_⟩, fun q hq => ?_⟩, ?_⟩
  · refine ⟨by rw [hs1, h.tie.eqR]; rfl, ?_, by rw [hs2]; exact h.tie.inn, h.tie.inj, by rw [hs2]; exact h.tie.sur, ⟨rfl, by rw [hL]; exact goE_noEmp _ h.tie.inv.ne⟩⟩
    rw [hs3]
    exact crashN_mv t.φ t.r.ns h.tie.inj L t.r.nd t.s.fd ks hLn h.tie.dat
  · exact (hgr2.block q (Nat.lt_of_lt_of_le hq hgo.gr.size) (fun e => hne (.inr e))).trans (hgo.gr.block q hq (fun e => hne (.inl e)))
  · rcases hq with hq | hq
    · exact (hgo.own q hq).imp .inl id
    · rcases hq with e | e | e
      · exact .inl (.inr (.inl e))
      · exact .inl (.inr (.inr (.inl e)))
      · cases e
  · have h3 := hb.c1
    exact ⟨by show L.length + 0 ≤ _; omega, hb.c0, by show t.r.R.count ≤ _; omega, by show (-1 : Int) ≤ -1; omega, by show (-1 : Int) ≤ _; omega, hb.r0, hb.r1, fun k hk => crashN_fit L t.r.nd ks (fun e he => hb.dat _ (hLn e he)) k (hb.dat k hk), fun c hc => by cases hc⟩
end Go.Proofs.YtjipdjkcdoajbaaGreatDoor

/-
  PROVED HERE: the calls that ask a disk: the program's and the document's have the same answer; no walk.
-/
namespace Go.Proofs.YtjipdjkcdoajbaaGreatDoor
open Go.RowKit
theorem Tw.In.later {t : Tw} {w w' : World} (h : t.In w) (hb : Below w.heap.size w w') : t.In w' := ⟨(hb.block _ (lt_of_row h.bd)).trans h.bd, h.p.later hb, h.r.later hb, h.tie⟩
theorem TGo.below {t : Tw} {w w' : World} (h : t.In w) (hb : Below w.heap.size w w') : TGo t t w w' := ⟨rfl, rfl, h.later hb, Gr.of_below hb, fun _ hk => .inl hk⟩
theorem TGo.asked {t : Tw} {w w1 w2 : World} (h : t.In w) (hgo : PGo t.s t.s w w1) (hb : Below w1.heap.size w1 w2) : TGo t t w w2 := by
  have hr1 : t.r.In w1 := h.r.frame h.p hgo.gr
  have hd1 : BD w1 t.d t.s.b := (hgo.gr.block _ (lt_of_row h.bd) (h.p.notOwn h.bd (by decide) (by decide) (by decide) (by decide))).trans h.bd
  have h1 : t.In w1 := ⟨hd1, hgo.inn, hr1, h.tie⟩
  exact ⟨rfl, rfl, h1.later hb, (hgo.gr.mono fun k _ hk => .inl hk).trans (Gr.of_below hb), fun _ hk => .inl hk⟩
/-- First the program's call, then the document's: the same two answers, and nothing has changed. -/
def LCalls (fP : Nat) (aP : Array Value) (fR : Nat) (aR : Array Value) (t : Tw) (w : World) (V : Value → Prop) : Prop :=
  Calls Tryz.prog fP aP w fun e w1 => ∃ v k, V v ∧ e = .returned (.tuple #[v, .int .i64 k]) ∧ Gr t.own w w1 ∧ Calls Tryz.prog fR aR w1 fun e w2 => e = .returned (.tuple #[v, .int .i64 k]) ∧ TGo t t w w2
theorem tUsed (t : Tw) (w : World) {n B : Nat} (h : t.In w) (hb : TB t.r n B) (hn : n + B ≤ 1048576) :
    LCalls 20 #[.pointer (some ⟨t.d, 0, none⟩)] 21 #[.pointer (some ⟨t.r.b, 0, none⟩)] t w (fun v => ∃ i : Int, v = .int .i64 i) := by
  have hu := h.tie.used h.r
  have hfit := hb.fits h.tie.inv h.r hn
  refine (wUsed t.d t.s.b (fun v w' => v = .int .i64 ((usedE t.r.nd t.r.R.now : Nat) : Int) ∧ Below w.heap.size w w') w h.bd ((pused_any t.s w h.p (by rw [hu]; exact hfit.used)).mono fun e w' ⟨h1, h2⟩ => ⟨_, h1, by rw [hu], h2⟩)).mono ?_
  rintro _ w1 ⟨v, rfl, rfl, hb1⟩
  refine ⟨_, 0, ⟨_, rfl⟩, rfl, Gr.of_below hb1, (rdUsed_any t.r.b t.r.R t.r.nd t.r.ns t.r.cv w1 (h.r.later hb1) hfit).mono ?_⟩
  rintro _ w2 ⟨hb2, rfl⟩
  exact ⟨rfl, TGo.below h (hb1.trans (hb2.mono hb1.size))⟩
theorem tSteps (t : Tw) (w : World) (h : t.In w) :
    LCalls 22 #[.pointer (some ⟨t.d, 0, none⟩)] 23 #[.pointer (some ⟨t.r.b, 0, none⟩)] t w (fun v => ∃ i : Int, v = .int .i64 i) := by
  have hc : t.s.R.count = t.r.R.count := by rw [h.tie.eqR]; rfl
  refine (wSteps t.d t.s.b (fun v w' => v = .int .i64 t.r.R.count ∧ w' = w) w h.bd ((psteps_any t.s.b t.s.R t.s.mb t.s.lb t.s.cv w h.p.is).mono fun e w' ⟨h1, h2⟩ => ⟨_, h2, by rw [hc], h1⟩)).mono ?_
  rintro _ w1 ⟨v, rfl, rfl, rfl⟩
  refine ⟨_, 0, ⟨_, rfl⟩, rfl, Gr.refl _ _, (rdSteps_any t.r.b t.r.R t.r.nd t.r.ns t.r.cv w1 h.r).mono ?_⟩
  rintro _ w2 ⟨hb2, rfl⟩
  exact ⟨rfl, TGo.below h hb2⟩
theorem tRead (t : Tw) (p : ByteArray) (w : World) {n B : Nat} (h : t.In w) (hb : TB t.r n B) (hn : n + B ≤ 1048576) (hp : p.size ≤ 9223372036854775807) (hg : w.cell? ⟨0, 0, none⟩ = some errT) :
    LCalls 14 #[.pointer (some ⟨t.d, 0, none⟩), .string p] 15 #[.pointer (some ⟨t.r.b, 0, none⟩), .string p] t w (fun v => ∃ s : ByteArray, s.size ≤ 1048576 ∧ v = .string s) := by
  have hpd := pdRead t.s p w h.p hp
  have hfind := h.tie.find p
  have hfit := hb.fits h.tie.inv h.r hn
  have fin : ∀ (x : ByteArray) (k : Int), x.size ≤ 1048576 →
      Calls Tryz.prog 46 #[.pointer (some ⟨t.s.b, 0, none⟩), .string p] w (fun e w' => ∃ v, e = .returned (.tuple #[.string x, v]) ∧ PRet t.s w k (fun s1 => s1 = t.s) v w') →
      (if isPathB p = true then (match findE p t.r.R.now with | none => Value.tuple #[.string ⟨#[]⟩, .int .i64 3] | some nb => .tuple #[.string (t.r.nd nb).1, .int .i64 0]) else .tuple #[.string ⟨#[]⟩, .int .i64 2]) = .tuple #[.string x, .int .i64 k] →
      LCalls 14 #[.pointer (some ⟨t.d, 0, none⟩), .string p] 15 #[.pointer (some ⟨t.r.b, 0, none⟩), .string p] t w (fun v => ∃ s : ByteArray, s.size ≤ 1048576 ∧ v = .string s) := by
    intro x k hx hc hv
    refine (wRead t.s t.d p w k (fun s1 => s1 = t.s) x h.bd hg hc).mono ?_
    rintro _ w1 ⟨rfl, hbad, hok⟩
    have hgo : PGo t.s t.s w w1 := by
      by_cases e : k = 0
      · obtain ⟨s1, h1, h2⟩ := hok e
        rw [h2] at h1
        exact h1
      · exact PGo.refl h.p (hbad e)
    refine ⟨_, k, ⟨x, hx, rfl⟩, rfl, hgo.gr.mono fun q _ hq => .inl hq, (rdRead_any t.r.b t.r.R t.r.nd t.r.ns t.r.cv p w1 (h.r.frame h.p hgo.gr) hfit hp).mono ?_⟩
    rintro _ w2 ⟨hb2, rfl⟩
    exact ⟨congrArg Ending.returned hv, TGo.asked h hgo hb2⟩
  cases hpp : isPathB p with
  | false => exact fin ⟨#[]⟩ 2 (by decide) (hpd.mono fun e w' ⟨v, x, he, h1, _⟩ => ⟨v, by rw [he, (h1 hpp).2], ⟨fun hk => (h1 hpp).1.1 hk, fun hk => absurd hk (by decide)⟩⟩) (by rw [hpp]; rfl)
  | true =>
    cases hfo : findE p t.r.R.now with
    | none =>
      rw [hfo] at hfind
      exact fin ⟨#[]⟩ 3 (by decide) (hpd.mono fun e w' ⟨v, x, he, _, h1, _⟩ => ⟨v, by rw [he, (h1 hpp hfind).2], ⟨fun hk => (h1 hpp hfind).1.1 hk, fun hk => absurd hk (by decide)⟩⟩) (by rw [hpp, hfo]; rfl)
    | some nb =>
      rw [hfo] at hfind
      have hm := findE_in h.r hfo
      have hd := h.tie.dat nb hm
      exact fin (t.r.nd nb).1 0 (by have := (hb.dat nb hm).1; omega) (hpd.mono fun e w' ⟨v, x, he, _, _, h1⟩ => ⟨v, by rw [he, (h1 _ hpp hfind).2, hd], (h1 _ hpp hfind).1⟩) (by rw [hpp, hfo]; rfl)
theorem tList (t : Tw) (w : World) {n B : Nat} (h : t.In w) (hb : TB t.r n B) (hn : n + B ≤ 1048576) :
    Calls Tryz.prog 16 #[.pointer (some ⟨t.d, 0, none⟩)] w fun e w1 => ∃ v, e = .returned (.tuple #[v, .int .i64 0]) ∧ Below w.heap.size w w1 ∧ w1.ownsRow w.heap.size 9 1 v t.r.R.now.length (pathVs t.r.R.now) ∧
      Calls Tryz.prog 17 #[.pointer (some ⟨t.r.b, 0, none⟩)] w1 fun e w2 => ∃ u, e = .returned (.tuple #[u, .int .i64 0]) ∧ Below w1.heap.size w1 w2 ∧ w2.ownsRow w1.heap.size 9 1 u t.r.R.now.length (pathVs t.r.R.now) := by
  have hfit := hb.fits h.tie.inv h.r hn
  have hnow : t.s.R.now = t.r.R.now.map (DE.mv t.φ) := by rw [h.tie.eqR]; rfl
  have hlen : t.s.R.now.length = t.r.R.now.length := by rw [hnow, List.length_map]
  have hpv : pathVs t.s.R.now = pathVs t.r.R.now := by
    rw [hnow]
    unfold pathVs
    rw [List.map_map]
    rfl
  have hl := plist_any t.s.b t.s.R t.s.mb t.s.lb t.s.cv w h.p.is (by rw [hlen]; exact hfit.now)
  rw [hlen, hpv] at hl
  refine (wList t.d t.s.b _ w h.bd hl).mono ?_
  rintro _ w1 ⟨v, rfl, hrow, hb1⟩
  refine ⟨v, rfl, hb1, hrow, (rdList_any t.r.b t.r.R t.r.nd t.r.ns t.r.cv w1 (h.r.later hb1) hfit).mono ?_⟩
  rintro _ w2 ⟨hb2, u, rfl, hrow2⟩
  exact ⟨u, rfl, hb2, hrow2⟩
end Go.Proofs.YtjipdjkcdoajbaaGreatDoor

/-
  PROVED HERE: NewDisk and Copy: the new disks of both sides hold the same; no walk.
-/
namespace Go.Proofs.YtjipdjkcdoajbaaGreatDoor
open Go.RowKit
theorem exists_phi (ψ : ByteArray → Nat) : ∀ (l : List DE), (∀ a ∈ l, ∀ b ∈ l, a.blk = b.blk → a.path = b.path) → ∃ φ : Nat → Nat, ∀ e ∈ l, φ e.blk = ψ e.path
  | [], _ => ⟨fun _ => 0, fun e he => (by cases he)⟩
  | x :: l, h => by
    obtain ⟨φ, hφ⟩ := exists_phi ψ l (fun a ha b hb => h a (by simp [ha]) b (by simp [hb]))
    refine ⟨fun k => if k = x.blk then ψ x.path else φ k, fun e he => ?_⟩
    by_cases e1 : e.blk = x.blk
    · simp only [e1, if_true]
      rw [h e he x (by simp) e1]
    · simp only [e1, if_false]
      exact hφ e ((List.mem_cons.1 he).resolve_left (fun e2 => e1 (by rw [e2])))
theorem de_index {l : List DE} {e : DE} (h : e ∈ l) : ∃ i, i < l.length ∧ e = l.getD i DE0 := by
  obtain ⟨i, hi, he⟩ := List.mem_iff_getElem.1 h
  exact ⟨i, hi, by rw [List.getD_eq_getElem?_getD, List.getElem?_eq_getElem hi]; exact he.symm⟩
theorem de_mem {l : List DE} {i : Nat} (h : i < l.length) : l.getD i DE0 ∈ l := by
  rw [List.getD_eq_getElem?_getD, List.getElem?_eq_getElem h]; simp
theorem rise_paths (l : List DE) : Rise l ↔ (l.map (·.path)).Pairwise (fun x y => lessB x y = true) := by
  unfold Rise; rw [List.pairwise_map]
theorem findE_as (ψ : ByteArray → Nat) (x : ByteArray) : ∀ l : List DE, findE x (l.map fun e => (⟨e.path, ψ e.path⟩ : DE)) = (findE x l).map fun _ => ψ x
  | [] => rfl
  | e :: es => by
    rw [List.map_cons]
    unfold findE
    by_cases h : e.path = x
    · simp [h]
    · simp only [h, if_false]
      exact findE_as ψ x es
/-- What a new pair is. -/
def TNew (w w2 : World) (d rb n B : Nat) : Prop := Below w.heap.size w w2 ∧ ∃ t : Tw, t.In w2 ∧ t.d = d ∧ t.r.b = rb ∧ (∀ k, t.own k → w.heap.size ≤ k) ∧ TB t.r n B
theorem tNew (room : Int) (w : World) (n B : Nat) (h0 : -9223372036854775808 ≤ room) (h1 : room ≤ 9223372036854775807) :
    Calls Tryz.prog 4 #[.int .i64 room] w fun e w1 => ∃ d, e = .returned (.pointer (some ⟨d, 0, none⟩)) ∧ Below w.heap.size w w1 ∧
      Calls Tryz.prog 5 #[.int .i64 room] w1 fun e w2 => ∃ rb, e = .returned (.pointer (some ⟨rb, 0, none⟩)) ∧ TNew w w2 d rb n B := by
  refine (wNewDisk room (fun g w' => g = w.heap.size + 1 + 1 ∧ Below w.heap.size w w' ∧ PDIs w' (w.heap.size + 1 + 1) ⟨if room < 0 then 0 else room, [], [], [], 0, -1⟩ w.heap.size (w.heap.size + 1) (.slice none 0 0)) w ((pnew_any room w).mono fun e w' ⟨h1, h2, h3, _⟩ => ⟨_, h1, rfl, h2, h3⟩)).mono ?_
  rintro _ w1 ⟨g, w0, rfl, rfl, rfl, hb0, hd0⟩
  have hb1 : Below w0.heap.size w0 (w0.alloc (.cells #[.pointer (some ⟨w.heap.size + 1 + 1, 0, none⟩)] 53)) := (Below.refl _ _).alloc (Nat.le_refl _) _
  refine ⟨_, rfl, hb0.trans (hb1.mono hb0.size), (newDisk_any room _ h0 h1).mono ?_⟩
  rintro _ w2 ⟨rfl, hb2, hd2⟩
  have hb02 : Below w0.heap.size w0 w2 := hb1.trans (hb2.mono hb1.size)
  have hbw : Below w.heap.size w w2 := hb0.trans (hb02.mono hb0.size)
  have hbd : BD w2 w0.heap.size (w.heap.size + 1 + 1) := (hb2.block w0.heap.size (by rw [size_alloc]; omega)).trans (heap_alloc_new w0 _)
  have hsz : w.heap.size ≤ w0.heap.size := hb0.size
  refine ⟨_, rfl, hbw, ⟨w0.heap.size, ⟨w.heap.size + 1 + 1, w.heap.size, w.heap.size + 1, .slice none 0 0, ⟨if room < 0 then 0 else room, [], [], [], 0, -1⟩, [], fun _ => (⟨#[]⟩, 0), fun _ => .slice none 0 0⟩, ⟨_, ⟨if room < 0 then 0 else room, [], [], [], 0, -1⟩, fun _ => (⟨#[]⟩, 0), [], .slice none 0 0⟩, id⟩, ⟨hbd, ?_, ?_, ?_⟩, rfl, rfl, ?_, ?_⟩
  · have hp : PSt.In ⟨w.heap.size + 1 + 1, w.heap.size, w.heap.size + 1, .slice none 0 0, ⟨if room < 0 then 0 else room, [], [], [], 0, -1⟩, [], fun _ => (⟨#[]⟩, 0), fun _ => .slice none 0 0⟩ w0 := ⟨hd0, fun f hf => (by cases hf), fun f hf => (by cases hf), fun e he => (by cases he), fun e he => (by cases he), fun e he => (by cases he)⟩
    exact hp.later hb02
  · exact ⟨⟨_, _, hd2⟩, fun f hf => (by cases hf), fun e he => (by cases he), fun e he => (by cases he), fun e he => (by cases he)⟩
  · exact ⟨rfl, fun k hk => (by cases hk), fun k hk => (by cases hk), fun k hk => (by cases hk), fun k hk => (by cases hk), ⟨rfl, fun e he => (by cases he)⟩⟩
  · intro k hk
    rcases hk with hk | hk
    · rcases hk with e | e | e | e | e | ⟨f, hf, _⟩
      · have e : k = w.heap.size + 1 + 1 := e; omega
      · have e : k = w.heap.size := e; omega
      · have e : k = w.heap.size + 1 := e; omega
      · cases e
      · cases e
      · cases hf
    · rcases hk with e | e | e
      · have e : k = (w0.alloc (.cells #[.pointer (some ⟨w.heap.size + 1 + 1, 0, none⟩)] 53)).heap.size := e
        rw [size_alloc] at e
        omega
      · cases e
      · cases e
  · exact ⟨Nat.zero_le _, Int.le_refl 0, Int.natCast_nonneg _, Int.le_refl (-1), (by show (-1 : Int) ≤ 9223372036854775807; decide), by show 0 ≤ if room < 0 then 0 else room; split <;> omega, by show (if room < 0 then 0 else room) ≤ _; split <;> omega, fun k hk => (by cases hk), fun c hc => (by cases hc)⟩
theorem tCopy (t : Tw) (w : World) {n B : Nat} (h : t.In w) (hb : TB t.r n B) (hn : n + B ≤ 1048576) :
    Calls Tryz.prog 7 #[.pointer (some ⟨t.d, 0, none⟩)] w fun e w1 => ∃ d, e = .returned (.tuple #[.pointer (some ⟨d, 0, none⟩), .int .i64 0]) ∧ Below w.heap.size w w1 ∧
      Calls Tryz.prog 8 #[.pointer (some ⟨t.r.b, 0, none⟩)] w1 fun e w2 => ∃ rb, e = .returned (.tuple #[.pointer (some ⟨rb, 0, none⟩), .int .i64 0]) ∧ TNew w w2 d rb n B := by
  have hfit := hb.fits h.tie.inv h.r hn
  have hnow : t.s.R.now = t.r.R.now.map (DE.mv t.φ) := by rw [h.tie.eqR]; rfl
  have hroom : t.s.R.room = t.r.R.room := by rw [h.tie.eqR]; rfl
  have hsz : ∀ f ∈ t.s.fs, (t.s.fd f).1.size ≤ 1000000000000 := by
    intro f hf
    obtain ⟨k, hk, rfl⟩ := h.tie.sur f hf
    rw [h.tie.dat k hk]
    exact (hfit.data k hk).1
  have hpaths0 : t.s.R.now.map (·.path) = t.r.R.now.map (·.path) := by rw [hnow, List.map_map]; rfl
  have hRs : Rise t.s.R.now := h.p.is.now.rise (Maps.string_keyed Tryz.underlying9)
  have hRr : Rise t.r.R.now := by rw [rise_paths, ← hpaths0, ← rise_paths]; exact hRs
  refine (wCopy t.d t.s.b (fun g w' => ∃ so ψ, g = PSt.b so ∧ Below w.heap.size w w' ∧ so.In w' ∧ (∀ k, so.own k → w.heap.size ≤ k) ∧ so.R = ⟨t.s.R.room, so.R.now, so.R.now, [], 0, -1⟩ ∧ CpRel t.s so ψ (fun _ => false)) w h.bd ((pdCopy t.s w h.p (by rw [hroom]; exact hb.r0) (by rw [hnow, List.length_map]; exact hfit.now) hsz).mono fun e w' ⟨so, ψ, h1, h2⟩ => ⟨_, h1, so, ψ, rfl, h2⟩)).mono ?_
  rintro _ w1 ⟨g, w0, rfl, rfl, so, ψ, rfl, hb0, hin, hown, hsoR, hcp⟩
  have hb1 : Below w0.heap.size w0 (w0.alloc (.cells #[.pointer (some ⟨so.b, 0, none⟩)] 53)) := (Below.refl _ _).alloc (Nat.le_refl _) _
  have hbw1 := hb0.trans (hb1.mono hb0.size)
  refine ⟨_, rfl, hbw1, (rdCopy_any t.r.b t.r.R t.r.nd t.r.ns t.r.cv _ (h.r.later hbw1) hfit).mono ?_⟩
  rintro _ w2 ⟨R', nd', ns', rfl, hb2, hrd, hns, hR', hcd⟩
  have hb02 : Below w0.heap.size w0 w2 := hb1.trans (hb2.mono hb1.size)
  have hbw : Below w.heap.size w w2 := hb0.trans (hb02.mono hb0.size)
  have hbd : BD w2 w0.heap.size so.b := (hb2.block w0.heap.size (by rw [size_alloc]; omega)).trans (heap_alloc_new w0 _)
  have hlen : R'.now.length = t.r.R.now.length := hcd.len
  have hpaths : R'.now.map (·.path) = t.r.R.now.map (·.path) := by
    refine List.ext_getElem (by simp [hlen]) (fun i h1 h2 => ?_)
    have h3 := hcd.pth i (by simpa using h2)
    rw [List.getD_eq_getElem?_getD, List.getD_eq_getElem?_getD, List.getElem?_eq_getElem (by simpa using h1), List.getElem?_eq_getElem (by simpa using h2)] at h3
    simpa using h3
  have hRd : Rise R'.now := by rw [rise_paths, hpaths, ← rise_paths]; exact hRr
  have hinj : ∀ a ∈ R'.now, ∀ b ∈ R'.now, a.blk = b.blk → a.path = b.path := by
    intro a ha b hb e
    obtain ⟨i, hi, rfl⟩ := de_index ha
    obtain ⟨j, hj, rfl⟩ := de_index hb
    rw [hcd.inj i j (by omega) (by omega) e]
  obtain ⟨φ1, hφ⟩ := exists_phi ψ R'.now hinj
  have hso : so.R.now = R'.now.map (DE.mv φ1) := by
    have e1 : R'.now.map (DE.mv φ1) = R'.now.map (fun e => (⟨e.path, ψ e.path⟩ : DE)) := List.map_congr_left (fun e he => by simp [DE.mv, hφ e he])
    have e2 : ∀ l : List DE, l.map (fun e => (⟨e.path, ψ e.path⟩ : DE)) = (l.map (·.path)).map (fun p => (⟨p, ψ p⟩ : DE)) := fun l => by rw [List.map_map]; rfl
    have e3 : R'.now.map (fun e => (⟨e.path, ψ e.path⟩ : DE)) = t.s.R.now.map (fun e => (⟨e.path, ψ e.path⟩ : DE)) := by rw [e2, e2, hpaths, hpaths0]
    rw [e1, e3]
    refine rise_ext (hin.is.now.rise (Maps.string_keyed Tryz.underlying9)) ?_ (fun x => ?_)
    · rw [rise_paths, List.map_map]
      exact (rise_paths _).1 hRs
    · rw [findE_as]
      exact hcp.fnd x
  have hat : ∀ e ∈ R'.now, ∃ nb ∈ t.r.ns, findE e.path t.s.R.now = some (t.φ nb) ∧ nd' e.blk = ((t.r.nd nb).1, ((t.r.nd nb).1.size : Int)) := by
    intro e he
    obtain ⟨i, hi, rfl⟩ := de_index he
    have hi2 : i < t.r.R.now.length := by omega
    refine ⟨(t.r.R.now.getD i DE0).blk, h.r.inow _ (de_mem hi2), ?_, hcd.dat i hi2⟩
    rw [h.tie.find, hcd.pth i hi2, findE_at hRr hi2]
    rfl
  have hsafe : so.R.safe = so.R.now := by rw [hsoR]
  have hchg : so.R.chg = [] := by rw [hsoR]
  have hmem : ∀ f ∈ so.R.now.map (·.blk), f ∈ so.fs := by
    intro f hf
    obtain ⟨e, he, rfl⟩ := List.mem_map.1 hf
    exact hin.inow e he
  have hpin : PSt.In { so with fs := so.R.now.map (·.blk) } w2 := by
    have hp : PSt.In { so with fs := so.R.now.map (·.blk) } w0 := ⟨hin.is, fun f hf => hin.fds f (hmem f hf), fun f hf g hg => hin.sep f (hmem f hf) g (hmem g hg), fun e he => List.mem_map_of_mem he, fun e he => by rw [show PSt.R { so with fs := so.R.now.map (·.blk) } = so.R from rfl, hsafe] at he; exact List.mem_map_of_mem he, fun c hc => by rw [show PSt.R { so with fs := so.R.now.map (·.blk) } = so.R from rfl, hchg] at hc; cases hc⟩
    exact hp.later hb02
  have hmem2 : ∀ k ∈ R'.now.map (·.blk), k ∈ ns' := by
    intro k hk
    obtain ⟨e, he, rfl⟩ := List.mem_map.1 hk
    exact hrd.inow e he
  refine ⟨_, rfl, hbw, ⟨w0.heap.size, { so with fs := so.R.now.map (·.blk) }, ⟨_, R', nd', R'.now.map (·.blk), .slice none 0 0⟩, φ1⟩, ⟨hbd, hpin, ⟨hrd.is, fun k hk => hrd.nds k (hmem2 k hk), fun e he => List.mem_map_of_mem he, fun e he => by rw [show R'.safe = R'.now by rw [hR']] at he; exact List.mem_map_of_mem he, fun c hc => by rw [show R'.chg = [] by rw [hR']] at hc; cases hc⟩, ?_⟩, rfl, rfl, ?_, ?_⟩
  · refine ⟨?_, fun k hk => ?_, fun k hk => ?_, fun a ha b hb e => ?_, fun f hf => ?_, ⟨?_, ?_⟩⟩
    · show so.R = R'.mv φ1
      rw [hsoR, hso, hroom]
      unfold RDk.mv
      rw [hR']
      rfl
    · obtain ⟨e, he, rfl⟩ := List.mem_map.1 hk
      obtain ⟨nb, hnb, h1, h2⟩ := hat e he
      show so.fd (φ1 e.blk) = nd' e.blk
      rw [hφ e he, h2, hcp.dat e.path _ rfl h1, h.tie.dat nb hnb]
    · obtain ⟨e, he, rfl⟩ := List.mem_map.1 hk
      show φ1 e.blk ∈ so.R.now.map (·.blk)
      rw [hso, List.map_map]
      exact List.mem_map.2 ⟨e, he, rfl⟩
    · obtain ⟨x, hx, rfl⟩ := List.mem_map.1 ha
      obtain ⟨y, hy, rfl⟩ := List.mem_map.1 hb
      have e : φ1 x.blk = φ1 y.blk := e
      rw [hφ x hx, hφ y hy] at e
      obtain ⟨_, _, h1, _⟩ := hat x hx
      obtain ⟨_, _, h2, _⟩ := hat y hy
      have hp := hcp.inj x.path y.path rfl rfl (by rw [h1]; rfl) (by rw [h2]; rfl) e
      obtain ⟨i, hi, rfl⟩ := de_index hx
      obtain ⟨j, hj, rfl⟩ := de_index hy
      have h3 := findE_at hRd hi
      have h4 := findE_at hRd hj
      rw [hp, h4] at h3
      injection h3 with h3
      exact h3.symm
    · have hf : f ∈ so.R.now.map (·.blk) := hf
      rw [hso, List.map_map] at hf
      obtain ⟨e, he, rfl⟩ := List.mem_map.1 hf
      exact ⟨e.blk, List.mem_map_of_mem he, rfl⟩
    · show R'.now = goE R'.safe R'.chg
      rw [hR']
      rfl
    · show NoEmp R'.safe
      rw [show R'.safe = R'.now by rw [hR']]
      intro e he
      obtain ⟨i, hi, rfl⟩ := de_index he
      rw [hcd.pth i (by omega)]
      exact h.tie.inv.nowNe _ (de_mem (by omega))
  · intro k hk
    rcases hk with hk | hk
    · refine hown k ?_
      rcases hk with e | e | e | e | e | ⟨f, hf, e⟩
      · exact .inl e
      · exact .inr (.inl e)
      · exact .inr (.inr (.inl e))
      · exact .inr (.inr (.inr (.inl e)))
      · exact .inr (.inr (.inr (.inr (.inl (hmem k e)))))
      · exact .inr (.inr (.inr (.inr (.inr ⟨f, hmem f hf, e⟩))))
    · have hs1 := hbw1.size
      rcases hk with e | e | e
      · rw [show k = _ from e]; exact hs1
      · exact Nat.le_trans hs1 (hns k (hmem2 k e))
      · cases e
  · have hl2 := hb.now h.tie.inv
    refine ⟨?_, ?_, ?_, ?_, ?_, ?_, ?_, fun k hk => ?_, ?_⟩
    · show R'.safe.length + R'.chg.length ≤ n
      rw [show R'.safe = R'.now by rw [hR'], show R'.chg = [] by rw [hR'], hlen]
      exact hl2
    · show 0 ≤ R'.count; rw [show R'.count = 0 by rw [hR']]; decide
    · show R'.count ≤ _; rw [show R'.count = 0 by rw [hR']]; exact Int.natCast_nonneg _
    · show -1 ≤ R'.left; rw [show R'.left = -1 by rw [hR']]; decide
    · show R'.left ≤ _; rw [show R'.left = -1 by rw [hR']]; decide
    · show 0 ≤ R'.room; rw [show R'.room = t.r.R.room by rw [hR']]; exact hb.r0
    · show R'.room ≤ _; rw [show R'.room = t.r.R.room by rw [hR']]; exact hb.r1
    · obtain ⟨e, he, rfl⟩ := List.mem_map.1 hk
      obtain ⟨nb, hnb, _, h2⟩ := hat e he
      show (nd' e.blk).1.size ≤ B ∧ 0 ≤ (nd' e.blk).2 ∧ (nd' e.blk).2 ≤ ((nd' e.blk).1.size : Int)
      rw [h2]
      exact ⟨(hb.dat nb hnb).1, Int.natCast_nonneg _, Int.le_refl _⟩
    · show ChFit R'.chg
      rw [show R'.chg = [] by rw [hR']]
      intro c hc
      cases hc
end Go.Proofs.YtjipdjkcdoajbaaGreatDoor

/-
  PROVED HERE: a pair may be no disks at all; the calls that write, of either; no walk.
-/
namespace Go.Proofs.YtjipdjkcdoajbaaGreatDoor
open Go.RowKit
def oX : Option Tw → Value
  | none => .pointer none
  | some t => .pointer (some ⟨t.d, 0, none⟩)
def oD : Option Tw → Value
  | none => .pointer none
  | some t => .pointer (some ⟨t.r.b, 0, none⟩)
def oOwn : Option Tw → Nat → Prop
  | none => fun _ => False
  | some t => t.own
def OIn (w : World) (n B : Nat) : Option Tw → Prop
  | none => True
  | some t => t.In w ∧ TB t.r n B
def OGo (w w' : World) (n B : Nat) : Option Tw → Option Tw → Prop
  | none, none => Below w.heap.size w w'
  | some t, some t' => TGo t t' w w' ∧ TB t'.r n B
  | _, _ => False
def OCalls (fP : Nat) (aP : Array Value) (fR : Nat) (aR : Array Value) (p : Option Tw) (w : World) (n B : Nat) : Prop :=
  Calls Tryz.prog fP aP w fun e w1 => ∃ k, e = .returned (.int .i64 k) ∧ Gr (oOwn p) w w1 ∧ Calls Tryz.prog fR aR w1 fun e w2 => e = .returned (.int .i64 k) ∧ ∃ p', OGo w w2 n B p p'
theorem TCalls.opt {fP fR : Nat} {aP aR : Array Value} {t : Tw} {w : World} {n B : Nat} (h : TCalls fP aP fR aR t w n B) : OCalls fP aP fR aR (some t) w n B := by
  refine h.mono ?_
  rintro _ w1 ⟨k, rfl, hg, hc⟩
  refine ⟨k, rfl, hg, hc.mono ?_⟩
  rintro _ w2 ⟨rfl, t', h1, h2⟩
  exact ⟨rfl, some t', h1, h2⟩
theorem oNil {fP fR : Nat} {aP aR : Array Value} {w : World} {n B : Nat} (hp : Calls Tryz.prog fP aP w fun e w' => e = .returned (.int .i64 1) ∧ w' = w) (hr : Calls Tryz.prog fR aR w fun e w' => e = .returned (.int .i64 1) ∧ w' = w) : OCalls fP aP fR aR none w n B := by
  refine hp.mono ?_
  rintro _ w1 ⟨rfl, rfl⟩
  refine ⟨1, rfl, Gr.refl _ _, hr.mono ?_⟩
  rintro _ w2 ⟨rfl, rfl⟩
  exact ⟨rfl, none, Below.refl _ _⟩
theorem OIn.later {w w' : World} {n B : Nat} {p : Option Tw} (h : OIn w n B p) (hb : Below w.heap.size w w') : OIn w' n B p := by
  cases p with
  | none => trivial
  | some t => exact ⟨h.1.later hb, h.2⟩
theorem OGo.from {w w1 w2 : World} {n B : Nat} {p p' : Option Tw} (h : OGo w1 w2 n B p p') (hb : Below w.heap.size w w1) : OGo w w2 n B p p' := by
  cases p with
  | none =>
    cases p' with
    | none => exact hb.trans (Below.mono (show Below w1.heap.size w1 w2 from h) hb.size)
    | some _ => exact h
  | some t =>
    cases p' with
    | none => exact h
    | some t' =>
      obtain ⟨h1, h2⟩ := h
      exact ⟨⟨h1.d, h1.rb, h1.inn, (Gr.of_below hb).trans h1.gr, fun k hk => (h1.own k hk).imp id (Nat.le_trans hb.size)⟩, h2⟩
theorem OGo.refl {w w' : World} {n B : Nat} {p : Option Tw} (h : OIn w n B p) (hb : Below w.heap.size w w') : OGo w w' n B p p := by
  cases p with
  | none => exact hb
  | some t => exact ⟨TGo.below h.1 hb, h.2⟩
/-- A block of another type than theirs stays. -/
theorem OIn.keeps {w w1 : World} {n B : Nat} {p : Option Tw} (h : OIn w n B p) (hg : Gr (oOwn p) w w1) {k : Nat} {cur : Array Value} {T : TypeId} {fr : Nat × Nat} (hk : w.heap[k]? = some (.cells cur T fr)) (h1 : T ≠ 91) (h2 : T ≠ 132) (h3 : T ≠ 96) (h4 : T ≠ 5) (h5 : ¬ dTy T) : w1.heap[k]? = some (.cells cur T fr) := by
  refine (hg.block k (lt_heap hk) ?_).trans hk
  cases p with
  | none => exact fun e => e
  | some t => exact h.1.notOwn hk h1 h2 h3 h4 h5
theorem oAppend (t : Option Tw) (p dt : ByteArray) (w : World) {n B : Nat} (h : OIn w n B t) (hn : n + B ≤ 1048576) (hp : p.size ≤ 9223372036854775807) (hdt : dt.size ≤ 1048576) (hg : w.cell? ⟨0, 0, none⟩ = some errT) :
    OCalls 24 #[oX t, .string p, .string dt] 25 #[oD t, .string p, .string dt] t w (n + 1) (B + dt.size) := by
  cases t with
  | none => exact oNil (wAppend_nil p dt w) (rdAppend_nil p dt w)
  | some t => exact (tAppend t p dt w h.1 h.2 hn hp hdt hg).opt
theorem oRename (t : Option Tw) (p q : ByteArray) (w : World) {n B : Nat} (h : OIn w n B t) (hn : n + B ≤ 1048576) (hp : p.size ≤ 9223372036854775807) (hq : q.size ≤ 9223372036854775807) (hg : w.cell? ⟨0, 0, none⟩ = some errT) :
    OCalls 26 #[oX t, .string p, .string q] 27 #[oD t, .string p, .string q] t w (n + 1) B := by
  cases t with
  | none => exact oNil (wRename_nil p q w) (rdRename_nil p q w)
  | some t => exact (tRename t p q w h.1 h.2 hn hp hq hg).opt
theorem oRemove (t : Option Tw) (p : ByteArray) (w : World) {n B : Nat} (h : OIn w n B t) (hn : n + B ≤ 1048576) (hp : p.size ≤ 9223372036854775807) (hg : w.cell? ⟨0, 0, none⟩ = some errT) :
    OCalls 28 #[oX t, .string p] 29 #[oD t, .string p] t w (n + 1) B := by
  cases t with
  | none => exact oNil (wRemove_nil p w) (rdRemove_nil p w)
  | some t => exact (tRemove t p w h.1 h.2 hn hp hg).opt
theorem oTruncate (t : Option Tw) (p : ByteArray) (m : Int) (w : World) {n B : Nat} (h : OIn w n B t) (hn : n + B ≤ 1048576) (hp : p.size ≤ 9223372036854775807) (hm0 : -9223372036854775808 ≤ m) (hm1 : m ≤ 9223372036854775807) (hg : w.cell? ⟨0, 0, none⟩ = some errT) :
    OCalls 30 #[oX t, .string p, .int .i64 m] 31 #[oD t, .string p, .int .i64 m] t w (n + 1) B := by
  cases t with
  | none => exact oNil (wTruncate_nil p m w) (rdTruncate_nil p m w)
  | some t => exact (tTruncate t p m w h.1 h.2 hn hp hm0 hm1 hg).opt
theorem oSync (t : Option Tw) (p : ByteArray) (w : World) {n B : Nat} (h : OIn w n B t) (hn : n + B ≤ 1048576) (hp : p.size ≤ 9223372036854775807) (hg : w.cell? ⟨0, 0, none⟩ = some errT) :
    OCalls 32 #[oX t, .string p] 33 #[oD t, .string p] t w (n + 1) B := by
  cases t with
  | none => exact oNil (wSync_nil p w) (rdSync_nil p w)
  | some t => exact (tSync t p w h.1 h.2 hn hp hg).opt
theorem oSyncDir (t : Option Tw)  (w : World) {n B : Nat} (h : OIn w n B t) (hn : n + B ≤ 1048576) (hg : w.cell? ⟨0, 0, none⟩ = some errT) :
    OCalls 34 #[oX t] 35 #[oD t] t w (n + 1) B := by
  cases t with
  | none => exact oNil (wSyncDir_nil  w) (rdSyncDir_nil  w)
  | some t => exact (tSyncDir t  w h.1 h.2 hn hg).opt
theorem oSpoil (t : Option Tw) (p : ByteArray) (a m : Int) (w : World) {n B : Nat} (h : OIn w n B t) (hn : n + B ≤ 1048576) (hp : p.size ≤ 9223372036854775807) (hg : w.cell? ⟨0, 0, none⟩ = some errT) :
    OCalls 36 #[oX t, .string p, .int .i64 a, .int .i64 m] 37 #[oD t, .string p, .int .i64 a, .int .i64 m] t w (n + 1) B := by
  cases t with
  | none => exact oNil (wSpoil_nil p a m w) (rdSpoil_nil p a m w)
  | some t => exact (tSpoil t p a m w h.1 h.2 hn hp hg).opt
theorem oBreak (t : Option Tw) (m : Int) (w : World) {n B : Nat} (h : OIn w n B t) (hm : m ≤ 9223372036854775807) (hg : w.cell? ⟨0, 0, none⟩ = some errT) :
    OCalls 38 #[oX t, .int .i64 m] 39 #[oD t, .int .i64 m] t w (n + 1) B := by
  cases t with
  | none => exact oNil (wBreak_nil m w) (rdBreak_nil m w)
  | some t => exact (tBreak t m w h.1 h.2 hm hg).opt
end Go.Proofs.YtjipdjkcdoajbaaGreatDoor
