/-
  PROVED HERE: a disk of the program's and one of the document's side by side: what they have in common, what leaves each of them as it was; no walk.
-/
import Derived.Test.YtjipdjkcdoajbaaGreatDoorBdWrap
import Derived.Test.YtjipdjkcdoajbaaGreatDoorRdCopy
import Derived.Test.YtjipdjkcdoajbaaGreatDoorRdAsk
namespace Go.Proofs.YtjipdjkcdoajbaaGreatDoor
open Go.RowKit
/-- The document's disk: where it lies and what it holds. -/
structure DSt where
  b : Nat
  R : RDk
  nd : Nat → ByteArray × Int
  ns : List Nat
  cv : Value
def DSt.In (r : DSt) (w : World) : Prop := RDN w r.b r.R r.nd r.ns r.cv
def DSt.own (r : DSt) (k : Nat) : Prop := k = r.b ∨ k ∈ r.ns ∨ r.cv.ownBlock = some k
/-- The types of the document's blocks. -/
def dTy (T : TypeId) : Prop := T = 57 ∨ T = 61 ∨ T = 134 ∨ T = 63
theorem DSt.In.ty {r : DSt} {w : World} (h : r.In w) {k : Nat} (hk : r.own k) : ∃ cur T, dTy T ∧ w.heap[k]? = some (.cells cur T (0, 0)) := by
  obtain ⟨nv, sv, hi⟩ := h.is
  rcases hk with e | e | e
  · exact ⟨_, _, .inl rfl, by rw [e]; exact hi.blk⟩
  · exact ⟨_, _, .inr (.inr (.inr rfl)), h.nds k e⟩
  · obtain ⟨cur, hc⟩ := own_obj hi.chg k e
    exact ⟨_, _, .inr (.inr (.inl rfl)), hc⟩
theorem DSt.In.lt {r : DSt} {w : World} (h : r.In w) {k : Nat} (hk : r.own k) : k < w.heap.size := by
  obtain ⟨_, _, _, hc⟩ := h.ty hk
  exact lt_heap hc
theorem PSt.In.notD {s : PSt} {w : World} (h : s.In w) {k : Nat} {cur : Array Value} {T : TypeId} (ht : dTy T) (hk : w.heap[k]? = some (.cells cur T (0, 0))) : ¬ s.own k := by
  refine h.notOwn hk ?_ ?_ ?_ ?_ <;> (rcases ht with rfl | rfl | rfl | rfl <;> decide)
/-- What has the document's types is as it was: so is the document's disk. -/
theorem DSt.In.same {r : DSt} {w w' : World} (h : r.In w) (hk : ∀ k cur T, r.own k ∨ T = 61 → dTy T → w.heap[k]? = some (.cells cur T (0, 0)) → w'.heap[k]? = w.heap[k]?) : r.In w' := by
  obtain ⟨nv, sv, hi⟩ := h.is
  have hr : ∀ {v : Value} {l : List DE}, Ens w v l → Ens w' v l := fun ho => own_same ho (fun k e _ => by
    obtain ⟨cur, hc⟩ := own_obj ho k e
    exact hk k _ _ (.inr rfl) (.inr (.inl rfl)) hc)
  refine ⟨⟨nv, sv, (hk _ _ _ (.inl (.inl rfl)) (.inl rfl) hi.blk).trans hi.blk, hr hi.now, hr hi.safe, own_same hi.chg (fun k e _ => ?_)⟩, fun q hq => ?_, h.inow, h.isafe, h.ichg⟩
  · obtain ⟨cur, hc⟩ := own_obj hi.chg k e
    exact hk k _ _ (.inl (.inr (.inr e))) (.inr (.inr (.inl rfl))) hc
  · exact (hk q _ _ (.inl (.inr (.inl hq))) (.inr (.inr (.inr rfl))) (h.nds q hq)).trans (h.nds q hq)
theorem DSt.In.later {r : DSt} {w w' : World} (h : r.In w) (hb : Below w.heap.size w w') : r.In w' := RDN.later h hb
theorem DSt.In.frame {r : DSt} {s : PSt} {w w' : World} (h : r.In w) (hs : s.In w) (hg : Gr s.own w w') : r.In w' :=
  h.same fun k _ _ _ ht hc => hg.block k (lt_heap hc) (hs.notD ht hc)
theorem PSt.In.frame {r : DSt} {s : PSt} {w w' : World} (hs : s.In w) (h : r.In w) (hg : Gr r.own w w') : s.In w' :=
  hs.same fun k hk => hg.block k (hs.lt hk) (fun ho => by
    obtain ⟨_, _, ht, hc⟩ := h.ty ho
    exact hs.notD ht hc hk)
/-- The document's disk has gone on. -/
structure DGo (r r' : DSt) (w w' : World) : Prop where
  b : r'.b = r.b
  inn : r'.In w'
  gr : Gr r.own w w'
  own : ∀ k, r'.own k → r.own k ∨ w.heap.size ≤ k
theorem DGo.refl {r : DSt} {w w' : World} (h : r.In w) (hb : Below w.heap.size w w') : DGo r r w w' := ⟨rfl, h.later hb, Gr.of_below hb, fun _ hk => .inl hk⟩
def DRet (r : DSt) (w : World) (k : Int) (D : DSt → Prop) (e : Ending) (w' : World) : Prop := e = .returned (.int .i64 k) ∧ (k ≠ 0 → Below w.heap.size w w') ∧ (k = 0 → ∃ r1, DGo r r1 w w' ∧ D r1)
/-- Both hold the same. -/
structure Tie (s : PSt) (r : DSt) (φ : Nat → Nat) : Prop where
  eqR : s.R = r.R.mv φ
  dat : ∀ k ∈ r.ns, s.fd (φ k) = r.nd k
  inn : ∀ k ∈ r.ns, φ k ∈ s.fs
  inj : ∀ a ∈ r.ns, ∀ b ∈ r.ns, φ a = φ b → a = b
  sur : ∀ f ∈ s.fs, ∃ k ∈ r.ns, f = φ k
  inv : Inv r.R
/-- How great a disk may have become in n steps, with files of at most B bytes. -/
structure TB (r : DSt) (n B : Nat) : Prop where
  len : r.R.safe.length + r.R.chg.length ≤ n
  c0 : 0 ≤ r.R.count
  c1 : r.R.count ≤ (n : Int)
  l0 : -1 ≤ r.R.left
  l1 : r.R.left ≤ 9223372036854775807
  r0 : 0 ≤ r.R.room
  r1 : r.R.room ≤ 9223372036854775807
  dat : ∀ k ∈ r.ns, (r.nd k).1.size ≤ B ∧ 0 ≤ (r.nd k).2 ∧ (r.nd k).2 ≤ ((r.nd k).1.size : Int)
  chf : ChFit r.R.chg
theorem TB.mono {r : DSt} {n n' B B' : Nat} (h : TB r n B) (hn : n ≤ n') (hB : B ≤ B') : TB r n' B' :=
  ⟨Nat.le_trans h.len hn, h.c0, by have := h.c1; omega, h.l0, h.l1, h.r0, h.r1, fun k hk => ⟨Nat.le_trans (h.dat k hk).1 hB, (h.dat k hk).2⟩, h.chf⟩
/-- The two of a pair. -/
structure Tw where
  d : Nat
  s : PSt
  r : DSt
  φ : Nat → Nat
structure Tw.In (t : Tw) (w : World) : Prop where
  bd : BD w t.d t.s.b
  p : t.s.In w
  r : t.r.In w
  tie : Tie t.s t.r t.φ
def Tw.own (t : Tw) (k : Nat) : Prop := t.s.own k ∨ t.r.own k
structure TGo (t t' : Tw) (w w' : World) : Prop where
  d : t'.d = t.d
  rb : t'.r.b = t.r.b
  inn : t'.In w'
  gr : Gr t.own w w'
  own : ∀ k, t'.own k → t.own k ∨ w.heap.size ≤ k
theorem Tw.In.lt {t : Tw} {w : World} (h : t.In w) {k : Nat} (hk : t.own k) : k < w.heap.size := hk.elim h.p.lt h.r.lt
/-- A block of another type than theirs is none of theirs. -/
theorem Tw.In.notOwn {t : Tw} {w : World} (h : t.In w) {k : Nat} {cur : Array Value} {T : TypeId} {fr : Nat × Nat} (hk : w.heap[k]? = some (.cells cur T fr)) (h1 : T ≠ 91) (h2 : T ≠ 132) (h3 : T ≠ 96) (h4 : T ≠ 5) (h5 : ¬ dTy T) : ¬ t.own k := by
  rintro (ho | ho)
  · exact h.p.notOwn hk h1 h2 h3 h4 ho
  · obtain ⟨_, T2, ht, hc⟩ := h.r.ty ho
    exact type_ne hk hc (fun e => h5 (by rw [e]; exact ht)) rfl
/-- Another pair, none of whose blocks is theirs, stays as it is. -/
theorem Tw.In.other {t u : Tw} {w w' : World} (h : u.In w) (ht : t.In w) (hg : Gr t.own w w') (ha : ∀ k, u.own k → ¬ t.own k) : u.In w' := by
  refine ⟨?_, h.p.same fun k hk => hg.block k (h.p.lt hk) (ha k (.inl hk)), h.r.same fun k cur T hor hty hc => ?_, h.tie⟩
  · exact (hg.block _ (lt_of_row h.bd) (ht.notOwn h.bd (by decide) (by decide) (by decide) (by decide) (by unfold dTy; decide))).trans h.bd
  · refine hg.block k (lt_heap hc) ?_
    rcases hor with hor | hor
    · exact ha k (.inr hor)
    · subst hor
      rintro (ho | ho)
      · exact ht.p.notD hty hc ho
      · obtain ⟨nv, sv, hi⟩ := ht.r.is
        rcases ho with e | e | e
        · exact type_ne hc hi.blk (by decide) e
        · exact type_ne hc (ht.r.nds k e) (by decide) rfl
        · obtain ⟨cur2, hc2⟩ := own_obj hi.chg k e
          exact type_ne hc hc2 (by decide) rfl
/-- First the program's call, then the document's, with the same answer; behind them they hold the same. -/
def TCalls (fP : Nat) (aP : Array Value) (fR : Nat) (aR : Array Value) (t : Tw) (w : World) (n B : Nat) : Prop :=
  Calls Tryz.prog fP aP w fun e w1 => ∃ k, e = .returned (.int .i64 k) ∧ Gr t.own w w1 ∧ Calls Tryz.prog fR aR w1 fun e w2 => e = .returned (.int .i64 k) ∧ ∃ t', TGo t t' w w2 ∧ TB t'.r n B
theorem tie2 {t : Tw} {w : World} {fP fR : Nat} {aP aR : Array Value} {k : Int} {P : PSt → Prop} {D : DSt → Prop} {n B B' : Nat} (h : t.In w) (hb : TB t.r n B) (hB : B ≤ B')
    (hp : Calls Tryz.prog fP aP w (WRet t.s w k P)) (hr : ∀ w1, t.r.In w1 → Calls Tryz.prog fR aR w1 (DRet t.r w1 k D))
    (hk : k = 0 → ∀ s1 r1, P s1 → D r1 → ∃ φ1, Tie s1 r1 φ1 ∧ TB r1 (n + 1) B') : TCalls fP aP fR aR t w (n + 1) B' := by
  refine hp.mono ?_
  rintro _ w1 ⟨rfl, hbad, hok⟩
  obtain ⟨s1, hgo, h0, h1⟩ : ∃ s1, PGo t.s s1 w w1 ∧ (k = 0 → P s1) ∧ (k ≠ 0 → s1 = t.s) := by
    by_cases e : k = 0
    · obtain ⟨s1, h1, h2⟩ := hok e
      exact ⟨s1, h1, fun _ => h2, fun h => absurd e h⟩
    · exact ⟨t.s, PGo.refl h.p (hbad e), fun h => absurd h e, fun _ => rfl⟩
  have hr1 : t.r.In w1 := h.r.frame h.p hgo.gr
  refine ⟨k, rfl, hgo.gr.mono fun q _ hq => .inl hq, (hr w1 hr1).mono ?_⟩
  rintro _ w2 ⟨rfl, hbad2, hok2⟩
  refine ⟨rfl, ?_⟩
  obtain ⟨r1, hgo2, h02, h12⟩ : ∃ r1, DGo t.r r1 w1 w2 ∧ (k = 0 → D r1) ∧ (k ≠ 0 → r1 = t.r) := by
    by_cases e : k = 0
    · obtain ⟨r1, h1, h2⟩ := hok2 e
      exact ⟨r1, h1, fun _ => h2, fun h => absurd e h⟩
    · exact ⟨t.r, DGo.refl hr1 (hbad2 e), fun h => absurd h e, fun _ => rfl⟩
  obtain ⟨φ1, ht1, htb⟩ : ∃ φ1, Tie s1 r1 φ1 ∧ TB r1 (n + 1) B' := by
    by_cases e : k = 0
    · exact hk e s1 r1 (h0 e) (h02 e)
    · rw [h1 e, h12 e]; exact ⟨t.φ, h.tie, hb.mono (Nat.le_succ _) hB⟩
  have hd1 : BD w1 t.d t.s.b := (hgo.gr.block _ (lt_of_row h.bd) (h.p.notOwn h.bd (by decide) (by decide) (by decide) (by decide))).trans h.bd
  have hd2 : BD w2 t.d t.s.b := by
    refine (hgo2.gr.block _ (lt_of_row hd1) (fun ho => ?_)).trans hd1
    obtain ⟨_, T2, ht, hc⟩ := hr1.ty ho
    exact type_ne hd1 hc (fun e => by rw [← e] at ht; revert ht; unfold dTy; decide) rfl
  refine ⟨⟨t.d, s1, r1, φ1⟩, ⟨rfl, hgo2.b, ⟨by rw [hgo.b]; exact hd2, hgo.inn.frame hr1 hgo2.gr, hgo2.inn, ht1⟩, ⟨hgo2.gr.os.trans hgo.gr.os, hgo2.gr.tape.trans hgo.gr.tape, hgo2.gr.output.trans hgo.gr.output, Nat.le_trans hgo.gr.size hgo2.gr.size, fun q hq hn => ?_⟩, fun q hq => ?_⟩, htb⟩
  · exact (hgo2.gr.block q (Nat.lt_of_lt_of_le hq hgo.gr.size) (fun e => hn (.inr e))).trans (hgo.gr.block q hq (fun e => hn (.inl e)))
  · rcases hq with hq | hq
    · exact (hgo.own q hq).imp .inl id
    · exact (hgo2.own q hq).imp .inr (Nat.le_trans hgo.gr.size)
end Go.Proofs.YtjipdjkcdoajbaaGreatDoor

/-
  PROVED HERE: the calls that write on disks: the program's and the document's have the same answer, and behind them the two disks hold the same; no walk.
-/
namespace Go.Proofs.YtjipdjkcdoajbaaGreatDoor
open Go.RowKit
theorem usedE_mul {nd : Nat → ByteArray × Int} {B : Nat} : ∀ {l : List DE}, (∀ e ∈ l, (nd e.blk).1.size ≤ B) → usedE nd l ≤ l.length * B
  | [], _ => Nat.zero_le _
  | e :: es, h => by
    unfold usedE
    have h1 := h e (by simp)
    have h2 := usedE_mul (l := es) (fun x hx => h x (by simp [hx]))
    rw [List.length_cons, Nat.succ_mul]
    omega
theorem mul_small {n B : Nat} (h : n + B ≤ 1048576) : n * B ≤ 1000000000000 := by
  by_cases hn : n ≤ 524288
  · exact Nat.le_trans (Nat.mul_le_mul hn (show B ≤ 1048576 by omega)) (by decide)
  · exact Nat.le_trans (Nat.mul_le_mul (show n ≤ 1048576 by omega) (show B ≤ 524288 by omega)) (by decide)
theorem TB.now {r : DSt} {n B : Nat} (h : TB r n B) (hi : Inv r.R) : r.R.now.length ≤ n := by
  have := goE_le r.R.chg r.R.safe
  rw [← hi.go] at this
  have := h.len
  omega
theorem TB.fits {r : DSt} {n B : Nat} {w : World} (h : TB r n B) (hi : Inv r.R) (hr : r.In w) (hn : n + B ≤ 1048576) : Fits r.R r.nd r.ns := by
  have hl := h.len
  have hw := h.now hi
  have hc := h.c1
  refine ⟨by omega, by omega, by omega, h.c0, by omega, h.l0, h.l1, h.r0, h.r1, ?_, fun b hb => ⟨by have := (h.dat b hb).1; omega, (h.dat b hb).2⟩⟩
  have h1 := usedE_mul (nd := r.nd) (B := B) (l := r.R.now) (fun e he => (h.dat _ (hr.inow e he)).1)
  exact Nat.le_trans h1 (Nat.le_trans (Nat.mul_le_mul hw (Nat.le_refl _)) (mul_small hn))
theorem Tie.cnt {s : PSt} {r : DSt} {φ : Nat → Nat} (h : Tie s r φ) {n B : Nat} (hb : TB r n B) (hn : n + B ≤ 1048576) : Cnt4 s.R := by
  rw [h.eqR]
  exact ⟨hb.c0, by have := hb.c1; show r.R.count < _; omega, hb.l0, hb.l1⟩
theorem Tie.pfit {s : PSt} {r : DSt} {φ : Nat → Nat} (h : Tie s r φ) {n B : Nat} (hb : TB r n B) (hn : n + B ≤ 1048576) : PFit s.R := by
  rw [h.eqR]
  have h1 := hb.now h.inv
  have h2 := hb.len
  exact ⟨by show (r.R.now.map _).length ≤ _; rw [List.length_map]; omega, by show (r.R.chg.map _).length ≤ _; rw [List.length_map]; omega⟩
theorem Tie.find {s : PSt} {r : DSt} {φ : Nat → Nat} (h : Tie s r φ) (p : ByteArray) : findE p s.R.now = (findE p r.R.now).map φ := by
  rw [h.eqR]; exact findE_mv φ p _
theorem Tie.used {s : PSt} {r : DSt} {φ : Nat → Nat} (h : Tie s r φ) {w : World} (hr : r.In w) : usedE s.fd s.R.now = usedE r.nd r.R.now := by
  rw [h.eqR]; exact usedE_mv φ r.nd s.fd _ (fun e he => h.dat _ (hr.inow e he))
theorem findE_in {r : DSt} {w : World} (h : r.In w) {p : ByteArray} {nb : Nat} (hf : findE p r.R.now = some nb) : nb ∈ r.ns := by
  have : ∀ l : List DE, findE p l = some nb → ∃ e ∈ l, e.blk = nb := by
    intro l
    induction l with
    | nil => intro h; cases h
    | cons x xs ih =>
      intro h
      unfold findE at h
      split at h
      · exact ⟨x, by simp, by injection h⟩
      · obtain ⟨e, he, hb⟩ := ih h
        exact ⟨e, by simp [he], hb⟩
  obtain ⟨e, he, hb⟩ := this _ hf
  rw [← hb]
  exact h.inow e he
theorem DRet.bad {r : DSt} {w w' : World} {k : Int} {D : DSt → Prop} {e : Ending} (hk : k ≠ 0) (h : e = .returned (.int .i64 k) ∧ Below w.heap.size w w') : DRet r w k D e w' := ⟨h.1, fun _ => h.2, fun h => absurd h hk⟩
theorem DRet.same {r : DSt} {w w' : World} {e : Ending} (hr : r.In w) (h : e = .returned (.int .i64 0) ∧ Below w.heap.size w w') : DRet r w 0 (fun r1 => r1 = r) e w' := ⟨h.1, fun _ => h.2, fun _ => ⟨r, DGo.refl hr h.2, rfl⟩⟩
theorem DRet.go {r : DSt} {w w' : World} {e : Ending} {R' : RDk} {nd' : Nat → ByteArray × Int} {ns' : List Nat} {cv' : Value} (he : e = .returned (.int .i64 0)) (h : RDN w' r.b R' nd' ns' cv') (hg : Gr r.own w w') (hns : ∀ k ∈ ns', k ∈ r.ns ∨ w.heap.size ≤ k) (hcv : NewOr w r.cv cv') :
    DRet r w 0 (fun r1 => r1.R = R' ∧ r1.nd = nd' ∧ r1.ns = ns') e w' := by
  refine ⟨he, fun h => absurd rfl h, fun _ => ⟨⟨r.b, R', nd', ns', cv'⟩, ⟨rfl, h, hg, fun k hk => ?_⟩, rfl, rfl, rfl⟩⟩
  rcases hk with e | e | e
  · exact .inl (.inl e)
  · exact (hns k e).imp (fun h => .inr (.inl h)) id
  · rcases hcv with h1 | h1
    · exact .inl (.inr (.inr (by rw [← h1]; exact e)))
    · exact .inr (h1 k e)
theorem NewOr.self (w : World) (v : Value) : NewOr w v v := .inl rfl
theorem NewOr.nil (w : World) (v : Value) (n c : Nat) : NewOr w v (.slice none n c) := .inr (fun k e => by cases e)
/-- A file's bytes were written on both sides. -/
theorem Tie.set {s s1 : PSt} {r r1 : DSt} {φ : Nat → Nat} (h : Tie s r φ) {nb : Nat} (hm : nb ∈ r.ns) {R' : RDk} {x : ByteArray × Int} (hs : s1.R = R'.mv φ ∧ s1.fs = s.fs ∧ s1.fd = setNd s.fd (φ nb) x) (hr : r1.R = R' ∧ r1.nd = setNd r.nd nb x ∧ r1.ns = r.ns) (hi : Inv R') : Tie s1 r1 φ := by
  obtain ⟨a1, a2, a3⟩ := hs
  obtain ⟨b1, b2, b3⟩ := hr
  refine ⟨by rw [a1, b1], fun k hk => ?_, fun k hk => by rw [a2]; rw [b3] at hk; exact h.inn k hk, by rw [b3]; exact h.inj, by rw [a2, b3]; exact h.sur, by rw [b1]; exact hi⟩
  rw [b3] at hk
  rw [a3, b2]
  unfold setNd
  by_cases e : k = nb
  · rw [e]; simp
  · rw [if_neg e, if_neg (fun e2 => e (h.inj k hk nb hm e2))]
    exact h.dat k hk
/-- The paths were changed on both sides. -/
theorem Tie.paths {s s1 : PSt} {r r1 : DSt} {φ : Nat → Nat} (h : Tie s r φ) {R' : RDk} (hs : s1.R = R'.mv φ ∧ s1.fs = s.fs ∧ s1.fd = s.fd) (hr : r1.R = R' ∧ r1.nd = r.nd ∧ r1.ns = r.ns) (hi : Inv R') : Tie s1 r1 φ := by
  obtain ⟨a1, a2, a3⟩ := hs
  obtain ⟨b1, b2, b3⟩ := hr
  exact ⟨by rw [a1, b1], by rw [a3, b2, b3]; exact h.dat, by rw [a2, b3]; exact h.inn, by rw [b3]; exact h.inj, by rw [a2, b3]; exact h.sur, by rw [b1]; exact hi⟩
/-- A file is new on both sides. -/
theorem Tie.add {s s1 : PSt} {r r1 : DSt} {φ : Nat → Nat} (h : Tie s r φ) {nb F : Nat} (hn : nb ∉ r.ns) (hF : F ∉ s.fs) {R' : RDk} {x : ByteArray × Int} (hs : s1.R = R'.mv (fun k => if k = nb then F else φ k) ∧ s1.fs = F :: s.fs ∧ s1.fd = setNd s.fd F x) (hr : r1.R = R' ∧ r1.nd = setNd r.nd nb x ∧ r1.ns = nb :: r.ns) (hi : Inv R') : Tie s1 r1 (fun k => if k = nb then F else φ k) := by
  obtain ⟨a1, a2, a3⟩ := hs
  obtain ⟨b1, b2, b3⟩ := hr
  have hne : ∀ k ∈ r.ns, k ≠ nb := fun k hk e => hn (by rw [← e]; exact hk)
  have hF2 : ∀ k ∈ r.ns, φ k ≠ F := fun k hk e => hF (by rw [← e]; exact h.inn k hk)
  refine ⟨by rw [a1, b1], fun k hk => ?_, fun k hk => ?_, fun a ha b hb e => ?_, fun f hf => ?_, by rw [b1]; exact hi⟩
  · rw [b3] at hk
    rw [a3, b2]
    rcases List.mem_cons.1 hk with e | hk
    · subst e; simp [setNd]
    · simp only [setNd, hne k hk, hF2 k hk, if_false]; exact h.dat k hk
  · rw [b3] at hk
    rw [a2]
    rcases List.mem_cons.1 hk with e | hk
    · simp [e]
    · simp only [hne k hk, if_false]; exact List.mem_cons_of_mem _ (h.inn k hk)
  · rw [b3] at ha hb
    rcases List.mem_cons.1 ha with ea | ha
    · rcases List.mem_cons.1 hb with eb | hb
      · rw [ea, eb]
      · simp only [ea, if_true, hne b hb, if_false] at e
        exact absurd e.symm (hF2 b hb)
    · rcases List.mem_cons.1 hb with eb | hb
      · simp only [eb, if_true, hne a ha, if_false] at e
        exact absurd e (hF2 a ha)
      · simp only [hne a ha, hne b hb, if_false] at e
        exact h.inj a ha b hb e
  · rw [a2] at hf
    rw [b3]
    rcases List.mem_cons.1 hf with e | hf
    · exact ⟨nb, List.mem_cons_self, by simp [e]⟩
    · obtain ⟨k, hk, e⟩ := h.sur f hf
      exact ⟨k, List.mem_cons_of_mem _ hk, by simp only [hne k hk, if_false]; exact e⟩
/-- What a step counts. -/
theorem TB.step {r r1 : DSt} {n B : Nat} (h : TB r n B) (hR : r1.R = r.R.wrote) (hd : ∀ k ∈ r1.ns, (r1.nd k).1.size ≤ B ∧ 0 ≤ (r1.nd k).2 ∧ (r1.nd k).2 ≤ ((r1.nd k).1.size : Int)) : TB r1 (n + 1) B := by
  have h1 := h.len; have h2 := h.c0; have h3 := h.c1; have h4 := h.l0; have h5 := h.l1
  refine ⟨?_, ?_, ?_, ?_, ?_, ?_, ?_, hd, ?_⟩
  · rw [hR]; exact Nat.le_succ_of_le h1
  · rw [hR]; show 0 ≤ r.R.count + 1; omega
  · rw [hR]; show r.R.count + 1 ≤ _; omega
  · rw [hR]; show -1 ≤ (if 0 < r.R.left then r.R.left - 1 else r.R.left); split <;> omega
  · rw [hR]; show (if 0 < r.R.left then r.R.left - 1 else r.R.left) ≤ _; split <;> omega
  · rw [hR]; exact h.r0
  · rw [hR]; exact h.r1
  · rw [hR]; exact h.chf
theorem tSync (t : Tw) (p : ByteArray) (w : World) {n B : Nat} (h : t.In w) (hb : TB t.r n B) (hn : n + B ≤ 1048576) (hp : p.size ≤ 9223372036854775807) (hg : w.cell? ⟨0, 0, none⟩ = some errT) :
    TCalls 32 #[.pointer (some ⟨t.d, 0, none⟩), .string p] 33 #[.pointer (some ⟨t.r.b, 0, none⟩), .string p] t w (n + 1) B := by
  have hpd := pdSync t.s p w h.p hp (h.tie.cnt hb hn)
  have hrd := fun w1 (h1 : t.r.In w1) => sync_any t.r.b t.r.R t.r.nd t.r.ns t.r.cv p w1 h1 (hb.fits h.tie.inv h1 hn) hp
  have hleft : t.s.R.left = t.r.R.left := by rw [h.tie.eqR]; rfl
  have hfind := h.tie.find p
  cases hpp : isPathB p with
  | false => exact tie2 (k := 2) (P := fun _ => True) (D := fun _ => True) h hb (Nat.le_refl _) (wSync t.s t.d p w 2 _ h.bd hg (hpd.mono fun e w' ⟨v, he, h1, _⟩ => ⟨v, he, h1 hpp⟩)) (fun w1 h1 => (hrd w1 h1).mono fun e w' hh => DRet.bad (by decide) (hh.1 hpp)) (fun h => absurd h (by decide))
  | true =>
    by_cases hl : t.r.R.left = 0
    · exact tie2 (k := 0) (P := fun s1 => s1 = t.s) (D := fun r1 => r1 = t.r) h hb (Nat.le_refl _) (wSync t.s t.d p w 0 _ h.bd hg (hpd.mono fun e w' ⟨v, he, _, h1, _⟩ => ⟨v, he, h1 hpp (by rw [hleft]; exact hl)⟩)) (fun w1 h1 => (hrd w1 h1).mono fun e w' hh => DRet.same h1 (hh.2.1 hpp hl)) (fun _ s1 r1 hs hr => ⟨t.φ, by rw [hs, hr]; exact h.tie, by rw [hr]; exact hb.mono (Nat.le_succ _) (Nat.le_refl _)⟩)
    · cases hfo : findE p t.r.R.now with
      | none =>
        rw [hfo] at hfind
        exact tie2 (k := 3) (P := fun _ => True) (D := fun _ => True) h hb (Nat.le_refl _) (wSync t.s t.d p w 3 _ h.bd hg (hpd.mono fun e w' ⟨v, he, _, _, h1, _⟩ => ⟨v, he, h1 hpp (by rw [hleft]; exact hl) hfind⟩)) (fun w1 h1 => (hrd w1 h1).mono fun e w' hh => DRet.bad (by decide) (hh.2.2.1 hpp hl hfo)) (fun h => absurd h (by decide))
      | some nb =>
        rw [hfo] at hfind
        have hm := findE_in h.r hfo
        refine tie2 (k := 0) (P := fun s1 => s1.R = t.s.R.wrote ∧ s1.fs = t.s.fs ∧ s1.fd = setNd t.s.fd (t.φ nb) ((t.s.fd (t.φ nb)).1, ((t.s.fd (t.φ nb)).1.size : Int))) (D := fun r1 => r1.R = t.r.R.wrote ∧ r1.nd = setNd t.r.nd nb ((t.r.nd nb).1, ((t.r.nd nb).1.size : Int)) ∧ r1.ns = t.r.ns) h hb (Nat.le_refl _) (wSync t.s t.d p w 0 _ h.bd hg (hpd.mono fun e w' ⟨v, he, _, _, _, h1⟩ => ⟨v, he, h1 _ hpp (by rw [hleft]; exact hl) hfind⟩)) (fun w1 h1 => (hrd w1 h1).mono fun e w' hh => ?_) (fun _ s1 r1 hs hr => ⟨t.φ, h.tie.set hm ⟨by rw [hs.1, h.tie.eqR]; rfl, hs.2.1, by rw [hs.2.2, h.tie.dat nb hm]⟩ hr h.tie.inv.wrote, hb.step hr.1 ?_⟩)
        · obtain ⟨h1, h2, h3⟩ := hh.2.2.2 nb hpp hl hfo
          exact DRet.go h1 h2 (h3.mono fun k _ hk => hk.imp id .inl) (fun k hk => .inl hk) (NewOr.self _ _)
        · intro k hk
          rw [hr.2.2] at hk
          rw [hr.2.1]
          have h1 := hb.dat k hk
          have h2 := hb.dat nb hm
          unfold setNd
          split
          · exact ⟨h2.1, by dsimp only; omega, by dsimp only; omega⟩
          · exact h1
end Go.Proofs.YtjipdjkcdoajbaaGreatDoor
