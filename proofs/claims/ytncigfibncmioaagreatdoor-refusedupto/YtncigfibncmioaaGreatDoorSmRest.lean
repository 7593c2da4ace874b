/-
  PROVED HERE: what Tags of the program's store answers, of no tag and of one.
-/
import Derived.Test.YtncigfibncmioaaGreatDoorBmFind
import Derived.Test.YtncigfibncmioaaGreatDoorTagsOf
import Derived.Test.YtncigfibncmioaaGreatDoorStTags
import Derived.Test.YtncigfibncmioaaGreatDoorDkPath
import Derived.Deep.RegionHeld3
import Derived.Test.YtncigfibncmioaaGreatDoorKPick
import Derived.Test.YtncigfibncmioaaGreatDoorSmKey
namespace Go.Proofs.YtncigfibncmioaaGreatDoor
open Go.RowKit Go.MuLone Go.Shelf Go.Maps Go.Sort
theorem own_lock {w : World} {xb sb B size n : Nat} {e : TypeId} {v u : Value} {xs : List Value} {m : Int} (h : w.ownsRow B e size v n xs) (hx : BLk w xb sb m) (he : e ≠ 108) : (w.setCell ⟨xb, 0, none⟩ u).ownsRow B e size v n xs := by
  obtain ⟨hlen, h2⟩ := h
  refine ⟨hlen, ?_⟩
  rcases h2 with h2 | ⟨g, cap, cur, rfl, h3, hg, h4⟩
  · exact .inl h2
  · exact .inr ⟨g, cap, cur, rfl, h3, (heap_setCell_other _ _ _ _ (by simpa using type_ne hg hx he)).trans hg, h4⟩
structure TgsOf (D : DataW Value) (l : List Tg) : Prop where
  all : AllE D
  few : (strKeys D).length ≤ 1
  is : ∀ xs, AllV D xs → xs.flatMap EV.cs = l.flatMap Tg.ecells ∧ xs.length = l.length
end Go.Proofs.YtncigfibncmioaaGreatDoor

/-
  PROVED HERE: what Digests of a store gives where it has no content: no digest.
-/
namespace Go.Proofs.YtncigfibncmioaaGreatDoor
open Go.RowKit Go.Shelf Go.Maps Go.Sort
attribute [local go_sem] Oper.semAt_some
theorem keys_in (F : Fence) (n : Nat) (hf : F.fn 105) (hro : F.round = none) (mb : Option Nat) (w : World) :
    CallsIn F n Tryz.prog 105 #[.map mb] w fun e w' => e = .returned (.func (.func 161) #[] #[.pointer (some ⟨w.heap.size, 0, none⟩)]) ∧ w' = w.alloc (.cells #[.map mb] 156) := by
  refine callsIn_of_wp Tryz.func105 rfl hf ?_ hro
  simp only [Tryz.ntmps105, List.size_toArray, List.length_cons, List.length_nil, Nat.reduceAdd, Nat.reduceSub, Array.replicate_succ, Array.replicate_zero, List.push_toArray, List.append_toArray, List.nil_append, List.cons_append]
  gi_wp2
  go_ret
  exact ⟨rfl, rfl⟩
end Go.Proofs.YtncigfibncmioaaGreatDoor

/-
  PROVED HERE: Break, Crash, Copy and NewDisk of the program, over Early's disks.
-/
namespace Go.Proofs.YtncigfibncmioaaGreatDoor
open Go.RowKit
structure DkW (w : World) (d : Nat) (s : PSt) : Prop where
  inn : s.In w
  bd : BD w d s.b
  gl : Gl w
  low : LowS s
theorem DkW.go {w w' : World} {d : Nat} {s s' : PSt} (h : DkW w d s) (hg : PGo s s' w w') : DkW w' d s' := by
  obtain ⟨g1, g2⟩ := h.gl.go h.low hg
  refine ⟨hg.inn, ?_, g1, g2⟩
  unfold BD
  rw [hg.b]
  exact hg.keeps h.inn h.bd (by decide) (by decide) (by decide) (by decide)
theorem DkW.later {w w' : World} {d : Nat} {s : PSt} (h : DkW w d s) (hb : Below w.heap.size w w') : DkW w' d s := h.go (PGo.refl h.inn hb)
theorem find_mem : ∀ {l : List DE}, Rise l → ∀ e ∈ l, findE e.path l = some e.blk
  | [], _, e, he => by cases he
  | a :: l, hr, e, he => by
    have h1 := List.pairwise_cons.1 hr
    show (if a.path = e.path then some a.blk else findE e.path l) = _
    rcases List.mem_cons.1 he with rfl | he
    · rw [if_pos rfl]
    · rw [if_neg (less_ne (h1.1 e he))]
      exact find_mem h1.2 e he
end Go.Proofs.YtncigfibncmioaaGreatDoor

/-
  PROVED HERE: what reopened of the statement does: a disk that breaks and crashes while it is opened, and its copy, opened.
-/
namespace Go.Proofs.YtncigfibncmioaaGreatDoor
open Go.RowKit
theorem DFit.dat36 {D : DS} {L C B : Nat} (h : DFit D L C B) (hd : ∀ f ∈ D.fs, FitB 36 (D.fd f)) : DFit D L C 36 := ⟨h.len, h.c0, h.c1, h.l0, h.l1, h.r0, h.r1, hd, h.chf, h.inv, h.inow, h.isafe, h.ichg, h.rise⟩
theorem open_fit {D D' : DS} {k : Int} {C : Nat} (h : Er D) (hr : 36 ≤ D.R.room) (hf : DFit D 6 C 36) (hb : OpR D k D') : DFit D' 30 (C + 30) 36 := by
  obtain ⟨rfl, _, ea, _⟩ := open_pure h hr hb
  have hnl := hf.nowLen
  have hrl := rmS_len (fun _ => true) D.R.now
  have hrf := rmS_len foreignB D.R.now
  rcases hb with ⟨_, h2⟩ | ⟨_, h2⟩
  · rcases h2 with ⟨_, h2, _⟩ | ⟨_, k1, m, D1, h3, h4⟩
    · exact absurd rfl h2
    · have f1 := hf.ran h3
      rcases h4 with ⟨h4, h5, _⟩ | ⟨_, m2, D2, h5, h6⟩
      · exact absurd h5.symm h4
      · have f2 := f1.ran h5
        rcases h6 with ⟨_, rfl⟩ | ⟨h6, _⟩
        · have hw : (wrS beginFl).length = 10 := by rw [wrS_begin]; rfl
          rw [hw] at f2
          exact (f2.dat36 ea.dat).mono (by omega) (by omega) (Nat.le_refl _)
        · exact absurd rfl h6
  · obtain ⟨k1, m, D1, h3, h4⟩ := h2
    have f1 := hf.ran h3
    rcases h4 with ⟨h4, h5, _⟩ | ⟨_, h5⟩
    · exact absurd h5.symm h4
    · have f2 := f1.st h5
      exact (f2.dat36 ea.dat).mono (by omega) (by omega) (Nat.le_refl _)
theorem PGo.low {N : Nat} {s s' : PSt} {w w' : World} (hg : PGo s s' w w') (ho : ∀ k, s.own k → N ≤ k) (hN : N ≤ w.heap.size) : Below N w w' := ⟨hg.gr.os, hg.gr.tape, hg.gr.output, hg.gr.size, fun k hk => hg.gr.block k (by omega) (fun e => by have := ho k e; omega)⟩
theorem PGo.ownN {N : Nat} {s s' : PSt} {w w' : World} (hg : PGo s s' w w') (ho : ∀ k, s.own k → N ≤ k) (hN : N ≤ w.heap.size) : ∀ k, s'.own k → N ≤ k := fun k hk => (hg.own k hk).elim (ho k) (fun e => by omega)
theorem Er.paths {D : DS} (h : Er D) : ∀ e ∈ D.R.now, e.path.size ≤ 9223372036854775807 := fun e he => by
  have h1 := h.ea.six 0 e
  rw [List.take_zero] at h1
  rw [h.now] at he
  have h2 := six_path (h1 he)
  simp only [isPathB, Bool.and_eq_true, decide_eq_true_eq] at h2
  omega
theorem cell_low2 {N g o : Nat} {w w' : World} {u : Value} (hb : Below N w w') (hg : g < N) (h : w.cell? ⟨g, o, none⟩ = some u) : w'.cell? ⟨g, o, none⟩ = some u := (World.cell?_of_block (a := ⟨g, o, none⟩) (hb.block g hg)).trans h
theorem KAt.low {N : Nat} {w w' : World} {kv : Value} {ks : List Int} (h : KAt (fun k => N ≤ k) w kv ks) (hb : Below N w w') : KAt (fun k => N ≤ k) w' kv ks := by
  obtain ⟨oa, c, e, hk⟩ := h
  refine ⟨oa, c, e, fun j hj => ?_⟩
  obtain ⟨g, o, e2, hn, hc⟩ := hk j hj
  exact ⟨g, o, e2, hn, cell_low2 hb (by omega) hc⟩
structure FallV where
  n : Int
  paths : Int
  kv : Value
  ks : List Int
def fall0 : FallV := ⟨0, 0, .slice none 0 0, []⟩
def FallV.ok (f : FallV) : Prop := -9223372036854775808 ≤ f.n ∧ f.n ≤ 9223372036854775807
def FallsAt (N : Nat) (w : World) (oa : Option Addr) (l : List FallV) : Prop := ∀ i, i < l.length → ∃ g o, oa = some ⟨g, o, none⟩ ∧ g < N ∧ w.cell? ⟨g, o + i * 3, none⟩ = some (.int .i64 (l.getD i fall0).n) ∧ w.cell? ⟨g, o + i * 3 + 1, none⟩ = some (.int .i64 (l.getD i fall0).paths) ∧ w.cell? ⟨g, o + i * 3 + 2, none⟩ = some (l.getD i fall0).kv ∧ KAt (fun k => N ≤ k) w (l.getD i fall0).kv (l.getD i fall0).ks ∧ (l.getD i fall0).ok
theorem FallsAt.low {N : Nat} {w w' : World} {oa : Option Addr} {l : List FallV} (h : FallsAt N w oa l) (hs : ∀ k, k < N → w'.heap[k]? = w.heap[k]?) : FallsAt N w' oa l := fun i hi => by
  obtain ⟨g, o, e, hg, c0, c1, c2, ⟨oa2, c, e2, hk⟩, hok⟩ := h i hi
  refine ⟨g, o, e, hg, (World.cell?_of_block (hs g hg)).trans c0, (World.cell?_of_block (hs g hg)).trans c1, (World.cell?_of_block (hs g hg)).trans c2, ⟨oa2, c, e2, fun j hj => ?_⟩, hok⟩
  obtain ⟨g2, o2, e3, hn, hc⟩ := hk j hj
  exact ⟨g2, o2, e3, hn, (World.cell?_of_block (hs g2 (by omega))).trans hc⟩
structure Rp (N : Nat) (w : World) (d : Nat) (s : PSt) (C : Nat) : Prop where
  dk : DkW w d s
  own : ∀ k, s.own k → N ≤ k
  er : Er s.ds
  fit : DFit s.ds 6 C 36
  left : s.R.left = -1
  room : 1000000 ≤ s.R.room
end Go.Proofs.YtncigfibncmioaaGreatDoor

/-
  PROVED HERE: what Publish leaves on the disk of an empty store at rest; no walk.
-/
namespace Go.Proofs.YtncigfibncmioaaGreatDoor
open Go.RowKit
theorem Ran.step {D D' : DS} {t : Stp} {l : List Stp} {k : Int} {n : Nat} (P : DS → Prop) (h : Ran D (t :: l) k n D') (he : ∀ k1 X, stR D t k1 X → k1 = 0 ∧ P X) : ∃ D1 m, P D1 ∧ Ran D1 l k m D' := by
  obtain ⟨k1, D1, h1, h2⟩ := h
  obtain ⟨rfl, hP⟩ := he k1 D1 h1
  rcases h2 with ⟨h2, _⟩ | ⟨_, m, _, h3⟩
  · exact absurd rfl h2
  · exact ⟨D1, m, hP, h3⟩
theorem cP_size (ds : List Nat) : (cPath ds).size = 70 := by
  unfold cPath
  rw [bytes_size, List.length_append, Sha.textTo_len]
  rfl
theorem cP_path (ds : List Nat) : isPathB (cPath ds) = true := by
  simp [isPathB, cP_size]
theorem cP_data (ds : List Nat) : (cPath ds).data.toList = 98 :: 108 :: (([111, 98, 115, 47] : List UInt8) ++ Sha.textTo ds 32) := by
  unfold cPath
  rfl
theorem cP_index (ds : List Nat) : lessB (cPath ds) indexP = true := by rw [less_eq, cP_data]; rfl
theorem cP_journal (ds : List Nat) : lessB (cPath ds) journalP = true := by rw [less_eq, cP_data]; rfl
theorem cP_layout (ds : List Nat) : lessB (cPath ds) layoutP = true := by rw [less_eq, cP_data]; rfl
structure P4 (D X : DS) (l : List DE) (a i x z : Nat) (da di : ByteArray × Int) : Prop where
  left : X.R.left = -1
  room : X.R.room = D.R.room
  now : X.R.now = l
  fa : X.fd a = da
  fi : X.fd i = di
  fx : X.fd x = (⟨#[]⟩, 0)
  fz : X.fd z = (layoutT, 13)
end Go.Proofs.YtncigfibncmioaaGreatDoor

/-
  PROVED HERE: a whole disk's steps, as lists of files; no walk.
-/
namespace Go.Proofs.YtncigfibncmioaaGreatDoor
open Go.RowKit
structure FF where
  p : ByteArray
  t : ByteArray
  y : Int
def vwE (fd : Nat → ByteArray × Int) (e : DE) : FF := ⟨e.path, (fd e.blk).1, (fd e.blk).2⟩
def vwL (D : DS) : List FF := D.R.now.map (vwE D.fd)
def sumF (F : List FF) : Nat := (F.map fun x => x.t.size).sum
structure Wh (D : DS) (F : List FF) (r : Int) (B : Nat) : Prop where
  vw : vwL D = F
  left : D.R.left = -1
  room : D.R.room = r
  inj : ∀ e ∈ D.R.now, ∀ e' ∈ D.R.now, e.blk = e'.blk → e = e'
  inn : ∀ e ∈ D.R.now, e.blk ∈ D.fs
  isafe : ∀ e ∈ D.R.safe, e.blk ∈ D.fs
  ichg : ∀ c ∈ D.R.chg, c.blk ∈ D.fs
  inv : Inv D.R
  rise : Rise D.R.safe
  dat : ∀ f ∈ D.fs, FitB B (D.fd f)
  chf : ChFit D.R.chg
theorem usedE_vw (fd : Nat → ByteArray × Int) : ∀ l : List DE, usedE fd l = sumF (l.map (vwE fd))
  | [] => rfl
  | e :: es => by
    show _ = ((vwE fd e :: es.map (vwE fd)).map fun x => x.t.size).sum
    unfold usedE
    rw [usedE_vw fd es]
    simp [sumF, vwE]
theorem Wh.used {D : DS} {F : List FF} {r : Int} {B : Nat} (h : Wh D F r B) : usedE D.fd D.R.now = sumF F := by rw [usedE_vw, ← h.vw]; rfl
theorem Wh.riseN {D : DS} {F : List FF} {r : Int} {B : Nat} (h : Wh D F r B) : Rise D.R.now := by
  have := go_rise D.R.chg h.rise
  rwa [← h.inv.go] at this
theorem Wh.riseF {D : DS} {F : List FF} {r : Int} {B : Nat} (h : Wh D F r B) : RiseK FF.p F := by
  rw [← h.vw]
  unfold vwL RiseK
  rw [List.pairwise_map]
  exact h.riseN
theorem findK_vw (fd : Nat → ByteArray × Int) (p : ByteArray) : ∀ l : List DE, findK FF.p p (l.map (vwE fd)) = (findE p l).map fun g => ⟨p, (fd g).1, (fd g).2⟩
  | [] => rfl
  | e :: es => by
    rw [List.map_cons, findK_cons, findK_vw fd p es]
    show _ = (if e.path = p then some e.blk else findE p es).map _
    by_cases h : e.path = p
    · rw [if_pos (show (vwE fd e).p = p from h), if_pos h]
      subst h
      rfl
    · rw [if_neg (show ¬ (vwE fd e).p = p from h), if_neg h]
theorem Wh.look {D : DS} {F : List FF} {r : Int} {B : Nat} (h : Wh D F r B) (p : ByteArray) : findK FF.p p F = (findE p D.R.now).map fun g => ⟨p, (D.fd g).1, (D.fd g).2⟩ := by
  rw [← h.vw]
  exact findK_vw _ _ _
theorem Wh.find {D : DS} {F : List FF} {r : Int} {B : Nat} (h : Wh D F r B) {x : FF} (hx : x ∈ F) : ∃ g, findE x.p D.R.now = some g ∧ (D.fd g).1 = x.t ∧ (D.fd g).2 = x.y := by
  have := h.look x.p
  rw [findK_mem h.riseF hx] at this
  cases hf : findE x.p D.R.now with
  | none => rw [hf] at this; cases this
  | some g =>
    rw [hf] at this
    injection this with this
    exact ⟨g, rfl, by rw [this], by rw [this]⟩
theorem Wh.out {D : DS} {F : List FF} {r : Int} {B : Nat} (h : Wh D F r B) {p : ByteArray} (hp : findK FF.p p F = none) : findE p D.R.now = none := by
  have := h.look p
  rw [hp] at this
  cases hf : findE p D.R.now with
  | none => rfl
  | some g => rw [hf] at this; cases this
theorem Wh.ne {D : DS} {F : List FF} {r : Int} {B : Nat} (h : Wh D F r B) : findK FF.p ⟨#[]⟩ F = none := by
  rw [← h.vw]
  refine findK_out fun x hx => ?_
  obtain ⟨e, he, rfl⟩ := List.mem_map.1 hx
  exact h.inv.nowNe e he
theorem findE_in {p : ByteArray} {g : Nat} : ∀ {l : List DE}, findE p l = some g → (⟨p, g⟩ : DE) ∈ l
  | [], h => by cases h
  | e :: es, h => by
    unfold findE at h
    by_cases he : e.path = p
    · rw [if_pos he] at h
      injection h with h
      subst he h
      simp
    · rw [if_neg he] at h
      simp [findE_in h]
theorem in_findE {l : List DE} (hr : Rise l) {e : DE} (he : e ∈ l) : findE e.path l = some e.blk := by
  have h1 := findK_mem (key := FF.p) (l := l.map (vwE fun _ => (⟨#[]⟩, 0))) (by unfold RiseK; rw [List.pairwise_map]; exact hr) (List.mem_map_of_mem he)
  induction l with
  | nil => cases he
  | cons f fs ih =>
    obtain ⟨h2, h3⟩ := List.pairwise_cons.1 hr
    unfold findE
    rcases List.mem_cons.1 he with rfl | he
    · simp
    · have hne : f.path ≠ e.path := fun e1 => by have := h2 e he; rw [e1, less_irrefl] at this; cases this
      rw [if_neg hne]
      refine ih h3 he ?_
      rw [List.map_cons, findK_cons, if_neg (show ¬ (vwE _ f).p = (vwE _ e).p from hne)] at h1
      exact h1
theorem Wh.push {D : DS} {F G : List FF} {r : Int} {B : Nat} (h : Wh D F r B) {c : CH} {fs' : List Nat} {fd' : Nat → ByteArray × Int} (hr : RiseK FF.p G) (hG0 : findK FF.p ⟨#[]⟩ G = none)
    (hG : ∀ x, x ≠ ⟨#[]⟩ → findK FF.p x G = (if x = c.too then some c.blk else if x = c.frm then none else findE x D.R.now).map fun g => ⟨x, (fd' g).1, (fd' g).2⟩)
    (hfs : ∀ f ∈ D.fs, f ∈ fs') (hb : c.blk ∈ fs') (hd : ∀ f ∈ fs', FitB B (fd' f)) (hp : c.frm.size ≤ 1000000000 ∧ c.too.size ≤ 1000000000) (hi : c.too = ⟨#[]⟩ ∨ (∀ x, findE x D.R.now = some c.blk → x = c.frm)) :
    Wh ⟨RDk.wrote { D.R with now := applyE D.R.now c, chg := D.R.chg ++ [c] }, fs', fd'⟩ G r B := by
  have ha : applyE D.R.now c = afterE D.R.now c.frm c.too c.blk := applyE_after h.inv.nowNe c
  have hinv : Inv { D.R with now := applyE D.R.now c, chg := D.R.chg ++ [c] } := by
    have := h.inv.push c
    rw [← ha] at this
    exact this
  have hrN : Rise (applyE D.R.now c) := by rw [ha]; exact after_rise h.riseN _ _ _
  have hfind : ∀ x, x ≠ ⟨#[]⟩ → findE x (applyE D.R.now c) = if x = c.too then some c.blk else if x = c.frm then none else findE x D.R.now := fun x hx => by rw [ha]; exact after_find h.riseN _ _ _ hx
  have hmem : ∀ e ∈ applyE D.R.now c, e.path ≠ ⟨#[]⟩ ∧ ((e.path = c.too ∧ e.blk = c.blk) ∨ (e.path ≠ c.too ∧ e.path ≠ c.frm ∧ findE e.path D.R.now = some e.blk)) := by
    intro e he
    have hne : e.path ≠ ⟨#[]⟩ := hinv.nowNe e he
    have h1 := in_findE hrN he
    rw [hfind _ hne] at h1
    refine ⟨hne, ?_⟩
    by_cases h2 : e.path = c.too
    · rw [if_pos h2] at h1
      injection h1 with h1
      exact .inl ⟨h2, h1.symm⟩
    · rw [if_neg h2] at h1
      by_cases h3 : e.path = c.frm
      · rw [if_pos h3] at h1
        cases h1
      · rw [if_neg h3] at h1
        exact .inr ⟨h2, h3, h1⟩
  refine ⟨?_, wrote_whole h.left, h.room, ?_, ?_, fun e he => hfs _ (h.isafe e he), ?_, hinv.wrote, h.rise, hd, ?_⟩
  · refine riseK_ext (key := FF.p) (by unfold vwL RiseK; rw [List.pairwise_map]; exact hrN) hr (fun x => ?_)
    by_cases hx : x = ⟨#[]⟩
    · subst hx
      rw [hG0]
      refine findK_out fun y hy => ?_
      obtain ⟨e, he, rfl⟩ := List.mem_map.1 hy
      exact hinv.nowNe e he
    · rw [hG x hx, ← hfind x hx]
      exact findK_vw _ _ _
  · intro e he e' he' hbe
    obtain ⟨n1, m1⟩ := hmem e he
    obtain ⟨n2, m2⟩ := hmem e' he'
    have hpp : e.path = e'.path := by
      rcases m1 with ⟨a1, a2⟩ | ⟨a1, a2, a3⟩
      · rcases m2 with ⟨b1, b2⟩ | ⟨b1, b2, b3⟩
        · rw [a1, b1]
        · rcases hi with hi | hi
          · rw [hi] at a1; exact absurd a1 n1
          · exact absurd (hi _ (by rw [b3, ← hbe, a2])) b2
      · rcases m2 with ⟨b1, b2⟩ | ⟨b1, b2, b3⟩
        · rcases hi with hi | hi
          · rw [hi] at b1; exact absurd b1 n2
          · exact absurd (hi _ (by rw [a3, hbe, b2])) a2
        · have := h.inj _ (findE_in a3) _ (findE_in b3) hbe
          injection this
    obtain ⟨pe, be⟩ := e
    obtain ⟨pe', be'⟩ := e'
    simp only at hpp hbe
    rw [hpp, hbe]
  · intro e he
    rcases (hmem e he).2 with ⟨_, a2⟩ | ⟨_, _, a3⟩
    · rw [a2]; exact hb
    · exact hfs _ (h.inn _ (findE_in a3))
  · intro c' hc'
    rcases List.mem_append.1 hc' with hc' | hc'
    · exact hfs _ (h.ichg c' hc')
    · simp only [List.mem_singleton] at hc'
      subst hc'
      exact hb
  · intro c' hc'
    rcases List.mem_append.1 hc' with hc' | hc'
    · exact h.chf c' hc'
    · simp only [List.mem_singleton] at hc'
      subst hc'
      exact hp
theorem path_ne {p : ByteArray} (h : isPathB p = true) : p ≠ ⟨#[]⟩ := by
  rintro rfl
  revert h
  decide
theorem path_size {p : ByteArray} (h : isPathB p = true) : p.size ≤ 80 := by
  simp [isPathB] at h
  omega
theorem Wh.ap {D D' : DS} {F : List FF} {r : Int} {B : Nat} {k : Int} {p dt : ByteArray} (h : Wh D F r B) (hs : stR D (sAp p dt) k D') (hp : isPathB p = true) (hf : findK FF.p p F = none) (hB : dt.size ≤ B) :
    ((sumF F : Int) + (dt.size : Int) ≤ r ∧ k = 0 ∧ Wh D' (insK FF.p ⟨p, dt, 0⟩ F) r B) ∨ (r < (sumF F : Int) + (dt.size : Int) ∧ k = 4 ∧ D' = D) := by
  by_cases hroom : (sumF F : Int) + (dt.size : Int) ≤ r
  · obtain ⟨f, hfn, h0, rfl⟩ := st_ap hs hp (by rw [h.left]; decide) (by rw [h.used, h.room]; exact hroom) (h.out hf)
    refine .inl ⟨hroom, h0, ?_⟩
    have hold : ∀ x g, findE x D.R.now = some g → g ≠ f := fun x g hx e => hfn (by rw [← e]; exact h.inn _ (findE_in hx))
    refine h.push (c := ⟨⟨#[]⟩, p, f⟩) (riseK_ins _ h.riseF) ?_ ?_ (fun x hx => by simp [hx]) (by simp) ?_ ⟨by show (⟨#[]⟩ : ByteArray).size ≤ _; decide, by have := path_size hp; show p.size ≤ _; omega⟩ (.inr fun x hx => absurd rfl (hold x f hx))
    · rw [findK_ins _ _ h.riseF, if_neg (fun e => path_ne hp e.symm)]
      exact h.ne
    · intro x hx
      rw [findK_ins _ _ h.riseF]
      by_cases hxp : x = p
      · subst hxp
        simp [setNd]
      · rw [if_neg hxp, if_neg hxp, if_neg hx, h.look x]
        cases hg : findE x D.R.now with
        | none => rfl
        | some g => simp [setNd, hold x g hg]
    · intro g hg
      unfold setNd
      by_cases hgf : g = f
      · rw [if_pos hgf]
        exact ⟨hB, by omega, by show (0 : Int) ≤ _; omega⟩
      · rw [if_neg hgf]
        rcases List.mem_cons.1 hg with hg | hg
        · exact absurd hg hgf
        · exact h.dat g hg
  · obtain ⟨f, hfn, hs⟩ : ∃ f, f ∉ D.fs ∧ (k, D') = apD D p dt f := hs
    have hr' : D.R.room - (usedE D.fd D.R.now : Int) < (dt.size : Int) := by rw [h.room, h.used]; omega
    have hl : ¬ D.R.left = 0 := by rw [h.left]; decide
    simp [apD, hp, hl, hr'] at hs
    exact .inr ⟨by omega, hs.1, hs.2⟩
theorem Wh.sy {D D' : DS} {F : List FF} {r : Int} {B : Nat} {k : Int} {p t : ByteArray} {y : Int} (h : Wh D F r B) (hs : stR D (sSy p) k D') (hp : isPathB p = true) (hx : (⟨p, t, y⟩ : FF) ∈ F) :
    k = 0 ∧ Wh D' (insK FF.p ⟨p, t, (t.size : Int)⟩ F) r B := by
  obtain ⟨g, hg, ht, hy⟩ := h.find hx
  obtain ⟨h0, rfl⟩ := st_sy hs hp (by rw [h.left]; decide) hg
  simp only at ht
  refine ⟨h0, ?_, wrote_whole h.left, h.room, h.inj, h.inn, h.isafe, h.ichg, h.inv.wrote, h.rise, ?_, h.chf⟩
  · refine riseK_ext (key := FF.p) (by unfold vwL RiseK; rw [List.pairwise_map]; exact h.riseN) (riseK_ins _ h.riseF) (fun x => ?_)
    rw [findK_ins _ _ h.riseF]
    show findK FF.p x (D.R.now.map (vwE (setNd D.fd g ((D.fd g).1, ((D.fd g).1.size : Int))))) = _
    rw [findK_vw]
    by_cases hxp : x = p
    · subst hxp
      rw [if_pos rfl, show findE x D.R.now = some g from hg]
      simp [setNd, ht]
    · rw [if_neg hxp, h.look x]
      cases hf : findE x D.R.now with
      | none => rfl
      | some f =>
        have hfg : f ≠ g := fun e => by
          subst e
          have := h.inj _ (findE_in hf) _ (findE_in hg) rfl
          injection this with this
          exact hxp this
        simp [setNd, hfg]
  · intro f hf
    have hd := h.dat f hf
    unfold wroteD setNd
    dsimp only
    by_cases hfg : f = g
    · rw [if_pos hfg, ← hfg]
      exact ⟨hd.1, by show (0 : Int) ≤ _; omega, Int.le_refl _⟩
    · rw [if_neg hfg]
      exact hd
theorem Wh.rn {D D' : DS} {F : List FF} {r : Int} {B : Nat} {k : Int} {p q t : ByteArray} {y : Int} (h : Wh D F r B) (hs : stR D (sRn p q) k D') (hp : isPathB p = true) (hq : isPathB q = true) (hpq : p ≠ q) (hx : (⟨p, t, y⟩ : FF) ∈ F) :
    k = 0 ∧ Wh D' (insK FF.p ⟨q, t, y⟩ (delK FF.p p F)) r B := by
  obtain ⟨g, hg, ht, hy⟩ := h.find hx
  obtain ⟨h0, rfl⟩ := st_rn hs hp hq hpq (by rw [h.left]; decide) hg
  simp only at ht hy hg
  refine ⟨h0, h.push (c := ⟨p, q, g⟩) (riseK_ins _ (riseK_del _ h.riseF)) ?_ ?_ (fun _ h => h) (h.inn _ (findE_in hg)) h.dat ⟨by have := path_size hp; show p.size ≤ _; omega, by have := path_size hq; show q.size ≤ _; omega⟩ (.inr fun x hx2 => ?_)⟩
  · rw [findK_ins _ _ (riseK_del _ h.riseF), if_neg (fun e => path_ne hq e.symm), findK_del, if_neg (fun e => path_ne hp e.symm)]
    exact h.ne
  · intro x hx2
    rw [findK_ins _ _ (riseK_del _ h.riseF), findK_del, h.look x]
    by_cases hxq : x = q
    · subst hxq
      simp [ht, hy]
    · simp only [if_neg hxq]
      by_cases hxp : x = p
      · simp [hxp]
      · simp [hxp]
  · have := h.inj _ (findE_in hx2) _ (findE_in hg) rfl
    injection this
theorem Wh.rm {D D' : DS} {F : List FF} {r : Int} {B : Nat} {k : Int} {x : FF} (h : Wh D F r B) (hs : stR D (sRm x.p) k D') (hp : isPathB x.p = true) (hx : x ∈ F) :
    k = 0 ∧ Wh D' (delK FF.p x.p F) r B := by
  obtain ⟨g, hg, ht, hy⟩ := h.find hx
  obtain ⟨h0, rfl⟩ := st_rm hs hp (by rw [h.left]; decide) hg
  refine ⟨h0, h.push (c := ⟨x.p, ⟨#[]⟩, g⟩) (riseK_del _ h.riseF) ?_ ?_ (fun _ h => h) (h.inn _ (findE_in hg)) h.dat ⟨by have := path_size hp; show x.p.size ≤ _; omega, by show (⟨#[]⟩ : ByteArray).size ≤ _; decide⟩ (.inl rfl)⟩
  · rw [findK_del, if_neg (fun e => path_ne hp e.symm)]
    exact h.ne
  · intro y hy2
    rw [findK_del, h.look y, if_neg hy2]
    by_cases hxp : y = x.p
    · simp [hxp]
    · simp [hxp]
theorem Wh.sd {D D' : DS} {F : List FF} {r : Int} {B : Nat} {k : Int} (h : Wh D F r B) (hs : stR D sSd k D') : k = 0 ∧ Wh D' F r B ∧ D'.R.safe = D'.R.now ∧ D'.R.chg = [] := by
  obtain ⟨h0, rfl⟩ := st_sd hs (by rw [h.left]; decide)
  exact ⟨h0, ⟨h.vw, wrote_whole h.left, h.room, h.inj, h.inn, h.inn, fun c hc => (by cases hc), h.inv.sync.wrote, h.riseN, h.dat, fun c hc => (by cases hc)⟩, rfl, rfl⟩
structure Rst (D : DS) (F : List FF) (r : Int) (B : Nat) : Prop where
  wh : Wh D F r B
  safe : D.R.safe = D.R.now
  chg : D.R.chg = []
  syn : ∀ x ∈ F, x.y = (x.t.size : Int)
theorem Rst.fit {D : DS} {F : List FF} {r : Int} {B C : Nat} (h : Rst D F r B) (hc0 : 0 ≤ D.R.count) (hc : D.R.count ≤ (C : Int)) (hr0 : 0 ≤ r) (hr1 : r ≤ 9223372036854775807) : DFit D F.length C B :=
  ⟨by rw [h.chg, h.safe, ← h.wh.vw]; simp [vwL], hc0, hc, by rw [h.wh.left]; decide, by rw [h.wh.left]; decide, by rw [h.wh.room]; exact hr0, by rw [h.wh.room]; exact hr1, h.wh.dat, h.wh.chf, h.wh.inv, h.wh.inn, h.wh.isafe, h.wh.ichg, h.wh.rise⟩
end Go.Proofs.YtncigfibncmioaaGreatDoor
