/-
  PROVED HERE: what the program's own Crash of disks does.
-/
import Derived.Test.YteicpbcddjjceaaGreatDoorPdApp
import Derived.Deep.CutRange
import Derived.Laws.AppendOwn
import Derived.Lib.BufferMore
namespace Go.Proofs.YteicpbcddjjceaaGreatDoor
open Go.RowKit
theorem crashN_snoc : ∀ (l : List DE) (fd : Nat → ByteArray × Int) (ks : List Int) (i : Nat), i < l.length → crashN fd (l.take (i + 1)) ks = setNd (crashN fd (l.take i) ks) (l.getD i DE0).blk (cutK (crashN fd (l.take i) ks (l.getD i DE0).blk) (ks.getD i 0))
  | [], _, _, i, h => by simp at h
  | e :: es, fd, ks, 0, _ => by
    cases ks with
    | nil => rfl
    | cons k ks => rfl
  | e :: es, fd, ks, i + 1, h => by
    rw [List.take_succ_cons, List.take_succ_cons]
    unfold crashN
    rw [crashN_snoc es _ _ i (by simpa using h)]
    have e1 : (e :: es).getD (i + 1) DE0 = es.getD i DE0 := rfl
    have e2 : ks.tail.getD i 0 = ks.getD (i + 1) 0 := by cases ks <;> rfl
    rw [e1, e2]
theorem findE_at {l : List DE} (hr : Rise l) : ∀ {i : Nat}, i < l.length → findE (l.getD i DE0).path l = some (l.getD i DE0).blk := by
  induction l with
  | nil => intro i h; simp at h
  | cons e es ih =>
    obtain ⟨h1, h2⟩ := List.pairwise_cons.1 hr
    intro i h
    cases i with
    | zero => simp [findE]
    | succ i =>
      have hi : i < es.length := by simpa using h
      have e1 : (e :: es).getD (i + 1) DE0 = es.getD i DE0 := rfl
      rw [e1]
      unfold findE
      have hm : es.getD i DE0 ∈ es := by rw [List.getD_eq_getElem?_getD, List.getElem?_eq_getElem hi]; simp
      have hne : ¬ e.path = (es.getD i DE0).path := fun he => by have := h1 _ hm; rw [he, less_irrefl] at this; cases this
      rw [if_neg hne]
      exact ih h2 hi
/-- The numbers of a slice; its row is a row of ints. -/
def KAt (S : Nat → Prop) (w : World) (v : Value) (ks : List Int) : Prop := ∃ oa c, v = .slice oa ks.length c ∧ ∀ i, i < ks.length → ∃ g o, oa = some ⟨g, o, none⟩ ∧ ¬ S g ∧ w.cell? ⟨g, o + i, none⟩ = some (.int .i64 (ks.getD i 0))
/-- The sizes that a crash asks for. -/
structure CFit (s : PSt) : Prop where
  len : s.R.safe.length + s.R.chg.length ≤ 100000000
  chf : ChFit s.R.chg
  data : ∀ f ∈ s.fs, (s.fd f).1.size ≤ 1000000000000 ∧ 0 ≤ (s.fd f).2 ∧ (s.fd f).2 ≤ ((s.fd f).1.size : Int)
def nCr (paths : Int) (n : Nat) : Nat := (withinI paths (n : Int)).toNat
theorem nCr_le (paths : Int) (n : Nat) : nCr paths n ≤ n := by unfold nCr withinI; omega
theorem nCr_eq (paths : Int) (n : Nat) : withinI paths (n : Int) = ((nCr paths n : Nat) : Int) := by unfold nCr withinI; omega
theorem own_str {w : World} {base : Nat} {v : Value} {l : List DE} (h : w.ownsRow base 9 1 v l.length (pathVs l)) : ∃ o cap, v = .slice o l.length cap ∧ ∀ i, i < l.length → ∃ g, o = some ⟨g, 0, none⟩ ∧ w.cell? ⟨g, i, none⟩ = some (.string (l.getD i DE0).path) := by
  rcases h.2 with ⟨rfl, h0⟩ | ⟨g, cap, cur, rfl, hb, hg, hc, hm, hcs, htk⟩
  · exact ⟨none, 0, by rw [h0], fun i hi => by omega⟩
  · refine ⟨_, cap, rfl, fun i hi => ⟨g, rfl, ?_⟩⟩
    rw [cell_of_row w g _ _ _ _ hg]
    have : (cur.toList.take (l.length * 1))[i]? = (pathVs l)[i]? := by rw [htk]
    rw [List.getElem?_take, if_pos (by omega)] at this
    rw [← Array.getElem?_toList, this]
    simp [pathVs, List.getD_eq_getElem?_getD, List.getElem?_eq_getElem hi]
set_option maxHeartbeats 4000000 in
set_option maxRecDepth 100000 in
/-- The round of a crash: a file is cut and synced. -/
theorem pcut_sync (s : PSt) (f : Nat) (more : Int) (w : World) (h : s.In w) (hf : f ∈ s.fs) (hd : (s.fd f).1.size ≤ 1000000000000 ∧ 0 ≤ (s.fd f).2 ∧ (s.fd f).2 ≤ ((s.fd f).1.size : Int)) :
    Calls Tryz.prog 80 #[.pointer (some ⟨f, 0, none⟩), .int .i64 ((s.fd f).2 + withinI more (((s.fd f).1.size : Int) - (s.fd f).2))] w fun e w' => e = .returned (.tuple #[]) ∧ ∃ v, PGo s { s with fd := setNd s.fd f ((cutK (s.fd f) more).1, min (s.fd f).2 (cutK (s.fd f) more).2), fv := setV s.fv f v } w w' := by
  have e1 : (s.fd f).2 + withinI more (((s.fd f).1.size : Int) - (s.fd f).2) = ((((s.fd f).2 + min (max more 0) (((s.fd f).1.size : Int) - (s.fd f).2)).toNat : Nat) : Int) := by unfold withinI; omega
  rw [e1]
  refine (pcut_any f (s.fd f) (s.fv f) _ w (h.fds f hf) (by omega)).mono ?_
  rintro e w' ⟨rfl, hg, v, hfd, hov⟩
  exact ⟨rfl, v, PGo.file h hf (Gr.of_grownBy hg (.inl rfl)) hfd (.inl hov)⟩
theorem PM.keySize {k : TypeId} {w : World} {b : Nat} {l : List DE} (h : PM Tryz.prog k w b l) (hk : Tryz.prog.underlying k = some .string) : ∀ e ∈ l, e.path.size ≤ maxLen := by
  intro e he
  obtain ⟨es, hD, hks⟩ := World.ownsMap.keysOf h
  injection hD with hD
  obtain ⟨v, hv⟩ := hks (dE e) (by rw [← hD]; exact List.mem_map.2 ⟨e, he, rfl⟩)
  obtain ⟨s, _, e2, hs⟩ := WideMaps.string_of_keyOf hk hv
  have e3 : e.path.data.toList = s.data.toList := by injection e2
  rw [WideShapes.bytes_inj e3]
  exact hs
def GoodX (x : ByteArray × Int) : Prop := x.1.size ≤ 1000000000000 ∧ 0 ≤ x.2 ∧ x.2 ≤ (x.1.size : Int)
theorem cutK_good {x : ByteArray × Int} (h : GoodX x) (k : Int) : GoodX (cutK x k) := by
  obtain ⟨h1, h2, h3⟩ := h
  unfold GoodX cutK
  dsimp only
  rw [size_ext _ (by omega)]
  omega
theorem crashN_good : ∀ (l : List DE) (fd : Nat → ByteArray × Int) (ks : List Int), (∀ e ∈ l, GoodX (fd e.blk)) → ∀ f, GoodX (fd f) → GoodX (crashN fd l ks f)
  | [], _, _, _, _, h => h
  | e :: es, fd, ks, hl, f, h => by
    have he := hl e (by simp)
    have key : ∀ g, GoodX (fd g) → GoodX (setNd fd e.blk (cutK (fd e.blk) (ks.headD 0)) g) := by
      intro g hg
      unfold setNd
      split
      · exact cutK_good he _
      · exact hg
    unfold crashN
    exact crashN_good es _ _ (fun x hx => key _ (hl x (by simp [hx]))) f (key f h)
theorem pclone_any (lb : Nat) (l : List DE) (w : World) (h : PM Tryz.prog 9 w lb l) : Calls Tryz.prog 79 #[.map (some lb)] w fun e w' => e = .returned (.map (some w.heap.size)) ∧ PM Tryz.prog 9 w' w.heap.size l ∧ Below w.heap.size w w' :=
  (AnyW.maps_Clone_owns Tryz.laysW5 9 ptrRd lb l.length (dOf l) w h).mono fun _ _ ⟨h1, h2, _, h3⟩ => ⟨h1, h2, h3⟩
theorem PSt.In.notOwn {s : PSt} {w : World} (h : s.In w) {k : Nat} {cur : Array Value} {T : TypeId} {fr : Nat × Nat} (hk : w.heap[k]? = some (.cells cur T fr)) (h1 : T ≠ 105) (h2 : T ≠ 227) (h3 : T ≠ 159) (h4 : T ≠ 5) : ¬ s.own k := by
  intro ho
  rcases ho with e | e | e | e | e | ⟨f, hf, e⟩
  · exact type_ne hk h.is.blk h1 e
  · obtain ⟨e1, c1, m1⟩ := h.is.now.isMap
    rw [e, m1] at hk; cases hk
  · obtain ⟨e1, c1, m1⟩ := h.is.safe.isMap
    rw [e, m1] at hk; cases hk
  · obtain ⟨c, hc⟩ := own_obj h.is.chg k e; exact type_ne hc hk (Ne.symm h2) rfl
  · exact type_ne hk (h.fds k e).blk h3 rfl
  · obtain ⟨c, hc⟩ := own_obj (h.fds f hf).row k e; exact type_ne hc hk (Ne.symm h4) rfl
theorem PDIs.setMb {w : World} {b mb lb mb' : Nat} {R : RDk} {cv : Value} {l : List DE} (h : PDIs w b R mb lb cv) (hm : PM Tryz.prog 9 w mb' l) (hne : mb' ≠ lb) : PDIs (w.setCell ⟨b, 1, none⟩ (.map (some mb'))) b { R with now := l } mb' lb cv := by
  obtain ⟨n1, n2, n3, n4, n5⟩ := h.ne
  have hset : ∀ k, k ≠ b → (w.setCell ⟨b, 1, none⟩ (.map (some mb'))).heap[k]? = w.heap[k]? := fun k hk => heap_setCell_other _ _ _ _ (by simpa using hk)
  have hb : mb' ≠ b := by
    intro e
    obtain ⟨e1, c1, m1⟩ := hm.isMap
    have := h.blk
    rw [← e, m1] at this; cases this
  exact ⟨by rw [heap_setCell_same _ b 1 _ _ _ h.blk]; rfl, hm.later (hset _ hb), h.safe.later (hset _ (Ne.symm n5)), hne, own_same h.chg (fun k hk _ => hset k (fun e => n1 (by rw [← e]; exact hk)))⟩
theorem cutK_size {x : ByteArray × Int} (h : 0 ≤ x.2 ∧ x.2 ≤ (x.1.size : Int)) (k : Int) : (cutK x k).1.size = (cutK x k).2.toNat ∧ 0 ≤ (cutK x k).2 := by
  unfold cutK
  dsimp only
  constructor
  · rw [size_ext _ (by omega)]
    omega
  · omega
theorem cutK_eq {x : ByteArray × Int} (h : 0 ≤ x.2 ∧ x.2 ≤ (x.1.size : Int)) (k : Int) : ((cutK x k).1, ((cutK x k).1.size : Int)) = cutK x k := by
  obtain ⟨h1, h2⟩ := cutK_size h k
  refine Prod.ext rfl ?_
  dsimp only
  omega
set_option maxHeartbeats 4000000 in
set_option maxRecDepth 100000 in
theorem pdCrash (s : PSt) (paths : Int) (kv : Value) (ks : List Int) (w : World) (h : s.In w) (hk : KAt s.own w kv ks) (hf : CFit s) (L : List DE) (hL : L = (s.R.chg.take (nCr paths s.R.chg.length)).foldl applyE s.R.safe) (hin : ∀ e ∈ L, e.blk ∈ s.fs) :
    Calls Tryz.prog 46 #[.pointer (some ⟨s.b, 0, none⟩), .int .i64 paths, kv] w fun e w' => e = .returned (.tuple #[]) ∧ ∃ s', PGo s s' w w' ∧ s'.R = { s.R with now := L, safe := L, chg := [], left := -1 } ∧ s'.fs = s.fs ∧ s'.fd = crashN s.fd L ks := by
  obtain ⟨oa, ck, rfl, hkc⟩ := hk
  have HKC := hide hkc
  have H := hide h
  have hLl : L.length ≤ 100000000 := by
    have h1 := applies_le (s.R.chg.take (nCr paths s.R.chg.length)) s.R.safe
    have h2 := hf.len
    rw [List.length_take] at h1
    rw [hL]
    omega
  obtain ⟨oc, cc, hcv⟩ := own_sl h.is.chg
  have c3 : w.cell? ⟨s.b, 3, none⟩ = some s.cv := cell_of_row _ _ 3 _ _ _ h.is.blk
  rw [hcv] at c3
  have HW := hide (within_any paths (s.R.chg.length : Int) w)
  rw [nCr_eq] at HW
  have hst := psettle_any s.b s.R s.mb s.lb s.cv (nCr paths s.R.chg.length) w h.is (nCr_le _ _) hf.len hf.chf
  rw [← hL] at hst
  have HST := hide hst
  have HF := hide hf
  have HIN := hide hin
  obtain ⟨m, hm⟩ : ∃ m, m = ks.length := ⟨_, rfl⟩
  have HM := hide hm
  clear h hkc hst hf hin hL hcv
  generalize hN : nCr paths s.R.chg.length = N at HW HST
  clear hN
  generalize s.R.chg.length = cl at c3 HW
  rw [← hm]
  clear hm
  go_enter Tryz.func46, Tryz.ntmps46
  go_wp2_with fail
  refine (HW.out).mono ?_
  rintro _ w0 ⟨hw, rfl⟩
  subst hw
  dsimp only
  go_wp2_with fail
  refine (HST.out).mono ?_
  rintro _ w1 ⟨rfl, hd1, hg1⟩
  dsimp only
  have hgo1 : PGo s { s with R := { s.R with safe := L, chg := [] }, cv := .slice none 0 0 } w0 w1 := by
    refine PGo.disk H.out (hg1.mono fun k _ e => ?_) hd1 (.inl rfl) (.inl rfl) (.inr fun k hk => by cases hk) H.out.inow HIN.out (fun c hc => by cases hc)
    rcases e with e | e
    · exact .inl e
    · exact .inr (.inr (.inl e))
  have d2 : w1.cell? ⟨s.b, 2, none⟩ = some (.map (some s.lb)) := cell_of_row _ _ 2 _ _ _ hd1.blk
  have d1 : w1.cell? ⟨s.b, 1, none⟩ = some (.map (some s.mb)) := cell_of_row _ _ 1 _ _ _ hd1.blk
  have HCL := hide (pclone_any s.lb L w1 hd1.safe)
  have HGO1 := hide hgo1
  have HD1 := hide hd1
  clear hgo1 hd1 hg1 HST HW
  go_wp2_with fail
  refine (HCL.out).mono ?_
  rintro _ w2 ⟨rfl, hm2, hb2⟩
  dsimp only
  have hd2 := HD1.out.later hb2
  have e1 : w2.cell? ⟨s.b, 1, none⟩ = some (.map (some s.mb)) := cell_of_row _ _ 1 _ _ _ hd2.blk
  have ef := fun j => frozen_of_row w2 s.b j _ _ hd2.blk
  have hne2 : w1.heap.size ≠ s.lb := fun e => by have := HD1.out.safe.lt; omega
  have hgo2 : PGo s { s with R := { s.R with now := L, safe := L, chg := [] }, mb := w1.heap.size, cv := .slice none 0 0 } w0 (w2.setCell ⟨s.b, 1, none⟩ (.map (some w1.heap.size))) := by
    have hgo1 := HGO1.out.trans (PGo.refl HGO1.out.inn hb2)
    refine HGO1.out.trans (PGo.disk HGO1.out.inn ?_ (hd2.setMb hm2 hne2) (.inr (Nat.le_refl _)) (.inl rfl) (.inl rfl) HIN.out HIN.out (fun c hc => by cases hc))
    exact (Gr.of_below hb2).trans (Gr.of_grownBy (grownBy_set _ _ _ _) (.inl rfl))
  have HGO2 := hide hgo2
  clear hgo2 hd2 hm2 hb2 HCL HD1 HGO1 d1 d2
  generalize hw3 : w2.setCell ⟨s.b, 1, none⟩ (.map (some w1.heap.size)) = w3 at HGO2
  have HLI := hide (plist_any s.b _ _ _ _ w3 HGO2.out.inn.is hLl)
  go_wp2_with fail
  clear hw3
  refine (HLI.out).mono ?_
  rintro _ w4 ⟨lv, rfl, hrow4, hb4⟩
  dsimp only
  obtain ⟨ol, cl2, hlv, hpc⟩ := own_str hrow4
  subst hlv
  obtain ⟨s2, hs2⟩ : ∃ s2 : PSt, s2 = { s with R := { s.R with now := L, safe := L, chg := [] }, mb := w1.heap.size, cv := .slice none 0 0 } := ⟨_, rfl⟩
  rw [← hs2] at HGO2
  have hin4 := HGO2.out.inn.later hb4
  have hpn : ∀ i, i < L.length → ∃ g, ol = some ⟨g, 0, none⟩ ∧ w4.cell? ⟨g, i, none⟩ = some (.string (L.getD i DE0).path) ∧ ∃ cur, w4.heap[g]? = some (.cells cur 9 (0, 0)) := by
    intro i hi
    obtain ⟨g, e1, e2⟩ := hpc i hi
    exact ⟨g, e1, e2, own_obj hrow4 g (by rw [e1]; rfl)⟩
  have hgo4 : PGo s s2 w0 w4 := HGO2.out.trans (PGo.refl HGO2.out.inn hb4)
  have HRI := hide (HGO2.out.inn.is.now.rise (Maps.string_keyed Tryz.underlying9))
  have hR2 : s2.R = { s.R with now := L, safe := L, chg := [] } := by rw [hs2]
  have hfs2 : s2.fs = s.fs := by rw [hs2]
  have hfd2 : s2.fd = s.fd := by rw [hs2]
  have hb2' : s2.b = s.b := by rw [hs2]
  have hkn : ∀ i, i < ks.length → ∃ g o, oa = some ⟨g, o, none⟩ ∧ w4.cell? ⟨g, o + i, none⟩ = some (.int .i64 (ks.getD i 0)) ∧ g < w4.heap.size ∧ ¬ s2.own g := by
    intro i hi
    obtain ⟨g, o, e1, e2, e3⟩ := HKC.out i hi
    have hlt := World.block_lt_of_cell? _ _ e3
    have hbk := hgo4.gr.block g hlt e2
    exact ⟨g, o, e1, (World.cell?_of_block (a := ⟨g, o + i, none⟩) hbk).trans e3, Nat.lt_of_lt_of_le hlt hgo4.gr.size, fun ho => (hgo4.own g ho).elim e2 (fun hge => absurd hlt (Nat.not_lt.2 hge))⟩
  have hrise : Rise L := by have := HRI.out; rw [hR2] at this; exact this
  have HRISE := hide hrise
  have HPN := hide hpn
  have HKN := hide hkn
  have HIN4 := hide hin4
  have HGO4 := hide hgo4
  have HR2 := hide hR2
  have HFS2 := hide hfs2
  have HFD2 := hide hfd2
  clear hs2 hrow4 hb4 hpc hpn hkn hin4 hgo4 hR2 hfs2 hfd2 hrise HGO2 HLI HRI HKC e1 ef
  obtain ⟨n, hn⟩ : ∃ n, n = L.length := ⟨_, rfl⟩
  rw [← hn] at hLl ⊢
  have HN := hide hn
  clear hn
  go_wp2_with fail
  go_loopw [30] (fun iv wr => ∃ k : Nat, k ≤ n ∧ iv = .int .i64 ((k : Nat) : Int) ∧ ∃ si : PSt, PGo s2 si w4 wr ∧ si.R = s2.R ∧ si.fs = s.fs ∧ si.fd = crashN s.fd (L.take k) ks) (fun iv _ => n - (intOf iv).toNat)
  case atStart => exact ⟨0, Nat.zero_le _, rfl, s2, PGo.refl HIN4.out (Below.refl _ _), rfl, HFS2.out, by rw [HFD2.out]; rfl⟩
  case round =>
    obtain ⟨k, hk, rfl, si, hgo, hR, hfs, hfd⟩ := hrel
    have hini := hgo.inn
    have hbi : si.b = s.b := hgo.b.trans hb2'
    have hdi := hini.is
    rw [hbi] at hdi
    have r1 : wr.cell? ⟨s.b, 1, none⟩ = some (.map (some si.mb)) := cell_of_row _ _ 1 _ _ _ hdi.blk
    have r5 : wr.cell? ⟨s.b, 5, none⟩ = some (.int .i64 si.R.left) := cell_of_row _ _ 5 _ _ _ hdi.blk
    have rf := fun j => frozen_of_row wr s.b j _ _ hdi.blk
    have HGO := hide hgo
    have HDI := hide hdi
    have HFS := hide hfs
    have HFD := hide hfd
    have HR := hide hR
    by_cases hlt : k < n
    · have hkL : k < L.length := by rw [← HN.out]; exact hlt
      obtain ⟨g, rfl, hpe, cur, hcur⟩ := HPN.out k hkL
      have hbk := hgo.gr.block g (lt_heap hcur) (HIN4.out.notOwn hcur (by decide) (by decide) (by decide) (by decide))
      have t0 : wr.cell? ⟨g, k, none⟩ = some (.string (L.getD k DE0).path) := (World.cell?_of_block (a := ⟨g, k, none⟩) hbk).trans hpe
      have hmem : L.getD k DE0 ∈ L := by rw [List.getD_eq_getElem?_getD, List.getElem?_eq_getElem hkL]; simp
      have hfm : (L.getD k DE0).blk ∈ si.fs := by rw [hfs]; exact HIN.out _ hmem
      have hsnoc := crashN_snoc L s.fd ks k hkL
      have hfe := findE_at HRISE.out hkL
      have hlk := hdi.now.look (t := 102) Tryz.underlying9 Tryz.underlying102 (Tryz.zeroPF wr) (L.getD k DE0).path (hdi.now.keySize Tryz.underlying9 _ (by rw [hR, HR2.out]; exact hmem))
      have hnow : si.R.now = L := by rw [hR, HR2.out]
      rw [hnow, hfe] at hlk
      dsimp only [ptrOf] at hlk
      rw [← hfd] at hsnoc
      generalize hE : L.getD k DE0 = E at t0 hfm hsnoc hlk
      obtain ⟨ep, ef⟩ := E
      dsimp only at t0 hfm hsnoc hlk
      have HSN := hide hsnoc
      have hfdi := hini.fds ef hfm
      obtain ⟨o, cap, hfv, _, _⟩ := hfdi.shape
      have f0 : wr.cell? ⟨ef, 0, none⟩ = some (si.fv ef) := cell_of_row _ _ 0 _ _ _ hfdi.blk
      have f1 : wr.cell? ⟨ef, 1, none⟩ = some (.int .i64 (si.fd ef).2) := cell_of_row _ _ 1 _ _ _ hfdi.blk
      rw [hfv] at f0
      clear hE hgo hdi hfs hfd hR hpe hcur hbk hmem hsnoc hfe hnow
      have hcr : (si.fd ef).1.size ≤ 1000000000000 ∧ 0 ≤ (si.fd ef).2 ∧ (si.fd ef).2 ≤ ((si.fd ef).1.size : Int) := by
        rw [HFD.out]
        exact crashN_good _ _ _ (fun e he => HF.out.data _ (HIN.out e (List.mem_of_mem_take he))) _ (HF.out.data _ (by rw [← HFS.out]; exact hfm))
      have hblr : s.b < wr.heap.size := lt_of_row HDI.out.blk
      have HWI := hide (fun more w' => within_any more (((si.fd ef).1.size : Int) - (si.fd ef).2) w')
      have HCU := hide (fun more (w' : World) (hb : Below wr.heap.size wr w') => pcut_sync si ef more w' (hini.later hb) hfm hcr)
      have HINI := hide hini
      obtain ⟨q1, q2, q3⟩ := hcr
      clear hini hfdi
      have HKN2 : Hid (k < m → ∃ gk ok, oa = some ⟨gk, ok, none⟩ ∧ wr.cell? ⟨gk, ok + k, none⟩ = some (.int .i64 (ks.getD k 0))) := by
        intro hkk
        obtain ⟨gk, ok, e1, hkc, hlk, hnk⟩ := HKN.out k (by rw [← HM.out]; exact hkk)
        have hbk2 := HGO.out.gr.block gk hlk hnk
        exact ⟨gk, ok, e1, (World.cell?_of_block (a := ⟨gk, ok + k, none⟩) hbk2).trans hkc⟩
      have HKN3 : Hid (¬ k < m → ks.getD k 0 = 0) := by
        intro hkk
        rw [List.getD_eq_getElem?_getD, List.getElem?_eq_none (by rw [← HM.out]; omega)]
        rfl
      generalize ks.getD k 0 = more at HKN2 HKN3 HSN
      clear HKN
      go_upto_if 38 with fail
      go_cut [8, 30] from 30 to 70 (fun mv iv wx => mv = .int .i64 more ∧ iv = .int .i64 ((k : Nat) : Int) ∧ wx = wr)
      case first =>
        by_cases hkk : k < m
        · obtain ⟨gk, ok, rfl, tk⟩ := HKN2.out hkk
          go_wp2_with fail
          go_meet
          case rel => exact ⟨rfl, rfl, rfl⟩
        · have e1 : decide (((k : Nat) : Int) < ((m : Nat) : Int)) = false := by simp; omega
          have hm0 := HKN3.out hkk
          go_wp2_with fail
          go_meet
          case rel => exact ⟨by rw [hm0], rfl, rfl⟩
      case rest =>
        obtain ⟨rfl, rfl, hwc⟩ := hcut
        subst hwc
        generalize hszf : (si.fd ef).1.size = sz at f0 HWI HCU q1 q3
        generalize hsyf : (si.fd ef).2 = sy at f1 HWI HCU q2 q3
        have hw1 : IntKind.i64.wrap ((sz : Int) - sy) = (sz : Int) - sy := wrap64 (by omega) (by omega)
        have hw2 : IntKind.i64.wrap (sy + withinI more ((sz : Int) - sy)) = sy + withinI more ((sz : Int) - sy) := wrap64 (by unfold withinI; omega) (by unfold withinI; omega)
        have HSZ := hide hszf
        have HSY := hide hsyf
        clear hszf hsyf HKN2 HKN3
        go_upto_region 9 with fail
        go_cut [30] from 30 to 70 (fun iv wx => iv = .int .i64 ((k : Nat) : Int) ∧ ∃ v, PGo si { si with fd := setNd si.fd ef ((cutK (si.fd ef) more).1, min sy (cutK (si.fd ef) more).2), fv := setV si.fv ef v } wc wx)
        case first =>
          go_region_with (first | (go_at_call 78; refine (HWI.out more wc.drew).mono ?_; rintro _ w6 ⟨hw6, rfl⟩; subst hw6) | (go_at_call 80; refine (HCU.out more wc.drew ((Below.refl _ _).drew)).mono ?_; rintro _ w7 ⟨rfl, v7, hgo7⟩))
          all_goals
            have HG7 := hide ((PGo.refl HINI.out ((Below.refl _ _).drew)).trans hgo7)
            clear hgo7
            go_wp2_with fail
            go_meet
            case rel => exact ⟨rfl, v7, HG7.out⟩
        case rest =>
          obtain ⟨rfl, v7, hgo7⟩ := hcut
          have hin7 := hgo7.inn
          have hfd7 := hin7.fds ef hfm
          dsimp only at hfd7
          rw [setNd_same, setV_same] at hfd7
          have HSYN := hide (psync_file ef _ v7 wc hfd7)
          have HG7 := hide hgo7
          clear hgo7 hfd7 hin7 HWI HCU
          go_wp2_with fail
          refine (HSYN.out).mono ?_
          rintro _ w8 ⟨rfl, hg8, hfd8⟩
          dsimp only at hfd8 ⊢
          have hgo8 := HG7.out.trans (PGo.file HG7.out.inn (f := ef) hfm (Gr.of_grownBy hg8 (.inl rfl)) hfd8 (by dsimp only; rw [setV_same]; exact .inl rfl))
          have hfin : si.fs = s.fs ∧ setNd (setNd si.fd ef ((cutK (si.fd ef) more).1, min sy (cutK (si.fd ef) more).2)) ef ((cutK (si.fd ef) more).1, ((cutK (si.fd ef) more).1.size : Int)) = crashN s.fd (L.take (k + 1)) ks := by
            refine ⟨HFS.out, ?_⟩
            rw [setNd_twice, cutK_eq (by rw [HSZ.out, HSY.out]; exact ⟨q2, q3⟩), HSN.out]
          have HGO8 := hide (HGO.out.trans hgo8)
          have HFIN := hide hfin
          clear hgo8 hg8 hfd8 hfin
          go_wp2_with fail
          go_roundw
          case rel => exact ⟨k + 1, by omega, by go_num, _, HGO8.out, HR.out, HFIN.out.1, HFIN.out.2⟩
          case measure => simp [intOf]; omega
    · have e1 : decide (((k : Nat) : Int) < ((n : Nat) : Int)) = false := by simp; omega
      have hkn : k = L.length := by rw [← HN.out]; omega
      have hgo9 : PGo s { si with R := { si.R with left := -1 } } w0 (wr.setCell ⟨s.b, 5, none⟩ (.int .i64 (-1))) :=
        HGO4.out.trans (HGO.out.trans (PGo.set hini (by rw [hbi]; exact grownBy_set _ _ _ _) (by rw [hbi]; exact HDI.out.setLeft _) rfl rfl rfl))
      have hfin : ({ si.R with left := -1 } : RDk) = { s.R with now := L, safe := L, chg := [], left := -1 } ∧ si.fs = s.fs ∧ si.fd = crashN s.fd L ks := by
        refine ⟨by rw [HR.out, HR2.out], HFS.out, ?_⟩
        rw [HFD.out, hkn, List.take_length]
      have HG9 := hide hgo9
      have HFIN := hide hfin
      clear hgo9 hfin hgo hini hdi hfs hfd hR HPN HKN
      go_wp2_with fail
      go_end0
      exact ⟨rfl, _, HG9.out, HFIN.out.1, HFIN.out.2.1, HFIN.out.2.2⟩
end Go.Proofs.YteicpbcddjjceaaGreatDoor

/-
  PROVED HERE: what the program's own Copy of disks does.
-/
namespace Go.Proofs.YteicpbcddjjceaaGreatDoor
open Go.RowKit
theorem build0_own (w : World) : (w.alloc (.cells #[] 5)).ownsRow w.heap.size 5 1 (.slice (some ⟨w.heap.size, 0, none⟩) 0 0) 0 [] :=
  ⟨rfl, .inr ⟨w.heap.size, 0, #[], rfl, Nat.le_refl _, heap_alloc_new _ _, Nat.le_refl _, by unfold maxLen; omega, rfl, rfl⟩⟩
set_option maxHeartbeats 1000000 in
set_option maxRecDepth 100000 in
theorem bclone_any (v : Value) (x : ByteArray) (w : World) (h : w.ownsRow 0 5 1 v x.size (Lib.strCells x)) (hx : x.size ≤ 1000000000000) :
    Calls Tryz.prog 82 #[v] w fun e w' => ∃ o cap, e = .returned (.slice o x.size cap) ∧ w'.ownsRow w.heap.size 5 1 (.slice o x.size cap) x.size (Lib.strCells x) ∧ Below w.heap.size w w' := by
  obtain ⟨i0, hi, hz0, hz1, hz2⟩ := info_parts Tryz.infoU8
  have q93 : ∀ (w : World) (a : Option Addr) (n c n' c' : Nat), (binOp .eql 124 (.slice a n c) (.slice none n' c')).run Tryz.prog w = .ok (.bool a.isNone) w := fun w a n c n' c' => Lib.run_eql_slice_nil w _ _ a n c n' c' Tryz.underlying124
  rcases h.2 with ⟨rfl, h0⟩ | ⟨g, cap, cur, rfl, hb, hg, hc, hm, hcs, htk⟩
  · have hx0 := ba_empty h0
    subst hx0
    go_enter Tryz.func82, Tryz.ntmps82
    go_wp2_with fail
    go_ret
    exact ⟨none, 0, rfl, World.ownsRow_nil _ _ _ _, Below.refl _ _⟩
  · have hcell : ∀ j u, (Lib.strCells x)[j]? = some u → (w.alloc (.cells #[] 5)).cell? ((⟨g, 0, none⟩ : Addr).add j) = some u := by
      intro j u hu
      have hg2 : (w.alloc (.cells #[] 5)).heap[g]? = some (.cells cur 5 (0, 0)) := (Below.heap_alloc _ _ g (lt_heap hg)).trans hg
      have hadd : (⟨g, 0, none⟩ : Addr).add j = ⟨g, j, none⟩ := by unfold Addr.add; split <;> simp_all
      rw [hadd, cell_of_row _ g _ _ _ _ hg2]
      have hj : j < x.size := by have := (List.getElem?_eq_some_iff.1 hu).1; rw [Lib.strCells_length] at this; exact this
      have : (cur.toList.take (x.size * 1))[j]? = (Lib.strCells x)[j]? := by rw [htk]
      rw [List.getElem?_take, if_pos (by omega)] at this
      rw [← Array.getElem?_toList, this, hu]
    have HC := hide hcell
    have HO := hide (build0_own w)
    have HONE := hide (Lib.strCells_oneCell x)
    have HLN := hide (Lib.strCells_length x)
    have hb63 : 0 + x.size ≤ maxLen := by unfold maxLen; omega
    have hby : (0 + x.size) * 1 ≤ 140737488355328 := by omega
    have hB0 : Below w.heap.size w (w.alloc (.cells #[] 5)) := (Below.refl _ _).alloc (Nat.le_refl _) _
    have HB0 := hide hB0
    clear hcell hg htk hcs hB0 h
    generalize x.size = n at hc hb63 hby HLN hx
    go_enter Tryz.func82, Tryz.ntmps82
    go_wp2_with (refine wpList_append_own _ rfl _ _ 124 rfl w.heap.size 5 i0 _ 1 1 Tryz.underlying124 hi hz0 hz1 hz2 rfl (by decide) _ 0 [] rfl HO.out ⟨g, 0, none⟩ n cap (Lib.strCells x) rfl (by rw [HLN.out]; omega) HC.out HONE.out hb63 hby (by rw [size_alloc]; omega) ?_; rintro v2 w2 hv hg2 _; obtain ⟨o2, c2, hv2⟩ := own_sl hv; subst hv2; have HV2 := hide hv; have HG2 := hide hg2; clear hv hg2)
    go_ret
    refine ⟨o2, c2, rfl, ?_, ?_⟩
    · have := HV2.out
      simp only [Nat.zero_add, List.nil_append] at this
      exact this
    · have hg2 : (w.alloc (.cells #[] 5)).grownBy w2 (some w.heap.size) := HG2.out
      exact HB0.out.grown hg2 (by rw [size_alloc]; omega) (fun k hk => by injection hk with hk; omega)
theorem findE_some {x : ByteArray} : ∀ {l : List DE} {f : Nat}, findE x l = some f → ∃ e ∈ l, e.path = x ∧ e.blk = f
  | [], _, h => by cases h
  | e :: es, f, h => by
    unfold findE at h
    by_cases he : e.path = x
    · rw [if_pos he] at h
      injection h with h
      exact ⟨e, by simp, he, h⟩
    · rw [if_neg he] at h
      obtain ⟨y, hy, h1⟩ := findE_some h
      exact ⟨y, by simp [hy], h1⟩
theorem findE_no {x : ByteArray} : ∀ {l : List DE}, (∀ e ∈ l, e.path ≠ x) → findE x l = none
  | [], _ => rfl
  | e :: es, h => by
    unfold findE
    rw [if_neg (h e (by simp))]
    exact findE_no (fun y hy => h y (by simp [hy]))
theorem rise_ext : ∀ {l1 l2 : List DE}, Rise l1 → Rise l2 → (∀ x, findE x l1 = findE x l2) → l1 = l2
  | [], [], _, _, _ => rfl
  | [], b :: s, _, _, h => by have := h b.path; simp [findE] at this
  | a :: r, [], _, _, h => by have := h a.path; simp [findE] at this
  | a :: r, b :: s, h1, h2, h => by
    obtain ⟨a1, a2⟩ := List.pairwise_cons.1 h1
    obtain ⟨b1, b2⟩ := List.pairwise_cons.1 h2
    have ha : findE a.path (b :: s) = some a.blk := by rw [← h]; simp [findE]
    have hb : findE b.path (a :: r) = some b.blk := by rw [h]; simp [findE]
    have hab : a.path = b.path := by
      obtain ⟨y, hy, hyp, _⟩ := findE_some ha
      obtain ⟨z, hz, hzp, _⟩ := findE_some hb
      rcases List.mem_cons.1 hy with e | hy
      · rw [← hyp, e]
      · rcases List.mem_cons.1 hz with e | hz
        · rw [← hzp, e]
        · have l1 := b1 y hy
          have l2 := a1 z hz
          rw [hyp] at l1
          rw [hzp] at l2
          have := less_trans l1 l2
          rw [less_irrefl] at this
          cases this
    have hblk : a.blk = b.blk := by
      rw [hab] at ha
      simp [findE] at ha
      exact ha.symm
    have ht : r = s := by
      refine rise_ext a2 b2 fun x => ?_
      by_cases hx : a.path = x
      · rw [findE_no (fun y hy e => by have := a1 y hy; rw [e, hx, less_irrefl] at this; cases this), findE_no (fun y hy e => by have := b1 y hy; rw [e, ← hab, hx, less_irrefl] at this; cases this)]
      · have := h x
        unfold findE at this
        rw [if_neg hx, if_neg (by rw [← hab]; exact hx)] at this
        exact this
    obtain ⟨p, x⟩ := a
    obtain ⟨q, y⟩ := b
    simp only at hab hblk
    rw [hab, hblk, ht]
theorem step_put_pm {P : Program} (w : World) {ops : Array Oper} {o : Oper} {a : Act} {K : Act → World → Prop} {Q : Exit → Act → World → Prop} {E : Prop} (hgd : o.guard = none) (m x v : Operand) (t : TypeId) (hop : o.op = Op.mapUpdate t m x v)
    (k e : TypeId) (hk : P.underlying k = some .string) (ht : P.underlying t = some (.map k e)) (b : Nat) (l : List DE)
    (hm : a.eval m = .map (some b)) (hown : PM P k w b l) (hn : l.length < maxLen) (p : ByteArray) (nb : Nat) (hx : a.eval x = .string p) (hv : a.eval v = .pointer (some ⟨nb, 0, none⟩)) (hp : p.size ≤ maxLen)
    (hK : ∀ w', PM P k w' b (withE p (some nb) l false) → w.mapTurned w' b → K (a.put o.dst undef) w') :
    if Region.wanted o (yielded ops a.tmps) = true then Oper.wp P o a w K Q else E := by
  have hw : Region.wanted o (yielded ops a.tmps) = true := by simp [Region.wanted, hgd]
  rw [if_pos hw]
  obtain ⟨w', hrun, r1, r2⟩ := World.ownsMap.store hown (Maps.string_keyed hk) ht hn (WideMaps.keyOf_string_mk hk hp) (show ptrRd (.pointer (some ⟨nb, 0, none⟩)) = some (.lit (.int .i64 (nb : Int)), []) from rfl)
  rw [show Lit.string p.data.toList = kOf p from rfl, dOf_put p nb l (PM.rise hown (Maps.string_keyed hk))] at r1
  unfold Oper.wp
  simp [execOp, hop, hm, hx, hv, hrun, Result.andThen]
  exact hK w' (pm_tight r1) r2
/-- One file more, with its bytes. -/
theorem PSt.In.add {s : PSt} {w w' : World} (h : s.In w) (hb : Below w.heap.size w w') {F : Nat} (hF : w.heap.size ≤ F) {x : ByteArray × Int} {v : Value} (hfd : FD w' F x v) (hv : ∀ k, v.ownBlock = some k → w.heap.size ≤ k) :
    ({ s with fs := F :: s.fs, fd := setNd s.fd F x, fv := setV s.fv F v } : PSt).In w' := by
  have h2 := h.later hb
  have hne : ∀ f ∈ s.fs, f ≠ F := fun f hf => by have := lt_of_row (h.fds f hf).blk; omega
  have hlt : ∀ f ∈ s.fs, ∀ k, (s.fv f).ownBlock = some k → k < w.heap.size := fun f hf k hk => h.lt (.inr (.inr (.inr (.inr (.inr ⟨f, hf, hk⟩)))))
  refine ⟨h2.is, ?_, ?_, fun e he => by simp [h.inow e he], fun e he => by simp [h.isafe e he], fun e he => by simp [h.ichg e he]⟩
  · intro f hf
    dsimp only at hf ⊢
    rcases List.mem_cons.1 hf with e | hf
    · subst e
      rw [setNd_same, setV_same]
      exact hfd
    · rw [setNd_ne _ _ (hne f hf), setV_ne _ _ (hne f hf)]
      exact h2.fds f hf
  · intro f hf g hg hfg k hk
    dsimp only at hf hg hk ⊢
    rcases List.mem_cons.1 hf with e | hf'
    · rw [e, setV_same] at hk
      rcases List.mem_cons.1 hg with e2 | hg'
      · exact absurd (e.trans e2.symm) hfg
      · rw [setV_ne _ _ (hne g hg')]
        intro e3
        have h1 := hlt g hg' k e3
        have h3 := hv k hk
        omega
    · rw [setV_ne _ _ (hne f hf')] at hk
      rcases List.mem_cons.1 hg with e2 | hg'
      · rw [e2, setV_same]
        intro e3
        have h1 := hlt f hf' k hk
        have h3 := hv k e3
        omega
      · rw [setV_ne _ _ (hne g hg')]
        exact h.sep f hf' g hg' hfg k hk
theorem withE_find (p x : ByteArray) (nb : Nat) : ∀ {l : List DE}, Rise l → findE x (withE p (some nb) l false) = if x = p then some nb else findE x l := by
  intro l hl
  have h2 := dOf_put p nb l hl
  have h3 := dOf_at x (withE p (some nb) l false)
  rw [← h2] at h3
  by_cases hx : x = p
  · subst hx
    rw [if_pos rfl]
    rw [Maps.atKey_put_same (D := dOf l) ⟨l.map dE, rfl⟩ (show WideAt.IsKeyLit (kOf x) from trivial)] at h3
    cases hf : findE x (withE x (some nb) l false) with
    | none => rw [hf] at h3; cases h3
    | some g =>
      rw [hf] at h3
      simp only [ptrD, DataW.lit.injEq, Lit.int.injEq, true_and] at h3
      have : g = nb := by omega
      rw [this]
  · rw [if_neg hx]
    have hne : kOf x ≠ kOf p := fun e => hx (WideShapes.bytes_inj (by injection e))
    rw [Maps.atKey_put_other hne, dOf_at] at h3
    cases hf : findE x (withE p (some nb) l false) with
    | none =>
      rw [hf] at h3
      cases hg : findE x l with
      | none => rfl
      | some g => rw [hg] at h3; cases h3
    | some g =>
      rw [hf] at h3
      cases hg : findE x l with
      | none => rw [hg] at h3; cases h3
      | some g' =>
        rw [hg] at h3
        simp only [ptrD, DataW.lit.injEq, Lit.int.injEq, true_and] at h3
        have : g = g' := by omega
        rw [this]
/-- What a copy has of the files that have come already. -/
structure CpRel (s so : PSt) (ψ : ByteArray → Nat) (left : Lit → Bool) : Prop where
  fnd : ∀ x, findE x so.R.now = if left (kOf x) then none else (findE x s.R.now).map fun _ => ψ x
  dat : ∀ x f, left (kOf x) = false → findE x s.R.now = some f → so.fd (ψ x) = ((s.fd f).1, ((s.fd f).1.size : Int))
  inj : ∀ x y, left (kOf x) = false → left (kOf y) = false → (findE x s.R.now).isSome = true → (findE y s.R.now).isSome = true → ψ x = ψ y → x = y
  inn : ∀ x, left (kOf x) = false → (findE x s.R.now).isSome = true → ψ x ∈ so.fs
theorem CpRel.step {s so so' : PSt} {ψ : ByteArray → Nat} {left : Lit → Bool} (h : CpRel s so ψ left) {x : ByteArray} {f F : Nat} (hf : findE x s.R.now = some f) (hr : Rise so.R.now) (hF : F ∉ so.fs)
    (hn : so'.R.now = withE x (some F) so.R.now false) (hfs : so'.fs = F :: so.fs) (hfd : so'.fd = setNd so.fd F ((s.fd f).1, ((s.fd f).1.size : Int))) :
    CpRel s so' (fun y => if y = x then F else ψ y) (fun z => left z && !z.sameKey (kOf x)) := by
  have hl : ∀ y, (left (kOf y) && !(kOf y).sameKey (kOf x)) = if y = x then false else left (kOf y) := by
    intro y
    rw [kOf_same]
    by_cases e : y = x
    · simp [e]
    · simp [e]
  refine ⟨fun y => ?_, fun y g hy hg => ?_, fun y z hy hz hsy hsz he => ?_, fun y hy hsy => ?_⟩
  · rw [hn, withE_find x y F hr, hl]
    by_cases e : y = x
    · rw [if_pos e, if_pos e, e, hf]
      simp
    · rw [if_neg e, if_neg e, h.fnd y]
      simp [e]
  · rw [hl] at hy
    by_cases e : y = x
    · rw [e, hf] at hg
      injection hg with hg
      rw [hfd, e]
      simp only [if_true]
      rw [setNd_same, hg]
    · rw [if_neg e] at hy
      simp only [e, if_false]
      have hm := h.inn y hy (by rw [hg]; rfl)
      rw [hfd, setNd_ne _ _ (fun e2 => hF (by rw [← e2]; exact hm))]
      exact h.dat y g hy hg
  · rw [hl] at hy hz
    by_cases e : y = x
    · by_cases e2 : z = x
      · rw [e, e2]
      · rw [if_neg e2] at hz
        simp only [e, if_true, e2, if_false] at he
        exact absurd (by rw [he]; exact h.inn z hz hsz) hF
    · rw [if_neg e] at hy
      by_cases e2 : z = x
      · simp only [e, if_false, e2, if_true] at he
        exact absurd (by rw [← he]; exact h.inn y hy hsy) hF
      · rw [if_neg e2] at hz
        simp only [e, if_false, e2] at he
        exact h.inj y z hy hz hsy hsz he
  · rw [hl] at hy
    by_cases e : y = x
    · rw [hfs]; simp [e]
    · rw [if_neg e] at hy
      rw [hfs]
      simp only [e, if_false]
      exact List.mem_cons_of_mem _ (h.inn y hy hsy)
end Go.Proofs.YteicpbcddjjceaaGreatDoor

/-
  PROVED HERE: sizes of what a disk holds, and lists of numbers that lie apart from it; no walk.
-/
namespace Go.Proofs.YteicpbcddjjceaaGreatDoor
open Go.RowKit
theorem afterE_le (l : List DE) (frm too : ByteArray) (nb : Nat) : (afterE l frm too nb).length ≤ l.length + 1 := by
  unfold afterE
  have h1 := withE_le frm none l true
  have h2 := withE_le too (some nb) l false
  have h3 := withE_le too (some nb) (withE frm none l true) false
  simp only [if_true, Bool.false_eq_true, if_false] at h1 h2 h3
  dsimp only
  split <;> split <;> omega
theorem goE_le : ∀ (cs : List CH) (l : List DE), (goE l cs).length ≤ l.length + cs.length
  | [], l => by simp [goE]
  | c :: cs, l => by
    have h1 := goE_le cs (afterE l c.frm c.too c.blk)
    have h2 := afterE_le l c.frm c.too c.blk
    have h3 : goE l (c :: cs) = goE (afterE l c.frm c.too c.blk) cs := rfl
    rw [h3, List.length_cons]
    omega
theorem usedE_mul {nd : Nat → ByteArray × Int} {B : Nat} : ∀ {l : List DE}, (∀ e ∈ l, (nd e.blk).1.size ≤ B) → usedE nd l ≤ l.length * B
  | [], _ => Nat.zero_le _
  | e :: es, h => by
    unfold usedE
    have h1 := h e (by simp)
    have h2 := usedE_mul (l := es) (fun x hx => h x (by simp [hx]))
    rw [List.length_cons, Nat.succ_mul]
    omega
theorem mul_small {n B : Nat} (h : n + B ≤ 1048576) : n * B ≤ 1000000000000 := by
  by_cases hn : n ≤ 524288
  · exact Nat.le_trans (Nat.mul_le_mul hn (show B ≤ 1048576 by omega)) (by decide)
  · exact Nat.le_trans (Nat.mul_le_mul (show n ≤ 1048576 by omega) (show B ≤ 524288 by omega)) (by decide)
def FitB (B : Nat) (x : ByteArray × Int) : Prop := x.1.size ≤ B ∧ 0 ≤ x.2 ∧ x.2 ≤ (x.1.size : Int)
theorem cutK_fit {B : Nat} {x : ByteArray × Int} (h : FitB B x) (k : Int) : FitB B (cutK x k) := by
  obtain ⟨h1, h2, h3⟩ := h
  unfold FitB cutK
  dsimp only
  rw [size_ext _ (by omega)]
  omega
theorem crashN_fit {B : Nat} : ∀ (l : List DE) (fd : Nat → ByteArray × Int) (ks : List Int), (∀ e ∈ l, FitB B (fd e.blk)) → ∀ f, FitB B (fd f) → FitB B (crashN fd l ks f)
  | [], _, _, _, _, h => h
  | e :: es, fd, ks, hl, f, h => by
    have he := hl e (by simp)
    have key : ∀ g, FitB B (fd g) → FitB B (setNd fd e.blk (cutK (fd e.blk) (ks.headD 0)) g) := by
      intro g hg
      unfold setNd
      split
      · exact cutK_fit he _
      · exact hg
    unfold crashN
    exact crashN_fit es _ _ (fun x hx => key _ (hl x (by simp [hx]))) f (key f h)
theorem KAt.frame {w w' : World} {v : Value} {ks : List Int} {S S' : Nat → Prop} (h : KAt S w v ks) (hg : Gr S' w w') (hS : ∀ k, S' k → S k) : KAt S w' v ks := by
  obtain ⟨oa, c, rfl, hk⟩ := h
  refine ⟨oa, c, rfl, fun i hi => ?_⟩
  obtain ⟨g, o, h1, h2, h3⟩ := hk i hi
  have hb := hg.block g (World.block_lt_of_cell? _ _ h3) (fun e => h2 (hS g e))
  exact ⟨g, o, h1, h2, (World.cell?_of_block (a := ⟨g, o + i, none⟩) hb).trans h3⟩
theorem KAt.mono {w : World} {v : Value} {ks : List Int} {S S' : Nat → Prop} (h : KAt S w v ks) (hS : ∀ k, S' k → S k) : KAt S' w v ks := by
  obtain ⟨oa, c, rfl, hk⟩ := h
  refine ⟨oa, c, rfl, fun i hi => ?_⟩
  obtain ⟨g, o, h1, h2, h3⟩ := hk i hi
  exact ⟨g, o, h1, fun e => h2 (hS g e), h3⟩
theorem de_index {l : List DE} {e : DE} (h : e ∈ l) : ∃ i, i < l.length ∧ e = l.getD i DE0 := by
  obtain ⟨i, hi, he⟩ := List.mem_iff_getElem.1 h
  exact ⟨i, hi, by rw [List.getD_eq_getElem?_getD, List.getElem?_eq_getElem hi]; exact he.symm⟩
theorem de_mem {l : List DE} {i : Nat} (h : i < l.length) : l.getD i DE0 ∈ l := by
  rw [List.getD_eq_getElem?_getD, List.getElem?_eq_getElem h]; simp
theorem KAt.later {S : Nat → Prop} {w w' : World} {v : Value} {ks : List Int} (h : KAt S w v ks) (hb : Below w.heap.size w w') : KAt S w' v ks :=
  h.frame (Gr.of_below (S := fun _ => False) hb) (fun _ e => e.elim)
end Go.Proofs.YteicpbcddjjceaaGreatDoor
