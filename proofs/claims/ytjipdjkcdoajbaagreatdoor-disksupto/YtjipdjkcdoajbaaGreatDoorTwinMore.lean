/-
  PROVED HERE: the calls Remove, Truncate, Rename, SyncDir, Spoil, Break, Append: the program's and the document's have the same answer, and behind them the two disks hold the same; no walk.
-/
import Derived.Test.YtjipdjkcdoajbaaGreatDoorTwinOps
import Derived.Test.YtjipdjkcdoajbaaGreatDoorRdTrunc
import Derived.Test.YtjipdjkcdoajbaaGreatDoorRdApp
namespace Go.Proofs.YtjipdjkcdoajbaaGreatDoor
open Go.RowKit
theorem tie_bad {t : Tw} {w : World} {fP fR : Nat} {aP aR : Array Value} {k : Int} {n B B' : Nat} (hk : k ≠ 0) (h : t.In w) (hb : TB t.r n B) (hB : B ≤ B')
    (hp : Calls Tryz.prog fP aP w (WRet t.s w k (fun _ => True))) (hr : ∀ w1, t.r.In w1 → Calls Tryz.prog fR aR w1 (fun e w' => e = .returned (.int .i64 k) ∧ Below w1.heap.size w1 w')) : TCalls fP aP fR aR t w (n + 1) B' :=
  tie2 (P := fun _ => True) (D := fun _ => True) h hb hB hp (fun w1 h1 => (hr w1 h1).mono fun _ _ hh => DRet.bad hk hh) (fun h => absurd h hk)
theorem tie_same {t : Tw} {w : World} {fP fR : Nat} {aP aR : Array Value} {n B B' : Nat} (h : t.In w) (hb : TB t.r n B) (hB : B ≤ B')
    (hp : Calls Tryz.prog fP aP w (WRet t.s w 0 (fun s1 => s1 = t.s))) (hr : ∀ w1, t.r.In w1 → Calls Tryz.prog fR aR w1 (fun e w' => e = .returned (.int .i64 0) ∧ Below w1.heap.size w1 w')) : TCalls fP aP fR aR t w (n + 1) B' :=
  tie2 (P := fun s1 => s1 = t.s) (D := fun r1 => r1 = t.r) h hb hB hp (fun w1 h1 => (hr w1 h1).mono fun _ _ hh => DRet.same h1 hh) (fun _ s1 r1 hs hr => ⟨t.φ, by rw [hs, hr]; exact h.tie, by rw [hr]; exact hb.mono (Nat.le_succ _) hB⟩)
theorem noEmp_mv {l : List DE} (φ : Nat → Nat) (h : NoEmp l) : NoEmp (l.map (DE.mv φ)) := by
  intro e he
  obtain ⟨x, hx, rfl⟩ := List.mem_map.1 he
  exact h x hx
theorem push_mv (φ : Nat → Nat) (R : RDk) (hi : Inv R) (frm too : ByteArray) (nb : Nat) : RDk.wrote { R.mv φ with now := applyE (R.mv φ).now ⟨frm, too, φ nb⟩, chg := (R.mv φ).chg ++ [⟨frm, too, φ nb⟩] } = (RDk.wrote { R with now := afterE R.now frm too nb, chg := R.chg ++ [⟨frm, too, nb⟩] }).mv φ := by
  have h1 : applyE (R.mv φ).now ⟨frm, too, φ nb⟩ = (afterE R.now frm too nb).map (DE.mv φ) := by
    rw [applyE_after (show NoEmp (R.mv φ).now from noEmp_mv φ hi.nowNe), ← afterE_mv]; rfl
  rw [h1]
  unfold RDk.mv RDk.wrote
  simp [CH.mv]
theorem TB.push {r r1 : DSt} {n B B' : Nat} (h : TB r n B) {l : List DE} {c : CH} (hR : r1.R = RDk.wrote { r.R with now := l, chg := r.R.chg ++ [c] }) (hc : c.frm.size ≤ 1000000000 ∧ c.too.size ≤ 1000000000) (hd : ∀ k ∈ r1.ns, (r1.nd k).1.size ≤ B' ∧ 0 ≤ (r1.nd k).2 ∧ (r1.nd k).2 ≤ ((r1.nd k).1.size : Int)) : TB r1 (n + 1) B' := by
  have h1 := h.len; have h2 := h.c0; have h3 := h.c1; have h4 := h.l0; have h5 := h.l1
  refine ⟨?_, ?_, ?_, ?_, ?_, ?_, ?_, hd, ?_⟩
  · rw [hR]; show r.R.safe.length + (r.R.chg ++ [c]).length ≤ _; rw [List.length_append, List.length_singleton]; omega
  · rw [hR]; show 0 ≤ r.R.count + 1; omega
  · rw [hR]; show r.R.count + 1 ≤ _; omega
  · rw [hR]; show -1 ≤ (if 0 < r.R.left then r.R.left - 1 else r.R.left); split <;> omega
  · rw [hR]; show (if 0 < r.R.left then r.R.left - 1 else r.R.left) ≤ _; split <;> omega
  · rw [hR]; exact h.r0
  · rw [hR]; exact h.r1
  · rw [hR]
    intro x hx
    rcases List.mem_append.1 hx with hx | hx
    · exact h.chf x hx
    · rw [List.mem_singleton.1 hx]; exact hc
theorem tRemove (t : Tw) (p : ByteArray) (w : World) {n B : Nat} (h : t.In w) (hb : TB t.r n B) (hn : n + B ≤ 1048576) (hp : p.size ≤ 9223372036854775807) (hg : w.cell? ⟨0, 0, none⟩ = some errT) :
    TCalls 28 #[.pointer (some ⟨t.d, 0, none⟩), .string p] 29 #[.pointer (some ⟨t.r.b, 0, none⟩), .string p] t w (n + 1) B := by
  have hpd := pdRemove t.s p w h.p hp (h.tie.cnt hb hn) (h.tie.pfit hb hn)
  have hrd := fun w1 (h1 : t.r.In w1) => remove_any t.r.b t.r.R t.r.nd t.r.ns t.r.cv p w1 h1 (hb.fits h.tie.inv h1 hn) hp
  have hleft : t.s.R.left = t.r.R.left := by rw [h.tie.eqR]; rfl
  have hfind := h.tie.find p
  cases hpp : isPathB p with
  | false => exact tie_bad (k := 2) (by decide) h hb (Nat.le_refl _) (wRemove t.s t.d p w 2 _ h.bd hg (hpd.mono fun e w' ⟨v, he, h1, _⟩ => ⟨v, he, h1 hpp⟩)) (fun w1 h1 => (hrd w1 h1).mono fun e w' hh => hh.1 hpp)
  | true =>
    by_cases hl : t.r.R.left = 0
    · exact tie_same h hb (Nat.le_refl _) (wRemove t.s t.d p w 0 _ h.bd hg (hpd.mono fun e w' ⟨v, he, _, h1, _⟩ => ⟨v, he, h1 hpp (by rw [hleft]; exact hl)⟩)) (fun w1 h1 => (hrd w1 h1).mono fun e w' hh => hh.2.1 hpp hl)
    · cases hfo : findE p t.r.R.now with
      | none =>
        rw [hfo] at hfind
        exact tie_bad (k := 3) (by decide) h hb (Nat.le_refl _) (wRemove t.s t.d p w 3 _ h.bd hg (hpd.mono fun e w' ⟨v, he, _, _, h1, _⟩ => ⟨v, he, h1 hpp (by rw [hleft]; exact hl) hfind⟩)) (fun w1 h1 => (hrd w1 h1).mono fun e w' hh => hh.2.2.1 hpp hl hfo)
      | some nb =>
        rw [hfo] at hfind
        refine tie2 (k := 0) (P := fun s1 => s1.R = RDk.wrote { t.s.R with now := applyE t.s.R.now ⟨p, ⟨#[]⟩, t.φ nb⟩, chg := t.s.R.chg ++ [⟨p, ⟨#[]⟩, t.φ nb⟩] } ∧ s1.fs = t.s.fs ∧ s1.fd = t.s.fd) (D := fun r1 => r1.R = RDk.wrote { t.r.R with now := afterE t.r.R.now p ⟨#[]⟩ nb, chg := t.r.R.chg ++ [⟨p, ⟨#[]⟩, nb⟩] } ∧ r1.nd = t.r.nd ∧ r1.ns = t.r.ns) h hb (Nat.le_refl _) (wRemove t.s t.d p w 0 _ h.bd hg (hpd.mono fun e w' ⟨v, he, _, _, _, h1⟩ => ⟨v, he, h1 _ hpp (by rw [hleft]; exact hl) hfind⟩)) (fun w1 h1 => (hrd w1 h1).mono fun e w' hh => ?_) (fun _ s1 r1 hs hr => ⟨t.φ, h.tie.paths ⟨by rw [hs.1, h.tie.eqR]; exact push_mv t.φ t.r.R h.tie.inv p ⟨#[]⟩ nb, hs.2⟩ hr (h.tie.inv.push ⟨p, ⟨#[]⟩, nb⟩).wrote, hb.push hr.1 ⟨path_small hpp, Nat.zero_le _⟩ (by rw [hr.2.1, hr.2.2]; exact hb.dat)⟩)
        obtain ⟨h1, cv', h2, h3, h4⟩ := hh.2.2.2 nb hpp hl hfo
        exact DRet.go h1 h3 (h4.mono fun k _ hk => hk.imp id .inr) (fun k hk => .inl hk) h2
theorem tRename (t : Tw) (p q : ByteArray) (w : World) {n B : Nat} (h : t.In w) (hb : TB t.r n B) (hn : n + B ≤ 1048576) (hp : p.size ≤ 9223372036854775807) (hq : q.size ≤ 9223372036854775807) (hg : w.cell? ⟨0, 0, none⟩ = some errT) :
    TCalls 26 #[.pointer (some ⟨t.d, 0, none⟩), .string p, .string q] 27 #[.pointer (some ⟨t.r.b, 0, none⟩), .string p, .string q] t w (n + 1) B := by
  have hpd := pdRename t.s p q w h.p hp hq (h.tie.cnt hb hn) (h.tie.pfit hb hn)
  have hrd := fun w1 (h1 : t.r.In w1) => rename_any t.r.b t.r.R t.r.nd t.r.ns t.r.cv p q w1 h1 (hb.fits h.tie.inv h1 hn) hp hq
  have hleft : t.s.R.left = t.r.R.left := by rw [h.tie.eqR]; rfl
  have hfind := h.tie.find p
  cases hpp : (isPathB p && isPathB q) with
  | false => exact tie_bad (k := 2) (by decide) h hb (Nat.le_refl _) (wRename t.s t.d p q w 2 _ h.bd hg (hpd.mono fun e w' ⟨v, he, h1, _⟩ => ⟨v, he, h1 hpp⟩)) (fun w1 h1 => (hrd w1 h1).mono fun e w' hh => hh.1 (fun h2 => by rw [h2.1, h2.2] at hpp; cases hpp))
  | true =>
    have hpq : isPathB p = true ∧ isPathB q = true := by simpa using hpp
    by_cases hl : t.r.R.left = 0
    · exact tie_same h hb (Nat.le_refl _) (wRename t.s t.d p q w 0 _ h.bd hg (hpd.mono fun e w' ⟨v, he, _, h1, _⟩ => ⟨v, he, h1 hpp (by rw [hleft]; exact hl)⟩)) (fun w1 h1 => (hrd w1 h1).mono fun e w' hh => hh.2.1 hpq hl)
    · cases hfo : findE p t.r.R.now with
      | none =>
        rw [hfo] at hfind
        exact tie_bad (k := 3) (by decide) h hb (Nat.le_refl _) (wRename t.s t.d p q w 3 _ h.bd hg (hpd.mono fun e w' ⟨v, he, _, _, h1, _⟩ => ⟨v, he, h1 hpp (by rw [hleft]; exact hl) hfind⟩)) (fun w1 h1 => (hrd w1 h1).mono fun e w' hh => hh.2.2.1 hpq hl hfo)
      | some nb =>
        rw [hfo] at hfind
        refine tie2 (k := 0) (P := fun s1 => s1.R = RDk.wrote (if p = q then t.s.R else { t.s.R with now := applyE t.s.R.now ⟨p, q, t.φ nb⟩, chg := t.s.R.chg ++ [⟨p, q, t.φ nb⟩] }) ∧ s1.fs = t.s.fs ∧ s1.fd = t.s.fd) (D := fun r1 => r1.R = RDk.wrote (if p = q then t.r.R else { t.r.R with now := afterE t.r.R.now p q nb, chg := t.r.R.chg ++ [⟨p, q, nb⟩] }) ∧ r1.nd = t.r.nd ∧ r1.ns = t.r.ns) h hb (Nat.le_refl _) (wRename t.s t.d p q w 0 _ h.bd hg (hpd.mono fun e w' ⟨v, he, _, _, _, h1⟩ => ⟨v, he, h1 _ hpp (by rw [hleft]; exact hl) hfind⟩)) (fun w1 h1 => (hrd w1 h1).mono fun e w' hh => ?_) (fun _ s1 r1 hs hr => ⟨t.φ, ?_⟩)
        · obtain ⟨h1, cv', h2, h3, h4⟩ := hh.2.2.2 nb hpq hl hfo
          exact DRet.go h1 h3 (h4.mono fun k _ hk => hk.imp id .inr) (fun k hk => .inl hk) h2
        · have hdat : ∀ k ∈ r1.ns, (r1.nd k).1.size ≤ B ∧ 0 ≤ (r1.nd k).2 ∧ (r1.nd k).2 ≤ ((r1.nd k).1.size : Int) := by rw [hr.2.1, hr.2.2]; exact hb.dat
          by_cases e : p = q
          · rw [if_pos e] at hs hr
            exact ⟨h.tie.paths ⟨by rw [hs.1, h.tie.eqR]; rfl, hs.2⟩ hr h.tie.inv.wrote, hb.step hr.1 hdat⟩
          · rw [if_neg e] at hs hr
            exact ⟨h.tie.paths ⟨by rw [hs.1, h.tie.eqR]; exact push_mv t.φ t.r.R h.tie.inv p q nb, hs.2⟩ hr (h.tie.inv.push ⟨p, q, nb⟩).wrote, hb.push hr.1 ⟨path_small hpq.1, path_small hpq.2⟩ hdat⟩
theorem tBreak (t : Tw) (m : Int) (w : World) {n B : Nat} (h : t.In w) (hb : TB t.r n B) (hm : m ≤ 9223372036854775807) (hg : w.cell? ⟨0, 0, none⟩ = some errT) :
    TCalls 38 #[.pointer (some ⟨t.d, 0, none⟩), .int .i64 m] 39 #[.pointer (some ⟨t.r.b, 0, none⟩), .int .i64 m] t w (n + 1) B := by
  have hpd := pdBreak t.s m w h.p
  have hrd := fun w1 (h1 : t.r.In w1) => break_any t.r.b t.r.R t.r.nd t.r.ns t.r.cv m w1 h1
  by_cases hm0 : m < 0
  · exact tie_bad (k := 5) (by decide) h hb (Nat.le_refl _) (wBreak t.s t.d m w 5 _ h.bd hg (hpd.mono fun e w' ⟨v, he, h1, _⟩ => ⟨v, he, h1 hm0⟩)) (fun w1 h1 => (hrd w1 h1).mono fun e w' hh => ⟨(hh.1 hm0).1, by rw [(hh.1 hm0).2]; exact Below.refl _ _⟩)
  · refine tie2 (k := 0) (P := fun s1 => s1 = { t.s with R := { t.s.R with left := m } }) (D := fun r1 => r1.R = { t.r.R with left := m } ∧ r1.nd = t.r.nd ∧ r1.ns = t.r.ns) h hb (Nat.le_refl _) (wBreak t.s t.d m w 0 _ h.bd hg (hpd.mono fun e w' ⟨v, he, _, h1⟩ => ⟨v, he, h1 hm0⟩)) (fun w1 h1 => (hrd w1 h1).mono fun e w' hh => ?_) (fun _ s1 r1 hs hr => ⟨t.φ, h.tie.paths ⟨by rw [hs, h.tie.eqR]; rfl, by rw [hs], by rw [hs]⟩ hr ⟨h.tie.inv.go, h.tie.inv.ne⟩, ?_⟩)
    · obtain ⟨h1, h2, h3⟩ := hh.2 hm0
      exact DRet.go h1 h2 (Gr.of_grownBy h3 (.inl rfl)) (fun k hk => .inl hk) (NewOr.self _ _)
    · have h2 := hb.len; have h3 := hb.c1
      refine ⟨?_, ?_, ?_, ?_, ?_, ?_, ?_, ?_, ?_⟩
      · rw [hr.1]; exact Nat.le_succ_of_le h2
      · rw [hr.1]; exact hb.c0
      · rw [hr.1]; show t.r.R.count ≤ _; omega
      · rw [hr.1]; show -1 ≤ m; omega
      · rw [hr.1]; exact hm
      · rw [hr.1]; exact hb.r0
      · rw [hr.1]; exact hb.r1
      · rw [hr.2.1, hr.2.2]; exact hb.dat
      · rw [hr.1]; exact hb.chf
theorem tTruncate (t : Tw) (p : ByteArray) (m : Int) (w : World) {n B : Nat} (h : t.In w) (hb : TB t.r n B) (hn : n + B ≤ 1048576) (hp : p.size ≤ 9223372036854775807) (hm0 : -9223372036854775808 ≤ m) (hm1 : m ≤ 9223372036854775807) (hg : w.cell? ⟨0, 0, none⟩ = some errT) :
    TCalls 30 #[.pointer (some ⟨t.d, 0, none⟩), .string p, .int .i64 m] 31 #[.pointer (some ⟨t.r.b, 0, none⟩), .string p, .int .i64 m] t w (n + 1) B := by
  have hpd := pdTruncate t.s p m w h.p hp (h.tie.cnt hb hn)
  have hrd := fun w1 (h1 : t.r.In w1) => truncate_any t.r.b t.r.R t.r.nd t.r.ns t.r.cv p m w1 h1 (hb.fits h.tie.inv h1 hn) hp hm0 hm1
  have hleft : t.s.R.left = t.r.R.left := by rw [h.tie.eqR]; rfl
  have hfind := h.tie.find p
  cases hpp : isPathB p with
  | false => exact tie_bad (k := 2) (by decide) h hb (Nat.le_refl _) (wTruncate t.s t.d p m w 2 _ h.bd hg (hpd.mono fun e w' ⟨v, he, h1, _⟩ => ⟨v, he, h1 hpp⟩)) (fun w1 h1 => (hrd w1 h1).mono fun e w' hh => hh.1 hpp)
  | true =>
    by_cases hl : t.r.R.left = 0
    · exact tie_same h hb (Nat.le_refl _) (wTruncate t.s t.d p m w 0 _ h.bd hg (hpd.mono fun e w' ⟨v, he, _, h1, _⟩ => ⟨v, he, h1 hpp (by rw [hleft]; exact hl)⟩)) (fun w1 h1 => (hrd w1 h1).mono fun e w' hh => hh.2.1 hpp hl)
    · cases hfo : findE p t.r.R.now with
      | none =>
        rw [hfo] at hfind
        exact tie_bad (k := 3) (by decide) h hb (Nat.le_refl _) (wTruncate t.s t.d p m w 3 _ h.bd hg (hpd.mono fun e w' ⟨v, he, _, _, h1, _⟩ => ⟨v, he, h1 hpp (by rw [hleft]; exact hl) hfind⟩)) (fun w1 h1 => (hrd w1 h1).mono fun e w' hh => hh.2.2.1 hpp hl hfo)
      | some nb =>
        rw [hfo] at hfind
        have hm := findE_in h.r hfo
        have hd := h.tie.dat nb hm
        have hb2 := hb.dat nb hm
        by_cases hbad : m < 0 ∨ ((t.r.nd nb).1.size : Int) < m
        · refine tie_bad (k := 5) (by decide) h hb (Nat.le_refl _) (wTruncate t.s t.d p m w 5 _ h.bd hg (hpd.mono fun e w' ⟨v, he, _, _, _, h1⟩ => ⟨v, he, ?_⟩)) (fun w1 h1 => (hrd w1 h1).mono fun e w' hh => ?_)
          · rcases h1 _ hpp (by rw [hleft]; exact hl) hfind with h2 | ⟨h2, h3, _⟩
            · exact h2.2
            · rw [hd] at h3; omega
          · rcases hh.2.2.2 nb hpp hl hfo with h2 | ⟨h2, h3, _⟩
            · exact h2.2
            · omega
        · refine tie2 (k := 0) (P := fun s1 => s1.R = t.s.R.wrote ∧ s1.fs = t.s.fs ∧ s1.fd = setNd t.s.fd (t.φ nb) ((t.s.fd (t.φ nb)).1.extract 0 m.toNat, min (t.s.fd (t.φ nb)).2 m)) (D := fun r1 => r1.R = t.r.R.wrote ∧ r1.nd = setNd t.r.nd nb ((t.r.nd nb).1.extract 0 m.toNat, min (t.r.nd nb).2 m) ∧ r1.ns = t.r.ns) h hb (Nat.le_refl _) (wTruncate t.s t.d p m w 0 _ h.bd hg (hpd.mono fun e w' ⟨v, he, _, _, _, h1⟩ => ⟨v, he, ?_⟩)) (fun w1 h1 => (hrd w1 h1).mono fun e w' hh => ?_) (fun _ s1 r1 hs hr => ⟨t.φ, h.tie.set hm ⟨by rw [hs.1, h.tie.eqR]; rfl, hs.2.1, by rw [hs.2.2, hd]⟩ hr h.tie.inv.wrote, hb.step hr.1 ?_⟩)
          · rcases h1 _ hpp (by rw [hleft]; exact hl) hfind with h2 | ⟨_, _, h2⟩
            · have h3 := h2.1; rw [hd] at h3; exact absurd h3 hbad
            · exact h2
          · rcases hh.2.2.2 nb hpp hl hfo with h2 | ⟨_, _, h2, h3, h4⟩
            · exact absurd h2.1 hbad
            · rw [show (if m < (t.r.nd nb).2 then m else (t.r.nd nb).2) = min (t.r.nd nb).2 m by split <;> omega] at h3
              exact DRet.go h2 h3 (h4.mono fun k _ hk => hk.imp id .inl) (fun k hk => .inl hk) (NewOr.self _ _)
          · intro k hk
            rw [hr.2.2] at hk
            rw [hr.2.1]
            have h1 := hb.dat k hk
            unfold setNd
            split
            · dsimp only
              rw [ByteArray.size_extract]
              omega
            · exact h1
theorem chFit_mv {l : List CH} (φ : Nat → Nat) (h : ChFit l) : ChFit (l.map (CH.mv φ)) := by
  intro c hc
  obtain ⟨x, hx, rfl⟩ := List.mem_map.1 hc
  exact h x hx
theorem Tie.settled {s : PSt} {r : DSt} {φ : Nat → Nat} (h : Tie s r φ) (cs : List CH) : (cs.map (CH.mv φ)).foldl applyE s.R.safe = (goE r.R.safe cs).map (DE.mv φ) := by
  rw [h.eqR]
  rw [goE_apply _ (show NoEmp (r.R.mv φ).safe from noEmp_mv φ h.inv.ne)]
  exact goE_mv φ cs r.R.safe
theorem tSyncDir (t : Tw)  (w : World) {n B : Nat} (h : t.In w) (hb : TB t.r n B) (hn : n + B ≤ 1048576) (hg : w.cell? ⟨0, 0, none⟩ = some errT) :
    TCalls 34 #[.pointer (some ⟨t.d, 0, none⟩)] 35 #[.pointer (some ⟨t.r.b, 0, none⟩)] t w (n + 1) B := by
  have hc : t.s.R.chg = t.r.R.chg.map (CH.mv t.φ) := by rw [h.tie.eqR]; rfl
  have hset : t.s.R.chg.foldl applyE t.s.R.safe = t.r.R.now.map (DE.mv t.φ) := by rw [hc, h.tie.settled, ← h.tie.inv.go]
  have hl1 : t.s.R.safe.length + t.s.R.chg.length ≤ 100000000 := by
    have := hb.len
    rw [h.tie.eqR]
    show (t.r.R.safe.map _).length + (t.r.R.chg.map _).length ≤ _
    rw [List.length_map, List.length_map]; omega
  have hpd := pdSyncDir t.s w h.p (h.tie.cnt hb hn) hl1 (by rw [hc]; exact chFit_mv _ hb.chf) (by
    rw [hset]
    intro e he
    obtain ⟨x, hx, rfl⟩ := List.mem_map.1 he
    exact h.tie.inn _ (h.r.inow x hx))
  have hrd := fun w1 (h1 : t.r.In w1) => syncDir_any t.r.b t.r.R t.r.nd t.r.ns t.r.cv w1 h1 (hb.fits h.tie.inv h1 hn)
  have hleft : t.s.R.left = t.r.R.left := by rw [h.tie.eqR]; rfl
  by_cases hl : t.r.R.left = 0
  · exact tie_same h hb (Nat.le_refl _) (wSyncDir t.s t.d w 0 _ h.bd hg (hpd.mono fun e w' ⟨v, he, h1, _⟩ => ⟨v, he, h1 (by rw [hleft]; exact hl)⟩)) (fun w1 h1 => (hrd w1 h1).mono fun e w' hh => hh.1 hl)
  · refine tie2 (k := 0) (P := fun s1 => s1.R = RDk.wrote { t.s.R with safe := t.s.R.chg.foldl applyE t.s.R.safe, chg := [] } ∧ s1.fs = t.s.fs ∧ s1.fd = t.s.fd) (D := fun r1 => r1.R = RDk.wrote { t.r.R with safe := t.r.R.now, chg := [] } ∧ r1.nd = t.r.nd ∧ r1.ns = t.r.ns) h hb (Nat.le_refl _) (wSyncDir t.s t.d w 0 _ h.bd hg (hpd.mono fun e w' ⟨v, he, _, h1⟩ => ⟨v, he, h1 (by rw [hleft]; exact hl)⟩)) (fun w1 h1 => (hrd w1 h1).mono fun e w' hh => ?_) (fun _ s1 r1 hs hr => ⟨t.φ, h.tie.paths ⟨by rw [hs.1, hset, h.tie.eqR]; rfl, hs.2⟩ hr h.tie.inv.sync.wrote, ?_⟩)
    · obtain ⟨h1, h2, h3⟩ := hh.2 hl
      exact DRet.go h1 h2 (Gr.of_grownBy h3 (.inl rfl)) (fun k hk => .inl hk) (NewOr.nil _ _ _ _)
    · have h1 := hb.now h.tie.inv; have h2 := hb.c0; have h3 := hb.c1; have h4 := hb.l0; have h5 := hb.l1
      refine ⟨?_, ?_, ?_, ?_, ?_, ?_, ?_, ?_, ?_⟩
      · rw [hr.1]; show t.r.R.now.length + 0 ≤ _; omega
      · rw [hr.1]; show 0 ≤ t.r.R.count + 1; omega
      · rw [hr.1]; show t.r.R.count + 1 ≤ _; omega
      · rw [hr.1]; show -1 ≤ (if 0 < t.r.R.left then t.r.R.left - 1 else t.r.R.left); split <;> omega
      · rw [hr.1]; show (if 0 < t.r.R.left then t.r.R.left - 1 else t.r.R.left) ≤ _; split <;> omega
      · rw [hr.1]; exact hb.r0
      · rw [hr.1]; exact hb.r1
      · rw [hr.2.1, hr.2.2]; exact hb.dat
      · rw [hr.1]; intro c hc; cases hc
theorem tSpoil (t : Tw) (p : ByteArray) (a m : Int) (w : World) {n B : Nat} (h : t.In w) (hb : TB t.r n B) (hn : n + B ≤ 1048576) (hp : p.size ≤ 9223372036854775807) (hg : w.cell? ⟨0, 0, none⟩ = some errT) :
    TCalls 36 #[.pointer (some ⟨t.d, 0, none⟩), .string p, .int .i64 a, .int .i64 m] 37 #[.pointer (some ⟨t.r.b, 0, none⟩), .string p, .int .i64 a, .int .i64 m] t w (n + 1) B := by
  have hpd := pdSpoil t.s p a m w h.p hp
  have hrd := fun w1 (h1 : t.r.In w1) => rdSpoil_any t.r.b t.r.R t.r.nd t.r.ns t.r.cv p a m w1 h1 (hb.fits h.tie.inv h1 hn) hp
  have hfind := h.tie.find p
  cases hpp : isPathB p with
  | false => exact tie_bad (k := 2) (by decide) h hb (Nat.le_refl _) (wSpoil t.s t.d p a m w 2 _ h.bd hg (hpd.mono fun e w' ⟨v, he, h1, _⟩ => ⟨v, he, h1 hpp⟩)) (fun w1 h1 => (hrd w1 h1).mono fun e w' hh => hh.1 hpp)
  | true =>
    cases hfo : findE p t.r.R.now with
    | none =>
      rw [hfo] at hfind
      exact tie_bad (k := 3) (by decide) h hb (Nat.le_refl _) (wSpoil t.s t.d p a m w 3 _ h.bd hg (hpd.mono fun e w' ⟨v, he, _, h1, _⟩ => ⟨v, he, h1 hpp hfind⟩)) (fun w1 h1 => (hrd w1 h1).mono fun e w' hh => hh.2.1 hpp hfo)
    | some nb =>
      rw [hfo] at hfind
      have hm := findE_in h.r hfo
      have hd := h.tie.dat nb hm
      have hb2 := hb.dat nb hm
      by_cases hbad : m < 1 ∨ 255 < m ∨ a < 0 ∨ ((t.r.nd nb).1.size : Int) ≤ a
      · exact tie_bad (k := 5) (by decide) h hb (Nat.le_refl _) (wSpoil t.s t.d p a m w 5 _ h.bd hg (hpd.mono fun e w' ⟨v, he, _, _, h1⟩ => ⟨v, he, (h1 _ hpp hfind).1 (by rw [hd]; exact hbad)⟩)) (fun w1 h1 => (hrd w1 h1).mono fun e w' hh => (hh.2.2 nb hpp hfo).1 hbad)
      · refine tie2 (k := 0) (P := fun s1 => s1.R = t.s.R ∧ s1.fs = t.s.fs ∧ s1.fd = setNd t.s.fd (t.φ nb) (spoilB (t.s.fd (t.φ nb)).1 a.toNat m, (t.s.fd (t.φ nb)).2)) (D := fun r1 => r1.R = t.r.R ∧ r1.nd = setNd t.r.nd nb (spoilB (t.r.nd nb).1 a.toNat m, (t.r.nd nb).2) ∧ r1.ns = t.r.ns) h hb (Nat.le_refl _) (wSpoil t.s t.d p a m w 0 _ h.bd hg (hpd.mono fun e w' ⟨v, he, _, _, h1⟩ => ⟨v, he, (h1 _ hpp hfind).2 (by rw [hd]; exact hbad)⟩)) (fun w1 h1 => (hrd w1 h1).mono fun e w' hh => ?_) (fun _ s1 r1 hs hr => ⟨t.φ, h.tie.set hm ⟨by rw [hs.1, h.tie.eqR], hs.2.1, by rw [hs.2.2, hd]⟩ hr h.tie.inv, ?_⟩)
        · obtain ⟨h1, h2, h3⟩ := (hh.2.2 nb hpp hfo).2 hbad
          exact DRet.go h1 h2 (h3.mono fun k _ hk => hk.imp id .inl) (fun k hk => .inl hk) (NewOr.self _ _)
        · have h2 := hb.len; have h3 := hb.c1
          refine ⟨by rw [hr.1]; omega, by rw [hr.1]; exact hb.c0, by rw [hr.1]; omega, by rw [hr.1]; exact hb.l0, by rw [hr.1]; exact hb.l1, by rw [hr.1]; exact hb.r0, by rw [hr.1]; exact hb.r1, fun k hk => ?_, by rw [hr.1]; exact hb.chf⟩
          rw [hr.2.2] at hk
          rw [hr.2.1]
          have h1 := hb.dat k hk
          unfold setNd
          split
          · dsimp only
            rw [spoilB_size]
            exact hb2
          · exact h1
theorem tAppend (t : Tw) (p dt : ByteArray) (w : World) {n B : Nat} (h : t.In w) (hb : TB t.r n B) (hn : n + B ≤ 1048576) (hp : p.size ≤ 9223372036854775807) (hdt : dt.size ≤ 1048576) (hg : w.cell? ⟨0, 0, none⟩ = some errT) :
    TCalls 24 #[.pointer (some ⟨t.d, 0, none⟩), .string p, .string dt] 25 #[.pointer (some ⟨t.r.b, 0, none⟩), .string p, .string dt] t w (n + 1) (B + dt.size) := by
  have hu := h.tie.used h.r
  have hfit := hb.fits h.tie.inv h.r hn
  have hsz : ∀ f ∈ t.s.fs, (t.s.fd f).1.size ≤ 1000000000000 := by
    intro f hf
    obtain ⟨k, hk, rfl⟩ := h.tie.sur f hf
    rw [h.tie.dat k hk]
    exact (hfit.data k hk).1
  have hroom : t.s.R.room = t.r.R.room := by rw [h.tie.eqR]; rfl
  have hpd := pdAppend t.s p dt w h.p hp (h.tie.cnt hb hn) (h.tie.pfit hb hn) (by rw [hu]; exact hfit.used) (by rw [hroom]; exact hb.r0) (by rw [hroom]; exact hb.r1) (by omega) hsz
  have hrd := fun w1 (h1 : t.r.In w1) => append_any t.r.b t.r.R t.r.nd t.r.ns t.r.cv p dt w1 h1 (hb.fits h.tie.inv h1 hn) hp (by omega)
  rw [hroom, hu] at hpd
  have hleft : t.s.R.left = t.r.R.left := by rw [h.tie.eqR]; rfl
  have hfind := h.tie.find p
  have hB : B ≤ B + dt.size := Nat.le_add_right _ _
  cases hpp : isPathB p with
  | false => exact tie_bad (k := 2) (by decide) h hb hB (wAppend t.s t.d p dt w 2 _ h.bd hg (hpd.mono fun e w' ⟨v, he, h1, _⟩ => ⟨v, he, h1 hpp⟩)) (fun w1 h1 => (hrd w1 h1).mono fun e w' hh => hh.1 hpp)
  | true =>
    by_cases hl : t.r.R.left = 0
    · exact tie_same h hb hB (wAppend t.s t.d p dt w 0 _ h.bd hg (hpd.mono fun e w' ⟨v, he, _, h1, _⟩ => ⟨v, he, h1 hpp (by rw [hleft]; exact hl)⟩)) (fun w1 h1 => (hrd w1 h1).mono fun e w' hh => hh.2.1 hpp hl)
    · by_cases hrm : t.r.R.room - (usedE t.r.nd t.r.R.now : Int) < (dt.size : Int)
      · exact tie_bad (k := 4) (by decide) h hb hB (wAppend t.s t.d p dt w 4 _ h.bd hg (hpd.mono fun e w' ⟨v, he, _, _, h1, _⟩ => ⟨v, he, h1 hpp (by rw [hleft]; exact hl) hrm⟩)) (fun w1 h1 => (hrd w1 h1).mono fun e w' hh => hh.2.2.1 hpp hl hrm)
      · cases hfo : findE p t.r.R.now with
        | some nb =>
          rw [hfo] at hfind
          have hm := findE_in h.r hfo
          have hd := h.tie.dat nb hm
          have hb2 := hb.dat nb hm
          refine tie2 (k := 0) (P := fun s1 => s1.R = t.s.R.wrote ∧ s1.fs = t.s.fs ∧ s1.fd = setNd t.s.fd (t.φ nb) ((t.s.fd (t.φ nb)).1 ++ dt, (t.s.fd (t.φ nb)).2)) (D := fun r1 => r1.R = t.r.R.wrote ∧ r1.nd = setNd t.r.nd nb ((t.r.nd nb).1 ++ dt, (t.r.nd nb).2) ∧ r1.ns = t.r.ns) h hb hB (wAppend t.s t.d p dt w 0 _ h.bd hg (hpd.mono fun e w' ⟨v, he, _, _, _, h1, _⟩ => ⟨v, he, h1 _ hpp (by rw [hleft]; exact hl) hrm hfind⟩)) (fun w1 h1 => (hrd w1 h1).mono fun e w' hh => ?_) (fun _ s1 r1 hs hr => ⟨t.φ, h.tie.set hm ⟨by rw [hs.1, h.tie.eqR]; rfl, hs.2.1, by rw [hs.2.2, hd]⟩ hr h.tie.inv.wrote, (hb.mono (Nat.le_refl _) hB).step hr.1 ?_⟩)
          · obtain ⟨h1, h2, h3⟩ := hh.2.2.2.1 nb hpp hl hrm hfo
            exact DRet.go h1 h2 (h3.mono fun k _ hk => hk.imp id .inl) (fun k hk => .inl hk) (NewOr.self _ _)
          · intro k hk
            rw [hr.2.2] at hk
            rw [hr.2.1]
            have h1 := hb.dat k hk
            unfold setNd
            split
            · dsimp only
              rw [ByteArray.size_append]
              omega
            · omega
        | none =>
          rw [hfo] at hfind
          refine tie2 (k := 0) (P := fun s1 => ∃ f, f ∉ t.s.fs ∧ s1.R = RDk.wrote { t.s.R with now := applyE t.s.R.now ⟨⟨#[]⟩, p, f⟩, chg := t.s.R.chg ++ [⟨⟨#[]⟩, p, f⟩] } ∧ s1.fs = f :: t.s.fs ∧ s1.fd = setNd t.s.fd f (dt, 0)) (D := fun r1 => ∃ nb, nb ∉ t.r.ns ∧ r1.R = RDk.wrote { t.r.R with now := afterE t.r.R.now ⟨#[]⟩ p nb, chg := t.r.R.chg ++ [⟨⟨#[]⟩, p, nb⟩] } ∧ r1.nd = setNd t.r.nd nb (dt, 0) ∧ r1.ns = nb :: t.r.ns) h hb hB (wAppend t.s t.d p dt w 0 _ h.bd hg (hpd.mono fun e w' ⟨v, he, _, _, _, _, h1⟩ => ⟨v, he, ?_⟩)) (fun w1 h1 => (hrd w1 h1).mono fun e w' hh => ?_) (fun _ s1 r1 hs hr => ?_)
          · have h2 := h1 hpp (by rw [hleft]; exact hl) hrm hfind
            refine ⟨h2.1, fun hk => ⟨(h2.2 hk).1, ?_⟩⟩
            obtain ⟨s1, hgo, f, hf, hs⟩ := (h2.2 hk).2
            exact ⟨s1, hgo, f, (fun hm => by have := lt_of_row (h.p.fds f hm).blk; omega), hs⟩
          · obtain ⟨h2, nb, cv', h3, h4, h5, h6⟩ := hh.2.2.2.2 hpp hl hrm hfo
            have h7 := DRet.go (r := t.r) h2 h5 (h6.mono fun k _ hk => hk) (fun k hk => (List.mem_cons.1 hk).elim (fun e => .inr (by rw [e]; exact h3)) .inl) h4
            refine ⟨h7.1, h7.2.1, fun hk => ?_⟩
            obtain ⟨r1, hgo, hr⟩ := h7.2.2 hk
            exact ⟨r1, hgo, nb, (fun hm => by have := lt_of_row (h1.nds nb hm); omega), hr⟩
          · obtain ⟨F, hF, hs⟩ := hs
            obtain ⟨nb, hnb, hr⟩ := hr
            have hmv : t.r.R.mv t.φ = t.r.R.mv (fun k => if k = nb then F else t.φ k) := by
              have hne : ∀ x ∈ t.r.ns, t.φ x = if x = nb then F else t.φ x := fun x hx => by rw [if_neg (fun e => hnb (by rw [← e]; exact hx))]
              unfold RDk.mv
              rw [mv_congr (ψ := fun k => if k = nb then F else t.φ k) (l := t.r.R.now) (fun e he => hne _ (h.r.inow e he)), mv_congr (ψ := fun k => if k = nb then F else t.φ k) (l := t.r.R.safe) (fun e he => hne _ (h.r.isafe e he)), mvc_congr (ψ := fun k => if k = nb then F else t.φ k) (l := t.r.R.chg) (fun e he => hne _ (h.r.ichg e he))]
            refine ⟨fun k => if k = nb then F else t.φ k, h.tie.add hnb hF ⟨?_, hs.2⟩ hr (h.tie.inv.push ⟨⟨#[]⟩, p, nb⟩).wrote, hb.push hr.1 ⟨Nat.zero_le _, path_small hpp⟩ ?_⟩
            · rw [hs.1, h.tie.eqR, hmv]
              have h2 := push_mv (fun k => if k = nb then F else t.φ k) t.r.R h.tie.inv ⟨#[]⟩ p nb
              simp only [if_true] at h2
              exact h2
            · intro k hk
              rw [hr.2.2] at hk
              rw [hr.2.1]
              unfold setNd
              split
              · exact ⟨Nat.le_add_left _ _, Int.le_refl _, Int.natCast_nonneg _⟩
              · rename_i e
                have h1 := hb.dat k ((List.mem_cons.1 hk).resolve_left e)
                omega
end Go.Proofs.YtjipdjkcdoajbaaGreatDoor
