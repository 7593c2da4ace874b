/-
  PROVED HERE: what the document's own call Append of disks does.
-/
import Derived.Test.YtjipdjkcdoajbaaGreatDoorRdOps
namespace Go.Proofs.YtjipdjkcdoajbaaGreatDoor
open Go.RowKit
theorem withE_mem {p : ByteArray} {ob : Option Nat} : ∀ {l : List DE} {d : Bool} {e : DE}, e ∈ withE p ob l d → e ∈ l ∨ ∃ b, ob = some b ∧ e.blk = b
  | [], d, e, h => by
    unfold withE at h
    cases d <;> cases ob <;> simp at h
    right; exact ⟨_, rfl, by rw [h]⟩
  | x :: xs, d, e, h => by
    unfold withE at h
    rw [List.mem_append, List.mem_append] at h
    rcases h with (h | h) | h
    · split at h
      · cases ob with
        | none => simp at h
        | some b => simp only [List.mem_singleton] at h; right; exact ⟨b, rfl, by rw [h]⟩
      · simp at h
    · split at h
      · simp at h
      · simp only [List.mem_singleton] at h; left; rw [h]; exact List.mem_cons_self
    · rcases withE_mem h with h | h
      · left; exact List.mem_cons_of_mem _ h
      · right; exact h
theorem afterE_mem {l : List DE} {frm too : ByteArray} {nb : Nat} {e : DE} (h : e ∈ afterE l frm too nb) : e ∈ l ∨ e.blk = nb := by
  have h1 : ∀ x, x ∈ (if frm = ⟨#[]⟩ then l else withE frm none l true) → x ∈ l := by
    intro x hx
    split at hx
    · exact hx
    · rcases withE_mem hx with hx | ⟨b, hb, -⟩
      · exact hx
      · cases hb
  unfold afterE at h
  dsimp only at h
  split at h
  · exact .inl (h1 e h)
  · rcases withE_mem h with h | ⟨b, hb, he⟩
    · exact .inl (h1 e h)
    · injection hb with hb; right; rw [he, hb]
theorem setNd_twice (nd : Nat → ByteArray × Int) (nb : Nat) (x y : ByteArray × Int) : setNd (setNd nd nb y) nb x = setNd nd nb x := by
  funext k
  unfold setNd
  by_cases h : k = nb <;> simp [h]
theorem empty_app (s : ByteArray) : (⟨#[]⟩ : ByteArray) ++ s = s := by
  obtain ⟨d⟩ := s
  rw [ByteArray.mk_append_mk]; simp
theorem newOr_low {w w3 w4 : World} {v v' : Value} (h3 : w.heap.size ≤ w3.heap.size) (h4 : w3.heap.size ≤ w4.heap.size) (h : NewOr w4 v v') : NewOr w v v' := by
  rcases h with h | h
  · exact .inl h
  · exact .inr fun k hk => by have := h k hk; omega
set_option maxHeartbeats 2000000 in
set_option maxRecDepth 100000 in
theorem append_any (b : Nat) (R : RDk) (nd : Nat → ByteArray × Int) (ns : List Nat) (cv : Value) (p dt : ByteArray) (w : World) (h : RDN w b R nd ns cv) (hf : Fits R nd ns) (hp : p.size ≤ 9223372036854775807) (hdt : dt.size ≤ 1000000000000) :
    Calls Tryz.prog 25 #[.pointer (some ⟨b, 0, none⟩), .string p, .string dt] w fun e w' =>
      (isPathB p = false → e = .returned (.int .i64 2) ∧ Below w.heap.size w w') ∧
      (isPathB p = true → R.left = 0 → e = .returned (.int .i64 0) ∧ Below w.heap.size w w') ∧
      (isPathB p = true → R.left ≠ 0 → R.room - (usedE nd R.now : Int) < (dt.size : Int) → e = .returned (.int .i64 4) ∧ Below w.heap.size w w') ∧
      (∀ nb, isPathB p = true → R.left ≠ 0 → ¬ R.room - (usedE nd R.now : Int) < (dt.size : Int) → findE p R.now = some nb → e = .returned (.int .i64 0) ∧ RDN w' b R.wrote (setNd nd nb ((nd nb).1 ++ dt, (nd nb).2)) ns cv ∧ Gr (fun k => k = b ∨ k ∈ ns) w w') ∧
      (isPathB p = true → R.left ≠ 0 → ¬ R.room - (usedE nd R.now : Int) < (dt.size : Int) → findE p R.now = none → e = .returned (.int .i64 0) ∧ ∃ nb cv', w.heap.size ≤ nb ∧ NewOr w cv cv' ∧
        RDN w' b (RDk.wrote { R with now := afterE R.now ⟨#[]⟩ p nb, chg := R.chg ++ [⟨⟨#[]⟩, p, nb⟩] }) (setNd nd nb (dt, 0)) (nb :: ns) cv' ∧ Gr (fun k => k = b ∨ k ∈ ns ∨ cv.ownBlock = some k) w w') := by
  obtain ⟨nv, sv, hi⟩ := h.is
  have HI := hide hi
  have HNS := hide h.nds
  have HH := hide h
  have HBG := hide (begins_any b R nv sv cv p p w hi hp hp)
  have HU := hide (used_any b R nv sv cv nd ns w hi h.nds h.inow hf.now hf.used)
  have HFD := hide (fun w' (hb : Below w.heap.size w w') => find_any nv R.now p w' (deAt_own (ownsRow_later hi.now hb)) (by have := hf.now; omega))
  obtain ⟨on, cn, hnv⟩ := own_sl hi.now
  subst hnv
  have hr0 := hf.r0
  have hr1 := hf.r1
  have hu1 := hf.used
  clear h hi
  cases hpp : isPathB p with
  | false =>
    rw [hpp] at HBG
    simp only [Bool.false_eq_true, false_and, if_false] at HBG
    have key : Calls Tryz.prog 25 #[.pointer (some ⟨b, 0, none⟩), .string p, .string dt] w fun e w' => e = .returned (.int .i64 2) ∧ Below w.heap.size w w' := by
      go_enter Tryz.func25, Tryz.ntmps25
      go_wp2_with fail
      refine (HBG.out).mono ?_
      rintro _ w1 ⟨hw, rfl⟩
      subst hw
      dsimp only
      go_wp2_with fail
      go_ret
      exact ⟨rfl, Below.refl _ _⟩
    exact key.mono fun e w' h => ⟨fun _ => h, (fun h0 => by cases h0), (fun h0 => by cases h0), (fun _ h0 => by cases h0), (fun h0 => by cases h0)⟩
  | true =>
    rw [hpp] at HBG
    simp only [and_self, if_true] at HBG
    by_cases hl0 : R.left = 0
    · simp only [hl0, decide_true] at HBG
      have key : Calls Tryz.prog 25 #[.pointer (some ⟨b, 0, none⟩), .string p, .string dt] w fun e w' => e = .returned (.int .i64 0) ∧ Below w.heap.size w w' := by
        go_enter Tryz.func25, Tryz.ntmps25
        go_wp2_with fail
        refine (HBG.out).mono ?_
        rintro _ w1 ⟨hw, rfl⟩
        subst hw
        dsimp only
        go_wp2_with fail
        go_ret
        exact ⟨rfl, Below.refl _ _⟩
      exact key.mono fun e w' h => ⟨(fun h0 => by cases h0), fun _ _ => h, fun _ h0 => absurd hl0 h0, fun _ _ h0 => absurd hl0 h0, fun _ h0 => absurd hl0 h0⟩
    · simp only [hl0, decide_false] at HBG
      by_cases hsp : R.room - (usedE nd R.now : Int) < (dt.size : Int)
      · have key : Calls Tryz.prog 25 #[.pointer (some ⟨b, 0, none⟩), .string p, .string dt] w fun e w' => e = .returned (.int .i64 4) ∧ Below w.heap.size w w' := by
          go_enter Tryz.func25, Tryz.ntmps25
          go_wp2_with fail
          refine (HBG.out).mono ?_
          rintro _ w1 ⟨hw, rfl⟩
          subst hw
          dsimp only
          go_wp2_with fail
          refine (HU.out).mono ?_
          rintro _ w2 ⟨rfl, hb2⟩
          dsimp only
          have c0 : w2.cell? ⟨b, 0, none⟩ = some (.int .i64 R.room) := cell_of_row _ _ 0 _ _ _ (HI.out.later hb2).blk
          have c1 : w2.cell? ⟨b, 1, none⟩ = some (.slice on R.now.length cn) := cell_of_row _ _ 1 _ _ _ (HI.out.later hb2).blk
          have HB2 := hide hb2
          clear hb2
          go_wp2_with fail
          go_ret
          exact ⟨rfl, HB2.out⟩
        exact key.mono fun e w' h => ⟨(fun h0 => by cases h0), fun _ h0 => absurd h0 hl0, fun _ _ _ => h, fun _ _ _ h0 => absurd hsp h0, fun _ _ h0 => absurd hsp h0⟩
      · have hsp2 : decide (R.room - (usedE nd R.now : Int) < (dt.size : Int)) = false := decide_eq_false hsp
        cases hfo : findE p R.now with
        | some nb =>
          rw [hfo] at HFD
          dsimp only [ptrOf] at HFD
          have hmem : nb ∈ ns := by
            obtain ⟨e, he, hb⟩ := findE_mem hfo
            rw [← hb]; exact HH.out.inow e he
          obtain ⟨hd1, hd2, hd3⟩ := hf.data nb hmem
          have q : ¬ 9223372036854775807 < (nd nb).1.size + dt.size := by omega
          have key : Calls Tryz.prog 25 #[.pointer (some ⟨b, 0, none⟩), .string p, .string dt] w fun e w' => e = .returned (.int .i64 0) ∧ RDN w' b R.wrote (setNd nd nb ((nd nb).1 ++ dt, (nd nb).2)) ns cv ∧ Gr (fun k => k = b ∨ k ∈ ns) w w' := by
            go_enter Tryz.func25, Tryz.ntmps25
            go_wp2_with fail
            refine (HBG.out).mono ?_
            rintro _ w1 ⟨hw, rfl⟩
            subst hw
            dsimp only
            go_wp2_with fail
            refine (HU.out).mono ?_
            rintro _ w2 ⟨rfl, hb2⟩
            dsimp only
            have c0 : w2.cell? ⟨b, 0, none⟩ = some (.int .i64 R.room) := cell_of_row _ _ 0 _ _ _ (HI.out.later hb2).blk
            have c1 : w2.cell? ⟨b, 1, none⟩ = some (.slice on R.now.length cn) := cell_of_row _ _ 1 _ _ _ (HI.out.later hb2).blk
            have HB2 := hide hb2
            clear hb2
            go_wp2_with fail
            refine (HFD.out _ HB2.out).mono ?_
            rintro _ w3 ⟨rfl, hb3⟩
            dsimp only
            have HB3 := hide (HB2.out.trans (hb3.mono HB2.out.size))
            have HI3 := hide (HI.out.later HB3.out)
            have HN3 := hide (HNS.out.later HB3.out)
            clear hb3 c0 c1
            have n0 : w3.cell? ⟨nb, 0, none⟩ = some (.string (nd nb).1) := cell_of_row _ _ 0 _ _ _ (HN3.out nb hmem)
            have nf := fun j => frozen_of_row w3 nb j _ _ (HN3.out nb hmem)
            have HWN := hide (wrote_node (x := ((nd nb).1 ++ dt, (nd nb).2)) HI3.out HN3.out HH.out.inow HH.out.isafe HH.out.ichg hmem hf.cnt (w3 := w3.setCell ⟨nb, 0, none⟩ (.string ((nd nb).1 ++ dt))) (grownBy_set _ _ _ _) (by rw [heap_setCell_same _ nb 0 _ _ _ (HN3.out nb hmem)]; rfl))
            go_wp2_with fail
            refine (HWN.out).mono ?_
            rintro _ w4 ⟨rfl, hr4, hg4⟩
            dsimp only
            have HR4 := hide hr4
            have HG4 := hide hg4
            clear hr4 hg4
            go_wp2_with fail
            go_ret
            exact ⟨rfl, HR4.out, gr_below HB3.out HG4.out⟩
          exact key.mono fun e w' h => ⟨(fun h0 => by cases h0), fun _ h0 => absurd h0 hl0, fun _ _ h0 => absurd h0 hsp, (fun nb2 _ _ _ h0 => by injection h0 with h0; subst h0; exact h), (fun _ _ _ h0 => by cases h0)⟩
        | none =>
          rw [hfo] at HFD
          dsimp only [ptrOf] at HFD
          have q : ¬ 9223372036854775807 < dt.size := by omega
          have key : Calls Tryz.prog 25 #[.pointer (some ⟨b, 0, none⟩), .string p, .string dt] w fun e w' => e = .returned (.int .i64 0) ∧ ∃ nb cv', w.heap.size ≤ nb ∧ NewOr w cv cv' ∧
              RDN w' b (RDk.wrote { R with now := afterE R.now ⟨#[]⟩ p nb, chg := R.chg ++ [⟨⟨#[]⟩, p, nb⟩] }) (setNd nd nb (dt, 0)) (nb :: ns) cv' ∧ Gr (fun k => k = b ∨ k ∈ ns ∨ cv.ownBlock = some k) w w' := by
            go_enter Tryz.func25, Tryz.ntmps25
            go_wp2_with fail
            refine (HBG.out).mono ?_
            rintro _ w1 ⟨hw, rfl⟩
            subst hw
            dsimp only
            go_wp2_with fail
            refine (HU.out).mono ?_
            rintro _ w2 ⟨rfl, hb2⟩
            dsimp only
            have c0 : w2.cell? ⟨b, 0, none⟩ = some (.int .i64 R.room) := cell_of_row _ _ 0 _ _ _ (HI.out.later hb2).blk
            have c1 : w2.cell? ⟨b, 1, none⟩ = some (.slice on R.now.length cn) := cell_of_row _ _ 1 _ _ _ (HI.out.later hb2).blk
            have HB2 := hide hb2
            clear hb2
            go_wp2_with fail
            refine (HFD.out _ HB2.out).mono ?_
            rintro _ w3 ⟨rfl, hb3⟩
            dsimp only
            have HB3 := hide (HB2.out.trans (hb3.mono HB2.out.size))
            have HI3 := hide (HI.out.later HB3.out)
            have HN3 := hide (HNS.out.later HB3.out)
            clear hb3 c0 c1
            have hb4 : Below w3.heap.size w3 (w3.alloc (.cells #[.string ⟨#[]⟩, .int .i64 0] 63)) := (Below.refl _ _).alloc (Nat.le_refl _) _
            have HCH := hide (changes_any b w3.heap.size R _ sv cv ⟨#[]⟩ p _ (HI3.out.later hb4) hf.now hf.chg)
            have HB4 := hide hb4
            clear hb4
            go_wp2_with fail
            refine (HCH.out).mono ?_
            rintro _ w5 ⟨rfl, hg5, nv5, cv5, hi5, hno5⟩
            dsimp only
            have hs4 : w3.heap.size < (w3.alloc (.cells #[.string ⟨#[]⟩, .int .i64 0] 63)).heap.size := by rw [size_alloc]; omega
            have hcl : ∀ k, cv.ownBlock = some k → k < w3.heap.size := fun k hk => (HI3.out.chg.lt k hk).2
            have hb3 := lt_of_row HI3.out.blk
            have hnb5 : w5.heap[w3.heap.size]? = some (.cells #[.string ⟨#[]⟩, .int .i64 0] 63 (0, 0)) := (hg5.block _ hs4 (fun hS => hS.elim (fun e => by omega) (fun e => by have := hcl _ e; omega))).trans (heap_alloc_new _ _)
            have hnd5 : NDs w5 (setNd nd w3.heap.size (⟨#[]⟩, 0)) (w3.heap.size :: ns) := by
              intro k hk
              by_cases e : k = w3.heap.size
              · subst e
                simp only [setNd, if_true]
                exact hnb5
              · have hk2 : k ∈ ns := by simpa [e] using hk
                have hkn := HN3.out k hk2
                simp only [setNd, if_neg e]
                obtain ⟨e1, -, -, e4⟩ := RDN.node_ne HN3.out HI3.out hk2
                exact (hg5.block k (Nat.lt_trans (lt_of_row hkn) hs4) (fun hS => hS.elim (fun e => e1 e) (fun e => e4 k e rfl))).trans ((HB4.out.block k (lt_of_row hkn)).trans hkn)
            have n0 : w5.cell? ⟨w3.heap.size, 0, none⟩ = some (.string ⟨#[]⟩) := cell_of_row _ _ 0 _ _ _ hnb5
            have nf := fun j => frozen_of_row w5 w3.heap.size j _ _ hnb5
            have HK5 := hide hi5
            have HND5 := hide hnd5
            have HG5 := hide hg5
            have HNO5 := hide hno5
            have HNB5 := hide hnb5
            clear hi5 hnd5 hg5 hno5 hnb5
            have HWN := hide (wrote_node (x := (⟨#[]⟩ ++ dt, 0)) HK5.out HND5.out (fun e he => by
                rcases afterE_mem he with h0 | h0
                · exact List.mem_cons_of_mem _ (HH.out.inow e h0)
                · rw [h0]; exact List.mem_cons_self) (fun e he => List.mem_cons_of_mem _ (HH.out.isafe e he)) (fun c hc => by
                rcases List.mem_append.1 hc with h0 | h0
                · exact List.mem_cons_of_mem _ (HH.out.ichg c h0)
                · simp only [List.mem_singleton] at h0; rw [h0]; exact List.mem_cons_self) List.mem_cons_self hf.cnt (w3 := w5.setCell ⟨w3.heap.size, 0, none⟩ (.string (⟨#[]⟩ ++ dt))) (grownBy_set _ _ _ _) (by rw [heap_setCell_same _ w3.heap.size 0 _ _ _ HNB5.out]; rfl))
            go_wp2_with fail
            refine (HWN.out).mono ?_
            rintro _ w6 ⟨rfl, hr6, hg6⟩
            dsimp only
            rw [setNd_twice, empty_app] at hr6
            have HR6 := hide hr6
            have hfr : Gr (fun k => k = b ∨ k ∈ ns ∨ cv.ownBlock = some k) w1 w6 := by
              refine ⟨hg6.os.trans (HG5.out.os.trans (HB4.out.os.trans HB3.out.os)), hg6.tape.trans (HG5.out.tape.trans (HB4.out.tape.trans HB3.out.tape)), hg6.output.trans (HG5.out.output.trans (HB4.out.output.trans HB3.out.output)), Nat.le_trans HB3.out.size (Nat.le_trans HB4.out.size (Nat.le_trans HG5.out.size hg6.size)), fun k hk hs => ?_⟩
              have k3 : k < w3.heap.size := Nat.lt_of_lt_of_le hk HB3.out.size
              have e6 := hg6.block k (Nat.lt_of_lt_of_le (Nat.lt_of_lt_of_le k3 HB4.out.size) HG5.out.size) (fun hS => hS.elim (fun e => hs (.inl e)) (fun e => by
                rcases List.mem_cons.1 e with e | e
                · omega
                · exact hs (.inr (.inl e))))
              exact e6.trans ((HG5.out.block k (Nat.lt_of_lt_of_le k3 HB4.out.size) (fun hS => hS.elim (fun e => hs (.inl e)) (fun e => hs (.inr (.inr e))))).trans ((HB4.out.block k k3).trans (HB3.out.block k hk)))
            have HFR := hide hfr
            clear hr6 hg6 hfr
            go_wp2_with fail
            go_ret
            exact ⟨rfl, w3.heap.size, cv5, HB3.out.size, newOr_low HB3.out.size HB4.out.size HNO5.out, HR6.out, HFR.out⟩
          exact key.mono fun e w' h => ⟨(fun h0 => by cases h0), fun _ h0 => absurd h0 hl0, fun _ _ h0 => absurd h0 hsp, (fun _ _ _ _ h0 => by cases h0), fun _ _ _ _ => h⟩
end Go.Proofs.YtjipdjkcdoajbaaGreatDoor
