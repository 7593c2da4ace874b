/-
  PROVED HERE: what Open leaves on a disk that has crashed or is new, and what a crash leaves then; no walk.
-/
import Derived.Test.YteicpbcddjjceaaGreatDoorErPure
import Derived.Test.YteicpbcddjjceaaGreatDoorPdFit
import Derived.Test.YteicpbcddjjceaaGreatDoorPdList
import Derived.Test.YteicpbcddjjceaaGreatDoorPdRem
import Derived.Test.YteicpbcddjjceaaGreatDoorStGoOn
import Derived.Defers
import Derived.Recover
namespace Go.Proofs.YteicpbcddjjceaaGreatDoor
open Go.RowKit
theorem nodup_le {α : Type} [DecidableEq α] : ∀ (l s : List α), l.Pairwise (· ≠ ·) → (∀ x ∈ l, x ∈ s) → l.length ≤ s.length
  | [], _, _, _ => Nat.zero_le _
  | a :: l, s, hn, hs => by
    have h1 := List.pairwise_cons.1 hn
    have ha : a ∈ s := hs a (by simp)
    have := nodup_le l (s.erase a) h1.2 (fun x hx => (List.mem_erase_of_ne (Ne.symm (h1.1 x hx))).2 (hs x (by simp [hx])))
    rw [List.length_erase_of_mem ha] at this
    have : 0 < s.length := List.length_pos_of_mem ha
    simp only [List.length_cons]
    omega
theorem six_len {l : List DE} (hr : Rise l) (hs : ∀ e ∈ l, e.path ∈ six) : l.length ≤ 6 := by
  have := nodup_le (l.map DE.path) six (List.pairwise_map.2 (hr.imp (fun h => less_ne h))) (fun x hx => by
    obtain ⟨e, he, rfl⟩ := List.mem_map.1 hx
    exact hs e he)
  rwa [List.length_map] at this
theorem rmS_all (now : List DE) : rmS (fun _ => true) now = (now.map DE.path).reverse.map sRm := by
  unfold rmS
  rw [List.filter_eq_self.2 (fun _ _ => rfl)]
theorem wrS_begin : wrS beginFl = [sAp p0 ⟨#[]⟩, sAp p1 emptyT, sAp p2 layoutT, sSy p0, sSy p1, sSy p2, sRn p0 journalP, sRn p1 indexP, sRn p2 layoutP, sSd] := by
  rw [← bPath0, ← bPath1, ← bPath2]
  rfl
/-- At rest: no change of paths is under way. -/
structure Er (D : DS) : Prop where
  ea : Ea D
  chg : D.R.chg = []
theorem Er.now {D : DS} (h : Er D) : D.R.now = D.R.safe := by
  have := h.ea.inv.go
  rw [h.chg] at this
  exact this
theorem Er.or {D : DS} (h : Er D) : findE layoutP D.R.now = none ∨ ThreeL D.fd D.R.now := by
  have := h.ea.each 0
  rw [List.take_zero] at this
  rw [h.now]
  exact this
theorem Er.mid {D : DS} (h : Er D) (hn : findE layoutP D.R.now = none) : Mid D := by
  refine ⟨fun m => ?_, h.ea.six, h.ea.dat, h.ea.rise, h.ea.inv⟩
  rw [h.chg, List.take_nil]
  show findE layoutP D.R.safe = none
  rw [← h.now]
  exact hn
theorem begin_pure {D D' : DS} {k : Int} (h : Er D) (hn : findE layoutP D.R.now = none) (hr : 36 ≤ D.R.room) (hb : BgR D k D') : k = 0 ∧ Kp D D' ∧ Ea D' ∧ (D.R.left = -1 → Rest3 D') := by
  rcases hb with ⟨h1, _⟩ | ⟨_, k1, m, D1, h1, h2⟩
  · omega
  · rw [rmS_all] at h1
    obtain ⟨rfl, m1, _, _, kp1, hor⟩ := rm_all _ _ rfl rfl (h.mid hn) h1
    rcases h2 with ⟨h2, _⟩ | ⟨_, m2, D2, h3, h4⟩
    · exact absurd rfl h2
    · rw [wrS_begin] at h3
      have key : k = 0 ∧ Kp D1 D2 ∧ Ea D2 ∧ (D2.R.left = -1 → Rest3 D2) := by
        by_cases hl : D1.R.left = 0
        · obtain ⟨rfl, rfl⟩ := ran_zero (by decide +kernel) hl h3
          exact ⟨rfl, Kp.refl _, m1.ea, fun e => by rw [hl] at e; cases e⟩
        · have hn1 : D1.R.now = [] := hor.resolve_left hl
          obtain ⟨rfl, kp2, hc⟩ := begin10 m1 hn1 (by rw [kp1.1]; exact hr) h3
          rcases hc with ⟨a, b⟩ | ⟨a, b⟩ | ⟨a, b⟩
          · exact ⟨rfl, kp2, a.ea, fun e => by rw [b] at e; cases e⟩
          · exact ⟨rfl, kp2, a, fun e => by rw [b] at e; cases e⟩
          · exact ⟨rfl, kp2, a, fun _ => b⟩
      obtain ⟨rfl, kp2, e2, r2⟩ := key
      rcases h4 with ⟨_, rfl⟩ | ⟨h4, _⟩
      · exact ⟨rfl, kp1.trans kp2, e2, fun e => r2 ((kp1.trans kp2).2 e)⟩
      · exact absurd rfl h4
theorem go_pure {D D' : DS} {k : Int} (h : Er D) (h3 : ThreeL D.fd D.R.now) (hg : GoR D k D') : k = 0 ∧ Kp D D' ∧ Ea D' ∧ Rest3 D' := by
  obtain ⟨k1, m, D1, h1, h2⟩ := hg
  have hrm : rmS foreignB D.R.now = [] := by
    obtain ⟨y, x, z, e, _⟩ := h3
    rw [e]
    have f1 : foreignB indexP = false := by decide +kernel
    have f2 : foreignB journalP = false := by decide +kernel
    have f3 : foreignB layoutP = false := by decide +kernel
    simp [rmS, f1, f2, f3]
  rw [hrm] at h1
  obtain ⟨rfl, _, e1⟩ := h1
  rw [e1] at h2
  rcases h2 with ⟨h2, _⟩ | ⟨_, hs⟩
  · exact absurd rfl h2
  · by_cases hl : D.R.left = 0
    · obtain ⟨rfl, e2⟩ := st_zero hs rfl hl
      rw [e2]
      exact ⟨rfl, Kp.refl _, h.ea, h3, h.now.symm, h.chg⟩
    · obtain ⟨rfl, rfl⟩ := st_sd hs hl
      refine ⟨rfl, ⟨rfl, fun e => wrote_whole e⟩, ⟨fun m => .inr ?_, fun m e he => ?_, h.ea.dat, ?_, h.ea.inv.sync.wrote⟩, h3, rfl, rfl⟩
      · show ThreeL _ (goE _ (List.take m []))
        rw [List.take_nil]
        exact h3
      · have he : e ∈ goE D.R.now (List.take m []) := he
        rw [List.take_nil] at he
        have he : e ∈ D.R.now := he
        have := h.ea.six 0 e
        rw [List.take_zero] at this
        rw [h.now] at he
        exact this he
      · show Rise D.R.now
        rw [h.now]
        exact h.ea.rise
theorem rd_lay {D : DS} : rdD D layoutP = none ↔ findE layoutP D.R.now = none := by
  unfold rdD
  have : ¬ isPathB layoutP = false := by decide
  rw [if_neg this, Option.map_eq_none_iff]
theorem open_pure {D D' : DS} {k : Int} (h : Er D) (hr : 36 ≤ D.R.room) (hb : OpR D k D') : k = 0 ∧ Kp D D' ∧ Ea D' ∧ (D.R.left = -1 → Rest3 D') := by
  rcases hb with ⟨h1, h2⟩ | ⟨⟨t, c, _, _, _, _, _, _, hs⟩, h2⟩
  · exact begin_pure h (rd_lay.1 h1) hr h2
  · rcases h.or with hn | h3
    · rw [rd_lay.2 hn] at hs
      cases hs
    · obtain ⟨a, b, c, d⟩ := go_pure h h3 h2
      exact ⟨a, b, c, fun _ => d⟩
theorem read_empty : ∃ c, readS emptyT = .ok [] c := ⟨23, by kernel_rfl⟩
theorem three_q {D : DS} (h : ThreeL D.fd D.R.now) : OpQ D := by
  obtain ⟨y, x, z, e, fx, fy, fz⟩ := h
  obtain ⟨c, hc⟩ := read_empty
  have q1 : isPathB indexP = true := by decide
  have q2 : isPathB layoutP = true := by decide
  have n1 : indexP ≠ layoutP := by decide
  have n2 : journalP ≠ layoutP := by decide
  have n3 : indexP ≠ p1 := by decide
  have n4 : journalP ≠ p1 := by decide
  have n5 : layoutP ≠ p1 := by decide
  have n6 : indexP ≠ pruningP := by decide
  have n7 : journalP ≠ pruningP := by decide
  have n8 : layoutP ≠ pruningP := by decide
  refine ⟨emptyT, c, ?_, by decide, hc, ?_, ?_, ?_, ?_⟩
  · simp [rdD, e, findE, q1, fy]
  · have f1 : dgB indexP = false := by decide +kernel
    have f2 : dgB journalP = false := by decide +kernel
    have f3 : dgB layoutP = false := by decide +kernel
    rw [e]
    intro d hd
    simp only [List.mem_cons, List.not_mem_nil, or_false] at hd
    rcases hd with rfl | rfl | rfl
    · exact f1
    · exact f2
    · exact f3
  · rw [bPath1]
    simp [rdD, e, findE, n3, n4, n5]
  · simp [rdD, e, findE, n6, n7, n8]
  · simp [rdD, e, findE, q2, n1, n2]
theorem Er.case {D : DS} (h : Er D) : rdD D layoutP = none ∨ OpQ D := by
  rcases h.or with hn | h3
  · exact .inl (rd_lay.2 hn)
  · exact .inr (three_q h3)
/-- Files that are synced whole stay in a crash. -/
theorem cut_whole (d : ByteArray) (k : Int) : cutK (d, (d.size : Int)) k = (d, (d.size : Int)) := by
  have : ((d.size : Int) + min (max k 0) ((d.size : Int) - (d.size : Int))).toNat = d.size := by omega
  unfold cutK
  simp only [this]
  congr 1
  exact ByteArray.ext (by simp [ByteArray.extract_zero_size])
theorem crash_same : ∀ (l : List DE) (fd : Nat → ByteArray × Int) (ks : List Int), (∀ e ∈ l, ∀ k, cutK (fd e.blk) k = fd e.blk) → crashN fd l ks = fd
  | [], _, _, _ => rfl
  | e :: l, fd, ks, h => by
    show crashN (setNd fd e.blk (cutK (fd e.blk) (ks.headD 0))) l ks.tail = fd
    rw [h e (by simp)]
    have : setNd fd e.blk (fd e.blk) = fd := by
      funext x
      unfold setNd
      split
      · next hx => rw [hx]
      · rfl
    rw [this]
    exact crash_same l fd _ (fun x hx => h x (by simp [hx]))
theorem three_crash {fd : Nat → ByteArray × Int} {l : List DE} (h : ThreeL fd l) (ks : List Int) : crashN fd l ks = fd := by
  obtain ⟨y, x, z, rfl, fx, fy, fz⟩ := h
  refine crash_same _ fd ks (fun e he k => ?_)
  simp only [List.mem_cons, List.not_mem_nil, or_false] at he
  rcases he with rfl | rfl | rfl
  · show cutK (fd y) k = fd y
    rw [fy]
    exact cut_whole emptyT k
  · show cutK (fd x) k = fd x
    rw [fx]
    exact cut_whole ⟨#[]⟩ k
  · show cutK (fd z) k = fd z
    rw [fz]
    exact cut_whole layoutT k
/-- What a crash leaves. -/
def crD (D : DS) (n : Nat) (ks : List Int) : DS := ⟨{ D.R with now := goE D.R.safe (D.R.chg.take n), safe := goE D.R.safe (D.R.chg.take n), chg := [], left := -1 }, D.fs, crashN D.fd (goE D.R.safe (D.R.chg.take n)) ks⟩
theorem crash_er {D : DS} {L C B : Nat} (h : Ea D) (hf : DFit D L C B) (n : Nat) (ks : List Int) : Er (crD D n ks) ∧ DFit (crD D n ks) 6 C 36 := by
  have hin : ∀ e ∈ goE D.R.safe (D.R.chg.take n), e.blk ∈ D.fs := fun e he => by
    rcases goE_mem _ he with he | ⟨c, hc, e1⟩
    · exact hf.isafe e he
    · rw [e1]
      exact hf.ichg c (List.mem_of_mem_take hc)
  have hdat : ∀ f ∈ D.fs, FitB 36 (crashN D.fd (goE D.R.safe (D.R.chg.take n)) ks f) := fun f hf' => crashN_fit _ _ _ (fun e he => h.dat _ (hin e he)) f (h.dat f hf')
  have hrise : Rise (goE D.R.safe (D.R.chg.take n)) := go_rise _ h.rise
  have hne : NoEmp (goE D.R.safe (D.R.chg.take n)) := goE_noEmp _ h.inv.ne
  have hinv : Inv (crD D n ks).R := ⟨rfl, hne⟩
  refine ⟨⟨⟨fun m => ?_, fun m e he => ?_, hdat, hrise, hinv⟩, rfl⟩, ?_⟩
  · show findE layoutP (goE (goE D.R.safe (D.R.chg.take n)) (List.take m [])) = none ∨ ThreeL (crashN D.fd (goE D.R.safe (D.R.chg.take n)) ks) (goE (goE D.R.safe (D.R.chg.take n)) (List.take m []))
    rw [List.take_nil]
    rcases h.each n with h1 | h1
    · exact .inl h1
    · refine .inr ?_
      rw [three_crash h1]
      exact h1
  · have he : e ∈ goE (goE D.R.safe (D.R.chg.take n)) (List.take m []) := he
    rw [List.take_nil] at he
    exact h.six n e he
  · have hlen := six_len hrise (fun e he => h.six n e he)
    exact ⟨by show (goE D.R.safe (D.R.chg.take n)).length + 0 ≤ 6; omega, hf.c0, hf.c1, by show (-1 : Int) ≤ -1; omega, by show (-1 : Int) ≤ _; omega, hf.r0, hf.r1, hdat, (fun c hc => by cases hc), hinv, hin, hin, (fun c hc => by cases hc), hrise⟩
end Go.Proofs.YteicpbcddjjceaaGreatDoor

/-
  PROVED HERE: the entry points on disks (package blobs) that stores' statements call: Break, List, Crash, Copy, NewDisk, Read.
-/
namespace Go.Proofs.YteicpbcddjjceaaGreatDoor
open Go.RowKit
def WRet (s : PSt) (w : World) (k : Int) (P : PSt → Prop) (e : Ending) (w' : World) : Prop := e = .returned (.int .i64 k) ∧ (k ≠ 0 → Below w.heap.size w w') ∧ (k = 0 → ∃ s1, PGo s s1 w w' ∧ P s1)
/-- The block that an entry point holds: the disk within. -/
def BD (w : World) (d b : Nat) : Prop := w.heap[d]? = some (.cells #[.pointer (some ⟨b, 0, none⟩)] 49 (0, 0))
set_option maxHeartbeats 1000000 in
set_option maxRecDepth 100000 in
theorem wBreak (s : PSt) (d : Nat) (n : Int) (w : World) (k : Int) (P : PSt → Prop) (hd : BD w d s.b) (hg : w.cell? ⟨0, 0, none⟩ = some errT)
    (h : Calls Tryz.prog 42 #[.pointer (some ⟨s.b, 0, none⟩), .int .i64 n] w fun e w' => ∃ v, e = .returned v ∧ PRet s w k P v w') :
    Calls Tryz.prog 15 #[.pointer (some ⟨d, 0, none⟩), .int .i64 n] w (WRet s w k P) := by
  have H := hide h
  have HG := hide hg
  have c0 : w.cell? ⟨d, 0, none⟩ = some (.pointer (some ⟨s.b, 0, none⟩)) := cell_of_row _ _ 0 _ _ _ hd
  clear h hg hd
  go_enter Tryz.func15, Tryz.ntmps15
  go_wp2_with fail
  refine H.out.mono ?_
  rintro _ w1 ⟨v, rfl, hr⟩
  dsimp only
  have HR := hide (errno_ret hr HG.out)
  clear hr
  go_wp2_with fail
  refine HR.out.mono ?_
  rintro _ w2 ⟨rfl, hp⟩
  dsimp only
  have HP := hide hp
  clear hp
  go_wp2_with fail
  go_ret
  exact ⟨rfl, HP.out⟩
set_option maxHeartbeats 1000000 in
set_option maxRecDepth 100000 in
theorem wList (d b : Nat) (Q : Value → World → Prop) (w : World) (hd : BD w d b) 
    (h : Calls Tryz.prog 56 #[.pointer (some ⟨b, 0, none⟩)] w fun e w' => ∃ v, e = .returned v ∧ Q v w') :
    Calls Tryz.prog 27 #[.pointer (some ⟨d, 0, none⟩)] w fun e w' => ∃ v, e = .returned (.tuple #[v, .int .i64 0]) ∧ Q v w' := by
  have H := hide h
  have c0 : w.cell? ⟨d, 0, none⟩ = some (.pointer (some ⟨b, 0, none⟩)) := cell_of_row _ _ 0 _ _ _ hd
  clear h hd
  go_enter Tryz.func27, Tryz.ntmps27
  go_wp2_with fail
  refine H.out.mono ?_
  rintro _ w1 ⟨v, rfl, hq⟩
  dsimp only
  have HQ := hide hq
  clear hq
  go_wp2_with fail
  refine bodyPost_ret (results_tmp2 rfl _ _ _) rfl ?_
  exact ⟨v, rfl, HQ.out⟩
set_option maxHeartbeats 1000000 in
set_option maxRecDepth 100000 in
theorem wCrash (d b : Nat) (n : Int) (kv : Value) (Q : World → Prop) (w : World) (hd : BD w d b) 
    (h : Calls Tryz.prog 46 #[.pointer (some ⟨b, 0, none⟩), .int .i64 n, kv] w fun e w' => e = .returned (.tuple #[]) ∧ Q w') :
    Calls Tryz.prog 18 #[.pointer (some ⟨d, 0, none⟩), .int .i64 n, kv] w fun e w' => e = .returned (.int .i64 0) ∧ Q w' := by
  have H := hide h
  have c0 : w.cell? ⟨d, 0, none⟩ = some (.pointer (some ⟨b, 0, none⟩)) := cell_of_row _ _ 0 _ _ _ hd
  clear h hd
  go_enter Tryz.func18, Tryz.ntmps18
  go_wp2_with fail
  refine H.out.mono ?_
  rintro _ w1 ⟨rfl, hq⟩
  dsimp only
  have HQ := hide hq
  clear hq
  go_wp2_with fail
  go_ret
  exact ⟨rfl, HQ.out⟩
set_option maxHeartbeats 1000000 in
set_option maxRecDepth 100000 in
theorem wCopy (d b : Nat) (Q : Nat → World → Prop) (w : World) (hd : BD w d b) 
    (h : Calls Tryz.prog 47 #[.pointer (some ⟨b, 0, none⟩)] w fun e w' => ∃ g, e = .returned (.pointer (some ⟨g, 0, none⟩)) ∧ Q g w') :
    Calls Tryz.prog 19 #[.pointer (some ⟨d, 0, none⟩)] w fun e w' => ∃ g w1, e = .returned (.tuple #[.pointer (some ⟨w1.heap.size, 0, none⟩), .int .i64 0]) ∧ w' = w1.alloc (.cells #[.pointer (some ⟨g, 0, none⟩)] 49) ∧ Q g w1 := by
  have H := hide h
  have c0 : w.cell? ⟨d, 0, none⟩ = some (.pointer (some ⟨b, 0, none⟩)) := cell_of_row _ _ 0 _ _ _ hd
  clear h hd
  go_enter Tryz.func19, Tryz.ntmps19
  go_wp2_with fail
  refine H.out.mono ?_
  rintro _ w1 ⟨g, rfl, hq⟩
  dsimp only
  have HQ := hide hq
  clear hq
  go_wp2_with fail
  refine bodyPost_ret (results_tmp2 rfl _ _ _) rfl ?_
  exact ⟨g, w1, rfl, rfl, HQ.out⟩
set_option maxHeartbeats 1000000 in
set_option maxRecDepth 100000 in
theorem wNewDisk (n : Int) (Q : Nat → World → Prop) (w : World) 
    (h : Calls Tryz.prog 14 #[.int .i64 n] w fun e w' => ∃ g, e = .returned (.pointer (some ⟨g, 0, none⟩)) ∧ Q g w') :
    Calls Tryz.prog 5 #[.int .i64 n] w fun e w' => ∃ g w1, e = .returned (.pointer (some ⟨w1.heap.size, 0, none⟩)) ∧ w' = w1.alloc (.cells #[.pointer (some ⟨g, 0, none⟩)] 49) ∧ Q g w1 := by
  have H := hide h
  clear h
  go_enter Tryz.func5, Tryz.ntmps5
  go_wp2_with fail
  refine H.out.mono ?_
  rintro _ w1 ⟨g, rfl, hq⟩
  dsimp only
  have HQ := hide hq
  clear hq
  go_wp2_with fail
  go_ret
  exact ⟨g, w1, rfl, rfl, HQ.out⟩
set_option maxHeartbeats 1000000 in
set_option maxRecDepth 100000 in
theorem wRead (s : PSt) (d : Nat) (p : ByteArray) (w : World) (k : Int) (P : PSt → Prop) (t : ByteArray) (hd : BD w d s.b) (hg : w.cell? ⟨0, 0, none⟩ = some errT)
    (h : Calls Tryz.prog 53 #[.pointer (some ⟨s.b, 0, none⟩), .string p] w fun e w' => ∃ v, e = .returned (.tuple #[.string t, v]) ∧ PRet s w k P v w') :
    Calls Tryz.prog 28 #[.pointer (some ⟨d, 0, none⟩), .string p] w fun e w' => e = .returned (.tuple #[.string t, .int .i64 k]) ∧ (k ≠ 0 → Below w.heap.size w w') ∧ (k = 0 → ∃ s1, PGo s s1 w w' ∧ P s1) := by
  have H := hide h
  have HG := hide hg
  have c0 : w.cell? ⟨d, 0, none⟩ = some (.pointer (some ⟨s.b, 0, none⟩)) := cell_of_row _ _ 0 _ _ _ hd
  clear h hg hd
  go_enter Tryz.func28, Tryz.ntmps28
  go_wp2_with fail
  refine H.out.mono ?_
  rintro _ w1 ⟨v, rfl, hr⟩
  dsimp only
  have HR := hide (errno_ret hr HG.out)
  clear hr
  go_wp2_with fail
  refine HR.out.mono ?_
  rintro _ w2 ⟨rfl, hp⟩
  dsimp only
  have HP := hide hp
  clear hp
  go_wp2_with fail
  refine bodyPost_ret (results_tmp2 rfl _ _ _) rfl ?_
  exact ⟨rfl, HP.out⟩
end Go.Proofs.YteicpbcddjjceaaGreatDoor

/-
  PROVED HERE: what the program's function reading answers: it calls whoever reads an index, and tells the place at which it gave up.
-/
namespace Go.Proofs.YteicpbcddjjceaaGreatDoor
open Go.RowKit
set_option maxRecDepth 100000 in
theorem placeOf_any (p : Nat) (w : World) : Calls Tryz.prog 73 #[.iface 220 (.int .i64 ((p : Nat) : Int))] w fun e w' => e = .returned (.int .i64 ((p : Nat) : Int)) ∧ w' = w := by
  have hta : ∀ w : World, (Instr.typeAssert (.iface 220 (.int .i64 ((p : Nat) : Int))) 20 220 true).run Tryz.prog w = .ok (.tuple #[.int .i64 ((p : Nat) : Int), .bool true]) w := fun w => by kernel_rfl
  have hnot : ∀ (x : Bool) (w : World), (Op.unary .not (.bool x)).run Tryz.prog w = .ok (.bool (!x)) w := fun _ _ => rfl
  go_enter Tryz.func73, Tryz.ntmps73
  go_wp2
  go_ret
  exact ⟨rfl, rfl⟩
set_option maxRecDepth 100000 in
theorem catch_panicking (p q : Nat) (x y : Int) (n : Nat) (older : List PanicEntry) (w : World) (hc : w.cell? ⟨p, 0, none⟩ = some (.int .i64 x)) (hz : w.frozen? ⟨p, 0, none⟩ = false) (hc2 : w.cell? ⟨q, 0, none⟩ = some (.int .i64 y)) (hz2 : w.frozen? ⟨q, 0, none⟩ = false) (hne : p ≠ q) :
    CallsD Tryz.prog 72 #[.pointer (some ⟨p, 0, none⟩), .pointer (some ⟨q, 0, none⟩)] (.panicking ({ v := .iface 220 (.int .i64 ((n : Nat) : Int)), recovered := false } :: older)) w fun e u' w' =>
      e = .returned (.tuple #[]) ∧ u' = .panicking ({ v := .iface 220 (.int .i64 ((n : Nat) : Int)), recovered := true } :: older) ∧ w' = (w.setCell ⟨p, 0, none⟩ (.int .i64 7)).setCell ⟨q, 0, none⟩ (.int .i64 ((n : Nat) : Int)) := by
  refine callsD_of_wpS Tryz.func72 rfl fun c₀ cs hu => ?_
  apply wpS_seq
  apply wpS_region
  simp [wpOpsS, go_sem, recoverD, hu, Tryz.ntmps72, Exit.thenS]
  apply wpS_seq
  apply wpS_region
  simp [wpOpsS, go_sem, Exit.thenS]
  refine wpS_cond (t := true) (by simp [Act.eval, Array.replicate]) ?_
  simp only [if_true]
  refine wpS_of_wp ?_
  simp only [Array.replicate, List.replicate, List.setIfInBounds_toArray, List.set_cons_zero, List.set_cons_succ, List.append_toArray, List.cons_append, List.nil_append]
  go_wp2_with (go_at_call 73; refine (placeOf_any _ _).mono ?_; rintro e w1 ⟨rfl, rfl⟩)
  simp [bodyPostS, results, Tryz.results72]
set_option maxRecDepth 100000 in
theorem catch_idle (p q : Nat) (w : World) :
    CallsD Tryz.prog 72 #[.pointer (some ⟨p, 0, none⟩), .pointer (some ⟨q, 0, none⟩)] .returning w fun e u' w' => e = .returned (.tuple #[]) ∧ u' = .returning ∧ w' = w := by
  refine callsD_of_wpS Tryz.func72 rfl fun c₀ cs hu => ?_
  apply wpS_seq
  apply wpS_region
  simp [wpOpsS, go_sem, recoverD, hu, Tryz.ntmps72, Exit.thenS]
  apply wpS_seq
  apply wpS_region
  simp [wpOpsS, go_sem, Exit.thenS]
  refine wpS_cond (t := false) (by simp [Act.eval, Array.replicate]) ?_
  simp only [Bool.false_eq_true, if_false]
  refine wpS_of_wp (wp_skip ?_)
  cases c₀
  simp_all [bodyPostS, results, Tryz.results72]
set_option maxHeartbeats 1000000 in
set_option maxRecDepth 100000 in
theorem reading_any (K : Nat) (cap : Array Value) (w : World) (G : World → Prop) (B : Nat → World → Prop)
    (hcf : ∀ (args : Array Value) (w : World), (callFunc K args).run Tryz.prog w = .ok (.enter K args) w)
    (hv : Calls Tryz.prog K cap ((w.alloc (.cells #[.int .i64 0] 32)).alloc (.cells #[.int .i64 0] 3)) fun e W => (W.heap[w.heap.size]? = some (.cells #[.int .i64 0] 32 (0, 0)) ∧ W.heap[w.heap.size + 1]? = some (.cells #[.int .i64 0] 3 (0, 0))) ∧ ((e = .returned (.tuple #[]) ∧ G W) ∨ (∃ p, e = gaveUp p ∧ B p W))) :
    Calls Tryz.prog 43 #[.func (.func K) #[] cap] w fun e w' =>
      (∃ W, G W ∧ e = .returned (.tuple #[.int .i64 0, .int .i64 0]) ∧ w' = (W.setCell ⟨w.heap.size, 0, none⟩ (.int .i64 0)).setCell ⟨w.heap.size + 1, 0, none⟩ (.int .i64 0)) ∨
      (∃ p W, B p W ∧ e = .returned (.tuple #[.int .i64 7, .int .i64 ((p : Nat) : Int)]) ∧ w' = (W.setCell ⟨w.heap.size, 0, none⟩ (.int .i64 7)).setCell ⟨w.heap.size + 1, 0, none⟩ (.int .i64 ((p : Nat) : Int))) := by
  have HV := hide hv
  clear hv
  have hmf : ∀ (fn : Fn) (first cap : Array Value) (w : World), (Instr.makeFunc fn first cap).run Tryz.prog w = .ok (.func fn first cap) w := fun _ _ _ _ => rfl
  go_enter_defers Tryz.func43, Tryz.ntmps43
  go_wp2_with fail
  refine HV.out.mono ?_
  rintro e W ⟨⟨r0, r1⟩, (⟨rfl, hG⟩ | ⟨p, rfl, hB⟩)⟩
  · dsimp only
    have c0 : W.cell? ⟨w.heap.size, 0, none⟩ = some (.int .i64 0) := cell_of_row W _ 0 _ _ _ r0
    have c1 : W.cell? ⟨w.heap.size + 1, 0, none⟩ = some (.int .i64 0) := cell_of_row W _ 0 _ _ _ r1
    have f0 := frozen_of_row W w.heap.size 0 _ _ r0
    have f1 := frozen_of_row W (w.heap.size + 1) 0 _ _ r1
    have HG := hide hG
    clear hG r0 r1
    go_wp2_with fail
    refine leaves_cons (f := 72) (args := #[.pointer (some ⟨w.heap.size, 0, none⟩), .pointer (some ⟨w.heap.size + 1, 0, none⟩)]) (by simp) (by simp [go_sem]) ?_
    refine (catch_idle w.heap.size (w.heap.size + 1) _).mono ?_
    rintro e u' w'' ⟨rfl, rfl, rfl⟩
    refine ⟨.tuple #[.int .i64 0, .int .i64 0], ?_, Or.inl ⟨W, HG.out, rfl, rfl⟩⟩
    simp [results, Tryz.results43, go_sem, c0, c1]
  · dsimp only [gaveUp]
    have c0 : W.cell? ⟨w.heap.size, 0, none⟩ = some (.int .i64 0) := cell_of_row W _ 0 _ _ _ r0
    have c1 : W.cell? ⟨w.heap.size + 1, 0, none⟩ = some (.int .i64 0) := cell_of_row W _ 0 _ _ _ r1
    have f0 := frozen_of_row W w.heap.size 0 _ _ r0
    have f1 := frozen_of_row W (w.heap.size + 1) 0 _ _ r1
    refine leaves_cons (f := 72) (args := #[.pointer (some ⟨w.heap.size, 0, none⟩), .pointer (some ⟨w.heap.size + 1, 0, none⟩)]) (by simp) (by simp [go_sem]) ?_
    refine (catch_panicking w.heap.size (w.heap.size + 1) 0 0 p [] _ c0 f0 c1 f1 (by omega)).mono ?_
    rintro e u' w'' ⟨rfl, rfl, rfl⟩
    refine ⟨.tuple #[.int .i64 7, .int .i64 ((p : Nat) : Int)], ?_, Or.inr ⟨p, W, hB, rfl, rfl⟩⟩
    simp [results, Tryz.results43, go_sem, c0, c1]
end Go.Proofs.YteicpbcddjjceaaGreatDoor
