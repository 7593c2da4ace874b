/-
  PROVED HERE: what the program's function Read of package index answers, or at which place it gives up.
-/
import Derived.Test.YteicpbcddjjceaaGreatDoorTopC
import Derived.Deep.RegionHeld3
import Derived.Test.YteicpbcddjjceaaGreatDoorByteOf
namespace Go.Proofs.YteicpbcddjjceaaGreatDoor
open Go.RowKit
def wholeS (t : ByteArray) : RS (List En) := wholeG (nextS t) 0
def readS (t : ByteArray) : RS (List En) := readG (nextS t) 0
theorem allocs3 (w W : World) (o0 o1 o2 : Obj) (hW : W = ((w.alloc o0).alloc o1).alloc o2) :
    W.heap.size = w.heap.size + 3 ∧ W.heap[w.heap.size]? = some o0 ∧ W.heap[w.heap.size + 1]? = some o1 ∧ W.heap[w.heap.size + 1 + 1]? = some o2 ∧ Below w.heap.size w W := by
  subst hW
  refine ⟨by simp, ?_, ?_, ?_, ?_⟩
  · exact (Below.heap_alloc _ _ _ (by simp only [size_alloc]; omega)).trans ((Below.heap_alloc _ _ _ (by simp)).trans (heap_alloc_new _ _))
  · have h := heap_alloc_new (w.alloc o0) o1
    simp only [size_alloc] at h
    exact (Below.heap_alloc _ _ _ (by simp)).trans h
  · have h := heap_alloc_new ((w.alloc o0).alloc o1) o2
    simp only [size_alloc] at h
    exact h
  · exact (((Below.refl _ _).alloc (Nat.le_refl _) _).alloc (by simp) _).alloc (by simp only [size_alloc]; omega) _
/-- What the call of object finds, in whatever order its operands were worked out. -/
structure TopReady (N gn : Nat) (t : ByteArray) (c : Nat) (w3 W : World) : Prop where
  gr : Gr (fun k => k = N) w3 W
  sc : ScIs W N t c
  row : W.heap[gn]? = some (.cells #[.string sVersion, .string sTags] 9 (0, 0))
set_option maxHeartbeats 1000000 in
theorem top_object (N gn c : Nat) (t : ByteArray) (p0 : Nat) (n0 : Int) (s0 : ByteArray) (w3 : World) (hz : N + 3 ≤ w3.heap.size) (h1 : w3.heap[N + 1]? = some (.cells #[.pointer (some ⟨N, 0, none⟩)] 180 (0, 0))) (h2 : w3.heap[N + 1 + 1]? = some (.cells #[.slice none 0 0] 78 (0, 0))) (hc : c ≤ t.size) (ht : t.size ≤ 2000) (W : World) (hR : TopReady N gn t c w3 W) :
    Calls Tryz.prog 101 #[.pointer (some ⟨N, 0, none⟩), tokV 123 p0 n0 s0, .slice (some ⟨gn, 0, none⟩) 2 2, .func (.func 103) #[] #[.pointer (some ⟨N + 1, 0, none⟩), .pointer (some ⟨N + 1 + 1, 0, none⟩)]] W fun e W' => Gr (fun k => k = N ∨ k = N + 1 + 1) w3 W' ∧
      ((∃ es c', objS (topS t) t true 2 [sVersion, sTags] [] c = .ok es c' ∧ e = .returned (.tuple #[]) ∧ ScIs W' N t c' ∧ c' ≤ t.size ∧ TopAt (N + 1) (N + 1 + 1) N (N + 3) es W') ∨ (∃ p, objS (topS t) t true 2 [sVersion, sTags] [] c = .bad p ∧ e = gaveUp p)) := by
  have hzW := hR.gr.size
  have hr1 := (hR.gr.block _ (by omega) (by omega)).trans h1
  have hr2 := (hR.gr.block _ (by omega) (by omega)).trans h2
  have hcall := object_ok (topS t) N gn 103 [sVersion, sTags] #[.pointer (some ⟨N + 1, 0, none⟩), .pointer (some ⟨N + 1 + 1, 0, none⟩)] t c p0 n0 s0 W (fun k => k = N ∨ k = N + 1 + 1) (TopAt (N + 1) (N + 1 + 1) N (N + 3)) []
    (enters_of Tryz.func103 (by kernel_rfl) rfl) hR.sc hc ht (Or.inl rfl) (by intro k hk; rcases hk with rfl | rfl <;> omega) ⟨hr1, by decide, _, hr2, World.ownsRow_nil _ _ _ _⟩ (by decide)
    (fun j hj => by
      rw [cell_of_row W _ j _ _ _ hR.row]
      match j, hj with
      | 0, _ => rfl
      | 1, _ => rfl)
    (fun st V V' hV hsz hg => hV.later hg (by rintro (h | ⟨h, _⟩) <;> omega) (by rintro (h | ⟨h, _⟩) <;> omega) (by
      rintro k cur (h | ⟨h, cur2, h3⟩) hB h4
      · omega
      · rw [h3] at h4; cases h4))
    (fun x st c V hV hsz hsc hc => topC_any (N + 1) (N + 1 + 1) N c (N + 3) t x st V (by omega) (by omega) hsc hc ht hV)
  simp only [List.length_cons, List.length_nil, Nat.zero_add, Nat.reduceAdd] at hcall
  refine hcall.mono ?_
  rintro e w1 ⟨hg1, h⟩
  exact ⟨(hR.gr.mono (fun k _ h => Or.inl h)).trans hg1, h⟩
theorem below_gb {B b : Nat} {w W W' : World} (h : Below B w W) (hg : W.grownBy W' (some b)) (hb : B ≤ b) (hs : B ≤ W.heap.size) : Below B w W' :=
  h.grown hg hs fun k hk => by cases hk; exact hb
theorem ready1 {N c : Nat} {t : ByteArray} {w3 w4 : World} (hg : w3.drew.grownBy w4 (some N)) (hs : ScIs w4 N t c) : TopReady N w4.heap.size t c w3 (w4.alloc (.cells #[.string ⟨#[118, 101, 114, 115, 105, 111, 110]⟩, .string ⟨#[116, 97, 103, 115]⟩] 9)) :=
  ⟨((Gr.of_below ((Below.refl _ _).drew)).trans (Gr.of_grownBy (S := fun k => k = N) hg rfl)).trans (Gr.of_below ((Below.refl _ _).alloc (Nat.le_refl _) _)), hs.later ((Below.refl _ _).alloc (Nat.le_refl _) _), heap_alloc_new _ _⟩
theorem ready2 {N c : Nat} {t : ByteArray} {w3 w4 : World} (hz : N + 3 ≤ w3.heap.size) (hg : (w3.drew.alloc (.cells #[.string ⟨#[118, 101, 114, 115, 105, 111, 110]⟩, .string ⟨#[116, 97, 103, 115]⟩] 9)).grownBy w4 (some N)) (hs : ScIs w4 N t c) : TopReady N w3.heap.size t c w3 w4 :=
  ⟨((Gr.of_below ((Below.refl _ _).drew)).trans (Gr.of_below ((Below.refl _ _).alloc (Nat.le_refl _) _))).trans (Gr.of_grownBy (S := fun k => k = N) hg rfl), hs, (hg.block w3.heap.size (by simp only [size_alloc]; exact Nat.lt_succ_self _) (by intro e; cases e; omega)).trans (heap_alloc_new w3.drew _)⟩
theorem ready3 {N c : Nat} {t : ByteArray} {w3 w4 : World} (hz : N + 3 ≤ w3.heap.size) (hg : (w3.alloc (.cells #[.string ⟨#[118, 101, 114, 115, 105, 111, 110]⟩, .string ⟨#[116, 97, 103, 115]⟩] 9)).drew.grownBy w4 (some N)) (hs : ScIs w4 N t c) : TopReady N w3.heap.size t c w3 w4 :=
  ⟨(Gr.of_below (((Below.refl _ _).alloc (Nat.le_refl _) _).drew)).trans (Gr.of_grownBy (S := fun k => k = N) hg rfl), hs, (hg.block w3.heap.size (by show _ < (w3.alloc _).heap.size; simp only [size_alloc]; omega) (by intro e; cases e; omega)).trans (heap_alloc_new w3 _)⟩
class Kin (w3 W : World) : Prop where
  block : ∀ k, k < w3.heap.size → k < W.heap.size ∧ W.heap[k]? = w3.heap[k]?
instance (w3 : World) : Kin w3 w3.drew := ⟨fun _ h => ⟨h, rfl⟩⟩
instance (w3 : World) (o : Obj) : Kin w3 (w3.drew.alloc o) := ⟨fun k h => ⟨by simp only [size_alloc]; exact Nat.lt_succ_of_lt h, Below.heap_alloc w3.drew o k h⟩⟩
instance (w3 : World) (o : Obj) : Kin w3 (w3.alloc o).drew := ⟨fun k h => ⟨by show k < (w3.alloc o).heap.size; simp only [size_alloc]; exact Nat.lt_succ_of_lt h, Below.heap_alloc w3 o k h⟩⟩
theorem gb_row {N : Nat} {w3 W w4 : World} [Kin w3 W] {o : Obj} (hg : W.grownBy w4 (some N)) (hz : N + 3 ≤ w3.heap.size) (h : w3.heap[N + 1]? = some o) : w4.heap[N + 1]? = some o := by
  obtain ⟨h1, h2⟩ := Kin.block (w3 := w3) (W := W) (N + 1) (by omega)
  exact (hg.block _ h1 (by intro e; cases e)).trans (h2.trans h)
/-- The token that an index begins with, and what is behind it. -/
theorem top_any (N gn c k0 p0 n0 : Nat) (l0 : List UInt8) (t : ByteArray) (w3 : World) (hz : N + 3 ≤ w3.heap.size) (h1 : w3.heap[N + 1]? = some (.cells #[.pointer (some ⟨N, 0, none⟩)] 180 (0, 0))) (h2 : w3.heap[N + 1 + 1]? = some (.cells #[.slice none 0 0] 78 (0, 0))) (hn : nextS t 0 = .tok k0 p0 n0 l0 c) (ht : t.size ≤ 2000) (W : World) (hR : TopReady N gn t c w3 W) :
    Calls Tryz.prog 101 #[.pointer (some ⟨N, 0, none⟩), .agg #[.int .u8 ((k0 : Nat) : Int), .int .i64 ((p0 : Nat) : Int), .int .i64 ((n0 : Nat) : Int), .string ⟨l0.toArray⟩], .slice (some ⟨gn, 0, none⟩) 2 2, .func (.func 103) #[] #[.pointer (some ⟨N + 1, 0, none⟩), .pointer (some ⟨N + 1 + 1, 0, none⟩)]] W fun e W' => Gr (fun k => k = N ∨ k = N + 1 + 1) w3 W' ∧
      ((∃ es c', wholeS t = .ok es c' ∧ e = .returned (.tuple #[]) ∧ ScIs W' N t c' ∧ c' ≤ t.size ∧ TopAt (N + 1) (N + 1 + 1) N (N + 3) es W') ∨ (∃ p, wholeS t = .bad p ∧ e = gaveUp p)) := by
  have hc := (nextS_far (Nat.zero_le _) hn).1
  have hw : wholeS t = if k0 = 123 then objS (topS t) t true 2 [sVersion, sTags] [] c else .bad p0 := by
    unfold wholeS wholeG objS
    rw [hn]
    rfl
  by_cases hk : k0 = 123
  · subst hk
    rw [if_pos rfl] at hw
    rw [hw]
    exact top_object N gn c t p0 n0 ⟨l0.toArray⟩ w3 hz h1 h2 hc ht W hR
  · rw [if_neg hk] at hw
    rw [hw]
    refine (object_bad N gn 103 2 2 #[.pointer (some ⟨N + 1, 0, none⟩), .pointer (some ⟨N + 1 + 1, 0, none⟩)] k0 p0 n0 ⟨l0.toArray⟩ W (fun k => k = N ∨ k = N + 1 + 1) hk).mono ?_
    rintro e W' ⟨hg, rfl⟩
    exact ⟨(hR.gr.mono (fun k _ h => Or.inl h)).trans hg, Or.inr ⟨p0, rfl, rfl⟩⟩
theorem below_two {w w3 W : World} {S : Nat → Prop} (h : Below w.heap.size w w3) (hg : Gr S w3 W) (hS : ∀ k, S k → w.heap.size ≤ k) : Below w.heap.size w W :=
  ⟨hg.os.trans h.os, hg.tape.trans h.tape, hg.output.trans h.output, Nat.le_trans h.size hg.size, fun k hk => (hg.block k (Nat.lt_of_lt_of_le hk h.size) fun hs => by have := hS k hs; omega).trans (h.block k hk)⟩
theorem read_of {t : ByteArray} {es : List En} {c k p n c2 : Nat} {l : List UInt8} (h : wholeS t = .ok es c) (hn : nextS t c = .tok k p n l c2) : readS t = if k = 0 then .ok es c2 else .bad p := by
  unfold readS readG
  unfold wholeS at h
  rw [h]
  dsimp only
  rw [hn]
theorem read_bad {t : ByteArray} {p : Nat} (h : wholeS t = .bad p) : readS t = .bad p := by
  unfold readS readG
  unfold wholeS at h
  rw [h]
theorem read_nbad {t : ByteArray} {es : List En} {c p : Nat} (h : wholeS t = .ok es c) (hn : nextS t c = .bad p) : readS t = .bad p := by
  unfold readS readG
  unfold wholeS at h
  rw [h]
  dsimp only
  rw [hn]
theorem whole_bad {t : ByteArray} {p : Nat} (hn : nextS t 0 = .bad p) : readS t = .bad p := by
  unfold readS readG wholeG
  rw [hn]
theorem take_at {P : Program} {ops : Array Oper} {Q : Exit → Act → World → Prop} {md : Region.Mode} {S : World → Prop} {i d : Nat} {oi : Oper} {v : Value} {fuel : Nat} {listed : Array Bool} {a : Act} {w : World} (hi : ops[i]? = some oi) (hd : oi.dst = some d)
    (hs : Region.noSelect ops = true) (hf : Region.free md ops listed i = true) (hr : (Region.ready md ops listed).contains i = true)
    (hQ : ∀ c a w, Q (.panic c) (a.put oi.dst v) w → Q (.panic c) a w) (hy : YieldsIf P ops S oi v a) (hS : S w)
    (h : wpAnyH P md ops Q S fuel (listed.setIfInBounds i true) { a with tmps := a.tmps.setIfInBounds d v } w) : wpAnyH P md ops Q S (fuel + 1) listed a w :=
  wpAnyH_take hi hs hf hr hQ hy hS (by rw [hd]; exact h)
set_option maxHeartbeats 4000000 in
set_option maxRecDepth 100000 in
theorem readI_core (t : ByteArray) (w : World) (ht : t.size ≤ 2000) :
    Calls Tryz.prog 58 #[.string t] w fun e w' => Below w.heap.size w w' ∧
      ((∃ es c v, readS t = .ok es c ∧ e = .returned v ∧ w'.ownsRow w.heap.size 130 34 v es.length (es.flatMap En.ecells) ∧ es.length ≤ 8) ∨ (∃ p, readS t = .bad p ∧ e = gaveUp p)) := by
  go_enter Tryz.func58, Tryz.ntmps58
  go_wp2_with fail
  obtain ⟨w3, hw3⟩ : ∃ w3, w3 = ((w.alloc (.cells #[.string t, .int .i64 0] 182)).alloc (.cells #[.pointer (some ⟨w.heap.size, 0, none⟩)] 180)).alloc (.cells #[.slice none 0 0] 78) := ⟨_, rfl⟩
  rw [← hw3]
  obtain ⟨hz, h0, h1, h2, hB⟩ := allocs3 _ _ _ _ _ hw3
  clear hw3
  have c1 : w3.cell? ⟨w.heap.size + 1, 0, none⟩ = some (.pointer (some ⟨w.heap.size, 0, none⟩)) := cell_of_row w3 _ 0 _ _ _ h1
  have hz3 : w.heap.size + 3 ≤ w3.heap.size := by omega
  clear hz
  have c1a : ∀ o, (w3.drew.alloc o).cell? ⟨w.heap.size + 1, 0, none⟩ = some (.pointer (some ⟨w.heap.size, 0, none⟩)) := fun o => (World.cell?_alloc_lt _ _ _ (show w.heap.size + 1 < w3.heap.size by omega)).trans c1
  have c1b : ∀ o, (w3.alloc o).cell? ⟨w.heap.size + 1, 0, none⟩ = some (.pointer (some ⟨w.heap.size, 0, none⟩)) := fun o => (World.cell?_alloc_lt _ _ _ (show w.heap.size + 1 < w3.heap.size by omega)).trans c1
  have HB := hide hB
  have H1 := hide h1
  have H2 := hide h2
  have SC0 : Hid (ScIs w3 w.heap.size t 0) := h0
  clear hB h0 h1 h2
  have hnx : ∀ W, ScIs W w.heap.size t 0 → Calls Tryz.prog 102 #[.pointer (some ⟨w.heap.size, 0, none⟩)] W fun e W' => W.grownBy W' (some w.heap.size) ∧ ((∃ k p n l c, nextS t 0 = .tok k p n l c ∧ e = .returned (tokV k p ((n : Nat) : Int) ⟨l.toArray⟩) ∧ ScIs W' w.heap.size t c) ∨ (∃ p, nextS t 0 = .bad p ∧ e = gaveUp p)) := fun W hW => by
    refine (next_core w.heap.size 0 t W hW (Nat.zero_le _) ht).mono ?_
    rintro e W' ⟨hg, hc⟩
    refine ⟨hg, ?_⟩
    cases hn : nextS t 0 with
    | bad p => rw [hn] at hc; exact Or.inr ⟨p, rfl, hc⟩
    | tok k p n l c => rw [hn] at hc; exact Or.inl ⟨k, p, n, l, c, rfl, hc⟩
  have NX := hide hnx
  clear hnx
  refine wp_region_held_drew (S := fun w' => w'.cell? ⟨w.heap.size + 1, 0, none⟩ = some (.pointer (some ⟨w.heap.size, 0, none⟩))) mixed c1 (fun hS => ?_)
  refine take_at (i := 0) (d := 9) (v := .pointer (some ⟨w.heap.size, 0, none⟩)) rfl rfl (by kernel_rfl) (by kernel_rfl) (by kernel_rfl) (fun _ _ _ h => h) (Or.inl ⟨by rfl, by intro w hSw; (try dsimp only at hSw); go_simp⟩) hS ?_
  refine take_at (i := 1) (d := 10) (v := .pointer (some ⟨w.heap.size, 0, none⟩)) rfl rfl (by kernel_rfl) (by kernel_rfl) (by kernel_rfl) (fun _ _ _ h => h) (Or.inl ⟨by rfl, by intro w hSw; (try dsimp only at hSw); go_simp⟩) hS ?_
  refine take_at (i := 4) (d := 13) (v := .func (.func 103) #[] #[.pointer (some ⟨w.heap.size + 1, 0, none⟩), .pointer (some ⟨w.heap.size + 1 + 1, 0, none⟩)]) rfl rfl (by kernel_rfl) (by kernel_rfl) (by kernel_rfl) (fun _ _ _ h => h) (Or.inl ⟨by rfl, by intro w hSw; (try dsimp only at hSw); go_simp⟩) hS ?_
  simp only [List.setIfInBounds_toArray, List.set_cons_zero, List.set_cons_succ]
  refine wpAnyH_ready (rs := [2, 3]) (by kernel_rfl) (by simp) ?_
  refine AllReadyH.cons rfl (fun K hK => ?_) (AllReadyH.cons rfl (fun K hK => ?_) AllReadyH.nil)
  go_simp
  refine (NX.out _ (SC0.out.later ((Below.refl _ _).drew))).mono ?_
  rintro e w4 ⟨hg4, h4⟩
  rcases h4.symm with ⟨p, hn, rfl⟩ | ⟨k, p, n, l, c, hn, rfl, hsc4⟩
  · dsimp only [gaveUp]
    exact ⟨rfl, below_gb HB.out.drew hg4 (Nat.le_refl _) (Nat.le_trans (by omega) hz3), Or.inr ⟨p, whole_bad hn, rfl⟩⟩
  dsimp only [tokV]
  have q4 : w4.cell? ⟨w.heap.size + 1, 0, none⟩ = some (.pointer (some ⟨w.heap.size, 0, none⟩)) := cell_of_row w4 _ 0 _ _ _ (gb_row hg4 hz3 H1.out)
  have HN4 := hide hn
  have SC4 := hide hsc4
  have HG4 := hide hg4
  clear hn hsc4 hg4
  refine hK.out _ _ q4 (fun hS4 => ?_)
  refine wpAnyH_ready (rs := [3]) (by kernel_rfl) (by simp) ?_
  refine AllReadyH.cons rfl (fun K2 hK2 => ?_) AllReadyH.nil
  go_simp
  refine hK2.out _ _ ((World.cell?_alloc_lt _ _ _ (World.block_lt_of_cell? w4 _ q4)).trans q4) (fun hS5 => ?_)
  clear hK hK2 hS4 hS5
  refine wpAnyH_ready (rs := [5]) (by kernel_rfl) (by simp) ?_
  refine AllReadyH.cons rfl (fun K3 hK3 => ?_) AllReadyH.nil
  go_simp
  refine (top_any w.heap.size _ _ _ _ _ _ t w3 hz3 H1.out H2.out HN4.out ht _ (ready1 HG4.out SC4.out)).mono ?_
  rintro e w5 ⟨hg5, h5⟩
  rcases h5.symm with ⟨q, hw5, rfl⟩ | ⟨es, c5, hw5, rfl, hsc5, hc5, htop⟩
  · dsimp only [gaveUp]
    exact ⟨rfl, below_two HB.out hg5 (by intro k hk; omega), Or.inr ⟨q, read_bad hw5, rfl⟩⟩
  dsimp only
  have c5c : w5.cell? ⟨w.heap.size + 1, 0, none⟩ = some (.pointer (some ⟨w.heap.size, 0, none⟩)) := cell_of_row w5 _ 0 _ _ _ htop.1
  refine hK3.out _ _ c5c (fun hS6 => ?_)
  refine wpAnyH_done (by kernel_rfl) ?_ _
  have HG5 := hide (below_two HB.out hg5 (by intro k hk; omega))
  have HW5 := hide hw5
  have SC5 := hide hsc5
  have HT5 := hide htop
  clear hg5 hw5 hsc5 htop HG4 SC4 HN4 hS6 hK3
  rotate_left
  go_simp
  refine hK.out _ _ (c1b _) (fun hS4 => ?_)
  refine wpAnyH_ready (rs := [2]) (by kernel_rfl) (by simp) ?_
  refine AllReadyH.cons rfl (fun K2 hK2 => ?_) AllReadyH.nil
  go_simp
  refine (NX.out _ (SC0.out.later (((Below.refl _ _).alloc (Nat.le_refl _) _).drew))).mono ?_
  rintro e w4 ⟨hg4, h4⟩
  rcases h4.symm with ⟨p, hn, rfl⟩ | ⟨k, p, n, l, c, hn, rfl, hsc4⟩
  · dsimp only [gaveUp]
    exact ⟨rfl, below_gb ((HB.out.alloc (by omega) _).drew) hg4 (Nat.le_refl _) (by show _ ≤ (w3.alloc _).heap.size; simp only [size_alloc]; omega), Or.inr ⟨p, whole_bad hn, rfl⟩⟩
  dsimp only [tokV]
  have q4 : w4.cell? ⟨w.heap.size + 1, 0, none⟩ = some (.pointer (some ⟨w.heap.size, 0, none⟩)) := cell_of_row w4 _ 0 _ _ _ (gb_row hg4 hz3 H1.out)
  have HN4 := hide hn
  have SC4 := hide hsc4
  have HG4 := hide hg4
  clear hn hsc4 hg4
  refine hK2.out _ _ q4 (fun hS5 => ?_)
  clear hK hK2 hS4 hS5
  refine wpAnyH_ready (rs := [5]) (by kernel_rfl) (by simp) ?_
  refine AllReadyH.cons rfl (fun K3 hK3 => ?_) AllReadyH.nil
  go_simp
  refine (top_any w.heap.size _ _ _ _ _ _ t w3 hz3 H1.out H2.out HN4.out ht _ (ready3 hz3 HG4.out SC4.out)).mono ?_
  rintro e w5 ⟨hg5, h5⟩
  rcases h5.symm with ⟨q, hw5, rfl⟩ | ⟨es, c5, hw5, rfl, hsc5, hc5, htop⟩
  · dsimp only [gaveUp]
    exact ⟨rfl, below_two HB.out hg5 (by intro k hk; omega), Or.inr ⟨q, read_bad hw5, rfl⟩⟩
  dsimp only
  have c5c : w5.cell? ⟨w.heap.size + 1, 0, none⟩ = some (.pointer (some ⟨w.heap.size, 0, none⟩)) := cell_of_row w5 _ 0 _ _ _ htop.1
  refine hK3.out _ _ c5c (fun hS6 => ?_)
  refine wpAnyH_done (by kernel_rfl) ?_ _
  have HG5 := hide (below_two HB.out hg5 (by intro k hk; omega))
  have HW5 := hide hw5
  have SC5 := hide hsc5
  have HT5 := hide htop
  clear hg5 hw5 hsc5 htop HG4 SC4 HN4 hS6 hK3
  all_goals
    go_wp2_with fail
    refine (next_core w.heap.size c5 t w5 SC5.out hc5 ht).mono ?_
    rintro e w6 ⟨hg6, hc6⟩
    cases hnx : nextS t c5 with
    | bad p =>
      rw [hnx] at hc6
      have hc7 : e = gaveUp p := hc6
      subst hc7
      dsimp only [gaveUp]
      exact ⟨rfl, below_gb HG5.out hg6 (Nat.le_refl _) HG5.out.size, Or.inr ⟨p, read_nbad HW5.out hnx, rfl⟩⟩
    | tok k2 p2 n2 l2 c2 =>
      rw [hnx] at hc6
      obtain ⟨rfl, hsc6⟩ : e = .returned (tokV k2 p2 ((n2 : Nat) : Int) ⟨l2.toArray⟩) ∧ ScIs w6 w.heap.size t c2 := hc6
      dsimp only [tokV]
      have hT6 : TopAt (w.heap.size + 1) (w.heap.size + 1 + 1) w.heap.size (w.heap.size + 3) es w6 := HT5.out.later (S := fun k => k = w.heap.size) (Gr.of_grownBy hg6 rfl) (by omega) (by omega) (by intro k cur hk hB; omega)
      have HR6 := hide (read_of HW5.out hnx)
      have HT6 := hide hT6
      have HB6 := hide (below_gb HG5.out hg6 (Nat.le_refl _) HG5.out.size)
      clear hnx hsc6 hg6 hT6 HT5 HG5 SC5
      generalize (⟨l2.toArray⟩ : ByteArray) = txt
      by_cases hk : k2 = 0
      · subst hk
        go_wp2_with fail
        refine (must_ok _ _ _ _ _).mono ?_
        rintro e w7 ⟨rfl, hm7⟩
        dsimp only
        have hb7 : Below w6.heap.size w6 w7 := ((Below.refl _ _).alloc (Nat.le_refl _) _).trans (hm7.mono (by simp))
        obtain ⟨a1, a2, v, a3, a4⟩ := HT6.out.later (S := fun _ => False) (Gr.of_below hb7) id id (fun _ _ h => h.elim)
        obtain ⟨oa, cap, rfl⟩ := own_slice a4
        have c7 := cell_of_row w7 _ 0 _ _ _ a3
        have HB7 : Hid (Below w.heap.size w w7) := HB6.out.trans (hb7.mono HB6.out.size)
        have H8 := hide a2
        have HO := hide (own_mono a4 (Nat.le_add_right w.heap.size 3))
        clear hm7 hb7 a1 a2 a3 a4 HB6 HT6
        go_wp2_with fail
        go_ret
        exact ⟨HB7.out, Or.inl ⟨es, c2, _, by rw [HR6.out]; simp, rfl, HO.out, H8.out⟩⟩
      · have hf : ((k2 : Int) == (0 : Int)) = false := by simp; omega
        have HK := hide hk
        go_wp2_with fail
        refine (must_bad _ _ _ _ _).mono ?_
        rintro e w7 ⟨rfl, hm7⟩
        dsimp only [gaveUp]
        have hb7 : Below w6.heap.size w6 w7 := ((Below.refl _ _).alloc (Nat.le_refl _) _).trans (hm7.mono (by simp))
        exact ⟨rfl, HB6.out.trans (hb7.mono HB6.out.size), Or.inr ⟨p2, by rw [HR6.out, if_neg HK.out], rfl⟩⟩
end Go.Proofs.YteicpbcddjjceaaGreatDoor

/-
  PROVED HERE: what load of a store does where the index has no tag and no path is one of a content.
-/
namespace Go.Proofs.YteicpbcddjjceaaGreatDoor
open Go.RowKit
set_option maxHeartbeats 2000000 in
set_option maxRecDepth 100000 in
theorem load_quiet (sb : Nat) (s : PSt) (p t : ByteArray) (c : Nat) (w : World) (h : On w sb s) (hp : p.size ≤ 9223372036854775807) (hrd : rdD s.ds p = some t) (ht : t.size ≤ 2000) (hr : readS t = .ok [] c) (hn : s.R.now.length ≤ 100000000) (hq : ∀ e ∈ s.R.now, dgB e.path = false) :
    Calls Tryz.prog 129 #[.pointer (some ⟨sb, 0, none⟩), .string p] w fun e w' => e = .returned (.tuple #[]) ∧ PGo s s w w' := by
  have HRD := hide (dkRead s p w h.inn hp)
  rw [hrd] at HRD
  dsimp only [Option.getD, Option.isSome] at HRD
  have HR := hide hr
  have HQ := hide hq
  have H := hide h
  obtain ⟨cv, tv, hbl⟩ := h.sb
  have c0 := cell_of_row _ _ 0 _ _ _ hbl
  clear h hr hq hbl hrd
  have hz4 := (zero_of_info Tryz.info72).1
  go_enter Tryz.func129, Tryz.ntmps129
  go_wp2_with fail
  refine (HRD.out).mono ?_
  rintro _ w1 ⟨v, k, rfl, -, -, hg1, hi1⟩
  dsimp only
  have hgo1 : PGo s s w w1 := ⟨rfl, hi1, hg1, fun k hk => .inl hk⟩
  have HGO1 := hide hgo1
  have HON1 := hide (H.out.go hgo1)
  have HRI := hide (fun W => readI_core t W ht)
  clear hgo1 hg1 hi1 HRD c0
  go_wp2_with fail
  refine (HRI.out _).mono ?_
  rintro e2 w2 ⟨hb2, he2⟩
  have he3 : ∃ oa cap, e2 = .returned (.slice oa 0 cap) := by
    rcases he2 with ⟨es, c', v', h1, h2, h3, -⟩ | ⟨pp, h1, -⟩
    · rw [HR.out] at h1
      injection h1 with h1
      subst h1
      obtain ⟨oa, cap, h4⟩ := own_sl h3
      exact ⟨oa, cap, by rw [h2, h4]; rfl⟩
    · rw [HR.out] at h1
      cases h1
  obtain ⟨oa, cap, rfl⟩ := he3
  clear he2
  dsimp only
  have HGO2 := hide (HGO1.out.trans (PGo.refl HGO1.out.inn hb2))
  have HON2 := hide (HON1.out.later hb2)
  clear hb2 HRI HR
  go_wp2_with fail
  go_loopw [24] (fun iv wr => iv = .int .i64 0 ∧ wr = w2) (fun _ _ => 0)
  case atStart => exact ⟨rfl, rfl⟩
  case round =>
    obtain ⟨rfl, rfl⟩ := hrel
    obtain ⟨cv2, tv2, hbl2⟩ := HON2.out.sb
    have c2 := cell_of_row _ _ 0 _ _ _ hbl2
    have HLS := hide (plist_any s.b s.R s.mb s.lb s.cv _ HON2.out.inn.is hn)
    clear hbl2
    go_wp2_with fail
    refine (HLS.out).mono ?_
    rintro _ w3 ⟨v3, rfl, hrow, hb3⟩
    dsimp only
    obtain ⟨ov, cp, hv⟩ := own_sl hrow
    subst hv
    have HRS := hide (own_str hrow)
    have HGO3 := hide (HGO2.out.trans (PGo.refl HGO2.out.inn hb3))
    clear hrow hb3 HLS c2
    obtain ⟨n, hnl⟩ : ∃ n, n = s.R.now.length := ⟨_, rfl⟩
    rw [← hnl] at hn ⊢
    have HNL := hide hnl
    clear hnl
    go_wp2_with fail
    go_loopw [42] (fun iv wr => ∃ j : Nat, j ≤ n ∧ iv = .int .i64 ((j : Nat) : Int) ∧ Below w3.heap.size w3 wr) (fun iv _ => n - (intOf iv).toNat)
    case atStart => exact ⟨0, Nat.zero_le _, rfl, Below.refl _ _⟩
    case round =>
      obtain ⟨j, hj, rfl, hbr⟩ := hrel
      by_cases hlt : j < n
      · obtain ⟨o, cc, hv, hk⟩ := HRS.out
        injection hv with hv1 hv2 hv3
        subst hv1
        clear hv2 hv3
        obtain ⟨g, rfl, hg2⟩ := hk j (by rw [← HNL.out]; exact hlt)
        have hq1 : dgB (s.R.now.getD j DE0).path = false := by
          have hj2 : j < s.R.now.length := by rw [← HNL.out]; exact hlt
          rw [getDE hj2]
          exact HQ.out _ (List.getElem_mem hj2)
        generalize (s.R.now.getD j DE0).path = pp at hg2 hq1
        have r0 := cell_later hbr hg2
        have HDG := hide (digestAt_any pp wr)
        rw [hq1] at HDG
        have HBR := hide hbr
        have d1 : decide (((j : Nat) : Int) < ((n : Nat) : Int)) = true := decide_eq_true (by omega)
        clear hk hg2 hbr
        go_wp2_with fail
        refine (HDG.out).mono ?_
        rintro _ w4 ⟨rfl, hb4⟩
        dsimp only
        have hb5 := HBR.out.trans (hb4.mono HBR.out.size)
        have HB5 := hide hb5
        have hb6 : Below w3.heap.size w3 (w4.alloc (.cells (cells8 (dgV pp)) 72)) := hb5.alloc hb5.size _
        have HB6 := hide hb6
        have hdl := dgV_len pp
        clear hb4 hb5 HDG r0 hb6
        go_wp2_with (refine wpList_store_row rfl 72 _ _ rfl w4.heap.size _ rfl rfl 72 _ (heap_alloc_new _ _) (size40 _ hdl) (by rw [cells8_size, cells8_size, hdl, Sha.zeros_len]) (cells8_one _) ?_; rw [World.setRow_alloc_new])
        exact ⟨⟨j + 1, hlt, by simp, HB6.out⟩, by simp only [intOf]; omega⟩
      · have hjn : j = n := by omega
        subst hjn
        have d1 : decide (((j : Nat) : Int) < ((j : Nat) : Int)) = false := decide_eq_false (by omega)
        have HBR := hide hbr
        clear hbr
        go_wp2_with fail
        go_end0
        exact ⟨rfl, HGO3.out.trans (PGo.refl HGO3.out.inn HBR.out)⟩
end Go.Proofs.YteicpbcddjjceaaGreatDoor

/-
  PROVED HERE: what goOn of a store does where nothing was under way, there is no tag and no content.
-/
namespace Go.Proofs.YteicpbcddjjceaaGreatDoor
open Go.RowKit
/-- What goOn leaves where nothing was under way. -/
def GoR (D : DS) (k : Int) (D' : DS) : Prop := ∃ k1 m D1, Ran D (rmS foreignB D.R.now) k1 m D1 ∧ ((k1 ≠ 0 ∧ k = k1 ∧ D' = D1) ∨ (k1 = 0 ∧ stR D1 sSd k D'))
set_option maxHeartbeats 2000000 in
set_option maxRecDepth 100000 in
theorem goOn_quiet (sb : Nat) (s : PSt) (t : ByteArray) (c : Nat) (w : World) {L C B : Nat} (h : On w sb s) (hf : DFit s.ds L C B) (hb : Bud (L + s.R.now.length + 20) (C + s.R.now.length + 20) (B + 36)) (hps : ∀ e ∈ s.R.now, e.path.size ≤ 9223372036854775807)
    (hrd : rdD s.ds indexP = some t) (ht : t.size ≤ 2000) (hr : readS t = .ok [] c) (hq : ∀ e ∈ s.R.now, dgB e.path = false) (h1 : rdD s.ds (bPath 1) = none) (h2 : rdD s.ds pruningP = none) :
    Calls Tryz.prog 76 #[.pointer (some ⟨sb, 0, none⟩)] w fun e w' => ∃ ev k s', e = .returned ev ∧ ErrV w' ev k ∧ PGo s s' w w' ∧ GoR s.ds k s'.ds := by
  have hn : s.R.now.length ≤ 100000000 := by have := hf.nowLen; have := hb.1; exact Nat.le_trans hf.nowLen (by omega)
  have HBP := hide (besidePath_any 1 (by decide) w h.gl.tab)
  have HT1 := hide (fun (W : World) (hg : PGo s s w W) => isThere_any sb s (bPath 1) W (h.go hg).sb hg.inn (Nat.le_trans (bPath_size 1 (by decide)) (by decide)))
  have HT2 := hide (fun (W : World) (hg : PGo s s w W) => isThere_any sb s pruningP W (h.go hg).sb hg.inn (by decide))
  rw [h1] at HT1
  rw [h2] at HT2
  dsimp only [Option.isSome] at HT1 HT2
  have HLD := hide (fun (W : World) (hg : PGo s s w W) => load_quiet sb s indexP t c W (h.go hg) (by decide) hrd ht hr hn hq)
  have HRM := hide (fun (W : World) (hg : PGo s s w W) => removeAll_any sb s 133 foreignB W (h.go hg) hf (hb.mono (by omega) (by omega) (by omega)) (enters_of Tryz.func133 (by kernel_rfl) rfl) hps (fun p W => (isForeign_any p W).mono (by rintro _ _ ⟨rfl, h⟩; exact ⟨rfl, h⟩)))
  have H := hide h
  have HF := hide hf
  have HB := hide hb
  clear h hf hb hps hrd hr hq h1 h2 hn
  go_enter Tryz.func76, Tryz.ntmps76
  go_wp2_with fail
  refine (HBP.out).mono ?_
  rintro _ w1 ⟨rfl, hb1⟩
  dsimp only
  have HG1 := hide (PGo.refl H.out.inn hb1)
  clear hb1 HBP
  go_wp2_with fail
  refine (HT1.out _ HG1.out).mono ?_
  rintro _ w2 ⟨rfl, hg2⟩
  dsimp only
  have HG2 := hide (HG1.out.trans hg2)
  clear hg2 HG1 HT1
  go_wp2_with fail
  refine (HLD.out _ HG2.out).mono ?_
  rintro _ w3 ⟨rfl, hg3⟩
  dsimp only
  have HG3 := hide (HG2.out.trans hg3)
  clear hg3 HG2 HLD
  go_wp2_with fail
  refine (HT2.out _ HG3.out).mono ?_
  rintro _ w4 ⟨rfl, hg4⟩
  dsimp only
  have HG4 := hide (HG3.out.trans hg4)
  clear hg4 HG3 HT2
  go_wp2_with fail
  refine (HRM.out _ HG4.out).mono ?_
  rintro _ w5 ⟨ev, k1, m, s1, rfl, hev, hg5, hr5⟩
  dsimp only
  have HG5 := hide (HG4.out.trans hg5)
  have HR5 := hide hr5
  clear hg5 hr5 HG4 HRM
  rcases hev with ⟨rfl, rfl⟩ | ⟨hk0, sv, nm, rfl, hsv⟩
  · have ho5 := H.out.go HG5.out
    obtain ⟨cv, tv, hbl⟩ := ho5.sb
    have c0 := cell_of_row _ _ 0 _ _ _ hbl
    have hfit : DFit s1.ds (L + s.R.now.length) (C + s.R.now.length) B := (HF.out.ran HR5.out).mono (by have := rmS_len foreignB s.R.now; exact Nat.add_le_add_left this _) (by have := rmS_len foreignB s.R.now; exact Nat.add_le_add_left this _) (by rw [rmS_szs]; exact Nat.le_refl _)
    have HSD := hide (dk_sd (s := s1) (w := w5) ho5.inn hfit (HB.out.mono (by omega) (by omega) (by omega)))
    clear ho5 hbl hfit
    go_wp2_with fail
    refine (HSD.out).mono ?_
    rintro _ w6 ⟨ev, k, s2, rfl, hv, hg6, hst⟩
    dsimp only
    have HG6 := hide (HG5.out.trans hg6)
    have HST := hide hst
    have HV := hide hv
    clear hg6 hst hv
    go_wp2_with fail
    go_ret
    exact ⟨_, k, s2, rfl, HV.out, HG6.out, 0, m, s1.ds, HR5.out, .inr ⟨rfl, HST.out⟩⟩
  · have HSV := hide hsv
    clear hsv
    go_wp2_with fail
    go_ret
    exact ⟨_, k1, s1, rfl, .inr ⟨hk0, sv, nm, rfl, HSV.out⟩, HG5.out, k1, m, s1.ds, HR5.out, .inl ⟨hk0, rfl, rfl⟩⟩
end Go.Proofs.YteicpbcddjjceaaGreatDoor
