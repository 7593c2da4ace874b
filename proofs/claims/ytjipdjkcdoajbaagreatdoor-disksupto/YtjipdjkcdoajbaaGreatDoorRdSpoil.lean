/-
  PROVED HERE: what the document's own call Spoil of disks does.
-/
import Derived.Test.YtjipdjkcdoajbaaGreatDoorRdAsk
import Derived.Test.YtjipdjkcdoajbaaGreatDoorPdRead
namespace Go.Proofs.YtjipdjkcdoajbaaGreatDoor
open Go.RowKit
theorem bytesRow_cell (s : ByteArray) (cap n : Nat) (hn : n < s.data.toList.length) : (bytesRow s cap)[n]? = some (.int .u8 ((s.data.toList[n].toNat : Nat) : Int)) := by
  have hn2 : n < s.data.size := by simpa using hn
  unfold bytesRow
  rw [Array.getElem?_append_left (by simpa using hn2), Array.getElem?_map, Array.getElem?_eq_getElem hn2]
  simp
theorem heap_setCell_sameF (w : World) (g i : Nat) (cs : Array Value) (t : TypeId) (v : Value) (fr : Nat × Nat) (hg : w.heap[g]? = some (.cells cs t fr)) : (w.setCell ⟨g, i, none⟩ v).heap[g]? = some (.cells (cs.setIfInBounds i v) t fr) := by
  simp [World.setCell, Array.getElem?_modify, hg]
set_option maxHeartbeats 1000000 in
set_option maxRecDepth 100000 in
theorem rdspoil_ok (b : Nat) (p : ByteArray) (nb n : Nat) (m : Int) (dt : ByteArray) (sy : Int) (w : World) (hnb : w.heap[nb]? = some (.cells #[.string dt, .int .i64 sy] 63 (0, 0)))
    (hfile : Calls Tryz.prog 48 #[.pointer (some ⟨b, 0, none⟩), .string p] w fun e w' => Below w.heap.size w w' ∧ e = .returned (.tuple #[.pointer (some ⟨nb, 0, none⟩), .int .i64 0]))
    (h1 : 1 ≤ m) (h2 : m ≤ 255) (hn : n < dt.size) :
    Calls Tryz.prog 37 #[.pointer (some ⟨b, 0, none⟩), .string p, .int .i64 (n : Int), .int .i64 m] w fun e w' => e = .returned (.int .i64 0) ∧ w.grownBy w' (some nb) ∧ w'.heap[nb]? = some (.cells #[.string (spoilB dt n m), .int .i64 sy] 63 (0, 0)) := by
  have HF := hide hfile
  have HNB := hide hnb
  have hnl := lt_heap hnb
  have e1 : decide (m < 1) = false := by simp; omega
  have e2 : decide (255 < m) = false := by simp; omega
  have e3 : decide ((n : Int) < 0) = false := by simp
  have e4 : decide ((dt.size : Int) ≤ (n : Int)) = false := by simp; omega
  clear hfile hnb
  go_enter Tryz.func37, Tryz.ntmps37
  go_wp2_with fail
  refine (HF.out).mono ?_
  rintro _ w1 ⟨hb1, rfl⟩
  dsimp only
  have hnb1 := (hb1.block nb hnl).trans HNB.out
  have n0 : w1.cell? ⟨nb, 0, none⟩ = some (.string dt) := cell_of_row _ _ 0 _ _ _ hnb1
  have nf := fun j => frozen_of_row w1 nb j _ _ hnb1
  have hcv := run_bytes_of_string (P := Tryz.prog) w1 9 93 5 dt Tryz.underlying9 Tryz.underlying93 Tryz.underlying5
  obtain ⟨cap, hcap⟩ : ∃ cap, cap = grownCap w1 dt.size 0 5 := ⟨_, rfl⟩
  rw [← hcap] at hcv
  have hge : dt.size ≤ cap := by rw [hcap]; exact grownCap_ge w1 dt.size 0 5
  clear hcap
  obtain ⟨W1, hW1⟩ : ∃ W1, W1 = w1.drew.alloc (.cells (bytesRow dt cap) 5 ((bytesRow dt cap).size, (bytesRow dt cap).size + 1)) := ⟨_, rfl⟩
  rw [← hW1] at hcv
  have hn2 : n < dt.data.toList.length := by simpa using hn
  have hrs : (bytesRow dt cap).size = dt.size + (cap - dt.size) := by simp [bytesRow]
  have hh : W1.heap[w1.heap.size]? = some (.cells (bytesRow dt cap) 5 ((bytesRow dt cap).size, (bytesRow dt cap).size + 1)) := by rw [hW1]; exact heap_alloc_new w1.drew _
  have k0 : W1.cell? ⟨w1.heap.size, n, none⟩ = some (.int .u8 ((dt.data.toList[n].toNat : Nat) : Int)) := by
    rw [cell_of_row _ _ n _ _ _ hh]
    exact bytesRow_cell dt cap n hn2
  have kf : W1.frozen? ⟨w1.heap.size, n, none⟩ = false := by
    simp only [World.frozen?, hh]
    have : ¬ ((bytesRow dt cap).size ≤ n) := by omega
    simp [this]
  have hnl1 : nb < w1.heap.size := lt_heap hnb1
  have hbW : Below w1.heap.size w1 W1 := by rw [hW1]; exact ((Below.refl _ _).drew).alloc (Nat.le_refl _) _
  have hgd : dt.data.toList.getD n 0 = dt.data.toList[n] := by rw [List.getD_eq_getElem?_getD, List.getElem?_eq_getElem hn2]; rfl
  have hcv2 : (convert 93 9 (.slice (some ⟨w1.heap.size, 0, none⟩) dt.size cap)).run Tryz.prog (W1.setCell ⟨w1.heap.size, n, none⟩ (.int .u8 (bits BinOp.xor .u8 ((dt.data.toList[n].toNat : Nat) : Int) m))) = .ok (.string (spoilB dt n m)) (W1.setCell ⟨w1.heap.size, n, none⟩ (.int .u8 (bits BinOp.xor .u8 ((dt.data.toList[n].toNat : Nat) : Int) m))) := by
    have hl : (dt.data.toList.set n (turnB (dt.data.toList.getD n 0) m)).length = dt.size := by simp
    have := run_convert_bytes_back (P := Tryz.prog) (W1.setCell ⟨w1.heap.size, n, none⟩ (.int .u8 (bits BinOp.xor .u8 ((dt.data.toList[n].toNat : Nat) : Int) m))) 93 9 5 ⟨w1.heap.size, 0, none⟩ cap (dt.data.toList.set n (turnB (dt.data.toList.getD n 0) m)) Tryz.underlying93 Tryz.underlying5 Tryz.underlying9 (fun j hj => by
      have hadd : (⟨w1.heap.size, 0, none⟩ : Addr).add j = ⟨w1.heap.size, j, none⟩ := by unfold Addr.add; split <;> simp_all
      rw [hadd, cell_of_row _ _ j _ _ _ (heap_setCell_sameF _ _ n _ _ _ _ hh)]
      have hj2 : j < dt.data.toList.length := by simpa using hj
      by_cases e : j = n
      · subst e
        rw [Array.getElem?_setIfInBounds, if_pos rfl]
        have : j < (bytesRow dt cap).size := by omega
        simp only [this, if_true, List.getElem_set_self]
        rw [turnB_nat, hgd]
      · rw [Array.getElem?_setIfInBounds, if_neg (fun h => e h.symm), bytesRow_cell dt cap j hj2, List.getElem_set_ne (fun h => e h.symm)])
    rw [hl] at this
    exact this
  have hnb2 : (W1.setCell ⟨w1.heap.size, n, none⟩ (.int .u8 (bits BinOp.xor .u8 ((dt.data.toList[n].toNat : Nat) : Int) m))).heap[nb]? = some (.cells #[.string dt, .int .i64 sy] 63 (0, 0)) := by
    rw [heap_setCell_other _ _ _ _ (by simp; omega)]
    exact (hbW.block nb hnl1).trans hnb1
  have m0 : (W1.setCell ⟨w1.heap.size, n, none⟩ (.int .u8 (bits BinOp.xor .u8 ((dt.data.toList[n].toNat : Nat) : Int) m))).cell? ⟨nb, 0, none⟩ = some (.string dt) := cell_of_row _ _ 0 _ _ _ hnb2
  have mf := fun j => frozen_of_row (W1.setCell ⟨w1.heap.size, n, none⟩ (.int .u8 (bits BinOp.xor .u8 ((dt.data.toList[n].toNat : Nat) : Int) m))) nb j _ _ hnb2
  have HNB2 := hide hnb2
  have hbT : Below w.heap.size w (W1.setCell ⟨w1.heap.size, n, none⟩ (.int .u8 (bits BinOp.xor .u8 ((dt.data.toList[n].toNat : Nat) : Int) m))) := ((hb1.trans (hbW.mono hb1.size)).setCell hb1.size _)
  have HBT := hide hbT
  clear hb1 hbW hnb1 hnb2 hbT hW1 hh hgd hrs
  generalize (dt.data.toList[n].toNat : Nat) = bt at k0 hcv2 m0 mf HNB2 HBT
  go_wp2_with fail
  go_ret
  refine ⟨rfl, grownBy_trans (grownBy_below HBT.out _) (grownBy_set _ _ _ _), ?_⟩
  rw [heap_setCell_same _ nb 0 _ _ _ HNB2.out]
  rfl
set_option maxHeartbeats 2000000 in
set_option maxRecDepth 100000 in
theorem rdspoil_arg (b : Nat) (p : ByteArray) (nb : Nat) (a m : Int) (dt : ByteArray) (sy : Int) (w : World) (hnb : w.heap[nb]? = some (.cells #[.string dt, .int .i64 sy] 63 (0, 0)))
    (hfile : Calls Tryz.prog 48 #[.pointer (some ⟨b, 0, none⟩), .string p] w fun e w' => Below w.heap.size w w' ∧ e = .returned (.tuple #[.pointer (some ⟨nb, 0, none⟩), .int .i64 0]))
    (hbad : m < 1 ∨ 255 < m ∨ a < 0 ∨ (dt.size : Int) ≤ a) :
    Calls Tryz.prog 37 #[.pointer (some ⟨b, 0, none⟩), .string p, .int .i64 a, .int .i64 m] w fun e w' => e = .returned (.int .i64 5) ∧ Below w.heap.size w w' := by
  have HF := hide hfile
  have HNB := hide hnb
  have hnl := lt_heap hnb
  clear hfile hnb
  by_cases q1 : m < 1
  · clear hbad
    go_enter Tryz.func37, Tryz.ntmps37
    go_wp2_with fail
    refine (HF.out).mono ?_
    rintro _ w1 ⟨hb1, rfl⟩
    dsimp only
    have HB1 := hide hb1
    have n0 : w1.cell? ⟨nb, 0, none⟩ = some (.string dt) := cell_of_row _ _ 0 _ _ _ ((hb1.block nb hnl).trans HNB.out)
    clear hb1
    go_wp2_with fail
    go_ret
    exact ⟨rfl, HB1.out⟩
  · have e1 : decide (m < 1) = false := decide_eq_false q1
    by_cases q2 : 255 < m
    · clear hbad
      go_enter Tryz.func37, Tryz.ntmps37
      go_wp2_with fail
      refine (HF.out).mono ?_
      rintro _ w1 ⟨hb1, rfl⟩
      dsimp only
      have HB1 := hide hb1
      have n0 : w1.cell? ⟨nb, 0, none⟩ = some (.string dt) := cell_of_row _ _ 0 _ _ _ ((hb1.block nb hnl).trans HNB.out)
      clear hb1
      go_wp2_with fail
      go_ret
      exact ⟨rfl, HB1.out⟩
    · have e2 : decide (255 < m) = false := decide_eq_false q2
      by_cases q3 : a < 0
      · clear hbad
        go_enter Tryz.func37, Tryz.ntmps37
        go_wp2_with fail
        refine (HF.out).mono ?_
        rintro _ w1 ⟨hb1, rfl⟩
        dsimp only
        have HB1 := hide hb1
        have n0 : w1.cell? ⟨nb, 0, none⟩ = some (.string dt) := cell_of_row _ _ 0 _ _ _ ((hb1.block nb hnl).trans HNB.out)
        clear hb1
        go_wp2_with fail
        go_ret
        exact ⟨rfl, HB1.out⟩
      · have e3 : decide (a < 0) = false := decide_eq_false q3
        have q4 : (dt.size : Int) ≤ a := by omega
        clear hbad
        go_enter Tryz.func37, Tryz.ntmps37
        go_wp2_with fail
        refine (HF.out).mono ?_
        rintro _ w1 ⟨hb1, rfl⟩
        dsimp only
        have HB1 := hide hb1
        have n0 : w1.cell? ⟨nb, 0, none⟩ = some (.string dt) := cell_of_row _ _ 0 _ _ _ ((hb1.block nb hnl).trans HNB.out)
        clear hb1
        go_wp2_with fail
        go_ret
        exact ⟨rfl, HB1.out⟩
set_option maxHeartbeats 1000000 in
set_option maxRecDepth 100000 in
theorem rdspoil_bad (b : Nat) (p : ByteArray) (k a m : Int) (hk0 : k ≠ 0) (w : World)
    (hfile : Calls Tryz.prog 48 #[.pointer (some ⟨b, 0, none⟩), .string p] w fun e w' => Below w.heap.size w w' ∧ e = .returned (.tuple #[.pointer none, .int .i64 k])) :
    Calls Tryz.prog 37 #[.pointer (some ⟨b, 0, none⟩), .string p, .int .i64 a, .int .i64 m] w fun e w' => e = .returned (.int .i64 k) ∧ Below w.heap.size w w' := by
  have HF := hide hfile
  have hk1 : decide (k = 0) = false := decide_eq_false hk0
  clear hfile
  go_enter Tryz.func37, Tryz.ntmps37
  go_wp2_with fail
  refine (HF.out).mono ?_
  rintro _ w1 ⟨hb1, rfl⟩
  dsimp only
  have HB1 := hide hb1
  clear hb1
  go_wp2_with fail
  go_ret
  exact ⟨rfl, HB1.out⟩
theorem RDN.setNode {w w2 : World} {b nb : Nat} {R : RDk} {nd : Nat → ByteArray × Int} {ns : List Nat} {cv : Value} {x : ByteArray × Int} (h : RDN w b R nd ns cv) (hm : nb ∈ ns) (hg : w.grownBy w2 (some nb))
    (hb : w2.heap[nb]? = some (.cells #[.string x.1, .int .i64 x.2] 63 (0, 0))) : RDN w2 b R (setNd nd nb x) ns cv := by
  obtain ⟨nv, sv, hi⟩ := h.is
  obtain ⟨e1, e2, e3, e4⟩ := RDN.node_ne h.nds hi hm
  have hk : ∀ k, k < w.heap.size → k ≠ nb → w2.heap[k]? = w.heap[k]? := fun k hk n1 => hg.block k hk (fun e => n1 (by injection e))
  refine ⟨⟨nv, sv, (hk b (lt_of_row hi.blk) (Ne.symm e1)).trans hi.blk, ?_, ?_, ?_⟩, ?_, h.inow, h.isafe, h.ichg⟩
  · exact own_same hi.now (fun k hk1 hk2 => hk k hk2 (e2 k hk1))
  · exact own_same hi.safe (fun k hk1 hk2 => hk k hk2 (e3 k hk1))
  · exact own_same hi.chg (fun k hk1 hk2 => hk k hk2 (e4 k hk1))
  · intro k hkn
    by_cases e : k = nb
    · subst e
      have : setNd nd k x k = x := by simp [setNd]
      rw [this]
      exact hb
    · have : setNd nd nb x k = nd k := by simp [setNd, e]
      rw [this]
      exact (hk k (lt_of_row (h.nds k hkn)) e).trans (h.nds k hkn)
theorem rdSpoil_any (b : Nat) (R : RDk) (nd : Nat → ByteArray × Int) (ns : List Nat) (cv : Value) (p : ByteArray) (a m : Int) (w : World) (h : RDN w b R nd ns cv) (hf : Fits R nd ns) (hp : p.size ≤ 9223372036854775807) :
    Calls Tryz.prog 37 #[.pointer (some ⟨b, 0, none⟩), .string p, .int .i64 a, .int .i64 m] w fun e w' =>
      (isPathB p = false → e = .returned (.int .i64 2) ∧ Below w.heap.size w w') ∧
      (isPathB p = true → findE p R.now = none → e = .returned (.int .i64 3) ∧ Below w.heap.size w w') ∧
      (∀ nb, isPathB p = true → findE p R.now = some nb → ((m < 1 ∨ 255 < m ∨ a < 0 ∨ ((nd nb).1.size : Int) ≤ a) → e = .returned (.int .i64 5) ∧ Below w.heap.size w w') ∧
        (¬ (m < 1 ∨ 255 < m ∨ a < 0 ∨ ((nd nb).1.size : Int) ≤ a) → e = .returned (.int .i64 0) ∧ RDN w' b R (setNd nd nb (spoilB (nd nb).1 a.toNat m, (nd nb).2)) ns cv ∧ Gr (fun k => k = b ∨ k ∈ ns) w w')) := by
  obtain ⟨nv, sv, hi⟩ := h.is
  have HF := file_any b R nv sv cv p w hi hp hf.now
  cases hpp : isPathB p with
  | false =>
    rw [hpp] at HF
    refine (rdspoil_bad b p 2 a m (by decide) w (by simpa using HF)).mono ?_
    rintro e w' ⟨rfl, h2⟩
    exact ⟨fun _ => ⟨rfl, h2⟩, (fun h => by cases h), (fun _ h => by cases h)⟩
  | true =>
    rw [hpp] at HF
    simp only [if_true] at HF
    cases hfo : findE p R.now with
    | none =>
      rw [hfo] at HF
      refine (rdspoil_bad b p 3 a m (by decide) w (by simpa using HF)).mono ?_
      rintro e w' ⟨rfl, h2⟩
      exact ⟨(fun h => by cases h), fun _ _ => ⟨rfl, h2⟩, (fun _ _ h => by cases h)⟩
    | some nb =>
      rw [hfo] at HF
      dsimp only at HF
      have hm : nb ∈ ns := by
        obtain ⟨e, he, hb⟩ := findE_mem hfo
        rw [← hb]; exact h.inow e he
      by_cases hbad : m < 1 ∨ 255 < m ∨ a < 0 ∨ ((nd nb).1.size : Int) ≤ a
      · refine (rdspoil_arg b p nb a m _ _ w (h.nds nb hm) HF hbad).mono ?_
        rintro e w' ⟨rfl, h2⟩
        refine ⟨(fun h => by cases h), (fun _ h => by cases h), fun f' _ h' => ?_⟩
        injection h' with h'
        subst h'
        exact ⟨fun _ => ⟨rfl, h2⟩, fun h => absurd hbad h⟩
      · obtain ⟨n, rfl⟩ : ∃ n : Nat, a = (n : Int) := ⟨a.toNat, by omega⟩
        refine (rdspoil_ok b p nb n m _ _ w (h.nds nb hm) HF (by omega) (by omega) (by omega)).mono ?_
        rintro e w' ⟨rfl, hg, hb⟩
        refine ⟨(fun h => by cases h), (fun _ h => by cases h), fun f' _ h' => ?_⟩
        injection h' with h'
        subst h'
        refine ⟨fun h => absurd h hbad, fun _ => ⟨rfl, ?_, Gr.of_grownBy hg (.inr hm)⟩⟩
        exact h.setNode hm hg hb
end Go.Proofs.YtjipdjkcdoajbaaGreatDoor
