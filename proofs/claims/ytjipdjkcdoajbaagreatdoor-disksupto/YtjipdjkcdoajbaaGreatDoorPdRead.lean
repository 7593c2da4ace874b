/-
  PROVED HERE: what the program's own Read and Spoil of disks do.
-/
import Derived.Test.YtjipdjkcdoajbaaGreatDoorPdRen
import Derived.Laws.BytesArg
import Derived.Laws.IdiomStrings
import Derived.Laws.Closers25b
namespace Go.Proofs.YtjipdjkcdoajbaaGreatDoor
open Go.RowKit
theorem ba_empty {s : ByteArray} (h : s.size = 0) : s = ⟨#[]⟩ := ByteArray.ext (Array.eq_empty_of_size_eq_zero h)
theorem FD.cell {w : World} {f g cap : Nat} {x : ByteArray × Int} (h : FD w f x (.slice (some ⟨g, 0, none⟩) x.1.size cap)) {j : Nat} (hj : j < x.1.data.toList.length) : w.cell? ⟨g, j, none⟩ = some (.int .u8 ((x.1.data.toList[j].toNat : Nat) : Int)) := by
  rcases h.row.2 with ⟨h1, _⟩ | ⟨g', cap', cur, h1, _, hg, _, _, _, htk⟩
  · cases h1
  · injection h1 with h1
    injection h1 with h1
    injection h1 with h1
    subst h1
    have hj2 : j < x.1.size := by simpa using hj
    rw [cell_of_row w g _ _ _ _ hg]
    have : (cur.toList.take (x.1.size * 1))[j]? = (Lib.strCells x.1)[j]? := by rw [htk]
    rw [List.getElem?_take, if_pos (by omega)] at this
    rw [← Array.getElem?_toList, this]
    simp [Lib.strCells, hj2]
theorem FD.text {w : World} {f : Nat} {x : ByteArray × Int} {v : Value} (h : FD w f x v) : (convert 93 9 v).run Tryz.prog w = .ok (.string x.1) w := by
  rcases h.row.2 with ⟨rfl, h0⟩ | ⟨g, cap, cur, hv, _⟩
  · rw [run_convert_bytes_nil w 93 5 Tryz.underlying93 Tryz.underlying5 0 0 9 Tryz.underlying9, ba_empty h0]
    rfl
  · subst hv
    have := run_convert_bytes_back (P := Tryz.prog) w 93 9 5 ⟨g, 0, none⟩ cap x.1.data.toList Tryz.underlying93 Tryz.underlying5 Tryz.underlying9 (fun j hj => by
      have hadd : (⟨g, 0, none⟩ : Addr).add j = ⟨g, j, none⟩ := by unfold Addr.add; split <;> simp_all
      rw [hadd]
      exact h.cell hj)
    have e1 : x.1.data.toList.length = x.1.size := by simp
    rw [e1] at this
    simpa using this
set_option maxHeartbeats 1000000 in
set_option maxRecDepth 100000 in
theorem pdRead (s : PSt) (p : ByteArray) (w : World) (h : s.In w) (hp : p.size ≤ 9223372036854775807) :
    Calls Tryz.prog 46 #[.pointer (some ⟨s.b, 0, none⟩), .string p] w fun e w' => ∃ v t, e = .returned (.tuple #[.string t, v]) ∧
      (isPathB p = false → PRet s w 2 (fun _ => True) v w' ∧ t = ⟨#[]⟩) ∧
      (isPathB p = true → findE p s.R.now = none → PRet s w 3 (fun _ => True) v w' ∧ t = ⟨#[]⟩) ∧
      (∀ f, isPathB p = true → findE p s.R.now = some f → PRet s w 0 (fun s1 => s1 = s) v w' ∧ t = (s.fd f).1) := by
  have HF := hide (pfind_any s.b s.R s.mb s.lb s.cv p w h.is hp)
  have H := hide h
  clear h
  have bad : ∀ k : Int, Calls Tryz.prog 69 #[.pointer (some ⟨s.b, 0, none⟩), .string p] w (fun e w' => w' = w ∧ e = .returned (.tuple #[.pointer none, .iface 124 (.int .i64 k)])) → Calls Tryz.prog 46 #[.pointer (some ⟨s.b, 0, none⟩), .string p] w fun e w' => ∃ v, e = .returned (.tuple #[.string ⟨#[]⟩, v]) ∧ stepE w' v k ∧ Below w.heap.size w w' := by
    intro k hk
    have HK := hide hk
    have hfin : stepE (w.alloc (.cells #[.string ⟨#[82, 101, 97, 100]⟩, .iface 124 (.int .i64 k)] 123)) (.iface 121 (.pointer (some ⟨w.heap.size, 0, none⟩))) k := ⟨_, _, rfl, heap_alloc_new _ _⟩
    have HFIN := hide hfin
    clear hfin hk
    go_enter Tryz.func46, Tryz.ntmps46
    go_wp2_with fail
    refine (HK.out).mono ?_
    rintro _ w1 ⟨hw, rfl⟩
    subst hw
    dsimp only
    go_wp2_with fail
    refine bodyPost_ret (results_tmp2 rfl _ _ _) rfl ?_
    exact ⟨_, rfl, HFIN.out, (Below.refl _ _).alloc (Nat.le_refl _) _⟩
  cases hpp : isPathB p with
  | false =>
    rw [hpp] at HF
    refine (bad 2 (by simpa [refV] using HF.out)).mono ?_
    rintro e w' ⟨v, rfl, h1, h2⟩
    exact ⟨v, _, rfl, fun _ => ⟨PRet.bad (by decide) h1 h2, rfl⟩, (fun h => by cases h), (fun _ h => by cases h)⟩
  | true =>
    rw [hpp] at HF
    simp only [if_true] at HF
    cases hfo : findE p s.R.now with
    | none =>
      rw [hfo] at HF
      refine (bad 3 (by simpa [refV] using HF.out)).mono ?_
      rintro e w' ⟨v, rfl, h1, h2⟩
      exact ⟨v, _, rfl, (fun h => by cases h), fun _ _ => ⟨PRet.bad (by decide) h1 h2, rfl⟩, (fun _ _ h => by cases h)⟩
    | some f =>
      rw [hfo] at HF
      dsimp only at HF
      have hm : f ∈ s.fs := by
        obtain ⟨e, he, hb⟩ := findE_mem hfo
        rw [← hb]; exact H.out.inow e he
      have hfd := H.out.fds f hm
      have htx := hfd.text
      obtain ⟨o, cap, hfv, _, _⟩ := hfd.shape
      have f0 : w.cell? ⟨f, 0, none⟩ = some (s.fv f) := cell_of_row _ _ 0 _ _ _ hfd.blk
      rw [hfv] at f0 htx
      clear hfd hfv
      have key : Calls Tryz.prog 46 #[.pointer (some ⟨s.b, 0, none⟩), .string p] w fun e w' => e = .returned (.tuple #[.string (s.fd f).1, .nilIface]) ∧ w' = w := by
        go_enter Tryz.func46, Tryz.ntmps46
        go_wp2_with fail
        refine (HF.out).mono ?_
        rintro _ w1 ⟨hw, rfl⟩
        subst hw
        dsimp only
        go_wp2_with fail
        refine bodyPost_ret (results_tmp2 rfl _ _ _) rfl ?_
        exact ⟨rfl, rfl⟩
      refine key.mono ?_
      rintro e w' ⟨rfl, rfl⟩
      refine ⟨_, _, rfl, (fun h => by cases h), (fun _ h => by cases h), fun f' _ h => ?_⟩
      injection h with h
      subst h
      exact ⟨PRet.ok (PGo.refl H.out (Below.refl _ _)) rfl, rfl⟩
/-- Bits of a byte turned. -/
def turnB (b : UInt8) (m : Int) : UInt8 := UInt8.ofNat (bits BinOp.xor .u8 ((b.toNat : Nat) : Int) m).toNat
theorem turnB_nat (b : UInt8) (m : Int) : (((turnB b m).toNat : Nat) : Int) = bits BinOp.xor .u8 ((b.toNat : Nat) : Int) m := by
  obtain ⟨h1, h2⟩ := bits_within BinOp.xor .u8 ((b.toNat : Nat) : Int) m
  have h3 : (0 : Int) ≤ bits BinOp.xor .u8 ((b.toNat : Nat) : Int) m := h1
  have h4 : bits BinOp.xor .u8 ((b.toNat : Nat) : Int) m ≤ 255 := h2
  unfold turnB
  rw [UInt8.toNat_ofNat']
  omega
def spoilB (s : ByteArray) (a : Nat) (m : Int) : ByteArray := ⟨(s.data.toList.set a (turnB (s.data.toList.getD a 0) m)).toArray⟩
theorem spoilB_size (s : ByteArray) (a : Nat) (m : Int) : (spoilB s a m).size = s.size := by
  show ((s.data.toList.set a _).toArray).size = s.data.size
  simp
theorem strCells_spoil (s : ByteArray) (a : Nat) (m : Int) : Lib.strCells (spoilB s a m) = (Lib.strCells s).set a (.int .u8 (((turnB (s.data.toList.getD a 0) m).toNat : Nat) : Int)) := by
  unfold Lib.strCells spoilB
  rw [List.toList_toArray, List.map_set]
theorem own_spoil {w : World} {g n cap j : Nat} {xs : List Value} (h : w.ownsRow 0 5 1 (.slice (some ⟨g, 0, none⟩) n cap) n xs) (v : Value) : (w.setCell ⟨g, j, none⟩ v).ownsRow 0 5 1 (.slice (some ⟨g, 0, none⟩) n cap) n (xs.set j v) := by
  refine ⟨by rw [List.length_set]; exact h.1, ?_⟩
  rcases h.2 with ⟨h1, _⟩ | ⟨g', cap', cur, h1, h2, h3, h4, h5, h6, h7⟩
  · cases h1
  · injection h1 with h1 _ h8
    injection h1 with h1
    injection h1 with h1
    subst h1; subst h8
    refine .inr ⟨g, cap, cur.setIfInBounds j v, rfl, h2, row_store v h3, h4, h5, by simpa using h6, ?_⟩
    rw [← h7, Array.toList_setIfInBounds, List.take_set]
theorem FD.notFrozen {w : World} {f g cap : Nat} {x : ByteArray × Int} {n : Nat} (h : FD w f x (.slice (some ⟨g, 0, none⟩) n cap)) (j : Nat) : w.frozen? ⟨g, j, none⟩ = false := by
  obtain ⟨cur, hc⟩ := own_obj h.row g rfl
  exact frozen_of_row w g j _ _ hc
set_option maxHeartbeats 1000000 in
set_option maxRecDepth 100000 in
theorem pspoil_ok (s : PSt) (p : ByteArray) (f : Nat) (n : Nat) (m : Int) (w : World) (h : s.In w) (hf : f ∈ s.fs)
    (hfnd : Calls Tryz.prog 69 #[.pointer (some ⟨s.b, 0, none⟩), .string p] w (fun e w' => w' = w ∧ e = .returned (.tuple #[.pointer (some ⟨f, 0, none⟩), .nilIface])))
    (h1 : 1 ≤ m) (h2 : m ≤ 255) (hn : n < (s.fd f).1.size) :
    Calls Tryz.prog 64 #[.pointer (some ⟨s.b, 0, none⟩), .string p, .int .i64 (n : Int), .int .i64 m] w fun e w' => e = .returned .nilIface ∧ PGo s { s with fd := setNd s.fd f (spoilB (s.fd f).1 n m, (s.fd f).2), fv := setV s.fv f (s.fv f) } w w' := by
  have hfd := h.fds f hf
  obtain ⟨o, cap, hfv, hc1, hc2⟩ := hfd.shape
  obtain ⟨g, ho⟩ : ∃ g, o = some ⟨g, 0, none⟩ := by
    rcases hfd.row.2 with ⟨h1, h0⟩ | ⟨g, cap', cur, h1, _⟩
    · omega
    · rw [hfv] at h1
      injection h1 with h1
      exact ⟨g, h1⟩
  subst ho
  have hfd2 := hfd
  rw [hfv] at hfd2
  have hn2 : n < (s.fd f).1.data.toList.length := by simpa using hn
  have k0 := hfd2.cell hn2
  have f0 : w.cell? ⟨f, 0, none⟩ = some (.slice (some ⟨g, 0, none⟩) (s.fd f).1.size cap) := cell_of_row _ _ 0 _ _ _ hfd2.blk
  have hgf := hfd2.notFrozen n
  have HF := hide hfnd
  have e1 : decide (m < 1) = false := by simp; omega
  have e2 : decide (255 < m) = false := by simp; omega
  have e3 : decide ((n : Int) < 0) = false := by simp
  have hbig : (s.fd f).1.size ≤ 9223372036854775807 := by unfold maxLen at hc2; omega
  have hgd : (s.fd f).1.data.toList.getD n 0 = (s.fd f).1.data.toList[n] := by rw [List.getD_eq_getElem?_getD, List.getElem?_eq_getElem hn2]; rfl
  have hfin : PGo s { s with fd := setNd s.fd f (spoilB (s.fd f).1 n m, (s.fd f).2), fv := setV s.fv f (s.fv f) } w (w.setCell ⟨g, n, none⟩ (.int .u8 (bits BinOp.xor .u8 (((s.fd f).1.data.toList[n].toNat : Nat) : Int) m))) := by
    have hrn : g ≠ f := fun e => hfd.rowNe (by rw [hfv, e]; rfl)
    refine PGo.file h hf (Gr.of_grownBy (grownBy_set _ _ _ _) (.inr (by rw [hfv]; rfl))) ⟨?_, ?_⟩ (.inl rfl)
    · rw [heap_setCell_other _ _ _ _ (by simpa using Ne.symm hrn)]
      exact hfd.blk
    · dsimp only
      rw [spoilB_size, strCells_spoil, hgd, turnB_nat, hfv]
      exact own_spoil hfd2.row _
  have HFIN := hide hfin
  clear hfnd hfd hfd2 h hfin hgd hfv
  generalize ((s.fd f).1.data.toList[n].toNat : Nat) = bt at k0 HFIN
  generalize (s.fd f).1.size = sz at f0 hn hbig hc1
  have e4 : decide ((sz : Int) ≤ (n : Int)) = false := by simp; omega
  go_enter Tryz.func64, Tryz.ntmps64
  go_wp2_with fail
  refine (HF.out).mono ?_
  rintro _ w1 ⟨hw, rfl⟩
  subst hw
  dsimp only
  go_wp2_with fail
  go_ret
  exact ⟨rfl, HFIN.out⟩
set_option maxHeartbeats 2000000 in
set_option maxRecDepth 100000 in
theorem pspoil_arg (s : PSt) (p : ByteArray) (f : Nat) (a m : Int) (w : World) (h : s.In w) (hf : f ∈ s.fs)
    (hfnd : Calls Tryz.prog 69 #[.pointer (some ⟨s.b, 0, none⟩), .string p] w (fun e w' => w' = w ∧ e = .returned (.tuple #[.pointer (some ⟨f, 0, none⟩), .nilIface])))
    (hbad : m < 1 ∨ 255 < m ∨ a < 0 ∨ ((s.fd f).1.size : Int) ≤ a) :
    Calls Tryz.prog 64 #[.pointer (some ⟨s.b, 0, none⟩), .string p, .int .i64 a, .int .i64 m] w fun e w' => ∃ v, e = .returned v ∧ stepE w' v 5 ∧ Below w.heap.size w w' := by
  have hfd := h.fds f hf
  obtain ⟨o, cap, hfv, hc1, hc2⟩ := hfd.shape
  rw [hfv] at hfd
  have f0 : w.cell? ⟨f, 0, none⟩ = some (.slice o (s.fd f).1.size cap) := cell_of_row _ _ 0 _ _ _ hfd.blk
  have HF := hide hfnd
  have hfin : stepE (w.alloc (.cells #[.string ⟨#[83, 112, 111, 105, 108]⟩, .iface 124 (.int .i64 5)] 123)) (.iface 121 (.pointer (some ⟨w.heap.size, 0, none⟩))) 5 := ⟨_, _, rfl, heap_alloc_new _ _⟩
  have HFIN := hide hfin
  clear hfnd hfd h hfin hfv
  generalize (s.fd f).1.size = sz at f0 hbad hc1
  by_cases q1 : m < 1
  · go_enter Tryz.func64, Tryz.ntmps64
    go_wp2_with fail
    refine (HF.out).mono ?_
    rintro _ w1 ⟨hw, rfl⟩
    subst hw
    dsimp only
    go_wp2_with fail
    go_ret
    exact ⟨_, rfl, HFIN.out, (Below.refl _ _).alloc (Nat.le_refl _) _⟩
  · have e1 : decide (m < 1) = false := decide_eq_false q1
    by_cases q2 : 255 < m
    · clear hbad
      go_enter Tryz.func64, Tryz.ntmps64
      go_wp2_with fail
      refine (HF.out).mono ?_
      rintro _ w1 ⟨hw, rfl⟩
      subst hw
      dsimp only
      go_wp2_with fail
      go_ret
      exact ⟨_, rfl, HFIN.out, (Below.refl _ _).alloc (Nat.le_refl _) _⟩
    · have e2 : decide (255 < m) = false := decide_eq_false q2
      by_cases q3 : a < 0
      · clear hbad
        go_enter Tryz.func64, Tryz.ntmps64
        go_wp2_with fail
        refine (HF.out).mono ?_
        rintro _ w1 ⟨hw, rfl⟩
        subst hw
        dsimp only
        go_wp2_with fail
        go_ret
        exact ⟨_, rfl, HFIN.out, (Below.refl _ _).alloc (Nat.le_refl _) _⟩
      · have e3 : decide (a < 0) = false := decide_eq_false q3
        have q4 : (sz : Int) ≤ a := by omega
        clear hbad
        go_enter Tryz.func64, Tryz.ntmps64
        go_wp2_with fail
        refine (HF.out).mono ?_
        rintro _ w1 ⟨hw, rfl⟩
        subst hw
        dsimp only
        go_wp2_with fail
        go_ret
        exact ⟨_, rfl, HFIN.out, (Below.refl _ _).alloc (Nat.le_refl _) _⟩
set_option maxHeartbeats 1000000 in
set_option maxRecDepth 100000 in
theorem pspoil_bad (b : Nat) (p : ByteArray) (k a m : Int) (w : World) (hk : Calls Tryz.prog 69 #[.pointer (some ⟨b, 0, none⟩), .string p] w (fun e w' => w' = w ∧ e = .returned (.tuple #[.pointer none, .iface 124 (.int .i64 k)]))) :
    Calls Tryz.prog 64 #[.pointer (some ⟨b, 0, none⟩), .string p, .int .i64 a, .int .i64 m] w fun e w' => ∃ v, e = .returned v ∧ stepE w' v k ∧ Below w.heap.size w w' := by
  have HK := hide hk
  have hfin : stepE (w.alloc (.cells #[.string ⟨#[83, 112, 111, 105, 108]⟩, .iface 124 (.int .i64 k)] 123)) (.iface 121 (.pointer (some ⟨w.heap.size, 0, none⟩))) k := ⟨_, _, rfl, heap_alloc_new _ _⟩
  have HFIN := hide hfin
  clear hfin hk
  go_enter Tryz.func64, Tryz.ntmps64
  go_wp2_with fail
  refine (HK.out).mono ?_
  rintro _ w1 ⟨hw, rfl⟩
  subst hw
  dsimp only
  go_wp2_with fail
  go_ret
  exact ⟨_, rfl, HFIN.out, (Below.refl _ _).alloc (Nat.le_refl _) _⟩
theorem pdSpoil (s : PSt) (p : ByteArray) (a m : Int) (w : World) (h : s.In w) (hp : p.size ≤ 9223372036854775807) :
    Calls Tryz.prog 64 #[.pointer (some ⟨s.b, 0, none⟩), .string p, .int .i64 a, .int .i64 m] w fun e w' => ∃ v, e = .returned v ∧
      (isPathB p = false → PRet s w 2 (fun _ => True) v w') ∧
      (isPathB p = true → findE p s.R.now = none → PRet s w 3 (fun _ => True) v w') ∧
      (∀ f, isPathB p = true → findE p s.R.now = some f → ((m < 1 ∨ 255 < m ∨ a < 0 ∨ ((s.fd f).1.size : Int) ≤ a) → PRet s w 5 (fun _ => True) v w') ∧
        (¬ (m < 1 ∨ 255 < m ∨ a < 0 ∨ ((s.fd f).1.size : Int) ≤ a) → PRet s w 0 (fun s1 => s1.R = s.R ∧ s1.fs = s.fs ∧ s1.fd = setNd s.fd f (spoilB (s.fd f).1 a.toNat m, (s.fd f).2)) v w')) := by
  have HF := pfind_any s.b s.R s.mb s.lb s.cv p w h.is hp
  cases hpp : isPathB p with
  | false =>
    rw [hpp] at HF
    refine (pspoil_bad s.b p 2 a m w (by simpa [refV] using HF)).mono ?_
    rintro e w' ⟨v, rfl, h1, h2⟩
    exact ⟨v, rfl, fun _ => PRet.bad (by decide) h1 h2, (fun h => by cases h), (fun _ h => by cases h)⟩
  | true =>
    rw [hpp] at HF
    simp only [if_true] at HF
    cases hfo : findE p s.R.now with
    | none =>
      rw [hfo] at HF
      refine (pspoil_bad s.b p 3 a m w (by simpa [refV] using HF)).mono ?_
      rintro e w' ⟨v, rfl, h1, h2⟩
      exact ⟨v, rfl, (fun h => by cases h), fun _ _ => PRet.bad (by decide) h1 h2, (fun _ _ h => by cases h)⟩
    | some f =>
      rw [hfo] at HF
      dsimp only at HF
      have hm : f ∈ s.fs := by
        obtain ⟨e, he, hb⟩ := findE_mem hfo
        rw [← hb]; exact h.inow e he
      by_cases hbad : m < 1 ∨ 255 < m ∨ a < 0 ∨ ((s.fd f).1.size : Int) ≤ a
      · refine (pspoil_arg s p f a m w h hm HF hbad).mono ?_
        rintro e w' ⟨v, rfl, h1, h2⟩
        refine ⟨v, rfl, (fun h => by cases h), (fun _ h => by cases h), fun f' _ h' => ?_⟩
        injection h' with h'
        subst h'
        exact ⟨fun _ => PRet.bad (by decide) h1 h2, fun h => absurd hbad h⟩
      · obtain ⟨n, rfl⟩ : ∃ n : Nat, a = (n : Int) := ⟨a.toNat, by omega⟩
        refine (pspoil_ok s p f n m w h hm HF (by omega) (by omega) (by omega)).mono ?_
        rintro e w' ⟨rfl, hgo⟩
        refine ⟨_, rfl, (fun h => by cases h), (fun _ h => by cases h), fun f' _ h' => ?_⟩
        injection h' with h'
        subst h'
        exact ⟨fun h => absurd h hbad, fun _ => PRet.ok hgo ⟨rfl, rfl, rfl⟩⟩
end Go.Proofs.YtjipdjkcdoajbaaGreatDoor
