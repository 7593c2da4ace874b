/-
  PROVED HERE: what the program's functions Of and Hash answer for every content: the hash of the document as a function of its bytes; nothing that was there has turned.
-/
import Derived.Test.YtpgamoielkpakaaDoorDig
import Derived.Test.YtpgamoielkpakaaDoorFill
namespace Go.Proofs.YtpgamoielkpakaaDoor
open Go.RowKit
theorem run_store40 (w : World) (g : Nat) (old D : List Nat) (ho : old.length = 32) (hD : D.length = 32) (hg : w.heap[g]? = some (.cells (cells8 old) 40 (0, 0))) :
    (Instr.storeAt 40 (.pointer (some ⟨g, 0, none⟩)) (.agg (cells8 D))).run Tryd.prog w = .ok () (w.setRow g (cells8 D)) := by
  simp only [Instr.storeAt, Instr.sureAddr, Sem.run_bind, Sem.run_pure, Result.andThen_ok]
  exact run_storeVar_row w g 40 40 _ _ hg (by rw [cells8_size, hD]; exact size40_32) (by rw [cells8_size, cells8_size, ho, hD]) (cells8_one _)
theorem run_store40v (w : World) (g : Nat) (old D : List Nat) (ho : old.length = 32) (hD : D.length = 32) (hg : w.heap[g]? = some (.cells (cells8 old) 40 (0, 0))) :
    (storeVar 40 ⟨g, 0, none⟩ (.agg (cells8 D))).run Tryd.prog w = .ok () (w.setRow g (cells8 D)) :=
  run_storeVar_row w g 40 40 _ _ hg (by rw [cells8_size, hD]; exact size40_32) (by rw [cells8_size, cells8_size, ho, hD]) (cells8_one _)
theorem run_store40c (w : World) (g : Nat) (old D : List Nat) (ho : old.length = 32) (hD : D.length = 32) (hg : w.heap[g]? = some (.cells (cells8 old) 40 (0, 0))) :
    (storeCells ⟨g, 0, none⟩ (cells8 D).toList 0).run Tryd.prog w = .ok () (w.setRow g (cells8 D)) := by
  have := run_store40v w g old D ho hD hg
  cases hq : Tryd.prog.info? 40 with
  | none => have := size40_32; simp [hq] at this
  | some i =>
    have hs : (cells8 D).size = i.size := by have := size40_32; rw [cells8_size, hD]; simp [hq] at this; omega
    simpa [storeVar, sizeOf, typeInfo, hq, Value.cells, hs] using this
theorem set8_other {w : World} {g k : Nat} (h : k ≠ g) (y0 y1 y2 y3 y4 y5 y6 y7 : Value) :
    ((((((((w.setCell ⟨g, 0, none⟩ y0).setCell ⟨g, 1, none⟩ y1).setCell ⟨g, 2, none⟩ y2).setCell ⟨g, 3, none⟩ y3).setCell ⟨g, 4, none⟩ y4).setCell ⟨g, 5, none⟩ y5).setCell ⟨g, 6, none⟩ y6).setCell ⟨g, 7, none⟩ y7).heap[k]? = w.heap[k]? := by
  rw [heap_setCell_other _ _ _ _ h, heap_setCell_other _ _ _ _ h, heap_setCell_other _ _ _ _ h, heap_setCell_other _ _ _ _ h, heap_setCell_other _ _ _ _ h, heap_setCell_other _ _ _ _ h, heap_setCell_other _ _ _ _ h, heap_setCell_other _ _ _ _ h]
theorem set8_below {B : Nat} {a w : World} (h : Below B a w) {g : Nat} (hg : B ≤ g) (y0 y1 y2 y3 y4 y5 y6 y7 : Value) :
    Below B a ((((((((w.setCell ⟨g, 0, none⟩ y0).setCell ⟨g, 1, none⟩ y1).setCell ⟨g, 2, none⟩ y2).setCell ⟨g, 3, none⟩ y3).setCell ⟨g, 4, none⟩ y4).setCell ⟨g, 5, none⟩ y5).setCell ⟨g, 6, none⟩ y6).setCell ⟨g, 7, none⟩ y7) :=
  (((((((h.setCell (by exact hg) _).setCell (by exact hg) _).setCell (by exact hg) _).setCell (by exact hg) _).setCell (by exact hg) _).setCell (by exact hg) _).setCell (by exact hg) _).setCell (by exact hg) _

/-- A callee that turns nothing old, seen by a caller with two blocks of its own. -/
theorem kept2 {B : Nat} {w W w1 : World} {o0 o1 : Obj} (h0 : W.heap[B]? = some o0) (h1 : W.heap[B + 1]? = some o1) (hb : Below B w W) (hc : Below W.heap.size W w1) :
    w1.heap[B]? = some o0 ∧ w1.heap[B + 1]? = some o1 ∧ Below B w w1 := by
  have l1 := lt_of_row h1
  exact ⟨(hc.block _ (by omega)).trans h0, (hc.block _ (by omega)).trans h1, hb.trans (hc.mono (by omega))⟩

theorem start_lit : (#[.int .u32 1779033703, .int .u32 3144134277, .int .u32 1013904242, .int .u32 2773480762, .int .u32 1359893119, .int .u32 2600822924, .int .u32 528734635, .int .u32 1541459225] : Array Value) = vals Sha.start := rfl
set_option maxHeartbeats 1000000 in
set_option maxRecDepth 100000 in
theorem of_any (b : ByteArray) (w : World) (hm : b.size ≤ 140737488351232) (hK : HasK w) :
    Calls Tryd.prog 17 #[.string b] w fun e w' => e = .returned (.agg (cells8 (Sha.digest (Sha.state b.data.toList)))) ∧ Below w.heap.size w w' := by
  have hz4 := (zero_of_info Tryd.info40).1
  have hz8 := (zero_of_info Tryd.info59).1
  have hK1 := hK.1
  obtain ⟨wh, hwh⟩ : ∃ wh, wh = b.size / 64 * 64 := ⟨_, rfl⟩
  have rwh : (b.size : Int) / 64 * 64 = (wh : Int) := by omega
  have hwl : wh ≤ b.size := by omega
  have hwl2 : b.size - wh < 64 := by omega
  have hwm : wh % 64 = 0 := by omega
  have HWH := hide hwh
  clear hwh
  obtain ⟨S1, hS1⟩ : ∃ S1, S1 = Sha.allTo Sha.start (b.data.toList.take wh) (b.size / 64) := ⟨_, rfl⟩
  have hS1ok : S1.Ok := by rw [hS1]; exact Sha.allTo_ok Sha.start_ok _ _
  obtain ⟨rest, hrest⟩ : ∃ rest, rest = b.extract wh b.size := ⟨_, rfl⟩
  have hrs : rest.size < 64 := by rw [hrest]; simp; omega
  obtain ⟨full, hfull⟩ : ∃ full : List UInt8, full = Sha.fill rest.data.toList b.size := ⟨_, rfl⟩
  have hfl : full.length % 64 = 0 := by rw [hfull]; exact Sha.fill_mod _ _
  have hfl2 : full.length < 200 := by
    rw [hfull, Sha.fill_len]
    have h1 : rest.data.toList.length = rest.size := by simp
    have h2 : Sha.gap rest.data.toList.length < 64 := Nat.mod_lt _ (by omega)
    omega
  obtain ⟨S2, hS2⟩ : ∃ S2, S2 = Sha.allTo S1 full (full.length / 64) := ⟨_, rfl⟩
  have HST : Hid (S2 = Sha.state b.data.toList) := by
    show S2 = _
    have e1 : b.data.toList.length = b.size := by simp
    have e2 : rest.data.toList = b.data.toList.drop wh := by
      rw [hrest]
      simp
      exact List.take_of_length_le (by simp)
    rw [hS2, hfull, hS1, e2]
    unfold Sha.state Sha.whole
    rw [e1, ← HWH.out]
  have HC1 : Hid (∀ W : World, HasK W → Calls Tryd.prog 36 #[.agg #[.int .u32 1779033703, .int .u32 3144134277, .int .u32 1013904242, .int .u32 2773480762, .int .u32 1359893119, .int .u32 2600822924, .int .u32 528734635, .int .u32 1541459225], .string (b.extract 0 wh)] W fun e w' => e = .returned (.agg (vals S1)) ∧ Below W.heap.size W w') := by
    intro W hW
    have := all_any Sha.start (b.extract 0 wh) W Sha.start_ok (by simp [maxLen]; omega) (by simp; omega) hW
    have es : (b.extract 0 wh).size = wh := by simp; omega
    have ed : (b.extract 0 wh).data.toList = b.data.toList.take wh := by simp
    rw [es, ed, show wh / 64 = b.size / 64 by have := HWH.out; omega, ← hS1] at this
    rw [start_lit]
    exact this
  have HC2 : Hid (∀ W : World, Calls Tryd.prog 38 #[.string (b.extract wh b.size), .int .i64 ((b.size : Nat) : Int)] W fun e w' => e = .returned (.string ⟨full.toArray⟩) ∧ Below W.heap.size W w') := by
    intro W
    rw [hfull, ← hrest]
    exact fill_any rest b.size W hrs (by omega)
  have HC3 : Hid (∀ W : World, HasK W → Calls Tryd.prog 36 #[.agg (vals S1), .string ⟨full.toArray⟩] W fun e w' => e = .returned (.agg (vals S2)) ∧ Below W.heap.size W w') := by
    intro W hW
    have es : (ByteArray.mk full.toArray).size = full.length := by simp [ByteArray.size]
    have := all_any S1 ⟨full.toArray⟩ W hS1ok (by rw [es]; simp [maxLen]; omega) (by rw [es]; exact hfl) hW
    rw [es, ← hS2] at this
    exact this
  have hD : (Sha.digest S2).length = 32 := Sha.dBytes_len _ _
  have HD : Hid (∀ W : World, Calls Tryd.prog 37 #[.agg (vals S2)] W fun e w' => e = .returned (.agg (cells8 (Sha.digest S2))) ∧ Below W.heap.size W w') := fun W => digest_any S2 W
  obtain ⟨D, hDD⟩ : ∃ D, D = Sha.digest S2 := ⟨_, rfl⟩
  rw [← hDD] at hD HD
  have HDD : Hid (D = Sha.digest (Sha.state b.data.toList)) := by show D = _; rw [hDD, HST.out]
  clear hrest hfull hS1 hS2 hDD hfl hfl2 hrs hS1ok
  go_enter Tryd.func17, Tryd.ntmps17
  go_wp2
  have h0 : ((w.alloc (.cells (cells8 (Sha.zeros 32)) 40)).alloc (.cells #[.int .u32 1779033703, .int .u32 3144134277, .int .u32 1013904242, .int .u32 2773480762, .int .u32 1359893119, .int .u32 2600822924, .int .u32 528734635, .int .u32 1541459225] 59)).drew.heap[w.heap.size]? = some (.cells (cells8 (Sha.zeros 32)) 40 (0, 0)) := heap_alloc2_old _ _ _
  have h1 : ((w.alloc (.cells (cells8 (Sha.zeros 32)) 40)).alloc (.cells #[.int .u32 1779033703, .int .u32 3144134277, .int .u32 1013904242, .int .u32 2773480762, .int .u32 1359893119, .int .u32 2600822924, .int .u32 528734635, .int .u32 1541459225] 59)).drew.heap[w.heap.size + 1]? = some (.cells #[.int .u32 1779033703, .int .u32 3144134277, .int .u32 1013904242, .int .u32 2773480762, .int .u32 1359893119, .int .u32 2600822924, .int .u32 528734635, .int .u32 1541459225] 59 (0, 0)) := heap_alloc2_new _ _ _
  have h2 : Below w.heap.size w ((w.alloc (.cells (cells8 (Sha.zeros 32)) 40)).alloc (.cells #[.int .u32 1779033703, .int .u32 3144134277, .int .u32 1013904242, .int .u32 2773480762, .int .u32 1359893119, .int .u32 2600822924, .int .u32 528734635, .int .u32 1541459225] 59)).drew := (((Below.refl _ _).alloc (Nat.le_refl _) _).alloc (by simp) _).drew
  have h3 := hK.below h2 hK1
  have HC1' := HC1.out _ h3
  have HCC : Hid (Calls Tryd.prog 36 #[.agg #[.int .u32 1779033703, .int .u32 3144134277, .int .u32 1013904242, .int .u32 2773480762, .int .u32 1359893119, .int .u32 2600822924, .int .u32 528734635, .int .u32 1541459225], .string (b.extract 0 wh)] ((w.alloc (.cells (cells8 (Sha.zeros 32)) 40)).alloc (.cells #[.int .u32 1779033703, .int .u32 3144134277, .int .u32 1013904242, .int .u32 2773480762, .int .u32 1359893119, .int .u32 2600822924, .int .u32 528734635, .int .u32 1541459225] 59)).drew fun e w1 => e = .returned (.agg (vals S1)) ∧ w1.heap[w.heap.size]? = some (.cells (cells8 (Sha.zeros 32)) 40 (0, 0)) ∧ w1.heap[w.heap.size + 1]? = some (.cells #[.int .u32 1779033703, .int .u32 3144134277, .int .u32 1013904242, .int .u32 2773480762, .int .u32 1359893119, .int .u32 2600822924, .int .u32 528734635, .int .u32 1541459225] 59 (0, 0)) ∧ Below w.heap.size w w1) :=
    HC1'.mono fun _ _ ⟨he, hc⟩ => ⟨he, kept2 h0 h1 h2 hc⟩
  clear h0 h1 h2 h3 HC1' HC1
  go_region_with ((go_at_call 36; refine (HCC.out).mono ?_; rintro e w1 ⟨rfl, p0, p1, p2⟩; obtain ⟨d0, d1, d2, d3, d4, d5, d6, d7⟩ := cells_of8 p1; have f0 := fun j => frozen_of_row w1 (w.heap.size + 1) j _ _ p1))
  have g0 : (((((((((w1.setCell ⟨w.heap.size + 1, 0, none⟩ (.int .u32 ((S1.a : Nat) : Int))).setCell ⟨w.heap.size + 1, 1, none⟩ (.int .u32 ((S1.b : Nat) : Int))).setCell ⟨w.heap.size + 1, 2, none⟩ (.int .u32 ((S1.c : Nat) : Int))).setCell ⟨w.heap.size + 1, 3, none⟩ (.int .u32 ((S1.d : Nat) : Int))).setCell ⟨w.heap.size + 1, 4, none⟩ (.int .u32 ((S1.e : Nat) : Int))).setCell ⟨w.heap.size + 1, 5, none⟩ (.int .u32 ((S1.f : Nat) : Int))).setCell ⟨w.heap.size + 1, 6, none⟩ (.int .u32 ((S1.g : Nat) : Int))).setCell ⟨w.heap.size + 1, 7, none⟩ (.int .u32 ((S1.h : Nat) : Int)))).heap[w.heap.size]? = some (.cells (cells8 (Sha.zeros 32)) 40 (0, 0)) := (set8_other (by omega) _ _ _ _ _ _ _ _).trans p0
  have g1 : (((((((((w1.setCell ⟨w.heap.size + 1, 0, none⟩ (.int .u32 ((S1.a : Nat) : Int))).setCell ⟨w.heap.size + 1, 1, none⟩ (.int .u32 ((S1.b : Nat) : Int))).setCell ⟨w.heap.size + 1, 2, none⟩ (.int .u32 ((S1.c : Nat) : Int))).setCell ⟨w.heap.size + 1, 3, none⟩ (.int .u32 ((S1.d : Nat) : Int))).setCell ⟨w.heap.size + 1, 4, none⟩ (.int .u32 ((S1.e : Nat) : Int))).setCell ⟨w.heap.size + 1, 5, none⟩ (.int .u32 ((S1.f : Nat) : Int))).setCell ⟨w.heap.size + 1, 6, none⟩ (.int .u32 ((S1.g : Nat) : Int))).setCell ⟨w.heap.size + 1, 7, none⟩ (.int .u32 ((S1.h : Nat) : Int)))).heap[w.heap.size + 1]? = some (.cells (vals S1) 59 (0, 0)) := store8 _ _ _ _ _ _ _ _ p1
  have g2 : Below w.heap.size w (((((((((w1.setCell ⟨w.heap.size + 1, 0, none⟩ (.int .u32 ((S1.a : Nat) : Int))).setCell ⟨w.heap.size + 1, 1, none⟩ (.int .u32 ((S1.b : Nat) : Int))).setCell ⟨w.heap.size + 1, 2, none⟩ (.int .u32 ((S1.c : Nat) : Int))).setCell ⟨w.heap.size + 1, 3, none⟩ (.int .u32 ((S1.d : Nat) : Int))).setCell ⟨w.heap.size + 1, 4, none⟩ (.int .u32 ((S1.e : Nat) : Int))).setCell ⟨w.heap.size + 1, 5, none⟩ (.int .u32 ((S1.f : Nat) : Int))).setCell ⟨w.heap.size + 1, 6, none⟩ (.int .u32 ((S1.g : Nat) : Int))).setCell ⟨w.heap.size + 1, 7, none⟩ (.int .u32 ((S1.h : Nat) : Int)))) := set8_below p2 (by omega) _ _ _ _ _ _ _ _
  generalize ((((((((w1.setCell ⟨w.heap.size + 1, 0, none⟩ (.int .u32 ((S1.a : Nat) : Int))).setCell ⟨w.heap.size + 1, 1, none⟩ (.int .u32 ((S1.b : Nat) : Int))).setCell ⟨w.heap.size + 1, 2, none⟩ (.int .u32 ((S1.c : Nat) : Int))).setCell ⟨w.heap.size + 1, 3, none⟩ (.int .u32 ((S1.d : Nat) : Int))).setCell ⟨w.heap.size + 1, 4, none⟩ (.int .u32 ((S1.e : Nat) : Int))).setCell ⟨w.heap.size + 1, 5, none⟩ (.int .u32 ((S1.f : Nat) : Int))).setCell ⟨w.heap.size + 1, 6, none⟩ (.int .u32 ((S1.g : Nat) : Int))).setCell ⟨w.heap.size + 1, 7, none⟩ (.int .u32 ((S1.h : Nat) : Int))) = W1 at g0 g1 g2 ⊢
  clear p0 p1 p2 d0 d1 d2 d3 d4 d5 d6 d7 f0 HCC
  obtain ⟨c0, c1, c2, c3, c4, c5, c6, c7⟩ := cells_of8 g1
  have k0 : W1.drew.heap[w.heap.size]? = some (.cells (cells8 (Sha.zeros 32)) 40 (0, 0)) := g0
  have k1 : W1.drew.heap[w.heap.size + 1]? = some (.cells (vals S1) 59 (0, 0)) := g1
  have k2 : Below w.heap.size w W1.drew := g2.drew
  go_wp2
  go_region_with (first
    | (go_at_call 38; refine (HC2.out _).mono ?_; rintro e w2 ⟨rfl, hc2⟩; obtain ⟨a0, a1, a2⟩ := kept2 k0 k1 k2 hc2; obtain ⟨d0, d1, d2, d3, d4, d5, d6, d7⟩ := cells_of8 a1; have hK2 := hK.below a2 hK1)
    | (go_at_call 36; refine (HC3.out _ hK2).mono ?_; rintro e w3 ⟨rfl, hc3⟩; obtain ⟨b0, b1, b2⟩ := kept2 a0 a1 a2 hc3)
    | (go_at_call 37; refine (HD.out _).mono ?_; rintro e w4 ⟨rfl, hc4⟩; obtain ⟨e0, e1, e2⟩ := kept2 b0 b1 b2 hc4; have hst := run_store40 w4 w.heap.size _ D (Sha.zeros_len 32) hD e0; have hst2 := run_store40v w4 w.heap.size _ D (Sha.zeros_len 32) hD e0; have hst3 := run_store40c w4 w.heap.size _ D (Sha.zeros_len 32) hD e0; have hDs : (cells8 D).size = 32 := by rw [cells8_size, hD]))
  all_goals
    go_wp2
    rw [← HDD.out]
    exact bodyPost_ret (results_cell_row Tryd.results17 _ _ w.heap.size 40 _ (0, 0) _ rfl (setRow_heap _ _ _ _ _ _ e0) Tryd.underlying40 rfl (by rw [cells8_size, hD]; exact size40_32)) rfl ⟨rfl, e2.setRow (Nat.le_refl _) _⟩

set_option maxHeartbeats 400000 in
theorem hash_any (b : ByteArray) (w : World) (hm : b.size ≤ 140737488351232) (hK : HasK w) :
    Calls Tryd.prog 7 #[.string b] w fun e w' => e = .returned (.string ⟨(Sha.hash b.data.toList).toArray⟩) ∧ Below w.heap.size w w' := by
  have HO := hide (of_any b w hm hK)
  obtain ⟨D, hD⟩ : ∃ D, D = Sha.digest (Sha.state b.data.toList) := ⟨_, rfl⟩
  have hl : D.length = 32 := by rw [hD]; exact Sha.dBytes_len _ _
  have hlt : ∀ i, D.getD i 0 < 256 := by rw [hD]; exact fun i => Sha.dBytes_lt _ _ i
  have HT : Hid (∀ w, Calls Tryd.prog 18 #[.agg (cells8 D)] w fun e w' => e = .returned (.string ⟨(Sha.hash b.data.toList).toArray⟩) ∧ Below w.heap.size w w') := by
    intro w
    have := text_any D w hl hlt
    rw [hD] at this ⊢
    exact this
  rw [← hD] at HO
  clear hD hl hlt
  go_enter Tryd.func7, Tryd.ntmps7
  go_wp2_with (first | (go_at_call 17; refine (HO.out).mono ?_; rintro e w1 ⟨rfl, hb1⟩) | (go_at_call 18; refine (HT.out _).mono ?_; rintro e w2 ⟨rfl, hb2⟩))
  go_ret
  exact ⟨rfl, hb1.trans (hb2.mono hb1.size)⟩
end Go.Proofs.YtpgamoielkpakaaDoor
