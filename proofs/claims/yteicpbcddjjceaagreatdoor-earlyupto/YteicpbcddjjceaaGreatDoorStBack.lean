/-
  PROVED HERE: what the program's functions Of and Hash answer for every content: the hash of the document as a function of its bytes; nothing that was there has turned.
-/
import Derived.Test.YteicpbcddjjceaaGreatDoorFill
import Derived.Test.YteicpbcddjjceaaGreatDoorTurn
namespace Go.Proofs.YteicpbcddjjceaaGreatDoor
open Go.RowKit
theorem run_store40 (w : World) (g : Nat) (old D : List Nat) (ho : old.length = 32) (hD : D.length = 32) (hg : w.heap[g]? = some (.cells (cells8 old) 72 (0, 0))) :
    (Instr.storeAt 72 (.pointer (some ⟨g, 0, none⟩)) (.agg (cells8 D))).run Tryz.prog w = .ok () (w.setRow g (cells8 D)) := by
  simp only [Instr.storeAt, Instr.sureAddr, Sem.run_bind, Sem.run_pure, Result.andThen_ok]
  exact run_storeVar_row w g 72 72 _ _ hg (by rw [cells8_size, hD]; exact size40_32) (by rw [cells8_size, cells8_size, ho, hD]) (cells8_one _)
theorem run_store40v (w : World) (g : Nat) (old D : List Nat) (ho : old.length = 32) (hD : D.length = 32) (hg : w.heap[g]? = some (.cells (cells8 old) 72 (0, 0))) :
    (storeVar 72 ⟨g, 0, none⟩ (.agg (cells8 D))).run Tryz.prog w = .ok () (w.setRow g (cells8 D)) :=
  run_storeVar_row w g 72 72 _ _ hg (by rw [cells8_size, hD]; exact size40_32) (by rw [cells8_size, cells8_size, ho, hD]) (cells8_one _)
theorem run_store40c (w : World) (g : Nat) (old D : List Nat) (ho : old.length = 32) (hD : D.length = 32) (hg : w.heap[g]? = some (.cells (cells8 old) 72 (0, 0))) :
    (storeCells ⟨g, 0, none⟩ (cells8 D).toList 0).run Tryz.prog w = .ok () (w.setRow g (cells8 D)) := by
  have := run_store40v w g old D ho hD hg
  cases hq : Tryz.prog.info? 72 with
  | none => have := size40_32; simp [hq] at this
  | some i =>
    have hs : (cells8 D).size = i.size := by have := size40_32; rw [cells8_size, hD]; simp [hq] at this; omega
    simpa [storeVar, sizeOf, typeInfo, hq, Value.cells, hs] using this
theorem set8_other {w : World} {g k : Nat} (h : k ≠ g) (y0 y1 y2 y3 y4 y5 y6 y7 : Value) :
    ((((((((w.setCell ⟨g, 0, none⟩ y0).setCell ⟨g, 1, none⟩ y1).setCell ⟨g, 2, none⟩ y2).setCell ⟨g, 3, none⟩ y3).setCell ⟨g, 4, none⟩ y4).setCell ⟨g, 5, none⟩ y5).setCell ⟨g, 6, none⟩ y6).setCell ⟨g, 7, none⟩ y7).heap[k]? = w.heap[k]? := by
  rw [heap_setCell_other _ _ _ _ h, heap_setCell_other _ _ _ _ h, heap_setCell_other _ _ _ _ h, heap_setCell_other _ _ _ _ h, heap_setCell_other _ _ _ _ h, heap_setCell_other _ _ _ _ h, heap_setCell_other _ _ _ _ h, heap_setCell_other _ _ _ _ h]
theorem set8_below {B : Nat} {a w : World} (h : Below B a w) {g : Nat} (hg : B ≤ g) (y0 y1 y2 y3 y4 y5 y6 y7 : Value) :
    Below B a ((((((((w.setCell ⟨g, 0, none⟩ y0).setCell ⟨g, 1, none⟩ y1).setCell ⟨g, 2, none⟩ y2).setCell ⟨g, 3, none⟩ y3).setCell ⟨g, 4, none⟩ y4).setCell ⟨g, 5, none⟩ y5).setCell ⟨g, 6, none⟩ y6).setCell ⟨g, 7, none⟩ y7) :=
  (((((((h.setCell (by exact hg) _).setCell (by exact hg) _).setCell (by exact hg) _).setCell (by exact hg) _).setCell (by exact hg) _).setCell (by exact hg) _).setCell (by exact hg) _).setCell (by exact hg) _

/-- A callee that turns nothing old, seen by a caller with two blocks of its own. -/
theorem kept2 {B : Nat} {w W w1 : World} {o0 o1 : Obj} (h0 : W.heap[B]? = some o0) (h1 : W.heap[B + 1]? = some o1) (hb : Below B w W) (hc : Below W.heap.size W w1) :
    w1.heap[B]? = some o0 ∧ w1.heap[B + 1]? = some o1 ∧ Below B w w1 := by
  have l1 := lt_of_row h1
  exact ⟨(hc.block _ (by omega)).trans h0, (hc.block _ (by omega)).trans h1, hb.trans (hc.mono (by omega))⟩

theorem start_lit : (#[.int .u32 1779033703, .int .u32 3144134277, .int .u32 1013904242, .int .u32 2773480762, .int .u32 1359893119, .int .u32 2600822924, .int .u32 528734635, .int .u32 1541459225] : Array Value) = vals Sha.start := rfl
set_option maxHeartbeats 1000000 in
set_option maxRecDepth 100000 in
theorem of_any (b : ByteArray) (w : World) (hm : b.size ≤ 140737488351232) (hK : HasK w) :
    Calls Tryz.prog 61 #[.string b] w fun e w' => e = .returned (.agg (cells8 (Sha.digest (Sha.state b.data.toList)))) ∧ Below w.heap.size w w' := by
  have hz4 := (zero_of_info Tryz.info72).1
  have hz8 := (zero_of_info Tryz.info196).1
  have hK1 := hK.1
  obtain ⟨wh, hwh⟩ : ∃ wh, wh = b.size / 64 * 64 := ⟨_, rfl⟩
  have rwh : (b.size : Int) / 64 * 64 = (wh : Int) := by omega
  have hwl : wh ≤ b.size := by omega
  have hwl2 : b.size - wh < 64 := by omega
  have hwm : wh % 64 = 0 := by omega
  have HWH := hide hwh
  clear hwh
  obtain ⟨S1, hS1⟩ : ∃ S1, S1 = Sha.allTo Sha.start (b.data.toList.take wh) (b.size / 64) := ⟨_, rfl⟩
  have hS1ok : S1.Ok := by rw [hS1]; exact Sha.allTo_ok Sha.start_ok _ _
  obtain ⟨rest, hrest⟩ : ∃ rest, rest = b.extract wh b.size := ⟨_, rfl⟩
  have hrs : rest.size < 64 := by rw [hrest]; simp; omega
  obtain ⟨full, hfull⟩ : ∃ full : List UInt8, full = Sha.fill rest.data.toList b.size := ⟨_, rfl⟩
  have hfl : full.length % 64 = 0 := by rw [hfull]; exact Sha.fill_mod _ _
  have hfl2 : full.length < 200 := by
    rw [hfull, Sha.fill_len]
    have h1 : rest.data.toList.length = rest.size := by simp
    have h2 : Sha.gap rest.data.toList.length < 64 := Nat.mod_lt _ (by omega)
    omega
  obtain ⟨S2, hS2⟩ : ∃ S2, S2 = Sha.allTo S1 full (full.length / 64) := ⟨_, rfl⟩
  have HST : Hid (S2 = Sha.state b.data.toList) := by
    show S2 = _
    have e1 : b.data.toList.length = b.size := by simp
    have e2 : rest.data.toList = b.data.toList.drop wh := by
      rw [hrest]
      simp
      exact List.take_of_length_le (by simp)
    rw [hS2, hfull, hS1, e2]
    unfold Sha.state Sha.whole
    rw [e1, ← HWH.out]
  have HC1 : Hid (∀ W : World, HasK W → Calls Tryz.prog 111 #[.agg #[.int .u32 1779033703, .int .u32 3144134277, .int .u32 1013904242, .int .u32 2773480762, .int .u32 1359893119, .int .u32 2600822924, .int .u32 528734635, .int .u32 1541459225], .string (b.extract 0 wh)] W fun e w' => e = .returned (.agg (vals S1)) ∧ Below W.heap.size W w') := by
    intro W hW
    have := all_any Sha.start (b.extract 0 wh) W Sha.start_ok (by simp [maxLen]; omega) (by simp; omega) hW
    have es : (b.extract 0 wh).size = wh := by simp; omega
    have ed : (b.extract 0 wh).data.toList = b.data.toList.take wh := by simp
    rw [es, ed, show wh / 64 = b.size / 64 by have := HWH.out; omega, ← hS1] at this
    rw [start_lit]
    exact this
  have HC2 : Hid (∀ W : World, Calls Tryz.prog 113 #[.string (b.extract wh b.size), .int .i64 ((b.size : Nat) : Int)] W fun e w' => e = .returned (.string ⟨full.toArray⟩) ∧ Below W.heap.size W w') := by
    intro W
    rw [hfull, ← hrest]
    exact fill_any rest b.size W hrs (by omega)
  have HC3 : Hid (∀ W : World, HasK W → Calls Tryz.prog 111 #[.agg (vals S1), .string ⟨full.toArray⟩] W fun e w' => e = .returned (.agg (vals S2)) ∧ Below W.heap.size W w') := by
    intro W hW
    have es : (ByteArray.mk full.toArray).size = full.length := by simp [ByteArray.size]
    have := all_any S1 ⟨full.toArray⟩ W hS1ok (by rw [es]; simp [maxLen]; omega) (by rw [es]; exact hfl) hW
    rw [es, ← hS2] at this
    exact this
  have hD : (Sha.digest S2).length = 32 := Sha.dBytes_len _ _
  have HD : Hid (∀ W : World, Calls Tryz.prog 112 #[.agg (vals S2)] W fun e w' => e = .returned (.agg (cells8 (Sha.digest S2))) ∧ Below W.heap.size W w') := fun W => digest_any S2 W
  obtain ⟨D, hDD⟩ : ∃ D, D = Sha.digest S2 := ⟨_, rfl⟩
  rw [← hDD] at hD HD
  have HDD : Hid (D = Sha.digest (Sha.state b.data.toList)) := by show D = _; rw [hDD, HST.out]
  clear hrest hfull hS1 hS2 hDD hfl hfl2 hrs hS1ok
  go_enter Tryz.func61, Tryz.ntmps61
  go_wp2
  have h0 : ((w.alloc (.cells (cells8 (Sha.zeros 32)) 72)).alloc (.cells #[.int .u32 1779033703, .int .u32 3144134277, .int .u32 1013904242, .int .u32 2773480762, .int .u32 1359893119, .int .u32 2600822924, .int .u32 528734635, .int .u32 1541459225] 196)).drew.heap[w.heap.size]? = some (.cells (cells8 (Sha.zeros 32)) 72 (0, 0)) := heap_alloc2_old _ _ _
  have h1 : ((w.alloc (.cells (cells8 (Sha.zeros 32)) 72)).alloc (.cells #[.int .u32 1779033703, .int .u32 3144134277, .int .u32 1013904242, .int .u32 2773480762, .int .u32 1359893119, .int .u32 2600822924, .int .u32 528734635, .int .u32 1541459225] 196)).drew.heap[w.heap.size + 1]? = some (.cells #[.int .u32 1779033703, .int .u32 3144134277, .int .u32 1013904242, .int .u32 2773480762, .int .u32 1359893119, .int .u32 2600822924, .int .u32 528734635, .int .u32 1541459225] 196 (0, 0)) := heap_alloc2_new _ _ _
  have h2 : Below w.heap.size w ((w.alloc (.cells (cells8 (Sha.zeros 32)) 72)).alloc (.cells #[.int .u32 1779033703, .int .u32 3144134277, .int .u32 1013904242, .int .u32 2773480762, .int .u32 1359893119, .int .u32 2600822924, .int .u32 528734635, .int .u32 1541459225] 196)).drew := (((Below.refl _ _).alloc (Nat.le_refl _) _).alloc (by simp) _).drew
  have h3 := hK.below h2 hK1
  have HC1' := HC1.out _ h3
  have HCC : Hid (Calls Tryz.prog 111 #[.agg #[.int .u32 1779033703, .int .u32 3144134277, .int .u32 1013904242, .int .u32 2773480762, .int .u32 1359893119, .int .u32 2600822924, .int .u32 528734635, .int .u32 1541459225], .string (b.extract 0 wh)] ((w.alloc (.cells (cells8 (Sha.zeros 32)) 72)).alloc (.cells #[.int .u32 1779033703, .int .u32 3144134277, .int .u32 1013904242, .int .u32 2773480762, .int .u32 1359893119, .int .u32 2600822924, .int .u32 528734635, .int .u32 1541459225] 196)).drew fun e w1 => e = .returned (.agg (vals S1)) ∧ w1.heap[w.heap.size]? = some (.cells (cells8 (Sha.zeros 32)) 72 (0, 0)) ∧ w1.heap[w.heap.size + 1]? = some (.cells #[.int .u32 1779033703, .int .u32 3144134277, .int .u32 1013904242, .int .u32 2773480762, .int .u32 1359893119, .int .u32 2600822924, .int .u32 528734635, .int .u32 1541459225] 196 (0, 0)) ∧ Below w.heap.size w w1) :=
    HC1'.mono fun _ _ ⟨he, hc⟩ => ⟨he, kept2 h0 h1 h2 hc⟩
  clear h0 h1 h2 h3 HC1' HC1
  go_region_with ((go_at_call 111; refine (HCC.out).mono ?_; rintro e w1 ⟨rfl, p0, p1, p2⟩; obtain ⟨d0, d1, d2, d3, d4, d5, d6, d7⟩ := cells_of8 p1; have f0 := fun j => frozen_of_row w1 (w.heap.size + 1) j _ _ p1))
  have g0 : (((((((((w1.setCell ⟨w.heap.size + 1, 0, none⟩ (.int .u32 ((S1.a : Nat) : Int))).setCell ⟨w.heap.size + 1, 1, none⟩ (.int .u32 ((S1.b : Nat) : Int))).setCell ⟨w.heap.size + 1, 2, none⟩ (.int .u32 ((S1.c : Nat) : Int))).setCell ⟨w.heap.size + 1, 3, none⟩ (.int .u32 ((S1.d : Nat) : Int))).setCell ⟨w.heap.size + 1, 4, none⟩ (.int .u32 ((S1.e : Nat) : Int))).setCell ⟨w.heap.size + 1, 5, none⟩ (.int .u32 ((S1.f : Nat) : Int))).setCell ⟨w.heap.size + 1, 6, none⟩ (.int .u32 ((S1.g : Nat) : Int))).setCell ⟨w.heap.size + 1, 7, none⟩ (.int .u32 ((S1.h : Nat) : Int)))).heap[w.heap.size]? = some (.cells (cells8 (Sha.zeros 32)) 72 (0, 0)) := (set8_other (by omega) _ _ _ _ _ _ _ _).trans p0
  have g1 : (((((((((w1.setCell ⟨w.heap.size + 1, 0, none⟩ (.int .u32 ((S1.a : Nat) : Int))).setCell ⟨w.heap.size + 1, 1, none⟩ (.int .u32 ((S1.b : Nat) : Int))).setCell ⟨w.heap.size + 1, 2, none⟩ (.int .u32 ((S1.c : Nat) : Int))).setCell ⟨w.heap.size + 1, 3, none⟩ (.int .u32 ((S1.d : Nat) : Int))).setCell ⟨w.heap.size + 1, 4, none⟩ (.int .u32 ((S1.e : Nat) : Int))).setCell ⟨w.heap.size + 1, 5, none⟩ (.int .u32 ((S1.f : Nat) : Int))).setCell ⟨w.heap.size + 1, 6, none⟩ (.int .u32 ((S1.g : Nat) : Int))).setCell ⟨w.heap.size + 1, 7, none⟩ (.int .u32 ((S1.h : Nat) : Int)))).heap[w.heap.size + 1]? = some (.cells (vals S1) 196 (0, 0)) := store8 _ _ _ _ _ _ _ _ p1
  have g2 : Below w.heap.size w (((((((((w1.setCell ⟨w.heap.size + 1, 0, none⟩ (.int .u32 ((S1.a : Nat) : Int))).setCell ⟨w.heap.size + 1, 1, none⟩ (.int .u32 ((S1.b : Nat) : Int))).setCell ⟨w.heap.size + 1, 2, none⟩ (.int .u32 ((S1.c : Nat) : Int))).setCell ⟨w.heap.size + 1, 3, none⟩ (.int .u32 ((S1.d : Nat) : Int))).setCell ⟨w.heap.size + 1, 4, none⟩ (.int .u32 ((S1.e : Nat) : Int))).setCell ⟨w.heap.size + 1, 5, none⟩ (.int .u32 ((S1.f : Nat) : Int))).setCell ⟨w.heap.size + 1, 6, none⟩ (.int .u32 ((S1.g : Nat) : Int))).setCell ⟨w.heap.size + 1, 7, none⟩ (.int .u32 ((S1.h : Nat) : Int)))) := set8_below p2 (by omega) _ _ _ _ _ _ _ _
  generalize ((((((((w1.setCell ⟨w.heap.size + 1, 0, none⟩ (.int .u32 ((S1.a : Nat) : Int))).setCell ⟨w.heap.size + 1, 1, none⟩ (.int .u32 ((S1.b : Nat) : Int))).setCell ⟨w.heap.size + 1, 2, none⟩ (.int .u32 ((S1.c : Nat) : Int))).setCell ⟨w.heap.size + 1, 3, none⟩ (.int .u32 ((S1.d : Nat) : Int))).setCell ⟨w.heap.size + 1, 4, none⟩ (.int .u32 ((S1.e : Nat) : Int))).setCell ⟨w.heap.size + 1, 5, none⟩ (.int .u32 ((S1.f : Nat) : Int))).setCell ⟨w.heap.size + 1, 6, none⟩ (.int .u32 ((S1.g : Nat) : Int))).setCell ⟨w.heap.size + 1, 7, none⟩ (.int .u32 ((S1.h : Nat) : Int))) = W1 at g0 g1 g2 ⊢
  clear p0 p1 p2 d0 d1 d2 d3 d4 d5 d6 d7 f0 HCC
  obtain ⟨c0, c1, c2, c3, c4, c5, c6, c7⟩ := cells_of8 g1
  have k0 : W1.drew.heap[w.heap.size]? = some (.cells (cells8 (Sha.zeros 32)) 72 (0, 0)) := g0
  have k1 : W1.drew.heap[w.heap.size + 1]? = some (.cells (vals S1) 196 (0, 0)) := g1
  have k2 : Below w.heap.size w W1.drew := g2.drew
  go_wp2
  go_region_with (first
    | (go_at_call 113; refine (HC2.out _).mono ?_; rintro e w2 ⟨rfl, hc2⟩; obtain ⟨a0, a1, a2⟩ := kept2 k0 k1 k2 hc2; obtain ⟨d0, d1, d2, d3, d4, d5, d6, d7⟩ := cells_of8 a1; have hK2 := hK.below a2 hK1)
    | (go_at_call 111; refine (HC3.out _ hK2).mono ?_; rintro e w3 ⟨rfl, hc3⟩; obtain ⟨b0, b1, b2⟩ := kept2 a0 a1 a2 hc3)
    | (go_at_call 112; refine (HD.out _).mono ?_; rintro e w4 ⟨rfl, hc4⟩; obtain ⟨e0, e1, e2⟩ := kept2 b0 b1 b2 hc4; have hst := run_store40 w4 w.heap.size _ D (Sha.zeros_len 32) hD e0; have hst2 := run_store40v w4 w.heap.size _ D (Sha.zeros_len 32) hD e0; have hst3 := run_store40c w4 w.heap.size _ D (Sha.zeros_len 32) hD e0; have hDs : (cells8 D).size = 32 := by rw [cells8_size, hD]))
  all_goals
    go_wp2
    rw [← HDD.out]
    exact bodyPost_ret (results_cell_row Tryz.results61 _ _ w.heap.size 72 _ (0, 0) _ rfl (setRow_heap _ _ _ _ _ _ e0) Tryz.underlying72 rfl (by rw [cells8_size, hD]; exact size40_32)) rfl ⟨rfl, e2.setRow (Nat.le_refl _) _⟩

set_option maxHeartbeats 400000 in
theorem hash_any (b : ByteArray) (w : World) (hm : b.size ≤ 140737488351232) (hK : HasK w) :
    Calls Tryz.prog 31 #[.string b] w fun e w' => e = .returned (.string ⟨(Sha.hash b.data.toList).toArray⟩) ∧ Below w.heap.size w w' := by
  have HO := hide (of_any b w hm hK)
  obtain ⟨D, hD⟩ : ∃ D, D = Sha.digest (Sha.state b.data.toList) := ⟨_, rfl⟩
  have hl : D.length = 32 := by rw [hD]; exact Sha.dBytes_len _ _
  have hlt : ∀ i, D.getD i 0 < 256 := by rw [hD]; exact fun i => Sha.dBytes_lt _ _ i
  have HT : Hid (∀ w, Calls Tryz.prog 23 #[.agg (cells8 D)] w fun e w' => e = .returned (.string ⟨(Sha.hash b.data.toList).toArray⟩) ∧ Below w.heap.size w w') := by
    intro w
    have := text_any D w hl hlt
    rw [hD] at this ⊢
    exact this
  rw [← hD] at HO
  clear hD hl hlt
  go_enter Tryz.func31, Tryz.ntmps31
  go_wp2_with (first | (go_at_call 61; refine (HO.out).mono ?_; rintro e w1 ⟨rfl, hb1⟩) | (go_at_call 23; refine (HT.out _).mono ?_; rintro e w2 ⟨rfl, hb2⟩))
  go_ret
  exact ⟨rfl, hb1.trans (hb2.mono hb1.size)⟩
end Go.Proofs.YteicpbcddjjceaaGreatDoor

/-
  PROVED HERE: the package variables that a store's calls read, and that its disk leaves them; no walk.
-/
namespace Go.Proofs.YteicpbcddjjceaaGreatDoor
open Go.RowKit
def isG (k : Nat) : Prop := k = 3 ∨ k = 2 ∨ k = 0
/-- The package variables hold what the program lays. -/
structure Gl (w : World) : Prop where
  tab : Lib.TabIs Tryz.prog w "internal/strconv.uint64pow10" .u64 Lib.pow10Tab
  hk : HasK w
  err : w.cell? ⟨0, 0, none⟩ = some errT
theorem Gl.lt {w : World} (h : Gl w) {k : Nat} (hk : isG k) : k < w.heap.size := by
  rcases hk with rfl | rfl | rfl
  · exact tab_lt gPow h.tab
  · exact h.hk.1
  · exact World.block_lt_of_cell? _ _ h.err
theorem Gl.same {w w' : World} (h : Gl w) (hsz : w.heap.size ≤ w'.heap.size) (hs : ∀ k, isG k → w'.heap[k]? = w.heap[k]?) : Gl w' := by
  refine ⟨?_, ⟨Nat.lt_of_lt_of_le h.hk.1 hsz, fun i hi => ?_⟩, ?_⟩
  · have h1 := h.tab
    unfold Lib.TabIs World.var? at h1 ⊢
    rw [gPow] at h1 ⊢
    simp only [Option.bind_some] at h1 ⊢
    rw [hs _ (.inl rfl)]
    exact h1
  · exact (World.cell?_of_block (a := ⟨2, i, none⟩) (hs _ (.inr (.inl rfl)))).trans (h.hk.2 i hi)
  · exact (World.cell?_of_block (a := ⟨0, 0, none⟩) (hs _ (.inr (.inr rfl)))).trans h.err
theorem Gl.later {w w' : World} (h : Gl w) (hb : Below w.heap.size w w') : Gl w' := h.same hb.size (fun k hk => hb.block k (h.lt hk))
/-- A disk's blocks are none of the variables'. -/
def LowS (s : PSt) : Prop := ∀ k, s.own k → ¬ isG k
theorem Gl.go {w w' : World} {s s' : PSt} (h : Gl w) (hl : LowS s) (hg : PGo s s' w w') : Gl w' ∧ LowS s' :=
  ⟨h.same hg.gr.size (fun k hk => hg.gr.block k (h.lt hk) (fun ho => hl k ho hk)), fun k hk hG => (hg.own k hk).elim (fun ho => hl k ho hG) (fun hge => by have := h.lt hG; omega)⟩
/-- A store's files that are to be written: their paths and bytes, in a row. -/
def f0 : ByteArray × ByteArray := (⟨#[]⟩, ⟨#[]⟩)
def FlAt (w : World) (v : Value) (fl : List (ByteArray × ByteArray)) : Prop := ∃ oa c, v = .slice oa fl.length c ∧ ∀ i, i < fl.length → ∃ g cur fr, oa = some ⟨g, 0, none⟩ ∧ w.heap[g]? = some (.cells cur 203 fr) ∧ w.cell? ⟨g, i * 2, none⟩ = some (.string (fl.getD i f0).1) ∧ w.cell? ⟨g, i * 2 + 1, none⟩ = some (.string (fl.getD i f0).2)
theorem FlAt.same {w w' : World} {v : Value} {fl : List (ByteArray × ByteArray)} (h : FlAt w v fl) (hs : ∀ (g : Nat) (cur : Array Value) (fr : Nat × Nat), w.heap[g]? = some (.cells cur 203 fr) → w'.heap[g]? = w.heap[g]?) : FlAt w' v fl := by
  obtain ⟨oa, c, rfl, hk⟩ := h
  refine ⟨oa, c, rfl, fun i hi => ?_⟩
  obtain ⟨g, cur, fr, h1, h2, h3, h4⟩ := hk i hi
  have hb := hs g cur fr h2
  exact ⟨g, cur, fr, h1, hb.trans h2, (World.cell?_of_block (a := ⟨g, i * 2, none⟩) hb).trans h3, (World.cell?_of_block (a := ⟨g, i * 2 + 1, none⟩) hb).trans h4⟩
theorem FlAt.later {w w' : World} {v : Value} {fl : List (ByteArray × ByteArray)} (h : FlAt w v fl) (hb : Below w.heap.size w w') : FlAt w' v fl := h.same (fun g _ _ hc => hb.block g (lt_heap hc))
theorem FlAt.go {w w' : World} {v : Value} {fl : List (ByteArray × ByteArray)} {s s' : PSt} (h : FlAt w v fl) (hi : s.In w) (hg : PGo s s' w w') : FlAt w' v fl :=
  h.same (fun g _ _ hc => (hg.keeps hi hc (by decide) (by decide) (by decide) (by decide)).trans hc.symm)
/-- The store stands on its disk, and the variables lie where they lay. -/
structure On (w : World) (sb : Nat) (s : PSt) : Prop where
  sb : SB w sb s.b
  inn : s.In w
  gl : Gl w
  low : LowS s
theorem On.later {w w' : World} {sb : Nat} {s : PSt} (h : On w sb s) (hb : Below w.heap.size w w') : On w' sb s := ⟨h.sb.later hb, h.inn.later hb, h.gl.later hb, h.low⟩
theorem On.go {w w' : World} {sb : Nat} {s s' : PSt} (h : On w sb s) (hg : PGo s s' w w') : On w' sb s' := ⟨h.sb.go h.inn hg, hg.inn, (h.gl.go h.low hg).1, (h.gl.go h.low hg).2⟩
/-- What takeBack does. -/
def tbL (n j : Nat) : List Stp := (List.range j).map fun t => sRm (bPath (n - 1 - t))
theorem tbL_succ (n j : Nat) : tbL n (j + 1) = tbL n j ++ [sRm (bPath (n - 1 - j))] := by
  unfold tbL
  rw [List.range_succ, List.map_append]
  rfl
def tbS (n : Nat) : List Stp := if n = 0 then [] else tbL n n ++ [sSd]
theorem bPath_size (i : Nat) (hi : i ≤ 300) : (bPath i).size ≤ 30 := by
  have h2 := Lib.itoa_length_le ((i : Nat) : Int) (by omega) (by omega)
  have h1 : (bPath i).size = (besideL ++ Lib.itoa (i : Int)).length := by simp [bPath, ByteArray.size]
  rw [h1, List.length_append, show besideL.length = 7 from rfl]
  omega
end Go.Proofs.YteicpbcddjjceaaGreatDoor

/-
  PROVED HERE: what takeBack of a store does: the files that are laid are removed, the last one first.
-/
namespace Go.Proofs.YteicpbcddjjceaaGreatDoor
open Go.RowKit
theorem szs_tbL (n j : Nat) : szs (tbL n j) = 0 := by
  induction j with
  | zero => rfl
  | succ j ih =>
    rw [tbL_succ]
    unfold szs at ih ⊢
    rw [List.map_append, List.sum_append, ih]
    rfl
theorem tbL_len (n j : Nat) : (tbL n j).length = j := by simp [tbL]
theorem dk_rm {s : PSt} {w : World} {p : ByteArray} {L C B : Nat} (h : s.In w) (hf : DFit s.ds L C B) (hb : Bud L C B) (hp : p.size ≤ 9223372036854775807) :
    Calls Tryz.prog 173 #[.pointer (some ⟨s.b, 0, none⟩), .string p] w (DRs s w fun k D' => stR s.ds (sRm p) k D') := dkRemove s p w h hf hb hp
set_option maxHeartbeats 2000000 in
set_option maxRecDepth 100000 in
theorem takeBack_any (sb : Nat) (s : PSt) (n : Nat) (w : World) {L C B : Nat} (h : On w sb s) (hf : DFit s.ds L C B) (hb : Bud (L + n + 1) (C + n + 1) B) (hn : n ≤ 300) :
    Calls Tryz.prog 175 #[.pointer (some ⟨sb, 0, none⟩), .int .i64 ((n : Nat) : Int)] w fun e w' => e = .returned (.tuple #[]) ∧ ∃ s', PGo s s' w w' ∧ RanI s.ds (tbS n) s'.ds := by
  have H := hide h
  have HF := hide hf
  have HB := hide hb
  clear h hf hb
  by_cases hn0 : n = 0
  · subst hn0
    go_enter Tryz.func175, Tryz.ntmps175
    go_wp2_with fail
    refine bodyPost_ret (results_none rfl _ _ _) rfl ?_
    exact ⟨rfl, s, PGo.refl H.out.inn (Below.refl _ _), rfl⟩
  · have hz : (((n : Nat) : Int) == 0) = false := by simp; omega
    have hz2 : ¬ ((n : Nat) : Int) = 0 := by omega
    go_enter Tryz.func175, Tryz.ntmps175
    go_wp2_with fail
    go_loopw [4] (fun iv wr => ∃ (j : Nat) (s1 : PSt), j ≤ n ∧ iv = .int .i64 ((n : Int) - 1 - (j : Int)) ∧ PGo s s1 w wr ∧ RanI s.ds (tbL n j) s1.ds) (fun iv _ => (intOf iv + 1).toNat)
    case atStart => exact ⟨0, s, Nat.zero_le _, by simp, PGo.refl H.out.inn (Below.refl _ _), rfl⟩
    case round =>
      obtain ⟨j, s1, hj, rfl, hgo, hr⟩ := hrel
      have hon := H.out.go hgo
      have HON := hide hon
      have HGO := hide hgo
      have HR := hide hr
      have hf1 := HF.out.ranI hr
      rw [tbL_len, szs_tbL] at hf1
      have HF1 := hide hf1
      obtain ⟨cv, tv, hbl⟩ := hon.sb
      have c0 : wr.cell? ⟨sb, 0, none⟩ = some (.pointer (some ⟨s1.b, 0, none⟩)) := cell_of_row _ _ 0 _ _ _ hbl
      clear hon hgo hr hf1 hbl
      by_cases hlt : j < n
      · obtain ⟨m, hm⟩ : ∃ m : Nat, (n : Int) - 1 - (j : Int) = (m : Int) := ⟨n - 1 - j, by omega⟩
        have hm2 : m = n - 1 - j := by omega
        rw [hm]
        have d1 : decide ((0 : Int) ≤ ((m : Nat) : Int)) = true := decide_eq_true (by omega)
        have hps := bPath_size m (by omega)
        have HP := hide (besidePath_any m (by omega) wr.drew (HON.out.later (Below.refl _ _).drew).gl.tab)
        have HRM := hide (fun (w' : World) (hb' : Below wr.heap.size wr w') => dk_rm (p := bPath m) (HON.out.inn.later hb') HF1.out (HB.out.mono (by omega) (by omega) (by omega)) (by omega))
        have HM2 := hide hm2
        have HM := hide hm
        clear hm2 hm hps
        go_wp2_with fail
        go_region_with (first | (go_at_call 128; refine (HP.out).mono ?_; rintro _ w2 ⟨rfl, hb2⟩; have hb3 : Below wr.heap.size wr w2 := ((Below.refl wr.heap.size wr).drew).trans hb2; have c1 := cell_later hb3 c0) | (go_at_call 173; refine (HRM.out _ hb3).mono ?_; rintro _ w3 ⟨v, k, s2, rfl, hv, hg2, hst⟩))
        all_goals
          have HG2 := hide (HGO.out.trans ((PGo.refl HON.out.inn hb3).trans hg2))
          have HST := hide hst
          clear hg2 hst hv hb2 hb3 c0 c1 HP HRM
          go_wp2_with fail
          have hw : Go.RowKit.wrap64 (((m : Nat) : Int) - 1) = ((m : Nat) : Int) - 1 := by unfold Go.RowKit.wrap64; have := HM.out; omega
          rw [hw]
          refine ⟨⟨j + 1, s2, hlt, ?_, HG2.out, ?_⟩, ?_⟩
          · congr 1
            have := HM.out
            omega
          · rw [tbL_succ, ← HM2.out]
            exact HR.out.snoc HST.out
          · simp only [intOf]
            omega
      · have hjn : j = n := by omega
        subst hjn
        have d1 : decide ((0 : Int) ≤ (j : Int) - 1 - (j : Int)) = false := decide_eq_false (by omega)
        have HSD := hide (dkSyncDir s1 wr HON.out.inn HF1.out (HB.out.mono (by omega) (by omega) (by omega)))
        go_wp2_with fail
        refine HSD.out.mono ?_
        rintro _ w3 ⟨v, k, s2, rfl, hv, hg2, hst⟩
        dsimp only
        have HG2 := hide (HGO.out.trans hg2)
        have HST := hide hst
        clear hg2 hst hv c0
        go_wp2_with fail
        go_end0
        refine ⟨rfl, s2, HG2.out, ?_⟩
        unfold tbS
        rw [if_neg hn0]
        exact HR.out.snoc (t := sSd) HST.out
end Go.Proofs.YteicpbcddjjceaaGreatDoor
