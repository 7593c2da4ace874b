/-
  PROVED HERE: what Publish of the program's store does where there was neither the content nor a tag.
-/
import Derived.Test.YtncigfibncmioaaGreatDoorBsKept
import Derived.Test.YtncigfibncmioaaGreatDoorStLock
namespace Go.Proofs.YtncigfibncmioaaGreatDoor
open Go.RowKit Go.MuLone
def BLk (w : World) (xb sb : Nat) (n : Int) : Prop := w.heap[xb]? = some (.cells #[.int .i32 n, .int .u32 0, .pointer (some ⟨sb, 0, none⟩)] 108 (0, 0))
structure FB (N : Nat) (w w' : World) : Prop where
  low : ∀ k, k < N → k < w.heap.size → w'.heap[k]? = w.heap[k]?
  os : w'.os = w.os
  tape : w'.tape = w.tape
  output : w'.output = w.output
  size : w.heap.size ≤ w'.heap.size
  keep : ∀ (k : Nat) (cur : Array Value) (T : TypeId) (fr : Nat × Nat), w.heap[k]? = some (.cells cur T fr) → fT T → T ≠ 108 → w'.heap[k]? = some (.cells cur T fr)
theorem FB.of {N : Nat} {w w' : World} (h : FT N w w') : FB N w w' := ⟨h.low, h.os, h.tape, h.output, h.size, fun k cur T fr hk hT _ => h.keep k cur T fr hk hT⟩
theorem FB.trans {N : Nat} {a b c : World} (h : FB N a b) (k : FB N b c) : FB N a c := ⟨fun i hi hs => (k.low i hi (Nat.lt_of_lt_of_le hs h.size)).trans (h.low i hi hs), k.os.trans h.os, k.tape.trans h.tape, k.output.trans h.output, Nat.le_trans h.size k.size, fun i cur T fr hi hT h2 => k.keep i cur T fr (h.keep i cur T fr hi hT h2) hT h2⟩
theorem FB.lock {N : Nat} {w : World} {b i : Nat} {cur : Array Value} {v : Value} (hb : w.heap[b]? = some (.cells cur 108 (0, 0))) (hN : N ≤ b) : FB N w (w.setCell ⟨b, i, none⟩ v) :=
  ⟨fun k hk _ => heap_setCell_other _ _ _ _ (fun e => by have e : k = b := e; omega), rfl, rfl, rfl, by simp, fun k cur' T' fr hk hT' h2 => (heap_setCell_other _ _ _ _ (fun e => by
    have e : k = b := e
    subst e
    rw [hb] at hk
    cases hk
    exact h2 rfl)).trans hk⟩
theorem StW.lock {W : World} {sb : Nat} {s : PSt} {cb tb nc nt xb : Nat} {Dc Dt : DataW Value} {n : Int} {v : Value} (h : StW W sb s cb tb nc nt Dc Dt) (hb : BLk W xb sb n) (hG : ¬ isG xb) : StW (W.setCell ⟨xb, 0, none⟩ v) sb s cb tb nc nt Dc Dt :=
  h.put hb (by decide) (h.inn.same (fun k hk => heap_setCell_other _ _ _ _ (fun e => by
    have e : k = xb := e
    subst e
    rcases h.inn.typed hk hb with h3 | h3 | h3 | h3 <;> exact absurd h3 (by decide)))) hG
theorem BLk.set {W : World} {xb sb : Nat} {n : Int} (h : BLk W xb sb n) (m : Int) : BLk (W.setCell ⟨xb, 0, none⟩ (.int .i32 m)) xb sb m := by
  unfold BLk
  rw [heap_setCell_same _ xb 0 _ _ _ h]
  rfl
theorem BLk.later {W W' : World} {xb sb : Nat} {n : Int} (h : BLk W xb sb n) (hb : Below W.heap.size W W') : BLk W' xb sb n := (hb.block _ (lt_heap h)).trans h
end Go.Proofs.YtncigfibncmioaaGreatDoor

/-
  PROVED HERE: what Get of the program's store answers of a content that is there whole.
-/
namespace Go.Proofs.YtncigfibncmioaaGreatDoor
open Go.RowKit Go.MuLone
set_option maxHeartbeats 2000000 in
set_option maxRecDepth 100000 in
theorem find_there (xb sb : Nat) (s : PSt) (cb tb nc nt : Nat) (Dc Dt : DataW Value) (text : ByteArray) (n : Int) (w : World) (hx : BLk w xb sb n) (h : StW w sb s cb tb nc nt Dc Dt) (hu : UnitC Dc) (hd : isDigB text = true) (hh : Maps.has Dc (dKey (rd text)) = true) :
    Calls Tryz.prog 69 #[.pointer (some ⟨xb, 0, none⟩), .string text] w fun e w' => e = .returned (.tuple #[.agg (cells8 (rd text)), .int .i64 0]) ∧ Below w.heap.size w w' := by
  have HRD := hide (fun W => read_any text W)
  rw [hd] at HRD
  have HHS := hide (fun W (hb : Below w.heap.size w W) => has_any sb s cb tb nc nt Dc Dt (rd text) W (h.later hb) hu (rd_len text) (rd_lt text))
  rw [hh] at HHS
  have hds := rd_len text
  generalize rd text = ds at *
  have HX := hide hx
  have HST := hide h
  clear hx h hu hd hh
  go_enter Tryz.func69, Tryz.ntmps69
  go_upto_region 2 with (first | (go_at_call 109; refine (HRD.out _).mono ?_; rintro _ w1 ⟨rfl, hb1⟩) | (refine wpList_store_row rfl 117 _ _ rfl w1.heap.size _ rfl rfl 117 _ (heap_alloc_new _ _) (size40 _ hds) (by rw [cells8_size, hds]; rfl) (cells8_one _) ?_; rw [World.setRow_alloc_new]))
  have hz0 : (w.alloc (.cells (cells8 (Sha.zeros 32)) 117)).heap[w.heap.size]? = some (.cells (cells8 (Sha.zeros 32)) 117 (0, 0)) := heap_alloc_new _ _
  have hb0 : Below w.heap.size w (w.alloc (.cells (cells8 (Sha.zeros 32)) 117)) := (Below.refl _ _).alloc (Nat.le_refl _) _
  have hr1 : w1.heap[w.heap.size]? = some (.cells (cells8 (Sha.zeros 32)) 117 (0, 0)) := (hb1.block _ (lt_heap hz0)).trans hz0
  have hbw1 : Below w.heap.size w w1 := hb0.trans (hb1.mono hb0.size)
  obtain ⟨W, hW⟩ : ∃ W, W = w1.alloc (.cells (cells8 ds) 117) := ⟨_, rfl⟩
  have hBW : Below w1.heap.size w1 W := by rw [hW]; exact (Below.refl _ _).alloc (Nat.le_refl _) _
  have hrow : W.heap[w1.heap.size]? = some (.cells (cells8 ds) 117 (0, 0)) := by rw [hW]; exact heap_alloc_new _ _
  have hrr := (hBW.block _ (lt_heap hr1)).trans hr1
  have hbW : Below w.heap.size w W := hbw1.trans (hBW.mono hbw1.size)
  have hlr := lt_heap hr1
  rw [← hW]
  have c2 : W.cell? ⟨xb, 2, none⟩ = some (.pointer (some ⟨sb, 0, none⟩)) := cell_of_row _ _ 2 _ _ _ (HX.out.later hbW)
  have HBW := hide hbW
  have HROW := hide hrow
  have HRR := hide hrr
  obtain ⟨db, hdb⟩ : ∃ db, db = w1.heap.size := ⟨_, rfl⟩
  obtain ⟨rb, hrb⟩ : ∃ rb, rb = w.heap.size := ⟨_, rfl⟩
  rw [← hdb] at HROW hlr ⊢
  rw [← hrb] at HRR hlr ⊢
  have HRB := hide hrb
  clear hbW hrow hrr hBW hz0 hb0 hr1 hbw1 hb1 hW hdb hrb HRD
  go_wp2_with (refine wpList_load_row rfl 117 _ rfl db rfl 117 _ _ _ HROW.out Tryz.underlying117 rfl (size40 _ hds) ?_)
  have hdr : Below W.heap.size W W.drew := (Below.refl _ _).drew
  have hS0 : W.drew.cell? ⟨xb, 2, none⟩ = some (.pointer (some ⟨sb, 0, none⟩)) ∧ W.drew.rangeAt db 0 (cells8 ds).toList := ⟨cell_later hdr c2, con_r ((hdr.block _ (lt_heap HROW.out)).trans HROW.out)⟩
  have u72 := Tryz.underlying117
  have i72 := size72 ds hds
  have HHS2 := hide (HHS.out W.drew (HBW.out.trans (hdr.mono HBW.out.size)))
  go_region_held3 (fun w' => w'.cell? ⟨xb, 2, none⟩ = some (.pointer (some ⟨sb, 0, none⟩)) ∧ w'.rangeAt db 0 (cells8 ds).toList) (first | exact hS0 | exact hS3 | go_keep) ((go_at_call 110; refine (HHS2.out).mono ?_; rintro _ w3 ⟨rfl, hb3⟩; have hb4 : Below W.heap.size W w3 := hdr.trans hb3; have hr3 := (hb4.block _ (lt_heap HROW.out)).trans HROW.out; have hS3 := And.intro (cell_later hb4 c2) (con_r hr3)))
  have hq3 := (hb4.block _ (lt_heap HRR.out)).trans HRR.out
  have HR3 := hide hr3
  have HQ3 := hide hq3
  have HB4 := hide (HBW.out.trans (hb4.mono HBW.out.size))
  clear hS0 hS3 hr3 hq3 hb3 hb4 hdr c2 HHS HHS2 u72 i72
  go_wp2_with (first | (refine wpList_load_row rfl 117 _ rfl db rfl 117 _ _ _ HR3.out Tryz.underlying117 rfl (size40 _ hds) ?_) | (refine wpList_store_row rfl 117 _ _ rfl rb _ rfl rfl 117 _ HQ3.out (size40 _ hds) (by simp only [cells8_size, hds, Sha.zeros_len]) (cells8_one _) ?_))
  have hsb := HB4.out.setRow (g := rb) (by have := HRB.out; omega) (cells8 ds)
  exact bodyPost_ret (results_cell_tmp Tryz.results69 _ _ rb 117 _ (0, 0) _ (.int .i64 0) rfl rfl (setRow_heap _ _ _ _ _ _ HQ3.out) Tryz.underlying117 rfl (size40 _ hds)) rfl ⟨rfl, hsb⟩
end Go.Proofs.YtncigfibncmioaaGreatDoor

/-
  PROVED HERE: find of the program's store, of a content that is not there, and of a text that is no digest.
-/
namespace Go.Proofs.YtncigfibncmioaaGreatDoor
open Go.RowKit Go.MuLone
set_option maxHeartbeats 2000000 in
set_option maxRecDepth 100000 in
theorem find_none (xb sb : Nat) (s : PSt) (cb tb nc nt : Nat) (Dc Dt : DataW Value) (text : ByteArray) (n : Int) (w : World) (hx : BLk w xb sb n) (h : StW w sb s cb tb nc nt Dc Dt) (hu : UnitC Dc) (hd : isDigB text = true) (hh : Maps.has Dc (dKey (rd text)) = false) :
    Calls Tryz.prog 69 #[.pointer (some ⟨xb, 0, none⟩), .string text] w fun e w' => e = .returned (.tuple #[.agg (cells8 (Sha.zeros 32)), .int .i64 10]) ∧ Below w.heap.size w w' := by
  have HRD := hide (fun W => read_any text W)
  rw [hd] at HRD
  have HHS := hide (fun W (hb : Below w.heap.size w W) => has_any sb s cb tb nc nt Dc Dt (rd text) W (h.later hb) hu (rd_len text) (rd_lt text))
  rw [hh] at HHS
  have hds := rd_len text
  generalize rd text = ds at *
  have HX := hide hx
  have HST := hide h
  clear hx h hu hd hh
  go_enter Tryz.func69, Tryz.ntmps69
  go_upto_region 2 with (first | (go_at_call 109; refine (HRD.out _).mono ?_; rintro _ w1 ⟨rfl, hb1⟩) | (refine wpList_store_row rfl 117 _ _ rfl w1.heap.size _ rfl rfl 117 _ (heap_alloc_new _ _) (size40 _ hds) (by rw [cells8_size, hds]; rfl) (cells8_one _) ?_; rw [World.setRow_alloc_new]))
  have hz0 : (w.alloc (.cells (cells8 (Sha.zeros 32)) 117)).heap[w.heap.size]? = some (.cells (cells8 (Sha.zeros 32)) 117 (0, 0)) := heap_alloc_new _ _
  have hb0 : Below w.heap.size w (w.alloc (.cells (cells8 (Sha.zeros 32)) 117)) := (Below.refl _ _).alloc (Nat.le_refl _) _
  have hr1 : w1.heap[w.heap.size]? = some (.cells (cells8 (Sha.zeros 32)) 117 (0, 0)) := (hb1.block _ (lt_heap hz0)).trans hz0
  have hbw1 : Below w.heap.size w w1 := hb0.trans (hb1.mono hb0.size)
  obtain ⟨W, hW⟩ : ∃ W, W = w1.alloc (.cells (cells8 ds) 117) := ⟨_, rfl⟩
  have hBW : Below w1.heap.size w1 W := by rw [hW]; exact (Below.refl _ _).alloc (Nat.le_refl _) _
  have hrow : W.heap[w1.heap.size]? = some (.cells (cells8 ds) 117 (0, 0)) := by rw [hW]; exact heap_alloc_new _ _
  have hrr := (hBW.block _ (lt_heap hr1)).trans hr1
  have hbW : Below w.heap.size w W := hbw1.trans (hBW.mono hbw1.size)
  have hlr := lt_heap hr1
  rw [← hW]
  have c2 : W.cell? ⟨xb, 2, none⟩ = some (.pointer (some ⟨sb, 0, none⟩)) := cell_of_row _ _ 2 _ _ _ (HX.out.later hbW)
  have HBW := hide hbW
  have HROW := hide hrow
  have HRR := hide hrr
  obtain ⟨db, hdb⟩ : ∃ db, db = w1.heap.size := ⟨_, rfl⟩
  obtain ⟨rb, hrb⟩ : ∃ rb, rb = w.heap.size := ⟨_, rfl⟩
  rw [← hdb] at HROW hlr ⊢
  rw [← hrb] at HRR hlr ⊢
  have HRB := hide hrb
  clear hbW hrow hrr hBW hz0 hb0 hr1 hbw1 hb1 hW hdb hrb HRD
  go_wp2_with (refine wpList_load_row rfl 117 _ rfl db rfl 117 _ _ _ HROW.out Tryz.underlying117 rfl (size40 _ hds) ?_)
  have hdr : Below W.heap.size W W.drew := (Below.refl _ _).drew
  have hS0 : W.drew.cell? ⟨xb, 2, none⟩ = some (.pointer (some ⟨sb, 0, none⟩)) ∧ W.drew.rangeAt db 0 (cells8 ds).toList := ⟨cell_later hdr c2, con_r ((hdr.block _ (lt_heap HROW.out)).trans HROW.out)⟩
  have u72 := Tryz.underlying117
  have i72 := size72 ds hds
  have HHS2 := hide (HHS.out W.drew (HBW.out.trans (hdr.mono HBW.out.size)))
  go_region_held3 (fun w' => w'.cell? ⟨xb, 2, none⟩ = some (.pointer (some ⟨sb, 0, none⟩)) ∧ w'.rangeAt db 0 (cells8 ds).toList) (first | exact hS0 | exact hS3 | go_keep) ((go_at_call 110; refine (HHS2.out).mono ?_; rintro _ w3 ⟨rfl, hb3⟩; have hb4 : Below W.heap.size W w3 := hdr.trans hb3; have hr3 := (hb4.block _ (lt_heap HROW.out)).trans HROW.out; have hS3 := And.intro (cell_later hb4 c2) (con_r hr3)))
  have hq3 := (hb4.block _ (lt_heap HRR.out)).trans HRR.out
  have HR3 := hide hr3
  have HQ3 := hide hq3
  have HB4 := hide (HBW.out.trans (hb4.mono HBW.out.size))
  clear hS0 hS3 hr3 hq3 hb3 hb4 hdr c2 HHS HHS2 u72 i72
  go_wp2_with (refine wpList_store_row rfl 117 _ _ rfl rb (cells8 (Sha.zeros 32)) rfl rfl 117 _ HQ3.out (size40 _ (Sha.zeros_len _)) rfl (cells8_one _) ?_)
  have hsb := HB4.out.setRow (g := rb) (by have := HRB.out; omega) (cells8 (Sha.zeros 32))
  exact bodyPost_ret (results_cell_tmp Tryz.results69 _ _ rb 117 _ (0, 0) _ (.int .i64 10) rfl rfl (setRow_heap _ _ _ _ _ _ HQ3.out) Tryz.underlying117 rfl (size40 _ (Sha.zeros_len _))) rfl ⟨rfl, hsb⟩
set_option maxHeartbeats 2000000 in
set_option maxRecDepth 100000 in
theorem find_bad (xb : Nat) (text : ByteArray) (w : World) (hd : isDigB text = false) :
    Calls Tryz.prog 69 #[.pointer (some ⟨xb, 0, none⟩), .string text] w fun e w' => e = .returned (.tuple #[.agg (cells8 (Sha.zeros 32)), .int .i64 8]) ∧ Below w.heap.size w w' := by
  have HRD := hide (fun W => read_any text W)
  rw [hd] at HRD
  have hds := rd_len text
  generalize rd text = ds at *
  clear hd
  go_enter Tryz.func69, Tryz.ntmps69
  go_upto_region 2 with (first | (go_at_call 109; refine (HRD.out _).mono ?_; rintro _ w1 ⟨rfl, hb1⟩) | (refine wpList_store_row rfl 117 _ _ rfl w1.heap.size _ rfl rfl 117 _ (heap_alloc_new _ _) (size40 _ hds) (by rw [cells8_size, hds]; rfl) (cells8_one _) ?_; rw [World.setRow_alloc_new]))
  have hz0 : (w.alloc (.cells (cells8 (Sha.zeros 32)) 117)).heap[w.heap.size]? = some (.cells (cells8 (Sha.zeros 32)) 117 (0, 0)) := heap_alloc_new _ _
  have hb0 : Below w.heap.size w (w.alloc (.cells (cells8 (Sha.zeros 32)) 117)) := (Below.refl _ _).alloc (Nat.le_refl _) _
  have hr1 : w1.heap[w.heap.size]? = some (.cells (cells8 (Sha.zeros 32)) 117 (0, 0)) := (hb1.block _ (lt_heap hz0)).trans hz0
  have hbw1 : Below w.heap.size w w1 := hb0.trans (hb1.mono hb0.size)
  obtain ⟨W, hW⟩ : ∃ W, W = w1.alloc (.cells (cells8 ds) 117) := ⟨_, rfl⟩
  have hBW : Below w1.heap.size w1 W := by rw [hW]; exact (Below.refl _ _).alloc (Nat.le_refl _) _
  have hrow : W.heap[w1.heap.size]? = some (.cells (cells8 ds) 117 (0, 0)) := by rw [hW]; exact heap_alloc_new _ _
  have hrr := (hBW.block _ (lt_heap hr1)).trans hr1
  have hbW : Below w.heap.size w W := hbw1.trans (hBW.mono hbw1.size)
  have hlr := lt_heap hr1
  rw [← hW]
  have HBW := hide hbW
  have HROW := hide hrow
  have HRR := hide hrr
  obtain ⟨db, hdb⟩ : ∃ db, db = w1.heap.size := ⟨_, rfl⟩
  obtain ⟨rb, hrb⟩ : ∃ rb, rb = w.heap.size := ⟨_, rfl⟩
  rw [← hdb] at HROW hlr ⊢
  rw [← hrb] at HRR hlr ⊢
  have HRB := hide hrb
  clear hbW hrow hrr hBW hz0 hb0 hr1 hbw1 hb1 hW hdb hrb HRD
  go_wp2_with (first | (refine wpList_load_row rfl 117 _ rfl db rfl 117 _ _ _ HROW.out Tryz.underlying117 rfl (size40 _ hds) ?_) | (refine wpList_store_row rfl 117 _ _ rfl rb (cells8 (Sha.zeros 32)) rfl rfl 117 _ HRR.out (size40 _ (Sha.zeros_len _)) rfl (cells8_one _) ?_))
  have hsb := HBW.out.setRow (g := rb) (by have := HRB.out; omega) (cells8 (Sha.zeros 32))
  exact bodyPost_ret (results_cell_tmp Tryz.results69 _ _ rb 117 _ (0, 0) _ (.int .i64 8) rfl rfl (setRow_heap _ _ _ _ _ _ HRR.out) Tryz.underlying117 rfl (size40 _ (Sha.zeros_len _))) rfl ⟨rfl, hsb⟩
end Go.Proofs.YtncigfibncmioaaGreatDoor
