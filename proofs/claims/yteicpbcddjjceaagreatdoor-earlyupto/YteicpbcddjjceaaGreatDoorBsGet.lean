/-
  PROVED HERE: what Publish of the program's store does where there was neither the content nor a tag.
-/
import Derived.Test.YteicpbcddjjceaaGreatDoorBsKept
import Derived.Test.YteicpbcddjjceaaGreatDoorStLock
namespace Go.Proofs.YteicpbcddjjceaaGreatDoor
open Go.RowKit Go.MuLone
/-- The program's store, its lock free (0) or held (1). -/
def BLk (w : World) (xb sb : Nat) (n : Int) : Prop := w.heap[xb]? = some (.cells #[.int .i32 n, .int .u32 0, .pointer (some ⟨sb, 0, none⟩)] 68 (0, 0))
/-- All variables but those of disks and stores lie as they lay. -/
structure FB (N : Nat) (w w' : World) : Prop where
  low : ∀ k, k < N → k < w.heap.size → w'.heap[k]? = w.heap[k]?
  os : w'.os = w.os
  tape : w'.tape = w.tape
  output : w'.output = w.output
  size : w.heap.size ≤ w'.heap.size
  keep : ∀ (k : Nat) (cur : Array Value) (T : TypeId) (fr : Nat × Nat), w.heap[k]? = some (.cells cur T fr) → fT T → T ≠ 68 → w'.heap[k]? = some (.cells cur T fr)
theorem FB.of {N : Nat} {w w' : World} (h : FT N w w') : FB N w w' := ⟨h.low, h.os, h.tape, h.output, h.size, fun k cur T fr hk hT _ => h.keep k cur T fr hk hT⟩
theorem FB.trans {N : Nat} {a b c : World} (h : FB N a b) (k : FB N b c) : FB N a c := ⟨fun i hi hs => (k.low i hi (Nat.lt_of_lt_of_le hs h.size)).trans (h.low i hi hs), k.os.trans h.os, k.tape.trans h.tape, k.output.trans h.output, Nat.le_trans h.size k.size, fun i cur T fr hi hT h2 => k.keep i cur T fr (h.keep i cur T fr hi hT h2) hT h2⟩
theorem FB.lock {N : Nat} {w : World} {b i : Nat} {cur : Array Value} {v : Value} (hb : w.heap[b]? = some (.cells cur 68 (0, 0))) (hN : N ≤ b) : FB N w (w.setCell ⟨b, i, none⟩ v) :=
  ⟨fun k hk _ => heap_setCell_other _ _ _ _ (fun e => by have e : k = b := e; omega), rfl, rfl, rfl, by simp, fun k cur' T' fr hk hT' h2 => (heap_setCell_other _ _ _ _ (fun e => by
    have e : k = b := e
    subst e
    rw [hb] at hk
    cases hk
    exact h2 rfl)).trans hk⟩
theorem StW.lock {W : World} {sb : Nat} {s : PSt} {cb tb nc nt xb : Nat} {Dc Dt : DataW Value} {n : Int} {v : Value} (h : StW W sb s cb tb nc nt Dc Dt) (hb : BLk W xb sb n) (hG : ¬ isG xb) : StW (W.setCell ⟨xb, 0, none⟩ v) sb s cb tb nc nt Dc Dt :=
  h.put hb (by decide) (h.inn.same (fun k hk => heap_setCell_other _ _ _ _ (fun e => by
    have e : k = xb := e
    subst e
    rcases h.inn.typed hk hb with h3 | h3 | h3 | h3 <;> exact absurd h3 (by decide)))) hG
theorem BLk.set {W : World} {xb sb : Nat} {n : Int} (h : BLk W xb sb n) (m : Int) : BLk (W.setCell ⟨xb, 0, none⟩ (.int .i32 m)) xb sb m := by
  unfold BLk
  rw [heap_setCell_same _ xb 0 _ _ _ h]
  rfl
theorem BLk.later {W W' : World} {xb sb : Nat} {n : Int} (h : BLk W xb sb n) (hb : Below W.heap.size W W') : BLk W' xb sb n := (hb.block _ (lt_heap h)).trans h
theorem BLk.ft {W W' : World} {xb sb : Nat} {n : Int} (h : BLk W xb sb n) {N : Nat} (hb : FT N W W') : BLk W' xb sb n := hb.keep _ _ _ _ h (by unfold fT; decide)
set_option maxHeartbeats 4000000 in
set_option maxRecDepth 100000 in
theorem bPub_new (N xb sb : Nat) (s : PSt) (cb tb nc nt : Nat) (Dc : DataW Value) (name b : ByteArray) (w : World) {L C B : Nat} (hx : BSt w xb sb) (hG : ¬ isG xb) (h : StW w sb s cb tb nc nt Dc (.map [])) (htag : isTagB name = true)
    (hcon : conR s.ds (dOfB b) = none) (hb300 : b.size ≤ 300) (hnt : nt ≤ 900) (hnc : nc ≤ 1000) (hrd : ∀ t, rdD s.ds (cPath (dOfB b)) = some t → t.size ≤ 140737488351232)
    (hn : name.size ≤ 20) (hf : DFit s.ds L C B) (hb : Bud (L + 100) (C + 100) (B + 20000)) (hN : NB N s sb cb) (hNx : N ≤ xb) :
    Calls Tryz.prog 11 #[.pointer (some ⟨xb, 0, none⟩), .string name, .string b] w fun e w' => ∃ k s', e = .returned (.tuple #[.string (if k = 0 then dtx (dOfB b) else ⟨#[]⟩), .int .i64 k]) ∧ FB N w w' ∧ WrR s.ds [(cPath (dOfB b), b), (indexP, oneX name (dOfB b) b.size)] k s'.ds ∧ ((∀ k, s'.own k → N ≤ k) ∧ s'.b = s.b) ∧ BSt w' xb sb ∧
      (k = 0 → ∃ t2 n2, StW w' sb s' cb t2 (nc + 1) n2 (dPut Dc (dOfB b)) (oneT name (dOfB b) b.size)) ∧ (k ≠ 0 → StW w' sb s' cb tb nc nt Dc (.map [])) := by
  have hx : BLk w xb sb 0 := hx
  have c0 : w.cell? ⟨xb, 0, none⟩ = some (.int .i32 0) := cell_of_row _ _ 0 _ _ _ hx
  have f0 : w.frozen? ⟨xb, 0, none⟩ = false := frozen_of_row _ _ 0 _ _ hx
  obtain ⟨W, hW⟩ : ∃ W, W = w.setCell ⟨xb, 0, none⟩ (.int .i32 1) := ⟨_, rfl⟩
  have hst : StW W sb s cb tb nc nt Dc (.map []) := by rw [hW]; exact h.lock hx hG
  have hxw : BLk W xb sb 1 := by rw [hW]; exact hx.set 1
  have hfw : FB N w W := by rw [hW]; exact FB.lock hx hNx
  have HIT := hide (ownTag_any name W (by omega))
  rw [htag] at HIT
  have HMT := hide (mayTag_none sb s cb tb nc nt Dc name W hst (by omega))
  have HPB := hide (fun W' (hb' : Below W.heap.size W W') => pub_new N sb s cb tb nc nt Dc name b W' (hst.later hb') hcon hb300 hnt hnc hrd hn hf hb hN)
  have HLK := hide (lock_free Tryz.muLib ⟨xb, 0, none⟩ w c0 f0)
  have HW := hide hW
  have HST := hide hst
  have HXW := hide hxw
  have HFW := hide hfw
  have c2 : W.cell? ⟨xb, 2, none⟩ = some (.pointer (some ⟨sb, 0, none⟩)) := cell_of_row _ _ 2 _ _ _ hxw
  have d1 : decide (300 < (b.size : Int)) = false := decide_eq_false (by omega)
  have hds := dOfB_len b
  have hlt := dOfB_lt b
  generalize dOfB b = ds at *
  clear hx c0 f0 hst hxw hfw hW h hcon hrd hf hb htag
  go_enter_defers Tryz.func11, Tryz.ntmps11
  go_wp2_with fail
  refine (HLK.out).mono ?_
  rintro _ W1 ⟨rfl, hW1⟩
  have hW1 : W1 = W := hW1.trans HW.out.symm
  rw [hW1]
  dsimp only
  clear hW1 HLK HW
  go_wp2_with fail
  refine (HIT.out).mono ?_
  rintro _ W2 ⟨rfl, hW2⟩
  rw [hW2]
  dsimp only
  clear hW2 HIT
  go_wp2_with fail
  refine (HMT.out).mono ?_
  rintro _ w3 ⟨rfl, hb3⟩
  dsimp only
  have c3 := cell_later hb3 c2
  have HPB3 := hide (HPB.out _ hb3)
  have HX3 := hide (HXW.out.later hb3)
  have HF3 := hide (HFW.out.trans (FB.of (FT.of_below hb3)))
  have HS3 := hide (HST.out.later hb3)
  clear hb3 HMT c2 HPB
  go_wp2_with fail
  refine (HPB3.out).mono ?_
  rintro _ w4 ⟨ev, k, s', rfl, hev, hft, hwr, hno, h40, h41⟩
  dsimp only
  have hg4 : Gl w4 := by
    by_cases hk : k = 0
    · obtain ⟨t2, n2, h4⟩ := h40 hk
      exact h4.gl
    · exact (h41 hk).gl
  have HKP := hide (kept_any ds ev k w4 hev hg4 hds hlt)
  have HX4 := hide (HX3.out.ft hft)
  have HF4 := hide (HF3.out.trans (FB.of hft))
  have HWR := hide hwr
  have HNO := hide hno
  clear hno
  have H40 := hide h40
  have H41 := hide h41
  clear hev hft hwr h40 h41 hg4 HPB3 HX3 HF3 c3
  go_wp2_with fail
  refine (HKP.out).mono ?_
  rintro _ w5 ⟨rfl, hb5⟩
  dsimp only
  have hx5 := HX4.out.later hb5
  have HX5 := hide hx5
  have HF5 := hide (HF4.out.trans (FB.of (FT.of_below hb5)))
  have HB5 := hide hb5
  generalize hT : (if k = 0 then dtx ds else ⟨#[]⟩) = T
  have HT := hide hT
  clear hT
  clear hb5 hx5 HKP HX4 HF4
  go_wp2_with fail
  refine leaves_cons (f := 21) (args := #[.pointer (some ⟨xb, 0, none⟩)]) (by simp) (by simp [go_sem]) ?_
  refine (unlock_deferred Tryz.muLib ⟨xb, 0, none⟩ .returning _ (cell_of_row _ _ 0 _ _ _ HX5.out) (frozen_of_row _ _ 0 _ _ HX5.out)).mono ?_
  rintro e u' w6 ⟨rfl, rfl, rfl⟩
  exact ⟨_, results_tmp2 rfl _ _ _, k, s', by rw [HT.out]; rfl, HF5.out.trans (FB.lock HX5.out hNx), HWR.out, HNO.out, HX5.out.set 0, fun hk => by
    obtain ⟨t2, n2, h4⟩ := H40.out hk
    exact ⟨t2, n2, (h4.later HB5.out).lock HX5.out hG⟩, fun hk => ((H41.out hk).later HB5.out).lock HX5.out hG⟩
end Go.Proofs.YteicpbcddjjceaaGreatDoor

/-
  PROVED HERE: what Get of the program's store answers of a content that is there whole.
-/
namespace Go.Proofs.YteicpbcddjjceaaGreatDoor
open Go.RowKit Go.MuLone
set_option maxHeartbeats 2000000 in
set_option maxRecDepth 100000 in
theorem find_there (xb sb : Nat) (s : PSt) (cb tb nc nt : Nat) (Dc Dt : DataW Value) (text : ByteArray) (n : Int) (w : World) (hx : BLk w xb sb n) (h : StW w sb s cb tb nc nt Dc Dt) (hu : UnitC Dc) (hd : isDigB text = true) (hh : Maps.has Dc (dKey (rd text)) = true) :
    Calls Tryz.prog 39 #[.pointer (some ⟨xb, 0, none⟩), .string text] w fun e w' => e = .returned (.tuple #[.agg (cells8 (rd text)), .int .i64 0]) ∧ Below w.heap.size w w' := by
  have HRD := hide (fun W => read_any text W)
  rw [hd] at HRD
  have HHS := hide (fun W (hb : Below w.heap.size w W) => has_any sb s cb tb nc nt Dc Dt (rd text) W (h.later hb) hu (rd_len text) (rd_lt text))
  rw [hh] at HHS
  have hds := rd_len text
  generalize rd text = ds at *
  have HX := hide hx
  have HST := hide h
  clear hx h hu hd hh
  go_enter Tryz.func39, Tryz.ntmps39
  go_upto_region 2 with (first | (go_at_call 69; refine (HRD.out _).mono ?_; rintro _ w1 ⟨rfl, hb1⟩) | (refine wpList_store_row rfl 72 _ _ rfl w1.heap.size _ rfl rfl 72 _ (heap_alloc_new _ _) (size40 _ hds) (by rw [cells8_size, hds]; rfl) (cells8_one _) ?_; rw [World.setRow_alloc_new]))
  have hz0 : (w.alloc (.cells (cells8 (Sha.zeros 32)) 72)).heap[w.heap.size]? = some (.cells (cells8 (Sha.zeros 32)) 72 (0, 0)) := heap_alloc_new _ _
  have hb0 : Below w.heap.size w (w.alloc (.cells (cells8 (Sha.zeros 32)) 72)) := (Below.refl _ _).alloc (Nat.le_refl _) _
  have hr1 : w1.heap[w.heap.size]? = some (.cells (cells8 (Sha.zeros 32)) 72 (0, 0)) := (hb1.block _ (lt_heap hz0)).trans hz0
  have hbw1 : Below w.heap.size w w1 := hb0.trans (hb1.mono hb0.size)
  obtain ⟨W, hW⟩ : ∃ W, W = w1.alloc (.cells (cells8 ds) 72) := ⟨_, rfl⟩
  have hBW : Below w1.heap.size w1 W := by rw [hW]; exact (Below.refl _ _).alloc (Nat.le_refl _) _
  have hrow : W.heap[w1.heap.size]? = some (.cells (cells8 ds) 72 (0, 0)) := by rw [hW]; exact heap_alloc_new _ _
  have hrr := (hBW.block _ (lt_heap hr1)).trans hr1
  have hbW : Below w.heap.size w W := hbw1.trans (hBW.mono hbw1.size)
  have hlr := lt_heap hr1
  rw [← hW]
  have c2 : W.cell? ⟨xb, 2, none⟩ = some (.pointer (some ⟨sb, 0, none⟩)) := cell_of_row _ _ 2 _ _ _ (HX.out.later hbW)
  have HBW := hide hbW
  have HROW := hide hrow
  have HRR := hide hrr
  obtain ⟨db, hdb⟩ : ∃ db, db = w1.heap.size := ⟨_, rfl⟩
  obtain ⟨rb, hrb⟩ : ∃ rb, rb = w.heap.size := ⟨_, rfl⟩
  rw [← hdb] at HROW hlr ⊢
  rw [← hrb] at HRR hlr ⊢
  have HRB := hide hrb
  clear hbW hrow hrr hBW hz0 hb0 hr1 hbw1 hb1 hW hdb hrb HRD
  go_wp2_with (refine wpList_load_row rfl 72 _ rfl db rfl 72 _ _ _ HROW.out Tryz.underlying72 rfl (size40 _ hds) ?_)
  have hdr : Below W.heap.size W W.drew := (Below.refl _ _).drew
  have hS0 : W.drew.cell? ⟨xb, 2, none⟩ = some (.pointer (some ⟨sb, 0, none⟩)) ∧ W.drew.rangeAt db 0 (cells8 ds).toList := ⟨cell_later hdr c2, con_r ((hdr.block _ (lt_heap HROW.out)).trans HROW.out)⟩
  have u72 := Tryz.underlying72
  have i72 := size72 ds hds
  have HHS2 := hide (HHS.out W.drew (HBW.out.trans (hdr.mono HBW.out.size)))
  go_region_held3 (fun w' => w'.cell? ⟨xb, 2, none⟩ = some (.pointer (some ⟨sb, 0, none⟩)) ∧ w'.rangeAt db 0 (cells8 ds).toList) (first | exact hS0 | exact hS3 | go_keep) ((go_at_call 70; refine (HHS2.out).mono ?_; rintro _ w3 ⟨rfl, hb3⟩; have hb4 : Below W.heap.size W w3 := hdr.trans hb3; have hr3 := (hb4.block _ (lt_heap HROW.out)).trans HROW.out; have hS3 := And.intro (cell_later hb4 c2) (con_r hr3)))
  have hq3 := (hb4.block _ (lt_heap HRR.out)).trans HRR.out
  have HR3 := hide hr3
  have HQ3 := hide hq3
  have HB4 := hide (HBW.out.trans (hb4.mono HBW.out.size))
  clear hS0 hS3 hr3 hq3 hb3 hb4 hdr c2 HHS HHS2 u72 i72
  go_wp2_with (first | (refine wpList_load_row rfl 72 _ rfl db rfl 72 _ _ _ HR3.out Tryz.underlying72 rfl (size40 _ hds) ?_) | (refine wpList_store_row rfl 72 _ _ rfl rb _ rfl rfl 72 _ HQ3.out (size40 _ hds) (by simp only [cells8_size, hds, Sha.zeros_len]) (cells8_one _) ?_))
  have hsb := HB4.out.setRow (g := rb) (by have := HRB.out; omega) (cells8 ds)
  exact bodyPost_ret (results_cell_tmp Tryz.results39 _ _ rb 72 _ (0, 0) _ (.int .i64 0) rfl rfl (setRow_heap _ _ _ _ _ _ HQ3.out) Tryz.underlying72 rfl (size40 _ hds)) rfl ⟨rfl, hsb⟩
set_option maxHeartbeats 4000000 in
set_option maxRecDepth 100000 in
theorem bGet_there (N xb sb : Nat) (s : PSt) (cb tb nc nt : Nat) (Dc Dt : DataW Value) (text b : ByteArray) (w : World) (hx : BSt w xb sb) (hG : ¬ isG xb) (hN : ∀ k, s.own k → N ≤ k) (hNx : N ≤ xb) (h : StW w sb s cb tb nc nt Dc Dt) (hu : UnitC Dc) (hd : isDigB text = true) (hh : Maps.has Dc (dKey (rd text)) = true)
    (hcon : conR s.ds (rd text) = some b) (hsz : ∀ t, rdD s.ds (cPath (rd text)) = some t → t.size ≤ 140737488351232) :
    Calls Tryz.prog 12 #[.pointer (some ⟨xb, 0, none⟩), .string text] w fun e w' => e = .returned (.tuple #[.string b, .int .i64 0]) ∧ FB N w w' ∧ BSt w' xb sb ∧ StW w' sb s cb tb nc nt Dc Dt := by
  have hx : BLk w xb sb 0 := hx
  have c0 : w.cell? ⟨xb, 0, none⟩ = some (.int .i32 0) := cell_of_row _ _ 0 _ _ _ hx
  have f0 : w.frozen? ⟨xb, 0, none⟩ = false := frozen_of_row _ _ 0 _ _ hx
  obtain ⟨W, hW⟩ : ∃ W, W = w.setCell ⟨xb, 0, none⟩ (.int .i32 1) := ⟨_, rfl⟩
  have hst : StW W sb s cb tb nc nt Dc Dt := by rw [hW]; exact h.lock hx hG
  have hxw : BLk W xb sb 1 := by rw [hW]; exact hx.set 1
  have hfw : FB N w W := by rw [hW]; exact FB.lock hx hNx
  have HFI := hide (find_there xb sb s cb tb nc nt Dc Dt text 1 W hxw hst hu hd hh)
  have HCO := hide (fun W' (hb' : Below W.heap.size W W') => content_any sb s (rd text) W' (hst.later hb').on (rd_len text) (rd_lt text) hsz)
  rw [hcon] at HCO
  have HLK := hide (lock_free Tryz.muLib ⟨xb, 0, none⟩ w c0 f0)
  have HW := hide hW
  have HST := hide hst
  have HXW := hide hxw
  have HFW := hide hfw
  have hds := rd_len text
  generalize rd text = ds at *
  clear hx c0 f0 hst hxw hfw hW h hcon hsz hu hd hh
  go_enter_defers Tryz.func12, Tryz.ntmps12
  go_wp2_with fail
  refine (HLK.out).mono ?_
  rintro _ W1 ⟨rfl, hW1⟩
  have hW1 : W1 = W := hW1.trans HW.out.symm
  rw [hW1]
  dsimp only
  clear hW1 HLK HW
  go_wp2_with (first | (go_at_call 39; refine (HFI.out).mono ?_; rintro _ w1 ⟨rfl, hb1⟩) | (refine wpList_store_row rfl 72 _ _ rfl w1.heap.size _ rfl rfl 72 _ (heap_alloc_new _ _) (size40 _ hds) (by rw [cells8_size, hds]; rfl) (cells8_one _) ?_; rw [World.setRow_alloc_new]))
  obtain ⟨W2, hW2⟩ : ∃ W2, W2 = w1.alloc (.cells (cells8 ds) 72) := ⟨_, rfl⟩
  have hBW : Below w1.heap.size w1 W2 := by rw [hW2]; exact (Below.refl _ _).alloc (Nat.le_refl _) _
  have hrow : W2.heap[w1.heap.size]? = some (.cells (cells8 ds) 72 (0, 0)) := by rw [hW2]; exact heap_alloc_new _ _
  have hb2 : Below W.heap.size W W2 := hb1.trans (hBW.mono hb1.size)
  rw [← hW2]
  have hdr : Below W2.heap.size W2 W2.drew := (Below.refl _ _).drew
  have hb2d : Below W.heap.size W W2.drew := hb2.trans (hdr.mono hb2.size)
  have HCO2 := hide (HCO.out W2.drew hb2d)
  have hnd : ¬ s.own w1.heap.size := fun e => by have := HST.out.inn.lt e; have := hb1.size; omega
  obtain ⟨db, hdb⟩ : ∃ db, db = w1.heap.size := ⟨_, rfl⟩
  rw [← hdb] at hrow hnd ⊢
  have hS0 : W2.drew.cell? ⟨xb, 2, none⟩ = some (.pointer (some ⟨sb, 0, none⟩)) ∧ W2.drew.rangeAt db 0 (cells8 ds).toList := ⟨cell_of_row _ _ 2 _ _ _ (HXW.out.later hb2d), con_r ((hdr.block _ (lt_heap hrow)).trans hrow)⟩
  have HROW := hide ((hdr.block _ (lt_heap hrow)).trans hrow)
  have HB2D := hide hb2d
  have HX2 := hide (HXW.out.later hb2d)
  have HND := hide hnd
  have u72 := Tryz.underlying72
  have i72 := size72 ds hds
  clear hW2 hBW hrow hb2 hdr hb2d hb1 hdb hnd HFI HCO
  go_region_held3 (fun w' => w'.cell? ⟨xb, 2, none⟩ = some (.pointer (some ⟨sb, 0, none⟩)) ∧ w'.rangeAt db 0 (cells8 ds).toList) (first | exact hS0 | exact hS3 | go_keep) ((go_at_call 40; refine (HCO2.out).mono ?_; rintro _ w3 ⟨rfl, hg3⟩; have hr3 := (hg3.gr.block _ (lt_heap HROW.out) HND.out).trans HROW.out; have hx3 := HX2.out.ft (FT.of_go (HST.out.later HB2D.out).inn hN hg3); have hS3 := And.intro (cell_of_row _ _ 2 _ _ _ hx3) (con_r hr3)))
  have HX3 := hide hx3
  have HF3 := hide ((HFW.out.trans (FB.of (FT.of_below HB2D.out))).trans (FB.of (FT.of_go (HST.out.later HB2D.out).inn hN hg3)))
  have HS3 := hide ((HST.out.later HB2D.out).go hg3)
  clear hS0 hS3 hr3 hx3 hg3 HCO2 u72 i72
  go_wp2_with fail
  refine leaves_cons (f := 21) (args := #[.pointer (some ⟨xb, 0, none⟩)]) (by simp) (by simp [go_sem]) ?_
  refine (unlock_deferred Tryz.muLib ⟨xb, 0, none⟩ .returning _ (cell_of_row _ _ 0 _ _ _ HX3.out) (frozen_of_row _ _ 0 _ _ HX3.out)).mono ?_
  rintro e u' w6 ⟨rfl, rfl, rfl⟩
  exact ⟨_, results_tmp2 rfl _ _ _, rfl, HF3.out.trans (FB.lock HX3.out hNx), HX3.out.set 0, HS3.out.lock HX3.out hG⟩
end Go.Proofs.YteicpbcddjjceaaGreatDoor
