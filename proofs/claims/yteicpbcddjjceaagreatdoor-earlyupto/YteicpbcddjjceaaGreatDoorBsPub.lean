/-
  PROVED HERE: what Has, HasTag and MayTag of a store answer.
-/
import Derived.Test.YteicpbcddjjceaaGreatDoorStPub
import Derived.Test.YteicpbcddjjceaaGreatDoorCheckLib
import Derived.Test.YteicpbcddjjceaaGreatDoorProg
import Derived.Conc.MuLone
import Derived.KernelRfl
namespace Go.Proofs.YteicpbcddjjceaaGreatDoor
open Go.RowKit
theorem Tryz.zero59 (w : World) : (zeroValue 59).run Tryz.prog w = .ok (.agg #[]) w := by kernel_rfl
/-- A map of contents holds nothing but that they are there. -/
def UnitC (D : DataW Value) : Prop := ∀ kl v, D.atKey kl (.held (.agg #[])) = .held v → v = .agg #[]
theorem unitC_none : UnitC (.map []) := fun kl v h => by
  simp only [DataW.atKey, List.find?_nil] at h
  injection h with h
  exact h.symm
theorem dPut_one (ds : List Nat) : dPut (.map []) ds = .map [(dKey ds, .held (.agg #[]))] := by
  simp [dPut, DataW.put_eq, ChangeMaps.putKey, DataW.insert]
theorem unitC_one (ds : List Nat) : UnitC (dPut (.map []) ds) := fun kl v h => by
  rw [dPut_one] at h
  simp only [DataW.atKey, List.find?_cons, List.find?_nil] at h
  cases hs : (dKey ds).sameKey kl with
  | true => rw [hs] at h; injection h with h; exact h.symm
  | false => rw [hs] at h; injection h with h; exact h.symm
set_option maxHeartbeats 1000000 in
set_option maxRecDepth 100000 in
theorem has_any (sb : Nat) (s : PSt) (cb tb nc nt : Nat) (Dc Dt : DataW Value) (ds : List Nat) (w : World) (h : StW w sb s cb tb nc nt Dc Dt) (hu : UnitC Dc) (hds : ds.length = 32) (hlt : ∀ i, ds.getD i 0 < 256) :
    Calls Tryz.prog 70 #[.pointer (some ⟨sb, 0, none⟩), .agg (cells8 ds)] w fun e w' => e = .returned (.bool (Maps.has Dc (dKey ds))) ∧ Below w.heap.size w w' := by
  have hbo : Below w.heap.size w (w.alloc (.cells (cells8 ds) 72)) := (Below.refl _ _).alloc (Nat.le_refl _) _
  have hrow : (w.alloc (.cells (cells8 ds) 72)).heap[w.heap.size]? = some (.cells (cells8 ds) 72 (0, 0)) := heap_alloc_new _ _
  obtain ⟨W, hW⟩ : ∃ W, W = w.alloc (.cells (cells8 ds) 72) := ⟨_, rfl⟩
  rw [← hW] at hbo hrow
  have hst := h.later hbo
  have HROW := hide hrow
  have HW := hide hW
  have HBO := hide hbo
  have HST := hide hst
  clear h hst hW hbo hrow
  go_enter Tryz.func70, Tryz.ntmps70
  go_upto_region 1 with fail
  rw [← HW.out]
  have hdr : Below W.heap.size W W.drew := (Below.refl _ _).drew
  have h6 := HST.out.later hdr
  have hS0 : W.drew.cell? ⟨sb, 1, none⟩ = some (.map (some cb)) ∧ W.drew.rangeAt w.heap.size 0 (cells8 ds).toList := ⟨cell_of_row _ _ 1 _ _ _ h6.blk, con_r ((hdr.block _ (lt_heap HROW.out)).trans HROW.out)⟩
  obtain ⟨v, ps, hrun, hv⟩ := World.ownsMap.look_ok h6.cm dig_keyed Tryz.underlying119 (Tryz.zero59 _) (show heldR (.agg #[]) = some (.held (.agg #[]), []) from rfl) (key_dig ds hds hlt)
  have hv2 : v = .agg #[] := hu (dKey ds) v (by
    unfold heldR at hv
    injection hv with hv
    injection hv with hv
    exact hv.symm)
  subst hv2
  have u72 := Tryz.underlying72
  have i72 := size72 ds hds
  have hdr1 : Below W.heap.size W (W.alloc (.cells #[] 59)).drew := ((Below.refl _ _).alloc (Nat.le_refl _) _).drew
  have h7 := HST.out.later hdr1
  have hS1 : (W.alloc (.cells #[] 59)).drew.cell? ⟨sb, 1, none⟩ = some (.map (some cb)) ∧ (W.alloc (.cells #[] 59)).drew.rangeAt w.heap.size 0 (cells8 ds).toList := ⟨cell_of_row _ _ 1 _ _ _ h7.blk, con_r ((hdr1.block _ (lt_heap HROW.out)).trans HROW.out)⟩
  obtain ⟨v, ps, hrun1, hv1⟩ := World.ownsMap.look_ok h7.cm dig_keyed Tryz.underlying119 (Tryz.zero59 _) (show heldR (.agg #[]) = some (.held (.agg #[]), []) from rfl) (key_dig ds hds hlt)
  have hv2 : v = .agg #[] := hu (dKey ds) v (by
    unfold heldR at hv1
    injection hv1 with hv1
    injection hv1 with hv1
    exact hv1.symm)
  subst hv2
  clear h6 h7 hv hv1
  go_region_held3 (fun w' => w'.cell? ⟨sb, 1, none⟩ = some (.map (some cb)) ∧ w'.rangeAt w.heap.size 0 (cells8 ds).toList) (first | exact hS0 | exact hS1 | go_keep) (fail)
  all_goals
    go_wp2_with fail
    go_ret
    exact ⟨rfl, HBO.out.trans (hdr1.mono HBO.out.size)⟩
set_option maxHeartbeats 1000000 in
set_option maxRecDepth 100000 in
theorem hasTag_none (sb : Nat) (s : PSt) (cb tb nc nt : Nat) (Dc : DataW Value) (name : ByteArray) (w : World) (h : StW w sb s cb tb nc nt Dc (.map [])) (hn : name.size ≤ 1000000) :
    Calls Tryz.prog 66 #[.pointer (some ⟨sb, 0, none⟩), .string name] w fun e w' => e = .returned (.bool false) ∧ Below w.heap.size w w' := by
  have HST := hide h
  have hz71 := (zero_of_info Tryz.info71b).1
  obtain ⟨v, ps, hrun, hv⟩ := World.ownsMap.look_ok h.tm str_keyed Tryz.underlying120 (hz71 w) (show heldR _ = some (.held _, []) from rfl) (key_str name hn)
  have hv2 : Value.agg (ecellsOf ⟨#[]⟩ (Sha.zeros 32) 0) = v := by
    unfold heldR at hv
    injection hv with hv
    injection hv with hv
    injection hv with hv
    exact hv.symm
  subst hv2
  have hh : Maps.has (.map [] : DataW Value) (.string name.data.toList) = false := rfl
  rw [hh] at hrun
  have c2 := cell_of_row _ _ 2 _ _ _ h.blk
  clear h hv hh
  go_enter Tryz.func66, Tryz.ntmps66
  go_wp2_with (refine wpList_store_row rfl 130 _ _ rfl w.heap.size _ rfl rfl 130 _ (heap_alloc_new _ _) (size71 _ _ _ (Sha.zeros_len _)) rfl (Array.all_eq_true_iff_forall_mem.2 fun u hu => ecellsOf_one _ _ _ u (by simpa using hu)) ?_; rw [World.setRow_alloc_new])
  go_ret
  exact ⟨rfl, (Below.refl _ _).alloc (Nat.le_refl _) _⟩
set_option maxHeartbeats 1000000 in
set_option maxRecDepth 100000 in
theorem mayTag_none (sb : Nat) (s : PSt) (cb tb nc nt : Nat) (Dc : DataW Value) (name : ByteArray) (w : World) (h : StW w sb s cb tb nc nt Dc (.map [])) (hn : name.size ≤ 1000000) :
    Calls Tryz.prog 36 #[.pointer (some ⟨sb, 0, none⟩), .string name] w fun e w' => e = .returned (.bool true) ∧ Below w.heap.size w w' := by
  have HT := hide (hasTag_none sb s cb tb nc nt Dc name w h hn)
  have HST := hide h
  clear h
  go_enter Tryz.func36, Tryz.ntmps36
  go_wp2_with fail
  refine (HT.out).mono ?_
  rintro _ w1 ⟨rfl, hb1⟩
  dsimp only
  have h1 := HST.out.later hb1
  have c2 := cell_of_row _ _ 2 _ _ _ h1.blk
  have l2 := h1.tm.len Tryz.underlying120
  have hz : Maps.size (.map [] : DataW Value) = 0 := rfl
  simp only [hz] at l2
  have HB1 := hide hb1
  clear hb1 h1 HT hz
  go_wp2_with fail
  go_ret
  exact ⟨rfl, HB1.out⟩
end Go.Proofs.YteicpbcddjjceaaGreatDoor

/-
  PROVED HERE: what kept and find of package blobs answer.
-/
namespace Go.Proofs.YteicpbcddjjceaaGreatDoor
open Go.RowKit
theorem ErrV.later {w w' : World} {ev : Value} {k : Int} (h : ErrV w ev k) (hb : Below w.heap.size w w') : ErrV w' ev k := by
  rcases h with h | ⟨h0, sv, nm, h1, h2⟩
  · exact .inl h
  · exact .inr ⟨h0, sv, nm, h1, (hb.block _ (lt_heap h2)).trans h2⟩
set_option maxHeartbeats 1000000 in
set_option maxRecDepth 100000 in
theorem kept_any (ds : List Nat) (ev : Value) (k : Int) (w : World) (hev : ErrV w ev k) (hg : Gl w) (hds : ds.length = 32) (hlt : ∀ i, ds.getD i 0 < 256) :
    Calls Tryz.prog 37 #[.agg (cells8 ds), ev] w fun e w' => e = .returned (.tuple #[.string (if k = 0 then dtx ds else ⟨#[]⟩), .int .i64 k]) ∧ Below w.heap.size w w' := by
  have hbo : Below w.heap.size w (w.alloc (.cells (cells8 ds) 72)) := (Below.refl _ _).alloc (Nat.le_refl _) _
  have hrow : (w.alloc (.cells (cells8 ds) 72)).heap[w.heap.size]? = some (.cells (cells8 ds) 72 (0, 0)) := heap_alloc_new _ _
  obtain ⟨W, hW⟩ : ∃ W, W = w.alloc (.cells (cells8 ds) 72) := ⟨_, rfl⟩
  rw [← hW] at hbo hrow
  have HER := hide (errno_ev (hev.later hbo) (hg.later hbo).err)
  have HTX := hide (text_any ds W hds hlt)
  have HROW := hide hrow
  have HW := hide hW
  have HBO := hide hbo
  clear hg hW hbo hrow
  rcases hev with ⟨rfl, rfl⟩ | ⟨hk0, sv, nm, rfl, hsv⟩
  · go_enter Tryz.func37, Tryz.ntmps37
    go_upto_region 1 with fail
    rw [← HW.out]
    go_wp2_with (refine wpList_load_row rfl 72 _ rfl w.heap.size rfl 72 _ _ _ HROW.out Tryz.underlying72 rfl (size40 _ hds) ?_)
    refine (HTX.out).mono ?_
    rintro _ w1 ⟨rfl, hb1⟩
    dsimp only
    have HB1 := hide hb1
    clear hb1 HTX HER
    go_wp2_with fail
    refine bodyPost_ret (results_tmp2 rfl _ _ _) rfl ?_
    exact ⟨rfl, HBO.out.trans (HB1.out.mono HBO.out.size)⟩
  · have HSV := hide hsv
    clear hsv
    go_enter Tryz.func37, Tryz.ntmps37
    go_upto_region 1 with fail
    rw [← HW.out]
    go_wp2_with fail
    refine (HER.out).mono ?_
    rintro _ w1 ⟨rfl, hb1⟩
    dsimp only
    have HB1 := hide hb1
    clear hb1 HTX HER
    go_wp2_with fail
    refine bodyPost_ret (results_tmp2 rfl _ _ _) rfl ?_
    exact ⟨rfl, HBO.out.trans (HB1.out.mono HBO.out.size)⟩
end Go.Proofs.YteicpbcddjjceaaGreatDoor

/-
  PROVED HERE: the numbers under which this program holds the library's mutex, and that it holds it so.
-/
namespace Go.Proofs.YteicpbcddjjceaaGreatDoor
abbrev Tryz.muLink : Go.Conc.Locks.MuLink := { lock := 20, unlock := 21, ilock := 48, iunlock := 49, lockSlow := 87, unlockSlow := 90, disable := 83, enable := 85, acquire := 86, relMerge := 88, cas32 := 84, add32 := 89, tMutex := 65, tIMutex := 63, tPMutex := 114, tPIMutex := 161, tPI32 := 163, tUP := 165, tNoCopy := 60, tU32 := 61 }
theorem Tryz.muLib : Go.Conc.Locks.MuLib Tryz.prog Tryz.muLink :=
  ⟨Tryz.func20, Tryz.func21, Tryz.func48, Tryz.func49, Tryz.func83, Tryz.func85, Tryz.func86, Tryz.func88, Tryz.func84, Tryz.func89, Tryz.underlying63, Tryz.runUnderlying63, Tryz.sizeOf63, Tryz.isAgg63, Tryz.zeroValue63, Tryz.underlying65, Tryz.runUnderlying65, Tryz.sizeOf65, Tryz.isAgg65, Tryz.zeroValue65, Tryz.underlying114, Tryz.runUnderlying114, Tryz.sizeOf114, Tryz.isAgg114, Tryz.zeroValue114, Tryz.underlying161, Tryz.runUnderlying161, Tryz.sizeOf161, Tryz.isAgg161, Tryz.zeroValue161, Tryz.underlying163, Tryz.runUnderlying163, Tryz.sizeOf163, Tryz.isAgg163, Tryz.zeroValue163, Tryz.underlying165, Tryz.runUnderlying165, Tryz.sizeOf165, Tryz.isAgg165, Tryz.zeroValue165, Tryz.underlying60, Tryz.runUnderlying60, Tryz.sizeOf60, Tryz.isAgg60, Tryz.zeroValue60, Tryz.underlying21, Tryz.runUnderlying21, Tryz.sizeOf21, Tryz.isAgg21, Tryz.zeroValue21, by kernel_rfl⟩
end Go.Proofs.YteicpbcddjjceaaGreatDoor

/-
  PROVED HERE: what Publish of the program's store does where there was neither the content nor a tag.
-/
namespace Go.Proofs.YteicpbcddjjceaaGreatDoor
open Go.RowKit Go.MuLone
/-- The program's store, its lock free (0) or held (1). -/
def BLk (w : World) (xb sb : Nat) (n : Int) : Prop := w.heap[xb]? = some (.cells #[.int .i32 n, .int .u32 0, .pointer (some ⟨sb, 0, none⟩)] 68 (0, 0))
/-- All variables but those of disks and stores lie as they lay. -/
structure FB (N : Nat) (w w' : World) : Prop where
  low : ∀ k, k < N → k < w.heap.size → w'.heap[k]? = w.heap[k]?
  os : w'.os = w.os
  tape : w'.tape = w.tape
  output : w'.output = w.output
  size : w.heap.size ≤ w'.heap.size
  keep : ∀ (k : Nat) (cur : Array Value) (T : TypeId) (fr : Nat × Nat), w.heap[k]? = some (.cells cur T fr) → fT T → T ≠ 68 → w'.heap[k]? = some (.cells cur T fr)
theorem FB.of {N : Nat} {w w' : World} (h : FT N w w') : FB N w w' := ⟨h.low, h.os, h.tape, h.output, h.size, fun k cur T fr hk hT _ => h.keep k cur T fr hk hT⟩
theorem FB.trans {N : Nat} {a b c : World} (h : FB N a b) (k : FB N b c) : FB N a c := ⟨fun i hi hs => (k.low i hi (Nat.lt_of_lt_of_le hs h.size)).trans (h.low i hi hs), k.os.trans h.os, k.tape.trans h.tape, k.output.trans h.output, Nat.le_trans h.size k.size, fun i cur T fr hi hT h2 => k.keep i cur T fr (h.keep i cur T fr hi hT h2) hT h2⟩
theorem FB.lock {N : Nat} {w : World} {b i : Nat} {cur : Array Value} {v : Value} (hb : w.heap[b]? = some (.cells cur 68 (0, 0))) (hN : N ≤ b) : FB N w (w.setCell ⟨b, i, none⟩ v) :=
  ⟨fun k hk _ => heap_setCell_other _ _ _ _ (fun e => by have e : k = b := e; omega), rfl, rfl, rfl, by simp, fun k cur' T' fr hk hT' h2 => (heap_setCell_other _ _ _ _ (fun e => by
    have e : k = b := e
    subst e
    rw [hb] at hk
    cases hk
    exact h2 rfl)).trans hk⟩
theorem StW.lock {W : World} {sb : Nat} {s : PSt} {cb tb nc nt xb : Nat} {Dc Dt : DataW Value} {n : Int} {v : Value} (h : StW W sb s cb tb nc nt Dc Dt) (hb : BLk W xb sb n) (hG : ¬ isG xb) : StW (W.setCell ⟨xb, 0, none⟩ v) sb s cb tb nc nt Dc Dt :=
  h.put hb (by decide) (h.inn.same (fun k hk => heap_setCell_other _ _ _ _ (fun e => by
    have e : k = xb := e
    subst e
    rcases h.inn.typed hk hb with h3 | h3 | h3 | h3 <;> exact absurd h3 (by decide)))) hG
theorem BLk.set {W : World} {xb sb : Nat} {n : Int} (h : BLk W xb sb n) (m : Int) : BLk (W.setCell ⟨xb, 0, none⟩ (.int .i32 m)) xb sb m := by
  unfold BLk
  rw [heap_setCell_same _ xb 0 _ _ _ h]
  rfl
theorem BLk.later {W W' : World} {xb sb : Nat} {n : Int} (h : BLk W xb sb n) (hb : Below W.heap.size W W') : BLk W' xb sb n := (hb.block _ (lt_heap h)).trans h
theorem BLk.ft {W W' : World} {xb sb : Nat} {n : Int} (h : BLk W xb sb n) {N : Nat} (hb : FT N W W') : BLk W' xb sb n := hb.keep _ _ _ _ h (by unfold fT; decide)
set_option maxHeartbeats 4000000 in
set_option maxRecDepth 100000 in
theorem bPub_new (N xb sb : Nat) (s : PSt) (cb tb nc nt : Nat) (Dc : DataW Value) (name b : ByteArray) (w : World) {L C B : Nat} (hx : BSt w xb sb) (hG : ¬ isG xb) (h : StW w sb s cb tb nc nt Dc (.map [])) (htag : isTagB name = true)
    (hcon : conR s.ds (dOfB b) = none) (hb300 : b.size ≤ 300) (hnt : nt ≤ 900) (hnc : nc ≤ 1000) (hrd : ∀ t, rdD s.ds (cPath (dOfB b)) = some t → t.size ≤ 140737488351232)
    (hn : name.size ≤ 20) (hf : DFit s.ds L C B) (hb : Bud (L + 100) (C + 100) (B + 20000)) (hN : NB N s sb cb) (hNx : N ≤ xb) :
    Calls Tryz.prog 11 #[.pointer (some ⟨xb, 0, none⟩), .string name, .string b] w fun e w' => ∃ k s', e = .returned (.tuple #[.string (if k = 0 then dtx (dOfB b) else ⟨#[]⟩), .int .i64 k]) ∧ FB N w w' ∧ WrR s.ds [(cPath (dOfB b), b), (indexP, oneX name (dOfB b) b.size)] k s'.ds ∧ ((∀ k, s'.own k → N ≤ k) ∧ s'.b = s.b) ∧ BSt w' xb sb ∧
      (k = 0 → ∃ t2 n2, StW w' sb s' cb t2 (nc + 1) n2 (dPut Dc (dOfB b)) (oneT name (dOfB b) b.size)) ∧ (k ≠ 0 → StW w' sb s' cb tb nc nt Dc (.map [])) := by
  have hx : BLk w xb sb 0 := hx
  have c0 : w.cell? ⟨xb, 0, none⟩ = some (.int .i32 0) := cell_of_row _ _ 0 _ _ _ hx
  have f0 : w.frozen? ⟨xb, 0, none⟩ = false := frozen_of_row _ _ 0 _ _ hx
  obtain ⟨W, hW⟩ : ∃ W, W = w.setCell ⟨xb, 0, none⟩ (.int .i32 1) := ⟨_, rfl⟩
  have hst : StW W sb s cb tb nc nt Dc (.map []) := by rw [hW]; exact h.lock hx hG
  have hxw : BLk W xb sb 1 := by rw [hW]; exact hx.set 1
  have hfw : FB N w W := by rw [hW]; exact FB.lock hx hNx
  have HIT := hide (ownTag_any name W (by omega))
  rw [htag] at HIT
  have HMT := hide (mayTag_none sb s cb tb nc nt Dc name W hst (by omega))
  have HPB := hide (fun W' (hb' : Below W.heap.size W W') => pub_new N sb s cb tb nc nt Dc name b W' (hst.later hb') hcon hb300 hnt hnc hrd hn hf hb hN)
  have HLK := hide (lock_free Tryz.muLib ⟨xb, 0, none⟩ w c0 f0)
  have HW := hide hW
  have HST := hide hst
  have HXW := hide hxw
  have HFW := hide hfw
  have c2 : W.cell? ⟨xb, 2, none⟩ = some (.pointer (some ⟨sb, 0, none⟩)) := cell_of_row _ _ 2 _ _ _ hxw
  have d1 : decide (300 < (b.size : Int)) = false := decide_eq_false (by omega)
  have hds := dOfB_len b
  have hlt := dOfB_lt b
  generalize dOfB b = ds at *
  clear hx c0 f0 hst hxw hfw hW h hcon hrd hf hb htag
  go_enter_defers Tryz.func11, Tryz.ntmps11
  go_wp2_with fail
  refine (HLK.out).mono ?_
  rintro _ W1 ⟨rfl, hW1⟩
  have hW1 : W1 = W := hW1.trans HW.out.symm
  rw [hW1]
  dsimp only
  clear hW1 HLK HW
  go_wp2_with fail
  refine (HIT.out).mono ?_
  rintro _ W2 ⟨rfl, hW2⟩
  rw [hW2]
  dsimp only
  clear hW2 HIT
  go_wp2_with fail
  refine (HMT.out).mono ?_
  rintro _ w3 ⟨rfl, hb3⟩
  dsimp only
  have c3 := cell_later hb3 c2
  have HPB3 := hide (HPB.out _ hb3)
  have HX3 := hide (HXW.out.later hb3)
  have HF3 := hide (HFW.out.trans (FB.of (FT.of_below hb3)))
  have HS3 := hide (HST.out.later hb3)
  clear hb3 HMT c2 HPB
  go_wp2_with fail
  refine (HPB3.out).mono ?_
  rintro _ w4 ⟨ev, k, s', rfl, hev, hft, hwr, hno, h40, h41⟩
  dsimp only
  have hg4 : Gl w4 := by
    by_cases hk : k = 0
    · obtain ⟨t2, n2, h4⟩ := h40 hk
      exact h4.gl
    · exact (h41 hk).gl
  have HKP := hide (kept_any ds ev k w4 hev hg4 hds hlt)
  have HX4 := hide (HX3.out.ft hft)
  have HF4 := hide (HF3.out.trans (FB.of hft))
  have HWR := hide hwr
  have HNO := hide hno
  clear hno
  have H40 := hide h40
  have H41 := hide h41
  clear hev hft hwr h40 h41 hg4 HPB3 HX3 HF3 c3
  go_wp2_with fail
  refine (HKP.out).mono ?_
  rintro _ w5 ⟨rfl, hb5⟩
  dsimp only
  have hx5 := HX4.out.later hb5
  have HX5 := hide hx5
  have HF5 := hide (HF4.out.trans (FB.of (FT.of_below hb5)))
  have HB5 := hide hb5
  generalize hT : (if k = 0 then dtx ds else ⟨#[]⟩) = T
  have HT := hide hT
  clear hT
  clear hb5 hx5 HKP HX4 HF4
  go_wp2_with fail
  refine leaves_cons (f := 21) (args := #[.pointer (some ⟨xb, 0, none⟩)]) (by simp) (by simp [go_sem]) ?_
  refine (unlock_deferred Tryz.muLib ⟨xb, 0, none⟩ .returning _ (cell_of_row _ _ 0 _ _ _ HX5.out) (frozen_of_row _ _ 0 _ _ HX5.out)).mono ?_
  rintro e u' w6 ⟨rfl, rfl, rfl⟩
  exact ⟨_, results_tmp2 rfl _ _ _, k, s', by rw [HT.out]; rfl, HF5.out.trans (FB.lock HX5.out hNx), HWR.out, HNO.out, HX5.out.set 0, fun hk => by
    obtain ⟨t2, n2, h4⟩ := H40.out hk
    exact ⟨t2, n2, (h4.later HB5.out).lock HX5.out hG⟩, fun hk => ((H41.out hk).later HB5.out).lock HX5.out hG⟩
end Go.Proofs.YteicpbcddjjceaaGreatDoor
