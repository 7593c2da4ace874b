/-
  PROVED HERE: the paths of a store's files: of a content, of a file that is laid beside the store; and which content a path speaks of.
-/
import Derived.Test.YteicpbcddjjceaaGreatDoorOwnPrint
import Derived.Test.YteicpbcddjjceaaGreatDoorBuilt
import Derived.Test.YteicpbcddjjceaaGreatDoorStRun
import Derived.Test.YteicpbcddjjceaaGreatDoorHash
namespace Go.Proofs.YteicpbcddjjceaaGreatDoor
open Go.RowKit
def blobsL : List UInt8 := [98, 108, 111, 98, 115, 47]
def besideL : List UInt8 := [98, 101, 115, 105, 100, 101, 47]
/-- The path of a content. -/
def cPath (ds : List Nat) : ByteArray := ⟨(blobsL ++ Sha.textTo ds 32).toArray⟩
/-- The path of file number i of a change. -/
def bPath (i : Nat) : ByteArray := ⟨(besideL ++ Lib.itoa (i : Int)).toArray⟩
theorem ba_app (a b : List UInt8) : (⟨a.toArray⟩ : ByteArray) ++ ⟨b.toArray⟩ = ⟨(a ++ b).toArray⟩ := by
  apply ByteArray.ext
  rw [ByteArray.data_append]
  simp
theorem contentPath_any (ds : List Nat) (w : World) (hlen : ds.length = 32) (hlt : ∀ i, ds.getD i 0 < 256) :
    Calls Tryz.prog 54 #[.agg (cells8 ds)] w fun e w' => e = .returned (.string (cPath ds)) ∧ Below w.heap.size w w' := by
  have HT := hide (fun w => text_any ds w hlen hlt)
  obtain ⟨t, ht⟩ : ∃ t : ByteArray, t = ⟨(Sha.textTo ds 32).toArray⟩ := ⟨_, rfl⟩
  rw [← ht] at HT
  have hts : ¬ 9223372036854775807 < 6 + t.size := by
    have h1 : t.size = (Sha.textTo ds 32).length := by rw [ht]; simp [ByteArray.size]
    rw [h1, Sha.textTo_len]
    omega
  have HE := hide ht
  clear hlt ht
  go_enter Tryz.func54, Tryz.ntmps54
  go_wp2_with (first | (refine wpList_load_row rfl 72 _ rfl w.heap.size rfl 72 _ _ _ (heap_alloc_new _ _) Tryz.underlying72 rfl (size40 _ hlen) ?_) | (go_at_call 23; refine (HT.out _).mono ?_; rintro _ w1 ⟨rfl, hb1⟩))
  go_ret
  refine ⟨?_, (Below.trans ((Below.refl _ _).alloc (Nat.le_refl _) _) (hb1.mono (by simp)))⟩
  rw [HE.out, show (⟨#[98, 108, 111, 98, 115, 47]⟩ : ByteArray) = ⟨blobsL.toArray⟩ from rfl, ba_app]
  rfl
theorem besidePath_any (i : Nat) (hi : i ≤ 300) (w : World) (htab : Lib.TabIs Tryz.prog w "internal/strconv.uint64pow10" .u64 Lib.pow10Tab) :
    Calls Tryz.prog 128 #[.int .i64 ((i : Nat) : Int)] w fun e w' => e = .returned (.string (bPath i)) ∧ Below w.heap.size w w' := by
  have HI := hide (itoa_any ((i : Nat) : Int) (by omega) (by omega) w htab)
  obtain ⟨t, ht⟩ : ∃ t : ByteArray, t = ⟨(Lib.itoa ((i : Nat) : Int)).toArray⟩ := ⟨_, rfl⟩
  rw [← ht] at HI
  have hts : ¬ 9223372036854775807 < 7 + t.size := by
    have h1 : t.size = (Lib.itoa ((i : Nat) : Int)).length := by rw [ht]; simp [ByteArray.size]
    have h2 := Lib.itoa_length_le ((i : Nat) : Int) (by omega) (by omega)
    omega
  have HE := hide ht
  clear ht htab
  go_enter Tryz.func128, Tryz.ntmps128
  go_wp2_with (go_at_call 109; refine (HI.out).mono ?_; rintro _ w1 ⟨rfl, hb1⟩)
  go_ret
  refine ⟨?_, hb1⟩
  rw [HE.out, show (⟨#[98, 101, 115, 105, 100, 101, 47]⟩ : ByteArray) = ⟨besideL.toArray⟩ from rfl, ba_app]
  rfl
/-- Begins a text with another one? -/
def hasPre (s p : ByteArray) : Bool := decide (p.size ≤ s.size) && decide (s.extract 0 p.size = p)
theorem hasPrefix_any (s p : ByteArray) (w : World) :
    Calls Tryz.prog 260 #[.string s, .string p] w fun e w' => e = .returned (.bool (hasPre s p)) ∧ w' = w := by
  unfold hasPre
  by_cases h : p.size ≤ s.size
  · go_enter Tryz.func260, Tryz.ntmps260
    go_wp2_with fail
    go_ret
    refine ⟨?_, rfl⟩
    have e : ((s.extract 0 p.size).toList == p.toList) = decide (s.extract 0 p.size = p) := by
      rw [Bool.eq_iff_iff]
      simp [toList_inj]
    rw [e, decide_eq_true h, Bool.true_and]
    rfl
  · have h2 : decide (((p.size : Nat) : Int) ≤ ((s.size : Nat) : Int)) = false := decide_eq_false (by omega)
    go_enter Tryz.func260, Tryz.ntmps260
    go_wp2_with fail
    go_ret
    exact ⟨by rw [decide_eq_false h, Bool.false_and]; rfl, rfl⟩
def cutPre (s p : ByteArray) : ByteArray := if hasPre s p then s.extract p.size s.size else s
theorem cutPrefix0_any (s p : ByteArray) (w : World) :
    Calls Tryz.prog 240 #[.string s, .string p] w fun e w' => e = .returned (.tuple #[.string (cutPre s p), .bool (hasPre s p)]) ∧ w' = w := by
  have HH := hide (hasPrefix_any s p w)
  unfold cutPre
  cases hb : hasPre s p with
  | false =>
    rw [hb] at HH
    clear hb
    go_enter Tryz.func240, Tryz.ntmps240
    go_wp2_with (go_at_call 260; refine (HH.out).mono ?_; rintro _ _ ⟨rfl, rfl⟩)
    refine bodyPost_ret (results_tmp2 rfl _ _ _) rfl ?_
    exact ⟨rfl, rfl⟩
  | true =>
    have hle : p.size ≤ s.size := by
      unfold hasPre at hb
      simp only [Bool.and_eq_true, decide_eq_true_eq] at hb
      exact hb.1
    rw [hb] at HH
    clear hb
    go_enter Tryz.func240, Tryz.ntmps240
    go_wp2_with (go_at_call 260; refine (HH.out).mono ?_; rintro _ _ ⟨rfl, rfl⟩)
    refine bodyPost_ret (results_tmp2 rfl _ _ _) rfl ?_
    exact ⟨rfl, rfl⟩
theorem cutPrefix_any (s p : ByteArray) (w : World) :
    Calls Tryz.prog 215 #[.string s, .string p] w fun e w' => e = .returned (.tuple #[.string (cutPre s p), .bool (hasPre s p)]) ∧ w' = w := by
  have HH := hide (cutPrefix0_any s p w)
  go_enter Tryz.func215, Tryz.ntmps215
  go_wp2_with (go_at_call 240; refine (HH.out).mono ?_; rintro _ _ ⟨rfl, rfl⟩)
  refine bodyPost_ret (results_tmp2 rfl _ _ _) rfl ?_
  exact ⟨rfl, rfl⟩
def blobsP : ByteArray := ⟨#[98, 108, 111, 98, 115, 47]⟩
/-- Is this the path of a content, and of which? -/
def dgB (p : ByteArray) : Bool := hasPre p blobsP && isDigB (cutPre p blobsP)
def dgV (p : ByteArray) : List Nat := if hasPre p blobsP then rd (cutPre p blobsP) else Sha.zeros 32
theorem dgV_len (p : ByteArray) : (dgV p).length = 32 := by
  unfold dgV
  split
  · exact rd_len _
  · exact Sha.zeros_len _
set_option maxHeartbeats 1000000 in
set_option maxRecDepth 100000 in
theorem digestAt_any (p : ByteArray) (w : World) :
    Calls Tryz.prog 178 #[.string p] w fun e w' => e = .returned (.tuple #[.agg (cells8 (dgV p)), .bool (dgB p)]) ∧ Below w.heap.size w w' := by
  have hz4 := (zero_of_info Tryz.info72).1
  have HC := hide (fun w => cutPrefix_any p blobsP w)
  unfold dgV dgB
  cases hb : hasPre p blobsP with
  | false =>
    rw [hb] at HC
    clear hb
    go_enter Tryz.func178, Tryz.ntmps178
    go_wp2_with (first | (go_at_call 215; refine (HC.out _).mono ?_; rintro _ _ ⟨rfl, rfl⟩) | (refine wpList_store_row rfl 72 _ _ rfl w.heap.size _ rfl rfl 72 _ (heap_alloc_new _ _) (size40 _ (Sha.zeros_len _)) rfl (cells8_one _) ?_; rw [World.setRow_alloc_new]))
    exact bodyPost_ret (results_cell_tmp Tryz.results178 _ _ w.heap.size 72 _ (0, 0) _ (.bool false) rfl rfl (heap_alloc_new _ _) Tryz.underlying72 rfl (size40 _ (Sha.zeros_len _))) rfl ⟨rfl, (Below.refl _ _).alloc (Nat.le_refl _) _⟩
  | true =>
    rw [hb] at HC
    clear hb
    generalize cutPre p blobsP = t at HC ⊢
    have HR := hide (fun w => read_any t w)
    have hrl := rd_len t
    generalize rd t = ds at HR hrl ⊢
    generalize isDigB t = db at HR ⊢
    go_enter Tryz.func178, Tryz.ntmps178
    go_wp2_with (first | (go_at_call 215; refine (HC.out _).mono ?_; rintro _ _ ⟨rfl, rfl⟩) | (go_at_call 69; refine (HR.out _).mono ?_; rintro _ w1 ⟨rfl, hb1⟩; have hr1 := (hb1.block w.heap.size (by simp)).trans (heap_alloc_new _ _)) | (refine wpList_store_row rfl 72 _ _ rfl w.heap.size _ rfl rfl 72 _ hr1 (size40 _ hrl) (by rw [cells8_size, cells8_size, hrl, Sha.zeros_len]) (cells8_one _) ?_))
    exact bodyPost_ret (results_cell_tmp Tryz.results178 _ _ w.heap.size 72 _ (0, 0) _ (.bool db) rfl rfl (setRow_heap _ _ _ _ _ _ hr1) Tryz.underlying72 rfl (size40 _ hrl)) rfl ⟨rfl, (((Below.refl _ _).alloc (Nat.le_refl _) _).trans (hb1.mono (by simp))).setRow (Nat.le_refl _) _⟩
def layoutP : ByteArray := ⟨#[108, 97, 121, 111, 117, 116]⟩
def indexP : ByteArray := ⟨#[105, 110, 100, 101, 120]⟩
def journalP : ByteArray := ⟨#[106, 111, 117, 114, 110, 97, 108]⟩
def pruningP : ByteArray := ⟨#[112, 114, 117, 110, 105, 110, 103]⟩
/-- No store at rest has a file under this path. -/
def foreignB (p : ByteArray) : Bool := !dgB p && decide (p ≠ layoutP) && decide (p ≠ indexP) && decide (p ≠ journalP)
theorem eq_bytes (a b : ByteArray) : decide (a ≠ b) = !(a.toList == b.toList) := by
  rw [Bool.eq_iff_iff]
  simp [toList_inj]
theorem layoutL : layoutP.toList = [108, 97, 121, 111, 117, 116] := by rw [ByteArray.toList_eq]; rfl
theorem indexL : indexP.toList = [105, 110, 100, 101, 120] := by rw [ByteArray.toList_eq]; rfl
theorem journalL : journalP.toList = [106, 111, 117, 114, 110, 97, 108] := by rw [ByteArray.toList_eq]; rfl
set_option maxHeartbeats 1000000 in
set_option maxRecDepth 100000 in
theorem isForeign_any (p : ByteArray) (w : World) :
    Calls Tryz.prog 133 #[.string p] w fun e w' => e = .returned (.bool (foreignB p)) ∧ Below w.heap.size w w' := by
  have hz4 := (zero_of_info Tryz.info72).1
  have HD := hide (fun w => digestAt_any p w)
  have hdl := dgV_len p
  unfold foreignB
  generalize dgV p = ds at HD hdl
  generalize dgB p = db at HD ⊢
  rw [eq_bytes, eq_bytes, eq_bytes, layoutL, indexL, journalL]
  cases db with
  | true =>
    go_enter Tryz.func133, Tryz.ntmps133
    go_wp2_with (first | (go_at_call 178; refine (HD.out _).mono ?_; rintro _ w1 ⟨rfl, hb1⟩) | (refine wpList_store_row rfl 72 _ _ rfl w1.heap.size _ rfl rfl 72 _ (heap_alloc_new _ _) (size40 _ hdl) (by rw [cells8_size, cells8_size, hdl, Sha.zeros_len]) (cells8_one _) ?_; rw [World.setRow_alloc_new]))
    go_ret
    exact ⟨rfl, hb1.trans ((Below.refl _ _).alloc hb1.size _)⟩
  | false =>
    cases m1 : (p.toList == [108, 97, 121, 111, 117, 116]) with
    | true =>
      go_enter Tryz.func133, Tryz.ntmps133
      go_wp2_with (first | (go_at_call 178; refine (HD.out _).mono ?_; rintro _ w1 ⟨rfl, hb1⟩) | (refine wpList_store_row rfl 72 _ _ rfl w1.heap.size _ rfl rfl 72 _ (heap_alloc_new _ _) (size40 _ hdl) (by rw [cells8_size, cells8_size, hdl, Sha.zeros_len]) (cells8_one _) ?_; rw [World.setRow_alloc_new]))
      go_ret
      exact ⟨rfl, hb1.trans ((Below.refl _ _).alloc hb1.size _)⟩
    | false =>
      cases m2 : (p.toList == [105, 110, 100, 101, 120]) with
      | true =>
        go_enter Tryz.func133, Tryz.ntmps133
        go_wp2_with (first | (go_at_call 178; refine (HD.out _).mono ?_; rintro _ w1 ⟨rfl, hb1⟩) | (refine wpList_store_row rfl 72 _ _ rfl w1.heap.size _ rfl rfl 72 _ (heap_alloc_new _ _) (size40 _ hdl) (by rw [cells8_size, cells8_size, hdl, Sha.zeros_len]) (cells8_one _) ?_; rw [World.setRow_alloc_new]))
        go_ret
        exact ⟨rfl, hb1.trans ((Below.refl _ _).alloc hb1.size _)⟩
      | false =>
        cases m3 : (p.toList == [106, 111, 117, 114, 110, 97, 108]) with
        | true =>
          go_enter Tryz.func133, Tryz.ntmps133
          go_wp2_with (first | (go_at_call 178; refine (HD.out _).mono ?_; rintro _ w1 ⟨rfl, hb1⟩) | (refine wpList_store_row rfl 72 _ _ rfl w1.heap.size _ rfl rfl 72 _ (heap_alloc_new _ _) (size40 _ hdl) (by rw [cells8_size, cells8_size, hdl, Sha.zeros_len]) (cells8_one _) ?_; rw [World.setRow_alloc_new]))
          go_ret
          exact ⟨rfl, hb1.trans ((Below.refl _ _).alloc hb1.size _)⟩
        | false =>
          go_enter Tryz.func133, Tryz.ntmps133
          go_wp2_with (first | (go_at_call 178; refine (HD.out _).mono ?_; rintro _ w1 ⟨rfl, hb1⟩) | (refine wpList_store_row rfl 72 _ _ rfl w1.heap.size _ rfl rfl 72 _ (heap_alloc_new _ _) (size40 _ hdl) (by rw [cells8_size, cells8_size, hdl, Sha.zeros_len]) (cells8_one _) ?_; rw [World.setRow_alloc_new]))
          go_ret
          exact ⟨rfl, hb1.trans ((Below.refl _ _).alloc hb1.size _)⟩
/-- The store's own block: the disk that it lies on. -/
def SB (w : World) (sb b : Nat) : Prop := ∃ cv tv, w.heap[sb]? = some (.cells #[.pointer (some ⟨b, 0, none⟩), cv, tv] 122 (0, 0))
theorem SB.later {w w' : World} {sb b : Nat} (h : SB w sb b) (hb : Below w.heap.size w w') : SB w' sb b := by
  obtain ⟨cv, tv, h⟩ := h
  exact ⟨cv, tv, (hb.block _ (lt_of_row h)).trans h⟩
theorem SB.go {w w' : World} {sb : Nat} {s s' : PSt} (h : SB w sb s.b) (hi : s.In w) (hg : PGo s s' w w') : SB w' sb s'.b := by
  obtain ⟨cv, tv, h⟩ := h
  rw [hg.b]
  exact ⟨cv, tv, hg.keeps hi h (by decide) (by decide) (by decide) (by decide)⟩
set_option maxHeartbeats 1000000 in
set_option maxRecDepth 100000 in
theorem isThere_any (sb : Nat) (s : PSt) (p : ByteArray) (w : World) (hb : SB w sb s.b) (h : s.In w) (hp : p.size ≤ 9223372036854775807) :
    Calls Tryz.prog 75 #[.pointer (some ⟨sb, 0, none⟩), .string p] w fun e w' => e = .returned (.bool (rdD s.ds p).isSome) ∧ PGo s s w w' := by
  obtain ⟨cv, tv, hbl⟩ := hb
  have c0 : w.cell? ⟨sb, 0, none⟩ = some (.pointer (some ⟨s.b, 0, none⟩)) := cell_of_row _ _ 0 _ _ _ hbl
  have HR := hide (dkRead s p w h hp)
  clear hbl h
  go_enter Tryz.func75, Tryz.ntmps75
  go_wp2_with fail
  refine HR.out.mono ?_
  rintro _ w1 ⟨v, k, rfl, hv, hk, hg, hi⟩
  dsimp only
  have hgo : PGo s s w w1 := ⟨rfl, hi, hg, fun _ hk => .inl hk⟩
  have HGO := hide hgo
  clear hgo hg hi c0
  rcases hv with ⟨h0, rfl⟩ | ⟨h0, sv, nm, rfl, -⟩
  · have HS := hide (hk.1 h0)
    clear hk
    go_wp2_with fail
    go_ret
    exact ⟨by rw [HS.out]; rfl, HGO.out⟩
  · have hs : (rdD s.ds p).isSome = false := by
      cases hq : (rdD s.ds p).isSome with
      | false => rfl
      | true => exact absurd (hk.2 hq) h0
    have HS := hide hs
    clear hk hs
    go_wp2_with fail
    go_ret
    exact ⟨by rw [HS.out]; rfl, HGO.out⟩
end Go.Proofs.YteicpbcddjjceaaGreatDoor

/-
  PROVED HERE: the package variables that a store's calls read, and that its disk leaves them; no walk.
-/
namespace Go.Proofs.YteicpbcddjjceaaGreatDoor
open Go.RowKit
def isG (k : Nat) : Prop := k = 3 ∨ k = 2 ∨ k = 0
/-- The package variables hold what the program lays. -/
structure Gl (w : World) : Prop where
  tab : Lib.TabIs Tryz.prog w "internal/strconv.uint64pow10" .u64 Lib.pow10Tab
  hk : HasK w
  err : w.cell? ⟨0, 0, none⟩ = some errT
theorem Gl.lt {w : World} (h : Gl w) {k : Nat} (hk : isG k) : k < w.heap.size := by
  rcases hk with rfl | rfl | rfl
  · exact tab_lt gPow h.tab
  · exact h.hk.1
  · exact World.block_lt_of_cell? _ _ h.err
theorem Gl.same {w w' : World} (h : Gl w) (hsz : w.heap.size ≤ w'.heap.size) (hs : ∀ k, isG k → w'.heap[k]? = w.heap[k]?) : Gl w' := by
  refine ⟨?_, ⟨Nat.lt_of_lt_of_le h.hk.1 hsz, fun i hi => ?_⟩, ?_⟩
  · have h1 := h.tab
    unfold Lib.TabIs World.var? at h1 ⊢
    rw [gPow] at h1 ⊢
    simp only [Option.bind_some] at h1 ⊢
    rw [hs _ (.inl rfl)]
    exact h1
  · exact (World.cell?_of_block (a := ⟨2, i, none⟩) (hs _ (.inr (.inl rfl)))).trans (h.hk.2 i hi)
  · exact (World.cell?_of_block (a := ⟨0, 0, none⟩) (hs _ (.inr (.inr rfl)))).trans h.err
theorem Gl.later {w w' : World} (h : Gl w) (hb : Below w.heap.size w w') : Gl w' := h.same hb.size (fun k hk => hb.block k (h.lt hk))
/-- A disk's blocks are none of the variables'. -/
def LowS (s : PSt) : Prop := ∀ k, s.own k → ¬ isG k
theorem Gl.go {w w' : World} {s s' : PSt} (h : Gl w) (hl : LowS s) (hg : PGo s s' w w') : Gl w' ∧ LowS s' :=
  ⟨h.same hg.gr.size (fun k hk => hg.gr.block k (h.lt hk) (fun ho => hl k ho hk)), fun k hk hG => (hg.own k hk).elim (fun ho => hl k ho hG) (fun hge => by have := h.lt hG; omega)⟩
/-- A store's files that are to be written: their paths and bytes, in a row. -/
def f0 : ByteArray × ByteArray := (⟨#[]⟩, ⟨#[]⟩)
def FlAt (w : World) (v : Value) (fl : List (ByteArray × ByteArray)) : Prop := ∃ oa c, v = .slice oa fl.length c ∧ ∀ i, i < fl.length → ∃ g cur fr, oa = some ⟨g, 0, none⟩ ∧ w.heap[g]? = some (.cells cur 203 fr) ∧ w.cell? ⟨g, i * 2, none⟩ = some (.string (fl.getD i f0).1) ∧ w.cell? ⟨g, i * 2 + 1, none⟩ = some (.string (fl.getD i f0).2)
theorem FlAt.same {w w' : World} {v : Value} {fl : List (ByteArray × ByteArray)} (h : FlAt w v fl) (hs : ∀ (g : Nat) (cur : Array Value) (fr : Nat × Nat), w.heap[g]? = some (.cells cur 203 fr) → w'.heap[g]? = w.heap[g]?) : FlAt w' v fl := by
  obtain ⟨oa, c, rfl, hk⟩ := h
  refine ⟨oa, c, rfl, fun i hi => ?_⟩
  obtain ⟨g, cur, fr, h1, h2, h3, h4⟩ := hk i hi
  have hb := hs g cur fr h2
  exact ⟨g, cur, fr, h1, hb.trans h2, (World.cell?_of_block (a := ⟨g, i * 2, none⟩) hb).trans h3, (World.cell?_of_block (a := ⟨g, i * 2 + 1, none⟩) hb).trans h4⟩
theorem FlAt.later {w w' : World} {v : Value} {fl : List (ByteArray × ByteArray)} (h : FlAt w v fl) (hb : Below w.heap.size w w') : FlAt w' v fl := h.same (fun g _ _ hc => hb.block g (lt_heap hc))
theorem FlAt.go {w w' : World} {v : Value} {fl : List (ByteArray × ByteArray)} {s s' : PSt} (h : FlAt w v fl) (hi : s.In w) (hg : PGo s s' w w') : FlAt w' v fl :=
  h.same (fun g _ _ hc => (hg.keeps hi hc (by decide) (by decide) (by decide) (by decide)).trans hc.symm)
/-- The store stands on its disk, and the variables lie where they lay. -/
structure On (w : World) (sb : Nat) (s : PSt) : Prop where
  sb : SB w sb s.b
  inn : s.In w
  gl : Gl w
  low : LowS s
theorem On.later {w w' : World} {sb : Nat} {s : PSt} (h : On w sb s) (hb : Below w.heap.size w w') : On w' sb s := ⟨h.sb.later hb, h.inn.later hb, h.gl.later hb, h.low⟩
theorem On.go {w w' : World} {sb : Nat} {s s' : PSt} (h : On w sb s) (hg : PGo s s' w w') : On w' sb s' := ⟨h.sb.go h.inn hg, hg.inn, (h.gl.go h.low hg).1, (h.gl.go h.low hg).2⟩
/-- What takeBack does. -/
def tbL (n j : Nat) : List Stp := (List.range j).map fun t => sRm (bPath (n - 1 - t))
theorem tbL_succ (n j : Nat) : tbL n (j + 1) = tbL n j ++ [sRm (bPath (n - 1 - j))] := by
  unfold tbL
  rw [List.range_succ, List.map_append]
  rfl
def tbS (n : Nat) : List Stp := if n = 0 then [] else tbL n n ++ [sSd]
theorem bPath_size (i : Nat) (hi : i ≤ 300) : (bPath i).size ≤ 30 := by
  have h2 := Lib.itoa_length_le ((i : Nat) : Int) (by omega) (by omega)
  have h1 : (bPath i).size = (besideL ++ Lib.itoa (i : Int)).length := by simp [bPath, ByteArray.size]
  rw [h1, List.length_append, show besideL.length = 7 from rfl]
  omega
end Go.Proofs.YteicpbcddjjceaaGreatDoor

/-
  PROVED HERE: what takeBack of a store does: the files that are laid are removed, the last one first.
-/
namespace Go.Proofs.YteicpbcddjjceaaGreatDoor
open Go.RowKit
theorem szs_tbL (n j : Nat) : szs (tbL n j) = 0 := by
  induction j with
  | zero => rfl
  | succ j ih =>
    rw [tbL_succ]
    unfold szs at ih ⊢
    rw [List.map_append, List.sum_append, ih]
    rfl
theorem tbL_len (n j : Nat) : (tbL n j).length = j := by simp [tbL]
theorem dk_rm {s : PSt} {w : World} {p : ByteArray} {L C B : Nat} (h : s.In w) (hf : DFit s.ds L C B) (hb : Bud L C B) (hp : p.size ≤ 9223372036854775807) :
    Calls Tryz.prog 173 #[.pointer (some ⟨s.b, 0, none⟩), .string p] w (DRs s w fun k D' => stR s.ds (sRm p) k D') := dkRemove s p w h hf hb hp
set_option maxHeartbeats 2000000 in
set_option maxRecDepth 100000 in
theorem takeBack_any (sb : Nat) (s : PSt) (n : Nat) (w : World) {L C B : Nat} (h : On w sb s) (hf : DFit s.ds L C B) (hb : Bud (L + n + 1) (C + n + 1) B) (hn : n ≤ 300) :
    Calls Tryz.prog 175 #[.pointer (some ⟨sb, 0, none⟩), .int .i64 ((n : Nat) : Int)] w fun e w' => e = .returned (.tuple #[]) ∧ ∃ s', PGo s s' w w' ∧ RanI s.ds (tbS n) s'.ds := by
  have H := hide h
  have HF := hide hf
  have HB := hide hb
  clear h hf hb
  by_cases hn0 : n = 0
  · subst hn0
    go_enter Tryz.func175, Tryz.ntmps175
    go_wp2_with fail
    refine bodyPost_ret (results_none rfl _ _ _) rfl ?_
    exact ⟨rfl, s, PGo.refl H.out.inn (Below.refl _ _), rfl⟩
  · have hz : (((n : Nat) : Int) == 0) = false := by simp; omega
    have hz2 : ¬ ((n : Nat) : Int) = 0 := by omega
    go_enter Tryz.func175, Tryz.ntmps175
    go_wp2_with fail
    go_loopw [4] (fun iv wr => ∃ (j : Nat) (s1 : PSt), j ≤ n ∧ iv = .int .i64 ((n : Int) - 1 - (j : Int)) ∧ PGo s s1 w wr ∧ RanI s.ds (tbL n j) s1.ds) (fun iv _ => (intOf iv + 1).toNat)
    case atStart => exact ⟨0, s, Nat.zero_le _, by simp, PGo.refl H.out.inn (Below.refl _ _), rfl⟩
    case round =>
      obtain ⟨j, s1, hj, rfl, hgo, hr⟩ := hrel
      have hon := H.out.go hgo
      have HON := hide hon
      have HGO := hide hgo
      have HR := hide hr
      have hf1 := HF.out.ranI hr
      rw [tbL_len, szs_tbL] at hf1
      have HF1 := hide hf1
      obtain ⟨cv, tv, hbl⟩ := hon.sb
      have c0 : wr.cell? ⟨sb, 0, none⟩ = some (.pointer (some ⟨s1.b, 0, none⟩)) := cell_of_row _ _ 0 _ _ _ hbl
      clear hon hgo hr hf1 hbl
      by_cases hlt : j < n
      · obtain ⟨m, hm⟩ : ∃ m : Nat, (n : Int) - 1 - (j : Int) = (m : Int) := ⟨n - 1 - j, by omega⟩
        have hm2 : m = n - 1 - j := by omega
        rw [hm]
        have d1 : decide ((0 : Int) ≤ ((m : Nat) : Int)) = true := decide_eq_true (by omega)
        have hps := bPath_size m (by omega)
        have HP := hide (besidePath_any m (by omega) wr.drew (HON.out.later (Below.refl _ _).drew).gl.tab)
        have HRM := hide (fun (w' : World) (hb' : Below wr.heap.size wr w') => dk_rm (p := bPath m) (HON.out.inn.later hb') HF1.out (HB.out.mono (by omega) (by omega) (by omega)) (by omega))
        have HM2 := hide hm2
        have HM := hide hm
        clear hm2 hm hps
        go_wp2_with fail
        go_region_with (first | (go_at_call 128; refine (HP.out).mono ?_; rintro _ w2 ⟨rfl, hb2⟩; have hb3 : Below wr.heap.size wr w2 := ((Below.refl wr.heap.size wr).drew).trans hb2; have c1 := cell_later hb3 c0) | (go_at_call 173; refine (HRM.out _ hb3).mono ?_; rintro _ w3 ⟨v, k, s2, rfl, hv, hg2, hst⟩))
        all_goals
          have HG2 := hide (HGO.out.trans ((PGo.refl HON.out.inn hb3).trans hg2))
          have HST := hide hst
          clear hg2 hst hv hb2 hb3 c0 c1 HP HRM
          go_wp2_with fail
          have hw : Go.RowKit.wrap64 (((m : Nat) : Int) - 1) = ((m : Nat) : Int) - 1 := by unfold Go.RowKit.wrap64; have := HM.out; omega
          rw [hw]
          refine ⟨⟨j + 1, s2, hlt, ?_, HG2.out, ?_⟩, ?_⟩
          · congr 1
            have := HM.out
            omega
          · rw [tbL_succ, ← HM2.out]
            exact HR.out.snoc HST.out
          · simp only [intOf]
            omega
      · have hjn : j = n := by omega
        subst hjn
        have d1 : decide ((0 : Int) ≤ (j : Int) - 1 - (j : Int)) = false := decide_eq_false (by omega)
        have HSD := hide (dkSyncDir s1 wr HON.out.inn HF1.out (HB.out.mono (by omega) (by omega) (by omega)))
        go_wp2_with fail
        refine HSD.out.mono ?_
        rintro _ w3 ⟨v, k, s2, rfl, hv, hg2, hst⟩
        dsimp only
        have HG2 := hide (HGO.out.trans hg2)
        have HST := hide hst
        clear hg2 hst hv c0
        go_wp2_with fail
        go_end0
        refine ⟨rfl, s2, HG2.out, ?_⟩
        unfold tbS
        rw [if_neg hn0]
        exact HR.out.snoc (t := sSd) HST.out
end Go.Proofs.YteicpbcddjjceaaGreatDoor

/-
  PROVED HERE: what bringIn of a store does: the files that are laid are synced, each goes to its path, and the paths are synced; up to the first step that is refused.
-/
namespace Go.Proofs.YteicpbcddjjceaaGreatDoor
open Go.RowKit
theorem ran_next {S : List Stp} {D D1 D2 : DS} {i m : Nat} {t : Stp} {k : Int} (h : Ran D (S.take i) 0 m D1) (ht : S[i]? = some t) (hs : stR D1 t k D2) : (k = 0 → Ran D (S.take (i + 1)) 0 (m + 1) D2) ∧ (k ≠ 0 → ∃ n, Ran D S k n D2) := by
  have hi : i < S.length := (List.getElem?_eq_some_iff.1 ht).1
  have e1 : S.take (i + 1) = S.take i ++ [t] := by
    rw [List.take_succ_eq_append_getElem hi]
    rw [List.getElem?_eq_getElem hi] at ht
    rw [Option.some.inj ht]
  have h1 := h.app (Ran.one hs)
  constructor
  · intro hk
    rw [e1]
    rw [if_pos hk, hk] at h1
    exact h1
  · intro hk
    have h2 := h1.stop (S.drop (i + 1)) hk
    rw [← e1, List.take_append_drop] at h2
    exact ⟨_, h2⟩
theorem szs_take (S : List Stp) : ∀ i, szs (S.take i) ≤ szs S := by
  induction S with
  | nil => intro i; simp [szs]
  | cons t S ih =>
    intro i
    cases i with
    | zero => simp [szs]
    | succ i =>
      have := ih i
      unfold szs at this ⊢
      simp only [List.take_succ_cons, List.map_cons, List.sum_cons]
      omega
theorem DFit.take {S : List Stp} {D D1 : DS} {L C B i m : Nat} {k : Int} (h : DFit D L C B) (hr : Ran D (S.take i) k m D1) : DFit D1 (L + S.length) (C + S.length) (B + szs S) :=
  (h.ran hr).mono (by rw [List.length_take]; omega) (by rw [List.length_take]; omega) (by have := szs_take S i; omega)
/-- What bringIn does. -/
def biS (fl : List (ByteArray × ByteArray)) : List Stp := (List.range fl.length).map (fun t => sSy (bPath t)) ++ ((List.range fl.length).map (fun t => sRn (bPath t) (fl.getD t f0).1) ++ [sSd])
theorem biS_len (fl : List (ByteArray × ByteArray)) : (biS fl).length = fl.length + (fl.length + 1) := by simp [biS]
theorem biS_sy (fl : List (ByteArray × ByteArray)) (j : Nat) (hj : j < fl.length) : (biS fl)[j]? = some (sSy (bPath j)) := by
  unfold biS
  rw [List.getElem?_append_left (by simpa using hj)]
  simp [hj]
theorem biS_rn (fl : List (ByteArray × ByteArray)) (j : Nat) (hj : j < fl.length) : (biS fl)[fl.length + j]? = some (sRn (bPath j) (fl.getD j f0).1) := by
  unfold biS
  rw [List.getElem?_append_right (by simp), List.length_map, List.length_range, Nat.add_sub_cancel_left, List.getElem?_append_left (by simpa using hj)]
  simp [hj]
theorem biS_sd (fl : List (ByteArray × ByteArray)) : (biS fl)[fl.length + fl.length]? = some sSd := by
  unfold biS
  rw [List.getElem?_append_right (by simp), List.length_map, List.length_range, Nat.add_sub_cancel_left, List.getElem?_append_right (by simp)]
  simp
theorem szs_bi (fl : List (ByteArray × ByteArray)) : szs (biS fl) = 0 := by
  have h1 : ∀ l : List Nat, szs (l.map (fun t => sSy (bPath t))) = 0 := fun l => by
    induction l with
    | nil => rfl
    | cons a l ih => unfold szs at ih ⊢; simp only [List.map_cons, List.sum_cons, ih]; rfl
  have h2 : ∀ l : List Nat, szs (l.map (fun t => sRn (bPath t) (fl.getD t f0).1)) = 0 := fun l => by
    induction l with
    | nil => rfl
    | cons a l ih => unfold szs at ih ⊢; simp only [List.map_cons, List.sum_cons, ih]; rfl
  have h3 := h1 (List.range fl.length)
  have h4 := h2 (List.range fl.length)
  unfold biS
  unfold szs at h3 h4 ⊢
  rw [List.map_append, List.map_append, List.sum_append, List.sum_append, h3, h4]
  rfl
theorem dk_sy {s : PSt} {w : World} {p : ByteArray} {L C B : Nat} (h : s.In w) (hf : DFit s.ds L C B) (hb : Bud L C B) (hp : p.size ≤ 9223372036854775807) :
    Calls Tryz.prog 214 #[.pointer (some ⟨s.b, 0, none⟩), .string p] w (DRs s w fun k D' => stR s.ds (sSy p) k D') := dkSync s p w h hf hb hp
theorem dk_rn {s : PSt} {w : World} {p q : ByteArray} {L C B : Nat} (h : s.In w) (hf : DFit s.ds L C B) (hb : Bud L C B) (hp : p.size ≤ 9223372036854775807) (hq : q.size ≤ 9223372036854775807) :
    Calls Tryz.prog 130 #[.pointer (some ⟨s.b, 0, none⟩), .string p, .string q] w (DRs s w fun k D' => stR s.ds (sRn p q) k D') := dkRename s p q w h hf hb hp hq
theorem dk_sd {s : PSt} {w : World} {L C B : Nat} (h : s.In w) (hf : DFit s.ds L C B) (hb : Bud L C B) :
    Calls Tryz.prog 134 #[.pointer (some ⟨s.b, 0, none⟩)] w (DRs s w fun k D' => stR s.ds sSd k D') := dkSyncDir s w h hf hb
set_option maxHeartbeats 4000000 in
set_option maxRecDepth 100000 in
theorem bringIn_any (sb : Nat) (s : PSt) (v : Value) (fl : List (ByteArray × ByteArray)) (w : World) {L C B : Nat} (h : On w sb s) (hfl : FlAt w v fl) (hf : DFit s.ds L C B) (hb : Bud (L + (biS fl).length) (C + (biS fl).length) (B + szs (biS fl))) (hn : fl.length ≤ 300) (hp : ∀ f ∈ fl, f.1.size ≤ 1000) :
    Calls Tryz.prog 177 #[.pointer (some ⟨sb, 0, none⟩), v] w fun e w' => ∃ ev k m s', e = .returned ev ∧ ErrV w' ev k ∧ PGo s s' w w' ∧ Ran s.ds (biS fl) k m s'.ds := by
  have H := hide h
  have HF := hide hf
  have HB := hide hb
  have HFL := hide hfl
  have HP := hide hp
  obtain ⟨oa, c, rfl, -⟩ := hfl
  obtain ⟨n, hnl⟩ : ∃ n, n = fl.length := ⟨_, rfl⟩
  rw [← hnl] at HFL hn ⊢
  have HN := hide hnl
  clear h hf hb hp hnl
  go_enter Tryz.func177, Tryz.ntmps177
  go_wp2_with fail
  go_loopw [12] (fun iv wr => ∃ (j : Nat) (s1 : PSt), j ≤ n ∧ iv = .int .i64 ((j : Nat) : Int) ∧ PGo s s1 w wr ∧ Ran s.ds ((biS fl).take j) 0 j s1.ds) (fun iv _ => n - (intOf iv).toNat)
  case atStart => exact ⟨0, s, Nat.zero_le _, rfl, PGo.refl H.out.inn (Below.refl _ _), rfl, rfl, rfl⟩
  case round =>
    obtain ⟨j, s1, hj, rfl, hgo, hr⟩ := hrel
    have hon := H.out.go hgo
    have HON := hide hon
    have HGO := hide hgo
    have HR := hide hr
    have HF1 := hide (HF.out.take hr)
    obtain ⟨cv, tv, hbl⟩ := hon.sb
    have c0 : wr.cell? ⟨sb, 0, none⟩ = some (.pointer (some ⟨s1.b, 0, none⟩)) := cell_of_row _ _ 0 _ _ _ hbl
    clear hon hgo hr hbl
    by_cases hlt : j < n
    · have hps := bPath_size j (by omega)
      have HBP := hide (besidePath_any j (by omega) wr.drew (HON.out.later (Below.refl _ _).drew).gl.tab)
      have HSY := hide (fun (w' : World) (hb' : Below wr.heap.size wr w') => dk_sy (p := bPath j) (HON.out.inn.later hb') HF1.out HB.out (by omega))
      clear hps
      go_wp2_with fail
      go_region_with (first | (go_at_call 128; refine (HBP.out).mono ?_; rintro _ w2 ⟨rfl, hb2⟩; have hb3 : Below wr.heap.size wr w2 := ((Below.refl wr.heap.size wr).drew).trans hb2; have c1 := cell_later hb3 c0) | (go_at_call 214; refine (HSY.out _ hb3).mono ?_; rintro _ w3 ⟨ev, k, s2, rfl, hv, hg2, hst⟩))
      all_goals
        have HG2 := hide (HGO.out.trans ((PGo.refl HON.out.inn hb3).trans hg2))
        have HNX := hide (ran_next HR.out (biS_sy fl j (by rw [← HN.out]; exact hlt)) hst)
        clear hg2 hst hb2 hb3 c0 c1 HBP HSY
        rcases hv with ⟨hk0, rfl⟩ | ⟨hk0, sv, nm, rfl, hse⟩
        · have HNX0 := hide (HNX.out.1 hk0)
          clear HNX hk0
          go_wp2_with fail
          exact ⟨⟨j + 1, s2, hlt, by simp, HG2.out, HNX0.out⟩, by simp only [intOf]; omega⟩
        · have HE := hide hse
          clear hse
          go_wp2_with fail
          go_ret
          obtain ⟨m, hm⟩ := HNX.out.2 hk0
          exact ⟨_, k, m, s2, rfl, .inr ⟨hk0, sv, nm, rfl, HE.out⟩, HG2.out, hm⟩
    · have hjn : j = n := by omega
      subst hjn
      have d1 : decide (((j : Nat) : Int) < ((j : Nat) : Int)) = false := decide_eq_false (by omega)
      clear c0
      go_wp2_with fail
      go_loopw [28] (fun iv wq => ∃ (i : Nat) (s1 : PSt), i ≤ j ∧ iv = .int .i64 ((i : Nat) : Int) ∧ PGo s s1 w wq ∧ Ran s.ds ((biS fl).take (j + i)) 0 (j + i) s1.ds) (fun iv _ => j - (intOf iv).toNat)
      case atStart => exact ⟨0, s1, Nat.zero_le _, rfl, HGO.out, HR.out⟩
      case round =>
        clear HON HGO HR HF1
        obtain ⟨i, s2, hi, rfl, hgo, hr⟩ := hrel
        have hon := H.out.go hgo
        have HON := hide hon
        have HGO := hide hgo
        have HR := hide hr
        have HF1 := hide (HF.out.take hr)
        have hflr := HFL.out.go H.out.inn hgo
        obtain ⟨cv, tv, hbl⟩ := hon.sb
        have c0 : wr.cell? ⟨sb, 0, none⟩ = some (.pointer (some ⟨s2.b, 0, none⟩)) := cell_of_row _ _ 0 _ _ _ hbl
        clear hon hgo hr hbl
        by_cases hlt : i < j
        · have hps := bPath_size i (by omega)
          have hil : i < fl.length := by rw [← HN.out]; exact hlt
          obtain ⟨oa2, cc2, hv2, hk2⟩ := hflr
          injection hv2 with hv2 hv3 hv4
          subst hv2
          clear hv3 hv4
          obtain ⟨g, cur, fr, rfl, hgh, r0, r1⟩ := hk2 i hil
          have hmem : fl.getD i f0 ∈ fl := by rw [List.getD_eq_getElem?_getD, List.getElem?_eq_getElem hil]; exact List.getElem_mem hil
          have hfs := HP.out _ hmem
          have HRNX := hide (biS_rn fl i hil)
          generalize fl.getD i f0 = ff at r0 r1 hfs HRNX
          obtain ⟨fp, fb⟩ := ff
          dsimp only at r0 r1 hfs HRNX
          have hbo : Below wr.heap.size wr (wr.alloc (.cells #[.string fp, .string fb] 203)) := (Below.refl _ _).alloc (Nat.le_refl _) _
          have c0x := cell_later hbo c0
          obtain ⟨X, hX⟩ : ∃ X, X = wr.alloc (.cells #[.string fp, .string fb] 203) := ⟨_, rfl⟩
          have hxr : X.heap[wr.heap.size]? = some (.cells #[.string fp, .string fb] 203 (0, 0)) := by rw [hX]; exact heap_alloc_new _ _
          rw [← hX] at hbo c0x
          have HBO := hide hbo
          have HBP := hide (besidePath_any i (by omega) X.drew ((HON.out.later hbo).later (Below.refl _ _).drew).gl.tab)
          have HSY := hide (fun (w' : World) (hb' : Below wr.heap.size wr w') => dk_rn (p := bPath i) (q := fp) (HON.out.inn.later hb') HF1.out HB.out (by omega) (by omega))
          have x0 : X.cell? ⟨wr.heap.size, 0, none⟩ = some (.string fp) := cell_of_row _ _ 0 _ _ _ hxr
          have HXX := hide hX
          clear hps hk2 hgh hmem hfs hbo hxr hX
          go_upto_region 11 with fail
          rw [← HXX.out]
          clear HXX c0 r0 r1
          obtain ⟨xb, hxb⟩ : ∃ xb, xb = wr.heap.size := ⟨_, rfl⟩
          rw [← hxb] at x0 ⊢
          clear hxb
          go_region_with (first | (go_at_call 128; refine (HBP.out).mono ?_; rintro _ w2 ⟨rfl, hb2⟩; have hb3 : Below X.heap.size X w2 := ((Below.refl X.heap.size X).drew).trans hb2; have c1 := cell_later hb3 c0x; have x1 := cell_later hb3 x0) | (go_at_call 130; refine (HSY.out _ (HBO.out.trans (hb3.mono HBO.out.size))).mono ?_; rintro _ w3 ⟨ev, k, s3, rfl, hv, hg2, hst⟩))
          all_goals
            have HG2 := hide (HGO.out.trans ((PGo.refl HON.out.inn (HBO.out.trans (hb3.mono HBO.out.size))).trans hg2))
            have HNX := hide (ran_next HR.out (by rw [HN.out]; exact HRNX.out) hst)
            clear hg2 hst hb2 hb3 c0x c1 x0 x1 HBP HSY
            rcases hv with ⟨hk0, rfl⟩ | ⟨hk0, sv, nm, rfl, hse⟩
            · have HNX0 := hide (HNX.out.1 hk0)
              clear HNX hk0
              go_wp2_with fail
              exact ⟨⟨i + 1, s3, hlt, by simp, HG2.out, HNX0.out⟩, by simp only [intOf]; omega⟩
            · have HE := hide hse
              clear hse
              go_wp2_with fail
              go_ret
              obtain ⟨m, hm⟩ := HNX.out.2 hk0
              exact ⟨_, k, m, s3, rfl, .inr ⟨hk0, sv, nm, rfl, HE.out⟩, HG2.out, hm⟩
        · have hin : i = j := by omega
          subst hin
          have d2 : decide (((i : Nat) : Int) < ((i : Nat) : Int)) = false := decide_eq_false (by omega)
          have HSD := hide (dk_sd (s := s2) (w := wr) HON.out.inn HF1.out HB.out)
          clear hflr
          go_wp2_with fail
          refine HSD.out.mono ?_
          rintro _ w3 ⟨ev, k, s3, rfl, hv, hg2, hst⟩
          dsimp only
          have HG2 := hide (HGO.out.trans hg2)
          have HNX := hide (ran_next HR.out (by rw [HN.out]; exact biS_sd fl) hst)
          have HV := hide hv
          have hone : ∃ u, ev = .nilIface ∨ ev = .iface 150 u := by
            rcases hv with ⟨_, rfl⟩ | ⟨_, sv, nm, rfl, _⟩
            · exact ⟨.nilIface, .inl rfl⟩
            · exact ⟨_, .inr rfl⟩
          clear hg2 hst hv c0
          go_wp2_with fail
          go_ret
          by_cases hk0 : k = 0
          · refine ⟨ev, k, i + i + 1, s3, rfl, HV.out, HG2.out, ?_⟩
            have h7 := HNX.out.1 hk0
            rw [List.take_of_length_le (by rw [biS_len, ← HN.out]; omega)] at h7
            rw [hk0]
            exact h7
          · obtain ⟨m, hm⟩ := HNX.out.2 hk0
            exact ⟨ev, k, m, s3, rfl, HV.out, HG2.out, hm⟩
end Go.Proofs.YteicpbcddjjceaaGreatDoor
