/-
  PROVED HERE: steps of a disk one behind the other, up to the first that is refused, or all of them; no walk.
-/
import Derived.Test.YteicpbcddjjceaaGreatDoorDkPath
import Derived.Test.YteicpbcddjjceaaGreatDoorRowLib
import Derived.Test.YteicpbcddjjceaaGreatDoorRead
import Derived.Test.YteicpbcddjjceaaGreatDoorRows
import Derived.Test.YteicpbcddjjceaaGreatDoorShelf
import Derived.WalkKit
import Derived.WalkSpells
import Derived.WalkLawsBesides
import Derived.Laws.BitsAllLaws
import Derived.Deep.QuietTactic
import Derived.BigQuiet
namespace Go.Proofs.YteicpbcddjjceaaGreatDoor
open Go.RowKit
/-- A step: 0 Append, 1 Sync, 2 Remove, 3 Rename, else SyncDir. -/
structure Stp where
  k : Nat
  p : ByteArray
  q : ByteArray
def sAp (p q : ByteArray) : Stp := ⟨0, p, q⟩
def sSy (p : ByteArray) : Stp := ⟨1, p, ⟨#[]⟩⟩
def sRm (p : ByteArray) : Stp := ⟨2, p, ⟨#[]⟩⟩
def sRn (p q : ByteArray) : Stp := ⟨3, p, q⟩
def sSd : Stp := ⟨4, ⟨#[]⟩, ⟨#[]⟩⟩
def stR (D : DS) (t : Stp) (k : Int) (D' : DS) : Prop :=
  match t.k with
  | 0 => ∃ f, f ∉ D.fs ∧ (k, D') = apD D t.p t.q f
  | 1 => (k, D') = syD D t.p
  | 2 => (k, D') = rmD D t.p
  | 3 => (k, D') = rnD D t.p t.q
  | _ => (k, D') = sdD D
def Stp.sz (t : Stp) : Nat := if t.k = 0 then t.q.size else 0
theorem DFit.st {D D' : DS} {L C B : Nat} {t : Stp} {k : Int} (h : DFit D L C B) (hs : stR D t k D') : DFit D' (L + 1) (C + 1) (B + t.sz) := by
  obtain ⟨tk, p, q⟩ := t
  unfold stR at hs
  unfold Stp.sz
  match tk with
  | 0 =>
    obtain ⟨f, _, he⟩ := hs
    exact h.ap he
  | 1 => exact (h.sy hs).mono (Nat.le_succ _) (Nat.le_refl _) (Nat.le_add_right _ _)
  | 2 => exact (h.rm hs).mono (Nat.le_refl _) (Nat.le_refl _) (Nat.le_add_right _ _)
  | 3 => exact (h.rn hs).mono (Nat.le_refl _) (Nat.le_refl _) (Nat.le_add_right _ _)
  | n + 4 => exact (h.sd hs).mono (Nat.le_succ _) (Nat.le_refl _) (Nat.le_add_right _ _)
/-- The steps up to the first that is refused: its answer k, how many went well. -/
def Ran : DS → List Stp → Int → Nat → DS → Prop
  | D, [], k, n, D' => k = 0 ∧ n = 0 ∧ D' = D
  | D, t :: l, k, n, D' => ∃ k1 D1, stR D t k1 D1 ∧ ((k1 ≠ 0 ∧ k = k1 ∧ n = 0 ∧ D' = D1) ∨ (k1 = 0 ∧ ∃ m, n = m + 1 ∧ Ran D1 l k m D'))
/-- All of them, whatever they answer. -/
def RanI : DS → List Stp → DS → Prop
  | D, [], D' => D' = D
  | D, t :: l, D' => ∃ k1 D1, stR D t k1 D1 ∧ RanI D1 l D'
theorem Ran.stop : ∀ {l : List Stp} {D D' : DS} {k : Int} {n : Nat} (l' : List Stp), Ran D l k n D' → k ≠ 0 → Ran D (l ++ l') k n D'
  | [], _, _, _, _, _, h, hk => absurd h.1 hk
  | t :: l, D, D', k, n, l', h, hk => by
    obtain ⟨k1, D1, h1, h2⟩ := h
    refine ⟨k1, D1, h1, ?_⟩
    rcases h2 with h2 | ⟨h2, m, h3, h4⟩
    · exact .inl h2
    · exact .inr ⟨h2, m, h3, h4.stop l' hk⟩
theorem Ran.app : ∀ {l l' : List Stp} {D D1 D' : DS} {k : Int} {n m : Nat}, Ran D l 0 n D1 → Ran D1 l' k m D' → Ran D (l ++ l') k (n + m) D'
  | [], l', D, D1, D', k, n, m, h, h' => by
    obtain ⟨_, rfl, rfl⟩ := h
    rw [Nat.zero_add]
    exact h'
  | t :: l, l', D, D1, D', k, n, m, h, h' => by
    obtain ⟨k1, D2, h1, h2⟩ := h
    rcases h2 with ⟨h2, h3, _⟩ | ⟨h2, j, h3, h4⟩
    · exact absurd h3.symm h2
    · exact ⟨k1, D2, h1, .inr ⟨h2, j + m, by omega, h4.app h'⟩⟩
theorem Ran.one {D D' : DS} {t : Stp} {k : Int} (h : stR D t k D') : Ran D [t] k (if k = 0 then 1 else 0) D' := by
  refine ⟨k, D', h, ?_⟩
  by_cases hk : k = 0
  · rw [if_pos hk]
    exact .inr ⟨hk, 0, rfl, hk, rfl, rfl⟩
  · rw [if_neg hk]
    exact .inl ⟨hk, rfl, rfl, rfl⟩
theorem Ran.len : ∀ {l : List Stp} {D D' : DS} {n : Nat}, Ran D l 0 n D' → n = l.length
  | [], _, _, _, h => h.2.1
  | t :: l, D, D', n, h => by
    obtain ⟨k1, D1, h1, h2⟩ := h
    rcases h2 with ⟨h2, h3, _⟩ | ⟨_, m, h3, h4⟩
    · exact absurd h3.symm h2
    · rw [h3, h4.len]; rfl
theorem RanI.snoc : ∀ {l : List Stp} {D D1 D' : DS} {t : Stp} {k : Int}, RanI D l D1 → stR D1 t k D' → RanI D (l ++ [t]) D'
  | [], _, _, _, _, _, h, h' => by
    subst h
    exact ⟨_, _, h', rfl⟩
  | t :: l, _, _, _, _, _, h, h' => by
    obtain ⟨k1, D2, h1, h2⟩ := h
    exact ⟨k1, D2, h1, h2.snoc h'⟩
def szs (l : List Stp) : Nat := (l.map Stp.sz).sum
theorem DFit.ran : ∀ {l : List Stp} {D D' : DS} {L C B : Nat} {k : Int} {n : Nat}, DFit D L C B → Ran D l k n D' → DFit D' (L + l.length) (C + l.length) (B + szs l)
  | [], D, D', L, C, B, k, n, h, hr => by
    rw [hr.2.2]
    exact h.mono (Nat.le_add_right _ _) (Nat.le_add_right _ _) (Nat.le_add_right _ _)
  | t :: l, D, D', L, C, B, k, n, h, hr => by
    obtain ⟨k1, D1, h1, h2⟩ := hr
    have h3 := h.st h1
    have e1 : szs (t :: l) = t.sz + szs l := by simp [szs]
    rw [List.length_cons, e1]
    rcases h2 with ⟨_, _, _, rfl⟩ | ⟨_, m, _, h4⟩
    · exact h3.mono (by omega) (by omega) (by omega)
    · exact (h3.ran h4).mono (by omega) (by omega) (by omega)
theorem DFit.ranI : ∀ {l : List Stp} {D D' : DS} {L C B : Nat}, DFit D L C B → RanI D l D' → DFit D' (L + l.length) (C + l.length) (B + szs l)
  | [], D, D', L, C, B, h, hr => by
    rw [hr]
    exact h.mono (Nat.le_add_right _ _) (Nat.le_add_right _ _) (Nat.le_add_right _ _)
  | t :: l, D, D', L, C, B, h, hr => by
    obtain ⟨k1, D1, h1, h2⟩ := hr
    have e1 : szs (t :: l) = t.sz + szs l := by simp [szs]
    rw [List.length_cons, e1]
    exact ((h.st h1).ranI h2).mono (by omega) (by omega) (by omega)
theorem Bud.mono {L C B L' C' B' : Nat} (h : Bud L C B) (hL : L' ≤ L) (hC : C' ≤ C) (hB : B' ≤ B) : Bud L' C' B' := ⟨Nat.le_trans hL h.1, Nat.le_trans hC h.2.1, Nat.le_trans hB h.2.2⟩
/-- A block of another type than the disk's stays through its steps. -/
theorem PGo.keeps {s s' : PSt} {w w' : World} (hg : PGo s s' w w') (h : s.In w) {k : Nat} {cur : Array Value} {T : TypeId} {fr : Nat × Nat} (hk : w.heap[k]? = some (.cells cur T fr)) (h1 : T ≠ 105) (h2 : T ≠ 227) (h3 : T ≠ 159) (h4 : T ≠ 5) : w'.heap[k]? = some (.cells cur T fr) :=
  (hg.gr.block k (lt_heap hk) (h.notOwn hk h1 h2 h3 h4)).trans hk
end Go.Proofs.YteicpbcddjjceaaGreatDoor

/-
  PROVED HERE: the paths of a store's files: of a content, of a file that is laid beside the store; and which content a path speaks of.
-/
namespace Go.Proofs.YteicpbcddjjceaaGreatDoor
open Go.RowKit
def blobsL : List UInt8 := [98, 108, 111, 98, 115, 47]
def besideL : List UInt8 := [98, 101, 115, 105, 100, 101, 47]
/-- The path of a content. -/
def cPath (ds : List Nat) : ByteArray := ⟨(blobsL ++ Sha.textTo ds 32).toArray⟩
/-- The path of file number i of a change. -/
def bPath (i : Nat) : ByteArray := ⟨(besideL ++ Lib.itoa (i : Int)).toArray⟩
theorem ba_app (a b : List UInt8) : (⟨a.toArray⟩ : ByteArray) ++ ⟨b.toArray⟩ = ⟨(a ++ b).toArray⟩ := by
  apply ByteArray.ext
  rw [ByteArray.data_append]
  simp
theorem contentPath_any (ds : List Nat) (w : World) (hlen : ds.length = 32) (hlt : ∀ i, ds.getD i 0 < 256) :
    Calls Tryz.prog 54 #[.agg (cells8 ds)] w fun e w' => e = .returned (.string (cPath ds)) ∧ Below w.heap.size w w' := by
  have HT := hide (fun w => text_any ds w hlen hlt)
  obtain ⟨t, ht⟩ : ∃ t : ByteArray, t = ⟨(Sha.textTo ds 32).toArray⟩ := ⟨_, rfl⟩
  rw [← ht] at HT
  have hts : ¬ 9223372036854775807 < 6 + t.size := by
    have h1 : t.size = (Sha.textTo ds 32).length := by rw [ht]; simp [ByteArray.size]
    rw [h1, Sha.textTo_len]
    omega
  have HE := hide ht
  clear hlt ht
  go_enter Tryz.func54, Tryz.ntmps54
  go_wp2_with (first | (refine wpList_load_row rfl 72 _ rfl w.heap.size rfl 72 _ _ _ (heap_alloc_new _ _) Tryz.underlying72 rfl (size40 _ hlen) ?_) | (go_at_call 23; refine (HT.out _).mono ?_; rintro _ w1 ⟨rfl, hb1⟩))
  go_ret
  refine ⟨?_, (Below.trans ((Below.refl _ _).alloc (Nat.le_refl _) _) (hb1.mono (by simp)))⟩
  rw [HE.out, show (⟨#[98, 108, 111, 98, 115, 47]⟩ : ByteArray) = ⟨blobsL.toArray⟩ from rfl, ba_app]
  rfl
theorem besidePath_any (i : Nat) (hi : i ≤ 300) (w : World) (htab : Lib.TabIs Tryz.prog w "internal/strconv.uint64pow10" .u64 Lib.pow10Tab) :
    Calls Tryz.prog 128 #[.int .i64 ((i : Nat) : Int)] w fun e w' => e = .returned (.string (bPath i)) ∧ Below w.heap.size w w' := by
  have HI := hide (itoa_any ((i : Nat) : Int) (by omega) (by omega) w htab)
  obtain ⟨t, ht⟩ : ∃ t : ByteArray, t = ⟨(Lib.itoa ((i : Nat) : Int)).toArray⟩ := ⟨_, rfl⟩
  rw [← ht] at HI
  have hts : ¬ 9223372036854775807 < 7 + t.size := by
    have h1 : t.size = (Lib.itoa ((i : Nat) : Int)).length := by rw [ht]; simp [ByteArray.size]
    have h2 := Lib.itoa_length_le ((i : Nat) : Int) (by omega) (by omega)
    omega
  have HE := hide ht
  clear ht htab
  go_enter Tryz.func128, Tryz.ntmps128
  go_wp2_with (go_at_call 109; refine (HI.out).mono ?_; rintro _ w1 ⟨rfl, hb1⟩)
  go_ret
  refine ⟨?_, hb1⟩
  rw [HE.out, show (⟨#[98, 101, 115, 105, 100, 101, 47]⟩ : ByteArray) = ⟨besideL.toArray⟩ from rfl, ba_app]
  rfl
/-- Begins a text with another one? -/
def hasPre (s p : ByteArray) : Bool := decide (p.size ≤ s.size) && decide (s.extract 0 p.size = p)
theorem hasPrefix_any (s p : ByteArray) (w : World) :
    Calls Tryz.prog 260 #[.string s, .string p] w fun e w' => e = .returned (.bool (hasPre s p)) ∧ w' = w := by
  unfold hasPre
  by_cases h : p.size ≤ s.size
  · go_enter Tryz.func260, Tryz.ntmps260
    go_wp2_with fail
    go_ret
    refine ⟨?_, rfl⟩
    have e : ((s.extract 0 p.size).toList == p.toList) = decide (s.extract 0 p.size = p) := by
      rw [Bool.eq_iff_iff]
      simp [toList_inj]
    rw [e, decide_eq_true h, Bool.true_and]
    rfl
  · have h2 : decide (((p.size : Nat) : Int) ≤ ((s.size : Nat) : Int)) = false := decide_eq_false (by omega)
    go_enter Tryz.func260, Tryz.ntmps260
    go_wp2_with fail
    go_ret
    exact ⟨by rw [decide_eq_false h, Bool.false_and]; rfl, rfl⟩
def cutPre (s p : ByteArray) : ByteArray := if hasPre s p then s.extract p.size s.size else s
theorem cutPrefix0_any (s p : ByteArray) (w : World) :
    Calls Tryz.prog 240 #[.string s, .string p] w fun e w' => e = .returned (.tuple #[.string (cutPre s p), .bool (hasPre s p)]) ∧ w' = w := by
  have HH := hide (hasPrefix_any s p w)
  unfold cutPre
  cases hb : hasPre s p with
  | false =>
    rw [hb] at HH
    clear hb
    go_enter Tryz.func240, Tryz.ntmps240
    go_wp2_with (go_at_call 260; refine (HH.out).mono ?_; rintro _ _ ⟨rfl, rfl⟩)
    refine bodyPost_ret (results_tmp2 rfl _ _ _) rfl ?_
    exact ⟨rfl, rfl⟩
  | true =>
    have hle : p.size ≤ s.size := by
      unfold hasPre at hb
      simp only [Bool.and_eq_true, decide_eq_true_eq] at hb
      exact hb.1
    rw [hb] at HH
    clear hb
    go_enter Tryz.func240, Tryz.ntmps240
    go_wp2_with (go_at_call 260; refine (HH.out).mono ?_; rintro _ _ ⟨rfl, rfl⟩)
    refine bodyPost_ret (results_tmp2 rfl _ _ _) rfl ?_
    exact ⟨rfl, rfl⟩
theorem cutPrefix_any (s p : ByteArray) (w : World) :
    Calls Tryz.prog 215 #[.string s, .string p] w fun e w' => e = .returned (.tuple #[.string (cutPre s p), .bool (hasPre s p)]) ∧ w' = w := by
  have HH := hide (cutPrefix0_any s p w)
  go_enter Tryz.func215, Tryz.ntmps215
  go_wp2_with (go_at_call 240; refine (HH.out).mono ?_; rintro _ _ ⟨rfl, rfl⟩)
  refine bodyPost_ret (results_tmp2 rfl _ _ _) rfl ?_
  exact ⟨rfl, rfl⟩
def blobsP : ByteArray := ⟨#[98, 108, 111, 98, 115, 47]⟩
/-- Is this the path of a content, and of which? -/
def dgB (p : ByteArray) : Bool := hasPre p blobsP && isDigB (cutPre p blobsP)
def dgV (p : ByteArray) : List Nat := if hasPre p blobsP then rd (cutPre p blobsP) else Sha.zeros 32
theorem dgV_len (p : ByteArray) : (dgV p).length = 32 := by
  unfold dgV
  split
  · exact rd_len _
  · exact Sha.zeros_len _
set_option maxHeartbeats 1000000 in
set_option maxRecDepth 100000 in
theorem digestAt_any (p : ByteArray) (w : World) :
    Calls Tryz.prog 178 #[.string p] w fun e w' => e = .returned (.tuple #[.agg (cells8 (dgV p)), .bool (dgB p)]) ∧ Below w.heap.size w w' := by
  have hz4 := (zero_of_info Tryz.info72).1
  have HC := hide (fun w => cutPrefix_any p blobsP w)
  unfold dgV dgB
  cases hb : hasPre p blobsP with
  | false =>
    rw [hb] at HC
    clear hb
    go_enter Tryz.func178, Tryz.ntmps178
    go_wp2_with (first | (go_at_call 215; refine (HC.out _).mono ?_; rintro _ _ ⟨rfl, rfl⟩) | (refine wpList_store_row rfl 72 _ _ rfl w.heap.size _ rfl rfl 72 _ (heap_alloc_new _ _) (size40 _ (Sha.zeros_len _)) rfl (cells8_one _) ?_; rw [World.setRow_alloc_new]))
    exact bodyPost_ret (results_cell_tmp Tryz.results178 _ _ w.heap.size 72 _ (0, 0) _ (.bool false) rfl rfl (heap_alloc_new _ _) Tryz.underlying72 rfl (size40 _ (Sha.zeros_len _))) rfl ⟨rfl, (Below.refl _ _).alloc (Nat.le_refl _) _⟩
  | true =>
    rw [hb] at HC
    clear hb
    generalize cutPre p blobsP = t at HC ⊢
    have HR := hide (fun w => read_any t w)
    have hrl := rd_len t
    generalize rd t = ds at HR hrl ⊢
    generalize isDigB t = db at HR ⊢
    go_enter Tryz.func178, Tryz.ntmps178
    go_wp2_with (first | (go_at_call 215; refine (HC.out _).mono ?_; rintro _ _ ⟨rfl, rfl⟩) | (go_at_call 69; refine (HR.out _).mono ?_; rintro _ w1 ⟨rfl, hb1⟩; have hr1 := (hb1.block w.heap.size (by simp)).trans (heap_alloc_new _ _)) | (refine wpList_store_row rfl 72 _ _ rfl w.heap.size _ rfl rfl 72 _ hr1 (size40 _ hrl) (by rw [cells8_size, cells8_size, hrl, Sha.zeros_len]) (cells8_one _) ?_))
    exact bodyPost_ret (results_cell_tmp Tryz.results178 _ _ w.heap.size 72 _ (0, 0) _ (.bool db) rfl rfl (setRow_heap _ _ _ _ _ _ hr1) Tryz.underlying72 rfl (size40 _ hrl)) rfl ⟨rfl, (((Below.refl _ _).alloc (Nat.le_refl _) _).trans (hb1.mono (by simp))).setRow (Nat.le_refl _) _⟩
def layoutP : ByteArray := ⟨#[108, 97, 121, 111, 117, 116]⟩
def indexP : ByteArray := ⟨#[105, 110, 100, 101, 120]⟩
def journalP : ByteArray := ⟨#[106, 111, 117, 114, 110, 97, 108]⟩
def pruningP : ByteArray := ⟨#[112, 114, 117, 110, 105, 110, 103]⟩
/-- No store at rest has a file under this path. -/
def foreignB (p : ByteArray) : Bool := !dgB p && decide (p ≠ layoutP) && decide (p ≠ indexP) && decide (p ≠ journalP)
theorem eq_bytes (a b : ByteArray) : decide (a ≠ b) = !(a.toList == b.toList) := by
  rw [Bool.eq_iff_iff]
  simp [toList_inj]
theorem layoutL : layoutP.toList = [108, 97, 121, 111, 117, 116] := by rw [ByteArray.toList_eq]; rfl
theorem indexL : indexP.toList = [105, 110, 100, 101, 120] := by rw [ByteArray.toList_eq]; rfl
theorem journalL : journalP.toList = [106, 111, 117, 114, 110, 97, 108] := by rw [ByteArray.toList_eq]; rfl
set_option maxHeartbeats 1000000 in
set_option maxRecDepth 100000 in
theorem isForeign_any (p : ByteArray) (w : World) :
    Calls Tryz.prog 133 #[.string p] w fun e w' => e = .returned (.bool (foreignB p)) ∧ Below w.heap.size w w' := by
  have hz4 := (zero_of_info Tryz.info72).1
  have HD := hide (fun w => digestAt_any p w)
  have hdl := dgV_len p
  unfold foreignB
  generalize dgV p = ds at HD hdl
  generalize dgB p = db at HD ⊢
  rw [eq_bytes, eq_bytes, eq_bytes, layoutL, indexL, journalL]
  cases db with
  | true =>
    go_enter Tryz.func133, Tryz.ntmps133
    go_wp2_with (first | (go_at_call 178; refine (HD.out _).mono ?_; rintro _ w1 ⟨rfl, hb1⟩) | (refine wpList_store_row rfl 72 _ _ rfl w1.heap.size _ rfl rfl 72 _ (heap_alloc_new _ _) (size40 _ hdl) (by rw [cells8_size, cells8_size, hdl, Sha.zeros_len]) (cells8_one _) ?_; rw [World.setRow_alloc_new]))
    go_ret
    exact ⟨rfl, hb1.trans ((Below.refl _ _).alloc hb1.size _)⟩
  | false =>
    cases m1 : (p.toList == [108, 97, 121, 111, 117, 116]) with
    | true =>
      go_enter Tryz.func133, Tryz.ntmps133
      go_wp2_with (first | (go_at_call 178; refine (HD.out _).mono ?_; rintro _ w1 ⟨rfl, hb1⟩) | (refine wpList_store_row rfl 72 _ _ rfl w1.heap.size _ rfl rfl 72 _ (heap_alloc_new _ _) (size40 _ hdl) (by rw [cells8_size, cells8_size, hdl, Sha.zeros_len]) (cells8_one _) ?_; rw [World.setRow_alloc_new]))
      go_ret
      exact ⟨rfl, hb1.trans ((Below.refl _ _).alloc hb1.size _)⟩
    | false =>
      cases m2 : (p.toList == [105, 110, 100, 101, 120]) with
      | true =>
        go_enter Tryz.func133, Tryz.ntmps133
        go_wp2_with (first | (go_at_call 178; refine (HD.out _).mono ?_; rintro _ w1 ⟨rfl, hb1⟩) | (refine wpList_store_row rfl 72 _ _ rfl w1.heap.size _ rfl rfl 72 _ (heap_alloc_new _ _) (size40 _ hdl) (by rw [cells8_size, cells8_size, hdl, Sha.zeros_len]) (cells8_one _) ?_; rw [World.setRow_alloc_new]))
        go_ret
        exact ⟨rfl, hb1.trans ((Below.refl _ _).alloc hb1.size _)⟩
      | false =>
        cases m3 : (p.toList == [106, 111, 117, 114, 110, 97, 108]) with
        | true =>
          go_enter Tryz.func133, Tryz.ntmps133
          go_wp2_with (first | (go_at_call 178; refine (HD.out _).mono ?_; rintro _ w1 ⟨rfl, hb1⟩) | (refine wpList_store_row rfl 72 _ _ rfl w1.heap.size _ rfl rfl 72 _ (heap_alloc_new _ _) (size40 _ hdl) (by rw [cells8_size, cells8_size, hdl, Sha.zeros_len]) (cells8_one _) ?_; rw [World.setRow_alloc_new]))
          go_ret
          exact ⟨rfl, hb1.trans ((Below.refl _ _).alloc hb1.size _)⟩
        | false =>
          go_enter Tryz.func133, Tryz.ntmps133
          go_wp2_with (first | (go_at_call 178; refine (HD.out _).mono ?_; rintro _ w1 ⟨rfl, hb1⟩) | (refine wpList_store_row rfl 72 _ _ rfl w1.heap.size _ rfl rfl 72 _ (heap_alloc_new _ _) (size40 _ hdl) (by rw [cells8_size, cells8_size, hdl, Sha.zeros_len]) (cells8_one _) ?_; rw [World.setRow_alloc_new]))
          go_ret
          exact ⟨rfl, hb1.trans ((Below.refl _ _).alloc hb1.size _)⟩
/-- The store's own block: the disk that it lies on. -/
def SB (w : World) (sb b : Nat) : Prop := ∃ cv tv, w.heap[sb]? = some (.cells #[.pointer (some ⟨b, 0, none⟩), cv, tv] 122 (0, 0))
theorem SB.later {w w' : World} {sb b : Nat} (h : SB w sb b) (hb : Below w.heap.size w w') : SB w' sb b := by
  obtain ⟨cv, tv, h⟩ := h
  exact ⟨cv, tv, (hb.block _ (lt_of_row h)).trans h⟩
theorem SB.go {w w' : World} {sb : Nat} {s s' : PSt} (h : SB w sb s.b) (hi : s.In w) (hg : PGo s s' w w') : SB w' sb s'.b := by
  obtain ⟨cv, tv, h⟩ := h
  rw [hg.b]
  exact ⟨cv, tv, hg.keeps hi h (by decide) (by decide) (by decide) (by decide)⟩
set_option maxHeartbeats 1000000 in
set_option maxRecDepth 100000 in
theorem isThere_any (sb : Nat) (s : PSt) (p : ByteArray) (w : World) (hb : SB w sb s.b) (h : s.In w) (hp : p.size ≤ 9223372036854775807) :
    Calls Tryz.prog 75 #[.pointer (some ⟨sb, 0, none⟩), .string p] w fun e w' => e = .returned (.bool (rdD s.ds p).isSome) ∧ PGo s s w w' := by
  obtain ⟨cv, tv, hbl⟩ := hb
  have c0 : w.cell? ⟨sb, 0, none⟩ = some (.pointer (some ⟨s.b, 0, none⟩)) := cell_of_row _ _ 0 _ _ _ hbl
  have HR := hide (dkRead s p w h hp)
  clear hbl h
  go_enter Tryz.func75, Tryz.ntmps75
  go_wp2_with fail
  refine HR.out.mono ?_
  rintro _ w1 ⟨v, k, rfl, hv, hk, hg, hi⟩
  dsimp only
  have hgo : PGo s s w w1 := ⟨rfl, hi, hg, fun _ hk => .inl hk⟩
  have HGO := hide hgo
  clear hgo hg hi c0
  rcases hv with ⟨h0, rfl⟩ | ⟨h0, sv, nm, rfl, -⟩
  · have HS := hide (hk.1 h0)
    clear hk
    go_wp2_with fail
    go_ret
    exact ⟨by rw [HS.out]; rfl, HGO.out⟩
  · have hs : (rdD s.ds p).isSome = false := by
      cases hq : (rdD s.ds p).isSome with
      | false => rfl
      | true => exact absurd (hk.2 hq) h0
    have HS := hide hs
    clear hk hs
    go_wp2_with fail
    go_ret
    exact ⟨by rw [HS.out]; rfl, HGO.out⟩
end Go.Proofs.YteicpbcddjjceaaGreatDoor

/-
  PROVED HERE: what the program's functions turned, turned2 and turned3 answer, for every number of 32 bits: the world stays (turned2 may draw).
-/
namespace Go.Proofs.YteicpbcddjjceaaGreatDoor
open Go.RowKit

theorem neg_and31 (r : Nat) (h0 : 0 < r) (h1 : r < 32) : bits .and .u64 (IntKind.u64.wrap (-(r : Int))) 31 = ((32 - r : Nat) : Int) := by
  have e : IntKind.u64.wrap (-(r : Int)) = ((18446744073709551616 - r : Nat) : Int) := by
    rw [IntKind.wrap_u64]; omega
  rw [e, show (31 : Int) = ((31 : Nat) : Int) from rfl, u64_and_nat _ _ (by omega) (by omega), nat_mask5]
  omega

theorem shl_nat (x s : Nat) : (x : Int) * 2 ^ s % 4294967296 = ((x * 2 ^ s % 4294967296 : Nat) : Int) := by
  rw [Int.natCast_emod, Int.natCast_mul, Int.natCast_pow]
  rfl
theorem shr_nat (x s : Nat) : (x : Int) / 2 ^ s = ((x / 2 ^ s : Nat) : Int) := by
  rw [Int.natCast_ediv, Int.natCast_pow]
  rfl
theorem rot_val (x r : Nat) (hx : x < 4294967296) (hr : r < 32) : bits .or .u32 ((x : Int) * 2 ^ (32 - r) % 4294967296) ((x : Int) / 2 ^ (32 - (32 - r))) = ((Sha.rotr x r : Nat) : Int) := by
  rw [show 32 - (32 - r) = r from by omega, shl_nat, shr_nat, u32_or_nat _ _ (Nat.mod_lt _ (by omega)) (Sha.div_lt hx)]
  rfl
theorem ret_int {k : IntKind} {a b : Int} (h : a = b) : Ending.returned (.int k a) = .returned (.int k b) := by rw [h]

set_option maxHeartbeats 400000 in
theorem turned_any (x r : Int) (w : World) (h0 : 0 ≤ x) (h1 : x < 4294967296) (hr : 0 < r) (hr2 : r < 32) :
    Calls Tryz.prog 238 #[.int .u32 x, .int .i64 r] w fun e w' => e = .returned (.int .u32 (Sha.rotr x.toNat r.toNat : Nat)) ∧ w' = w := by
  obtain ⟨x, rfl⟩ := Int.eq_ofNat_of_zero_le h0
  obtain ⟨r, rfl⟩ := Int.eq_ofNat_of_zero_le (Int.le_of_lt hr)
  have hb := neg_and31 r (by omega) (by omega)
  have HV : Hid (bits .or .u32 ((x : Int) * 2 ^ (32 - r) % 4294967296) ((x : Int) / 2 ^ (32 - (32 - r))) = ((Sha.rotr x r : Nat) : Int)) := rot_val x r (by omega) (by omega)
  go_enter Tryz.func238, Tryz.ntmps238
  go_wp2
  go_ret
  exact ⟨ret_int (by rw [Int.toNat_natCast, Int.toNat_natCast]; exact HV.out), rfl⟩

set_option maxHeartbeats 400000 in
theorem turned3_any (x : Nat) (a b c : Int) (w : World) (h1 : x < 4294967296) (ha : 0 < a) (ha2 : a < 32) (hb : 0 < b) (hb2 : b < 32) (hc : 0 < c) (hc2 : c < 32) :
    Calls Tryz.prog 209 #[.int .u32 (x : Nat), .int .i64 a, .int .i64 b, .int .i64 c] w fun e w' => e = .returned (.int .u32 (Sha.big3 x a.toNat b.toNat c.toNat : Nat)) ∧ w' = w := by
  have HV : Hid (bits .xor .u32 (bits .xor .u32 ((Sha.rotr x a.toNat : Nat) : Int) ((Sha.rotr x b.toNat : Nat) : Int)) ((Sha.rotr x c.toNat : Nat) : Int) = ((Sha.big3 x a.toNat b.toNat c.toNat : Nat) : Int)) := by
    show _ = _
    rw [u32_xor_nat _ _ (Sha.rotr_lt h1) (Sha.rotr_lt h1), u32_xor_nat _ _ (Sha.xor_lt (Sha.rotr_lt h1) (Sha.rotr_lt h1)) (Sha.rotr_lt h1)]
    rfl
  go_enter Tryz.func209, Tryz.ntmps209
  go_wp2_with (go_at_call 238; refine (turned_any _ _ _ (by omega) (by omega) (by omega) (by omega)).mono ?_; rintro e w' ⟨rfl, rfl⟩)
  go_ret
  exact ⟨ret_int HV.out, rfl⟩

set_option maxHeartbeats 400000 in
theorem turned2_any (x : Nat) (a b c : Int) (w : World) (h1 : x < 4294967296) (ha : 0 < a) (ha2 : a < 32) (hb : 0 < b) (hb2 : b < 32) (hc : 0 < c) (hc2 : c < 32) :
    Calls Tryz.prog 237 #[.int .u32 (x : Nat), .int .i64 a, .int .i64 b, .int .i64 c] w fun e w' => e = .returned (.int .u32 (Sha.sm3 x a.toNat b.toNat c.toNat : Nat)) ∧ ∃ n, w' = w.drewN n := by
  have HV : Hid (bits .xor .u32 (bits .xor .u32 ((Sha.rotr x a.toNat : Nat) : Int) ((Sha.rotr x b.toNat : Nat) : Int)) ((x : Int) / 2 ^ c.toNat) = ((Sha.sm3 x a.toNat b.toNat c.toNat : Nat) : Int)) := by
    show _ = _
    rw [shr_nat, u32_xor_nat _ _ (Sha.rotr_lt h1) (Sha.rotr_lt h1), u32_xor_nat _ _ (Sha.xor_lt (Sha.rotr_lt h1) (Sha.rotr_lt h1)) (Sha.div_lt h1)]
    rfl
  go_enter Tryz.func237, Tryz.ntmps237
  go_wp2
  go_quiet ((go_at_call 238; exact Calls.quiet_of_same (turned_any _ _ _ (by omega) (by omega) (by omega) (by omega))))
  go_wp2
  go_ret
  exact ⟨ret_int HV.out, _, rfl⟩
end Go.Proofs.YteicpbcddjjceaaGreatDoor
