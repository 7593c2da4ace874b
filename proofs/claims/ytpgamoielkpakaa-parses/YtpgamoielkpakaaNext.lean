/-
  PROVED HERE: what the program's function next of the index's scanner answers: the next token, or that it gives up at a place.
-/
import Derived.Test.YtpgamoielkpakaaScanNum
import Derived.Test.YtpgamoielkpakaaRowT
namespace Go.Proofs.Ytpgamoielkpakaa
open Go.RowKit
theorem skipS_le (t : ByteArray) (a : Nat) (h : a ≤ t.size) : skipS t a ≤ t.size := by
  rw [skipS]
  split
  · split
    · exact skipS_le t (a + 1) (by omega)
    · exact h
  · exact h
termination_by t.size - a
theorem mark_index (x : Nat) (hx : x < 256) : decide (0 ≤ Lib.indexByte [123, 125, 91, 93, 58, 44] ((x : Int).toNat.toUInt8)) = markB x := by
  have h : ∀ n, n < 256 → decide (0 ≤ Lib.indexByte [123, 125, 91, 93, 58, 44] (Nat.toUInt8 n)) = markB n := by decide +kernel
  rw [show ((x : Int).toNat) = x by omega]
  exact h x hx
def NG.says (e : Ending) (w' : World) (b : Nat) (t : ByteArray) : NG Nat → Prop
  | .tok k p n l c => e = .returned (tokV k p ((n : Nat) : Int) ⟨l.toArray⟩) ∧ ScIs w' b t c
  | .bad p => e = gaveUp p
theorem set4 {W : World} {g : Nat} {c0 c1 c2 c3 : Value} (v0 v1 v2 v3 : Value) (h : W.heap[g]? = some (.cells #[c0, c1, c2, c3] 69 (0, 0))) :
    ((((W.setCell ⟨g, 0, none⟩ v0).setCell ⟨g, 1, none⟩ v1).setCell ⟨g, 2, none⟩ v2).setCell ⟨g, 3, none⟩ v3).heap[g]? = some (.cells #[v0, v1, v2, v3] 69 (0, 0)) :=
  row_store v3 (row_store v2 (row_store v1 (row_store v0 h)))
theorem size87 (v0 v1 v2 v3 : Value) : (Try.prog.info? 69).map (·.size) = some (#[v0, v1, v2, v3] : Array Value).size := by kernel_rfl
theorem below_set4 {B g : Nat} (X : World) (h : B ≤ g) (v0 v1 v2 v3 : Value) : Below B X ((((X.setCell ⟨g, 0, none⟩ v0).setCell ⟨g, 1, none⟩ v1).setCell ⟨g, 2, none⟩ v2).setCell ⟨g, 3, none⟩ v3) :=
  ((((Below.refl B X).setCell (p := ⟨g, 0, none⟩) h v0).setCell (p := ⟨g, 1, none⟩) h v1).setCell (p := ⟨g, 2, none⟩) h v2).setCell (p := ⟨g, 3, none⟩) h v3
/-- The token is handed back. -/
theorem ret_tok {b a k p n c : Nat} {l : List UInt8} {t : ByteArray} {w X : World} {tmps : Array Value} (hp : tmps.getD 2 undef = .pointer (some ⟨w.heap.size, 0, none⟩)) (hX : w.grownBy X (some b))
    (hres : X.heap[w.heap.size]? = some (.cells #[.int .u8 0, .int .i64 0, .int .i64 0, .string ⟨#[]⟩] 69 (0, 0))) (hsc : ScIs X b t c) (hbl : b < w.heap.size) (hsay : nextS t a = .tok k p n l c) :
    bodyPost Try.prog Try.f26 (fun e w' => w.grownBy w' (some b) ∧ NG.says e w' b t (nextS t a)) Exit.ret { tmps := tmps, defers := [] }
      ((((X.setCell ⟨w.heap.size, 0, none⟩ (.int .u8 ((k : Nat) : Int))).setCell ⟨w.heap.size, 1, none⟩ (.int .i64 ((p : Nat) : Int))).setCell ⟨w.heap.size, 2, none⟩ (.int .i64 ((n : Nat) : Int))).setCell ⟨w.heap.size, 3, none⟩ (.string ⟨l.toArray⟩)) := by
  have hB := below_set4 X (Nat.le_refl w.heap.size) (.int .u8 ((k : Nat) : Int)) (.int .i64 ((p : Nat) : Int)) (.int .i64 ((n : Nat) : Int)) (.string ⟨l.toArray⟩)
  refine bodyPost_ret (results_cell_row Try.results26 _ _ w.heap.size 69 _ (0, 0) _ hp (set4 _ _ _ _ hres) Try.underlying69 rfl (size87 _ _ _ _)) rfl ?_
  refine ⟨grown_then hX hB, ?_⟩
  rw [hsay]
  exact ⟨rfl, (hB.block b hbl).trans hsc⟩
set_option maxHeartbeats 2000000 in
set_option maxRecDepth 100000 in
theorem next_core (b a : Nat) (t : ByteArray) (w : World) (hs : ScIs w b t a) (ha : a ≤ t.size) (ht : t.size ≤ 2000) :
    Calls Try.prog 26 #[.pointer (some ⟨b, 0, none⟩)] w fun e w' => w.grownBy w' (some b) ∧ (nextS t a).says e w' b t := by
  have HS := hide hs
  have hbl := lt_heap hs
  have hple := skipS_le t a ha
  have hnx : nextS t a = nextAt t (skipS t a) := rfl
  have HK := hide (skip_any b a t)
  go_enter Try.func26, Try.ntmps26
  go_wp2_with fail
  have hb0 : Below w.heap.size w (w.alloc (.cells #[.int .u8 0, .int .i64 0, .int .i64 0, .string ⟨#[]⟩] 69)) := (Below.refl _ _).alloc (Nat.le_refl _) _
  refine (HK.out _ (hs.later hb0) ha ht).mono ?_
  rintro _ w1 ⟨rfl, hg1, hsc1⟩
  dsimp only
  generalize skipS t a = p at hple hnx hsc1
  have hres : w1.heap[w.heap.size]? = some (.cells #[.int .u8 0, .int .i64 0, .int .i64 0, .string ⟨#[]⟩] 69 (0, 0)) := (hg1.block _ (by rw [size_alloc]; omega) (fun e => by injection e with e; omega)).trans (heap_alloc_new _ _)
  have HG1 := hide (grownBy_trans (grownBy_below hb0 (some b)) hg1)
  have HSC1 := hide hsc1
  have HRES := hide hres
  have HNX := hide hnx
  have c0 := hsc1.c0
  have c1 := hsc1.c1
  have cf := fun j => frozen_of_row w1 b j _ _ hsc1
  have hbl1 := lt_heap hsc1
  have hrl := lt_heap hres
  have r0 : w1.cell? ⟨w.heap.size, 0, none⟩ = some (.int .u8 0) := cell_of_row w1 _ 0 _ _ _ hres
  have r1 : w1.cell? ⟨w.heap.size, 1, none⟩ = some (.int .i64 0) := cell_of_row w1 _ 1 _ _ _ hres
  have r2 : w1.cell? ⟨w.heap.size, 2, none⟩ = some (.int .i64 0) := cell_of_row w1 _ 2 _ _ _ hres
  have r3 : w1.cell? ⟨w.heap.size, 3, none⟩ = some (.string ⟨#[]⟩) := cell_of_row w1 _ 3 _ _ _ hres
  have rf := fun j => frozen_of_row w1 w.heap.size j _ _ hres
  clear hs hg1 hsc1 hres hnx hb0 HK ha
  by_cases hlt : p < t.size
  · have e1 : ((p : Int) == (t.size : Int)) = false := by simp; omega
    obtain ⟨x, hx⟩ : ∃ x : Nat, x = (t[p]'hlt).toNat := ⟨_, rfl⟩
    have hx2 : ((t[p]'hlt).toNat : Int) = (x : Int) := by rw [hx]
    have hx256 : x < 256 := by rw [hx]; exact UInt8.toNat_lt _
    have hi := mark_index x hx256
    have hnx : nextS t a = if markB x then .tok x p 0 [] (p + 1) else if digB x then (match numS t p p 0 with | some (n, c) => .tok 48 p n [] c | none => .bad p) else if x = 34 then (match strS t (p + 1) [] with | some (l, c) => .tok 34 p 0 l c | none => .bad p) else .bad p := by
      rw [HNX.out, nextAt, dif_pos hlt, ← hx]
      rfl
    have HNX2 := hide hnx
    have HX := hide hx
    clear hx hnx HNX
    obtain ⟨ix, hix⟩ : ∃ ix, ix = Lib.indexByte [123, 125, 91, 93, 58, 44] ((x : Int).toNat.toUInt8) := ⟨_, rfl⟩
    rw [← hix] at hi
    have hcall : ∀ w, Calls Try.prog 41 #[.string ⟨#[123, 125, 91, 93, 58, 44]⟩, .int .u8 (x : Int)] w fun e w' => e = .returned (.int .i64 ix) ∧ w' = w := fun w => by
      have := Try.strings_IndexByte ⟨#[123, 125, 91, 93, 58, 44]⟩ (x : Int) w
      rw [hix]
      exact this
    have HC := hide hcall
    have HD : Hid (∀ w, Calls Try.prog 42 #[.int .u8 ((x : Nat) : Int)] w fun e w' => e = .returned (.bool (digB x)) ∧ w' = w) := fun w => isDigit_any x w
    clear hcall hix
    have HB1 : Hid (∀ (m : Nat) (v : Value), Below w.heap.size w1 (((w1.alloc (.cells #[.int .u8 0, .int .i64 ((p : Nat) : Int), .int .i64 0, .string ⟨#[]⟩] 69)).drewN m).setCell ⟨w1.heap.size, 0, none⟩ v)) := fun m v => (((Below.refl _ _).alloc (Nat.le_of_lt hrl) _).drewN _).setCell (p := ⟨w1.heap.size, 0, none⟩) (Nat.le_of_lt hrl) _
    have HT1 : Hid (∀ (m : Nat) (v : Value), (((w1.alloc (.cells #[.int .u8 0, .int .i64 ((p : Nat) : Int), .int .i64 0, .string ⟨#[]⟩] 69)).drewN m).setCell ⟨w1.heap.size, 0, none⟩ v).heap[w1.heap.size]? = some (.cells #[v, .int .i64 ((p : Nat) : Int), .int .i64 0, .string ⟨#[]⟩] 69 (0, 0))) := fun m v => row_store v (show ((w1.alloc (.cells #[.int .u8 0, .int .i64 ((p : Nat) : Int), .int .i64 0, .string ⟨#[]⟩] 69)).drewN m).heap[w1.heap.size]? = _ from heap_alloc_new _ _)
    have HR1 : Hid (∀ (m : Nat) (v : Value), (((w1.alloc (.cells #[.int .u8 0, .int .i64 ((p : Nat) : Int), .int .i64 0, .string ⟨#[]⟩] 69)).drewN m).setCell ⟨w1.heap.size, 0, none⟩ v).heap[w.heap.size]? = some (.cells #[.int .u8 0, .int .i64 0, .int .i64 0, .string ⟨#[]⟩] 69 (0, 0))) := fun m v => by
      rw [heap_setCell_other _ _ _ _ (by simp; omega)]
      exact (Below.heap_alloc w1 _ _ hrl).trans HRES.out
    cases hmk : markB x with
    | true =>
      rw [hmk] at hi
      have hsay : nextS t a = .tok x p 0 [] (p + 1) := by rw [HNX2.out, hmk]; rfl
      have HSAY := hide hsay
      clear hsay hmk
      go_wp2
      go_quiet (fail)
      go_wp2
      go_quiet (fail)
      go_wp2_with (go_at_call 41; refine (HC.out _).mono ?_; rintro _ w2 ⟨rfl, rfl⟩)
      rw [show ((p : Int) + 1) = ((p + 1 : Nat) : Int) by omega]
      refine ret_tok (k := x) (p := p) (n := 0) (l := []) rfl (grownBy_trans (grown_then HG1.out (HB1.out _ _)) (grownBy_set _ _ _ _)) ?_ (ScIs.set (((HB1.out _ _).block b hbl).trans HSC1.out) (p + 1)) hbl HSAY.out
      rw [heap_setCell_other _ _ _ _ (by simp; omega), heap_setCell_other _ _ _ _ (by simp; omega)]
      exact (Below.heap_alloc w1 _ _ hrl).trans HRES.out
    | false =>
      rw [hmk] at hi
      have HMK := hide hmk
      cases hdg : digB x with
      | true =>
        have HN := hide (scanNum_core b p 48 0 ⟨#[]⟩ t)
        have HD2 : Hid (∀ w, Calls Try.prog 42 #[.int .u8 ((x : Nat) : Int)] w fun e w' => e = .returned (.bool true) ∧ w' = w) := fun w => by
          have := HD.out w
          rwa [hdg] at this
        have hsay : nextS t a = (match numS t p p 0 with | some (n, c) => .tok 48 p n [] c | none => .bad p) := by rw [HNX2.out, hmk, hdg]; rfl
        have HSAY := hide hsay
        clear hsay hmk hdg HD
        go_wp2
        go_quiet (fail)
        go_wp2
        go_quiet (fail)
        go_wp2_with (first | (go_at_call 41; refine (HC.out _).mono ?_; rintro _ w2 ⟨rfl, rfl⟩) | (go_at_call 42; refine (HD2.out _).mono ?_; rintro _ w2 ⟨rfl, rfl⟩))
        refine (HN.out _ (((HB1.out _ _).block b hbl).trans HSC1.out) hple ht).mono ?_
        rintro e w2 ⟨hg2, hc2⟩
        have hsz2 := hg2.size
        have hss : ∀ m v, (((w1.alloc (.cells #[.int .u8 0, .int .i64 ((p : Nat) : Int), .int .i64 0, .string ⟨#[]⟩] 69)).drewN m).setCell ⟨w1.heap.size, 0, none⟩ v).heap.size = w1.heap.size + 1 := fun m v => by simp
        rw [hss] at hsz2
        have ht2 := (hg2.block w1.heap.size (by rw [hss]; omega) (fun e => by injection e with e; omega)).trans (HT1.out _ _)
        have hr2 := (hg2.block w.heap.size (by rw [hss]; omega) (fun e => by injection e with e; omega)).trans (HR1.out _ _)
        have HG2 := hide (grownBy_trans (grown_then HG1.out (HB1.out _ _)) hg2)
        rcases hc2 with ⟨n, c, hnum, rfl, hsc2⟩ | ⟨hnum, rfl⟩
        · dsimp only
          have hsay2 : nextS t a = .tok 48 p n [] c := by rw [HSAY.out, hnum]
          have HSAY2 := hide hsay2
          clear hsay2 hnum
          have HT2 := hide ht2
          have HR2 := hide hr2
          have HSC2 := hide hsc2
          have k0 : w2.cell? ⟨w1.heap.size, 0, none⟩ = some (.int .u8 48) := cell_of_row w2 _ 0 _ _ _ ht2
          have k1 : w2.cell? ⟨w1.heap.size, 1, none⟩ = some (.int .i64 ((p : Nat) : Int)) := cell_of_row w2 _ 1 _ _ _ ht2
          have k2 : w2.cell? ⟨w1.heap.size, 2, none⟩ = some (.int .i64 0) := cell_of_row w2 _ 2 _ _ _ ht2
          have k3 : w2.cell? ⟨w1.heap.size, 3, none⟩ = some (.string ⟨#[]⟩) := cell_of_row w2 _ 3 _ _ _ ht2
          have kf := fun j => frozen_of_row w2 w1.heap.size j _ _ ht2
          have s0 : w2.cell? ⟨w.heap.size, 0, none⟩ = some (.int .u8 0) := cell_of_row w2 _ 0 _ _ _ hr2
          have s1 : w2.cell? ⟨w.heap.size, 1, none⟩ = some (.int .i64 0) := cell_of_row w2 _ 1 _ _ _ hr2
          have s2 : w2.cell? ⟨w.heap.size, 2, none⟩ = some (.int .i64 0) := cell_of_row w2 _ 2 _ _ _ hr2
          have s3 : w2.cell? ⟨w.heap.size, 3, none⟩ = some (.string ⟨#[]⟩) := cell_of_row w2 _ 3 _ _ _ hr2
          have sf := fun j => frozen_of_row w2 w.heap.size j _ _ hr2
          have hne : ¬ w1.heap.size = w.heap.size := by omega
          clear ht2 hr2 hsc2 hg2 hss r0 r1 r2 r3 rf c0 c1 cf
          go_wp2
          have hX : Below w.heap.size w2 (w2.setCell ⟨w1.heap.size, 2, none⟩ (.int .i64 ((n : Nat) : Int))) := (Below.refl _ _).setCell (p := ⟨w1.heap.size, 2, none⟩) (Nat.le_of_lt hrl) _
          refine ret_tok (k := 48) (p := p) (n := n) (l := []) rfl (grown_then HG2.out hX) ?_ ((hX.block b hbl).trans HSC2.out) hbl HSAY2.out
          rw [heap_setCell_other _ _ _ _ (by simp; omega)]
          exact HR2.out
        · dsimp only [gaveUp]
          refine ⟨rfl, HG2.out, ?_⟩
          rw [HSAY.out, hnum]
          rfl
      | false =>
        have HD2 : Hid (∀ w, Calls Try.prog 42 #[.int .u8 ((x : Nat) : Int)] w fun e w' => e = .returned (.bool false) ∧ w' = w) := fun w => by
          have := HD.out w
          rwa [hdg] at this
        by_cases h34 : x = 34
        · have HN := hide (scanStr_core b p 34 p 0 ⟨#[]⟩ t)
          have hsay : nextS t a = (match strS t (p + 1) [] with | some (l, c) => .tok 34 p 0 l c | none => .bad p) := by rw [HNX2.out, hmk, hdg, if_pos h34]; rfl
          have HSAY := hide hsay
          subst h34
          clear hsay hmk hdg HD
          go_wp2
          go_quiet (fail)
          go_wp2
          go_quiet (fail)
          go_wp2_with (first | (go_at_call 41; refine (HC.out _).mono ?_; rintro _ w2 ⟨rfl, rfl⟩) | (go_at_call 42; refine (HD2.out _).mono ?_; rintro _ w2 ⟨rfl, rfl⟩))
          refine (HN.out _ (((HB1.out _ _).block b hbl).trans HSC1.out) hlt ht).mono ?_
          rintro e w2 ⟨hg2, hc2⟩
          have hsz2 := hg2.size
          have hss : ∀ m v, (((w1.alloc (.cells #[.int .u8 0, .int .i64 ((p : Nat) : Int), .int .i64 0, .string ⟨#[]⟩] 69)).drewN m).setCell ⟨w1.heap.size, 0, none⟩ v).heap.size = w1.heap.size + 1 := fun m v => by simp
          rw [hss] at hsz2
          have ht2 := (hg2.block w1.heap.size (by rw [hss]; omega) (fun e => by injection e with e; omega)).trans (HT1.out _ _)
          have hr2 := (hg2.block w.heap.size (by rw [hss]; omega) (fun e => by injection e with e; omega)).trans (HR1.out _ _)
          have HG2 := hide (grownBy_trans (grown_then HG1.out (HB1.out _ _)) hg2)
          rcases hc2 with ⟨l, c, hnum, rfl, hsc2⟩ | ⟨hnum, rfl⟩
          · dsimp only
            have hsay2 : nextS t a = .tok 34 p 0 l c := by rw [HSAY.out, hnum]
            have HSAY2 := hide hsay2
            clear hsay2 hnum
            have HT2 := hide ht2
            have HR2 := hide hr2
            have HSC2 := hide hsc2
            have k0 : w2.cell? ⟨w1.heap.size, 0, none⟩ = some (.int .u8 34) := cell_of_row w2 _ 0 _ _ _ ht2
            have k1 : w2.cell? ⟨w1.heap.size, 1, none⟩ = some (.int .i64 ((p : Nat) : Int)) := cell_of_row w2 _ 1 _ _ _ ht2
            have k2 : w2.cell? ⟨w1.heap.size, 2, none⟩ = some (.int .i64 0) := cell_of_row w2 _ 2 _ _ _ ht2
            have k3 : w2.cell? ⟨w1.heap.size, 3, none⟩ = some (.string ⟨#[]⟩) := cell_of_row w2 _ 3 _ _ _ ht2
            have kf := fun j => frozen_of_row w2 w1.heap.size j _ _ ht2
            have s0 : w2.cell? ⟨w.heap.size, 0, none⟩ = some (.int .u8 0) := cell_of_row w2 _ 0 _ _ _ hr2
            have s1 : w2.cell? ⟨w.heap.size, 1, none⟩ = some (.int .i64 0) := cell_of_row w2 _ 1 _ _ _ hr2
            have s2 : w2.cell? ⟨w.heap.size, 2, none⟩ = some (.int .i64 0) := cell_of_row w2 _ 2 _ _ _ hr2
            have s3 : w2.cell? ⟨w.heap.size, 3, none⟩ = some (.string ⟨#[]⟩) := cell_of_row w2 _ 3 _ _ _ hr2
            have sf := fun j => frozen_of_row w2 w.heap.size j _ _ hr2
            have hne : ¬ w1.heap.size = w.heap.size := by omega
            clear ht2 hr2 hsc2 hg2 hss r0 r1 r2 r3 rf c0 c1 cf
            go_wp2
            have hX : Below w.heap.size w2 (w2.setCell ⟨w1.heap.size, 3, none⟩ (.string ⟨l.toArray⟩)) := (Below.refl _ _).setCell (p := ⟨w1.heap.size, 3, none⟩) (Nat.le_of_lt hrl) _
            refine ret_tok (k := 34) (p := p) (n := 0) (l := l) rfl (grown_then HG2.out hX) ?_ ((hX.block b hbl).trans HSC2.out) hbl HSAY2.out
            rw [heap_setCell_other _ _ _ _ (by simp; omega)]
            exact HR2.out
          · dsimp only [gaveUp]
            refine ⟨rfl, HG2.out, ?_⟩
            rw [HSAY.out, hnum]
            rfl
        · have hsay : nextS t a = .bad p := by rw [HNX2.out, hmk, hdg, if_neg h34]; rfl
          have HSAY := hide hsay
          have e34 : ((x : Int) == 34) = false := by simp; omega
          clear hsay hmk hdg HD h34
          go_wp2
          go_quiet (fail)
          go_wp2
          go_quiet (fail)
          go_wp2_with (first | (go_at_call 41; refine (HC.out _).mono ?_; rintro _ w2 ⟨rfl, rfl⟩) | (go_at_call 42; refine (HD2.out _).mono ?_; rintro _ w2 ⟨rfl, rfl⟩) | (go_at_call 30; refine (must_bad 0 p 0 ⟨#[]⟩ _).mono ?_; rintro _ w3 ⟨rfl, hm⟩; dsimp only [gaveUp]))
          refine ⟨rfl, ?_, ?_⟩
          · have hB2 : Below w.heap.size w1 w3 := (((Below.refl _ _).alloc (Nat.le_of_lt hrl) _).drewN _).trans (hm.mono (by simp; omega))
            exact grown_then HG1.out hB2
          · rw [HSAY.out]
            rfl
  · have hpe : p = t.size := by omega
    subst hpe
    clear hlt hple
    have hsay : nextS t a = .tok 0 t.size 0 [] t.size := by rw [HNX.out, nextAt, dif_neg (by omega)]
    have HSAY := hide hsay
    clear hsay
    go_wp2
    go_quiet (fail)
    go_wp2
    have hX : Below w.heap.size w1 (((w1.alloc (.cells #[.int .u8 0, .int .i64 ((t.size : Nat) : Int), .int .i64 0, .string ⟨#[]⟩] 69)).drewN nq).setCell ⟨w1.heap.size, 0, none⟩ (.int .u8 0)) := (((Below.refl _ _).alloc (Nat.le_of_lt hrl) _).drewN nq).setCell (Nat.le_of_lt hrl) _
    refine ret_tok (k := 0) (p := t.size) (n := 0) (l := []) rfl (grown_then HG1.out hX) ?_ ((hX.block b hbl).trans HSC1.out) hbl HSAY.out
    rw [heap_setCell_other _ _ _ _ (by simp; omega)]
    exact (Below.heap_alloc w1 _ _ hrl).trans HRES.out
end Go.Proofs.Ytpgamoielkpakaa
