/-
  PROVED HERE: what begin of a store does: an empty store is laid on a disk.
-/
import Derived.Test.YteicpbcddjjceaaGreatDoorStRemove
import Derived.Test.YteicpbcddjjceaaGreatDoorRowLib
import Derived.Test.YteicpbcddjjceaaGreatDoorDigLib
import Derived.Test.YteicpbcddjjceaaGreatDoorDkPure
import Derived.StillTailTactics
namespace Go.Proofs.YteicpbcddjjceaaGreatDoor
open Go.RowKit
/-- The index of no tag; the layout's bytes. -/
def emptyT : ByteArray := ⟨(prTo [] 0 ++ [93, 125]).toArray⟩
def layoutT : ByteArray := ⟨#[123, 34, 118, 101, 114, 115, 105, 111, 110, 34, 58, 49, 125]⟩
theorem emptyT_eq : emptyT = ⟨#[123, 34, 118, 101, 114, 115, 105, 111, 110, 34, 58, 49, 44, 34, 116, 97, 103, 115, 34, 58, 91, 93, 125]⟩ := by rfl
def beginFl : List (ByteArray × ByteArray) := [(journalP, ⟨#[]⟩), (indexP, emptyT), (layoutP, layoutT)]
/-- What begin leaves. -/
def BgR (D : DS) (k : Int) (D' : DS) : Prop :=
  (D.R.room < 36 ∧ k ≠ 0 ∧ D' = D) ∨ (36 ≤ D.R.room ∧ ∃ k1 m D1, Ran D (rmS (fun _ => true) D.R.now) k1 m D1 ∧ ((k1 ≠ 0 ∧ k = k1 ∧ D' = D1) ∨ (k1 = 0 ∧ WrR D1 beginFl k D')))
def beginRow : Array Value := #[.string ⟨#[106, 111, 117, 114, 110, 97, 108]⟩, .string ⟨#[]⟩, .string ⟨#[105, 110, 100, 101, 120]⟩, .string emptyT, .string ⟨#[108, 97, 121, 111, 117, 116]⟩, .string ⟨#[123, 34, 118, 101, 114, 115, 105, 111, 110, 34, 58, 49, 125]⟩]
theorem beginFl_at (w : World) : FlAt (w.alloc (.cells beginRow 203)) (.slice (some ⟨w.heap.size, 0, none⟩) 3 3) beginFl := by
  refine ⟨_, 3, rfl, fun i hi => ⟨w.heap.size, beginRow, (0, 0), rfl, heap_alloc_new _ _, ?_, ?_⟩⟩
  · rw [cell_of_row _ _ (i * 2) _ _ _ (heap_alloc_new _ _)]
    match i, hi with
    | 0, _ => rfl
    | 1, _ => rfl
    | 2, _ => rfl
    | n + 3, h => exact absurd h (by simp [beginFl])
  · rw [cell_of_row _ _ (i * 2 + 1) _ _ _ (heap_alloc_new _ _)]
    match i, hi with
    | 0, _ => rfl
    | 1, _ => rfl
    | 2, _ => rfl
    | n + 3, h => exact absurd h (by simp [beginFl])
theorem rmS_len (such : ByteArray → Bool) (now : List DE) : (rmS such now).length ≤ now.length := by
  simp only [rmS, List.length_map]
  exact Nat.le_trans (List.length_filter_le _ _) (by simp)
theorem szs_rm : ∀ l : List ByteArray, szs (l.map sRm) = 0
  | [] => rfl
  | x :: l => by
    have := szs_rm l
    unfold szs at this ⊢
    simp only [List.map_cons, List.sum_cons]
    exact Nat.add_eq_zero_iff.2 ⟨rfl, this⟩
theorem rmS_szs (such : ByteArray → Bool) (now : List DE) : szs (rmS such now) = 0 := szs_rm _
set_option maxHeartbeats 2000000 in
set_option maxRecDepth 100000 in
theorem begin_any (sb : Nat) (s : PSt) (w : World) {L C B : Nat} (h : On w sb s) (hf : DFit s.ds L C B) (hb : Bud (L + s.R.now.length + 20) (C + s.R.now.length + 20) (B + 36)) (hps : ∀ e ∈ s.R.now, e.path.size ≤ 9223372036854775807) :
    Calls Tryz.prog 74 #[.pointer (some ⟨sb, 0, none⟩)] w fun e w' => ∃ ev k s', e = .returned ev ∧ ErrV w' ev k ∧ PGo s s' w w' ∧ BgR s.ds k s'.ds := by
  have HPR := hide (print_core (.slice none 0 0) [] w 0 rfl (by decide) 0 (World.ownsRow_nil _ _ _ _) (fun k hk => absurd hk (by omega)) h.gl.tab)
  have H := hide h
  have HF := hide hf
  have HB := hide hb
  have HPS := hide hps
  clear h hf hb hps
  go_enter Tryz.func74, Tryz.ntmps74
  go_wp2_with fail
  refine (HPR.out).mono ?_
  rintro _ w1 ⟨rfl, hb1⟩
  dsimp only
  have hsz : (⟨(prTo [] 0 ++ [93, 125]).toArray⟩ : ByteArray) = emptyT := rfl
  rw [hsz]
  have ho1 := H.out.later hb1
  obtain ⟨cv, tv, hbl⟩ := ho1.sb
  have c0 := cell_of_row _ _ 0 _ _ _ hbl
  have HFT := hide (dkFit s 36 w1 ho1.inn)
  have hes : emptyT.size = 23 := rfl
  have HO1 := hide ho1
  have HB1 := hide hb1
  clear ho1 hbl hb1 HPR hsz
  go_wp2_with fail
  refine (HFT.out).mono ?_
  rintro _ w2 ⟨v, k, rfl, hev, hkr, hg2⟩
  dsimp only
  have HG2 := hide ((PGo.refl H.out.inn HB1.out).trans hg2)
  have ho2 := HO1.out.go hg2
  have HO2 := hide ho2
  obtain ⟨cv2, tv2, hbl2⟩ := ho2.sb
  have c2 := cell_of_row _ _ 0 _ _ _ hbl2
  clear hg2 HFT ho2 hbl2 c0 HO1
  rcases hev with ⟨rfl, rfl⟩ | ⟨hk0, sv, nm, rfl, hsv⟩
  · have hroom := hkr.1 rfl
    have HRM := hide (removeAll_any sb s 126 (fun _ => true) w2 HO2.out HF.out (HB.out.mono (by omega) (by omega) (by omega)) (enters_of Tryz.func126 (by kernel_rfl) rfl) HPS.out (fun p W => (begin1_any p W).mono (by rintro _ _ ⟨rfl, rfl⟩; exact ⟨rfl, Below.refl _ _⟩)))
    clear hkr
    go_wp2_with fail
    refine (HRM.out).mono ?_
    rintro _ w3 ⟨ev, k1, m, s1, rfl, hev, hg3, hr⟩
    dsimp only
    have hgs := HG2.out.trans hg3
    have HGS := hide hgs
    have ho3 := HO2.out.go hg3
    have HO3 := hide ho3
    have HR := hide hr
    clear hgs hg3 ho3 hr HRM
    rcases hev with ⟨rfl, rfl⟩ | ⟨hk0, sv, nm, rfl, hsv⟩
    · have hb4 : Below w3.heap.size w3 (w3.alloc (.cells beginRow 203)) := (Below.refl _ _).alloc (Nat.le_refl _) _
      have hfit : DFit s1.ds (L + s.R.now.length) (C + s.R.now.length) B := (HF.out.ran HR.out).mono (by have := rmS_len (fun _ => true) s.R.now; exact Nat.add_le_add_left this _) (by have := rmS_len (fun _ => true) s.R.now; exact Nat.add_le_add_left this _) (by rw [rmS_szs]; exact Nat.le_refl _)
      have HW := hide (write_any sb s1 (.slice (some ⟨w3.heap.size, 0, none⟩) 3 3) beginFl _ (HO3.out.later hb4) (beginFl_at w3) hfit (by
        rw [show (wrS beginFl).length = 10 from rfl, show szs (wrS beginFl) = 36 from rfl, show beginFl.length = 3 from rfl]
        exact HB.out.mono (by omega) (by omega) (Nat.le_refl _)) (by decide) (by decide) (by decide))
      have HB4 := hide hb4
      clear hb4 hfit
      go_wp2_with fail
      refine (HW.out).mono ?_
      rintro _ w5 ⟨ev, k, s2, rfl, hev, hg5, hwr⟩
      dsimp only
      have HEV := hide hev
      have HG5 := hide hg5
      have HWR := hide hwr
      clear hev hg5 hwr
      go_wp2_with fail
      go_ret
      exact ⟨_, k, s2, rfl, HEV.out, HGS.out.trans ((PGo.refl HGS.out.inn HB4.out).trans HG5.out), .inr ⟨hroom, 0, m, s1.ds, HR.out, .inr ⟨rfl, HWR.out⟩⟩⟩
    · have HSV := hide hsv
      clear hsv
      go_wp2_with fail
      go_ret
      exact ⟨_, k1, s1, rfl, .inr ⟨hk0, sv, nm, rfl, HSV.out⟩, HGS.out, .inr ⟨hroom, k1, m, s1.ds, HR.out, .inl ⟨hk0, rfl, rfl⟩⟩⟩
  · have HSV := hide hsv
    have HK := hide hkr
    clear hsv hkr
    go_wp2_with fail
    go_ret
    exact ⟨_, k, s, rfl, .inr ⟨hk0, sv, nm, rfl, HSV.out⟩, HG2.out, .inl ⟨by have := HK.out; by_cases h : 36 ≤ s.R.room; exact absurd (this.2 h) hk0; exact Int.lt_of_not_ge h, hk0, rfl⟩⟩
end Go.Proofs.YteicpbcddjjceaaGreatDoor

/-
  PROVED HERE: the index's reader by places: its next token.
-/
namespace Go.Proofs.YteicpbcddjjceaaGreatDoor
/- digits, blanks, marks -/
def spB (c : Nat) : Bool := decide (c = 9) || decide (c = 10) || decide (c = 13) || decide (c = 32)
def markB (c : Nat) : Bool := decide (c = 123) || decide (c = 125) || decide (c = 91) || decide (c = 93) || decide (c = 58) || decide (c = 44)
def byteS (t : ByteArray) (a : Nat) : Option Nat :=
  if h : a < t.size then (if 32 ≤ (t[a]).toNat ∧ (t[a]).toNat ≤ 126 then some (t[a]).toNat else none) else none
theorem byteS_lt {t : ByteArray} {a x : Nat} (h : byteS t a = some x) : a < t.size := by
  unfold byteS at h; split at h
  · assumption
  · cases h
def skipS (t : ByteArray) (a : Nat) : Nat :=
  if h : a < t.size then (if spB (t[a]).toNat then skipS t (a + 1) else a) else a
termination_by t.size - a
def strS (t : ByteArray) (a : Nat) (acc : List UInt8) : Option (List UInt8 × Nat) :=
  match _h : byteS t a with
  | none => none
  | some x => if x = 34 then some (acc, a + 1) else if x = 92 then (match byteS t (a + 1) with
    | none => none
    | some y => if y = 34 ∨ y = 92 then strS t (a + 2) (acc ++ [UInt8.ofNat y]) else none) else strS t (a + 1) (acc ++ [UInt8.ofNat x])
termination_by t.size - a
decreasing_by
  · have := byteS_lt _h; omega
  · have := byteS_lt _h; omega
def numS (t : ByteArray) (p a n : Nat) : Option (Nat × Nat) :=
  if h : a < t.size then (if digB (t[a]).toNat then (if (p < a ∧ n = 0) ∨ ¬ a < p + 9 then none else numS t p (a + 1) (10 * n + ((t[a]).toNat - 48))) else some (n, a)) else some (n, a)
termination_by t.size - a
def nextAt (t : ByteArray) (p : Nat) : NG Nat :=
  if h : p < t.size then
    (if markB (t[p]).toNat then .tok (t[p]).toNat p 0 [] (p + 1)
    else if digB (t[p]).toNat then (match numS t p p 0 with | some (n, c) => .tok 48 p n [] c | none => .bad p)
    else if (t[p]).toNat = 34 then (match strS t (p + 1) [] with | some (l, c) => .tok 34 p 0 l c | none => .bad p)
    else .bad p)
  else .tok 0 p 0 [] p
def nextS (t : ByteArray) (a : Nat) : NG Nat := nextAt t (skipS t a)
end Go.Proofs.YteicpbcddjjceaaGreatDoor

/-
  PROVED HERE: what the program's small functions of the index's scanner answer: must, skipSpaces: or that they give up, with which place.
-/
namespace Go.Proofs.YteicpbcddjjceaaGreatDoor
open Go.RowKit
/-- A token by value. -/
def tokV (kind : Nat) (place : Nat) (num : Int) (txt : ByteArray) : Value := .agg #[.int .u8 ((kind : Nat) : Int), .int .i64 ((place : Nat) : Int), .int .i64 num, .string txt]
/-- The reader gives up at a place. -/
def gaveUp (p : Nat) : Ending := .panicked [{ v := .iface 220 (.int .i64 ((p : Nat) : Int)), recovered := false }]
set_option maxRecDepth 100000 in
theorem must_ok (kind place : Nat) (num : Int) (txt : ByteArray) (w : World) : Calls Tryz.prog 106 #[tokV kind place num txt, .bool true] w fun e w' => e = .returned (.tuple #[]) ∧ Below w.heap.size w w' := by
  unfold tokV
  go_enter Tryz.func106, Tryz.ntmps106
  go_wp2
  go_end0
  exact ⟨rfl, (Below.refl _ _).alloc (Nat.le_refl _) _⟩
set_option maxRecDepth 100000 in
theorem must_bad (kind place : Nat) (num : Int) (txt : ByteArray) (w : World) : Calls Tryz.prog 106 #[tokV kind place num txt, .bool false] w fun e w' => e = gaveUp place ∧ Below w.heap.size w w' := by
  unfold tokV
  go_enter Tryz.func106, Tryz.ntmps106
  go_wp2
  exact ⟨rfl, rfl, (Below.refl _ _).alloc (Nat.le_refl _) _⟩
/-- The scanner lies in block b: the text, and how far it is gone through. -/
def ScIs (w : World) (b : Nat) (t : ByteArray) (a : Nat) : Prop := w.heap[b]? = some (.cells #[.string t, .int .i64 ((a : Nat) : Int)] 182 (0, 0))
theorem ScIs.c0 {w : World} {b a : Nat} {t : ByteArray} (h : ScIs w b t a) : w.cell? ⟨b, 0, none⟩ = some (.string t) := cell_of_row w b 0 _ _ _ h
theorem ScIs.c1 {w : World} {b a : Nat} {t : ByteArray} (h : ScIs w b t a) : w.cell? ⟨b, 1, none⟩ = some (.int .i64 ((a : Nat) : Int)) := cell_of_row w b 1 _ _ _ h
theorem ScIs.set {w : World} {b a : Nat} {t : ByteArray} (h : ScIs w b t a) (a' : Nat) : ScIs (w.setCell ⟨b, 1, none⟩ (.int .i64 ((a' : Nat) : Int))) b t a' := by
  unfold ScIs
  rw [heap_setCell_same w b 1 _ 182 _ h]
  rfl
def atOf (w : World) (b : Nat) : Nat := match w.cell? ⟨b, 1, none⟩ with | some (.int _ n) => n.toNat | _ => 0
theorem ScIs.atOf {w : World} {b a : Nat} {t : ByteArray} (h : ScIs w b t a) : atOf w b = a := by unfold Go.Proofs.YteicpbcddjjceaaGreatDoor.atOf; rw [h.c1]; simp
theorem sp_index (x : Nat) (hx : x < 256) : decide (0 ≤ Lib.indexByte [9, 10, 13, 32] ((x : Int).toNat.toUInt8)) = spB x := by
  have h : ∀ n, n < 256 → decide (0 ≤ Lib.indexByte [9, 10, 13, 32] (Nat.toUInt8 n)) = spB n := by decide +kernel
  rw [show ((x : Int).toNat) = x by omega]
  exact h x hx
set_option maxHeartbeats 1000000 in
set_option maxRecDepth 100000 in
theorem skip_any (b a : Nat) (t : ByteArray) (w : World) (hs : ScIs w b t a) (ha : a ≤ t.size) (ht : t.size ≤ 2000) :
    Calls Tryz.prog 159 #[.pointer (some ⟨b, 0, none⟩)] w fun e w' => e = .returned (.tuple #[]) ∧ w.grownBy w' (some b) ∧ ScIs w' b t (skipS t a) := by
  have HS := hide hs
  go_enter Tryz.func159, Tryz.ntmps159
  go_wp2
  go_loopw [] (fun wr => ∃ k : Nat, k ≤ t.size ∧ skipS t k = skipS t a ∧ ScIs wr b t k ∧ w.grownBy wr (some b))
    (fun wr => t.size - atOf wr b)
  case atStart => exact ⟨a, ha, rfl, hs, grownBy_refl _ _⟩
  case round =>
    clear hs
    obtain ⟨k, hk, he, hr, hg⟩ := hrel
    have HE := hide he
    have HG := hide hg
    have HR := hide hr
    have c0 := hr.c0
    have c1 := hr.c1
    have hf := fun j => frozen_of_row wr b j _ _ hr
    have hat := hr.atOf
    clear hr he hg
    by_cases hlt : k < t.size
    · have e1 : decide (k < t.size) = true := by simp [hlt]
      obtain ⟨x, hx⟩ : ∃ x : Nat, x = (t[k]'hlt).toNat := ⟨_, rfl⟩
      have hx2 : ((t[k]'hlt).toNat : Int) = (x : Int) := by rw [hx]
      have hi := sp_index x (by rw [hx]; exact UInt8.toNat_lt _)
      have HX := hide hx
      clear hx
      obtain ⟨ix, hix⟩ : ∃ ix, ix = Lib.indexByte [9, 10, 13, 32] ((x : Int).toNat.toUInt8) := ⟨_, rfl⟩
      rw [← hix] at hi
      have hcall : ∀ w, Calls Tryz.prog 65 #[.string ⟨#[9, 10, 13, 32]⟩, .int .u8 (x : Int)] w fun e w' => e = .returned (.int .i64 ix) ∧ w' = w := fun w => by
        have := Tryz.strings_IndexByte ⟨#[9, 10, 13, 32]⟩ (x : Int) w
        rw [hix]
        exact this
      have HC := hide hcall
      clear hcall hix
      cases hsp : spB x with
      | true =>
        have HSP := hide hsp
        rw [hsp] at hi
        go_wp2
        go_quiet ((go_at_call 65; exact Calls.quiet_of_same (HC.out _)))
        go_wp2
        go_roundw
        case rel =>
          rw [show ((k : Int) + 1) = ((k + 1 : Nat) : Int) by omega]
          refine ⟨k + 1, by omega, ?_, ScIs.set (w := wr.drewN nq) HR.out (k + 1), grownBy_trans HG.out (grownBy_trans (grownBy_below ((Below.refl _ _).drewN nq) _) (grownBy_set _ _ _ _))⟩
          rw [← HE.out]
          conv => rhs; rw [skipS, dif_pos hlt, ← HX.out, HSP.out]
          rfl
        case measure =>
          rw [show ((k : Int) + 1) = ((k + 1 : Nat) : Int) by omega, (ScIs.set (w := wr.drewN nq) HR.out (k + 1)).atOf, hat]
          omega
      | false =>
        have HSP := hide hsp
        rw [hsp] at hi
        go_wp2
        go_quiet ((go_at_call 65; exact Calls.quiet_of_same (HC.out _)))
        go_wp2
        go_end0
        refine ⟨rfl, grownBy_trans HG.out (grownBy_below ((Below.refl _ _).drewN nq) _), ?_⟩
        have e : skipS t a = k := by
          rw [← HE.out, skipS, dif_pos hlt, ← HX.out, HSP.out]
          rfl
        rw [e]
        exact HR.out
    · have e1 : decide (k < t.size) = false := by simp [hlt]
      go_wp2
      go_quiet (fail)
      go_wp2
      go_end0
      refine ⟨rfl, grownBy_trans HG.out (grownBy_below ((Below.refl _ _).drewN nq) _), ?_⟩
      have e : skipS t a = k := by rw [← HE.out, skipS, dif_neg hlt]
      rw [e]
      exact HR.out
end Go.Proofs.YteicpbcddjjceaaGreatDoor

/-
  PROVED HERE: what the program's function byteOf of the index's scanner answers: the next byte of a string, or that it gives up at the string's place.
-/
namespace Go.Proofs.YteicpbcddjjceaaGreatDoor
open Go.RowKit
/-- The still head of a region, behind a name that nothing lays open. -/
structure StillI (P : Program) (ops : Array Oper) (w : World) (Q : Act → Prop) (l : List Oper) (a : Act) : Prop where
  out : wpStill P ops w Q l a
theorem stillI_step {P : Program} {ops : Array Oper} {w : World} {Q : Act → Prop} {a : Act} {o : Oper} {rest : List Oper}
    (h : ∀ K : Act → Prop, (∀ a, StillI P ops w Q rest a → K a) → if Region.wanted o (yielded ops a.tmps) then o.still P a w K else K (a.put o.dst undef)) : StillI P ops w Q (o :: rest) a :=
  ⟨wpStill_step fun K hK => h K fun a' h' => hK a' h'.out⟩
theorem stillI_nil {P : Program} {ops : Array Oper} {w : World} {Q : Act → Prop} {a : Act} (h : Q a) : StillI P ops w Q [] a := ⟨wpStill_nil h⟩
theorem region_stillI {P : Program} {id : Nat} {Q : Exit → Act → World → Prop} {a : Act} {w : World} {l : List Oper} (n : Nat) (hm : P.follows .mixedOrders = true) (hB : Region.lexTailB .any l.toArray n = true)
    (h : StillI P l.toArray w.drew (fun a' => wpList P l.toArray Q (l.drop n) a' w.drew) (l.take n) a) : (Code.region id l.toArray true).wp P Q a w :=
  wp_region_still_tail n hm hB h.out
theorem mixed : Tryz.prog.follows .mixedOrders = true := by kernel_rfl
theorem ScIs.later {w w' : World} {b a : Nat} {t : ByteArray} (h : ScIs w b t a) (hb : Below w.heap.size w w') : ScIs w' b t a := (hb.block b (lt_heap h)).trans h
theorem Tryz.zero87 : ∀ w : World, (zeroValue 185).run Tryz.prog w = .ok (.agg #[.int .u8 0, .int .i64 0, .int .i64 0, .string ⟨#[]⟩]) w := Tryz.zeroValue185
set_option maxHeartbeats 1000000 in
set_option maxRecDepth 100000 in
theorem byteOf_ok (b a kind place : Nat) (num : Int) (txt t : ByteArray) (w : World) (x : Nat) (hs : ScIs w b t a) (ha : a < t.size) (ht : t.size ≤ 2000) (hx : x = (t[a]'ha).toNat) (h1 : 32 ≤ x) (h2 : x ≤ 126) :
    Calls Tryz.prog 200 #[.pointer (some ⟨b, 0, none⟩), tokV kind place num txt] w fun e w' => e = .returned (.int .u8 ((x : Nat) : Int)) ∧ w.grownBy w' (some b) ∧ ScIs w' b t (a + 1) := by
  have hx2 : ((t[a]'ha).toNat : Int) = (x : Int) := by rw [hx]
  have HS := hide hs
  have c0 := hs.c0
  have c1 := hs.c1
  have hbl := lt_heap hs
  clear hx hs
  have e1 : decide (a < t.size) = true := by simp [ha]
  unfold tokV
  go_enter Tryz.func200, Tryz.ntmps200
  go_wp2_with fail
  go_region_held3 (fun w' => w'.cell? ⟨b, 0, none⟩ = some (.string t) ∧ w'.cell? ⟨b, 1, none⟩ = some (.int .i64 ((a : Nat) : Int)) ∧ w'.cell? ⟨w.heap.size, 0, none⟩ = some (.int .u8 ((kind : Nat) : Int)) ∧ w'.cell? ⟨w.heap.size, 1, none⟩ = some (.int .i64 ((place : Nat) : Int)) ∧ w'.cell? ⟨w.heap.size, 2, none⟩ = some (.int .i64 num) ∧ w'.cell? ⟨w.heap.size, 3, none⟩ = some (.string txt))
    (first | go_keep | (refine ⟨?_, ?_, ?_, ?_, ?_, ?_⟩ <;> (refine cell_later hm ?_; go_keep)))
    ((go_at_call 106; refine (must_ok kind place num txt _).mono ?_; rintro _ w1 ⟨rfl, hm⟩))
  have d0 : w1.cell? ⟨b, 0, none⟩ = some (.string t) := cell_later hm (by go_keep)
  have d1 : w1.cell? ⟨b, 1, none⟩ = some (.int .i64 ((a : Nat) : Int)) := cell_later hm (by go_keep)
  have f0 : w1.cell? ⟨w.heap.size, 0, none⟩ = some (.int .u8 ((kind : Nat) : Int)) := cell_later hm (by go_keep)
  have f1 : w1.cell? ⟨w.heap.size, 1, none⟩ = some (.int .i64 ((place : Nat) : Int)) := cell_later hm (by go_keep)
  have f2 : w1.cell? ⟨w.heap.size, 2, none⟩ = some (.int .i64 num) := cell_later hm (by go_keep)
  have f3 : w1.cell? ⟨w.heap.size, 3, none⟩ = some (.string txt) := cell_later hm (by go_keep)
  have hb1 : Below w.heap.size w w1 := (((Below.refl _ _).alloc (Nat.le_refl _) _).drew).trans (hm.mono (by simp))
  have HS1 := hide (HS.out.later hb1)
  have hs1 := hb1.size
  clear hm c0 c1
  have g1 : decide ((32 : Int) ≤ (x : Int)) = true := by simp; omega
  have g2 : decide ((x : Int) ≤ 126) = true := by simp; omega
  go_wp2
  go_quiet (fail)
  go_wp2_with (go_at_call 106; refine (must_ok kind place num txt _).mono ?_; rintro _ w2 ⟨rfl, hm2⟩; have HS2 : Hid (ScIs w2 b t a) := ScIs.later (w := w1.drewN nq) HS1.out hm2; have p1 := HS2.out.c1; have pf := fun j => frozen_of_row w2 b j _ _ HS2.out)
  go_ret
  rw [show ((a : Int) + 1) = ((a + 1 : Nat) : Int) by omega]
  refine ⟨rfl, ?_, HS2.out.set (a + 1)⟩
  exact grownBy_trans (grownBy_below (hb1.trans ((Below.drewN (Below.refl _ _) nq).trans (hm2.mono (Nat.le_refl _)) |>.mono hs1)) _) (grownBy_set _ _ _ _)

set_option maxHeartbeats 1000000 in
set_option maxRecDepth 100000 in
theorem byteOf_end (b a kind place : Nat) (num : Int) (txt t : ByteArray) (w : World) (hs : ScIs w b t a) (ha : ¬ a < t.size) :
    Calls Tryz.prog 200 #[.pointer (some ⟨b, 0, none⟩), tokV kind place num txt] w fun e w' => e = gaveUp place ∧ w.grownBy w' (some b) := by
  have HS := hide hs
  have c0 := hs.c0
  have c1 := hs.c1
  have hbl := lt_heap hs
  clear hs
  have e1 : decide (a < t.size) = false := by simp [ha]
  unfold tokV
  go_enter Tryz.func200, Tryz.ntmps200
  go_wp2_with fail
  refine wp_region_still_tail 11 mixed (by kernel_rfl) ?_
  change wpStill Tryz.prog _ (w.alloc (.cells #[.int .u8 ((kind : Nat) : Int), .int .i64 ((place : Nat) : Int), .int .i64 num, .string txt] 185)).drew (fun a' => wpList Tryz.prog _ _ _ a' (w.alloc (.cells #[.int .u8 ((kind : Nat) : Int), .int .i64 ((place : Nat) : Int), .int .i64 num, .string txt] 185)).drew) _ _
  simp only [List.take_succ_cons, List.take_zero, List.drop_succ_cons, List.drop_zero]
  iterate 11 still_step
  refine wpStill_nil ?_
  go_wp2_with (go_at_call 106; refine (must_bad kind place num txt _).mono ?_; rintro _ w1 ⟨rfl, hm⟩; dsimp only [gaveUp])
  exact ⟨rfl, rfl, grownBy_below ((((Below.refl _ _).alloc (Nat.le_refl _) _).drew).trans (hm.mono (by simp))) _⟩

set_option maxHeartbeats 1000000 in
set_option maxRecDepth 100000 in
theorem byteOf_odd (b a kind place : Nat) (num : Int) (txt t : ByteArray) (w : World) (x : Nat) (hs : ScIs w b t a) (ha : a < t.size) (hx : x = (t[a]'ha).toNat) (h12 : ¬ (32 ≤ x ∧ x ≤ 126)) :
    Calls Tryz.prog 200 #[.pointer (some ⟨b, 0, none⟩), tokV kind place num txt] w fun e w' => e = gaveUp place ∧ w.grownBy w' (some b) := by
  have hx2 : ((t[a]'ha).toNat : Int) = (x : Int) := by rw [hx]
  have HS := hide hs
  have c0 := hs.c0
  have c1 := hs.c1
  have hbl := lt_heap hs
  clear hx hs
  have e1 : decide (a < t.size) = true := by simp [ha]
  unfold tokV
  go_enter Tryz.func200, Tryz.ntmps200
  go_wp2_with fail
  go_region_held3 (fun w' => w'.cell? ⟨b, 0, none⟩ = some (.string t) ∧ w'.cell? ⟨b, 1, none⟩ = some (.int .i64 ((a : Nat) : Int)) ∧ w'.cell? ⟨w.heap.size, 0, none⟩ = some (.int .u8 ((kind : Nat) : Int)) ∧ w'.cell? ⟨w.heap.size, 1, none⟩ = some (.int .i64 ((place : Nat) : Int)) ∧ w'.cell? ⟨w.heap.size, 2, none⟩ = some (.int .i64 num) ∧ w'.cell? ⟨w.heap.size, 3, none⟩ = some (.string txt))
    (first | go_keep | (refine ⟨?_, ?_, ?_, ?_, ?_, ?_⟩ <;> (refine cell_later hm ?_; go_keep)))
    ((go_at_call 106; refine (must_ok kind place num txt _).mono ?_; rintro _ w1 ⟨rfl, hm⟩))
  have d0 : w1.cell? ⟨b, 0, none⟩ = some (.string t) := cell_later hm (by go_keep)
  have d1 : w1.cell? ⟨b, 1, none⟩ = some (.int .i64 ((a : Nat) : Int)) := cell_later hm (by go_keep)
  have f0 : w1.cell? ⟨w.heap.size, 0, none⟩ = some (.int .u8 ((kind : Nat) : Int)) := cell_later hm (by go_keep)
  have f1 : w1.cell? ⟨w.heap.size, 1, none⟩ = some (.int .i64 ((place : Nat) : Int)) := cell_later hm (by go_keep)
  have f2 : w1.cell? ⟨w.heap.size, 2, none⟩ = some (.int .i64 num) := cell_later hm (by go_keep)
  have f3 : w1.cell? ⟨w.heap.size, 3, none⟩ = some (.string txt) := cell_later hm (by go_keep)
  have hb1 : Below w.heap.size w w1 := (((Below.refl _ _).alloc (Nat.le_refl _) _).drew).trans (hm.mono (by simp))
  have hs1 := hb1.size
  clear hm c0 c1
  have hcase : (decide ((32 : Int) ≤ (x : Int)) = false) ∨ (decide ((32 : Int) ≤ (x : Int)) = true ∧ decide ((x : Int) ≤ 126) = false) := by
    by_cases g : 32 ≤ x
    · right; exact ⟨by simp; omega, by simp; omega⟩
    · left; simp; omega
  rcases hcase with g1 | ⟨g1, g2⟩
  all_goals
    go_wp2
    go_quiet (fail)
    go_wp2_with (go_at_call 106; refine (must_bad kind place num txt _).mono ?_; rintro _ w2 ⟨rfl, hm2⟩; dsimp only [gaveUp])
    exact ⟨rfl, rfl, grownBy_below (hb1.trans ((Below.drewN (Below.refl _ _) nq).trans (hm2.mono (Nat.le_refl _)) |>.mono hs1)) _⟩
theorem byteS_256 {t : ByteArray} {a x : Nat} (h : byteS t a = some x) : x < 256 := by
  unfold byteS at h
  split at h
  · split at h
    · injection h with h; subst h; exact UInt8.toNat_lt _
    · cases h
  · cases h
theorem byteOf_any (b a kind place : Nat) (num : Int) (txt t : ByteArray) (w : World) (hs : ScIs w b t a) (ht : t.size ≤ 2000) :
    Calls Tryz.prog 200 #[.pointer (some ⟨b, 0, none⟩), tokV kind place num txt] w fun e w' => w.grownBy w' (some b) ∧ ((∃ x, byteS t a = some x ∧ e = .returned (.int .u8 ((x : Nat) : Int)) ∧ ScIs w' b t (a + 1)) ∨ (byteS t a = none ∧ e = gaveUp place)) := by
  by_cases ha : a < t.size
  · by_cases hx : 32 ≤ (t[a]'ha).toNat ∧ (t[a]'ha).toNat ≤ 126
    · refine (byteOf_ok b a kind place num txt t w _ hs ha ht rfl hx.1 hx.2).mono ?_
      rintro e w' ⟨he, hg, hsc⟩
      exact ⟨hg, Or.inl ⟨_, by unfold byteS; rw [dif_pos ha, if_pos hx], he, hsc⟩⟩
    · refine (byteOf_odd b a kind place num txt t w _ hs ha rfl hx).mono ?_
      rintro e w' ⟨he, hg⟩
      exact ⟨hg, Or.inr ⟨by unfold byteS; rw [dif_pos ha, if_neg hx], he⟩⟩
  · refine (byteOf_end b a kind place num txt t w hs ha).mono ?_
    rintro e w' ⟨he, hg⟩
    exact ⟨hg, Or.inr ⟨by unfold byteS; rw [dif_neg ha], he⟩⟩
end Go.Proofs.YteicpbcddjjceaaGreatDoor
