/-
  PROVED HERE: what the statement's own small functions answer: pick, name, decimal, same.
-/
import Derived.Test.YtlobmnlpckebpaaDoorParse
import Derived.Test.YtlobmnlpckebpaaDoorDecimal
namespace Go.Proofs.YtlobmnlpckebpaaDoor
open Go.RowKit
/-- Which of n things a raw number speaks of. -/
def pickN (c : Int) (n : Nat) : Nat := ((if c < 0 then -(c + 1) else c) % (n : Int)).toNat
theorem pickN_lt (c : Int) (n : Nat) (h : 0 < n) : pickN c n < n := by
  unfold pickN
  have h1 := Int.emod_nonneg (if c < 0 then -(c + 1) else c) (show (n : Int) ≠ 0 by omega)
  have h2 := Int.emod_lt_of_pos (if c < 0 then -(c + 1) else c) (show (0 : Int) < n by omega)
  omega
theorem pickN_val (c : Int) (n : Nat) (h : 0 < n) : ((pickN c n : Nat) : Int) = (if c < 0 then -(c + 1) else c) % (n : Int) := by
  unfold pickN
  have h1 := Int.emod_nonneg (if c < 0 then -(c + 1) else c) (show (n : Int) ≠ 0 by omega)
  omega
set_option maxRecDepth 100000 in
theorem pick_any (c : Int) (n : Nat) (h0 : 0 < n) (h1 : n ≤ 9223372036854775807) (hc : -9223372036854775808 ≤ c) (hc2 : c ≤ 9223372036854775807) (w : World) :
    Calls Tryd.prog 16 #[.int .i64 c, .int .i64 ((n : Nat) : Int)] w fun e w' => e = .returned (.int .i64 ((pickN c n : Nat) : Int)) ∧ w' = w := by
  have hv := pickN_val c n h0
  obtain ⟨r, hr⟩ : ∃ r, r = pickN c n := ⟨_, rfl⟩
  rw [← hr] at hv ⊢
  clear hr
  have hn0 : ¬ (n : Int) = 0 := by omega
  by_cases h : c < 0
  · rw [if_pos h] at hv
    have HV := hide hv
    clear hv
    have a1 : 0 ≤ -(c + 1) := by omega
    go_enter Tryd.func16, Tryd.ntmps16
    go_wp2
    go_ret
    refine ⟨?_, rfl⟩
    show Ending.returned (.int .i64 (-((c + 1).tmod ↑n))) = _
    rw [HV.out, ← Int.neg_tmod, Int.tmod_eq_emod_of_nonneg a1]
  · rw [if_neg h] at hv
    have HV := hide hv
    clear hv
    have a1 : 0 ≤ c := by omega
    go_enter Tryd.func16, Tryd.ntmps16
    go_wp2
    go_ret
    refine ⟨?_, rfl⟩
    rw [HV.out]
    rfl
set_option maxHeartbeats 1000000 in
set_option maxRecDepth 100000 in
theorem decimalK_any (z : Nat) (hz : z ≤ 300) (w : World) : Calls Tryd.prog 35 #[.int .i64 ((z : Nat) : Int)] w fun e w' => e = .returned (.string ⟨(Lib.itoa z).toArray⟩) ∧ Below w.heap.size w w' := by
  go_enter Tryd.func35, Tryd.ntmps35
  go_wp2
  go_loopw [0, 3] (fun n s wr => ∃ (m : Nat) (t : List UInt8), m ≤ 300 ∧ t.length + m ≤ 400 ∧ n = .int .i64 ((m : Nat) : Int) ∧ s = .string ⟨t.toArray⟩ ∧ Lib.itoa z = Lib.itoa m ++ t ∧ Below w.heap.size w wr)
    (fun n _ _ => (intOf n).toNat)
  case atStart => exact ⟨z, [], hz, by simp; omega, rfl, rfl, by simp, Below.refl _ _⟩
  case round =>
    obtain ⟨m, t, hm, ht, rfl, rfl, he, hb⟩ := hrel
    have HE := hide he
    clear he
    have q : ¬ 9223372036854775807 < 1 + t.length := by omega
    by_cases h9 : 9 < m
    · have hcv := one_byte (48 + m % 10) (by omega) (48 + (m : Int) % 10) (by omega) wr
      go_wp2
      go_roundw
      case rel =>
        refine ⟨m / 10, UInt8.ofNat (48 + m % 10) :: t, by omega, by simp; omega, by go_num, ?_, ?_, hb.alloc hb.size _⟩
        · rw [ByteArray.mk_append_mk]; simp
        · rw [HE.out, itoa_step m h9, List.append_assoc]; rfl
      case measure => simp [intOf]; omega
    · have hcv := one_byte (48 + m) (by omega) (48 + (m : Int)) (by omega) wr
      go_wp2
      go_ret
      refine ⟨?_, hb.alloc hb.size _⟩
      rw [HE.out, itoa_small m h9]
      simp [ByteArray.mk_append_mk]
set_option maxHeartbeats 1000000 in
set_option maxRecDepth 100000 in
theorem sameK_len (oa ob : Option Addr) (ca cb n n' : Nat) (w : World) (hne : n ≠ n') :
    Calls Tryd.prog 14 #[.slice oa n ca, .slice ob n' cb] w fun e w' => e = .returned (.bool false) ∧ Below w.heap.size w w' := by
  go_enter Tryd.func14, Tryd.ntmps14
  have e : ((n : Int) != (n' : Int)) = true := by simp; omega
  go_wp2
  go_ret
  simp [Below.refl]

set_option maxHeartbeats 1000000 in
set_option maxRecDepth 100000 in
theorem sameK_eq (oa ob : Option Addr) (ca cb n : Nat) (l m : List Tg) (w : World) (ha : TagsAt w oa l) (hb : TagsAt w ob m) (hl : l.length = n) (hm : m.length = n) (hn : n ≤ 9223372036854775807) :
    Calls Tryd.prog 14 #[.slice oa n ca, .slice ob n cb] w fun e w' => e = .returned (.bool (decide (l = m))) ∧ Below w.heap.size w w' := by
  have HA := hide ha
  have HB := hide hb
  have HL := hide hl
  have HM := hide hm
  clear ha hb hl hm
  obtain ⟨r, hr⟩ : ∃ r, r = decide (l = m) := ⟨_, rfl⟩
  rw [← hr]
  have HR := hide hr
  clear hr
  go_enter Tryd.func14, Tryd.ntmps14
  go_wp2
  go_loopw [5] (fun i wr => ∃ k : Nat, k ≤ n ∧ i = .int .i64 ((k : Nat) : Int) ∧ Below w.heap.size w wr ∧ ∀ j, j < k → l.getD j default = m.getD j default)
      (fun i _ => n - (intOf i).toNat)
  case atStart => exact ⟨0, Nat.zero_le _, rfl, Below.refl _ _, fun j hj => by omega⟩
  case round =>
      obtain ⟨k, hk, rfl, hbel, heq⟩ := hrel
      have HE := hide heq
      clear heq
      by_cases hlt : k < n
      · obtain ⟨b1, o1, rfl, x1⟩ := HA.out k (by rw [HL.out]; exact hlt)
        obtain ⟨b2, o2, rfl, y1⟩ := HB.out k (by rw [HM.out]; exact hlt)
        have x2 := rangeAt_later hbel x1
        have y2 := rangeAt_later hbel y1
        clear x1 y1
        generalize hx : l.getD k default = tx at x2
        generalize hy : m.getD k default = ty at y2
        have HXY := hide (And.intro hx hy)
        clear hx hy
        obtain ⟨n1, d1, z1⟩ := tx
        obtain ⟨n2, d2, z2⟩ := ty
        have c1 := x2 0 _ rfl
        have c2 := x2 1 _ rfl
        have c3 := x2 2 _ rfl
        have e1 := y2 0 _ rfl
        have e2 := y2 1 _ rfl
        have e3 := y2 2 _ rfl
        simp only [Nat.add_zero] at c1 e1
        clear x2 y2
        go_wp2
        obtain ⟨q, hq⟩ : ∃ q, q = !decide ((⟨n1, d1, z1⟩ : Tg) = ⟨n2, d2, z2⟩) := ⟨_, rfl⟩
        have hneq := fun w => neq26 ⟨n1, d1, z1⟩ ⟨n2, d2, z2⟩ w
        rw [← hq] at hneq
        have HQ := hide hq
        clear hq
        simp only [Tg.cells] at hneq
        cases q
        all_goals
          go_region_held3 (fun w' => w'.cell? ⟨b1, o1 + k * 3, none⟩ = some (.string n1) ∧ w'.cell? ⟨b1, o1 + k * 3 + 1, none⟩ = some (.string d1) ∧ w'.cell? ⟨b1, o1 + k * 3 + 2, none⟩ = some (.int .i64 z1) ∧ w'.cell? ⟨b2, o2 + k * 3, none⟩ = some (.string n2) ∧ w'.cell? ⟨b2, o2 + k * 3 + 1, none⟩ = some (.string d2) ∧ w'.cell? ⟨b2, o2 + k * 3 + 2, none⟩ = some (.int .i64 z2)) (go_keep) (fail)
        all_goals go_wp2
        · go_roundw
          case rel =>
            refine ⟨k + 1, by omega, by go_num, hbel.drew, fun j hj => ?_⟩
            by_cases e : j = k
            · subst e
              rw [HXY.out.1, HXY.out.2]
              simpa using HQ.out
            · exact HE.out j (by omega)
          case measure => simp [intOf]; omega
        · go_ret
          refine ⟨?_, hbel.drew⟩
          rw [HR.out]
          have hne : l ≠ m := fun e => by
            have h1 := HXY.out.1
            rw [e, HXY.out.2] at h1
            simp [h1] at HQ
            exact HQ.out.elim
          simp [hne]
      · go_wp2
        go_ret
        refine ⟨?_, hbel⟩
        rw [HR.out]
        have he : l = m := by
          apply List.ext_getElem (by rw [HL.out, HM.out])
          intro i h1 h2
          have h3 := HL.out
          have := HE.out i (by omega)
          simpa [List.getD_eq_getElem?_getD, h1, h2] using this
        simp [he]
theorem sameK_any (oa ob : Option Addr) (ca cb : Nat) (l m : List Tg) (w : World) (ha : TagsAt w oa l) (hb : TagsAt w ob m) (hla : l.length ≤ 9223372036854775807) :
    Calls Tryd.prog 14 #[.slice oa l.length ca, .slice ob m.length cb] w fun e w' => e = .returned (.bool (decide (l = m))) ∧ Below w.heap.size w w' := by
  by_cases h : l.length = m.length
  · have := sameK_eq oa ob ca cb l.length l m w ha hb rfl h.symm hla
    rw [h] at this ⊢
    exact this
  · have hne : l ≠ m := fun e => h (by rw [e])
    have := sameK_len oa ob ca cb l.length m.length w h
    simpa [hne] using this
/-- The twelve tags that the statement takes. -/
def nameL : List ByteArray := [⟨#[97]⟩, ⟨#[97, 46, 98]⟩, ⟨#[97, 95]⟩, ⟨#[97, 98]⟩, ⟨#[98, 45]⟩, ⟨#[99]⟩, ⟨#[100, 57]⟩, ⟨#[101]⟩, ⟨#[102]⟩, ⟨#[103]⟩, ⟨#[104]⟩, ⟨#[108, 97, 116, 101, 115, 116]⟩]
def nameOf (r : Nat) : ByteArray := nameL.getD r ⟨#[]⟩
theorem name_tag : ∀ r, r < 12 → isTagB (nameOf r) = true := by decide +kernel
theorem name_rise : ∀ r, r < 12 → ∀ q, q < r → leB (nameOf r) (nameOf q) = false := by decide +kernel
theorem name_first : ∀ r, r < 12 → leB (nameOf r) ⟨#[]⟩ = false := by decide +kernel
theorem name_size : ∀ r, (nameOf r).size ≤ 6 := by
  intro r
  by_cases h : r < 12
  · revert r; decide +kernel
  · unfold nameOf
    rw [List.getD_eq_getElem?_getD, List.getElem?_eq_none (show nameL.length ≤ r by show 12 ≤ r; omega)]
    decide
set_option maxHeartbeats 1000000 in
set_option maxRecDepth 100000 in
theorem name_any (c : Int) (hc : -9223372036854775808 ≤ c) (hc2 : c ≤ 9223372036854775807) (w : World) :
    Calls Tryd.prog 29 #[.int .i64 c] w fun e w' => e = .returned (.string (nameOf (pickN c 12))) ∧ Below w.heap.size w w' := by
  have hlt := pickN_lt c 12 (by decide)
  have hp : ∀ w, Calls Tryd.prog 16 #[.int .i64 c, .int .i64 12] w fun e w' => e = .returned (.int .i64 ((pickN c 12 : Nat) : Int)) ∧ w' = w := fun w => pick_any c 12 (by decide) (by decide) hc hc2 w
  generalize pickN c 12 = r at hlt hp ⊢
  have HP := hide hp
  clear hp
  have hrow := heap_alloc_new w (.cells #[.string ⟨#[97]⟩, .string ⟨#[97, 46, 98]⟩, .string ⟨#[97, 95]⟩, .string ⟨#[97, 98]⟩, .string ⟨#[98, 45]⟩, .string ⟨#[99]⟩, .string ⟨#[100, 57]⟩, .string ⟨#[101]⟩, .string ⟨#[102]⟩, .string ⟨#[103]⟩, .string ⟨#[104]⟩, .string ⟨#[108, 97, 116, 101, 115, 116]⟩] 9 (0, 0))
  have hcell := cell_of_row _ _ r _ _ _ hrow
  have hval : (#[Value.string ⟨#[97]⟩, Value.string ⟨#[97, 46, 98]⟩, Value.string ⟨#[97, 95]⟩, Value.string ⟨#[97, 98]⟩, Value.string ⟨#[98, 45]⟩, Value.string ⟨#[99]⟩, Value.string ⟨#[100, 57]⟩, Value.string ⟨#[101]⟩, Value.string ⟨#[102]⟩, Value.string ⟨#[103]⟩, Value.string ⟨#[104]⟩, Value.string ⟨#[108, 97, 116, 101, 115, 116]⟩] : Array Value)[r]? = some (.string (nameOf r)) := by
    have : ∀ r, r < 12 → (#[Value.string ⟨#[97]⟩, Value.string ⟨#[97, 46, 98]⟩, Value.string ⟨#[97, 95]⟩, Value.string ⟨#[97, 98]⟩, Value.string ⟨#[98, 45]⟩, Value.string ⟨#[99]⟩, Value.string ⟨#[100, 57]⟩, Value.string ⟨#[101]⟩, Value.string ⟨#[102]⟩, Value.string ⟨#[103]⟩, Value.string ⟨#[104]⟩, Value.string ⟨#[108, 97, 116, 101, 115, 116]⟩] : Array Value)[r]? = some (.string (nameOf r)) := by
      intro r hr
      match r, hr with
      | 0, _ => rfl
      | 1, _ => rfl
      | 2, _ => rfl
      | 3, _ => rfl
      | 4, _ => rfl
      | 5, _ => rfl
      | 6, _ => rfl
      | 7, _ => rfl
      | 8, _ => rfl
      | 9, _ => rfl
      | 10, _ => rfl
      | 11, _ => rfl
    exact this r hlt
  rw [hval] at hcell
  generalize nameOf r = nm at hcell ⊢
  have b1 : (0 : Int) ≤ (r : Int) := by omega
  have b2 : (r : Int) < 12 := by omega
  clear hrow hval
  go_enter Tryd.func29, Tryd.ntmps29
  go_wp2_with (go_at_call 16; refine (HP.out _).mono ?_; rintro e w1 ⟨rfl, rfl⟩)
  go_ret
  exact ⟨rfl, (Below.refl _ _).alloc (Nat.le_refl _) _⟩
end Go.Proofs.YtlobmnlpckebpaaDoor
