/-
  PROVED HERE: what the statement's own small functions answer: pick, name, decimal, same.
-/
import Derived.Test.YtpgamoielkpakaaDoorParse
import Derived.Test.YtpgamoielkpakaaDoorDecimal
import Derived.Test.YtpgamoielkpakaaDoorKnownWalk
namespace Go.Proofs.YtpgamoielkpakaaDoor
open Go.RowKit
/-- Which of n things a raw number speaks of. -/
def pickN (c : Int) (n : Nat) : Nat := ((if c < 0 then -(c + 1) else c) % (n : Int)).toNat
theorem pickN_lt (c : Int) (n : Nat) (h : 0 < n) : pickN c n < n := by
  unfold pickN
  have h1 := Int.emod_nonneg (if c < 0 then -(c + 1) else c) (show (n : Int) ≠ 0 by omega)
  have h2 := Int.emod_lt_of_pos (if c < 0 then -(c + 1) else c) (show (0 : Int) < n by omega)
  omega
theorem pickN_val (c : Int) (n : Nat) (h : 0 < n) : ((pickN c n : Nat) : Int) = (if c < 0 then -(c + 1) else c) % (n : Int) := by
  unfold pickN
  have h1 := Int.emod_nonneg (if c < 0 then -(c + 1) else c) (show (n : Int) ≠ 0 by omega)
  omega
set_option maxRecDepth 100000 in
theorem pick_any (c : Int) (n : Nat) (h0 : 0 < n) (h1 : n ≤ 9223372036854775807) (hc : -9223372036854775808 ≤ c) (hc2 : c ≤ 9223372036854775807) (w : World) :
    Calls Tryd.prog 16 #[.int .i64 c, .int .i64 ((n : Nat) : Int)] w fun e w' => e = .returned (.int .i64 ((pickN c n : Nat) : Int)) ∧ w' = w := by
  have hv := pickN_val c n h0
  obtain ⟨r, hr⟩ : ∃ r, r = pickN c n := ⟨_, rfl⟩
  rw [← hr] at hv ⊢
  clear hr
  have hn0 : ¬ (n : Int) = 0 := by omega
  by_cases h : c < 0
  · rw [if_pos h] at hv
    have HV := hide hv
    clear hv
    have a1 : 0 ≤ -(c + 1) := by omega
    go_enter Tryd.func16, Tryd.ntmps16
    go_wp2
    go_ret
    refine ⟨?_, rfl⟩
    show Ending.returned (.int .i64 (-((c + 1).tmod ↑n))) = _
    rw [HV.out, ← Int.neg_tmod, Int.tmod_eq_emod_of_nonneg a1]
  · rw [if_neg h] at hv
    have HV := hide hv
    clear hv
    have a1 : 0 ≤ c := by omega
    go_enter Tryd.func16, Tryd.ntmps16
    go_wp2
    go_ret
    refine ⟨?_, rfl⟩
    rw [HV.out]
    rfl
set_option maxHeartbeats 1000000 in
set_option maxRecDepth 100000 in
theorem decimalK_any (z : Nat) (hz : z ≤ 300) (w : World) : Calls Tryd.prog 35 #[.int .i64 ((z : Nat) : Int)] w fun e w' => e = .returned (.string ⟨(Lib.itoa z).toArray⟩) ∧ Below w.heap.size w w' := by
  go_enter Tryd.func35, Tryd.ntmps35
  go_wp2
  go_loopw [0, 3] (fun n s wr => ∃ (m : Nat) (t : List UInt8), m ≤ 300 ∧ t.length + m ≤ 400 ∧ n = .int .i64 ((m : Nat) : Int) ∧ s = .string ⟨t.toArray⟩ ∧ Lib.itoa z = Lib.itoa m ++ t ∧ Below w.heap.size w wr)
    (fun n _ _ => (intOf n).toNat)
  case atStart => exact ⟨z, [], hz, by simp; omega, rfl, rfl, by simp, Below.refl _ _⟩
  case round =>
    obtain ⟨m, t, hm, ht, rfl, rfl, he, hb⟩ := hrel
    have HE := hide he
    clear he
    have q : ¬ 9223372036854775807 < 1 + t.length := by omega
    by_cases h9 : 9 < m
    · have hcv := one_byte (48 + m % 10) (by omega) (48 + (m : Int) % 10) (by omega) wr
      go_wp2
      go_roundw
      case rel =>
        refine ⟨m / 10, UInt8.ofNat (48 + m % 10) :: t, by omega, by simp; omega, by go_num, ?_, ?_, hb.alloc hb.size _⟩
        · rw [ByteArray.mk_append_mk]; simp
        · rw [HE.out, itoa_step m h9, List.append_assoc]; rfl
      case measure => simp [intOf]; omega
    · have hcv := one_byte (48 + m) (by omega) (48 + (m : Int)) (by omega) wr
      go_wp2
      go_ret
      refine ⟨?_, hb.alloc hb.size _⟩
      rw [HE.out, itoa_small m h9]
      simp [ByteArray.mk_append_mk]
set_option maxHeartbeats 1000000 in
set_option maxRecDepth 100000 in
theorem sameK_len (oa ob : Option Addr) (ca cb n n' : Nat) (w : World) (hne : n ≠ n') :
    Calls Tryd.prog 14 #[.slice oa n ca, .slice ob n' cb] w fun e w' => e = .returned (.bool false) ∧ Below w.heap.size w w' := by
  go_enter Tryd.func14, Tryd.ntmps14
  have e : ((n : Int) != (n' : Int)) = true := by simp; omega
  go_wp2
  go_ret
  simp [Below.refl]

set_option maxHeartbeats 1000000 in
set_option maxRecDepth 100000 in
theorem sameK_eq (oa ob : Option Addr) (ca cb n : Nat) (l m : List Tg) (w : World) (ha : TagsAt w oa l) (hb : TagsAt w ob m) (hl : l.length = n) (hm : m.length = n) (hn : n ≤ 9223372036854775807) :
    Calls Tryd.prog 14 #[.slice oa n ca, .slice ob n cb] w fun e w' => e = .returned (.bool (decide (l = m))) ∧ Below w.heap.size w w' := by
  have HA := hide ha
  have HB := hide hb
  have HL := hide hl
  have HM := hide hm
  clear ha hb hl hm
  obtain ⟨r, hr⟩ : ∃ r, r = decide (l = m) := ⟨_, rfl⟩
  rw [← hr]
  have HR := hide hr
  clear hr
  go_enter Tryd.func14, Tryd.ntmps14
  go_wp2
  go_loopw [5] (fun i wr => ∃ k : Nat, k ≤ n ∧ i = .int .i64 ((k : Nat) : Int) ∧ Below w.heap.size w wr ∧ ∀ j, j < k → l.getD j default = m.getD j default)
      (fun i _ => n - (intOf i).toNat)
  case atStart => exact ⟨0, Nat.zero_le _, rfl, Below.refl _ _, fun j hj => by omega⟩
  case round =>
      obtain ⟨k, hk, rfl, hbel, heq⟩ := hrel
      have HE := hide heq
      clear heq
      by_cases hlt : k < n
      · obtain ⟨b1, o1, rfl, x1⟩ := HA.out k (by rw [HL.out]; exact hlt)
        obtain ⟨b2, o2, rfl, y1⟩ := HB.out k (by rw [HM.out]; exact hlt)
        have x2 := rangeAt_later hbel x1
        have y2 := rangeAt_later hbel y1
        clear x1 y1
        generalize hx : l.getD k default = tx at x2
        generalize hy : m.getD k default = ty at y2
        have HXY := hide (And.intro hx hy)
        clear hx hy
        obtain ⟨n1, d1, z1⟩ := tx
        obtain ⟨n2, d2, z2⟩ := ty
        have c1 := x2 0 _ rfl
        have c2 := x2 1 _ rfl
        have c3 := x2 2 _ rfl
        have e1 := y2 0 _ rfl
        have e2 := y2 1 _ rfl
        have e3 := y2 2 _ rfl
        simp only [Nat.add_zero] at c1 e1
        clear x2 y2
        go_wp2
        obtain ⟨q, hq⟩ : ∃ q, q = !decide ((⟨n1, d1, z1⟩ : Tg) = ⟨n2, d2, z2⟩) := ⟨_, rfl⟩
        have hneq := fun w => neq26 ⟨n1, d1, z1⟩ ⟨n2, d2, z2⟩ w
        rw [← hq] at hneq
        have HQ := hide hq
        clear hq
        simp only [Tg.cells] at hneq
        cases q
        all_goals
          go_region_held3 (fun w' => w'.cell? ⟨b1, o1 + k * 3, none⟩ = some (.string n1) ∧ w'.cell? ⟨b1, o1 + k * 3 + 1, none⟩ = some (.string d1) ∧ w'.cell? ⟨b1, o1 + k * 3 + 2, none⟩ = some (.int .i64 z1) ∧ w'.cell? ⟨b2, o2 + k * 3, none⟩ = some (.string n2) ∧ w'.cell? ⟨b2, o2 + k * 3 + 1, none⟩ = some (.string d2) ∧ w'.cell? ⟨b2, o2 + k * 3 + 2, none⟩ = some (.int .i64 z2)) (go_keep) (fail)
        all_goals go_wp2
        · go_roundw
          case rel =>
            refine ⟨k + 1, by omega, by go_num, hbel.drew, fun j hj => ?_⟩
            by_cases e : j = k
            · subst e
              rw [HXY.out.1, HXY.out.2]
              simpa using HQ.out
            · exact HE.out j (by omega)
          case measure => simp [intOf]; omega
        · go_ret
          refine ⟨?_, hbel.drew⟩
          rw [HR.out]
          have hne : l ≠ m := fun e => by
            have h1 := HXY.out.1
            rw [e, HXY.out.2] at h1
            simp [h1] at HQ
            exact HQ.out.elim
          simp [hne]
      · go_wp2
        go_ret
        refine ⟨?_, hbel⟩
        rw [HR.out]
        have he : l = m := by
          apply List.ext_getElem (by rw [HL.out, HM.out])
          intro i h1 h2
          have h3 := HL.out
          have := HE.out i (by omega)
          simpa [List.getD_eq_getElem?_getD, h1, h2] using this
        simp [he]
theorem sameK_any (oa ob : Option Addr) (ca cb : Nat) (l m : List Tg) (w : World) (ha : TagsAt w oa l) (hb : TagsAt w ob m) (hla : l.length ≤ 9223372036854775807) :
    Calls Tryd.prog 14 #[.slice oa l.length ca, .slice ob m.length cb] w fun e w' => e = .returned (.bool (decide (l = m))) ∧ Below w.heap.size w w' := by
  by_cases h : l.length = m.length
  · have := sameK_eq oa ob ca cb l.length l m w ha hb rfl h.symm hla
    rw [h] at this ⊢
    exact this
  · have hne : l ≠ m := fun e => h (by rw [e])
    have := sameK_len oa ob ca cb l.length m.length w h
    simpa [hne] using this
/-- The twelve tags that the statement takes. -/
def nameL : List ByteArray := [⟨#[97]⟩, ⟨#[97, 46, 98]⟩, ⟨#[97, 95]⟩, ⟨#[97, 98]⟩, ⟨#[98, 45]⟩, ⟨#[99]⟩, ⟨#[100, 57]⟩, ⟨#[101]⟩, ⟨#[102]⟩, ⟨#[103]⟩, ⟨#[104]⟩, ⟨#[108, 97, 116, 101, 115, 116]⟩]
def nameOf (r : Nat) : ByteArray := nameL.getD r ⟨#[]⟩
theorem name_tag : ∀ r, r < 12 → isTagB (nameOf r) = true := by decide +kernel
theorem name_rise : ∀ r, r < 12 → ∀ q, q < r → leB (nameOf r) (nameOf q) = false := by decide +kernel
theorem name_first : ∀ r, r < 12 → leB (nameOf r) ⟨#[]⟩ = false := by decide +kernel
theorem name_size : ∀ r, (nameOf r).size ≤ 6 := by
  intro r
  by_cases h : r < 12
  · revert r; decide +kernel
  · unfold nameOf
    rw [List.getD_eq_getElem?_getD, List.getElem?_eq_none (show nameL.length ≤ r by show 12 ≤ r; omega)]
    decide
set_option maxHeartbeats 1000000 in
set_option maxRecDepth 100000 in
theorem name_any (c : Int) (hc : -9223372036854775808 ≤ c) (hc2 : c ≤ 9223372036854775807) (w : World) :
    Calls Tryd.prog 29 #[.int .i64 c] w fun e w' => e = .returned (.string (nameOf (pickN c 12))) ∧ Below w.heap.size w w' := by
  have hlt := pickN_lt c 12 (by decide)
  have hp : ∀ w, Calls Tryd.prog 16 #[.int .i64 c, .int .i64 12] w fun e w' => e = .returned (.int .i64 ((pickN c 12 : Nat) : Int)) ∧ w' = w := fun w => pick_any c 12 (by decide) (by decide) hc hc2 w
  generalize pickN c 12 = r at hlt hp ⊢
  have HP := hide hp
  clear hp
  have hrow := heap_alloc_new w (.cells #[.string ⟨#[97]⟩, .string ⟨#[97, 46, 98]⟩, .string ⟨#[97, 95]⟩, .string ⟨#[97, 98]⟩, .string ⟨#[98, 45]⟩, .string ⟨#[99]⟩, .string ⟨#[100, 57]⟩, .string ⟨#[101]⟩, .string ⟨#[102]⟩, .string ⟨#[103]⟩, .string ⟨#[104]⟩, .string ⟨#[108, 97, 116, 101, 115, 116]⟩] 9 (0, 0))
  have hcell := cell_of_row _ _ r _ _ _ hrow
  have hval : (#[Value.string ⟨#[97]⟩, Value.string ⟨#[97, 46, 98]⟩, Value.string ⟨#[97, 95]⟩, Value.string ⟨#[97, 98]⟩, Value.string ⟨#[98, 45]⟩, Value.string ⟨#[99]⟩, Value.string ⟨#[100, 57]⟩, Value.string ⟨#[101]⟩, Value.string ⟨#[102]⟩, Value.string ⟨#[103]⟩, Value.string ⟨#[104]⟩, Value.string ⟨#[108, 97, 116, 101, 115, 116]⟩] : Array Value)[r]? = some (.string (nameOf r)) := by
    have : ∀ r, r < 12 → (#[Value.string ⟨#[97]⟩, Value.string ⟨#[97, 46, 98]⟩, Value.string ⟨#[97, 95]⟩, Value.string ⟨#[97, 98]⟩, Value.string ⟨#[98, 45]⟩, Value.string ⟨#[99]⟩, Value.string ⟨#[100, 57]⟩, Value.string ⟨#[101]⟩, Value.string ⟨#[102]⟩, Value.string ⟨#[103]⟩, Value.string ⟨#[104]⟩, Value.string ⟨#[108, 97, 116, 101, 115, 116]⟩] : Array Value)[r]? = some (.string (nameOf r)) := by
      intro r hr
      match r, hr with
      | 0, _ => rfl
      | 1, _ => rfl
      | 2, _ => rfl
      | 3, _ => rfl
      | 4, _ => rfl
      | 5, _ => rfl
      | 6, _ => rfl
      | 7, _ => rfl
      | 8, _ => rfl
      | 9, _ => rfl
      | 10, _ => rfl
      | 11, _ => rfl
    exact this r hlt
  rw [hval] at hcell
  generalize nameOf r = nm at hcell ⊢
  have b1 : (0 : Int) ≤ (r : Int) := by omega
  have b2 : (r : Int) < 12 := by omega
  clear hrow hval
  go_enter Tryd.func29, Tryd.ntmps29
  go_wp2_with (go_at_call 16; refine (HP.out _).mono ?_; rintro e w1 ⟨rfl, rfl⟩)
  go_ret
  exact ⟨rfl, (Below.refl _ _).alloc (Nat.le_refl _) _⟩
end Go.Proofs.YtpgamoielkpakaaDoor

/-
  PROVED HERE: what the statement's own function tags answers, out of whatever raw numbers: an index, in memory of its own.
-/
namespace Go.Proofs.YtpgamoielkpakaaDoor
open Go.RowKit
def IntsAt (w : World) (oa : Option Addr) (raw : List Int) : Prop := ∀ i, i < raw.length → ∃ b o, oa = some ⟨b, o, none⟩ ∧ w.cell? ⟨b, o + i, none⟩ = some (.int .i64 (raw.getD i 0))
/-- An index whose tags are among the first of the twelve. -/
structure TInv (v : Nat) (l : List Tg) : Prop where
  len : l.length ≤ 8
  good : ∀ k, k < l.length → goodB l k = true
  below : ∀ k, k < l.length → ∃ r, r < v ∧ (l.getD k default).name = nameOf r
theorem TInv.mono {v : Nat} {l : List Tg} (h : TInv v l) : TInv (v + 1) l := ⟨h.len, h.good, fun k hk => by obtain ⟨r, h1, h2⟩ := h.below k hk; exact ⟨r, by omega, h2⟩⟩
theorem getD_old (l : List Tg) (x : Tg) (k : Nat) (h : k < l.length) : (l ++ [x]).getD k default = l.getD k default := by
  simp [List.getD_eq_getElem?_getD, List.getElem?_append_left h]
theorem getD_last (l : List Tg) (x : Tg) : (l ++ [x]).getD l.length default = x := by
  simp [List.getD_eq_getElem?_getD]
theorem lastName_old (l : List Tg) (x : Tg) (k : Nat) (h : k ≤ l.length) : lastName (l ++ [x]) k = lastName l k := by
  cases k with
  | zero => rfl
  | succ k => show ((l ++ [x]).getD k default).name = (l.getD k default).name; rw [getD_old l x k (by omega)]
theorem TInv.add {v : Nat} {l : List Tg} (h : TInv v l) (hv : v < 12) (hl : l.length < 8) (d : ByteArray) (z : Int) (hd : isDigB d = true) (hz : 0 ≤ z ∧ z ≤ 300) : TInv (v + 1) (l ++ [⟨nameOf v, d, z⟩]) := by
  refine ⟨by simp; omega, fun k hk => ?_, fun k hk => ?_⟩
  · simp only [List.length_append, List.length_singleton] at hk
    unfold goodB
    rw [lastName_old _ _ _ (by omega)]
    by_cases e : k = l.length
    · subst e
      rw [getD_last]
      dsimp only
      have hle : leB (nameOf v) (lastName l l.length) = false := by
        cases hq : l.length with
        | zero => exact name_first v hv
        | succ q =>
          obtain ⟨r, h1, h2⟩ := h.below q (by omega)
          show leB (nameOf v) (l.getD q default).name = false
          rw [h2]
          exact name_rise v hv r h1
      rw [hd, name_tag v hv, hle]
      simp [hz]
    · rw [getD_old _ _ _ (by omega)]
      exact h.good k (by omega)
  · simp only [List.length_append, List.length_singleton] at hk
    by_cases e : k = l.length
    · subst e
      rw [getD_last]
      exact ⟨v, by omega, rfl⟩
    · rw [getD_old _ _ _ (by omega)]
      obtain ⟨r, h1, h2⟩ := h.below k (by omega)
      exact ⟨r, by omega, h2⟩
theorem hash_dig (l : List UInt8) : isDigB ⟨(Sha.hash l).toArray⟩ = true := by
  unfold isDigB
  have h1 : (ByteArray.mk (Sha.hash l).toArray).size = 64 := by rw [bytes_size, hash_len]
  rw [h1]
  simp only [decide_true, Bool.true_and, List.all_eq_true]
  intro c hc
  have := hash_hexL l c (by simpa using hc)
  unfold hexL at this
  unfold hexB digB
  simp
  omega
theorem tdiv_range (x : Int) (d : Nat) (hd : 0 < d) (h1 : -9223372036854775808 ≤ x) (h2 : x ≤ 9223372036854775807) : -9223372036854775808 ≤ x.tdiv (d : Int) ∧ x.tdiv (d : Int) ≤ 9223372036854775807 := by
  by_cases h : 0 ≤ x
  · have a1 := Int.tdiv_eq_ediv_of_nonneg (b := (d : Int)) h
    have a2 := Int.ediv_nonneg h (show (0 : Int) ≤ d by omega)
    have a3 := Int.ediv_le_self (d : Int) h
    rw [a1]
    omega
  · have a0 : x.tdiv (d : Int) = -((-x).tdiv (d : Int)) := by rw [Int.neg_tdiv, Int.neg_neg]
    have h' : 0 ≤ -x := by omega
    have a1 := Int.tdiv_eq_ediv_of_nonneg (b := (d : Int)) h'
    have a2 := Int.ediv_nonneg h' (show (0 : Int) ≤ d by omega)
    have a3 := Int.ediv_le_self (d : Int) h'
    rw [a0, a1]
    omega
set_option maxHeartbeats 2000000 in
set_option maxRecDepth 100000 in
theorem tags_any (oa : Option Addr) (ca : Nat) (raw : List Int) (w : World) (n : Nat) (hn : raw.length = n) (hn2 : n ≤ 9223372036854775807) (ha : IntsAt w oa raw) (hr : ∀ i, -9223372036854775808 ≤ raw.getD i 0 ∧ raw.getD i 0 ≤ 9223372036854775807) (hK : HasK w) :
    Calls Tryd.prog 12 #[.slice oa n ca] w fun e w' => Below w.heap.size w w' ∧ ∃ v l, e = .returned v ∧ w'.ownsRow w.heap.size 26 3 v l.length (l.flatMap Tg.cells) ∧ TInv 12 l := by
  have HA := hide ha
  have HN := hide hn
  have HR := hide hr
  have HK := hide hK
  have h0 := hK.1
  clear ha hn hr hK
  go_enter Tryd.func12, Tryd.ntmps12
  go_wp2
  go_loopw [3, 4] (fun lv vv wr => ∃ (l : List Tg) (v : Nat), v ≤ 12 ∧ vv = .int .i64 ((v : Nat) : Int) ∧ wr.ownsRow w.heap.size 26 3 lv l.length (l.flatMap Tg.cells) ∧ TInv v l ∧ Below w.heap.size w wr)
    (fun _ vv _ => 12 - (intOf vv).toNat)
  case atStart => exact ⟨[], 0, Nat.zero_le _, rfl, World.ownsRow_nil _ _ _ _, ⟨by decide, fun k hk => by simp at hk, fun k hk => by simp at hk⟩, Below.refl _ _⟩
  case round =>
    obtain ⟨l, v, hv, rfl, hown, hinv, hbel⟩ := hrel
    obtain ⟨lo, lc, rfl⟩ := own_slice hown
    have OWN := hide hown
    have INV := hide hinv
    have hl8 := hinv.len
    have hbs := hbel.size
    clear hown hinv
    by_cases hgo : v < 12 ∧ l.length < 8
    · obtain ⟨hv12, hlt8⟩ := hgo
      have g1 : decide ((v : Int) < 12) = true := by simp; omega
      have g2 : decide ((l.length : Int) < 8) = true := by simp; omega
      go_wp2
      go_loopw [3, 5] (fun lv iv w2 => ∃ i : Nat, i ≤ n ∧ lv = .slice lo l.length lc ∧ iv = .int .i64 ((i : Nat) : Int) ∧ w2 = wr)
        (fun _ iv _ => n - (intOf iv).toNat)
      case atStart => exact ⟨0, Nat.zero_le _, rfl, rfl, rfl⟩
      case round =>
        obtain ⟨i, hi, rfl, rfl, rfl⟩ := hrel
        by_cases hlt : i < n
        · obtain ⟨b, o, rfl, hc⟩ := HA.out i (by rw [HN.out]; exact hlt)
          have hc1 := cell_later (hbel.mono (Nat.le_refl _)) hc
          have HBW : Hid (b < w.heap.size) := World.block_lt_of_cell? w _ hc
          obtain ⟨hr1, hr2⟩ := HR.out i
          generalize raw.getD i 0 = x at hc1 hr1 hr2
          clear hc
          have hp : ∀ w, Calls Tryd.prog 16 #[.int .i64 x, .int .i64 12] w fun e w' => e = .returned (.int .i64 ((pickN x 12 : Nat) : Int)) ∧ w' = w := fun w => pick_any x 12 (by decide) (by decide) hr1 hr2 w
          generalize pickN x 12 = q at hp
          have HP := hide hp
          clear hp
          by_cases hq : q = v
          · subst hq
            have hd1 : -9223372036854775808 ≤ x.tdiv 12 ∧ x.tdiv 12 ≤ 9223372036854775807 := tdiv_range x 12 (by decide) hr1 hr2
            have hd2 : -9223372036854775808 ≤ x.tdiv 144 ∧ x.tdiv 144 ≤ 9223372036854775807 := tdiv_range x 144 (by decide) hr1 hr2
            go_wp2_with (go_at_call 16; refine (HP.out _).mono ?_; rintro e w1 ⟨rfl, hw1⟩; obtain rfl := hw1.symm)
            refine (name_any _ hd1.1 hd1.2 wr).mono ?_
            rintro e w2 ⟨rfl, hb2⟩
            dsimp only
            have hsz := name_size (pickN (x.tdiv 12) 12)
            generalize nameOf (pickN (x.tdiv 12) 12) = nm at hsz ⊢
            go_wp2_with fail
            have hK2 : HasK w2 := (HK.out.below hbel h0).below hb2 (by omega)
            refine (hash_any nm w2 (by omega) hK2).mono ?_
            rintro e w3 ⟨rfl, hb3⟩
            dsimp only
            have hdig := hash_dig nm.data.toList
            generalize (⟨(Sha.hash nm.data.toList).toArray⟩ : ByteArray) = dT at hdig ⊢
            have hb13 : Below wr.heap.size wr w3 := hb2.trans (hb3.mono hb2.size)
            have OWN3 := hide (ownsRow_later OWN.out hb13)
            have hbel3 : Below w.heap.size w w3 := hbel.trans (hb13.mono hbs)
            have hc3 := cell_later hb13 hc1
            have hs3 := hb13.size
            clear hb2 hb3 hc1 OWN HP hsz
            obtain ⟨i0, hi0, hz0, hz1, hz2⟩ := info_parts Tryd.info26c
            have hp3 : ∀ w, Calls Tryd.prog 16 #[.int .i64 (x.tdiv 144), .int .i64 301] w fun e w' => e = .returned (.int .i64 ((pickN (x.tdiv 144) 301 : Nat) : Int)) ∧ w' = w := fun w => pick_any _ 301 (by decide) (by decide) hd2.1 hd2.2 w
            have hn3 : ∀ w, Calls Tryd.prog 29 #[.int .i64 ((q : Nat) : Int)] w fun e w' => e = .returned (.string (nameOf q)) ∧ Below w.heap.size w w' := fun w => by
              have := name_any ((q : Nat) : Int) (by omega) (by omega) w
              rw [show pickN (q : Int) 12 = q by unfold pickN; rw [if_neg (by omega)]; omega] at this
              exact this
            have hz3 := pickN_lt (x.tdiv 144) 301 (by decide)
            generalize pickN (x.tdiv 144) 301 = zz at hp3 hz3
            have hinv2 := INV.out.add hv12 hlt8 dT (zz : Int) hdig ⟨by omega, by omega⟩
            generalize nameOf q = nm2 at hn3 hinv2
            have HP3 := hide hp3
            have HN3 := hide hn3
            have INV2 := hide hinv2
            clear hp3 hn3 hinv2 INV hdig
            go_wp2_with fail
            have hbw : b < w.heap.size := HBW.out
            have HWR : Hid (IntKind.i64.wrap (x.tdiv 144) = x.tdiv 144) := by show IntKind.i64.wrap (x.tdiv 144) = x.tdiv 144; rw [IntKind.wrap_i64]; omega
            have bi1 : (0 : Int) ≤ (i : Int) := by omega
            have bi2 : (i : Int) < (n : Int) := by omega
            go_region_held3 (fun w' => w'.cell? ⟨b, o + i, none⟩ = some (.int .i64 x))
              (first | exact hc3 | exact cell_later hN hc3 | exact cell_later ((Below.refl _ _).alloc (Nat.le_refl _) _) (cell_later hN hc3) | exact (hgrow.cell_far _ (show b < (w4.alloc _).heap.size by simp only [size_alloc]; have := hN.size; have h2 : w3.heap.size ≤ w3.drew.heap.size := Nat.le_refl _; omega) (fun e => by have := (HI4.out.lt b e.symm).1; omega)).trans (cell_later ((Below.refl _ _).alloc (Nat.le_refl _) _) (cell_later hN hc3)))
              (first | (go_at_call 16; rw [HWR.out]; refine (HP3.out _).mono ?_; rintro e w4 ⟨rfl, hw4⟩; obtain rfl := hw4.symm) | (go_at_call 29; refine (HN3.out _).mono ?_; rintro e w4 ⟨rfl, hN⟩) | (have HI4 := hide ((ownsRow_later (w := w3.drew) OWN3.out hN).alloc (.cells #[.string nm2, .string dT, .int .i64 ((zz : Nat) : Int)] 26)); refine step_append_lies _ (by rfl) _ _ _ (by rfl) w.heap.size 26 i0 _ 3 40 Tryd.underlying24 hi0 hz0 hz1 hz2 (by rfl) (by decide) _ l.length _ (by rfl) HI4.out _ 1 1 [.string nm2, .string dT, .int .i64 ((zz : Nat) : Int)] (by rfl) (by rfl) (row_cells (heap_alloc_new _ _)) (tell_one _ _ _) (by decide) (by unfold maxLen; omega) (by omega) (by simp only [size_alloc]; have h1 := hN.size; have h2 : w3.heap.size ≤ w3.drew.heap.size := Nat.le_refl _; have h3 := hbel3.size; omega) _ rfl ?_; intro g2 cap2 w5 hown5 hgrow hat hlt5))
            have hbel5 : Below w.heap.size w w5 := grown_below ((hbel3.drew.trans (hN.mono hbel3.size)).alloc (Nat.le_trans hbel3.size hN.size) _) hgrow HI4.out (Nat.le_refl _) (by simp only [size_alloc]; have h1 := hN.size; have h2 : w3.heap.size ≤ w3.drew.heap.size := Nat.le_refl _; have h3 := hbel3.size; omega)
            have hown6 : w5.ownsRow w.heap.size 26 3 (.slice (some ⟨g2, 0, none⟩) (l.length + 1) cap2) (l ++ [(⟨nm2, dT, ((zz : Nat) : Int)⟩ : Tg)]).length ((l ++ [(⟨nm2, dT, ((zz : Nat) : Int)⟩ : Tg)]).flatMap Tg.cells) := by
              rw [List.flatMap_append, List.length_append, List.flatMap_cons, List.flatMap_nil, List.append_nil]
              exact hown5
            have OWN6 := hide hown6
            have BEL5 := hide hbel5
            clear hown6 hbel5 hown5 hgrow hat HI4 OWN3
            go_wp2
            go_roundw
            case rel => exact ⟨l ++ [(⟨nm2, dT, ((zz : Nat) : Int)⟩ : Tg)], q + 1, by omega, by go_num, OWN6.out, INV2.out, BEL5.out⟩
            case measure => simp [intOf]; omega
          · have hq2 : ((q : Int) == (v : Int)) = false := by simp; omega
            go_wp2_with (go_at_call 16; refine (HP.out _).mono ?_; rintro e w1 ⟨rfl, rfl⟩)
            go_roundw
            case rel => exact ⟨i + 1, by omega, rfl, by go_num, trivial⟩
            case measure => simp [intOf]; omega
        · go_wp2
          go_roundw
          case rel => exact ⟨l, v + 1, by omega, by go_num, OWN.out, INV.out.mono, hbel⟩
          case measure => simp [intOf]; omega
    · have hno : (v < 12 ∧ ¬ l.length < 8) ∨ v = 12 := by omega
      clear hgo
      rcases hno with ⟨hv12, hlt8⟩ | rfl
      · have g1 : decide ((v : Int) < 12) = true := by simp; omega
        have g2 : decide ((l.length : Int) < 8) = false := by simp; omega
        go_wp2
        go_ret
        refine ⟨hbel, _, l, rfl, OWN.out, ?_⟩
        have h := INV.out
        exact ⟨h.len, h.good, fun k hk => by obtain ⟨r, h1, h2⟩ := h.below k hk; exact ⟨r, by omega, h2⟩⟩
      · go_wp2
        go_ret
        exact ⟨hbel, _, l, rfl, OWN.out, INV.out⟩
end Go.Proofs.YtpgamoielkpakaaDoor
