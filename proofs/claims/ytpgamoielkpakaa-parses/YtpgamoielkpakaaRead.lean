/-
  PROVED HERE: what the program's function Read of package digest answers for every string: the digest that has this text, or that there is none; nothing that was there has turned.
-/
import Derived.Test.YtpgamoielkpakaaLetters
import Derived.Test.YtpgamoielkpakaaText
namespace Go.Proofs.Ytpgamoielkpakaa
open Go.RowKit
def hexIx (c : Nat) : Int := Lib.indexByte [48, 49, 50, 51, 52, 53, 54, 55, 56, 57, 97, 98, 99, 100, 101, 102] c.toUInt8
theorem hexIx_facts (c : Nat) (h : c < 256) : (hexB c = true → 0 ≤ hexIx c ∧ hexIx c < 16 ∧ Sha.hexd (hexIx c).toNat = c.toUInt8) ∧ (hexB c = false → hexIx c = -1) := by
  have : ∀ n, n < 256 → (hexB n = true → 0 ≤ hexIx n ∧ hexIx n < 16 ∧ Sha.hexd (hexIx n).toNat = n.toUInt8) ∧ (hexB n = false → hexIx n = -1) := by decide +kernel
  exact this c h
theorem ix_call (x : Nat) (w : World) : Calls Try.prog 41 #[.string ⟨#[48, 49, 50, 51, 52, 53, 54, 55, 56, 57, 97, 98, 99, 100, 101, 102]⟩, .int .u8 (x : Int)] w fun e w' => e = .returned (.int .i64 (hexIx x)) ∧ w' = w :=
  Try.strings_IndexByte _ (x : Int) w

theorem results_cell_tmp {P : Program} {fn : Func} {p q : Tmp} {ty : TypeId} (h : fn.results = #[.cell p ty, .tmp q]) (tmps : Array Value) (w : World) (g : Nat) (t : TypeId) (cs : Array Value) (fr : Nat × Nat) (d : TypeDesc) (v : Value)
    (hp : tmps.getD p undef = .pointer (some ⟨g, 0, none⟩)) (hq : tmps.getD q undef = v) (hg : w.heap[g]? = some (.cells cs t fr))
    (hu : P.underlying ty = some d) (hd : (match d with | .struct _ | .array _ _ => true | _ => false) = true) (hi : (P.info? ty).map (·.size) = some cs.size) :
    (results fn tmps).run P w = .ok (.tuple #[.agg cs, v]) w := by
  have hp' : tmps[p]?.getD undef = .pointer (some ⟨g, 0, none⟩) := by simpa using hp
  have hq' : tmps[q]?.getD undef = v := by simpa using hq
  simp [results, h, hp', hq', asAddr, run_loadVar_row w g t ty cs fr d hg hu hd hi]
theorem size40 (l : List Nat) (h : l.length = 32) : (Try.prog.info? 74).map (·.size) = some (cells8 l).size := by rw [cells8_size, h]; exact size40_32

set_option maxHeartbeats 1000000 in
set_option maxRecDepth 100000 in
theorem read_len (s : ByteArray) (w : World) (h64 : s.size ≠ 64) :
    Calls Try.prog 59 #[.string s] w fun e w' => e = .returned (.tuple #[.agg (cells8 (Sha.zeros 32)), .bool false]) ∧ Below w.heap.size w w' := by
  have hz4 := (zero_of_info Try.info74).1
  have e64 : ((s.size : Int) != 64) = true := by simp; omega
  go_enter Try.func59, Try.ntmps59
  go_wp2_with (refine wpList_store_row rfl 74 _ _ rfl w.heap.size _ rfl rfl 74 _ (heap_alloc_new _ _) (size40 _ (Sha.zeros_len _)) rfl (cells8_one _) ?_; rw [World.setRow_alloc_new])
  exact bodyPost_ret (results_cell_tmp Try.results59 _ _ w.heap.size 74 _ (0, 0) _ (.bool false) rfl rfl (heap_alloc_new _ _) Try.underlying74 rfl (size40 _ (Sha.zeros_len _))) rfl ⟨rfl, (Below.refl _ _).alloc (Nat.le_refl _) _⟩

/-- The bytes behind k of the loop's rounds. -/
def rdTo (s : ByteArray) : Nat → List Nat
  | 0 => Sha.zeros 32
  | k + 1 => (rdTo s k).set k ((hexIx (s.data.toList.getD (2 * k) 0).toNat).toNat * 16 + (hexIx (s.data.toList.getD (2 * k + 1) 0).toNat).toNat)
theorem rdTo_len (s : ByteArray) (k : Nat) : (rdTo s k).length = 32 := by
  induction k with
  | zero => exact Sha.zeros_len _
  | succ k ih => simp [rdTo, ih]
theorem or16 (a b : Nat) (ha : a < 16) (hb : b < 16) : bits .or .i64 ((a : Int) * 16) (b : Int) % 256 = ((a * 16 + b : Nat) : Int) := by
  have : ∀ a : Nat, a < 16 → ∀ b : Nat, b < 16 → bits .or .i64 ((a : Int) * 16) (b : Int) % 256 = ((a * 16 + b : Nat) : Int) := by decide +kernel
  exact this a ha b hb
theorem getD_byte (s : ByteArray) (i : Nat) (h : i < s.size) : s.data.toList.getD i 0 = s[i] := by
  have h1 : i < s.data.size := h
  show s.data.toList.getD i 0 = s.data[i]
  rw [List.getD_eq_getElem?_getD, Array.getElem?_toList, Array.getElem?_eq_getElem h1]
  rfl
theorem not_dig (s : ByteArray) (i : Nat) (h : i < s.size) (hb : hexB (s[i]).toNat = false) : isDigB s = false := by
  unfold isDigB
  cases hq : s.data.toList.all (fun c => hexB c.toNat) with
  | false => simp
  | true =>
    have := (all_iff s _).1 hq i h
    simp only [hb] at this
    cases this
set_option maxHeartbeats 1000000 in
set_option maxRecDepth 100000 in
theorem read_core (s : ByteArray) (w : World) (h64 : s.size = 64) (v : Array Value) (r : Bool) (HV : Hid (r = isDigB s ∧ v = cells8 (if isDigB s then rdTo s 32 else Sha.zeros 32))) :
    Calls Try.prog 59 #[.string s] w fun e w' => e = .returned (.tuple #[.agg v, .bool r]) ∧ Below w.heap.size w w' := by
  have hz4 := (zero_of_info Try.info74).1
  go_enter Try.func59, Try.ntmps59
  go_wp2
  go_loopw [12] (fun i wr => ∃ k : Nat, k ≤ 32 ∧ i = .int .i64 ((k : Nat) : Int) ∧ (∀ j (h : j < s.size), j < 2 * k → hexB (s[j]).toNat = true) ∧ wr.heap[w.heap.size]? = some (.cells (cells8 (Sha.zeros 32)) 74 (0, 0)) ∧ wr.heap[w.heap.size + 1]? = some (.cells (cells8 (rdTo s k)) 74 (0, 0)) ∧ Below w.heap.size w wr)
    (fun i _ => 32 - (intOf i).toNat)
  case atStart => exact ⟨0, by omega, rfl, fun j _ hj => by omega, heap_alloc2_old _ _ _, heap_alloc2_new _ _ _, ((Below.refl _ _).alloc (Nat.le_refl _) _).alloc (by simp) _⟩
  case round =>
    obtain ⟨k, hk, rfl, hall, hr, hv, hb⟩ := hrel
    have HA := hide hall
    clear hall
    by_cases hlt : k < 32
    · have i1 : 2 * k < s.size := by omega
      have i2 : 2 * k + 1 < s.size := by omega
      obtain ⟨x, hx⟩ : ∃ x : Nat, x = (s[2 * k]'i1).toNat := ⟨_, rfl⟩
      obtain ⟨y, hy⟩ : ∃ y : Nat, y = (s[2 * k + 1]'i2).toNat := ⟨_, rfl⟩
      have hx2 : ((s[2 * k]'i1).toNat : Int) = (x : Int) := by rw [hx]
      have hy2 : ((s[2 * k + 1]'i2).toNat : Int) = (y : Int) := by rw [hy]
      have fx := hexIx_facts x (by rw [hx]; exact UInt8.toNat_lt _)
      have fy := hexIx_facts y (by rw [hy]; exact UInt8.toNat_lt _)
      have HX := hide hx
      have HY := hide hy
      clear hx hy
      have cx := fun w => ix_call x w
      have cy := fun w => ix_call y w
      have HCX := hide cx
      have HCY := hide cy
      clear cx cy
      have c0 := row8_cell hv k (by rw [rdTo_len]; omega)
      have f := fun j => frozen_of_row wr (w.heap.size + 1) j _ _ hv
      have hzb := lt_of_row hv
      cases hbx : hexB x with
      | false =>
        have hx1 : hexIx x = -1 := fx.2 hbx
        rw [hx1] at HCX
        have hbad : isDigB s = false := not_dig s _ i1 (by rw [← HX.out]; exact hbx)
        have HBad := hide hbad
        clear fx fy hx1 hbad hbx
        go_wp2_with (first | (go_at_call 41; refine (HCX.out _).mono ?_; rintro e w' ⟨rfl, rfl⟩) | (go_at_call 41; refine (HCY.out _).mono ?_; rintro e w' ⟨rfl, rfl⟩) | (refine wpList_store_row rfl 74 _ _ rfl w.heap.size _ rfl rfl 74 _ hr (size40 _ (Sha.zeros_len _)) rfl (cells8_one _) ?_))
        refine bodyPost_ret (results_cell_tmp Try.results59 _ _ w.heap.size 74 _ (0, 0) _ (.bool false) rfl rfl (setRow_heap _ _ _ _ _ _ hr) Try.underlying74 rfl (size40 _ (Sha.zeros_len _))) rfl ⟨?_, hb.setRow (Nat.le_refl _) _⟩
        rw [HV.out.1, HV.out.2, HBad.out]
        rfl
      | true =>
        cases hby : hexB y with
        | false =>
          have hx1 : hexIx y = -1 := fy.2 hby
          rw [hx1] at HCY
          obtain ⟨a, ha⟩ : ∃ a : Nat, hexIx x = (a : Int) := ⟨(hexIx x).toNat, by have := (fx.1 hbx).1; omega⟩
          rw [ha] at HCX
          have hbad : isDigB s = false := not_dig s _ i2 (by rw [← HY.out]; exact hby)
          have HBad := hide hbad
          clear fx fy hx1 hbad hby hbx ha
          go_wp2_with (first | (go_at_call 41; refine (HCX.out _).mono ?_; rintro e w' ⟨rfl, rfl⟩) | (go_at_call 41; refine (HCY.out _).mono ?_; rintro e w' ⟨rfl, rfl⟩) | (refine wpList_store_row rfl 74 _ _ rfl w.heap.size _ rfl rfl 74 _ hr (size40 _ (Sha.zeros_len _)) rfl (cells8_one _) ?_))
          refine bodyPost_ret (results_cell_tmp Try.results59 _ _ w.heap.size 74 _ (0, 0) _ (.bool false) rfl rfl (setRow_heap _ _ _ _ _ _ hr) Try.underlying74 rfl (size40 _ (Sha.zeros_len _))) rfl ⟨?_, hb.setRow (Nat.le_refl _) _⟩
          rw [HV.out.1, HV.out.2, HBad.out]
          rfl
        | true =>
          obtain ⟨a, ha⟩ : ∃ a : Nat, hexIx x = (a : Int) := ⟨(hexIx x).toNat, by have := (fx.1 hbx).1; omega⟩
          obtain ⟨b, hb'⟩ : ∃ b : Nat, hexIx y = (b : Int) := ⟨(hexIx y).toNat, by have := (fy.1 hby).1; omega⟩
          have la : a < 16 := by have := (fx.1 hbx).2.1; omega
          have lb : b < 16 := by have := (fy.1 hby).2.1; omega
          rw [ha] at HCX
          rw [hb'] at HCY
          have HAB := hide (And.intro ha hb')
          have HBB := hide (And.intro hbx hby)
          clear fx fy ha hb' hbx hby
          go_wp2_with (first | (go_at_call 41; refine (HCX.out _).mono ?_; rintro e w' ⟨rfl, rfl⟩) | (go_at_call 41; refine (HCY.out _).mono ?_; rintro e w' ⟨rfl, rfl⟩))
          go_roundw
          case rel =>
            rw [or16 a b la lb]
            refine ⟨k + 1, by omega, by go_num, fun j h hj => ?_, (heap_setCell_other _ _ _ _ (by simp)).trans hr, ?_, hb.setCell (by simp) _⟩
            · by_cases e1 : j = 2 * k
              · subst e1; rw [← HX.out]; exact HBB.out.1
              · by_cases e2 : j = 2 * k + 1
                · subst e2; rw [← HY.out]; exact HBB.out.2
                · exact HA.out j h (by omega)
            · refine (row8_store _ hv).trans ?_
              have e : rdTo s (k + 1) = (rdTo s k).set k (a * 16 + b) := by
                rw [rdTo, getD_byte s _ i1, getD_byte s _ i2, ← HX.out, ← HY.out, HAB.out.1, HAB.out.2]
                simp
              rw [e]
          case measure => simp [intOf]; omega
    · have hk32 : k = 32 := by omega
      subst hk32
      have hgood : isDigB s = true := by
        unfold isDigB
        have : s.data.toList.all (fun c => hexB c.toNat) = true := (all_iff s _).2 fun j h => HA.out j h (by omega)
        rw [this, h64]
        rfl
      have HG := hide hgood
      clear hgood
      go_wp2_with (first | (refine wpList_load_row rfl 74 _ rfl (w.heap.size + 1) rfl 74 _ _ _ hv Try.underlying74 rfl (size40 _ (rdTo_len _ _)) ?_) | (refine wpList_store_row rfl 74 _ _ rfl w.heap.size _ rfl rfl 74 _ hr (size40 _ (rdTo_len _ _)) (by rw [cells8_size, cells8_size, rdTo_len, Sha.zeros_len]) (cells8_one _) ?_))
      refine bodyPost_ret (results_cell_tmp Try.results59 _ _ w.heap.size 74 _ (0, 0) _ (.bool true) rfl rfl (setRow_heap _ _ _ _ _ _ hr) Try.underlying74 rfl (size40 _ (rdTo_len _ _))) rfl ⟨?_, hb.setRow (Nat.le_refl _) _⟩
      rw [HV.out.1, HV.out.2, HG.out]
      rfl

/-- The digest that has this text. -/
def rd (s : ByteArray) : List Nat := if isDigB s then rdTo s 32 else Sha.zeros 32
theorem read_any (s : ByteArray) (w : World) : Calls Try.prog 59 #[.string s] w fun e w' => e = .returned (.tuple #[.agg (cells8 (rd s)), .bool (isDigB s)]) ∧ Below w.heap.size w w' := by
  by_cases h : s.size = 64
  · exact read_core s w h _ _ (hide ⟨rfl, rfl⟩)
  · have e : isDigB s = false := by simp [isDigB, h]
    have := read_len s w h
    unfold rd
    rw [e]
    exact this
theorem rdTo_at (s : ByteArray) (k : Nat) (hk : k ≤ 32) : ∀ j, j < k → (rdTo s k).getD j 0 = (hexIx (s.data.toList.getD (2 * j) 0).toNat).toNat * 16 + (hexIx (s.data.toList.getD (2 * j + 1) 0).toNat).toNat := by
  induction k with
  | zero => intro j hj; omega
  | succ k ih =>
    intro j hj
    have hl := rdTo_len s k
    by_cases e : j = k
    · subst e
      simp [rdTo, List.getD_eq_getElem?_getD, hl, show j < 32 by omega]
    · have := ih (by omega) j (by omega)
      rw [← this]
      simp [rdTo, List.getD_eq_getElem?_getD, show ¬ k = j from fun h => e h.symm]
theorem rd_len (s : ByteArray) : (rd s).length = 32 := by
  unfold rd; split
  · exact rdTo_len _ _
  · exact Sha.zeros_len _
theorem dig_hex {s : ByteArray} (h : isDigB s = true) : s.size = 64 ∧ ∀ i, i < 64 → hexB (s.data.toList.getD i 0).toNat = true := by
  unfold isDigB at h
  simp only [Bool.and_eq_true, decide_eq_true_iff] at h
  refine ⟨h.1, fun i hi => ?_⟩
  have h2 := (all_iff s _).1 h.2 i (by omega)
  rw [getD_byte s i (by omega)]
  exact h2
theorem rd_text {s : ByteArray} (h : isDigB s = true) : Sha.textTo (rd s) 32 = s.data.toList := by
  obtain ⟨h64, hx⟩ := dig_hex h
  have key : ∀ k, k ≤ 32 → Sha.textTo (rd s) k = s.data.toList.take (2 * k) := by
    intro k
    induction k with
    | zero => intro _; rfl
    | succ k ih =>
      intro hk
      have hl : s.data.toList.length = 64 := by simpa using h64
      have e1 : (rd s).getD k 0 = (hexIx (s.data.toList.getD (2 * k) 0).toNat).toNat * 16 + (hexIx (s.data.toList.getD (2 * k + 1) 0).toNat).toNat := by
        unfold rd; rw [h]; exact rdTo_at s 32 (by omega) k (by omega)
      have f1 := (hexIx_facts _ (UInt8.toNat_lt (s.data.toList.getD (2 * k) 0))).1 (hx _ (by omega))
      have f2 := (hexIx_facts _ (UInt8.toNat_lt (s.data.toList.getD (2 * k + 1) 0))).1 (hx _ (by omega))
      generalize hexIx (s.data.toList.getD (2 * k) 0).toNat = u at e1 f1
      generalize hexIx (s.data.toList.getD (2 * k + 1) 0).toNat = v at e1 f2
      rw [Sha.textTo, ih (by omega), e1, show (u.toNat * 16 + v.toNat) / 16 = u.toNat by omega, show (u.toNat * 16 + v.toNat) % 16 = v.toNat by omega, f1.2.2, f2.2.2]
      rw [show 2 * (k + 1) = 2 * k + 1 + 1 by omega, List.take_succ_eq_append_getElem (by omega), List.take_succ_eq_append_getElem (by omega)]
      have g1 : s.data.toList.getD (2 * k) 0 = s.data.toList[2 * k]'(by omega) := by rw [List.getD_eq_getElem?_getD, List.getElem?_eq_getElem (by omega)]; rfl
      have g2 : s.data.toList.getD (2 * k + 1) 0 = s.data.toList[2 * k + 1]'(by omega) := by rw [List.getD_eq_getElem?_getD, List.getElem?_eq_getElem (by omega)]; rfl
      rw [g1, g2, List.append_assoc]
      simp
  have := key 32 (by omega)
  rw [this, List.take_of_length_le (by simp; exact Nat.le_of_eq h64)]
theorem rd_lt (s : ByteArray) : ∀ i, (rd s).getD i 0 < 256 := by
  intro i
  unfold rd
  cases h : isDigB s with
  | false =>
    simp only [Bool.false_eq_true, if_false, Sha.zeros, List.getD_eq_getElem?_getD, List.getElem?_replicate]
    split <;> decide
  | true =>
    obtain ⟨h64, hx⟩ := dig_hex h
    simp only [if_true]
    by_cases hi : i < 32
    · rw [rdTo_at s 32 (by omega) i hi]
      have f1 := (hexIx_facts _ (UInt8.toNat_lt (s.data.toList.getD (2 * i) 0))).1 (hx _ (by omega))
      have f2 := (hexIx_facts _ (UInt8.toNat_lt (s.data.toList.getD (2 * i + 1) 0))).1 (hx _ (by omega))
      omega
    · have hl := rdTo_len s 32
      simp [List.getD_eq_getElem?_getD, List.getElem?_eq_none (show (rdTo s 32).length ≤ i by omega)]
end Go.Proofs.Ytpgamoielkpakaa
