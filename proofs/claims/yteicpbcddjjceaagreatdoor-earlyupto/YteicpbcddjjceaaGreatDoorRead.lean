/-
  PROVED HERE: what the program's method Text answers for every digest: its 64 letters; nothing that was there has turned.
-/
import Derived.Test.YteicpbcddjjceaaGreatDoorDigLib
import Derived.Deep.RegionLaw
namespace Go.Proofs.YteicpbcddjjceaaGreatDoor
open Go.RowKit
theorem idx40 (bs : List Nat) (k : Nat) (hlen : bs.length = 32) (hk : k < 32) (w : World) : (Instr.index 72 (.agg (cells8 bs)) (.int .i64 ((k : Nat) : Int))).run Tryz.prog w = .ok (.int .u8 ((bs.getD k 0 : Nat) : Int)) w := by
  have hc := cells8_at bs k (by omega)
  simp [Instr.index, asIntOf, run_underlying Tryz.underlying72, part, hc, go_sem]
  omega
theorem mk64 (w : World) : (Instr.makeSlice 124 (.int .i64 0) (.int .i64 64)).run Tryz.prog w = .ok (.slice (some ⟨w.heap.size, 0, none⟩) 0 64) (w.alloc (.cells (cells8 (Sha.zeros 64)) 5)) := by kernel_rfl
theorem Tryz.info5 : (Tryz.prog.info? 5).map (fun i => (i.zero, i.size, i.bytes)) = some (some (.int .u8 0), 1, 1) := by kernel_rfl
/-- The row that the text lies in, behind k bytes. -/
def txt (bs : List Nat) (k : Nat) : List Nat := (Sha.textTo bs k).map (fun c => c.toNat) ++ Sha.zeros (64 - 2 * k)
theorem txt_len (bs : List Nat) (k : Nat) (hk : k ≤ 32) : (txt bs k).length = 64 := by
  simp [txt, Sha.textTo_len, Sha.zeros_len]; omega
theorem spare8 {w : World} {g : Nat} {ws : List Nat} {t : TypeId} (hv : w.heap[g]? = some (.cells (cells8 ws) t (0, 0))) (o : Obj) (i : Nat) (hi : i < ws.length) :
    ((w.alloc o).drew.cell? ⟨g, i, none⟩).isSome = true ∧ (w.alloc o).drew.frozen? ⟨g, i, none⟩ = false := by
  have h : (w.alloc o).drew.heap[g]? = some (.cells (cells8 ws) t (0, 0)) := (Below.heap_alloc w o g (lt_of_row hv)).trans hv
  exact ⟨by rw [row8_cell h i hi]; rfl, frozen_of_row _ _ _ _ _ h⟩
theorem two_new (w : World) (n m : Int) (t : TypeId) : ∀ (j : Nat) (u : Value), [Value.int .u8 n, Value.int .u8 m][j]? = some u → (w.alloc (.cells #[Value.int .u8 n, Value.int .u8 m] t)).drew.cell? ((⟨w.heap.size, 0, none⟩ : Addr).add j) = some u := by
  intro j u hj
  have hadd : (⟨w.heap.size, 0, none⟩ : Addr).add j = ⟨w.heap.size, j, none⟩ := by unfold Addr.add; split <;> simp_all
  rw [hadd]
  have h := cell_of_row (w.alloc (.cells #[Value.int .u8 n, Value.int .u8 m] t)).drew w.heap.size j _ t (0, 0) (heap_alloc_new w _)
  rw [h]
  simpa using hj
theorem two_set {w : World} {g : Nat} {ws : List Nat} {t : TypeId} (hv : w.heap[g]? = some (.cells (cells8 ws) t (0, 0))) (i n m : Nat) :
    (w.setCells g i [.int .u8 ((n : Nat) : Int), .int .u8 ((m : Nat) : Int)]).heap[g]? = some (.cells (cells8 ((ws.set i n).set (i + 1) m)) t (0, 0)) := by
  exact row8_store m (row8_store n hv)
theorem two_row {w : World} {g : Nat} {ws : List Nat} {t : TypeId} (hv : w.heap[g]? = some (.cells (cells8 ws) t (0, 0))) (o : Obj) (i n m : Nat) :
    ((w.alloc o).drew.setCells g i [.int .u8 ((n : Nat) : Int), .int .u8 ((m : Nat) : Int)]).heap[g]? = some (.cells (cells8 ((ws.set i n).set (i + 1) m)) t (0, 0)) :=
  two_set (w := (w.alloc o).drew) ((Below.heap_alloc w o g (lt_of_row hv)).trans hv) i n m
theorem two_below {B : Nat} {a w : World} (h : Below B a w) {g : Nat} (hg : B ≤ g) (i : Nat) (x y : Value) : Below B a (w.setCells g i [x, y]) :=
  (h.setCell (p := ⟨g, i, none⟩) hg x).setCell (p := ⟨g, i + 1, none⟩) hg y
theorem hex_at (p : Nat) (hp : p < 16) {h : p < (ByteArray.mk #[48, 49, 50, 51, 52, 53, 54, 55, 56, 57, 97, 98, 99, 100, 101, 102]).size} : (ByteArray.mk #[48, 49, 50, 51, 52, 53, 54, 55, 56, 57, 97, 98, 99, 100, 101, 102])[p]'h = Sha.hexd p := by
  rcases (show p = 0 ∨ p = 1 ∨ p = 2 ∨ p = 3 ∨ p = 4 ∨ p = 5 ∨ p = 6 ∨ p = 7 ∨ p = 8 ∨ p = 9 ∨ p = 10 ∨ p = 11 ∨ p = 12 ∨ p = 13 ∨ p = 14 ∨ p = 15 by omega) with rfl | rfl | rfl | rfl | rfl | rfl | rfl | rfl | rfl | rfl | rfl | rfl | rfl | rfl | rfl | rfl <;> rfl
theorem txt_next (bs : List Nat) (k : Nat) (hk : k < 32) : txt bs (k + 1) = ((txt bs k).set (2 * k) (Sha.hexd (bs.getD k 0 / 16)).toNat).set (2 * k + 1) (Sha.hexd (bs.getD k 0 % 16)).toNat := by
  have hl : ((Sha.textTo bs k).map (fun c => c.toNat)).length = 2 * k := by simp [Sha.textTo_len]
  obtain ⟨r, hr⟩ : ∃ r, 64 - 2 * k = r + 2 := ⟨62 - 2 * k, by omega⟩
  have hr2 : 64 - 2 * (k + 1) = r := by omega
  unfold txt
  rw [hr, hr2]
  generalize hm : (Sha.textTo bs k).map (fun c => c.toNat) = m at hl
  have e : Sha.zeros (r + 2) = 0 :: 0 :: Sha.zeros r := by simp [Sha.zeros, List.replicate_succ]
  rw [e, List.set_append_right _ _ (by omega), List.set_append_right _ _ (by omega), hl, Nat.sub_self, show 2 * k + 1 - 2 * k = 1 by omega]
  simp [Sha.textTo, hm]
theorem txt_cells {w : World} {g : Nat} {t : TypeId} {bs : List Nat} (hv : w.heap[g]? = some (.cells (cells8 (txt bs 32)) t (0, 0))) :
    ∀ j (hj : j < (Sha.textTo bs 32).length), w.cell? ((⟨g, 0, none⟩ : Addr).add j) = some (.int .u8 ((Sha.textTo bs 32)[j].toNat : Int)) := by
  intro j hj
  have hadd : (⟨g, 0, none⟩ : Addr).add j = ⟨g, j, none⟩ := by unfold Addr.add; split <;> simp_all
  have hl := Sha.textTo_len bs 32
  rw [hadd, row8_cell hv j (by rw [txt_len bs 32 (by omega)]; omega)]
  have e : (txt bs 32).getD j 0 = (Sha.textTo bs 32)[j].toNat := by
    simp [txt, List.getD_eq_getElem?_getD, List.getElem?_append, hj]
  rw [e]
theorem two_one (n m : Int) : ∀ u ∈ [Value.int .u8 n, Value.int .u8 m], u.oneCell' = true := by simp [Value.oneCell']
set_option maxHeartbeats 1000000 in
set_option maxRecDepth 100000 in
theorem text_any (bs : List Nat) (w : World) (hlen : bs.length = 32) (hlt : ∀ i, bs.getD i 0 < 256) :
    Calls Tryz.prog 23 #[.agg (cells8 bs)] w fun e w' => e = .returned (.string ⟨(Sha.textTo bs 32).toArray⟩) ∧ Below w.heap.size w w' := by
  have hmk := mk64
  obtain ⟨i0, hi, hz0, hz1, hz2⟩ := info_parts Tryz.info5
  go_enter Tryz.func23, Tryz.ntmps23
  go_wp2_with (refine wpList_load_row rfl 72 _ rfl w.heap.size rfl 72 _ _ _ (heap_alloc2_old _ _ _) Tryz.underlying72 rfl (by rw [cells8_size, hlen]; exact size40_32) ?_)
  go_loopw [3, 8] (fun v i wr => ∃ k : Nat, k ≤ 32 ∧ i = .int .i64 ((k : Nat) : Int) ∧ v = .slice (some ⟨w.heap.size + 1, 0, none⟩) (2 * k) 64 ∧ wr.heap[w.heap.size + 1]? = some (.cells (cells8 (txt bs k)) 5 (0, 0)) ∧ Below w.heap.size w wr)
    (fun _ i _ => 32 - (intOf i).toNat)
  case atStart => exact ⟨0, by omega, rfl, rfl, heap_alloc2_new _ _ _, ((Below.refl _ _).alloc (Nat.le_refl _) _).alloc (by simp) _⟩
  case round =>
    obtain ⟨k, hk, rfl, rfl, hv, hb⟩ := hrel
    by_cases hk2 : k < 32
    · have hidx := fun w => idx40 bs k hlen hk2 w
      have hx2 := hlt k
      generalize hx : bs.getD k 0 = x at hidx hx2
      have HX := hide hx
      clear hx hlt hmk
      have hzb := lt_of_row hv
      obtain ⟨p, hp⟩ : ∃ p, p = x / 16 := ⟨_, rfl⟩
      obtain ⟨q, hq⟩ : ∃ q, q = x % 16 := ⟨_, rfl⟩
      have rp : (x : Int) / 16 = (p : Int) := by omega
      have rq : bits .and .u8 (x : Int) 15 = (q : Int) := by rw [show (15 : Int) = ((15 : Nat) : Int) from rfl, u8_and_nat _ _ (by omega) (by omega), nat_mask4, hq]
      have p1 : (p : Int) < 16 := by omega
      have q1 : (q : Int) < 16 := by omega
      have p2 : p < 16 := by omega
      have q2 : q < 16 := by omega
      have HP := hide hp
      have HQ := hide hq
      clear hp hq
      have hsp : ∀ (o : Obj) j, j < 2 → ((wr.alloc o).drew.cell? ⟨w.heap.size + 1, 0 + 2 * k * 1 + j, none⟩).isSome = true ∧ (wr.alloc o).drew.frozen? ⟨w.heap.size + 1, 0 + 2 * k * 1 + j, none⟩ = false := fun o j hj => spare8 hv o _ (by rw [txt_len bs k hk]; omega)
      have HS := hide hsp
      clear hsp
      go_wp2
      go_region_law ((refine step_append_room rfl (.tmp 11) (.tmp 18) 124 rfl 5 i0 1 Tryz.underlying124 hi hz1 (w.heap.size + 1) 0 (2 * k) 64 rfl ⟨wr.heap.size, 0, none⟩ 2 2 [_, _] rfl rfl (two_new wr _ _ 5) (two_one _ _) (by omega) (fun j hj => HS.out _ j hj) ?_))
      all_goals
        go_wp2
        go_roundw
        case rel =>
          refine ⟨k + 1, by omega, by go_num, by rw [Nat.mul_add], ?_, ?_⟩
          · rw [hex_at p p2, hex_at q q2]
            refine (two_row hv _ _ _ _).trans ?_
            rw [txt_next bs k hk2, HX.out, ← HP.out, ← HQ.out]
          · exact two_below ((hb.alloc hb.size _).drew) (by omega) _ _ _
        case measure => simp [intOf]; omega
    · have HK : Hid (k = 32) := by show k = 32; omega
      have hv2 : wr.heap[w.heap.size + 1]? = some (.cells (cells8 (txt bs 32)) 5 (0, 0)) := by rw [← HK.out]; exact hv
      have hcv : (convert 124 9 (.slice (some ⟨w.heap.size + 1, 0, none⟩) (2 * k) 64)).run Tryz.prog wr = .ok (.string ⟨(Sha.textTo bs 32).toArray⟩) wr := by
        rw [show 2 * k = (Sha.textTo bs 32).length by rw [Sha.textTo_len, HK.out]]
        exact run_convert_bytes_back (P := Tryz.prog) wr 124 9 5 ⟨w.heap.size + 1, 0, none⟩ 64 (Sha.textTo bs 32) Tryz.underlying124 Tryz.underlying5 Tryz.underlying9 (txt_cells hv2)
      clear hmk
      go_wp2
      go_ret
      exact ⟨rfl, hb⟩
end Go.Proofs.YteicpbcddjjceaaGreatDoor

/-
  PROVED HERE: what the program's function Read of package digest answers for every string: the digest that has this text, or that there is none; nothing that was there has turned.
-/
namespace Go.Proofs.YteicpbcddjjceaaGreatDoor
open Go.RowKit
def hexIx (c : Nat) : Int := Lib.indexByte [48, 49, 50, 51, 52, 53, 54, 55, 56, 57, 97, 98, 99, 100, 101, 102] c.toUInt8
theorem hexIx_facts (c : Nat) (h : c < 256) : (hexB c = true → 0 ≤ hexIx c ∧ hexIx c < 16 ∧ Sha.hexd (hexIx c).toNat = c.toUInt8) ∧ (hexB c = false → hexIx c = -1) := by
  have : ∀ n, n < 256 → (hexB n = true → 0 ≤ hexIx n ∧ hexIx n < 16 ∧ Sha.hexd (hexIx n).toNat = n.toUInt8) ∧ (hexB n = false → hexIx n = -1) := by decide +kernel
  exact this c h
theorem ix_call (x : Nat) (w : World) : Calls Tryz.prog 65 #[.string ⟨#[48, 49, 50, 51, 52, 53, 54, 55, 56, 57, 97, 98, 99, 100, 101, 102]⟩, .int .u8 (x : Int)] w fun e w' => e = .returned (.int .i64 (hexIx x)) ∧ w' = w :=
  Tryz.strings_IndexByte _ (x : Int) w

theorem results_cell_tmp {P : Program} {fn : Func} {p q : Tmp} {ty : TypeId} (h : fn.results = #[.cell p ty, .tmp q]) (tmps : Array Value) (w : World) (g : Nat) (t : TypeId) (cs : Array Value) (fr : Nat × Nat) (d : TypeDesc) (v : Value)
    (hp : tmps.getD p undef = .pointer (some ⟨g, 0, none⟩)) (hq : tmps.getD q undef = v) (hg : w.heap[g]? = some (.cells cs t fr))
    (hu : P.underlying ty = some d) (hd : (match d with | .struct _ | .array _ _ => true | _ => false) = true) (hi : (P.info? ty).map (·.size) = some cs.size) :
    (results fn tmps).run P w = .ok (.tuple #[.agg cs, v]) w := by
  have hp' : tmps[p]?.getD undef = .pointer (some ⟨g, 0, none⟩) := by simpa using hp
  have hq' : tmps[q]?.getD undef = v := by simpa using hq
  simp [results, h, hp', hq', asAddr, run_loadVar_row w g t ty cs fr d hg hu hd hi]
theorem size40 (l : List Nat) (h : l.length = 32) : (Tryz.prog.info? 72).map (·.size) = some (cells8 l).size := by rw [cells8_size, h]; exact size40_32

set_option maxHeartbeats 1000000 in
set_option maxRecDepth 100000 in
theorem read_len (s : ByteArray) (w : World) (h64 : s.size ≠ 64) :
    Calls Tryz.prog 69 #[.string s] w fun e w' => e = .returned (.tuple #[.agg (cells8 (Sha.zeros 32)), .bool false]) ∧ Below w.heap.size w w' := by
  have hz4 := (zero_of_info Tryz.info72).1
  have e64 : ((s.size : Int) != 64) = true := by simp; omega
  go_enter Tryz.func69, Tryz.ntmps69
  go_wp2_with (refine wpList_store_row rfl 72 _ _ rfl w.heap.size _ rfl rfl 72 _ (heap_alloc_new _ _) (size40 _ (Sha.zeros_len _)) rfl (cells8_one _) ?_; rw [World.setRow_alloc_new])
  exact bodyPost_ret (results_cell_tmp Tryz.results69 _ _ w.heap.size 72 _ (0, 0) _ (.bool false) rfl rfl (heap_alloc_new _ _) Tryz.underlying72 rfl (size40 _ (Sha.zeros_len _))) rfl ⟨rfl, (Below.refl _ _).alloc (Nat.le_refl _) _⟩

/-- The bytes behind k of the loop's rounds. -/
def rdTo (s : ByteArray) : Nat → List Nat
  | 0 => Sha.zeros 32
  | k + 1 => (rdTo s k).set k ((hexIx (s.data.toList.getD (2 * k) 0).toNat).toNat * 16 + (hexIx (s.data.toList.getD (2 * k + 1) 0).toNat).toNat)
theorem rdTo_len (s : ByteArray) (k : Nat) : (rdTo s k).length = 32 := by
  induction k with
  | zero => exact Sha.zeros_len _
  | succ k ih => simp [rdTo, ih]
theorem or16 (a b : Nat) (ha : a < 16) (hb : b < 16) : bits .or .i64 ((a : Int) * 16) (b : Int) % 256 = ((a * 16 + b : Nat) : Int) := by
  have : ∀ a : Nat, a < 16 → ∀ b : Nat, b < 16 → bits .or .i64 ((a : Int) * 16) (b : Int) % 256 = ((a * 16 + b : Nat) : Int) := by decide +kernel
  exact this a ha b hb
theorem getD_byte (s : ByteArray) (i : Nat) (h : i < s.size) : s.data.toList.getD i 0 = s[i] := by
  have h1 : i < s.data.size := h
  show s.data.toList.getD i 0 = s.data[i]
  rw [List.getD_eq_getElem?_getD, Array.getElem?_toList, Array.getElem?_eq_getElem h1]
  rfl
theorem not_dig (s : ByteArray) (i : Nat) (h : i < s.size) (hb : hexB (s[i]).toNat = false) : isDigB s = false := by
  unfold isDigB
  cases hq : s.data.toList.all (fun c => hexB c.toNat) with
  | false => simp
  | true =>
    have := (all_iff s _).1 hq i h
    simp only [hb] at this
    cases this
set_option maxHeartbeats 1000000 in
set_option maxRecDepth 100000 in
theorem read_core (s : ByteArray) (w : World) (h64 : s.size = 64) (v : Array Value) (r : Bool) (HV : Hid (r = isDigB s ∧ v = cells8 (if isDigB s then rdTo s 32 else Sha.zeros 32))) :
    Calls Tryz.prog 69 #[.string s] w fun e w' => e = .returned (.tuple #[.agg v, .bool r]) ∧ Below w.heap.size w w' := by
  have hz4 := (zero_of_info Tryz.info72).1
  go_enter Tryz.func69, Tryz.ntmps69
  go_wp2
  go_loopw [12] (fun i wr => ∃ k : Nat, k ≤ 32 ∧ i = .int .i64 ((k : Nat) : Int) ∧ (∀ j (h : j < s.size), j < 2 * k → hexB (s[j]).toNat = true) ∧ wr.heap[w.heap.size]? = some (.cells (cells8 (Sha.zeros 32)) 72 (0, 0)) ∧ wr.heap[w.heap.size + 1]? = some (.cells (cells8 (rdTo s k)) 72 (0, 0)) ∧ Below w.heap.size w wr)
    (fun i _ => 32 - (intOf i).toNat)
  case atStart => exact ⟨0, by omega, rfl, fun j _ hj => by omega, heap_alloc2_old _ _ _, heap_alloc2_new _ _ _, ((Below.refl _ _).alloc (Nat.le_refl _) _).alloc (by simp) _⟩
  case round =>
    obtain ⟨k, hk, rfl, hall, hr, hv, hb⟩ := hrel
    have HA := hide hall
    clear hall
    by_cases hlt : k < 32
    · have i1 : 2 * k < s.size := by omega
      have i2 : 2 * k + 1 < s.size := by omega
      obtain ⟨x, hx⟩ : ∃ x : Nat, x = (s[2 * k]'i1).toNat := ⟨_, rfl⟩
      obtain ⟨y, hy⟩ : ∃ y : Nat, y = (s[2 * k + 1]'i2).toNat := ⟨_, rfl⟩
      have hx2 : ((s[2 * k]'i1).toNat : Int) = (x : Int) := by rw [hx]
      have hy2 : ((s[2 * k + 1]'i2).toNat : Int) = (y : Int) := by rw [hy]
      have fx := hexIx_facts x (by rw [hx]; exact UInt8.toNat_lt _)
      have fy := hexIx_facts y (by rw [hy]; exact UInt8.toNat_lt _)
      have HX := hide hx
      have HY := hide hy
      clear hx hy
      have cx := fun w => ix_call x w
      have cy := fun w => ix_call y w
      have HCX := hide cx
      have HCY := hide cy
      clear cx cy
      have c0 := row8_cell hv k (by rw [rdTo_len]; omega)
      have f := fun j => frozen_of_row wr (w.heap.size + 1) j _ _ hv
      have hzb := lt_of_row hv
      cases hbx : hexB x with
      | false =>
        have hx1 : hexIx x = -1 := fx.2 hbx
        rw [hx1] at HCX
        have hbad : isDigB s = false := not_dig s _ i1 (by rw [← HX.out]; exact hbx)
        have HBad := hide hbad
        clear fx fy hx1 hbad hbx
        go_wp2_with (first | (go_at_call 65; refine (HCX.out _).mono ?_; rintro e w' ⟨rfl, rfl⟩) | (go_at_call 65; refine (HCY.out _).mono ?_; rintro e w' ⟨rfl, rfl⟩) | (refine wpList_store_row rfl 72 _ _ rfl w.heap.size _ rfl rfl 72 _ hr (size40 _ (Sha.zeros_len _)) rfl (cells8_one _) ?_))
        refine bodyPost_ret (results_cell_tmp Tryz.results69 _ _ w.heap.size 72 _ (0, 0) _ (.bool false) rfl rfl (setRow_heap _ _ _ _ _ _ hr) Tryz.underlying72 rfl (size40 _ (Sha.zeros_len _))) rfl ⟨?_, hb.setRow (Nat.le_refl _) _⟩
        rw [HV.out.1, HV.out.2, HBad.out]
        rfl
      | true =>
        cases hby : hexB y with
        | false =>
          have hx1 : hexIx y = -1 := fy.2 hby
          rw [hx1] at HCY
          obtain ⟨a, ha⟩ : ∃ a : Nat, hexIx x = (a : Int) := ⟨(hexIx x).toNat, by have := (fx.1 hbx).1; omega⟩
          rw [ha] at HCX
          have hbad : isDigB s = false := not_dig s _ i2 (by rw [← HY.out]; exact hby)
          have HBad := hide hbad
          clear fx fy hx1 hbad hby hbx ha
          go_wp2_with (first | (go_at_call 65; refine (HCX.out _).mono ?_; rintro e w' ⟨rfl, rfl⟩) | (go_at_call 65; refine (HCY.out _).mono ?_; rintro e w' ⟨rfl, rfl⟩) | (refine wpList_store_row rfl 72 _ _ rfl w.heap.size _ rfl rfl 72 _ hr (size40 _ (Sha.zeros_len _)) rfl (cells8_one _) ?_))
          refine bodyPost_ret (results_cell_tmp Tryz.results69 _ _ w.heap.size 72 _ (0, 0) _ (.bool false) rfl rfl (setRow_heap _ _ _ _ _ _ hr) Tryz.underlying72 rfl (size40 _ (Sha.zeros_len _))) rfl ⟨?_, hb.setRow (Nat.le_refl _) _⟩
          rw [HV.out.1, HV.out.2, HBad.out]
          rfl
        | true =>
          obtain ⟨a, ha⟩ : ∃ a : Nat, hexIx x = (a : Int) := ⟨(hexIx x).toNat, by have := (fx.1 hbx).1; omega⟩
          obtain ⟨b, hb'⟩ : ∃ b : Nat, hexIx y = (b : Int) := ⟨(hexIx y).toNat, by have := (fy.1 hby).1; omega⟩
          have la : a < 16 := by have := (fx.1 hbx).2.1; omega
          have lb : b < 16 := by have := (fy.1 hby).2.1; omega
          rw [ha] at HCX
          rw [hb'] at HCY
          have HAB := hide (And.intro ha hb')
          have HBB := hide (And.intro hbx hby)
          clear fx fy ha hb' hbx hby
          go_wp2_with (first | (go_at_call 65; refine (HCX.out _).mono ?_; rintro e w' ⟨rfl, rfl⟩) | (go_at_call 65; refine (HCY.out _).mono ?_; rintro e w' ⟨rfl, rfl⟩))
          go_roundw
          case rel =>
            rw [or16 a b la lb]
            refine ⟨k + 1, by omega, by go_num, fun j h hj => ?_, (heap_setCell_other _ _ _ _ (by simp)).trans hr, ?_, hb.setCell (by simp) _⟩
            · by_cases e1 : j = 2 * k
              · subst e1; rw [← HX.out]; exact HBB.out.1
              · by_cases e2 : j = 2 * k + 1
                · subst e2; rw [← HY.out]; exact HBB.out.2
                · exact HA.out j h (by omega)
            · refine (row8_store _ hv).trans ?_
              have e : rdTo s (k + 1) = (rdTo s k).set k (a * 16 + b) := by
                rw [rdTo, getD_byte s _ i1, getD_byte s _ i2, ← HX.out, ← HY.out, HAB.out.1, HAB.out.2]
                simp
              rw [e]
          case measure => simp [intOf]; omega
    · have hk32 : k = 32 := by omega
      subst hk32
      have hgood : isDigB s = true := by
        unfold isDigB
        have : s.data.toList.all (fun c => hexB c.toNat) = true := (all_iff s _).2 fun j h => HA.out j h (by omega)
        rw [this, h64]
        rfl
      have HG := hide hgood
      clear hgood
      go_wp2_with (first | (refine wpList_load_row rfl 72 _ rfl (w.heap.size + 1) rfl 72 _ _ _ hv Tryz.underlying72 rfl (size40 _ (rdTo_len _ _)) ?_) | (refine wpList_store_row rfl 72 _ _ rfl w.heap.size _ rfl rfl 72 _ hr (size40 _ (rdTo_len _ _)) (by rw [cells8_size, cells8_size, rdTo_len, Sha.zeros_len]) (cells8_one _) ?_))
      refine bodyPost_ret (results_cell_tmp Tryz.results69 _ _ w.heap.size 72 _ (0, 0) _ (.bool true) rfl rfl (setRow_heap _ _ _ _ _ _ hr) Tryz.underlying72 rfl (size40 _ (rdTo_len _ _))) rfl ⟨?_, hb.setRow (Nat.le_refl _) _⟩
      rw [HV.out.1, HV.out.2, HG.out]
      rfl

/-- The digest that has this text. -/
def rd (s : ByteArray) : List Nat := if isDigB s then rdTo s 32 else Sha.zeros 32
theorem read_any (s : ByteArray) (w : World) : Calls Tryz.prog 69 #[.string s] w fun e w' => e = .returned (.tuple #[.agg (cells8 (rd s)), .bool (isDigB s)]) ∧ Below w.heap.size w w' := by
  by_cases h : s.size = 64
  · exact read_core s w h _ _ (hide ⟨rfl, rfl⟩)
  · have e : isDigB s = false := by simp [isDigB, h]
    have := read_len s w h
    unfold rd
    rw [e]
    exact this
theorem rdTo_at (s : ByteArray) (k : Nat) (hk : k ≤ 32) : ∀ j, j < k → (rdTo s k).getD j 0 = (hexIx (s.data.toList.getD (2 * j) 0).toNat).toNat * 16 + (hexIx (s.data.toList.getD (2 * j + 1) 0).toNat).toNat := by
  induction k with
  | zero => intro j hj; omega
  | succ k ih =>
    intro j hj
    have hl := rdTo_len s k
    by_cases e : j = k
    · subst e
      simp [rdTo, List.getD_eq_getElem?_getD, hl, show j < 32 by omega]
    · have := ih (by omega) j (by omega)
      rw [← this]
      simp [rdTo, List.getD_eq_getElem?_getD, show ¬ k = j from fun h => e h.symm]
theorem rd_len (s : ByteArray) : (rd s).length = 32 := by
  unfold rd; split
  · exact rdTo_len _ _
  · exact Sha.zeros_len _
theorem dig_hex {s : ByteArray} (h : isDigB s = true) : s.size = 64 ∧ ∀ i, i < 64 → hexB (s.data.toList.getD i 0).toNat = true := by
  unfold isDigB at h
  simp only [Bool.and_eq_true, decide_eq_true_iff] at h
  refine ⟨h.1, fun i hi => ?_⟩
  have h2 := (all_iff s _).1 h.2 i (by omega)
  rw [getD_byte s i (by omega)]
  exact h2
theorem rd_text {s : ByteArray} (h : isDigB s = true) : Sha.textTo (rd s) 32 = s.data.toList := by
  obtain ⟨h64, hx⟩ := dig_hex h
  have key : ∀ k, k ≤ 32 → Sha.textTo (rd s) k = s.data.toList.take (2 * k) := by
    intro k
    induction k with
    | zero => intro _; rfl
    | succ k ih =>
      intro hk
      have hl : s.data.toList.length = 64 := by simpa using h64
      have e1 : (rd s).getD k 0 = (hexIx (s.data.toList.getD (2 * k) 0).toNat).toNat * 16 + (hexIx (s.data.toList.getD (2 * k + 1) 0).toNat).toNat := by
        unfold rd; rw [h]; exact rdTo_at s 32 (by omega) k (by omega)
      have f1 := (hexIx_facts _ (UInt8.toNat_lt (s.data.toList.getD (2 * k) 0))).1 (hx _ (by omega))
      have f2 := (hexIx_facts _ (UInt8.toNat_lt (s.data.toList.getD (2 * k + 1) 0))).1 (hx _ (by omega))
      generalize hexIx (s.data.toList.getD (2 * k) 0).toNat = u at e1 f1
      generalize hexIx (s.data.toList.getD (2 * k + 1) 0).toNat = v at e1 f2
      rw [Sha.textTo, ih (by omega), e1, show (u.toNat * 16 + v.toNat) / 16 = u.toNat by omega, show (u.toNat * 16 + v.toNat) % 16 = v.toNat by omega, f1.2.2, f2.2.2]
      rw [show 2 * (k + 1) = 2 * k + 1 + 1 by omega, List.take_succ_eq_append_getElem (by omega), List.take_succ_eq_append_getElem (by omega)]
      have g1 : s.data.toList.getD (2 * k) 0 = s.data.toList[2 * k]'(by omega) := by rw [List.getD_eq_getElem?_getD, List.getElem?_eq_getElem (by omega)]; rfl
      have g2 : s.data.toList.getD (2 * k + 1) 0 = s.data.toList[2 * k + 1]'(by omega) := by rw [List.getD_eq_getElem?_getD, List.getElem?_eq_getElem (by omega)]; rfl
      rw [g1, g2, List.append_assoc]
      simp
  have := key 32 (by omega)
  rw [this, List.take_of_length_le (by simp; exact Nat.le_of_eq h64)]
theorem rd_lt (s : ByteArray) : ∀ i, (rd s).getD i 0 < 256 := by
  intro i
  unfold rd
  cases h : isDigB s with
  | false =>
    simp only [Bool.false_eq_true, if_false, Sha.zeros, List.getD_eq_getElem?_getD, List.getElem?_replicate]
    split <;> decide
  | true =>
    obtain ⟨h64, hx⟩ := dig_hex h
    simp only [if_true]
    by_cases hi : i < 32
    · rw [rdTo_at s 32 (by omega) i hi]
      have f1 := (hexIx_facts _ (UInt8.toNat_lt (s.data.toList.getD (2 * i) 0))).1 (hx _ (by omega))
      have f2 := (hexIx_facts _ (UInt8.toNat_lt (s.data.toList.getD (2 * i + 1) 0))).1 (hx _ (by omega))
      omega
    · have hl := rdTo_len s 32
      simp [List.getD_eq_getElem?_getD, List.getElem?_eq_none (show (rdTo s 32).length ≤ i by omega)]
end Go.Proofs.YteicpbcddjjceaaGreatDoor
