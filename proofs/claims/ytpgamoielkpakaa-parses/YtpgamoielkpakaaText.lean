/-
  PROVED HERE: what the program's method Text answers for every digest: its 64 letters; nothing that was there has turned.
-/
import Derived.Test.YtpgamoielkpakaaDigLib
import Derived.Deep.RegionLaw
namespace Go.Proofs.Ytpgamoielkpakaa
open Go.RowKit
theorem idx40 (bs : List Nat) (k : Nat) (hlen : bs.length = 32) (hk : k < 32) (w : World) : (Instr.index 74 (.agg (cells8 bs)) (.int .i64 ((k : Nat) : Int))).run Try.prog w = .ok (.int .u8 ((bs.getD k 0 : Nat) : Int)) w := by
  have hc := cells8_at bs k (by omega)
  simp [Instr.index, asIntOf, run_underlying Try.underlying74, part, hc, go_sem]
  omega
theorem mk64 (w : World) : (Instr.makeSlice 84 (.int .i64 0) (.int .i64 64)).run Try.prog w = .ok (.slice (some ⟨w.heap.size, 0, none⟩) 0 64) (w.alloc (.cells (cells8 (Sha.zeros 64)) 5)) := by kernel_rfl
theorem Try.info5 : (Try.prog.info? 5).map (fun i => (i.zero, i.size, i.bytes)) = some (some (.int .u8 0), 1, 1) := by kernel_rfl
/-- The row that the text lies in, behind k bytes. -/
def txt (bs : List Nat) (k : Nat) : List Nat := (Sha.textTo bs k).map (fun c => c.toNat) ++ Sha.zeros (64 - 2 * k)
theorem txt_len (bs : List Nat) (k : Nat) (hk : k ≤ 32) : (txt bs k).length = 64 := by
  simp [txt, Sha.textTo_len, Sha.zeros_len]; omega
theorem spare8 {w : World} {g : Nat} {ws : List Nat} {t : TypeId} (hv : w.heap[g]? = some (.cells (cells8 ws) t (0, 0))) (o : Obj) (i : Nat) (hi : i < ws.length) :
    ((w.alloc o).drew.cell? ⟨g, i, none⟩).isSome = true ∧ (w.alloc o).drew.frozen? ⟨g, i, none⟩ = false := by
  have h : (w.alloc o).drew.heap[g]? = some (.cells (cells8 ws) t (0, 0)) := (Below.heap_alloc w o g (lt_of_row hv)).trans hv
  exact ⟨by rw [row8_cell h i hi]; rfl, frozen_of_row _ _ _ _ _ h⟩
theorem two_new (w : World) (n m : Int) (t : TypeId) : ∀ (j : Nat) (u : Value), [Value.int .u8 n, Value.int .u8 m][j]? = some u → (w.alloc (.cells #[Value.int .u8 n, Value.int .u8 m] t)).drew.cell? ((⟨w.heap.size, 0, none⟩ : Addr).add j) = some u := by
  intro j u hj
  have hadd : (⟨w.heap.size, 0, none⟩ : Addr).add j = ⟨w.heap.size, j, none⟩ := by unfold Addr.add; split <;> simp_all
  rw [hadd]
  have h := cell_of_row (w.alloc (.cells #[Value.int .u8 n, Value.int .u8 m] t)).drew w.heap.size j _ t (0, 0) (heap_alloc_new w _)
  rw [h]
  simpa using hj
theorem two_set {w : World} {g : Nat} {ws : List Nat} {t : TypeId} (hv : w.heap[g]? = some (.cells (cells8 ws) t (0, 0))) (i n m : Nat) :
    (w.setCells g i [.int .u8 ((n : Nat) : Int), .int .u8 ((m : Nat) : Int)]).heap[g]? = some (.cells (cells8 ((ws.set i n).set (i + 1) m)) t (0, 0)) := by
  exact row8_store m (row8_store n hv)
theorem two_row {w : World} {g : Nat} {ws : List Nat} {t : TypeId} (hv : w.heap[g]? = some (.cells (cells8 ws) t (0, 0))) (o : Obj) (i n m : Nat) :
    ((w.alloc o).drew.setCells g i [.int .u8 ((n : Nat) : Int), .int .u8 ((m : Nat) : Int)]).heap[g]? = some (.cells (cells8 ((ws.set i n).set (i + 1) m)) t (0, 0)) :=
  two_set (w := (w.alloc o).drew) ((Below.heap_alloc w o g (lt_of_row hv)).trans hv) i n m
theorem two_below {B : Nat} {a w : World} (h : Below B a w) {g : Nat} (hg : B ≤ g) (i : Nat) (x y : Value) : Below B a (w.setCells g i [x, y]) :=
  (h.setCell (p := ⟨g, i, none⟩) hg x).setCell (p := ⟨g, i + 1, none⟩) hg y
theorem hex_at (p : Nat) (hp : p < 16) {h : p < (ByteArray.mk #[48, 49, 50, 51, 52, 53, 54, 55, 56, 57, 97, 98, 99, 100, 101, 102]).size} : (ByteArray.mk #[48, 49, 50, 51, 52, 53, 54, 55, 56, 57, 97, 98, 99, 100, 101, 102])[p]'h = Sha.hexd p := by
  rcases (show p = 0 ∨ p = 1 ∨ p = 2 ∨ p = 3 ∨ p = 4 ∨ p = 5 ∨ p = 6 ∨ p = 7 ∨ p = 8 ∨ p = 9 ∨ p = 10 ∨ p = 11 ∨ p = 12 ∨ p = 13 ∨ p = 14 ∨ p = 15 by omega) with rfl | rfl | rfl | rfl | rfl | rfl | rfl | rfl | rfl | rfl | rfl | rfl | rfl | rfl | rfl | rfl <;> rfl
theorem txt_next (bs : List Nat) (k : Nat) (hk : k < 32) : txt bs (k + 1) = ((txt bs k).set (2 * k) (Sha.hexd (bs.getD k 0 / 16)).toNat).set (2 * k + 1) (Sha.hexd (bs.getD k 0 % 16)).toNat := by
  have hl : ((Sha.textTo bs k).map (fun c => c.toNat)).length = 2 * k := by simp [Sha.textTo_len]
  obtain ⟨r, hr⟩ : ∃ r, 64 - 2 * k = r + 2 := ⟨62 - 2 * k, by omega⟩
  have hr2 : 64 - 2 * (k + 1) = r := by omega
  unfold txt
  rw [hr, hr2]
  generalize hm : (Sha.textTo bs k).map (fun c => c.toNat) = m at hl
  have e : Sha.zeros (r + 2) = 0 :: 0 :: Sha.zeros r := by simp [Sha.zeros, List.replicate_succ]
  rw [e, List.set_append_right _ _ (by omega), List.set_append_right _ _ (by omega), hl, Nat.sub_self, show 2 * k + 1 - 2 * k = 1 by omega]
  simp [Sha.textTo, hm]
theorem txt_cells {w : World} {g : Nat} {t : TypeId} {bs : List Nat} (hv : w.heap[g]? = some (.cells (cells8 (txt bs 32)) t (0, 0))) :
    ∀ j (hj : j < (Sha.textTo bs 32).length), w.cell? ((⟨g, 0, none⟩ : Addr).add j) = some (.int .u8 ((Sha.textTo bs 32)[j].toNat : Int)) := by
  intro j hj
  have hadd : (⟨g, 0, none⟩ : Addr).add j = ⟨g, j, none⟩ := by unfold Addr.add; split <;> simp_all
  have hl := Sha.textTo_len bs 32
  rw [hadd, row8_cell hv j (by rw [txt_len bs 32 (by omega)]; omega)]
  have e : (txt bs 32).getD j 0 = (Sha.textTo bs 32)[j].toNat := by
    simp [txt, List.getD_eq_getElem?_getD, List.getElem?_append, hj]
  rw [e]
theorem two_one (n m : Int) : ∀ u ∈ [Value.int .u8 n, Value.int .u8 m], u.oneCell' = true := by simp [Value.oneCell']
set_option maxHeartbeats 1000000 in
set_option maxRecDepth 100000 in
theorem text_any (bs : List Nat) (w : World) (hlen : bs.length = 32) (hlt : ∀ i, bs.getD i 0 < 256) :
    Calls Try.prog 31 #[.agg (cells8 bs)] w fun e w' => e = .returned (.string ⟨(Sha.textTo bs 32).toArray⟩) ∧ Below w.heap.size w w' := by
  have hmk := mk64
  obtain ⟨i0, hi, hz0, hz1, hz2⟩ := info_parts Try.info5
  go_enter Try.func31, Try.ntmps31
  go_wp2_with (refine wpList_load_row rfl 74 _ rfl w.heap.size rfl 74 _ _ _ (heap_alloc2_old _ _ _) Try.underlying74 rfl (by rw [cells8_size, hlen]; exact size40_32) ?_)
  go_loopw [3, 8] (fun v i wr => ∃ k : Nat, k ≤ 32 ∧ i = .int .i64 ((k : Nat) : Int) ∧ v = .slice (some ⟨w.heap.size + 1, 0, none⟩) (2 * k) 64 ∧ wr.heap[w.heap.size + 1]? = some (.cells (cells8 (txt bs k)) 5 (0, 0)) ∧ Below w.heap.size w wr)
    (fun _ i _ => 32 - (intOf i).toNat)
  case atStart => exact ⟨0, by omega, rfl, rfl, heap_alloc2_new _ _ _, ((Below.refl _ _).alloc (Nat.le_refl _) _).alloc (by simp) _⟩
  case round =>
    obtain ⟨k, hk, rfl, rfl, hv, hb⟩ := hrel
    by_cases hk2 : k < 32
    · have hidx := fun w => idx40 bs k hlen hk2 w
      have hx2 := hlt k
      generalize hx : bs.getD k 0 = x at hidx hx2
      have HX := hide hx
      clear hx hlt hmk
      have hzb := lt_of_row hv
      obtain ⟨p, hp⟩ : ∃ p, p = x / 16 := ⟨_, rfl⟩
      obtain ⟨q, hq⟩ : ∃ q, q = x % 16 := ⟨_, rfl⟩
      have rp : (x : Int) / 16 = (p : Int) := by omega
      have rq : bits .and .u8 (x : Int) 15 = (q : Int) := by rw [show (15 : Int) = ((15 : Nat) : Int) from rfl, u8_and_nat _ _ (by omega) (by omega), nat_mask4, hq]
      have p1 : (p : Int) < 16 := by omega
      have q1 : (q : Int) < 16 := by omega
      have p2 : p < 16 := by omega
      have q2 : q < 16 := by omega
      have HP := hide hp
      have HQ := hide hq
      clear hp hq
      have hsp : ∀ (o : Obj) j, j < 2 → ((wr.alloc o).drew.cell? ⟨w.heap.size + 1, 0 + 2 * k * 1 + j, none⟩).isSome = true ∧ (wr.alloc o).drew.frozen? ⟨w.heap.size + 1, 0 + 2 * k * 1 + j, none⟩ = false := fun o j hj => spare8 hv o _ (by rw [txt_len bs k hk]; omega)
      have HS := hide hsp
      clear hsp
      go_wp2
      go_region_law ((refine step_append_room rfl (.tmp 11) (.tmp 18) 84 rfl 5 i0 1 Try.underlying84 hi hz1 (w.heap.size + 1) 0 (2 * k) 64 rfl ⟨wr.heap.size, 0, none⟩ 2 2 [_, _] rfl rfl (two_new wr _ _ 5) (two_one _ _) (by omega) (fun j hj => HS.out _ j hj) ?_))
      all_goals
        go_wp2
        go_roundw
        case rel =>
          refine ⟨k + 1, by omega, by go_num, by rw [Nat.mul_add], ?_, ?_⟩
          · rw [hex_at p p2, hex_at q q2]
            refine (two_row hv _ _ _ _).trans ?_
            rw [txt_next bs k hk2, HX.out, ← HP.out, ← HQ.out]
          · exact two_below ((hb.alloc hb.size _).drew) (by omega) _ _ _
        case measure => simp [intOf]; omega
    · have HK : Hid (k = 32) := by show k = 32; omega
      have hv2 : wr.heap[w.heap.size + 1]? = some (.cells (cells8 (txt bs 32)) 5 (0, 0)) := by rw [← HK.out]; exact hv
      have hcv : (convert 84 9 (.slice (some ⟨w.heap.size + 1, 0, none⟩) (2 * k) 64)).run Try.prog wr = .ok (.string ⟨(Sha.textTo bs 32).toArray⟩) wr := by
        rw [show 2 * k = (Sha.textTo bs 32).length by rw [Sha.textTo_len, HK.out]]
        exact run_convert_bytes_back (P := Try.prog) wr 84 9 5 ⟨w.heap.size + 1, 0, none⟩ 64 (Sha.textTo bs 32) Try.underlying84 Try.underlying5 Try.underlying9 (txt_cells hv2)
      clear hmk
      go_wp2
      go_ret
      exact ⟨rfl, hb⟩
end Go.Proofs.Ytpgamoielkpakaa
