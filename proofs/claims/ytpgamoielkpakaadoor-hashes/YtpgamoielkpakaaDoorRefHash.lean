/-
  PROVED HERE: what the document's answer's function Hash answers, over what its callees answer: nothing that was there has turned.
-/
import Derived.Test.YtpgamoielkpakaaDoorRefPad
import Derived.Test.YtpgamoielkpakaaDoorRefPrimes
import Derived.Test.YtpgamoielkpakaaDoorRefRootW
import Derived.Test.YtpgamoielkpakaaDoorRefRounds
namespace Go.Proofs.YtpgamoielkpakaaDoor
open Go.RowKit
/-- The eight numbers behind i rounds of the first loop. -/
def hTo (R2 : List Nat) : Nat → List Nat
  | 0 => Sha.zeros 8
  | i + 1 => if i < 8 then (hTo R2 i).set i (R2.getD i 0) else hTo R2 i
theorem hTo_len (R2 : List Nat) (i : Nat) : (hTo R2 i).length = 8 := by
  induction i with
  | zero => simp [hTo, Sha.zeros]
  | succ i ih => simp only [hTo]; split <;> simp [ih]
def nibs (x : Nat) : Nat → List UInt8
  | 0 => []
  | j + 1 => nibs x j ++ [Sha.hexd (x / 2 ^ (28 - 4 * j) % 16)]
def textN (h : List Nat) : Nat → List UInt8
  | 0 => []
  | i + 1 => textN h i ++ nibs (h.getD i 0) 8
theorem nibs_len (x j : Nat) : (nibs x j).length = j := by
  induction j with
  | zero => rfl
  | succ j ih => simp [nibs, ih]
theorem textN_len (h : List Nat) (i : Nat) : (textN h i).length = 8 * i := by
  induction i with
  | zero => rfl
  | succ i ih => simp [textN, ih, nibs_len]; omega
theorem hex_ext (z : Nat) (hz : z < 16) : ((ByteArray.mk #[48, 49, 50, 51, 52, 53, 54, 55, 56, 57, 97, 98, 99, 100, 101, 102]).extract z (z + 1)).data.toList = [Sha.hexd z] := by
  rcases (show z = 0 ∨ z = 1 ∨ z = 2 ∨ z = 3 ∨ z = 4 ∨ z = 5 ∨ z = 6 ∨ z = 7 ∨ z = 8 ∨ z = 9 ∨ z = 10 ∨ z = 11 ∨ z = 12 ∨ z = 13 ∨ z = 14 ∨ z = 15 by omega) with rfl | rfl | rfl | rfl | rfl | rfl | rfl | rfl | rfl | rfl | rfl | rfl | rfl | rfl | rfl | rfl <;> simp [Sha.hexd, Sha.letters]
theorem hex_ext_size (z : Nat) (hz : z < 16) : ((ByteArray.mk #[48, 49, 50, 51, 52, 53, 54, 55, 56, 57, 97, 98, 99, 100, 101, 102]).extract z (z + 1)).size = 1 := by
  have h := congrArg List.length (hex_ext z hz)
  have e : ∀ b : ByteArray, b.data.toList.length = b.size := fun b => by simp
  rw [e] at h
  exact h
/-- What schedule gives of a block, its list a plain variable. -/
theorem sched_abs (blk : ByteArray) (hb : blk.size = 64) : ∃ ws : List Nat, ws.length = 64 ∧ (∀ j, ws.getD j 0 < 4294967296) ∧ (∀ (st : Sha.St) (Q : Sha.St → Prop), Q (Sha.add st (Sha.roundsTo ws st 64)) → Q (Sha.block st blk.data.toList)) ∧ ∀ w, Calls Tryd.prog 23 #[.string blk] w fun e w' => ∃ v, e = .returned v ∧ OwnI w' w.heap.size v ws ∧ Below w.heap.size w w' :=
  ⟨Sha.words blk.data.toList, Sha.words_len _, fun j => Sha.wTwo_lt _ 48 j, fun _ _ h => h, fun w => sched_any blk w hb⟩
theorem ext_list (t : ByteArray) (a : Nat) : (t.extract a (a + 64)).data.toList = (t.data.toList.drop a).take 64 := by simp
theorem OwnI.setCell {w : World} {B : Nat} {v : Value} {l : List Nat} (h : OwnI w B v l) {a : Addr} (ha : a.block < B) (u : Value) : OwnI (w.setCell a u) B v l := ownsRow_setCell_below h ha u
set_option maxHeartbeats 2000000 in
set_option maxRecDepth 100000 in
theorem refHash_core (s : ByteArray) (w : World) (P R2 R3 : List Nat) (hP : P.length = 64) (hPl : ∀ j, P.getD j 0 < 65536) (_hs : s.size ≤ 140737488351232)
    (HPR : Hid (∀ w, Calls Tryd.prog 19 #[.int .i64 64] w fun e w' => ∃ v, e = .returned v ∧ OwnI w' w.heap.size v P ∧ Below w.heap.size w w'))
    (HR2 : Hid (∀ j, j < 8 → ∀ w, Calls Tryd.prog 20 #[.int .i64 ((P.getD j 0 : Nat) : Int), .int .i64 2] w fun e w' => e = .returned (.int .i64 ((R2.getD j 0 : Nat) : Int)) ∧ Below w.heap.size w w'))
    (HR3 : Hid (∀ j, j < 64 → ∀ w, Calls Tryd.prog 20 #[.int .i64 ((P.getD j 0 : Nat) : Int), .int .i64 3] w fun e w' => e = .returned (.int .i64 ((R3.getD j 0 : Nat) : Int)) ∧ Below w.heap.size w w'))
    (hR3 : R3.length = 64) (HK3 : Hid (∀ j, R3.getD j 0 = Sha.kTab.getD j 0)) (HKL : Hid (∀ j, Sha.kTab.getD j 0 < 4294967296)) (HH2 : Hid (∀ Q : Array Value → Prop, Q (cellsI (hTo R2 64)) → Q (valsI Sha.start)))
    (full : List UInt8) (HFL : Hid (∀ w, Calls Tryd.prog 21 #[.string s] w fun e w' => e = .returned (.string ⟨full.toArray⟩) ∧ Below w.heap.size w w')) (hfm : full.length % 64 = 0) (hfl : full.length ≤ 140737488361232)
    (ST : Nat → Sha.St) (HST0 : Hid (∀ Q : Sha.St → Prop, Q Sha.start → Q (ST 0))) (HSTOK : Hid (∀ k, (ST k).Ok)) (HSTS : Hid (∀ k (Q : Sha.St → Prop), Q (Sha.block (ST k) ((full.drop (64 * k)).take 64)) → Q (ST (k + 1)))) :
    Calls Tryd.prog 8 #[.string s] w fun e w' => e = .returned (.string ⟨(textN (ST (full.length / 64)).list 8).toArray⟩) ∧ Below w.heap.size w w' := by
  have hz8 := (zero_of_info Tryd.info44).1
  obtain ⟨i0, hi, hz0, hz1, hz2⟩ := info_parts Tryd.info3
  have HPL := hide hPl
  clear hPl
  go_enter Tryd.func8, Tryd.ntmps8
  go_wp2_with fail
  refine (HPR.out _).mono ?_
  rintro _ w1 ⟨vp, rfl, hownp, hb1⟩
  dsimp only
  obtain ⟨gp, cp, hvp, _, hgp, hcp⟩ := hownp.shape (by omega)
  rw [hP] at hvp hcp
  subst hvp
  have HCP := hide hcp
  clear hcp
  have hs1 := hb1.size
  go_wp2
  go_loopw [5, 6] (fun v i wr => ∃ k : Nat, k ≤ 64 ∧ i = .int .i64 ((k : Nat) : Int) ∧ OwnI wr (w1.heap.size + 1) v (R3.take k) ∧ wr.heap[w1.heap.size]? = some (.cells (cellsI (hTo R2 k)) 44 (0, 0)) ∧ Below w1.heap.size w1 wr)
    (fun _ i _ => 64 - (intOf i).toNat)
  case atStart => exact ⟨0, by omega, rfl, by simpa using OwnI.nil _ _, heap_alloc_new _ _, (Below.refl _ _).alloc (Nat.le_refl _) _⟩
  case round =>
    obtain ⟨k, hk, rfl, hown, hh, hb⟩ := hrel
    have hsz := hb.size
    have hzh := lt_of_row hh
    by_cases hlt : k < 64
    · have hck := ((bcell hb).1 gp k hgp).trans (HCP.out k hlt)
      have hc3 := HR3.out k hlt
      have hpk := HPL.out k
      have hx3 : R3.take (k + 1) = R3.take k ++ [R3.getD k 0] := by
        rw [List.take_succ_eq_append_getElem (by omega)]
        simp [List.getD_eq_getElem?_getD, show k < R3.length by omega]
      obtain ⟨x, hx⟩ : ∃ x, x = P.getD k 0 := ⟨_, rfl⟩
      obtain ⟨y3, hy3⟩ : ∃ y3, y3 = R3.getD k 0 := ⟨_, rfl⟩
      rw [← hx] at hck hc3 hpk
      rw [← hy3] at hc3 hx3
      have HC3 := hide hc3
      have HX3 := hide hx3
      clear hc3 hx3 hy3
      by_cases hk8 : k < 8
      · have hc2 := HR2.out k hk8
        obtain ⟨y2, hy2⟩ : ∃ y2, y2 = R2.getD k 0 := ⟨_, rfl⟩
        rw [← hx, ← hy2] at hc2
        have HC2 := hide hc2
        have HH : Hid (hTo R2 (k + 1) = (hTo R2 k).set k y2) := by show _ = _; rw [hTo, if_pos hk8, ← hy2]
        clear hc2 hy2 hx
        go_wp2_with fail
        refine (HC2.out _).mono ?_
        rintro _ w2 ⟨rfl, hb2⟩
        dsimp only
        have hh2 := (hb2.block w1.heap.size hzh).trans hh
        have hchr := rowI_cell hh2 k (by rw [hTo_len]; omega)
        have hcfr := frozen_of_row _ _ k _ _ hh2
        have hck2 := ((bcell hb2).1 gp k (by omega)).trans hck
        have hs2 := hb2.size
        go_wp2_with fail
        refine (HC3.out _).mono ?_
        rintro _ w3 ⟨rfl, hb3⟩
        dsimp only
        have hown2 : OwnI w2 (w1.heap.size + 1) _ (R3.take k) := hown.kept hb2
        have hown3 := (hown2.setCell (a := ⟨w1.heap.size, k, none⟩) (by simp) (.int .i64 ((y2 : Nat) : Int))).kept hb3
        have e2 : (w2.setCell ⟨w1.heap.size, k, none⟩ (.int .i64 ((y2 : Nat) : Int))).heap.size = w2.heap.size := by simp [World.setCell]
        have hs3 := hb3.size
        rw [e2] at hs3
        have hh3 : w3.heap[w1.heap.size]? = some (.cells (cellsI (hTo R2 (k + 1))) 44 (0, 0)) := by
          rw [HH.out]
          exact (hb3.block _ (by rw [e2]; omega)).trans (rowI_store _ hh2)
        have hle : w1.heap.size ≤ (w2.setCell ⟨w1.heap.size, k, none⟩ (.int .i64 ((y2 : Nat) : Int))).heap.size := by rw [e2]; exact Nat.le_trans hsz hs2
        have hbs : Below w1.heap.size w2 (w2.setCell ⟨w1.heap.size, k, none⟩ (.int .i64 ((y2 : Nat) : Int))) := (Below.refl w1.heap.size w2).setCell (p := ⟨w1.heap.size, k, none⟩) (Nat.le_refl _) _
        have hbb : Below w1.heap.size w1 w3 := (hb.trans (hb2.mono hsz)).trans (hbs.trans (hb3.mono hle))
        clear hle hbs
        clear hb2 hb3 hown hown2 hh hh2 hchr hcfr hck hck2 hb
        go_wp2_with (at_builtin; refine wpList_append_ownI _ rfl (.tmp 27) (.tmp 33) 32 rfl i0 Tryd.underlying32 hi hz0 hz1 hz2 (w1.heap.size + 1) _ (R3.take k) rfl (hown3.alloc _) (by simp; omega) ⟨w3.heap.size, 0, none⟩ 1 _ y3 rfl (oneI _ _ _) rfl (by simp; omega) ?_; intro v4 w4 hown4 hb4)
        go_wp2
        go_roundw
        case rel => exact ⟨k + 1, by omega, by go_num, by rw [HX3.out]; exact hown4, (hb4.block _ (by omega)).trans ((Below.heap_alloc w3 _ _ (by omega)).trans hh3), (hbb.alloc (by omega) _).trans (hb4.mono (by omega))⟩
        case measure => simp [intOf]; omega
      · have HH : Hid (hTo R2 (k + 1) = hTo R2 k) := by show _ = _; rw [hTo, if_neg hk8]
        clear hx
        go_wp2_with fail
        refine (HC3.out _).mono ?_
        rintro _ w3 ⟨rfl, hb3⟩
        dsimp only
        have hown3 := hown.kept hb3
        have hs3 := hb3.size
        have hh3 : w3.heap[w1.heap.size]? = some (.cells (cellsI (hTo R2 (k + 1))) 44 (0, 0)) := by
          rw [HH.out]
          exact (hb3.block _ hzh).trans hh
        have hbb : Below w1.heap.size w1 w3 := hb.trans (hb3.mono hsz)
        clear hb3 hown hh hck hb
        go_wp2_with (at_builtin; refine wpList_append_ownI _ rfl (.tmp 27) (.tmp 33) 32 rfl i0 Tryd.underlying32 hi hz0 hz1 hz2 (w1.heap.size + 1) _ (R3.take k) rfl (hown3.alloc _) (by simp; omega) ⟨w3.heap.size, 0, none⟩ 1 _ y3 rfl (oneI _ _ _) rfl (by simp; omega) ?_; intro v4 w4 hown4 hb4)
        go_wp2
        go_roundw
        case rel => exact ⟨k + 1, by omega, by go_num, by rw [HX3.out]; exact hown4, (hb4.block _ (by omega)).trans ((Below.heap_alloc w3 _ _ (by omega)).trans hh3), (hbb.alloc (by omega) _).trans (hb4.mono (by omega))⟩
        case measure => simp [intOf]; omega
    · have HK64 : Hid (k = 64) := by show k = 64; omega
      have hd64 : decide ((k : Int) < 64) = false := by simp; omega
      have ht64 : R3.take k = R3 := List.take_of_length_le (by omega)
      rw [ht64] at hown
      rw [HK64.out] at hh
      have hh' : wr.heap[w1.heap.size]? = some (.cells (valsI Sha.start) 44 (0, 0)) := HH2.out (fun c => wr.heap[w1.heap.size]? = some (.cells c 44 (0, 0))) hh
      obtain ⟨gk, ck, hvk, hBk, hgk, hck⟩ := hown.shape (by omega)
      rw [hR3] at hvk hck
      subst hvk
      have HCK : Hid (∀ j, j < 64 → wr.cell? ⟨gk, j, none⟩ = some (.int .i64 ((Sha.kTab.getD j 0 : Nat) : Int))) := fun j hj => by rw [← HK3.out]; exact hck j hj
      have hbw : Below w.heap.size w wr := hb1.trans (hb.mono hs1)
      clear hh hck hown hb hb1 HCP HR2 HR3 HPR HPL hownp ht64 HK3
      go_wp2_with fail
      refine (HFL.out _).mono ?_
      rintro _ w4 ⟨rfl, hb4⟩
      dsimp only
      have hh4 := (hb4.block _ hzh).trans hh'
      have hs4 := hb4.size
      have HCK4 : Hid (∀ j, j < 64 → w4.cell? ⟨gk, j, none⟩ = some (.int .i64 ((Sha.kTab.getD j 0 : Nat) : Int))) := fun j hj => ((bcell hb4).1 gk j hgk).trans (HCK.out j hj)
      have hbw4 : Below w.heap.size w w4 := hbw.trans (hb4.mono (by omega))
      obtain ⟨t, ht⟩ : ∃ t : ByteArray, t = ⟨full.toArray⟩ := ⟨_, rfl⟩
      have htl : t.data.toList = full := by rw [ht]
      have hts : t.size = full.length := by rw [ht]; simp [ByteArray.size]
      rw [← ht]
      have hh4' : w4.heap[w1.heap.size]? = some (.cells (valsI (ST 0)) 44 (0, 0)) := HST0.out (fun c => w4.heap[w1.heap.size]? = some (.cells (valsI c) 44 (0, 0))) hh4
      have HTL := hide htl
      clear ht htl hh' hh4 hbw hb4 HCK HFL HH2 HST0
      have hgk4 : gk < w4.heap.size := by omega
      have hzh4 := lt_of_row hh4'
      go_wp2
      go_loopw [8] (fun i wq => ∃ k : Nat, 64 * k ≤ full.length ∧ i = .int .i64 ((64 * k : Nat) : Int) ∧ wq.heap[w1.heap.size]? = some (.cells (valsI (ST k)) 44 (0, 0)) ∧ Below w1.heap.size w4 wq ∧ (∀ b, w1.heap.size < b → b < w4.heap.size → wq.heap[b]? = w4.heap[b]?))
        (fun i _ => full.length - (intOf i).toNat)
      case atStart => exact ⟨0, by omega, rfl, hh4', Below.refl _ _, fun _ _ _ => rfl⟩
      case round =>
        clear hh4'
        obtain ⟨k, hk2, rfl, hv, hbq, hkeep⟩ := hrel
        have hok := HSTOK.out k
        obtain ⟨st, hst⟩ : ∃ st, st = ST k := ⟨_, rfl⟩
        rw [← hst] at hok hv
        have HSS : Hid (∀ Q : Sha.St → Prop, Q (Sha.block st ((full.drop (64 * k)).take 64)) → Q (ST (k + 1))) := by rw [hst]; exact HSTS.out k
        have HSTE : Hid (k = full.length / 64 → st = ST (full.length / 64)) := fun h => by rw [hst, h]
        clear hst
        obtain ⟨at_, hat⟩ : ∃ at_, at_ = 64 * k := ⟨_, rfl⟩
        rw [← hat] at hk2 HSS ⊢
        have HAT := hide hat
        clear hat
        have hzq := lt_of_row hv
        have hsq := hbq.size
        have hkq : wr.heap[gk]? = w4.heap[gk]? := hkeep gk (by omega) hgk4
        have HKQ : Hid (∀ j, j < 64 → wr.cell? ⟨gk, j, none⟩ = some (.int .i64 ((Sha.kTab.getD j 0 : Nat) : Int))) := fun j hj => (World.cell?_of_block (w := w4) (a := ⟨gk, j, none⟩) hkq).trans (HCK4.out j hj)
        have HKEEP := hide hkeep
        clear hkeep hkq
        by_cases hlt : at_ < full.length
        · have hlt2 : at_ + 64 ≤ full.length := by have := HAT.out; omega
          have hblk : (t.extract at_ (at_ + 64)).size = 64 := by simp; omega
          obtain ⟨ws, hwl, hwlt, hwq, hcall⟩ := sched_abs (t.extract at_ (at_ + 64)) hblk
          have HB : Hid (∀ Q : Sha.St → Prop, Q (Sha.add st (Sha.roundsTo ws st 64)) → Q (ST (k + 1))) := by
            intro Q hQ
            refine HSS.out Q ?_
            have := hwq st Q hQ
            rw [ext_list t at_, HTL.out] at this
            exact this
          have HCALL := hide hcall
          have HWLT := hide hwlt
          obtain ⟨c0, c1, c2, c3, c4, c5, c6, c7⟩ := cells_of8 hv
          have q1 : IntKind.i64.wrap ((at_ : Int) + 64) = (at_ : Int) + 64 := by rw [IntKind.wrap_i64]; omega
          have q2 : (0 : Int) ≤ (at_ : Int) + 64 := by omega
          have q3 : (at_ : Int) + 64 ≤ (t.size : Int) := by omega
          have q4 : ((at_ : Int) + 64).toNat = at_ + 64 := by omega
          have q5 : at_ ≤ t.size := by omega
          have q6 : (at_ : Int) ≤ (at_ : Int) + 64 := by omega
          clear hcall hwlt hwq hblk HSS HSTE
          go_wp2
          go_region_with (first
            | (go_at_call 23; refine (HCALL.out _).mono ?_; rintro _ w5 ⟨v5, rfl, hown5, hb5⟩; obtain ⟨gw, cw, hv5, _, hgw, hcw⟩ := hown5.shape (by omega); rw [hwl] at hv5 hcw; subst hv5; have hs5 := hb5.size; have r5 := (hb5.block w1.heap.size hzq).trans hv; obtain ⟨d0, d1, d2, d3, d4, d5, d6, d7⟩ := cells_of8 r5)
            | (go_at_call 22; refine (rounds_any st ws gw cw gk ck _ hok hgw (Nat.lt_of_lt_of_le (Nat.lt_of_lt_of_le hgk4 hsq) hs5) hcw HWLT.out (fun j hj => ((bcell hb5).1 gk j (Nat.lt_of_lt_of_le hgk4 hsq)).trans (HKQ.out j hj)) HKL.out).mono ?_; rintro _ w6 ⟨rfl, hb6⟩; have hs6 := hb6.size; have r6 := (hb6.block w1.heap.size (Nat.lt_of_lt_of_le hzq hs5)).trans r5; obtain ⟨e0, e1, e2, e3, e4, e5, e6, e7⟩ := cells_of8 r6; have f6 := fun j => frozen_of_row w6 w1.heap.size j _ _ r6))
          all_goals
            generalize Sha.add st (Sha.roundsTo ws st 64) = st2 at HB ⊢
            clear c0 c1 c2 c3 c4 c5 c6 c7 d0 d1 d2 d3 d4 d5 d6 d7 e0 e1 e2 e3 e4 e5 e6 e7 f6 q1 q2 q3 q4 q5 q6
            go_wp2
            go_roundw
            case rel =>
              have e5' : wr.drew.heap.size = wr.heap.size := rfl
              refine ⟨k + 1, by have := HAT.out; omega, by have := HAT.out; go_num, ?_, ?_, ?_⟩
              · exact (store8 _ _ _ _ _ _ _ _ r6).trans (HB.out (fun c => some (Obj.cells (valsI st2) 44 (0, 0)) = some (Obj.cells (valsI c) 44 (0, 0))) rfl)
              · exact set8_below ((hbq.drew.trans (hb5.mono (by omega))).trans (hb6.mono (by omega))) (Nat.le_refl _) _ _ _ _ _ _ _ _
              · intro b hb1 hb2
                exact (set8_other (by omega) _ _ _ _ _ _ _ _).trans ((hb6.block b (by omega)).trans ((hb5.block b (by omega)).trans (HKEEP.out b hb1 hb2)))
            case measure => simp [intOf]; omega
        · have HE : Hid (st = ST (full.length / 64)) := HSTE.out (by have := HAT.out; omega)
          have hlok := st_lt hok
          have hbw5 : Below w.heap.size w wr := hbw4.trans (hbq.mono hs1)
          have hv' : wr.heap[w1.heap.size]? = some (.cells (cellsI [st.a, st.b, st.c, st.d, st.e, st.f, st.g, st.h]) 44 (0, 0)) := hv
          have HLO := hide hlok
          have HRES : Hid (∀ Q : List Nat → Prop, Q (ST (full.length / 64)).list → Q [st.a, st.b, st.c, st.d, st.e, st.f, st.g, st.h]) := fun Q hQ => by
            rw [← HE.out] at hQ
            exact hQ
          have HRES2 : Hid (∀ Q : List Nat → Prop, Q [st.a, st.b, st.c, st.d, st.e, st.f, st.g, st.h] → Q (ST (full.length / 64)).list) := fun Q hQ => by
            rw [← HE.out]
            exact hQ
          generalize hLL : [st.a, st.b, st.c, st.d, st.e, st.f, st.g, st.h] = LL at hv' HLO HRES HRES2
          have hLl : LL.length = 8 := by rw [← hLL]; rfl
          have hd9 : decide ((at_ : Int) < (full.length : Int)) = false := by simp; omega
          clear hLL hv HE HKQ HKEEP HSS HSTE HCK4 HSTOK HSTS HTL hlok hok HRES
          go_wp2
          go_loop [9, 10] (fun o i => ∃ (i1 : Nat) (ob : ByteArray), i1 ≤ 8 ∧ i = .int .i64 ((i1 : Nat) : Int) ∧ o = .string ob ∧ ob.data.toList = textN LL i1) (fun _ i => 8 - (intOf i).toNat)
          case atStart => exact ⟨0, ⟨#[]⟩, by omega, rfl, rfl, rfl⟩
          case round =>
            obtain ⟨i1, ob, hi1, rfl, rfl, hob⟩ := hrel
            have hobl : ob.size ≤ 64 := by
              have : ob.data.toList.length = ob.size := by simp
              rw [← this, hob, textN_len]; omega
            have HOB := hide hob
            clear hob
            by_cases hil : i1 < 8
            · have hcx := rowI_cell hv' i1 (by omega)
              have hxl := HLO.out i1
              obtain ⟨x, hx⟩ : ∃ x, x = LL.getD i1 0 := ⟨_, rfl⟩
              rw [← hx] at hcx hxl
              have HX := hide hx
              clear hx
              have hdi : decide ((i1 : Int) < 8) = true := by simp; omega
              go_wp2
              go_loop [9, 11] (fun o i => ∃ (j : Nat) (ob2 : ByteArray), j ≤ 8 ∧ i = .int .i64 (28 - 4 * (j : Int)) ∧ o = .string ob2 ∧ ob2.size = ob.size + j ∧ ob2.data.toList = ob.data.toList ++ nibs x j) (fun _ i => (intOf i + 4).toNat)
              case atStart => exact ⟨0, ob, by omega, rfl, rfl, rfl, by simp [nibs]⟩
              case round =>
                obtain ⟨j, ob2, hj, rfl, rfl, hob2s, hob2⟩ := hrel
                have HOB2 := hide hob2
                clear hob2
                by_cases hjl : j < 8
                · obtain ⟨y, hy⟩ : ∃ y, y = x / 2 ^ (28 - 4 * j) := ⟨_, rfl⟩
                  have hyl : y ≤ x := by rw [hy]; exact Nat.div_le_self _ _
                  have ry : (x : Int) / 2 ^ (28 - 4 * j) = (y : Int) := by rw [hy]; exact shr_nat x _
                  obtain ⟨z, hz⟩ : ∃ z, z = y % 16 := ⟨_, rfl⟩
                  have rz : (y : Int) % 16 = (z : Int) := by omega
                  have hz16 : z < 16 := by omega
                  have HN : Hid (nibs x (j + 1) = nibs x j ++ [Sha.hexd z]) := by show _ = _; rw [nibs, ← hy, ← hz]
                  have hob2l : ob2.size ≤ 80 := by omega
                  have HS2 := hide hob2s
                  clear hy hz hob2s
                  go_wp2
                  go_round
                  case rel =>
                    have e1 := HS2.out
                    refine ⟨j + 1, _, by omega, by go_num, rfl, ?_, ?_⟩
                    · rw [ByteArray.size_append, hex_ext_size z hz16]
                      omega
                    · rw [ByteArray.data_append, Array.toList_append, hex_ext z hz16, HOB2.out, HN.out, List.append_assoc]
                  case measure => simp [intOf]; omega
                · have hj8 : j = 8 := by omega
                  have HT8 : Hid (ob2.data.toList = textN LL (i1 + 1)) := by
                    show _ = _
                    rw [HOB2.out, hj8, HOB.out, textN, ← HX.out]
                  have hdj : decide ((0 : Int) ≤ 28 - 4 * (j : Int)) = false := by simp; omega
                  clear HOB2 hob2s hj8
                  go_wp2
                  go_round
                  case rel => exact ⟨i1 + 1, ob2, by omega, by go_num, rfl, HT8.out⟩
                  case measure => simp [intOf]; omega
            · have HFIN : Hid (ob = ⟨(textN (ST (full.length / 64)).list 8).toArray⟩) := by
                show _ = _
                have h8 : ob.data.toList = textN LL 8 := by rw [HOB.out, show i1 = 8 by omega]
                refine HRES2.out (fun l => ob = ⟨(textN l 8).toArray⟩) ?_
                apply ByteArray.ext
                rw [← Array.toList_inj, h8]
              clear HOB HRES2
              go_wp2
              go_ret
              exact ⟨by rw [← HFIN.out]; rfl, hbw5⟩
end Go.Proofs.YtpgamoielkpakaaDoor
