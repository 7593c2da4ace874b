/-
  PROVED HERE: what the document's answer's function rounds answers for all eight numbers of 32 bits: nothing that was there has turned.
-/
import Derived.Test.YtpgamoielkpakaaDoorRefWords
import Derived.Test.YtpgamoielkpakaaDoorRefChosen
import Derived.Deep.CutRange
namespace Go.Proofs.YtpgamoielkpakaaDoor
open Go.RowKit
abbrev valsI (s : Sha.St) : Array Value := #[.int .i64 ((s.a : Nat) : Int), .int .i64 ((s.b : Nat) : Int), .int .i64 ((s.c : Nat) : Int), .int .i64 ((s.d : Nat) : Int), .int .i64 ((s.e : Nat) : Int), .int .i64 ((s.f : Nat) : Int), .int .i64 ((s.g : Nat) : Int), .int .i64 ((s.h : Nat) : Int)]
abbrev zero8I : Array Value := #[.int .i64 0, .int .i64 0, .int .i64 0, .int .i64 0, .int .i64 0, .int .i64 0, .int .i64 0, .int .i64 0]
theorem Tryd.info44 : (Tryd.prog.info? 44).map (fun i => (i.zero, i.size)) = some (some (.agg zero8I), 8) := by kernel_rfl
theorem size44_8 : (Tryd.prog.info? 44).map (·.size) = some 8 := by kernel_rfl
theorem size44 (x0 x1 x2 x3 x4 x5 x6 x7 : Value) : (Tryd.prog.info? 44).map (·.size) = some (#[x0, x1, x2, x3, x4, x5, x6, x7] : Array Value).size := size44_8
theorem ints8I_one (n0 n1 n2 n3 n4 n5 n6 n7 : Int) : (#[.int .i64 n0, .int .i64 n1, .int .i64 n2, .int .i64 n3, .int .i64 n4, .int .i64 n5, .int .i64 n6, .int .i64 n7] : Array Value).all (·.oneCell') = true := by simp [Value.oneCell']
theorem keep6 {w0 W w' : World} {b0 o0 b1 o1 b2 o2 b3 o3 b4 o4 b5 o5 : Nat} {x0 x1 x2 x3 x4 x5 : Value} (l0 : b0 < w0.heap.size) (l1 : b1 < w0.heap.size) (l2 : b2 < w0.heap.size) (l3 : b3 < w0.heap.size) (l4 : b4 < w0.heap.size) (l5 : b5 < w0.heap.size) (hb : Below W.heap.size W w') (hS : Below w0.heap.size w0 W ∧ W.cell? ⟨b0, o0, none⟩ = some x0 ∧ W.cell? ⟨b1, o1, none⟩ = some x1 ∧ W.cell? ⟨b2, o2, none⟩ = some x2 ∧ W.cell? ⟨b3, o3, none⟩ = some x3 ∧ W.cell? ⟨b4, o4, none⟩ = some x4 ∧ W.cell? ⟨b5, o5, none⟩ = some x5) : Below w0.heap.size w0 w' ∧ w'.cell? ⟨b0, o0, none⟩ = some x0 ∧ w'.cell? ⟨b1, o1, none⟩ = some x1 ∧ w'.cell? ⟨b2, o2, none⟩ = some x2 ∧ w'.cell? ⟨b3, o3, none⟩ = some x3 ∧ w'.cell? ⟨b4, o4, none⟩ = some x4 ∧ w'.cell? ⟨b5, o5, none⟩ = some x5 :=
  ⟨hS.1.trans (hb.mono hS.1.size), ((bcell hb).1 b0 o0 (by have := hS.1.size; omega)).trans hS.2.1, ((bcell hb).1 b1 o1 (by have := hS.1.size; omega)).trans hS.2.2.1, ((bcell hb).1 b2 o2 (by have := hS.1.size; omega)).trans hS.2.2.2.1, ((bcell hb).1 b3 o3 (by have := hS.1.size; omega)).trans hS.2.2.2.2.1, ((bcell hb).1 b4 o4 (by have := hS.1.size; omega)).trans hS.2.2.2.2.2.1, ((bcell hb).1 b5 o5 (by have := hS.1.size; omega)).trans hS.2.2.2.2.2.2⟩
theorem keep3 {w0 W w' : World} {b0 o0 b1 o1 b2 o2 : Nat} {x0 x1 x2 : Value} (l0 : b0 < w0.heap.size) (l1 : b1 < w0.heap.size) (l2 : b2 < w0.heap.size) (hb : Below W.heap.size W w') (hS : Below w0.heap.size w0 W ∧ W.cell? ⟨b0, o0, none⟩ = some x0 ∧ W.cell? ⟨b1, o1, none⟩ = some x1 ∧ W.cell? ⟨b2, o2, none⟩ = some x2) : Below w0.heap.size w0 w' ∧ w'.cell? ⟨b0, o0, none⟩ = some x0 ∧ w'.cell? ⟨b1, o1, none⟩ = some x1 ∧ w'.cell? ⟨b2, o2, none⟩ = some x2 :=
  ⟨hS.1.trans (hb.mono hS.1.size), ((bcell hb).1 b0 o0 (by have := hS.1.size; omega)).trans hS.2.1, ((bcell hb).1 b1 o1 (by have := hS.1.size; omega)).trans hS.2.2.1, ((bcell hb).1 b2 o2 (by have := hS.1.size; omega)).trans hS.2.2.2⟩

theorem wrap5 (z m c x y : Nat) (h0 : z < 4294967296) (h1 : m < 4294967296) (h2 : c < 4294967296) (h3 : x < 4294967296) (h4 : y < 4294967296) :
    IntKind.i64.wrap (IntKind.i64.wrap (IntKind.i64.wrap (IntKind.i64.wrap ((z : Int) + (m : Int)) + (c : Int)) + (x : Int)) + (y : Int)) = (z : Int) + (m : Int) + (c : Int) + (x : Int) + (y : Int) := by
  have e1 : IntKind.i64.wrap ((z : Int) + (m : Int)) = (z : Int) + (m : Int) := by rw [IntKind.wrap_i64]; omega
  have e2 : IntKind.i64.wrap ((z : Int) + (m : Int) + (c : Int)) = (z : Int) + (m : Int) + (c : Int) := by rw [IntKind.wrap_i64]; omega
  have e3 : IntKind.i64.wrap ((z : Int) + (m : Int) + (c : Int) + (x : Int)) = (z : Int) + (m : Int) + (c : Int) + (x : Int) := by rw [IntKind.wrap_i64]; omega
  have e4 : IntKind.i64.wrap ((z : Int) + (m : Int) + (c : Int) + (x : Int) + (y : Int)) = (z : Int) + (m : Int) + (c : Int) + (x : Int) + (y : Int) := by rw [IntKind.wrap_i64]; omega
  rw [e1, e2, e3, e4]
theorem wrap2 (m c : Nat) (h1 : m < 4294967296) (h2 : c < 4294967296) : IntKind.i64.wrap ((m : Int) + (c : Int)) = (m : Int) + (c : Int) := by rw [IntKind.wrap_i64]; omega
theorem st_lt {s : Sha.St} (h : s.Ok) : ∀ j, [s.a, s.b, s.c, s.d, s.e, s.f, s.g, s.h].getD j 0 < 4294967296 := by
  intro j
  match j with
  | 0 => exact h.a
  | 1 => exact h.b
  | 2 => exact h.c
  | 3 => exact h.d
  | 4 => exact h.e
  | 5 => exact h.f
  | 6 => exact h.g
  | 7 => exact h.h
  | n + 8 => simp
set_option maxHeartbeats 2000000 in
set_option maxRecDepth 100000 in
theorem rounds_any (s : Sha.St) (ws : List Nat) (gw cw gk ck : Nat) (w : World) (hs : s.Ok) (hlw : gw < w.heap.size) (hlk : gk < w.heap.size)
    (hw : ∀ j, j < 64 → w.cell? ⟨gw, j, none⟩ = some (.int .i64 ((ws.getD j 0 : Nat) : Int))) (hws : ∀ j, ws.getD j 0 < 4294967296)
    (hk : ∀ j, j < 64 → w.cell? ⟨gk, j, none⟩ = some (.int .i64 ((Sha.kTab.getD j 0 : Nat) : Int))) (hks : ∀ j, Sha.kTab.getD j 0 < 4294967296) :
    Calls Tryd.prog 22 #[.agg (valsI s), .slice (some ⟨gw, 0, none⟩) 64 cw, .slice (some ⟨gk, 0, none⟩) 64 ck] w fun e w' => e = .returned (.agg (valsI (Sha.add s (Sha.roundsTo ws s 64)))) ∧ Below w.heap.size w w' := by
  have hz8 := (zero_of_info Tryd.info44).1
  have HW := hide hw
  have HWS := hide hws
  have HK := hide hk
  have HKS := hide hks
  clear hw hws hk hks
  go_enter Tryd.func22, Tryd.ntmps22
  go_wp2
  go_loopw [8] (fun i wr => ∃ k : Nat, k ≤ 64 ∧ i = .int .i64 ((k : Nat) : Int) ∧ wr.heap[w.heap.size]? = some (.cells (valsI s) 44 (0, 0)) ∧ wr.heap[w.heap.size + 1]? = some (.cells zero8I 44 (0, 0)) ∧ wr.heap[w.heap.size + 2]? = some (.cells (valsI (Sha.roundsTo ws s k)) 44 (0, 0)) ∧ Below w.heap.size w wr)
    (fun i _ => 64 - (intOf i).toNat)
  case atStart => exact ⟨0, Nat.zero_le _, rfl, (Below.heap_alloc _ _ _ (by rw [size_alloc2]; omega)).trans (heap_alloc2_old _ _ _), (alloc3 _ _ _ _).1, (alloc3 _ _ _ _).2, (((Below.refl _ _).alloc (Nat.le_refl _) _).alloc (by simp) _).alloc (by simp; omega) _⟩
  case round =>
    obtain ⟨k, hkk, rfl, r0, r1, r2, hb⟩ := hrel
    by_cases hlt : k < 64
    · have hok := Sha.roundsTo_ok (ws := ws) hs k
      obtain ⟨v, hvv⟩ : ∃ v, v = Sha.roundsTo ws s k := ⟨_, rfl⟩
      rw [← hvv] at hok r2
      have HV := hide hvv
      clear hvv
      obtain ⟨a, b, c, d, e, f, g, z⟩ := v
      obtain ⟨oa, ob, oc, od, oe, of, og, oh⟩ := hok
      dsimp only at oa ob oc od oe of og oh r2
      obtain ⟨v0, v1, v2, v3, v4, v5, v6, v7⟩ := cells_of8 r2
      have hwk := ((bcell hb).1 gw k hlw).trans (HW.out k hlt)
      have hxk := ((bcell hb).1 gk k hlk).trans (HK.out k hlt)
      have lw := HWS.out k
      have lk := HKS.out k
      obtain ⟨xw, hxw⟩ : ∃ xw, xw = ws.getD k 0 := ⟨_, rfl⟩
      obtain ⟨xk, hxkk⟩ : ∃ xk, xk = Sha.kTab.getD k 0 := ⟨_, rfl⟩
      rw [← hxw] at hwk lw
      rw [← hxkk] at hxk lk
      have HXW := hide hxw
      have HXK := hide hxkk
      clear hxw hxkk
      have hzr := lt_of_row r2
      have hsz := hb.size
      have lwr : gw < wr.heap.size := by omega
      have lkr : gk < wr.heap.size := by omega
      obtain ⟨m5, hm5⟩ : ∃ m5, m5 = Sha.big3 e 6 11 25 := ⟨_, rfl⟩
      obtain ⟨c5, hc5⟩ : ∃ c5, c5 = Sha.chs e f g := ⟨_, rfl⟩
      obtain ⟨m6, hm6⟩ : ∃ m6, m6 = Sha.big3 a 2 13 22 := ⟨_, rfl⟩
      obtain ⟨c6, hc6⟩ : ∃ c6, c6 = Sha.maj a b c := ⟨_, rfl⟩
      have lm5 : m5 < 4294967296 := by rw [hm5]; exact Sha.big3_lt oe
      have lc5 : c5 < 4294967296 := by rw [hc5]; exact Sha.chs_lt oe
      have lm6 : m6 < 4294967296 := by rw [hm6]; exact Sha.big3_lt oa
      have lc6 : c6 < 4294967296 := by rw [hc6]; exact Sha.maj_lt oa ob
      have HM5 : Hid (∀ w, Calls Tryd.prog 40 #[.int .i64 ((e : Nat) : Int), .int .i64 6, .int .i64 11, .int .i64 25, .bool false] w fun r w' => r = .returned (.int .i64 ((m5 : Nat) : Int)) ∧ Below w.heap.size w w') := by
        intro w
        rw [hm5]
        exact mixed_big e 6 11 25 w oe (by decide) (by decide) (by decide) (by decide) (by decide) (by decide)
      have HC5 : Hid (∀ w, Calls Tryd.prog 41 #[.int .i64 ((e : Nat) : Int), .int .i64 ((f : Nat) : Int), .int .i64 ((g : Nat) : Int)] w fun r w' => r = .returned (.int .i64 ((c5 : Nat) : Int)) ∧ Below w.heap.size w w') := by
        intro w
        rw [hc5]
        exact chosen_any e f g w oe of og
      have HM6 : Hid (∀ w, Calls Tryd.prog 40 #[.int .i64 ((a : Nat) : Int), .int .i64 2, .int .i64 13, .int .i64 22, .bool false] w fun r w' => r = .returned (.int .i64 ((m6 : Nat) : Int)) ∧ Below w.heap.size w w') := by
        intro w
        rw [hm6]
        exact mixed_big a 2 13 22 w oa (by decide) (by decide) (by decide) (by decide) (by decide) (by decide)
      have HC6 : Hid (∀ w, Calls Tryd.prog 42 #[.int .i64 ((a : Nat) : Int), .int .i64 ((b : Nat) : Int), .int .i64 ((c : Nat) : Int)] w fun r w' => r = .returned (.int .i64 ((c6 : Nat) : Int)) ∧ Below w.heap.size w w') := by
        intro w
        rw [hc6]
        exact most_any a b c w oa ob oc
      have HS : Hid (Sha.step ⟨a, b, c, d, e, f, g, z⟩ xk xw = ⟨((z + m5 + c5 + xk + xw) % 4294967296 + (m6 + c6) % 4294967296) % 4294967296, a, b, c, (d + (z + m5 + c5 + xk + xw) % 4294967296) % 4294967296, e, f, g⟩) := by
        show _ = _
        rw [hm5, hc5, hm6, hc6]
        rfl
      clear hm5 hc5 hm6 hc6
      have kk64 : (k : Int) < 64 := by omega
      have hbr : Below wr.heap.size wr wr.drew := (Below.refl _ _).drew
      go_upto_region 5 with fail
      go_cut [9] from 13 to 73 (fun t wx => t = .int .i64 ((z : Int) + (m5 : Int) + (c5 : Int) + (xk : Int) + (xw : Int)) ∧ Below wr.heap.size wr wx)
      case first =>
        go_region_held3 (fun w' => Below wr.heap.size wr w' ∧ w'.cell? ⟨w.heap.size + 2, 4, none⟩ = some (.int .i64 ((e : Nat) : Int)) ∧ w'.cell? ⟨w.heap.size + 2, 5, none⟩ = some (.int .i64 ((f : Nat) : Int)) ∧ w'.cell? ⟨w.heap.size + 2, 6, none⟩ = some (.int .i64 ((g : Nat) : Int)) ∧ w'.cell? ⟨w.heap.size + 2, 7, none⟩ = some (.int .i64 ((z : Nat) : Int)) ∧ w'.cell? ⟨gk, k, none⟩ = some (.int .i64 ((xk : Nat) : Int)) ∧ w'.cell? ⟨gw, k, none⟩ = some (.int .i64 ((xw : Nat) : Int))) (first | go_keep | exact keep6 (l0 := by omega) (l1 := by omega) (l2 := by omega) (l3 := by omega) (l4 := by omega) (l5 := by omega) (by assumption) (by assumption))
          (first
            | (go_at_call 40; refine (HM5.out _).mono ?_; rintro _ w1 ⟨rfl, hb1⟩)
            | (go_at_call 41; refine (HC5.out _).mono ?_; rintro _ w2 ⟨rfl, hb2⟩))
        go_wp2_with fail
        go_meet
        case rel =>
          have q1 := hb1.size
          have q2 : wr.drew.heap.size = wr.heap.size := rfl
          exact ⟨by rw [wrap5 z m5 c5 xk xw oh lm5 lc5 lk lw], (hbr.trans (hb1.mono (by omega))).trans (hb2.mono (by omega))⟩
      case rest =>
        obtain ⟨ht, hbx⟩ := hcut
        obtain ⟨T, hT⟩ : ∃ T, T = z + m5 + c5 + xk + xw := ⟨_, rfl⟩
        rw [show (z : Int) + (m5 : Int) + (c5 : Int) + (xk : Int) + (xw : Int) = (T : Int) by omega] at ht
        rw [← hT] at HS
        have lT : T < 30000000000 := by omega
        subst ht
        clear hT HM5 HC5 lm5 lc5 v0 v1 v2 v3 v4 v5 v6 v7 hwk hxk
        have r2c := (hbx.block (w.heap.size + 2) hzr).trans r2
        obtain ⟨v0, v1, v2, v3, v4, v5, v6, v7⟩ := cells_of8 r2c
        have hzc := lt_of_row r2c
        have hbc : Below wc.heap.size wc wc.drew := (Below.refl _ _).drew
        go_upto_region 6 with fail
        go_cut [10] from 13 to 73 (fun t wx => t = .int .i64 ((m6 : Int) + (c6 : Int)) ∧ Below wc.heap.size wc wx)
        case first =>
          go_region_held3 (fun w' => Below wc.heap.size wc w' ∧ w'.cell? ⟨w.heap.size + 2, 0, none⟩ = some (.int .i64 ((a : Nat) : Int)) ∧ w'.cell? ⟨w.heap.size + 2, 1, none⟩ = some (.int .i64 ((b : Nat) : Int)) ∧ w'.cell? ⟨w.heap.size + 2, 2, none⟩ = some (.int .i64 ((c : Nat) : Int))) (first | go_keep | exact keep3 (l0 := by omega) (l1 := by omega) (l2 := by omega) (by assumption) (by assumption))
            (first
              | (go_at_call 40; refine (HM6.out _).mono ?_; rintro _ w1 ⟨rfl, hb1⟩)
              | (go_at_call 42; refine (HC6.out _).mono ?_; rintro _ w2 ⟨rfl, hb2⟩))
          go_wp2_with fail
          go_meet
          case rel =>
            have q1 := hb1.size
            have q2 : wc.drew.heap.size = wc.heap.size := rfl
            exact ⟨by rw [wrap2 m6 c6 lm6 lc6], (hbc.trans (hb1.mono (by omega))).trans (hb2.mono (by omega))⟩
        case rest =>
          obtain ⟨ht, hby⟩ := hcut
          subst ht
          have r2d := (hby.block (w.heap.size + 2) hzc).trans r2c
          have r0d := (hby.block w.heap.size (by omega)).trans ((hbx.block w.heap.size (by omega)).trans r0)
          have r1d := (hby.block (w.heap.size + 1) (by omega)).trans ((hbx.block (w.heap.size + 1) (by omega)).trans r1)
          clear v0 v1 v2 v3 v4 v5 v6 v7
          obtain ⟨v0, v1, v2, v3, v4, v5, v6, v7⟩ := cells_of8 r2d
          have q1 := hbx.size
          have hbd : Below w.heap.size w wc := hb.trans ((hbx.mono hsz).trans (hby.mono (by omega)))
          clear hby hbx hb HM6 HC6 hbr hbc
          go_wp2_with (refine wpList_store_row rfl 44 _ _ rfl (w.heap.size + 2) _ rfl rfl 44 _ r2d (size44 _ _ _ _ _ _ _ _) (sizes8 _ _ _ _ _ _ _ _ _ _ _ _ _ _ _ _) (ints8I_one _ _ _ _ _ _ _ _) ?_)
          go_roundw
          case rel =>
            have hr2 : Sha.roundsTo ws s (k + 1) = ⟨(T % 4294967296 + (m6 + c6) % 4294967296) % 4294967296, a, b, c, (d + T % 4294967296) % 4294967296, e, f, g⟩ := by
              rw [Sha.roundsTo, ← HV.out, ← HXK.out, ← HXW.out, HS.out]
            refine ⟨k + 1, by omega, by go_num, (setRow_other _ _ _ _ (by omega)).trans r0d, (setRow_other _ _ _ _ (by omega)).trans r1d, (setRow_heap _ _ _ _ _ _ r2d).trans ?_, hbd.setRow (by omega) _⟩
            rw [hr2, show ((T : Int) + ((m6 : Int) + (c6 : Int))) % 4294967296 = (((T % 4294967296 + (m6 + c6) % 4294967296) % 4294967296 : Nat) : Int) by omega, show ((d : Int) + (T : Int)) % 4294967296 = (((d + T % 4294967296) % 4294967296 : Nat) : Int) by omega]
          case measure => simp [intOf]; omega
    · have HKE : Hid (k = 64) := by show k = 64; omega
      have hok := Sha.roundsTo_ok (ws := ws) hs 64
      obtain ⟨v, hvv⟩ : ∃ v, v = Sha.roundsTo ws s 64 := ⟨_, rfl⟩
      rw [HKE.out, ← hvv] at r2
      rw [← hvv] at hok
      have HV := hide hvv
      clear hvv HW HWS HK HKS
      have hA : wr.heap[w.heap.size]? = some (.cells (cellsI [s.a, s.b, s.c, s.d, s.e, s.f, s.g, s.h]) 44 (0, 0)) := r0
      have hV : wr.heap[w.heap.size + 2]? = some (.cells (cellsI [v.a, v.b, v.c, v.d, v.e, v.f, v.g, v.h]) 44 (0, 0)) := r2
      have lA := st_lt hs
      have lV := st_lt hok
      clear r0 r2 hok
      go_wp2
      go_loopw [11] (fun i wr => ∃ j : Nat, j ≤ 8 ∧ i = .int .i64 ((j : Nat) : Int) ∧ wr.heap[w.heap.size]? = some (.cells (cellsI (Sha.addTo [s.a, s.b, s.c, s.d, s.e, s.f, s.g, s.h] [v.a, v.b, v.c, v.d, v.e, v.f, v.g, v.h] j)) 44 (0, 0)) ∧ wr.heap[w.heap.size + 1]? = some (.cells zero8I 44 (0, 0)) ∧ wr.heap[w.heap.size + 2]? = some (.cells (cellsI [v.a, v.b, v.c, v.d, v.e, v.f, v.g, v.h]) 44 (0, 0)) ∧ Below w.heap.size w wr)
        (fun i _ => 8 - (intOf i).toNat)
      case atStart => exact ⟨0, Nat.zero_le _, rfl, hA, r1, hV, hb⟩
      case round =>
        clear hA r1 hV hb
        obtain ⟨j, hj, rfl, hA, hR, hV, hBB⟩ := hrel
        by_cases hjl : j < 8
        · have ha := rowI_cell hA j (by rw [Sha.addTo_len]; simp; omega)
          have hv := rowI_cell hV j (by simp; omega)
          have hf := frozen_of_row _ _ j _ _ hA
          rw [Sha.addTo_at] at ha
          have lx := lA j
          have ly := lV j
          generalize hx : [s.a, s.b, s.c, s.d, s.e, s.f, s.g, s.h].getD j 0 = x at ha lx
          generalize hy : [v.a, v.b, v.c, v.d, v.e, v.f, v.g, v.h].getD j 0 = y at hv ly
          have HX := hide hx
          have HY := hide hy
          clear hx hy lA lV
          go_wp2
          go_region
          go_wp2
          go_roundw
          case rel =>
            rw [show ((x : Int) + (y : Int)) % 4294967296 = (((x + y) % 4294967296 : Nat) : Int) by omega]
            refine ⟨j + 1, by omega, by go_num, ?_, (heap_setCell_other _ _ _ _ (by simp)).trans hR, (heap_setCell_other _ _ _ _ (by simp)).trans hV, (hBB.setCell (by simp) _).drew⟩
            refine (rowI_store _ hA).trans ?_
            rw [← HX.out, ← HY.out]
            rfl
          case measure => simp [intOf]; omega
        · have hj8 : j = 8 := by omega
          subst hj8
          have hA' : wr.heap[w.heap.size]? = some (.cells (valsI (Sha.add s v)) 44 (0, 0)) := hA
          clear lA lV
          go_wp2_with (first | (refine wpList_load_row rfl 44 _ rfl w.heap.size rfl 44 _ _ _ hA' Tryd.underlying44 rfl (size44 _ _ _ _ _ _ _ _) ?_) | (refine wpList_store_row rfl 44 _ _ rfl (w.heap.size + 1) _ rfl rfl 44 _ hR (size44 _ _ _ _ _ _ _ _) (sizes8 _ _ _ _ _ _ _ _ _ _ _ _ _ _ _ _) (ints8I_one _ _ _ _ _ _ _ _) ?_))
          rw [← HV.out]
          exact bodyPost_ret (results_cell_row Tryd.results22 _ _ (w.heap.size + 1) 44 _ (0, 0) _ rfl (setRow_heap _ _ _ _ _ _ hR) Tryd.underlying44 rfl (size44 _ _ _ _ _ _ _ _)) rfl ⟨rfl, hBB.setRow (by omega) _⟩
end Go.Proofs.YtpgamoielkpakaaDoor
