/-
  PROVED HERE: the statement's own step that asks a pair of disks for their lists of paths.
-/
import Derived.Test.YtjipdjkcdoajbaaGreatDoorBkPaths
namespace Go.Proofs.YtjipdjkcdoajbaaGreatDoor
open Go.RowKit
theorem oList (t : Option Tw) (w : World) {n B : Nat} (h : OIn w n B t) (hn : n + B ≤ 1048576) :
    Calls Tryz.prog 16 #[oX t] w fun e w1 => ∃ v k ls, ls.length ≤ 1048576 ∧ e = .returned (.tuple #[v, .int .i64 k]) ∧ Below w.heap.size w w1 ∧ w1.ownsRow w.heap.size 9 1 v ls.length (strs ls) ∧
      Calls Tryz.prog 17 #[oD t] w1 fun e w2 => ∃ u, e = .returned (.tuple #[u, .int .i64 k]) ∧ Below w1.heap.size w1 w2 ∧ w2.ownsRow w1.heap.size 9 1 u ls.length (strs ls) := by
  cases t with
  | none =>
    refine (wList_nil w).mono ?_
    rintro _ w1 ⟨rfl, rfl⟩
    refine ⟨_, 1, [], by decide, rfl, Below.refl _ _, World.ownsRow_nil _ _ _ _, (rdList_nil w1).mono ?_⟩
    rintro _ w2 ⟨rfl, rfl⟩
    exact ⟨_, rfl, Below.refl _ _, World.ownsRow_nil _ _ _ _⟩
  | some t =>
    have hnow := h.2.now h.1.tie.inv
    have e1 : strs (t.r.R.now.map (·.path)) = pathVs t.r.R.now := by unfold strs pathVs; rw [List.map_map]; rfl
    refine (tList t w h.1 h.2 hn).mono ?_
    rintro _ w1 ⟨v, rfl, hb, ho, hc⟩
    refine ⟨v, 0, t.r.R.now.map (·.path), by rw [List.length_map]; omega, rfl, hb, by rw [List.length_map, e1]; exact ho, hc.mono ?_⟩
    rintro _ w2 ⟨u, rfl, hb2, ho2⟩
    exact ⟨u, rfl, hb2, by rw [List.length_map, e1]; exact ho2⟩
set_option maxHeartbeats 2000000 in
set_option maxRecDepth 100000 in
theorem lkList (p : Option Tw) (bb N came : Nat) (kp wp av : Value) (bs : List PB) (kps : List ByteArray) (K A C : Int) (S T : ByteArray) (la : Option Addr) (ln lc : Nat) (w : World) {n B : Nat} (h : OIn w n B p) (hn : n + B ≤ 1048576) (hk : BkK w bb N came kp wp av bs kps) (hN : N ≤ 90000000) (hbs : bs.length ≤ 90000000) (hcm : came ≤ 90000000) :
    Calls Tryz.prog 9 #[.agg #[oX p, oD p], .pointer (some ⟨bb, 0, none⟩), .agg #[.int .i64 10, .int .i64 K, .int .i64 A, .int .i64 C, .string S, .string T, .slice la ln lc]] w fun e w' => e = .returned (.bool true) ∧ ∃ N' kp' wp' av' bs' kps', BkK w' bb N' (came + 1) kp' wp' av' bs' kps' ∧ N' ≤ N + 2 ∧ bs'.length ≤ bs.length + 8 ∧ Gr (fun q => q = bb ∨ av.ownBlock = some q ∨ kp.ownBlock = some q) w w' := by
  obtain ⟨ax, hx⟩ := oX_ptr p
  obtain ⟨ad, hd⟩ := oD_ptr p
  have hb2 := two_below w (.cells #[oX p, oD p] 39) (.cells #[.int .i64 10, .int .i64 K, .int .i64 A, .int .i64 C, .string S, .string T, .slice la ln lc] 33)
  have hc := oList p _ (h.later hb2) hn
  rw [hx, hd] at hb2 hc
  rw [hx, hd]
  have HC := hide hc
  have HB := hide hb2
  have HK := hide (hk.later hb2)
  have HK0 := hide hk
  clear h hc hb2 hk
  go_enter Tryz.func9, Tryz.ntmps9
  go_wp2_with fail
  refine HC.out.mono ?_
  rintro _ w1 ⟨v, k, ls, hls, rfl, hb1, ho1, hc2⟩
  dsimp only
  have k1 := (hb1.block w.heap.size (by rw [size_alloc2]; omega)).trans (heap_alloc2_old _ _ _)
  have c1 : w1.cell? ⟨w.heap.size, 1, none⟩ = some (.pointer ad) := cell_of_row _ _ 1 _ _ _ k1
  have HC2 := hide hc2
  have HB1 := hide hb1
  have HO1 := hide ho1
  clear hc2 k1 hb1 ho1
  go_wp2_with fail
  refine HC2.out.mono ?_
  rintro _ w2 ⟨u, rfl, hb2, ho2⟩
  dsimp only
  have hv2 := ownsRow_later HO1.out hb2
  have hbA := HB1.out.trans (hb2.mono HB1.out.size)
  have HKA := hide (HK.out.later hbA)
  have HBA := hide (HB.out.trans (hbA.mono HB.out.size))
  have HSS := hide (sameS_any v u ls w2 (own_ss hv2) (own_ss ho2) (by omega))
  have HV2 := hide hv2
  obtain ⟨ov, cv, hv⟩ := own_sl hv2
  obtain ⟨ou, cu, hu⟩ := own_sl ho2
  subst hv hu
  clear hb2 ho2 hv2 hbA c1
  go_wp2_with fail
  refine HSS.out.mono ?_
  rintro _ w3 ⟨rfl, hb3⟩
  dsimp only
  have hv3 := ownsRow_later HV2.out hb3
  have hlow : ∀ q, (Value.slice ov ls.length cv).ownBlock = some q → w.heap.size ≤ q := fun q hq => Nat.le_trans HB.out.size (HO1.out.lt q hq).1
  have HPA := hide (paths_any bb ls.length N came kp wp av (.slice ov ls.length cv) bs kps ls w3 (HKA.out.later hb3) (hv3.mono_base (Nat.le_of_lt (lt_of_row HK.out.bk.blk))) rfl (by omega) hN hbs hcm (fun q e1 e2 => by
    have := hlow q e1
    obtain ⟨cur, hc⟩ := own_obj HK0.out.own q e2
    have := lt_heap hc
    omega) (fun e he q e1 e2 => by
    have := hlow q e1
    obtain ⟨cur, fr, hc⟩ := HK0.out.bk.row e he q e2
    have := lt_heap hc
    omega))
  have HB3 := hide (HBA.out.trans (hb3.mono HBA.out.size))
  have HLOW := hide hlow
  clear hb3 hv3 hlow
  go_wp2_with fail
  refine HPA.out.mono ?_
  rintro _ w4 ⟨rfl, N', kp', wp', av', bs', kps', h1, h2, h3, h4⟩
  dsimp only
  have HF := hide h1
  have HG := hide h4
  have H2 := hide h2
  have H3 := hide h3
  clear h1 h2 h3 h4
  go_wp2_with fail
  go_ret
  refine ⟨rfl, N', kp', wp', av', bs', kps', HF.out, H2.out, H3.out, gr_more (Gr.of_below HB3.out) HG.out (fun q hq e => ?_)⟩
  rcases e with e | e | e | e
  · exact .inl e
  · exact .inr (.inl e)
  · exact .inr (.inr e)
  · have := HLOW.out q e
    omega
end Go.Proofs.YtjipdjkcdoajbaaGreatDoor

/-
  PROVED HERE: which of several things a raw number speaks of.
-/
namespace Go.Proofs.YtjipdjkcdoajbaaGreatDoor
open Go.RowKit
def pickN (c : Int) (n : Nat) : Nat := if c < 0 then (-(c + 1)).toNat % n else c.toNat % n
theorem pickN_lt (c : Int) (n : Nat) (hn : 0 < n) : pickN c n < n := by
  unfold pickN
  split <;> exact Nat.mod_lt _ hn
theorem pick_any (c : Int) (n : Nat) (hn : 0 < n) (hn2 : n ≤ 1000000000) (h0 : -9223372036854775808 ≤ c) (h1 : c ≤ 9223372036854775807) (w : World) :
    Calls Tryz.prog 6 #[.int .i64 c, .int .i64 ((n : Nat) : Int)] w fun e w' => e = .returned (.int .i64 ((pickN c n : Nat) : Int)) ∧ w' = w := by
  have hne : ¬ (n : Int) = 0 := by omega
  have hw : ∀ x : Int, -9223372036854775808 ≤ x → x ≤ 9223372036854775807 → IntKind.i64.wrap x = x := fun x a b => by unfold IntKind.wrap; simp [IntKind.signed, IntKind.bits]; omega
  unfold pickN
  by_cases hc : c < 0
  · have w1 := hw (c + 1) (by omega) (by omega)
    have w2 := hw (-(c + 1)) (by omega) (by omega)
    rw [if_pos hc]
    go_enter Tryz.func6, Tryz.ntmps6
    go_wp2_with fail
    go_ret
    obtain ⟨m, hm⟩ : ∃ m : Nat, c + 1 = -(m : Int) := ⟨(-(c + 1)).toNat, by omega⟩
    refine ⟨?_, rfl⟩
    show Ending.returned (.int .i64 (-((c + 1).tmod (n : Int)))) = _
    rw [hm, Int.neg_tmod, Int.neg_neg, Int.neg_neg, Int.toNat_natCast, Int.tmod_eq_emod_of_nonneg (by omega), ← Int.natCast_emod]
  · rw [if_neg hc]
    go_enter Tryz.func6, Tryz.ntmps6
    go_wp2_with fail
    go_ret
    obtain ⟨m, hm⟩ : ∃ m : Nat, c = (m : Int) := ⟨c.toNat, by omega⟩
    refine ⟨?_, rfl⟩
    show Ending.returned (.int .i64 (c % (n : Int))) = _
    rw [hm, Int.max_eq_left (by omega)]
end Go.Proofs.YtjipdjkcdoajbaaGreatDoor
