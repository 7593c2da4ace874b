/-
  PROVED HERE: blobskeep.Round answers true, whatever raw numbers it is given; conditions: the program's tables read as its own text lays them (the card ties them).
-/
import Derived.Test.YtpgamoielkpakaaDoorRoundMath
namespace Go.Proofs.YtpgamoielkpakaaDoor
open Go.RowKit
theorem extract_take (s : ByteArray) (k : Nat) : (s.extract 0 k).data.toList = s.data.toList.take k := by
  rw [ByteArray.data_extract]
  simp
set_option maxHeartbeats 4000000 in
set_option maxRecDepth 100000 in
theorem round_any (oa : Option Addr) (ca : Nat) (raw : List Int) (c at_ : Int) (w : World) (n : Nat) (hn : raw.length = n) (hn2 : n ≤ 9223372036854775807) (ha : IntsAt w oa raw) (hr : ∀ i, -9223372036854775808 ≤ raw.getD i 0 ∧ raw.getD i 0 ≤ 9223372036854775807) (hc : -9223372036854775808 ≤ c) (hc2 : c ≤ 9223372036854775807) (ht1 : -9223372036854775808 ≤ at_) (ht2 : at_ ≤ 9223372036854775807) (hK : HasK w) (htab : Lib.TabIs Tryd.prog w "internal/strconv.uint64pow10" .u64 Lib.pow10Tab) :
    Calls Tryd.prog 6 #[.slice oa n ca, .int .i64 c, .int .i64 at_] w fun e w' => e = .returned (.bool true) ∧ Below w.heap.size w w' := by
  have HT := hide htab
  have hT := tab_lt gPow htab
  have CT := hide (tags_any oa ca raw w n hn hn2 ha hr hK)
  clear ha hr hK htab hn
  go_enter Tryd.func6, Tryd.ntmps6
  go_wp2_with fail
  refine CT.out.mono ?_
  rintro e w1 ⟨hb1, v1, l, rfl, hown1, hinv⟩
  dsimp only
  obtain ⟨o1, k1, rfl⟩ := own_slice hown1
  have h8 := hinv.len
  have hg := hinv.good
  have hT1 := own_tagsAt hown1 rfl
  obtain ⟨hsz, hsz0⟩ := pText_size hg h8
  have hi := index_of hg h8
  have hperr : pErr l = 0 := by unfold pErr; rw [if_pos hi]
  have HG := hide hg
  have TA1 := hide hT1
  have B1 := hide hb1
  clear hinv hown1 hT1 hg CT hb1
  go_wp2_with fail
  refine (ownPrint_any o1 k1 l w1 TA1.out (fun i => ?_) (tab_later gPow hT HT.out B1.out)).mono ?_
  · by_cases h : i < l.length
    · have := (good_facts hi).2 i h; omega
    · rw [List.getD_eq_getElem?_getD, List.getElem?_eq_none (by omega)]; decide
  rintro e w2 ⟨rfl, hb2⟩
  dsimp only
  rw [hperr]
  have TA2 := hide (TA1.out.later hb2)
  have B2 := hide (B1.out.trans (hb2.mono B1.out.size))
  clear hb2 TA1 hperr hi
  obtain ⟨s, hs⟩ : ∃ s, s = pText l := ⟨_, rfl⟩
  rw [← hs] at hsz hsz0 ⊢
  have HS := hide hs
  clear hs
  go_wp2_with fail
  refine (parse_any s w2 (by omega)).mono ?_
  rintro e w3 ⟨hb3, v3, h3⟩
  obtain ⟨c3, hc3⟩ := readS_ok (t := s) (by have h := (print_reads HG.out h8).choose_spec; rw [HS.out, pText_list HG.out h8]; exact h)
  rcases h3 with ⟨es, q, hok, rfl, hown3, _⟩ | ⟨p, hbad, _⟩
  rotate_left
  · rw [hc3] at hbad; cases hbad
  have hes : es = l.map Tg.en := by rw [hc3] at hok; cases hok; rfl
  subst hes
  rw [tg_back HG.out] at hown3
  rw [List.length_map] at hown3
  dsimp only
  obtain ⟨o3, k3, rfl⟩ := own_slice hown3
  have TA3 := hide (own_tagsAt hown3 rfl)
  have TB3 := hide (TA2.out.later hb3)
  have B3 := hide (B2.out.trans (hb3.mono B2.out.size))
  clear hown3 hb3 hok hc3 TA2
  go_wp2_with fail
  refine (sameK_any o1 o3 k1 k3 l l w3 TB3.out TA3.out (by omega)).mono ?_
  rintro e w4 ⟨rfl, hb4⟩
  rw [show decide (l = l) = true by simp]
  dsimp only
  have TA4 := hide (TB3.out.later hb4)
  have B4 := hide (B3.out.trans (hb4.mono B3.out.size))
  clear hb4 TA3 TB3
  have hne : (s.toList == []) = false := by
    rw [beq_eq_false_iff_ne]
    intro e
    have : s = ⟨#[]⟩ := (toList_inj s ⟨#[]⟩).1 (e.trans (by decide +kernel))
    rw [this] at hsz0
    exact absurd hsz0 (by decide)
  have hnot : ∀ (x : Bool) (w : World), (Op.unary .not (.bool x)).run Tryd.prog w = .ok (.bool (!x)) w := fun _ _ => rfl
  go_wp2_with fail
  refine (loose_any o1 k1 l c hc hc2 w4 l.length rfl h8 TA4.out HG.out).mono ?_
  rintro e w5 ⟨hb5, t, rfl, ht5, r5, hr5⟩
  dsimp only
  have TA5 := hide (TA4.out.later hb5)
  have B5 := hide (B4.out.trans (hb5.mono B4.out.size))
  obtain ⟨c5, hc5⟩ := readS_ok hr5
  have HC5 := hide hc5
  clear hb5 TA4 hr5 hc5
  obtain ⟨x1, y1⟩ : -9223372036854775808 ≤ at_ ∧ at_ ≤ 9223372036854775807 := ⟨ht1, ht2⟩
  have hpk : ∀ w, Calls Tryd.prog 16 #[.int .i64 at_, .int .i64 ((s.size : Nat) : Int)] w fun e w' => e = .returned (.int .i64 ((pickN at_ s.size : Nat) : Int)) ∧ w' = w := fun w => pick_any at_ s.size hsz0 (by omega) x1 y1 w
  have hkl := pickN_lt at_ s.size hsz0
  generalize pickN at_ s.size = k at hpk hkl
  have HPK := hide hpk
  clear hpk x1 y1
  have hsl : ¬ 9223372036854775807 < s.size + 1 := by omega
  have hk1 : (0 : Int) ≤ (k : Int) := by omega
  have hk2 : (k : Int) ≤ (s.size : Int) := by omega
  by_cases hlong : t.size ≤ 2000
  · have hgt : decide (2000 < (t.size : Int)) = false := by simp; omega
    go_wp2_with fail
    refine (parse_any t w5 hlong).mono ?_
    rintro e w6 ⟨hb6, v6, h6⟩
    rcases h6 with ⟨es, q, hok, rfl, hown6, _⟩ | ⟨p, hbad, _⟩
    rotate_left
    · rw [HC5.out] at hbad; cases hbad
    have hes : es = l.map Tg.en := by have := HC5.out; rw [this] at hok; cases hok; rfl
    subst hes
    rw [tg_back HG.out] at hown6
    rw [List.length_map] at hown6
    dsimp only
    obtain ⟨o6, k6, rfl⟩ := own_slice hown6
    have TA6 := hide (own_tagsAt hown6 rfl)
    have TB6 := hide (TA5.out.later hb6)
    have B6 := hide (B5.out.trans (hb6.mono B5.out.size))
    clear hown6 hb6 hok TA5 HC5
    go_wp2_with fail
    refine (sameK_any o1 o6 k1 k6 l l w6 TB6.out TA6.out (by omega)).mono ?_
    rintro e w7 ⟨rfl, hb7⟩
    rw [show decide (l = l) = true by simp]
    dsimp only
    have B7 := hide (B6.out.trans (hb7.mono B6.out.size))
    clear hb7 TA6 TB6 B6 B5
    go_wp2_with fail
    refine (HPK.out _).mono ?_
    rintro e w8 ⟨rfl, hw8⟩
    obtain rfl := hw8.symm
    dsimp only
    go_wp2_with fail
    refine (parse_any (s.extract 0 k) w7 (by rw [ByteArray.size_extract]; omega)).mono ?_
    rintro e w9 ⟨hb9, v9, h9⟩
    obtain ⟨p9, hp9, hpk9⟩ := cut_bad HG.out h8 k (by rw [← HS.out]; exact hkl) (s.extract 0 k) (by rw [← HS.out]; exact extract_take s k)
    rcases h9 with ⟨es, q, hok, _⟩ | ⟨p, hbad, rfl, hown9⟩
    · rw [hp9] at hok; cases hok
    have hpp : p = p9 := by rw [hp9] at hbad; cases hbad; rfl
    rw [hpp]
    dsimp only
    obtain ⟨o9, k9, rfl⟩ := own_slice hown9
    have B9 := hide (B7.out.trans (hb9.mono B7.out.size))
    clear hown9 hb9 hbad hp9 B7 hpp p
    go_wp2_with fail
    have hu10 : ∃ u : ByteArray, u = s ++ ⟨#[63]⟩ := ⟨_, rfl⟩
    obtain ⟨u, hu10⟩ := hu10
    rw [← hu10]
    have hus : u.size ≤ 2000 := by rw [hu10, ByteArray.size_append]; have e : (ByteArray.mk #[63]).size = 1 := rfl; omega
    refine (parse_any u w9 hus).mono ?_
    rintro e w10 ⟨hb10, v10, h10⟩
    have hp10 : readS u = .bad s.size := by
      have h := more_bad HG.out h8 u (by rw [← HS.out, hu10]; simp [ByteArray.data_append])
      rw [← HS.out] at h
      exact h
    rcases h10 with ⟨es, q, hok, _⟩ | ⟨p, hbad, rfl, hown10⟩
    · rw [hp10] at hok; cases hok
    have hpp : p = s.size := by rw [hp10] at hbad; cases hbad; rfl
    rw [hpp]
    dsimp only
    obtain ⟨o10, k10, rfl⟩ := own_slice hown10
    have B10 := hide (B9.out.trans (hb10.mono B9.out.size))
    clear hown10 hb10 hbad hp10 B9 hpp p hu10 hus
    have hfin : decide ((p9 : Int) ≤ (k : Int)) = true := by simp; omega
    go_wp2_with fail
    go_ret
    exact ⟨rfl, B10.out⟩
  · have hgt : decide (2000 < (t.size : Int)) = true := by simp; omega
    go_wp2_with fail
    refine (parse_long t w5 hlong).mono ?_
    rintro e w6 ⟨hb6, rfl⟩
    dsimp only
    have TB6 := hide (TA5.out.later hb6)
    have B6 := hide (B5.out.trans (hb6.mono B5.out.size))
    clear hb6 TA5 HC5
    go_wp2_with fail
    refine (sameK_any o1 none k1 0 l [] w6 TB6.out (fun i hi => by simp at hi) (by omega)).mono ?_
    rintro e w7 ⟨rfl, hb7⟩
    generalize decide (l = []) = bb
    dsimp only
    have B7 := hide (B6.out.trans (hb7.mono B6.out.size))
    clear hb7 TB6 B6 B5
    go_wp2_with fail
    refine (HPK.out _).mono ?_
    rintro e w8 ⟨rfl, hw8⟩
    obtain rfl := hw8.symm
    dsimp only
    go_wp2_with fail
    refine (parse_any (s.extract 0 k) w7 (by rw [ByteArray.size_extract]; omega)).mono ?_
    rintro e w9 ⟨hb9, v9, h9⟩
    obtain ⟨p9, hp9, hpk9⟩ := cut_bad HG.out h8 k (by rw [← HS.out]; exact hkl) (s.extract 0 k) (by rw [← HS.out]; exact extract_take s k)
    rcases h9 with ⟨es, q, hok, _⟩ | ⟨p, hbad, rfl, hown9⟩
    · rw [hp9] at hok; cases hok
    have hpp : p = p9 := by rw [hp9] at hbad; cases hbad; rfl
    rw [hpp]
    dsimp only
    obtain ⟨o9, k9, rfl⟩ := own_slice hown9
    have B9 := hide (B7.out.trans (hb9.mono B7.out.size))
    clear hown9 hb9 hbad hp9 B7 hpp p
    go_wp2_with fail
    have hu10 : ∃ u : ByteArray, u = s ++ ⟨#[63]⟩ := ⟨_, rfl⟩
    obtain ⟨u, hu10⟩ := hu10
    rw [← hu10]
    have hus : u.size ≤ 2000 := by rw [hu10, ByteArray.size_append]; have e : (ByteArray.mk #[63]).size = 1 := rfl; omega
    refine (parse_any u w9 hus).mono ?_
    rintro e w10 ⟨hb10, v10, h10⟩
    have hp10 : readS u = .bad s.size := by
      have h := more_bad HG.out h8 u (by rw [← HS.out, hu10]; simp [ByteArray.data_append])
      rw [← HS.out] at h
      exact h
    rcases h10 with ⟨es, q, hok, _⟩ | ⟨p, hbad, rfl, hown10⟩
    · rw [hp10] at hok; cases hok
    have hpp : p = s.size := by rw [hp10] at hbad; cases hbad; rfl
    rw [hpp]
    dsimp only
    obtain ⟨o10, k10, rfl⟩ := own_slice hown10
    have B10 := hide (B9.out.trans (hb10.mono B9.out.size))
    clear hown10 hb10 hbad hp10 B9 hpp p hu10 hus
    have hfin : decide ((p9 : Int) ≤ (k : Int)) = true := by simp; omega
    go_wp2_with fail
    go_ret
    exact ⟨rfl, B10.out⟩
end Go.Proofs.YtpgamoielkpakaaDoor
