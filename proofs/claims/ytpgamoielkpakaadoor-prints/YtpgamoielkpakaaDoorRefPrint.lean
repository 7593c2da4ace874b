/-
  PROVED HERE: what Print of the document's answer answers for every list of entries: the same as the program's; nothing that was there has turned.
-/
import Derived.Test.YtpgamoielkpakaaDoorOwnPrint
import Derived.Test.YtpgamoielkpakaaDoorRefTag
import Derived.Test.YtpgamoielkpakaaDoorDecimal
namespace Go.Proofs.YtpgamoielkpakaaDoor
open Go.RowKit
theorem bad_answer {l : List Tg} (k : Nat) (hk : k < l.length) (h : goodB l k = false) : pText l = ⟨#[]⟩ ∧ pErr l = 5 := by
  have hi : indexB l = false := by
    unfold indexB
    have : ¬ ∀ k, k < l.length → goodB l k = true := fun h2 => by rw [h2 k hk] at h; cases h
    simp [this]
  unfold pText pErr
  rw [hi]
  exact ⟨rfl, rfl⟩
theorem ref_text (s0 n1 d1 zT : ByteArray) (z1 : Int) (c : List UInt8) (hs : s0 = ⟨c.toArray⟩) (hd : isDigB d1 = true) (hz : zT = ⟨(Lib.itoa z1).toArray⟩) :
    (s0 ++ ⟨#[123, 34, 116, 97, 103, 34, 58, 34]⟩ ++ n1 ++ ⟨#[34, 44, 34, 100, 105, 103, 101, 115, 116, 34, 58, 34]⟩ ++ d1 ++ ⟨#[34, 44, 34, 115, 105, 122, 101, 34, 58]⟩ ++ zT ++ ⟨#[125]⟩ : ByteArray) = ⟨(c ++ eText ⟨n1, d1, z1⟩).toArray⟩ := by
  apply ByteArray.ext
  rw [hs, hz]
  unfold eText
  rw [rd_text hd]
  apply Array.ext'
  simp [ByteArray.data_append]
set_option maxHeartbeats 8000000 in
set_option maxRecDepth 100000 in
theorem refPrint_core (oa : Option Addr) (ca : Nat) (l : List Tg) (w : World) (n : Nat) (hn : l.length = n) (h8 : n ≤ 8) (ha : TagsAt w oa l) (hsz : ∀ i, (l.getD i default).name.size ≤ 9223372036854775807 ∧ (l.getD i default).dig.size ≤ 9223372036854775807) :
    Calls Tryd.prog 10 #[.slice oa n ca] w fun e w' => e = .returned (.tuple #[.string (pText l), .int .i64 (pErr l)]) ∧ Below w.heap.size w w' := by
  have HA := hide ha
  have HN := hide hn
  have HSZ := hide hsz
  clear ha hn hsz
  have n8 : ¬ 8 < (n : Int) := by omega
  obtain ⟨pT, hpT⟩ : ∃ pT, pT = pText l := ⟨_, rfl⟩
  obtain ⟨pE, hpE⟩ : ∃ pE, pE = pErr l := ⟨_, rfl⟩
  rw [← hpT, ← hpE]
  have HP := hide (And.intro hpT hpE)
  clear hpT hpE
  go_enter Tryd.func10, Tryd.ntmps10
  go_wp2
  go_loopw [4, 5] (fun s i wr => ∃ k : Nat, k ≤ n ∧ i = .int .i64 ((k : Nat) : Int) ∧ s = .string ⟨(prTo l k).toArray⟩ ∧ Below w.heap.size w wr ∧ (∀ j, j < k → goodB l j = true))
    (fun _ i _ => n - (intOf i).toNat)
  case atStart => exact ⟨0, Nat.zero_le _, rfl, rfl, Below.refl _ _, fun j hj => by omega⟩
  case round =>
    obtain ⟨k, hk, rfl, rfl, hbel, hall⟩ := hrel
    have HALL := hide hall
    clear hall
    by_cases hlt : k < n
    · obtain ⟨b1, o1, rfl, x1⟩ := HA.out k (by rw [HN.out]; exact hlt)
      have x2 := rangeAt_later hbel x1
      clear x1
      have hs1 := (HSZ.out k).1
      have hs2 := (HSZ.out k).2
      have hgood : goodB l k = (isDigB (l.getD k default).dig && (isTagB (l.getD k default).name && (!leB (l.getD k default).name (lastName l k) && (decide (0 ≤ (l.getD k default).size) && decide ((l.getD k default).size ≤ 300))))) := rfl
      generalize hx : l.getD k default = tx at x2 hs1 hs2 hgood
      have HX := hide hx
      clear hx
      obtain ⟨n1, d1, z1⟩ := tx
      have c1 := x2 0 _ rfl
      have c2 := x2 1 _ rfl
      have c3 := x2 2 _ rfl
      simp only [Nat.add_zero] at c1
      clear x2
      dsimp only at hs1 hs2 hgood
      have HG := hide hgood
      clear hgood
      obtain ⟨s0, hs0⟩ : ∃ s0 : ByteArray, s0 = ⟨(prTo l k).toArray⟩ := ⟨_, rfl⟩
      rw [← hs0]
      have hs0l : s0.size ≤ 21 + 136 * k := by
        rw [hs0, bytes_size]
        refine prTo_len l k fun j hj => ?_
        have := HALL.out j hj
        unfold goodB at this
        simp only [Bool.and_eq_true, decide_eq_true_iff] at this
        refine ⟨?_, this.2.2.2.1, this.2.2.2.2⟩
        have h2 := this.2.1
        unfold isTagB at h2
        simp only [Bool.and_eq_true, decide_eq_true_iff] at h2
        exact h2.1.1.2
      have HS0 := hide hs0
      clear hs0
      have kn : (k : Int) < (n : Int) := by omega
      cases hdig : isDigB d1 with
      | false =>
        cases htag : isTagB n1 with
        | false =>
          have HC26 : Hid (∀ w, Calls Tryd.prog 26 #[.string n1] w fun e w' => e = .returned (.bool false) ∧ w' = w) := fun w => by
            have := refTag_any n1 w hs1
            rwa [htag] at this
          have HC27 : Hid (∀ w, Calls Tryd.prog 27 #[.string d1] w fun e w' => e = .returned (.bool false) ∧ w' = w) := fun w => by
            have := isDigest_any d1 w hs2
            rwa [hdig] at this
          go_wp2_with (first | (go_at_call 26; refine (HC26.out _).mono ?_; rintro e w' ⟨rfl, rfl⟩) | (go_at_call 27; refine (HC27.out _).mono ?_; rintro e w' ⟨rfl, rfl⟩))
          go_region
          go_wp2
          (try simp only [Exit.inBlock, Exit.then])
          refine bodyPost_ret (results_tmp2 rfl _ _ _) rfl ?_
          refine ⟨?_, hbel.drew⟩
          rw [HP.out.1, HP.out.2]
          have hb := bad_answer k (by rw [HN.out]; exact hlt) (by rw [HG.out, hdig, Bool.false_and])
          rw [hb.1, hb.2]
          rfl
        | true =>
          have HC26 : Hid (∀ w, Calls Tryd.prog 26 #[.string n1] w fun e w' => e = .returned (.bool true) ∧ w' = w) := fun w => by
            have := refTag_any n1 w hs1
            rwa [htag] at this
          have HC27 : Hid (∀ w, Calls Tryd.prog 27 #[.string d1] w fun e w' => e = .returned (.bool false) ∧ w' = w) := fun w => by
            have := isDigest_any d1 w hs2
            rwa [hdig] at this
          go_wp2_with (first | (go_at_call 26; refine (HC26.out _).mono ?_; rintro e w' ⟨rfl, rfl⟩) | (go_at_call 27; refine (HC27.out _).mono ?_; rintro e w' ⟨rfl, rfl⟩))
          go_region
          go_wp2
          (try simp only [Exit.inBlock, Exit.then])
          refine bodyPost_ret (results_tmp2 rfl _ _ _) rfl ?_
          refine ⟨?_, hbel.drew⟩
          rw [HP.out.1, HP.out.2]
          have hb := bad_answer k (by rw [HN.out]; exact hlt) (by rw [HG.out, hdig, Bool.false_and])
          rw [hb.1, hb.2]
          rfl
      | true =>
        cases htag : isTagB n1 with
        | false =>
          have HC26 : Hid (∀ w, Calls Tryd.prog 26 #[.string n1] w fun e w' => e = .returned (.bool false) ∧ w' = w) := fun w => by
            have := refTag_any n1 w hs1
            rwa [htag] at this
          have HC27 : Hid (∀ w, Calls Tryd.prog 27 #[.string d1] w fun e w' => e = .returned (.bool true) ∧ w' = w) := fun w => by
            have := isDigest_any d1 w hs2
            rwa [hdig] at this
          go_wp2_with (first | (go_at_call 26; refine (HC26.out _).mono ?_; rintro e w' ⟨rfl, rfl⟩) | (go_at_call 27; refine (HC27.out _).mono ?_; rintro e w' ⟨rfl, rfl⟩))
          go_region
          go_wp2
          (try simp only [Exit.inBlock, Exit.then])
          refine bodyPost_ret (results_tmp2 rfl _ _ _) rfl ?_
          refine ⟨?_, hbel.drew⟩
          rw [HP.out.1, HP.out.2]
          have hb := bad_answer k (by rw [HN.out]; exact hlt) (by rw [HG.out, htag, Bool.false_and, Bool.and_false])
          rw [hb.1, hb.2]
          rfl
        | true =>
          have HC26 : Hid (∀ w, Calls Tryd.prog 26 #[.string n1] w fun e w' => e = .returned (.bool true) ∧ w' = w) := fun w => by
            have := refTag_any n1 w hs1
            rwa [htag] at this
          have HC27 : Hid (∀ w, Calls Tryd.prog 27 #[.string d1] w fun e w' => e = .returned (.bool true) ∧ w' = w) := fun w => by
            have := isDigest_any d1 w hs2
            rwa [hdig] at this
          have hd64 : d1.size = 64 := (dig_hex hdig).1
          have hn20 : n1.size ≤ 20 ∧ 1 ≤ n1.size := by
            unfold isTagB at htag
            simp only [Bool.and_eq_true, decide_eq_true_iff] at htag
            exact ⟨htag.1.1.2, htag.1.1.1⟩
          have HDT := hide (And.intro hdig htag)
          clear hdig htag
          have HZ : Hid ((z1 < 0) ∨ (¬ z1 < 0 ∧ 300 < z1) ∨ (¬ z1 < 0 ∧ ¬ 300 < z1)) := hide (by omega)
          rcases HZ.out with z0 | ⟨z0, z3⟩ | ⟨z0, z3⟩
          · have HZ1 := hide z0
            have e0 : decide (z1 < 0) = true := by simp; omega
            clear z0
            go_wp2_with (first | (go_at_call 26; refine (HC26.out _).mono ?_; rintro e w' ⟨rfl, rfl⟩) | (go_at_call 27; refine (HC27.out _).mono ?_; rintro e w' ⟨rfl, rfl⟩))
            go_region
            go_wp2
            (try simp only [Exit.inBlock, Exit.then])
            refine bodyPost_ret (results_tmp2 rfl _ _ _) rfl ?_
            refine ⟨?_, hbel.drew⟩
            rw [HP.out.1, HP.out.2]
            have hb := bad_answer k (by rw [HN.out]; exact hlt) (by have := HZ1.out; rw [HG.out]; simp; omega)
            rw [hb.1, hb.2]
            rfl
          · have HZ1 := hide (And.intro z0 z3)
            have e0 : decide (z1 < 0) = false := by simp; omega
            have e3 : decide (300 < z1) = true := by simp; omega
            clear z0 z3
            go_wp2_with (first | (go_at_call 26; refine (HC26.out _).mono ?_; rintro e w' ⟨rfl, rfl⟩) | (go_at_call 27; refine (HC27.out _).mono ?_; rintro e w' ⟨rfl, rfl⟩))
            go_region
            go_wp2
            (try simp only [Exit.inBlock, Exit.then])
            refine bodyPost_ret (results_tmp2 rfl _ _ _) rfl ?_
            refine ⟨?_, hbel.drew⟩
            rw [HP.out.1, HP.out.2]
            have hb := bad_answer k (by rw [HN.out]; exact hlt) (by have := HZ1.out; rw [HG.out]; simp; omega)
            rw [hb.1, hb.2]
            rfl
          · have HZ1 := hide (And.intro z0 z3)
            have e0 : decide (z1 < 0) = false := by simp; omega
            have e3 : decide (300 < z1) = false := by simp; omega
            obtain ⟨m1, hm1⟩ : ∃ m1 : Nat, z1 = (m1 : Int) := ⟨z1.toNat, by omega⟩
            obtain ⟨zT, hzT⟩ : ∃ zT : ByteArray, zT = ⟨(Lib.itoa z1).toArray⟩ := ⟨_, rfl⟩
            have hzl : zT.size ≤ 21 := by rw [hzT, bytes_size]; exact Lib.itoa_length_le z1 (by omega) (by omega)
            have hD : ∀ w, Calls Tryd.prog 28 #[.int .i64 z1] w fun e w' => e = .returned (.string zT) ∧ Below w.heap.size w w' := fun w => by
              rw [hzT, hm1]; exact decimal_any m1 (by omega) w
            have HD := hide hD
            have HzT := hide hzT
            clear hD hzT hm1 z0 z3
            obtain ⟨hn20, hn1⟩ := hn20
            by_cases hk0 : k = 0
            · have hg : goodB l k = true := by
                have := HZ1.out
                rw [HG.out, HDT.out.1, HDT.out.2, hk0, show lastName l 0 = ⟨#[]⟩ from rfl, leB_empty n1 hn1]
                simp; omega
              have HGT := hide hg
              have e4 : decide (0 < k) = false := by simp; omega
              have e5 : ¬ 0 < k := by omega
              have HK0 := hide hk0
              clear hg hk0
              go_wp2_with (first | (go_at_call 26; refine (HC26.out _).mono ?_; rintro e w' ⟨rfl, rfl⟩) | (go_at_call 27; refine (HC27.out _).mono ?_; rintro e w' ⟨rfl, rfl⟩))
              go_region
              have q1 : ¬ 9223372036854775807 < s0.size + 8 := by omega
              have q2 : ¬ 9223372036854775807 < s0.size + 8 + n1.size := by omega
              have q3 : ¬ 9223372036854775807 < s0.size + 8 + n1.size + 12 := by omega
              have q4 : ¬ 9223372036854775807 < s0.size + 8 + n1.size + 12 + 64 := by omega
              have q5 : ¬ 9223372036854775807 < s0.size + 8 + n1.size + 12 + 64 + 9 := by omega
              have q6 : ¬ 9223372036854775807 < s0.size + 8 + n1.size + 12 + 64 + 9 + zT.size := by omega
              have q7 : ¬ 9223372036854775807 < s0.size + 8 + n1.size + 12 + 64 + 9 + zT.size + 1 := by omega
              go_wp2
              go_region_held3 (fun w' => w'.cell? ⟨b1, o1 + k * 3, none⟩ = some (.string n1) ∧ w'.cell? ⟨b1, o1 + k * 3 + 1, none⟩ = some (.string d1) ∧ w'.cell? ⟨b1, o1 + k * 3 + 2, none⟩ = some (.int .i64 z1)) (first | go_keep | exact ⟨cell_later hT c1, cell_later hT c2, cell_later hT c3⟩) ((go_at_call 28; refine (HD.out _).mono ?_; rintro _ w3 ⟨rfl, hT⟩))
              all_goals go_wp2
              all_goals
                go_roundw
                case rel =>
                  refine ⟨k + 1, by omega, by go_num, ?_, ((hbel.drew).drew).trans (hT.mono hbel.size), ?_⟩
                  · rw [ref_text s0 n1 d1 zT z1 (prTo l k) HS0.out HDT.out.1 HzT.out]
                    congr 3
                    rw [prTo, HX.out, if_neg (by omega), List.append_nil]
                  · intro j hj
                    by_cases e : j = k
                    · subst e; exact HGT.out
                    · exact HALL.out j (by omega)
                case measure => simp [intOf]; omega
            · obtain ⟨kk, rfl⟩ : ∃ kk, k = kk + 1 := ⟨k - 1, by omega⟩
              clear hk0
              obtain ⟨b2, o2, heq, x3⟩ := HA.out kk (by rw [HN.out]; omega)
              obtain ⟨rfl, rfl⟩ : b1 = b2 ∧ o1 = o2 := by
                injection heq with heq
                injection heq with e1 e2
                exact ⟨e1, e2⟩
              have c4 : wr.cell? ⟨b1, o1 + kk * 3, none⟩ = some (.string (l.getD kk default).name) := rangeAt_later hbel x3 0 _ rfl
              obtain ⟨la, hla⟩ : ∃ la, la = (l.getD kk default).name := ⟨_, rfl⟩
              rw [← hla] at c4
              have hlast : lastName l (kk + 1) = la := by rw [hla]; rfl
              have HLA := hide hlast
              clear heq x3 hla hlast
              have e4 : decide (0 < kk + 1) = true := by simp
              have w1 : IntKind.i64.wrap ((kk : Int) + 1 - 1) = (kk : Int) := by rw [IntKind.wrap_i64]; omega
              have w2 : IntKind.i64.wrap (kk : Int) = (kk : Int) := by rw [IntKind.wrap_i64]; omega
              have kn2 : (kk : Int) < (n : Int) := by omega
              have kn3 : (kk : Int) + 1 < (n : Int) := by omega
              have kn4 : (0 : Int) ≤ (kk : Int) + 1 := by omega
              have kn5 : ((kk : Int) + 1).toNat = kk + 1 := by omega
              cases hless : Op.bytesLess la.toList n1.toList with
              | false =>
                have hbad : goodB l (kk + 1) = false := by
                  rw [HG.out, HLA.out, show leB n1 la = true by rw [leB, ← bytesLess_not, hless]; rfl]
                  simp
                have HBad := hide hbad
                clear hbad
                go_wp2_with (first | (go_at_call 26; refine (HC26.out _).mono ?_; rintro e w' ⟨rfl, rfl⟩) | (go_at_call 27; refine (HC27.out _).mono ?_; rintro e w' ⟨rfl, rfl⟩))
                go_region
                go_wp2
                (try simp only [Exit.inBlock, Exit.then])
                refine bodyPost_ret (results_tmp2 rfl _ _ _) rfl ?_
                refine ⟨?_, hbel.drew⟩
                rw [HP.out.1, HP.out.2]
                have hb := bad_answer (kk + 1) (by rw [HN.out]; exact hlt) (by exact HBad.out)
                rw [hb.1, hb.2]
                rfl
              | true =>
                have hg : goodB l (kk + 1) = true := by
                  have := HZ1.out
                  rw [HG.out, HDT.out.1, HDT.out.2, HLA.out, show leB n1 la = false by rw [leB, ← bytesLess_not, hless]; rfl]
                  simp; omega
                have HGT := hide hg
                clear hg
                go_wp2_with (first | (go_at_call 26; refine (HC26.out _).mono ?_; rintro e w' ⟨rfl, rfl⟩) | (go_at_call 27; refine (HC27.out _).mono ?_; rintro e w' ⟨rfl, rfl⟩))
                go_region
                have q1 : ¬ 9223372036854775807 < s0.size + 1 + 8 := by omega
                have q2 : ¬ 9223372036854775807 < s0.size + 1 + 8 + n1.size := by omega
                have q3 : ¬ 9223372036854775807 < s0.size + 1 + 8 + n1.size + 12 := by omega
                have q4 : ¬ 9223372036854775807 < s0.size + 1 + 8 + n1.size + 12 + 64 := by omega
                have q5 : ¬ 9223372036854775807 < s0.size + 1 + 8 + n1.size + 12 + 64 + 9 := by omega
                have q6 : ¬ 9223372036854775807 < s0.size + 1 + 8 + n1.size + 12 + 64 + 9 + zT.size := by omega
                have q7 : ¬ 9223372036854775807 < s0.size + 1 + 8 + n1.size + 12 + 64 + 9 + zT.size + 1 := by omega
                have q0 : ¬ 9223372036854775807 < s0.size + 1 := by omega
                go_wp2
                go_region_held3 (fun w' => w'.cell? ⟨b1, o1 + (kk + 1) * 3, none⟩ = some (.string n1) ∧ w'.cell? ⟨b1, o1 + (kk + 1) * 3 + 1, none⟩ = some (.string d1) ∧ w'.cell? ⟨b1, o1 + (kk + 1) * 3 + 2, none⟩ = some (.int .i64 z1)) (first | go_keep | exact ⟨cell_later hT c1, cell_later hT c2, cell_later hT c3⟩) ((go_at_call 28; refine (HD.out _).mono ?_; rintro _ w3 ⟨rfl, hT⟩))
                all_goals go_wp2
                all_goals
                  go_roundw
                  case rel =>
                    refine ⟨(kk + 1) + 1, by omega, by go_num, ?_, ((hbel.drew).drew).trans (hT.mono hbel.size), ?_⟩
                    · rw [ref_text (s0 ++ ⟨#[44]⟩) n1 d1 zT z1 (prTo l (kk + 1) ++ [44]) (by rw [HS0.out, show (ByteArray.mk #[44]) = ⟨[44].toArray⟩ from rfl, ByteArray.mk_append_mk]) HDT.out.1 HzT.out]
                      congr 3
                      show _ = prTo l (kk + 1) ++ (if 0 < kk + 1 then [44] else []) ++ eText (l.getD (kk + 1) default); rw [if_pos (by omega), HX.out]
                    · intro j hj
                      by_cases e : j = (kk + 1)
                      · subst e; exact HGT.out
                      · exact HALL.out j (by omega)
                  case measure => simp [intOf]; omega
    · have hkn : k = n := by omega
      subst hkn
      have hi : indexB l = true := by
        unfold indexB
        rw [HN.out]
        simp only [Bool.and_eq_true, decide_eq_true_iff]
        exact ⟨h8, HALL.out⟩
      obtain ⟨s0, hs0⟩ : ∃ s0 : ByteArray, s0 = ⟨(prTo l k).toArray⟩ := ⟨_, rfl⟩
      rw [← hs0]
      have hs0l : s0.size ≤ 21 + 136 * k := by
        rw [hs0, bytes_size]
        have := (good_facts hi).2
        rw [HN.out] at this
        exact prTo_len l k this
      have e1 : pText l = s0 ++ ⟨#[93, 125]⟩ := by
        unfold pText
        rw [hi, HN.out, hs0, show (ByteArray.mk #[93, 125]) = ⟨[93, 125].toArray⟩ from rfl, ByteArray.mk_append_mk]
        rfl
      have e2 : pErr l = 0 := by unfold pErr; rw [hi]; rfl
      have H12 := hide (And.intro e1 e2)
      clear e1 e2 hi hs0
      have q : ¬ 9223372036854775807 < s0.size + 2 := by omega
      go_wp2
      (try simp only [Exit.inBlock, Exit.then])
      refine bodyPost_ret (results_tmp2 rfl _ _ _) rfl ?_
      refine ⟨?_, hbel⟩
      rw [HP.out.1, HP.out.2, H12.out.1, H12.out.2]
      rfl

set_option maxHeartbeats 1000000 in
set_option maxRecDepth 100000 in
theorem refPrint_long (oa : Option Addr) (ca : Nat) (w : World) (n : Nat) (h8 : 8 < n) :
    Calls Tryd.prog 10 #[.slice oa n ca] w fun e w' => e = .returned (.tuple #[.string ⟨#[]⟩, .int .i64 5]) ∧ Below w.heap.size w w' := by
  have n8 : 8 < (n : Int) := by omega
  go_enter Tryd.func10, Tryd.ntmps10
  go_wp2
  (try simp only [Exit.inBlock, Exit.then])
  refine bodyPost_ret (results_tmp2 rfl _ _ _) rfl ?_
  exact ⟨rfl, Below.refl _ _⟩
theorem refPrint_any (oa : Option Addr) (ca : Nat) (l : List Tg) (w : World) (ha : TagsAt w oa l) (hsz : ∀ i, (l.getD i default).name.size ≤ 9223372036854775807 ∧ (l.getD i default).dig.size ≤ 9223372036854775807) :
    Calls Tryd.prog 10 #[.slice oa l.length ca] w fun e w' => e = .returned (.tuple #[.string (pText l), .int .i64 (pErr l)]) ∧ Below w.heap.size w w' := by
  by_cases h8 : l.length ≤ 8
  · exact refPrint_core oa ca l w l.length rfl h8 ha hsz
  · have hi : indexB l = false := by simp [indexB, h8]
    have := refPrint_long oa ca w l.length (by omega)
    unfold pText pErr
    rw [hi]
    exact this
end Go.Proofs.YtpgamoielkpakaaDoor
