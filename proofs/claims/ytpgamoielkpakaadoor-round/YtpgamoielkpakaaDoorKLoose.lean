/-
  PROVED HERE: what the statement's own function loose answers: a text that is read as the index that it is of.
-/
import Derived.Test.YtpgamoielkpakaaDoorKMember
namespace Go.Proofs.YtpgamoielkpakaaDoor
open Go.RowKit
def Tg.en (t : Tg) : En := ⟨t.name, t.dig, t.size.toNat⟩
theorem joinT_snoc : ∀ (xs : List (List UInt8)) (x : List UInt8), joinT (xs ++ [x]) = joinT xs ++ (if xs = [] then [] else [44]) ++ x
  | [], x => rfl
  | [y], x => by simp [joinT]
  | y :: z :: l, x => by
    have ih := joinT_snoc (z :: l) x
    simp only [List.cons_append] at ih ⊢
    rw [joinT, ih, joinT]
    simp
theorem w64_range (n : Int) : -9223372036854775808 ≤ wrap64 n ∧ wrap64 n ≤ 9223372036854775807 := by unfold wrap64; omega
/-- A member's text. -/
def MemOf (key value a : ByteArray) : Prop := ∃ r1 r2 r3, r1 < 4 ∧ r2 < 4 ∧ r3 < 4 ∧ a = blOf r1 ++ ⟨#[34]⟩ ++ key ++ ⟨#[34]⟩ ++ blOf r2 ++ ⟨#[58]⟩ ++ blOf r3 ++ value
theorem MemOf.size {key value a : ByteArray} (h : MemOf key value a) : a.size ≤ key.size + value.size + 9 := by
  obtain ⟨r1, r2, r3, h1, h2, h3, rfl⟩ := h
  have s1 := bl_size r1 h1
  have s2 := bl_size r2 h2
  have s3 := bl_size r3 h3
  simp only [ByteArray.size_append]
  have e1 : (ByteArray.mk #[34]).size = 1 := rfl
  have e2 : (ByteArray.mk #[58]).size = 1 := rfl
  omega
theorem MemOf.list {key value a : ByteArray} (h : MemOf key value a) : ∃ b1 b2 b3, Blank b1 ∧ Blank b2 ∧ Blank b3 ∧ ∀ r, a.data.toList ++ r = memT b1 key.data.toList b2 (b3 ++ (value.data.toList ++ r)) := by
  obtain ⟨r1, r2, r3, h1, h2, h3, rfl⟩ := h
  refine ⟨_, _, _, bl_blank r1 h1, bl_blank r2 h2, bl_blank r3 h3, fun r => ?_⟩
  simp [memT, ByteArray.data_append]
def qq (n : ByteArray) : ByteArray := ⟨#[34]⟩ ++ n ++ ⟨#[34]⟩
theorem qq_list (n : ByteArray) (r : List UInt8) : (qq n).data.toList ++ r = 34 :: (n.data.toList ++ 34 :: r) := by simp [qq, ByteArray.data_append]
theorem Blank.append {a b : List UInt8} (ha : Blank a) (hb : Blank b) : Blank (a ++ b) := fun x hx => (List.mem_append.1 hx).elim (ha x) (hb x)
theorem mem_tag {n a : ByteArray} (h : MemOf sTag (qq n) a) (p d : List UInt8) (hp : Blank p) (hd : Blank d) : ∃ x : Bl, x.Ok ∧ ∀ (e : En) (r : List UInt8), e.name = n → tagT x e r = p ++ (a.data.toList ++ (d ++ r)) := by
  obtain ⟨b1, b2, b3, h1, h2, h3, hl⟩ := h.list
  refine ⟨⟨p ++ b1, b2, b3, d⟩, ⟨hp.append h1, h2, h3, hd⟩, fun e r he => ?_⟩
  rw [hl, qq_list, tagT, he]
  simp [memT]
theorem mem_dig {n a : ByteArray} (h : MemOf sDigest (qq n) a) (p d : List UInt8) (hp : Blank p) (hd : Blank d) : ∃ x : Bl, x.Ok ∧ ∀ (e : En) (r : List UInt8), e.dig = n → digT x e r = p ++ (a.data.toList ++ (d ++ r)) := by
  obtain ⟨b1, b2, b3, h1, h2, h3, hl⟩ := h.list
  refine ⟨⟨p ++ b1, b2, b3, d⟩, ⟨hp.append h1, h2, h3, hd⟩, fun e r he => ?_⟩
  rw [hl, qq_list, digT, he]
  simp [memT]
theorem mem_siz {zz : Nat} {a : ByteArray} (h : MemOf sSize ⟨(Lib.itoa zz).toArray⟩ a) (p d : List UInt8) (hp : Blank p) (hd : Blank d) : ∃ x : Bl, x.Ok ∧ ∀ (e : En) (r : List UInt8), e.size = zz → sizT x e r = p ++ (a.data.toList ++ (d ++ r)) := by
  obtain ⟨b1, b2, b3, h1, h2, h3, hl⟩ := h.list
  refine ⟨⟨p ++ b1, b2, b3, d⟩, ⟨hp.append h1, h2, h3, hd⟩, fun e r he => ?_⟩
  have hi : (⟨(Lib.itoa zz).toArray⟩ : ByteArray).data.toList = Lib.decDigits zz := by
    unfold Lib.itoa
    rw [if_neg (by omega)]
    simp
  rw [hl, hi, sizT, he]
  simp [memT]
theorem bl32 : Blank [32] := by unfold Blank; decide
theorem bl10 : Blank [10] := by unfold Blank; decide
section
variable {n1 d1 ta tb tc : ByteArray} {zz : Nat} (ha : MemOf sTag (qq n1) ta) (hb : MemOf sDigest (qq d1) tb) (hc : MemOf sSize ⟨(Lib.itoa zz).toArray⟩ tc) (hg : Good ⟨n1, d1, zz⟩)
include ha hb hc hg
theorem form0 : Reads ⟨n1, d1, zz⟩ ([123] ++ tc.data.toList ++ [44] ++ ta.data.toList ++ [32, 44] ++ tb.data.toList ++ [125]) := by
  obtain ⟨x, x1, x2⟩ := mem_tag ha [] [32] Blank.nil bl32
  obtain ⟨y, y1, y2⟩ := mem_dig hb [] [] Blank.nil Blank.nil
  obtain ⟨z, z1, z2⟩ := mem_siz hc [] [] Blank.nil Blank.nil
  have h := reads_cab ⟨n1, d1, zz⟩ hg [] x y z Blank.nil x1 y1 z1
  rw [z2 _ _ rfl, x2 _ _ rfl, y2 _ _ rfl] at h
  simpa using h
theorem form1 : Reads ⟨n1, d1, zz⟩ ([123] ++ tb.data.toList ++ [44] ++ tc.data.toList ++ [44] ++ ta.data.toList ++ [10, 125]) := by
  obtain ⟨x, x1, x2⟩ := mem_tag ha [] [10] Blank.nil bl10
  obtain ⟨y, y1, y2⟩ := mem_dig hb [] [] Blank.nil Blank.nil
  obtain ⟨z, z1, z2⟩ := mem_siz hc [] [] Blank.nil Blank.nil
  have h := reads_bca ⟨n1, d1, zz⟩ hg [] x y z Blank.nil x1 y1 z1
  rw [y2 _ _ rfl, z2 _ _ rfl, x2 _ _ rfl] at h
  simpa using h
theorem form2 : Reads ⟨n1, d1, zz⟩ ([32, 123, 32] ++ ta.data.toList ++ [44] ++ tb.data.toList ++ [44] ++ tc.data.toList ++ [125]) := by
  obtain ⟨x, x1, x2⟩ := mem_tag ha [32] [] bl32 Blank.nil
  obtain ⟨y, y1, y2⟩ := mem_dig hb [] [] Blank.nil Blank.nil
  obtain ⟨z, z1, z2⟩ := mem_siz hc [] [] Blank.nil Blank.nil
  have h := reads_abc ⟨n1, d1, zz⟩ hg [32] x y z bl32 x1 y1 z1
  rw [x2 _ _ rfl, y2 _ _ rfl, z2 _ _ rfl] at h
  simpa using h
end
theorem memberM (key value : ByteArray) (c : Int) (hc : -9223372036854775808 ≤ c) (hc2 : c ≤ 9223372036854775807) (hk : key.size ≤ 1000) (hv : value.size ≤ 1000000) (w : World) :
    Calls Tryd.prog 34 #[.string key, .string value, .int .i64 c] w fun e w' => Below w.heap.size w w' ∧ ∃ a, MemOf key value a ∧ e = .returned (.string a) := by
  refine (member_any key value c hc hc2 hk hv w).mono ?_
  rintro e w' ⟨hb, r1, r2, r3, h1, h2, h3, rfl⟩
  exact ⟨hb, _, ⟨r1, r2, r3, h1, h2, h3, rfl⟩, rfl⟩
theorem dig_size {d : ByteArray} (h : isDigB d = true) : d.size = 64 := by
  unfold isDigB at h
  simp only [Bool.and_eq_true, decide_eq_true_eq] at h
  exact h.1
theorem tag_size {d : ByteArray} (h : isTagB d = true) : d.size ≤ 20 := by
  unfold isTagB at h
  simp only [Bool.and_eq_true, decide_eq_true_eq] at h
  exact h.1.1.2
def lastFrom (last : ByteArray) (l : List Tg) : Nat → ByteArray
  | 0 => last
  | k + 1 => (l.getD k default).name
theorem rise_of : ∀ (l : List Tg) (last : ByteArray), (∀ k, k < l.length → leB (l.getD k default).name (lastFrom last l k) = false) → Rise last (l.map Tg.en)
  | [], _, _ => trivial
  | t :: l, last, h => by
    refine ⟨h 0 (by simp), rise_of l t.name fun k hk => ?_⟩
    have := h (k + 1) (by simpa using hk)
    cases k with
    | zero => exact this
    | succ k => exact this
theorem rise_good {l : List Tg} (h : ∀ k, k < l.length → goodB l k = true) : Rise ⟨#[]⟩ (l.map Tg.en) := by
  refine rise_of l _ fun k hk => ?_
  have hg := h k hk
  unfold goodB at hg
  simp only [Bool.and_eq_true, Bool.not_eq_true'] at hg
  have := hg.2.2.1
  cases k with
  | zero => exact this
  | succ k => exact this
theorem mem_ver {a : ByteArray} (h : MemOf sVersion ⟨#[49]⟩ a) (d : List UInt8) (hd : Blank d) : ∃ x : Bl, x.Ok ∧ ∀ (r : List UInt8), verT x r = a.data.toList ++ (d ++ r) := by
  obtain ⟨b1, b2, b3, h1, h2, h3, hl⟩ := h.list
  refine ⟨⟨b1, b2, b3, d⟩, ⟨h1, h2, h3, hd⟩, fun r => ?_⟩
  rw [hl, verT]
  rfl
theorem mem_tags {a : ByteArray} {xs : List (List UInt8)} (h : MemOf sTags (⟨#[91]⟩ ++ ⟨(joinT xs).toArray⟩ ++ ⟨#[32, 93]⟩) a) (d : List UInt8) (hd : Blank d) : ∃ x : Bl, x.Ok ∧ ∀ (r : List UInt8), tagsT x [32] xs r = a.data.toList ++ (d ++ r) := by
  obtain ⟨b1, b2, b3, h1, h2, h3, hl⟩ := h.list
  refine ⟨⟨b1, b2, b3, d⟩, ⟨h1, h2, h3, hd⟩, fun r => ?_⟩
  rw [hl, tagsT]
  simp [ByteArray.data_append]
theorem en_reads {l : List Tg} {xs : List (List UInt8)} (hrd : ∀ i (h : i < xs.length), Reads (l.getD i default).en xs[i]) : ∀ i (h : i < (l.map Tg.en).length) (h2 : i < xs.length), Reads (l.map Tg.en)[i] xs[i] := by
  intro i h h2
  have := hrd i h2
  rw [List.length_map] at h
  rw [List.getElem_map]
  have e : l.getD i default = l[i] := by simp [List.getD_eq_getElem?_getD, h]
  rwa [e] at this
section
variable {l : List Tg} {xs : List (List UInt8)} {m1 m2 : ByteArray} (hg : ∀ k, k < l.length → goodB l k = true) (h8 : l.length ≤ 8) (hxl : xs.length = l.length) (hrd : ∀ i (h : i < xs.length), Reads (l.getD i default).en xs[i]) (h1 : MemOf sVersion ⟨#[49]⟩ m1) (h2 : MemOf sTags (⟨#[91]⟩ ++ ⟨(joinT xs).toArray⟩ ++ ⟨#[32, 93]⟩) m2)
include hg h8 hxl hrd h1 h2
theorem loose0 : ∃ r, readG nextL ([123] ++ m2.data.toList ++ [44] ++ m1.data.toList ++ [125, 32]) = .ok (l.map Tg.en) r := by
  obtain ⟨x, x1, x2⟩ := mem_ver h1 [] Blank.nil
  obtain ⟨y, y1, y2⟩ := mem_tags h2 [] Blank.nil
  have h := whole_tv (l.map Tg.en) xs [] [32] [32] x y (by simp [hxl]) (en_reads hrd) (rise_good hg) (by simpa using h8) Blank.nil bl32 x1 y1
  rw [y2, x2] at h
  exact read_end (by simpa using h) bl32
theorem loose1 : ∃ r, readG nextL ([123] ++ m1.data.toList ++ [32, 44] ++ m2.data.toList ++ [125, 10]) = .ok (l.map Tg.en) r := by
  obtain ⟨x, x1, x2⟩ := mem_ver h1 [32] bl32
  obtain ⟨y, y1, y2⟩ := mem_tags h2 [] Blank.nil
  have h := whole_vt (l.map Tg.en) xs [] [32] [10] x y (by simp [hxl]) (en_reads hrd) (rise_good hg) (by simpa using h8) Blank.nil bl32 x1 y1
  rw [x2, y2] at h
  exact read_end (by simpa using h) bl10
end
theorem lens (ta tb tc : ByteArray) {x : List UInt8} (h1 : ta.size ≤ 34) (h2 : tb.size ≤ 81) (h3 : tc.size ≤ 34) (hx : x.length ≤ ta.data.toList.length + tb.data.toList.length + tc.data.toList.length + 11) : x.length ≤ 160 := by
  have e1 : ta.data.toList.length = ta.size := by rw [Array.length_toList]; rfl
  have e2 : tb.data.toList.length = tb.size := by rw [Array.length_toList]; rfl
  have e3 : tc.data.toList.length = tc.size := by rw [Array.length_toList]; rfl
  omega
set_option maxHeartbeats 4000000 in
set_option maxRecDepth 100000 in
theorem loose_any (oa : Option Addr) (ca : Nat) (l : List Tg) (c : Int) (hc : -9223372036854775808 ≤ c) (hc2 : c ≤ 9223372036854775807) (w : World) (n : Nat) (hn : l.length = n) (h8 : n ≤ 8) (ha : TagsAt w oa l) (hg : ∀ k, k < n → goodB l k = true) :
    Calls Tryd.prog 15 #[.slice oa n ca, .int .i64 c] w fun e w' => Below w.heap.size w w' ∧ ∃ t : ByteArray, e = .returned (.string t) ∧ t.size ≤ 5000 ∧ ∃ r, readG nextL t.data.toList = .ok (l.map Tg.en) r := by
  have HA := hide ha
  have HN := hide hn
  have HG := hide hg
  clear ha hn hg
  go_enter Tryd.func15, Tryd.ntmps15
  go_wp2
  go_loopw [5, 6] (fun sv iv wr => ∃ (k : Nat) (xs : List (List UInt8)), k ≤ n ∧ iv = .int .i64 ((k : Nat) : Int) ∧ sv = .string ⟨(joinT xs).toArray⟩ ∧ xs.length = k ∧ (∀ i (h : i < xs.length), Reads (l.getD i default).en xs[i]) ∧ (joinT xs).length ≤ 300 * k ∧ Below w.heap.size w wr)
    (fun _ iv _ => n - (intOf iv).toNat)
  case atStart => exact ⟨0, [], Nat.zero_le _, rfl, rfl, rfl, fun i h => by simp at h, by simp [joinT], Below.refl _ _⟩
  case round =>
    obtain ⟨k, xs, hk, rfl, rfl, hxl, hrd, hjl, hbel⟩ := hrel
    have HRD := hide hrd
    have HXL := hide hxl
    have hbs := hbel.size
    clear hrd hxl
    by_cases hlt : k < n
    · obtain ⟨b, o, rfl, hr⟩ := HA.out k (by rw [HN.out]; exact hlt)
      have hr2 := rangeAt_later hbel hr
      have hgood := HG.out k hlt
      unfold goodB at hgood
      generalize hx : l.getD k default = tx at hr2 hgood
      have HX := hide hx
      clear hx hr
      obtain ⟨n1, d1, z1⟩ := tx
      simp only [Bool.and_eq_true, decide_eq_true_eq] at hgood
      obtain ⟨gd, gt, _, gz0, gz1⟩ := hgood
      have c1 := hr2 0 _ rfl
      have c2 := hr2 1 _ rfl
      have c3 := hr2 2 _ rfl
      simp only [Nat.add_zero] at c1
      have hn20 := tag_size gt
      have hd64 := dig_size gd
      have hd65 : d1.size ≤ 64 := by omega
      have gdd := hide gd
      have gtt := hide gt
      clear hd64 gd gt hr2
      have p1 : ¬ 9223372036854775807 < 1 + n1.size := by omega
      have p2 : ¬ 9223372036854775807 < 1 + n1.size + 1 := by omega
      have p3 : ¬ 9223372036854775807 < 1 + d1.size := by omega
      have p4 : ¬ 9223372036854775807 < 1 + d1.size + 1 := by omega
      have d5 : -9223372036854775808 ≤ c.tdiv 5 ∧ c.tdiv 5 ≤ 9223372036854775807 := tdiv_range c 5 (by decide) hc hc2
      go_wp2_with fail
      refine (memberM _ _ _ (w64_range _).1 (w64_range _).2 (by decide) (by simp only [ByteArray.size_append]; show 1 + n1.size + 1 ≤ _; omega) wr).mono ?_
      rintro e w1 ⟨hb1, ta, hma, rfl⟩
      dsimp only
      have hsa : ta.size ≤ 34 := by have := hma.size; simp only [ByteArray.size_append] at this; have e1 : (ByteArray.mk #[34]).size = 1 := rfl; have e2 : (ByteArray.mk #[116, 97, 103]).size = 3 := rfl; omega
      have MA := hide hma
      have q1 := cell_later hb1 c2
      have q2 := cell_later hb1 c3
      have hbel1 : Below w.heap.size w w1 := hbel.trans (hb1.mono hbs)
      clear hma c1 c2 c3 hb1
      go_wp2_with fail
      refine (memberM _ _ _ (w64_range _).1 (w64_range _).2 (by decide) (by simp only [ByteArray.size_append]; show 1 + d1.size + 1 ≤ _; omega) w1).mono ?_
      rintro e w2 ⟨hb2, tb, hmb, rfl⟩
      dsimp only
      have hsb : tb.size ≤ 81 := by have := hmb.size; simp only [ByteArray.size_append] at this; have e1 : (ByteArray.mk #[34]).size = 1 := rfl; have e2 : (ByteArray.mk #[100, 105, 103, 101, 115, 116]).size = 6 := rfl; omega
      have MB := hide hmb
      have q3 := cell_later hb2 q2
      have hbel2 : Below w.heap.size w w2 := hbel1.trans (hb2.mono hbel1.size)
      clear hmb q1 q2 hb2
      obtain ⟨zz, hzz⟩ : ∃ zz : Nat, z1 = ((zz : Nat) : Int) := ⟨z1.toNat, by omega⟩
      subst hzz
      go_wp2_with fail
      refine (decimalK_any zz (by omega) w2).mono ?_
      rintro e w3 ⟨rfl, hb3⟩
      dsimp only
      have hit : (⟨(Lib.itoa zz).toArray⟩ : ByteArray).size ≤ 21 := by rw [bytes_size]; exact Lib.itoa_length_le zz (by omega) (by omega)
      obtain ⟨zT, hzT⟩ : ∃ zT : ByteArray, zT = ⟨(Lib.itoa zz).toArray⟩ := ⟨_, rfl⟩
      rw [← hzT] at hit ⊢
      have HZT := hide hzT
      have hbel3 : Below w.heap.size w w3 := hbel2.trans (hb3.mono hbel2.size)
      clear hzT hb3 q3
      go_wp2_with fail
      refine (memberM _ _ _ d5.1 d5.2 (by decide) (by omega) w3).mono ?_
      rintro e w4 ⟨hb4, tc, hmc, rfl⟩
      dsimp only
      have hsc : tc.size ≤ 34 := by have := hmc.size; have e2 : (ByteArray.mk #[115, 105, 122, 101]).size = 4 := rfl; omega
      have MC := hide hmc
      have hbel4 : Below w.heap.size w w4 := hbel3.trans (hb4.mono hbel3.size)
      clear hmc hb4
      have hjs : (⟨(joinT xs).toArray⟩ : ByteArray).size ≤ 300 * k := by rw [bytes_size]; exact hjl
      obtain ⟨S, hS⟩ : ∃ S : ByteArray, S = ⟨(joinT xs).toArray⟩ := ⟨_, rfl⟩
      rw [← hS] at hjs ⊢
      have HSS := hide hS
      clear hS hjl
      have hsS : S.size ≤ 2400 := by omega
      have hgd : Good ⟨n1, d1, zz⟩ := ⟨gtt.out, gdd.out, by show zz ≤ 300; omega⟩
      have hwr := w64_range (c + (k : Int))
      have hpk : ∀ w, Calls Tryd.prog 16 #[.int .i64 (wrap64 (c + (k : Int))), .int .i64 3] w fun e w' => e = .returned (.int .i64 ((pickN (wrap64 (c + (k : Int))) 3 : Nat) : Int)) ∧ w' = w := fun w => pick_any _ 3 (by decide) (by decide) hwr.1 hwr.2 w
      have hpl := pickN_lt (wrap64 (c + (k : Int))) 3 (by decide)
      generalize pickN (wrap64 (c + (k : Int))) 3 = r at hpk hpl
      have HPK := hide hpk
      have HGD := hide hgd
      clear hpk hgd hwr
      have zc : ¬ 9223372036854775807 < S.size + 1 := by omega
      have hU : ∃ U : ByteArray, U = (if 0 < k then S ++ ⟨#[44]⟩ else S) := ⟨_, rfl⟩
      obtain ⟨U, hU⟩ := hU
      have hUs : U.size ≤ 300 * k + 1 := by
        rw [hU]; split
        · rw [ByteArray.size_append]; have e : (ByteArray.mk #[44]).size = 1 := rfl; omega
        · omega
      have hUl : U.data.toList = joinT xs ++ (if xs = [] then [] else [44]) := by
        rw [hU, HSS.out]
        have hx := HXL.out
        by_cases h0 : 0 < k
        · rw [if_pos h0, if_neg (by intro e; rw [e] at hx; simp at hx; omega)]
          simp [ByteArray.data_append]
        · rw [if_neg h0, if_pos (List.length_eq_zero_iff.1 (by omega))]
          simp
      have HUL := hide hUl
      clear hUl
      have hstep : ∀ x : List UInt8, Reads ⟨n1, d1, zz⟩ x → x.length ≤ 160 → ∀ V : ByteArray, V.data.toList = U.data.toList ++ x → (V = ⟨(joinT (xs ++ [x])).toArray⟩ ∧ (xs ++ [x]).length = k + 1 ∧ (∀ i (h : i < (xs ++ [x]).length), Reads (l.getD i default).en (xs ++ [x])[i]) ∧ (joinT (xs ++ [x])).length ≤ 300 * (k + 1)) := by
        intro x hx hxs V hV
        have e1 : joinT (xs ++ [x]) = U.data.toList ++ x := by rw [joinT_snoc, HUL.out]
        refine ⟨?_, by simp [HXL.out], fun i hi => ?_, ?_⟩
        · rw [e1, ← hV]
        · simp only [List.length_append, List.length_singleton] at hi
          have hx2 := HXL.out
          by_cases e : i < xs.length
          · rw [List.getElem_append_left e]; exact HRD.out i e
          · have ei : i = k := by omega
            subst ei
            rw [List.getElem_append_right (by omega)]
            simp only [hx2, Nat.sub_self, List.getElem_cons_zero]
            rw [HX.out]
            exact hx
        · rw [e1, List.length_append]
          have : U.data.toList.length = U.size := by rw [Array.length_toList]; rfl
          omega
      have HST := hide hstep
      clear hstep
      have hUs2 : U.size ≤ 2401 := by omega
      have HU := hide hU
      clear hU
      have hr3 : r = 0 ∨ r = 1 ∨ r = 2 := by omega
      by_cases h0 : 0 < k
      all_goals
        have hkk : decide (0 < (k : Int)) = decide (0 < k) := by simp
        go_wp2_with fail
        (try (have hk0 : k = 0 := by omega
              rw [show (c + (k : Int)) = wrap64 (c + (k : Int)) by rw [hk0]; unfold wrap64; omega]))
        refine (HPK.out _).mono ?_
        rintro e w5 ⟨rfl, hw5⟩
        obtain rfl := hw5.symm
        have hU2 := HU.out
        first | rw [if_pos h0] at hU2 | rw [if_neg h0] at hU2
        rw [← hU2]
        clear hU2
        rcases hr3 with rfl | rfl | rfl
        · have z0 : ¬ 9223372036854775807 < U.size + 1 := by omega
          have z1 : ¬ 9223372036854775807 < U.size + 1 + tc.size := by omega
          have z2 : ¬ 9223372036854775807 < U.size + 1 + tc.size + 1 := by omega
          have z3 : ¬ 9223372036854775807 < U.size + 1 + tc.size + 1 + ta.size := by omega
          have z4 : ¬ 9223372036854775807 < U.size + 1 + tc.size + 1 + ta.size + 2 := by omega
          have z5 : ¬ 9223372036854775807 < U.size + 1 + tc.size + 1 + ta.size + 2 + tb.size := by omega
          have z6 : ¬ 9223372036854775807 < U.size + 1 + tc.size + 1 + ta.size + 2 + tb.size + 1 := by omega
          go_wp2_with fail
          go_roundw
          case rel =>
            have hst := HST.out ([123] ++ tc.data.toList ++ [44] ++ ta.data.toList ++ [32, 44] ++ tb.data.toList ++ [125]) (form0 MA.out MB.out (by have := MC.out; rwa [HZT.out] at this) HGD.out) (lens ta tb tc hsa hsb hsc (by simp only [List.length_append, List.length_cons, List.length_nil]; omega)) (U ++ ⟨#[123]⟩ ++ tc ++ ⟨#[44]⟩ ++ ta ++ ⟨#[32, 44]⟩ ++ tb ++ ⟨#[125]⟩) (by simp [ByteArray.data_append])
            exact ⟨k + 1, _, by omega, by go_num, congrArg Value.string hst.1, hst.2.1, hst.2.2.1, hst.2.2.2, hbel4⟩
          case measure => simp [intOf]; omega
        · have z0 : ¬ 9223372036854775807 < U.size + 1 := by omega
          have z1 : ¬ 9223372036854775807 < U.size + 1 + tb.size := by omega
          have z2 : ¬ 9223372036854775807 < U.size + 1 + tb.size + 1 := by omega
          have z3 : ¬ 9223372036854775807 < U.size + 1 + tb.size + 1 + tc.size := by omega
          have z4 : ¬ 9223372036854775807 < U.size + 1 + tb.size + 1 + tc.size + 1 := by omega
          have z5 : ¬ 9223372036854775807 < U.size + 1 + tb.size + 1 + tc.size + 1 + ta.size := by omega
          have z6 : ¬ 9223372036854775807 < U.size + 1 + tb.size + 1 + tc.size + 1 + ta.size + 2 := by omega
          go_wp2_with fail
          go_roundw
          case rel =>
            have hst := HST.out ([123] ++ tb.data.toList ++ [44] ++ tc.data.toList ++ [44] ++ ta.data.toList ++ [10, 125]) (form1 MA.out MB.out (by have := MC.out; rwa [HZT.out] at this) HGD.out) (lens ta tb tc hsa hsb hsc (by simp only [List.length_append, List.length_cons, List.length_nil]; omega)) (U ++ ⟨#[123]⟩ ++ tb ++ ⟨#[44]⟩ ++ tc ++ ⟨#[44]⟩ ++ ta ++ ⟨#[10, 125]⟩) (by simp [ByteArray.data_append])
            exact ⟨k + 1, _, by omega, by go_num, congrArg Value.string hst.1, hst.2.1, hst.2.2.1, hst.2.2.2, hbel4⟩
          case measure => simp [intOf]; omega
        · have z0 : ¬ 9223372036854775807 < U.size + 3 := by omega
          have z1 : ¬ 9223372036854775807 < U.size + 3 + ta.size := by omega
          have z2 : ¬ 9223372036854775807 < U.size + 3 + ta.size + 1 := by omega
          have z3 : ¬ 9223372036854775807 < U.size + 3 + ta.size + 1 + tb.size := by omega
          have z4 : ¬ 9223372036854775807 < U.size + 3 + ta.size + 1 + tb.size + 1 := by omega
          have z5 : ¬ 9223372036854775807 < U.size + 3 + ta.size + 1 + tb.size + 1 + tc.size := by omega
          have z6 : ¬ 9223372036854775807 < U.size + 3 + ta.size + 1 + tb.size + 1 + tc.size + 1 := by omega
          go_wp2_with fail
          go_roundw
          case rel =>
            have hst := HST.out ([32, 123, 32] ++ ta.data.toList ++ [44] ++ tb.data.toList ++ [44] ++ tc.data.toList ++ [125]) (form2 MA.out MB.out (by have := MC.out; rwa [HZT.out] at this) HGD.out) (lens ta tb tc hsa hsb hsc (by simp only [List.length_append, List.length_cons, List.length_nil]; omega)) (U ++ ⟨#[32, 123, 32]⟩ ++ ta ++ ⟨#[44]⟩ ++ tb ++ ⟨#[44]⟩ ++ tc ++ ⟨#[125]⟩) (by simp [ByteArray.data_append])
            exact ⟨k + 1, _, by omega, by go_num, congrArg Value.string hst.1, hst.2.1, hst.2.2.1, hst.2.2.2, hbel4⟩
          case measure => simp [intOf]; omega
    · have hkn : k = n := by omega
      subst hkn
      have d7 : -9223372036854775808 ≤ c.tdiv 7 ∧ c.tdiv 7 ≤ 9223372036854775807 := tdiv_range c 7 (by decide) hc hc2
      have d11 : -9223372036854775808 ≤ c.tdiv 11 ∧ c.tdiv 11 ≤ 9223372036854775807 := tdiv_range c 11 (by decide) hc hc2
      go_wp2_with fail
      refine (memberM _ _ _ d7.1 d7.2 (by decide) (by decide) wr).mono ?_
      rintro e w1 ⟨hb1, m1, hm1, rfl⟩
      dsimp only
      have hs1 : m1.size ≤ 17 := by have := hm1.size; have e1 : (ByteArray.mk #[49]).size = 1 := rfl; have e2 : (ByteArray.mk #[118, 101, 114, 115, 105, 111, 110]).size = 7 := rfl; omega
      have M1 := hide hm1
      have hbel1 : Below w.heap.size w w1 := hbel.trans (hb1.mono hbs)
      clear hm1 hb1
      have hjs : (⟨(joinT xs).toArray⟩ : ByteArray).size ≤ 300 * k := by rw [bytes_size]; exact hjl
      obtain ⟨S, hS⟩ : ∃ S : ByteArray, S = ⟨(joinT xs).toArray⟩ := ⟨_, rfl⟩
      rw [← hS] at hjs ⊢
      have HSS := hide hS
      clear hS hjl
      have y1 : ¬ 9223372036854775807 < 1 + S.size := by omega
      have y2 : ¬ 9223372036854775807 < 1 + S.size + 2 := by omega
      go_wp2_with fail
      refine (memberM _ _ _ d11.1 d11.2 (by decide) (by simp only [ByteArray.size_append]; show 1 + S.size + 2 ≤ _; omega) w1).mono ?_
      rintro e w2 ⟨hb2, m2, hm2, rfl⟩
      dsimp only
      have hs2 : m2.size ≤ 2416 := by have := hm2.size; simp only [ByteArray.size_append] at this; have e1 : (ByteArray.mk #[91]).size = 1 := rfl; have e2 : (ByteArray.mk #[116, 97, 103, 115]).size = 4 := rfl; have e3 : (ByteArray.mk #[32, 93]).size = 2 := rfl; omega
      have M2 : Hid (MemOf sTags (⟨#[91]⟩ ++ ⟨(joinT xs).toArray⟩ ++ ⟨#[32, 93]⟩) m2) := by have h := hm2; rw [HSS.out] at h; exact h
      have hbel2 : Below w.heap.size w w2 := hbel1.trans (hb2.mono hbel1.size)
      clear hm2 hb2
      have hpk : ∀ w, Calls Tryd.prog 16 #[.int .i64 c, .int .i64 2] w fun e w' => e = .returned (.int .i64 ((pickN c 2 : Nat) : Int)) ∧ w' = w := fun w => pick_any _ 2 (by decide) (by decide) hc hc2 w
      have hpl := pickN_lt c 2 (by decide)
      generalize pickN c 2 = r at hpk hpl
      have HPK := hide hpk
      clear hpk
      go_wp2_with fail
      refine (HPK.out _).mono ?_
      rintro e w3 ⟨rfl, hw3⟩
      obtain rfl := hw3.symm
      dsimp only
      have hr2 : r = 0 ∨ r = 1 := by omega
      have y3 : ¬ 9223372036854775807 < 1 + m2.size := by omega
      have y4 : ¬ 9223372036854775807 < 1 + m2.size + 1 := by omega
      have y5 : ¬ 9223372036854775807 < 1 + m2.size + 1 + m1.size := by omega
      have y6 : ¬ 9223372036854775807 < 1 + m2.size + 1 + m1.size + 2 := by omega
      have y7 : ¬ 9223372036854775807 < 1 + m1.size := by omega
      have y8 : ¬ 9223372036854775807 < 1 + m1.size + 2 := by omega
      have y9 : ¬ 9223372036854775807 < 1 + m1.size + 2 + m2.size := by omega
      have y10 : ¬ 9223372036854775807 < 1 + m1.size + 2 + m2.size + 2 := by omega
      rcases hr2 with rfl | rfl
      · go_wp2_with fail
        go_ret
        refine ⟨hbel2, ⟨#[123]⟩ ++ m2 ++ ⟨#[44]⟩ ++ m1 ++ ⟨#[125, 32]⟩, rfl, ?_, ?_⟩
        · simp only [ByteArray.size_append]; have e1 : (ByteArray.mk #[123]).size = 1 := rfl; have e2 : (ByteArray.mk #[44]).size = 1 := rfl; have e3 : (ByteArray.mk #[125, 32]).size = 2 := rfl; omega
        · have h := loose0 (by rw [HN.out]; exact HG.out) (by rw [HN.out]; exact h8) (by rw [HN.out]; exact HXL.out) HRD.out M1.out M2.out
          simpa [ByteArray.data_append] using h
      · go_wp2_with fail
        go_ret
        refine ⟨hbel2, ⟨#[123]⟩ ++ m1 ++ ⟨#[32, 44]⟩ ++ m2 ++ ⟨#[125, 10]⟩, rfl, ?_, ?_⟩
        · simp only [ByteArray.size_append]; have e1 : (ByteArray.mk #[123]).size = 1 := rfl; have e2 : (ByteArray.mk #[32, 44]).size = 2 := rfl; have e3 : (ByteArray.mk #[125, 10]).size = 2 := rfl; omega
        · have h := loose1 (by rw [HN.out]; exact HG.out) (by rw [HN.out]; exact h8) (by rw [HN.out]; exact HXL.out) HRD.out M1.out M2.out
          simpa [ByteArray.data_append] using h
end Go.Proofs.YtpgamoielkpakaaDoor
