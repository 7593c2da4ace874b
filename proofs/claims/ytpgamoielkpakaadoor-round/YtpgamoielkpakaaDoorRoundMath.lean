/-
  PROVED HERE: what the program prints is read as it was; what is cut off it, and what stands behind it, is told with its place.
-/
import Derived.Test.YtpgamoielkpakaaDoorKLoose
import Derived.Test.YtpgamoielkpakaaDoorOwnPrint
import Derived.Test.YtpgamoielkpakaaDoorRowT
namespace Go.Proofs.YtpgamoielkpakaaDoor
open Go.RowKit
theorem rest_zero (t : ByteArray) : rest t 0 = t.data.toList := rfl
theorem readS_ok {t : ByteArray} {es : List En} {r : List UInt8} (h : readG nextL t.data.toList = .ok es r) : ∃ c, readS t = .ok es c := by
  have hm := ((hom_rest t).read (Nat.zero_le _)).1
  rw [rest_zero, h] at hm
  unfold readS
  cases hr : readG (nextS t) 0 with
  | ok v c => rw [hr] at hm; cases hm; exact ⟨c, rfl⟩
  | bad p => rw [hr] at hm; cases hm
theorem readS_bad {t : ByteArray} {r : List UInt8} (h : readG nextL t.data.toList = .bad r) : ∃ p, readS t = .bad p ∧ p ≤ t.size ∧ p = t.size - r.length := by
  have hm := (hom_rest t).read (Nat.zero_le _)
  rw [rest_zero, h] at hm
  unfold readS
  cases hr : readG (nextS t) 0 with
  | ok v c => rw [hr] at hm; cases hm.1
  | bad p =>
    rw [hr] at hm
    have h1 : r = rest t p := by have := hm.1; injection this
    have h2 : p ≤ t.size := hm.2
    exact ⟨p, rfl, h2, by rw [h1, place_rest t p h2]⟩
def X0 : Bl := ⟨[], [], [], []⟩
theorem X0.ok : X0.Ok := ⟨Blank.nil, Blank.nil, Blank.nil, Blank.nil⟩
theorem good_of {l : List Tg} {k : Nat} (h : goodB l k = true) : Good (l.getD k default).en ∧ 0 ≤ (l.getD k default).size := by
  unfold goodB at h
  simp only [Bool.and_eq_true, decide_eq_true_eq] at h
  refine ⟨⟨h.2.1, h.1, ?_⟩, h.2.2.2.1⟩
  show (l.getD k default).size.toNat ≤ 300
  have := h.2.2.2
  omega
theorem eText_reads {t : Tg} (hg : Good t.en) (h0 : 0 ≤ t.size) : Reads t.en (eText t) := by
  have h := reads_abc t.en hg [] X0 X0 X0 Blank.nil X0.ok X0.ok X0.ok
  have hd : Sha.textTo (rd t.dig) 32 = t.dig.data.toList := rd_text hg.dig
  have hi : Lib.itoa t.size = Lib.decDigits t.size.toNat := by
    unfold Lib.itoa
    rw [if_neg (by omega)]
  have e : eText t = [] ++ 123 :: tagT X0 t.en (44 :: digT X0 t.en (44 :: sizT X0 t.en [125])) := by
    unfold eText tagT digT sizT memT
    rw [hd, hi]
    simp [X0, Tg.en, sTag, sDigest, sSize]
  rw [e]
  exact h
theorem prTo_join (l : List Tg) : ∀ k, k ≤ l.length → prTo l k = head1 ++ joinT ((l.take k).map eText) := by
  intro k
  induction k with
  | zero => intro _; simp [prTo, joinT]
  | succ k ih =>
    intro hk
    rw [prTo, ih (by omega), List.take_succ_eq_append_getElem (show k < l.length by omega), List.map_append, List.map_cons, List.map_nil, joinT_snoc]
    have e1 : l.getD k default = l[k] := by simp [List.getD_eq_getElem?_getD, show k < l.length by omega]
    rw [e1]
    have e2 : ((l.take k).map eText = []) ↔ ¬ 0 < k := by
      rw [List.map_eq_nil_iff, List.take_eq_nil_iff]
      constructor
      · rintro (h | h)
        · omega
        · rw [h] at hk; simp at hk
      · intro h; left; omega
    by_cases h0 : 0 < k
    · rw [if_pos h0, if_neg (by rw [e2]; omega)]; simp
    · rw [if_neg h0, if_pos (by rw [e2]; exact h0)]; simp
theorem print_reads {l : List Tg} (hg : ∀ k, k < l.length → goodB l k = true) (h8 : l.length ≤ 8) : ∃ r, readG nextL (prTo l l.length ++ [93, 125]) = .ok (l.map Tg.en) r := by
  have h := whole_vt (l.map Tg.en) (l.map eText) [] [] [] X0 X0 (by simp) (fun i h1 h2 => by
    rw [List.length_map] at h1
    rw [List.getElem_map, List.getElem_map]
    have e : l.getD i default = l[i] := by simp [List.getD_eq_getElem?_getD, h1]
    have := good_of (hg i h1)
    rw [e] at this
    exact eText_reads this.1 this.2) (rise_good hg) (by simpa using h8) Blank.nil Blank.nil X0.ok X0.ok
  have e : prTo l l.length ++ [93, 125] = [] ++ 123 :: verT X0 (44 :: tagsT X0 [] (l.map eText) (125 :: [])) := by
    rw [prTo_join l l.length (Nat.le_refl _), List.take_length]
    unfold verT tagsT memT
    simp [X0, head1, sVersion, sTags]
  rw [e]
  exact read_end h Blank.nil
theorem index_of {l : List Tg} (hg : ∀ k, k < l.length → goodB l k = true) (h8 : l.length ≤ 8) : indexB l = true := by
  unfold indexB
  simp only [Bool.and_eq_true, decide_eq_true_eq]
  exact ⟨h8, hg⟩
theorem tg_back {l : List Tg} (hg : ∀ k, k < l.length → goodB l k = true) : ((l.map Tg.en).map En.tg).map Tg.told = l := by
  apply List.ext_getElem
  · simp
  · intro i h1 h2
    simp only [List.getElem_map]
    have e : l.getD i default = l[i] := by simp [List.getD_eq_getElem?_getD, h2]
    have := good_of (hg i h2)
    rw [e] at this
    generalize l[i] = t at this
    obtain ⟨n, d, z⟩ := t
    obtain ⟨g, g0⟩ := this
    unfold Tg.told En.tg Tg.en
    dsimp only at g0 ⊢
    have hd : Sha.textTo (rd d) 32 = d.data.toList := rd_text g.dig
    rw [hd, ba_back, Int.toNat_of_nonneg g0]
/-- A row of one's own, as a list of entries. -/
theorem own_tagsAt {w : World} {B n cap : Nat} {oa : Option Addr} {l : List Tg} (h : w.ownsRow B 26 3 (.slice oa n cap) n (l.flatMap Tg.cells)) (hn : l.length = n) : TagsAt w oa l := by
  intro i hi
  obtain ⟨hlen, h2⟩ := h
  rcases h2 with ⟨e, h0⟩ | ⟨g', cap', cur, e, _, hg, _, _, hsz, htk⟩
  · omega
  · injection e with e1 _ _
    subst e1
    refine ⟨g', 0, rfl, ?_⟩
    intro j v hj
    have hj3 : j < 3 := by
      have := (List.getElem?_eq_some_iff.1 hj).1
      simpa [Tg.cells] using this
    rw [Nat.zero_add, cell_of_row w g' (i * 3 + j) _ _ _ hg]
    have hlt : i * 3 + j < n * 3 := by omega
    have e4 : cur[i * 3 + j]? = (l.flatMap Tg.cells)[i * 3 + j]? := by
      rw [← htk, List.getElem?_take_of_lt hlt, Array.getElem?_toList]
    rw [e4, flat3, show (i * 3 + j) / 3 = i by omega, show (i * 3 + j) % 3 = j by omega, List.getElem?_eq_getElem hi]
    have e5 : l.getD i default = l[i] := by rw [List.getD_eq_getElem?_getD, List.getElem?_eq_getElem hi]; rfl
    rw [e5] at hj
    exact hj
theorem pText_size {l : List Tg} (hg : ∀ k, k < l.length → goodB l k = true) (h8 : l.length ≤ 8) : (pText l).size ≤ 1111 ∧ 0 < (pText l).size := by
  have hi := index_of hg h8
  have hf := (good_facts hi).2
  have := prTo_len l l.length (fun j hj => hf j hj)
  unfold pText
  rw [if_pos hi, bytes_size, List.length_append]
  simp only [List.length_cons, List.length_nil]
  omega
theorem pText_list {l : List Tg} (hg : ∀ k, k < l.length → goodB l k = true) (h8 : l.length ≤ 8) : (pText l).data.toList = prTo l l.length ++ [93, 125] := by
  unfold pText
  rw [if_pos (index_of hg h8)]
theorem cut_bad {l : List Tg} (hg : ∀ k, k < l.length → goodB l k = true) (h8 : l.length ≤ 8) (k : Nat) (hk : k < (pText l).size) (u : ByteArray) (hu : u.data.toList = (pText l).data.toList.take k) : ∃ p, readS u = .bad p ∧ p ≤ k := by
  obtain ⟨r, hr⟩ := print_reads hg h8
  have hl := pText_list hg h8
  have hlen : (pText l).data.toList.length = (pText l).size := by rw [Array.length_toList]; rfl
  have hc := read_cut hr (u := (pText l).data.toList.take k) (v := (pText l).data.toList.drop k) (by rw [List.take_append_drop, hl]) 125 (by simp) (by decide) (by rw [Ne, List.drop_eq_nil_iff]; omega)
  obtain ⟨q, hq⟩ := hc
  rw [← hu] at hq
  obtain ⟨p, h1, h2, _⟩ := readS_bad hq
  have : u.size = k := by
    have : u.data.toList.length = u.size := by rw [Array.length_toList]; rfl
    rw [← this, hu, List.length_take]
    omega
  exact ⟨p, h1, by omega⟩
theorem more_bad {l : List Tg} (hg : ∀ k, k < l.length → goodB l k = true) (h8 : l.length ≤ 8) (u : ByteArray) (hu : u.data.toList = (pText l).data.toList ++ [63]) : readS u = .bad (pText l).size := by
  obtain ⟨r, hr⟩ := print_reads hg h8
  have hl := pText_list hg h8
  have hlen : (pText l).data.toList.length = (pText l).size := by rw [Array.length_toList]; rfl
  have hm := read_more hr 63 rfl (by decide)
  rw [← hl, ← hu] at hm
  obtain ⟨p, h1, h2, h3⟩ := readS_bad hm
  have : u.size = (pText l).size + 1 := by
    have : u.data.toList.length = u.size := by rw [Array.length_toList]; rfl
    rw [← this, hu, List.length_append, hlen]
    rfl
  rw [h1, h3, this]
  rfl
end Go.Proofs.YtpgamoielkpakaaDoor
