/-
  PROVED HERE: the law Parses answers true for every text: the program's Parse answers as the document's own, three times over, and the lists that came out are the caller's.
-/
import Derived.Test.YtpgamoielkpakaaParse
import Derived.Test.YtpgamoielkpakaaWayPar
import Derived.Test.YtpgamoielkpakaaBookS
import Derived.Test.YtpgamoielkpakaaDigOk
namespace Go.Proofs.Ytpgamoielkpakaa
open Go.RowKit
theorem told_tg {x : En} (h : isDigB x.dig = true) : (En.tg x).told = En.tg x := by
  unfold Tg.told En.tg
  dsimp only
  rw [rd_text h]
theorem told_all : ∀ (es : List En), (∀ x ∈ es, isDigB x.dig = true) → (es.map En.tg).map Tg.told = es.map En.tg
  | [], _ => rfl
  | x :: es, h => by
    simp only [List.map_cons]
    rw [told_tg (h x (by simp)), told_all es (fun y hy => h y (by simp [hy]))]
theorem en_cells : ∀ (es : List En), es.flatMap (fun x => x.cells.toList) = (es.map En.tg).flatMap Tg.cells
  | [] => rfl
  | x :: es => by
    simp only [List.flatMap_cons, List.map_cons]
    rw [en_cells es]
    rfl
/-- What both Parses answer: the same entries, the same error, the same place. -/
def ParseIs (f : Nat) (t : ByteArray) (l : List Tg) (e at_ : Int) : Prop :=
  ∀ w : World, Calls Try.prog f #[.string t] w fun r w' => Below w.heap.size w w' ∧ ∃ v, r = .returned (.tuple #[v, .int .i64 e, .int .i64 at_]) ∧ w'.ownsRow w.heap.size 55 3 v l.length (l.flatMap Tg.cells)
theorem parse_both (t : ByteArray) : ∃ (l : List Tg) (e at_ : Int), l.length ≤ 8 ∧ ParseIs 4 t l e at_ ∧ ParseIs 5 t l e at_ := by
  by_cases ht : t.size ≤ 2000
  · obtain ⟨b1, b2⟩ := read_both t
    obtain ⟨p1, p2⟩ := parse_rel (goodL_cut t 0)
    have hpa := fun w => parse_any t w ht
    cases hR : readG (nextS t) 0 with
    | ok es c =>
      obtain ⟨j, hj⟩ := b1 es c hR
      obtain ⟨q1, q2⟩ := p1 es j hj
      have hS : readS t = .ok es c := hR
      have h8 : es.length ≤ 8 := readG_len hR
      refine ⟨es.map En.tg, 0, 0, by simpa using h8, fun w => (hpa w).mono ?_, fun w => (refParse_any t w ht).mono ?_⟩
      · rintro r w' ⟨hb, v, (⟨es2, c2, h1, rfl, h2, -⟩ | ⟨p, h1, -, -⟩)⟩
        · rw [hS] at h1
          injection h1 with h1 h1'
          subst h1
          rw [told_all es (readG_dig hR)] at h2
          exact ⟨hb, v, rfl, by rw [List.length_map]; exact h2⟩
        · rw [hS] at h1; cases h1
      · rintro r w' ⟨hb, (⟨h1, -⟩ | ⟨h1, v, rfl, h2⟩)⟩
        · rw [q2] at h1; cases h1
        · rw [q1] at h2
          unfold EnsAt at h2
          rw [en_cells] at h2
          exact ⟨hb, v, rfl, by rw [List.length_map]; exact h2⟩
    | bad p =>
      obtain ⟨j, hj, hpl, hjl⟩ := b2 p hR
      have q1 := p2 j hj
      have hS : readS t = .bad p := hR
      refine ⟨[], 7, (p : Int), by simp, fun w => (hpa w).mono ?_, fun w => (refParse_any t w ht).mono ?_⟩
      · rintro r w' ⟨hb, v, (⟨es2, c2, h1, -⟩ | ⟨p3, h1, rfl, h2⟩)⟩
        · rw [hS] at h1; cases h1
        · rw [hS] at h1
          injection h1 with h1
          subst h1
          exact ⟨hb, v, rfl, h2⟩
      · rintro r w' ⟨hb, (⟨h1, rfl⟩ | ⟨h1, -⟩)⟩
        · rw [q1, hpl]
          exact ⟨hb, _, rfl, World.ownsRow_nil _ _ _ _⟩
        · rw [q1] at h1; cases h1
  · refine ⟨[], 6, 0, by simp, fun w => (parse_long t w ht).mono ?_, fun w => (refParse_long t w ht).mono ?_⟩
    · rintro r w' ⟨hb, rfl⟩
      exact ⟨hb, _, rfl, World.ownsRow_nil _ _ _ _⟩
    · rintro r w' ⟨hb, rfl⟩
      exact ⟨hb, _, rfl, World.ownsRow_nil _ _ _ _⟩
set_option maxHeartbeats 2000000 in
set_option maxRecDepth 100000 in
theorem parses_any (t : ByteArray) (w : World) :
    Calls Try.prog 3 #[.string t] w fun r w' => r = .returned (.bool true) ∧ Below w.heap.size w w' := by
  obtain ⟨l, ev, at_, h8, hp, hr⟩ := parse_both t
  have HP := hide hp
  have HR := hide hr
  clear hp hr
  go_enter Try.func3, Try.ntmps3
  go_wp2_with fail
  refine (HP.out w).mono ?_
  rintro _ w1 ⟨hb1, lv, rfl, hl1⟩
  dsimp only
  have HB1 := hide hb1
  have HL1 := hide hl1
  clear hb1 hl1
  go_wp2_with fail
  refine (HR.out w1).mono ?_
  rintro _ w2 ⟨hb2, mv, rfl, hm2⟩
  dsimp only
  have HL2 := hide (ownsRow_later HL1.out hb2)
  have HM2 := hide hm2
  have HB2 := hide hb2
  obtain ⟨ol, cl, e1⟩ := own_sl HL1.out
  subst e1
  obtain ⟨om, cm, e2⟩ := own_sl hm2
  subst e2
  clear hb2 hm2
  have hS3 := sameT_any ol om cl cm l l w2 (tagsAt_own HL2.out rfl) (tagsAt_own HM2.out rfl) (by omega)
  simp only [decide_true] at hS3
  have HS3 := hide hS3
  clear hS3
  go_wp2_with fail
  refine (HS3.out).mono ?_
  rintro _ w3 ⟨rfl, hb3⟩
  dsimp only
  have HL3 := hide (ownsRow_later HL2.out hb3)
  have HM3 := hide (ownsRow_later HM2.out hb3)
  have HB3 := hide hb3
  clear hb3 HS3
  go_wp2_with fail
  have hbk : Bks (w3.alloc (.cells #[.int .i64 0, .int .i64 0, .bool false, .slice none 0 0, .slice none 0 0, .slice none 0 0, .slice none 0 0, .slice none 0 0, .slice none 0 0, .slice none 0 0] 32)) w3.heap.size 0 0 (.slice none 0 0) (.slice none 0 0) (.slice none 0 0) [] :=
    ⟨heap_alloc_new _ _, World.ownsRow_nil _ _ _ _, fun e he => by simp at he, by simp [Value.ownBlock]⟩
  have hb4 : Below w3.heap.size w3 (w3.alloc (.cells #[.int .i64 0, .int .i64 0, .bool false, .slice none 0 0, .slice none 0 0, .slice none 0 0, .slice none 0 0, .slice none 0 0, .slice none 0 0, .slice none 0 0] 32)) := (Below.refl _ _).alloc (Nat.le_refl _) _
  have hs4 := size_alloc w3 (.cells #[.int .i64 0, .int .i64 0, .bool false, .slice none 0 0, .slice none 0 0, .slice none 0 0, .slice none 0 0, .slice none 0 0, .slice none 0 0, .slice none 0 0] 32)
  obtain ⟨w4, hw4⟩ : ∃ w4, w4 = w3.alloc (.cells #[.int .i64 0, .int .i64 0, .bool false, .slice none 0 0, .slice none 0 0, .slice none 0 0, .slice none 0 0, .slice none 0 0, .slice none 0 0, .slice none 0 0] 32) := ⟨_, rfl⟩
  rw [← hw4] at hbk hb4 hs4 ⊢
  clear hw4
  obtain ⟨bb, hbb⟩ : ∃ bb, bb = w3.heap.size := ⟨_, rfl⟩
  rw [← hbb] at hbk hs4 ⊢
  have hb3le : w3.heap.size ≤ bb := by omega
  have hs4a : bb < w4.heap.size := by omega
  have hs4b : w4.heap.size ≤ bb + 1 := by omega
  clear hbb hs4
  have g1 := HB1.out.size
  have g2 := HB2.out.size
  have g3 := HB3.out.size
  have HL4 := hide (ownsRow_later HL3.out hb4)
  have HM4 := hide (ownsRow_later HM3.out hb4)
  have hLlt : ∀ k, (Value.slice ol l.length cl).ownBlock = some k → k < w1.heap.size := fun k hk => (HL1.out.lt k hk).2
  have hLge : ∀ k, (Value.slice ol l.length cl).ownBlock = some k → w.heap.size ≤ k := fun k hk => (HL1.out.lt k hk).1
  have hMlt : ∀ k, (Value.slice om l.length cm).ownBlock = some k → w1.heap.size ≤ k ∧ k < w2.heap.size := fun k hk => HM2.out.lt k hk
  have hB4 : Below w.heap.size w w4 := ((HB1.out.trans (HB2.out.mono g1)).trans (HB3.out.mono (by omega))).trans (hb4.mono (by omega))
  have HB4 := hide hB4
  have HT1 := hide (tags_first bb l.length (.slice ol l.length cl) l w4 hbk (HL4.out.mono_base (Nat.zero_le _)) rfl (by omega) (fun e => by have := hLlt _ e; omega))
  clear hbk hb4 hB4 HL1 HL2 HL3 HM2 HM3 HB1 HB2 HB3 HL4
  refine (HT1.out).mono ?_
  rintro _ w5 ⟨rfl, hg5, wv, av5, bs5, hk5, hb5, hl5, hw5, ha5, ht5⟩
  dsimp only
  have g5 := hg5.size
  have HB5 : Hid (Below w.heap.size w w5) := HB4.out.trans (below_of_grown hg5 (by omega) (by omega))
  have HM5 := hide (HM4.out.kept hg5 (by
    cases hv : (Value.slice om l.length cm).ownBlock with
    | none => exact .inl rfl
    | some k => right; intro e; injection e with e; have := hMlt k hv; omega))
  have HK5 := hide hk5
  have HL5 := hide hl5
  have HW5 := hide hw5
  have HA5 := hide ha5
  have HE5 := hide ht5
  have HAL5 : Hid (∀ k, av5.ownBlock = some k → k < w5.heap.size) := fun k hk => (hk5.all.lt k hk).2
  have HTL5 : Hid (∀ e ∈ bs5, ∀ k, e.tv.ownBlock = some k → k < w5.heap.size) := fun e he => (hk5.mkd e he).1.lt
  clear hg5 hk5 hl5 hw5 ha5 ht5 HT1 HM4 HB4
  go_wp2_with fail
  refine (HP.out w5).mono ?_
  rintro _ w6 ⟨hb6, kv, rfl, hk6⟩
  dsimp only
  obtain ⟨ok, ck, e3⟩ := own_sl hk6
  subst e3
  have HB6 := hide hb6
  have HKV6 := hide hk6
  have HM6 := hide (ownsRow_later HM5.out hb6)
  have hS7 := sameT_any ok om ck cm l l w6 (tagsAt_own hk6 rfl) (tagsAt_own HM6.out rfl) (by omega)
  simp only [decide_true] at hS7
  have HS7 := hide hS7
  clear hb6 hk6 hS7
  go_wp2_with fail
  refine (HS7.out).mono ?_
  rintro _ w7 ⟨rfl, hb7⟩
  dsimp only
  have g6 := HB6.out.size
  have g7 := hb7.size
  have hb57 : Below w5.heap.size w5 w7 := HB6.out.trans (hb7.mono g6)
  have HK7 := hide (HK5.out.later hb57)
  have HL7 := hide (ownsRow_later HL5.out hb57)
  have HW7 := hide (ownsRow_later HW5.out hb57)
  have HM7 := hide (ownsRow_later HM5.out hb57)
  have HKV7 := hide (ownsRow_later HKV6.out hb7)
  have HB7 := hide (HB5.out.trans (hb57.mono HB5.out.size))
  have hKge : ∀ k, (Value.slice ok l.length ck).ownBlock = some k → w5.heap.size ≤ k := fun k hk => (HKV6.out.lt k hk).1
  have HT2 := hide (tags_second bb l.length l.length (.slice ok l.length ck) (.slice ol l.length cl) wv av5 bs5 l l w7 HK7.out hb5 (HKV7.out.mono_base (Nat.zero_le _)) rfl (by omega) HL7.out (HW7.out.mono_base (Nat.zero_le _)) rfl (by omega)
    (fun e => by have := hKge _ e; omega) (fun k hk e => by have := hKge k hk; have := HAL5.out k e; omega) (fun e he k hk e2 => by have := hKge k hk; have := HTL5.out e he k e2; omega) (fun k hk e => by have := hKge k hk; have := hLlt k e; omega)
    (fun e => by have := hLlt _ e; omega) (fun k hk e => by have := hLlt k hk; have := HA5.out k e; omega) (fun e he k hk e2 => by have := hLlt k hk; have := HE5.out e he k e2; omega))
  clear hb7 hb57 HS7 HK5 HL5 HW5 HM5 HKV6 HM6 HB5 HB6
  go_wp2_with fail
  refine (HT2.out).mono ?_
  rintro _ w8 ⟨rfl, hg8, av8, bs8, hk8, hb8⟩
  dsimp only
  have g8 := hg8.size
  have HM8 := hide (own_same HM7.out (fun k hk hk2 => hg8.block k hk2 (by
    have hmk := hMlt k hk
    rintro (h | h | h | h)
    · omega
    · have := hKge k h; omega
    · have := hLlt k h; omega
    · have := HA5.out k h; omega)))
  have HB8 : Hid (Below w.heap.size w w8) := HB7.out.trans ⟨hg8.os, hg8.tape, hg8.output, hg8.size, fun k hk => hg8.block k (by have := HB7.out.size; omega) (by
    rintro (h | h | h | h)
    · omega
    · have := hKge k h; omega
    · have := hLge k h; omega
    · have := HA5.out k h; omega)⟩
  have HK8 := hide hk8
  clear hg8 hk8 HT2 HK7 HL7 HW7 HM7 HKV7 HB7
  go_wp2_with fail
  refine (HP.out w8).mono ?_
  rintro _ w9 ⟨hb9, xv, rfl, hx9⟩
  dsimp only
  obtain ⟨ox, cx, e4⟩ := own_sl hx9
  subst e4
  have HB9 := hide (HB8.out.trans (hb9.mono HB8.out.size))
  have HK9 := hide (HK8.out.later hb9)
  have hS10 := sameT_any ox om cx cm l l w9 (tagsAt_own hx9 rfl) (tagsAt_own (ownsRow_later HM8.out hb9) rfl) (by omega)
  simp only [decide_true] at hS10
  have HS10 := hide hS10
  clear hb9 hx9 hS10 HB8 HK8 HM8
  go_wp2_with fail
  refine (HS10.out).mono ?_
  rintro _ w10 ⟨rfl, hb10⟩
  dsimp only
  have HB10 := hide (HB9.out.trans (hb10.mono HB9.out.size))
  have HST := hide (still_any bb 3 2 av8 bs8 w10 (HK9.out.later hb10) (by omega))
  clear hb10 HB9 HK9 HS10
  go_wp2_with fail
  refine (HST.out).mono ?_
  rintro _ w11 ⟨rfl, hb11⟩
  dsimp only
  have HB11 := hide (HB10.out.trans (hb11.mono HB10.out.size))
  clear hb11 HB10 HST
  have ee : (ev == ev) = true := by simp
  have ea : (at_ == at_) = true := by simp
  go_wp2_with fail
  go_ret
  exact ⟨rfl, HB11.out⟩
end Go.Proofs.Ytpgamoielkpakaa
