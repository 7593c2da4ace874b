/-
  PROVED HERE: what wrong of the statements answers, of a store at rest: every call is refused, and nothing is changed.
-/
import Derived.Test.YtncigfibncmioaaGreatDoorSaDoes
import Derived.Test.YtncigfibncmioaaGreatDoorBmTags
import Derived.Test.YtncigfibncmioaaGreatDoorSmPrune
import Derived.Test.YtncigfibncmioaaGreatDoorSmDApp
import Derived.Test.YtncigfibncmioaaGreatDoorStSort
namespace Go.Proofs.YtncigfibncmioaaGreatDoor
open Go.RowKit
def badL : List ByteArray := [⟨#[]⟩, ⟨#[45, 97]⟩, ⟨#[65]⟩, ⟨#[97, 32, 98]⟩, ⟨#[97, 47, 98]⟩, ⟨#[48, 49, 50, 51, 52, 53, 54, 55, 56, 57, 48, 49, 50, 51, 52, 53, 54, 55, 56, 57, 48]⟩]
def badT (k : Nat) : ByteArray := badL.getD k ⟨#[]⟩
theorem bad_tag : ∀ k, k < 6 → isTagB (badT k) = false := by decide +kernel
theorem bad_size : ∀ k, k < 6 → (badT k).size ≤ 21 := by decide +kernel
theorem digB_size {t : ByteArray} (h : t.size ≠ 64) : isDigB t = false := by
  unfold isDigB
  rw [decide_eq_false h]
  rfl
theorem dig_letter {t : ByteArray} {c : UInt8} (hc : c ∈ t.data.toList) (hb : hexB c.toNat = false) : isDigB t = false := by
  unfold isDigB
  rw [Bool.and_eq_false_iff]
  right
  rw [List.all_eq_false]
  exact ⟨c, hc, by rw [hb]; decide⟩
theorem app_left {c : UInt8} {a b : ByteArray} (h : c ∈ a.data.toList) : c ∈ (a ++ b).data.toList := by
  rw [ByteArray.data_append]
  simp [h]
theorem app_right {c : UInt8} {a b : ByteArray} (h : c ∈ b.data.toList) : c ∈ (a ++ b).data.toList := by
  rw [ByteArray.data_append]
  simp [h]
section
variable {w : World} {db xb sb cb : Nat} {s : PSt} {tb : Nat} {cl : List (List Nat)} {A : Sto} {r : Int} {n : Nat}
def SaS (w w' : World) (db xb sb cb : Nat) (s : PSt) (tb : Nat) (cl : List (List Nat)) (A : Sto) (r : Int) (n : Nat) : Prop := SGo (sS xb sb cb) s s w w' ∧ SA w' db xb sb cb s tb cl A r n
theorem SaS.trans {w1 w2 : World} (h1 : SaS w w1 db xb sb cb s tb cl A r n) (h2 : SaS w1 w2 db xb sb cb s tb cl A r n) : SaS w w2 db xb sb cb s tb cl A r n := ⟨h1.1.trans h2.1, h2.2⟩
theorem SA.stay (h : SA w db xb sb cb s tb cl A r n) {w' : World} (hb : Below w.heap.size w w') : SaS w w' db xb sb cb s tb cl A r n := ⟨SGo.of_below hb, h.later hb⟩
theorem SA.ref {f : FuncId} {args : Array Value} {X : Ending} (h : SA w db xb sb cb s tb cl A r n) (hc : Calls Tryz.prog f args w fun e w' => e = X ∧ SGo (sS xb sb cb) s s w w' ∧ BSt w' xb sb ∧ StW w' sb s cb tb cl.length A.tg.length (cD cl) (tD A.tg)) : Calls Tryz.prog f args w fun e w' => e = X ∧ SaS w w' db xb sb cb s tb cl A r n :=
  hc.mono fun _ _ ⟨a, b, c, d⟩ => ⟨a, b, h.same b c d⟩
set_option maxHeartbeats 4000000 in
set_option maxRecDepth 100000 in
theorem saWrong (h : SA w db xb sb cb s tb cl A r n) (v : Int) (hv : i64r v) :
    Calls Tryz.prog 12 #[.pointer (some ⟨xb, 0, none⟩), .int .i64 v] w fun e w' => e = .returned (.bool true) ∧ SaS w w' db xb sb cb s tb cl A r n := by
  have hpk : ∀ w, Calls Tryz.prog 21 #[.int .i64 v, .int .i64 6] w fun e w' => e = .returned (.int .i64 ((pickN v 6 : Nat) : Int)) ∧ w' = w := fun w => pick_any v 6 (by decide) (by decide) hv.1 hv.2 w
  have hlt := pickN_lt v 6 (by decide)
  have hbt := bad_tag _ hlt
  have hbs := bad_size _ hlt
  generalize pickN v 6 = k at hpk hlt hbt hbs
  have HP := hide hpk
  have HCT := hide (fun w => content_of v hv.1 hv.2 w)
  have hcs := conT_size v
  generalize conT v = bb at HCT hcs
  have HHS := hide (fun (W : World) (hg : Gl W) => hashK bb W (by omega) hg)
  have hhs : (hxB bb).size = 64 := dtx_size _
  generalize hxB bb = H at HHS hhs
  have hrow := heap_alloc_new w (.cells #[.string ⟨#[]⟩, .string ⟨#[45, 97]⟩, .string ⟨#[65]⟩, .string ⟨#[97, 32, 98]⟩, .string ⟨#[97, 47, 98]⟩, .string ⟨#[48, 49, 50, 51, 52, 53, 54, 55, 56, 57, 48, 49, 50, 51, 52, 53, 54, 55, 56, 57, 48]⟩] 9 (0, 0))
  have hcell := cell_of_row _ _ k _ _ _ hrow
  have hval : (#[Value.string ⟨#[]⟩, .string ⟨#[45, 97]⟩, .string ⟨#[65]⟩, .string ⟨#[97, 32, 98]⟩, .string ⟨#[97, 47, 98]⟩, .string ⟨#[48, 49, 50, 51, 52, 53, 54, 55, 56, 57, 48, 49, 50, 51, 52, 53, 54, 55, 56, 57, 48]⟩] : Array Value)[k]? = some (.string (badT k)) := by
    match k, hlt with
    | 0, _ => rfl
    | 1, _ => rfl
    | 2, _ => rfl
    | 3, _ => rfl
    | 4, _ => rfl
    | 5, _ => rfl
  rw [hval] at hcell
  generalize badT k = T at hcell hbt hbs
  have b1 : (0 : Int) ≤ (k : Int) := by omega
  have b2 : (k : Int) < 6 := by omega
  have H0 := hide h
  clear h hrow hval hv hpk
  go_enter Tryz.func12, Tryz.ntmps12
  go_wp2_with (go_at_call 21; refine (HP.out _).mono ?_; rintro e w1 ⟨rfl, rfl⟩)
  obtain ⟨W, hW⟩ : ∃ W, W = w.alloc (.cells #[.string ⟨#[]⟩, .string ⟨#[45, 97]⟩, .string ⟨#[65]⟩, .string ⟨#[97, 32, 98]⟩, .string ⟨#[97, 47, 98]⟩, .string ⟨#[48, 49, 50, 51, 52, 53, 54, 55, 56, 57, 48, 49, 50, 51, 52, 53, 54, 55, 56, 57, 48]⟩] 9) := ⟨_, rfl⟩
  have hbo : Below w.heap.size w W := by rw [hW]; exact (Below.refl _ _).alloc (Nat.le_refl _) _
  rw [← hW]
  have HS := hide (H0.out.stay hbo)
  clear hW hbo hcell
  refine (HCT.out _).mono ?_
  rintro _ w2 ⟨rfl, hb2⟩
  dsimp only
  have hs2 := HS.out.trans (HS.out.2.stay hb2)
  have HH2 := hide (HHS.out w2 hs2.2.sw.gl)
  have HS2 := hide hs2
  clear hb2 hs2 HCT HHS HS
  go_wp2_with fail
  refine (HH2.out).mono ?_
  rintro _ w3 ⟨rfl, hb3⟩
  dsimp only
  have HS3 := hide (HS2.out.trans (HS2.out.2.stay hb3))
  clear hb3 HH2 HS2
  go_wp2_with fail
  have HC3 := hide (HS3.out.2.ref (bTag_tag xb sb s cb tb cl.length (cD cl) A.tg T H w3 HS3.out.2.st HS3.out.2.hG HS3.out.2.sw (by omega) hbt))
  refine (HC3.out).mono ?_
  rintro _ w4 ⟨rfl, hs⟩
  dsimp only
  have HS4 := hide (HS3.out.trans hs)
  clear hs HC3 HS3
  go_wp2_with fail
  have HC4 := hide (HS4.out.2.ref (bUntag_tag xb sb s cb tb cl.length (cD cl) A.tg T w4 HS4.out.2.st HS4.out.2.hG HS4.out.2.sw (by omega) hbt))
  refine (HC4.out).mono ?_
  rintro _ w5 ⟨rfl, hs⟩
  dsimp only
  have HS5 := hide (HS4.out.trans hs)
  clear hs HC4 HS4
  go_wp2_with fail
  have HC5 := hide (HS5.out.2.ref (bPub_tag xb sb s cb tb cl.length (cD cl) A.tg T ⟨#[120]⟩ w5 HS5.out.2.st HS5.out.2.hG HS5.out.2.sw (by omega) hbt))
  refine (HC5.out).mono ?_
  rintro _ w6 ⟨rfl, hs⟩
  dsimp only
  have HS6 := hide (HS5.out.trans hs)
  clear hs HC5 HS5
  go_wp2_with fail
  have HC6 := hide (HS6.out.2.ref (bGet_dig xb sb s cb tb cl.length (cD cl) A.tg (H.extract 0 63) w6 HS6.out.2.st HS6.out.2.hG HS6.out.2.sw (digB_size (by rw [ByteArray.size_extract]; omega))))
  refine (HC6.out).mono ?_
  rintro _ w7 ⟨rfl, hs⟩
  dsimp only
  have HS7 := hide (HS6.out.trans hs)
  clear hs HC6 HS6
  go_wp2_with fail
  have HC7 := hide (HS7.out.2.ref (bDel_dig xb sb s cb tb cl.length (cD cl) A.tg (H ++ ⟨#[48]⟩) w7 HS7.out.2.st HS7.out.2.hG HS7.out.2.sw (digB_size (by rw [ByteArray.size_append, show (⟨#[48]⟩ : ByteArray).size = 1 from rfl]; omega))))
  refine (HC7.out).mono ?_
  rintro _ w8 ⟨rfl, hs⟩
  dsimp only
  have HS8 := hide (HS7.out.trans hs)
  clear hs HC7 HS7
  go_wp2_with fail
  have HC8 := hide (HS8.out.2.ref (bTag_dig xb sb s cb tb cl.length (cD cl) A.tg ⟨#[97]⟩ (⟨#[71]⟩ ++ H.extract 1 64) w8 HS8.out.2.st HS8.out.2.hG HS8.out.2.sw (by decide) (by decide +kernel) (dig_letter (c := 71) (app_left (by simp)) (by decide +kernel))))
  refine (HC8.out).mono ?_
  rintro _ w9 ⟨rfl, hs⟩
  dsimp only
  have HS9 := hide (HS8.out.trans hs)
  clear hs HC8 HS8
  go_wp2_with fail
  have HC9 := hide (HS9.out.2.ref (bGet_dig xb sb s cb tb cl.length (cD cl) A.tg (⟨#[48]⟩ ++ H.extract 0 62 ++ ⟨#[90]⟩) w9 HS9.out.2.st HS9.out.2.hG HS9.out.2.sw (dig_letter (c := 90) (app_right (by simp)) (by decide +kernel))))
  refine (HC9.out).mono ?_
  rintro _ w10 ⟨rfl, hs⟩
  dsimp only
  have HS10 := hide (HS9.out.trans hs)
  clear hs HC9 HS9
  go_wp2_with fail
  go_loopw [18] (fun sv wr => ∃ (t : ByteArray) (k : Nat), sv = .string t ∧ t.size = k * 10 ∧ k ≤ 31 ∧ SaS w wr db xb sb cb s tb cl A r n) (fun sv _ => 400 - szOf sv)
  case atStart => exact ⟨⟨#[]⟩, 0, rfl, rfl, Nat.zero_le _, HS10.out⟩
  case round =>
    obtain ⟨t, k, rfl, ht, hk, hs⟩ := hrel
    have HSR := hide hs
    clear hs
    by_cases h3 : t.size ≤ 300
    · have d1 : decide (((t.size : Nat) : Int) ≤ 300) = true := decide_eq_true (by omega)
      have q1 : ¬ 9223372036854775807 < t.size + 10 := by omega
      go_wp2_with fail
      have hsz : (t ++ digitsT).size = t.size + 10 := by rw [ByteArray.size_append, digits_size]
      refine ⟨⟨t ++ digitsT, k + 1, rfl, by rw [hsz]; omega, by omega, HSR.out⟩, ?_⟩
      show 400 - (t ++ digitsT).size < 400 - t.size
      rw [hsz]
      omega
    · have d1 : decide (((t.size : Nat) : Int) ≤ 300) = false := decide_eq_false (by omega)
      go_wp2_with fail
      have HC1 := hide (HSR.out.2.ref (bPut_long xb sb s cb tb cl.length (cD cl) A.tg t wr HSR.out.2.st HSR.out.2.hG HSR.out.2.sw (by omega) (by omega)))
      refine (HC1.out).mono ?_
      rintro _ w11 ⟨rfl, hs⟩
      dsimp only
      have HS11 := hide (HSR.out.trans hs)
      clear hs HC1
      go_wp2_with fail
      have HC2 := hide (HS11.out.2.ref (bPub_long xb sb s cb tb cl.length (cD cl) A.tg ⟨#[97]⟩ t w11 HS11.out.2.st HS11.out.2.hG HS11.out.2.sw (by decide) (by decide +kernel) (by omega) (by omega)))
      refine (HC2.out).mono ?_
      rintro _ w12 ⟨rfl, hs⟩
      dsimp only
      have HS12 := hide (HS11.out.trans hs)
      clear hs HC2
      go_wp2_with fail
      go_ret
      exact ⟨rfl, HS12.out⟩
end
end Go.Proofs.YtncigfibncmioaaGreatDoor

/-
  PROVED HERE: what Get, Tags and Blobs of the program's store at rest answer.
-/
namespace Go.Proofs.YtncigfibncmioaaGreatDoor
open Go.RowKit
def tC (t : TE) : List Value := [.string t.n, .string (dtx t.d), .int .i64 t.z]
def bC (b : ByteArray) : List Value := [.string (hxB b), .int .i64 (b.size : Int)]
theorem told_tg : ∀ {l : List TE}, (∀ t ∈ l, t.Ok) → ((l.map TE.tg).map Tg.told).flatMap Tg.cells = l.flatMap tC
  | [], _ => rfl
  | t :: l, h => by
    have ih := told_tg (l := l) (fun x hx => h x (by simp [hx]))
    have ht := h t (by simp)
    have e : Tg.told t.tg = t.tg := by
      unfold Tg.told TE.tg
      dsimp only
      rw [rd_dtx t.d ht.len ht.lt]
      rfl
    rw [List.map_cons, List.map_cons, List.flatMap_cons, List.flatMap_cons, ih, e]
    rfl
theorem flat_congr {α β γ : Type} (f : α → β) (g : β → List γ) (k : α → List γ) : ∀ l : List α, (∀ x ∈ l, g (f x) = k x) → (l.map f).flatMap g = l.flatMap k
  | [], _ => rfl
  | x :: l, h => by
    rw [List.map_cons, List.flatMap_cons, List.flatMap_cons, h x (by simp), flat_congr f g k l (fun y hy => h y (by simp [hy]))]
section
variable {w : World} {db xb sb cb : Nat} {s : PSt} {tb : Nat} {cl : List (List Nat)} {A : Sto} {r : Int} {n : Nat}
theorem saGet (h : SA w db xb sb cb s tb cl A r n) {b c : ByteArray} (hc : conC A b = some c) :
    Calls Tryz.prog 34 #[.pointer (some ⟨xb, 0, none⟩), .string (hxB b)] w fun e w' => e = .returned (.tuple #[.string c, .int .i64 0]) ∧ SGo (sS xb sb cb) s s w w' ∧ SA w' db xb sb cb s tb cl A r n := by
  have hh := h.has b
  rw [show findK kC (kC b) A.cs = some c from hc] at hh
  refine (bGet_any xb sb s cb tb cl.length (cD cl) A.tg (hxB b) w h.st h.hG h.sw (unitC_cD cl) (hx_dig b) (by rw [hx_rd]; exact hh) (fun t ht => by rw [hx_rd, h.rd b] at ht; have := h.con300 ht; omega)).mono ?_
  rintro e w' ⟨rfl, hg, hx, hst⟩
  refine ⟨?_, hg, h.same hg hx hst⟩
  rw [hx_rd, h.con b, hc]
  rfl
theorem saTags (h : SA w db xb sb cb s tb cl A r n) :
    Calls Tryz.prog 42 #[.pointer (some ⟨xb, 0, none⟩)] w fun e w' => ∃ v, e = .returned (.tuple #[v, .int .i64 0]) ∧ w'.ownsRow w.heap.size 83 3 v A.tg.length (A.tg.flatMap tC) ∧ SGo (sS xb sb cb) s s w w' ∧ SA w' db xb sb cb s tb cl A r n := by
  refine (bTags_many xb sb s cb tb cl.length (cD cl) A.tg w h.st h.hG h.sw h.good.tok h.good.t8).mono ?_
  rintro e w' ⟨v, rfl, hrow, hg, hx, hst⟩
  rw [told_tg h.good.tok] at hrow
  exact ⟨v, rfl, hrow, hg, h.same hg hx hst⟩
theorem blC_dv (h : SA w db xb sb cb s tb cl A r n) {b : ByteArray} (hb : b ∈ A.cs) : blC s.ds (dvC b) = bC b := by
  have hc : conC A b = some b := findK_mem h.good.rise hb
  unfold blC bC
  rw [dvC_val, h.rd b, hc]
  rfl
theorem blC_bC (h : SA w db xb sb cb s tb cl A r n) : (dlA A).flatMap (blC s.ds) = A.cs.flatMap bC := flat_congr dvC (blC s.ds) bC A.cs (fun _ hb => blC_dv h hb)
theorem saBlobs (h : SA w db xb sb cb s tb cl A r n) (hn : n ≤ 300000) :
    Calls Tryz.prog 32 #[.pointer (some ⟨xb, 0, none⟩)] w fun e w' => ∃ v, e = .returned (.tuple #[v, .int .i64 0]) ∧ w'.ownsRow w.heap.size 73 2 v A.cs.length (A.cs.flatMap bC) ∧ SGo (sS xb sb cb) s s w w' ∧ SA w' db xb sb cb s tb cl A r n := by
  have hdl : (dlA A).length = A.cs.length := List.length_map _
  have hlen := h.len
  refine (bBlobs_many xb sb s cb tb cl.length A.tg cl (dlA A) w h.st h.hG h.sw h.ok (dl_rise h.good.rise) (fun x => by rw [dl_mem, h.mem]) (by have := h.clen; omega) (by omega)).mono ?_
  rintro e w' ⟨v, rfl, hrow, hg, hx, hst⟩
  rw [blC_bC h, hdl] at hrow
  exact ⟨v, rfl, hrow, hg, h.same hg hx hst⟩
theorem SGo.lowN {w' : World} {s' : PSt} {N : Nat} (hg : SGo (sS xb sb cb) s s' w w') (hN : ∀ k, s.own k ∨ sS xb sb cb k → N ≤ k) (hw : N ≤ w.heap.size) : Below N w w' :=
  ⟨hg.gr.os, hg.gr.tape, hg.gr.output, hg.gr.size, fun k hk => hg.gr.block k (by omega) (fun e => by have := hN k e; omega)⟩
theorem SA.lt (h : SA w db xb sb cb s tb cl A r n) : ∀ k, fpr s xb sb cb tb k → k < w.heap.size := fun k hk => by
  rcases hk with e | e | e
  · exact h.sw.inn.lt e
  · rcases e with e | e | e
    · rw [e]; exact lt_heap h.st
    · rw [e]; exact lt_heap h.sw.blk
    · rw [e]; exact h.sw.cm.lt
  · rw [e]; exact h.sw.tm.lt
end
end Go.Proofs.YtncigfibncmioaaGreatDoor

/-
  PROVED HERE: what shown of the statements answers, of a store at rest.
-/
namespace Go.Proofs.YtncigfibncmioaaGreatDoor
open Go.RowKit
def shC (out b : ByteArray) : ByteArray := out ++ hxB b ++ ⟨#[32]⟩ ++ ⟨(Lib.itoa (b.size : Int)).toArray⟩ ++ ⟨#[32]⟩ ++ ⟨(Lib.itoa ((0 : Nat) : Int)).toArray⟩ ++ ⟨#[32]⟩ ++ b ++ ⟨#[59]⟩
def shT (out : ByteArray) (t : TE) : ByteArray := out ++ t.n ++ ⟨#[32]⟩ ++ dtx t.d ++ ⟨#[32]⟩ ++ ⟨(Lib.itoa (t.z.toNat : Int)).toArray⟩ ++ ⟨#[59]⟩
def shA (A : Sto) : ByteArray := A.tg.foldl shT (A.cs.foldl shC ⟨#[]⟩)
theorem row_flat {α : Type} {enc : α → List Value} {k : Nat} (hk : ∀ x, (enc x).length = k) {w : World} {B : Nat} {e : TypeId} {v : Value} {l : List α} {n : Nat} (h : w.ownsRow B e k v n (l.flatMap enc)) (hn : n = l.length) {i : Nat} (hi : i < l.length) : ∃ g c, v = .slice (some ⟨g, 0, none⟩) n c ∧ ∀ j x, (enc (l[i]'hi))[j]? = some x → w.cell? ⟨g, i * k + j, none⟩ = some x := by
  subst hn
  obtain ⟨_, ⟨h1, h2⟩ | ⟨g, cap, cur, rfl, _, hg, _, _, hsz, htk⟩⟩ := h
  · omega
  · refine ⟨g, cap, rfl, fun j x hx => ?_⟩
    have hjk : j < k := by
      have := (List.getElem?_eq_some_iff.1 hx).1
      rwa [hk] at this
    have hlt : i * k + j < l.length * k := by
      have : (i + 1) * k ≤ l.length * k := Nat.mul_le_mul_right _ hi
      rw [Nat.add_mul] at this
      omega
    rw [cell_of_row _ _ _ _ _ _ hg]
    have e1 : cur[i * k + j]? = (l.flatMap enc)[i * k + j]? := by
      rw [← htk, List.getElem?_take, if_pos hlt]
      simp
    rw [e1, ← List.getElem?_drop, flat_drop hk l i, List.drop_eq_getElem_cons hi, List.flatMap_cons, List.getElem?_append_left (by rw [hk]; exact hjk)]
    exact hx
theorem shC_size (out b : ByteArray) (hb : b.size ≤ 300) : (shC out b).size ≤ out.size + 500 := by
  unfold shC
  simp only [ba_size]
  have h1 := itoa_lenB b.size (by omega)
  have h0 := itoa_lenB 0 (by omega)
  have h2 : (⟨(Lib.itoa (b.size : Int)).toArray⟩ : ByteArray).size = (Lib.itoa (b.size : Int)).length := bytes_size _
  have h5 : (⟨(Lib.itoa ((0 : Nat) : Int)).toArray⟩ : ByteArray).size = (Lib.itoa ((0 : Nat) : Int)).length := bytes_size _
  have h3 : (⟨#[32]⟩ : ByteArray).size = 1 := rfl
  have h4 : (⟨#[59]⟩ : ByteArray).size = 1 := rfl
  have h6 : (hxB b).size = 64 := dtx_size _
  omega
theorem shT_size (out : ByteArray) (t : TE) (ht : t.Ok) : (shT out t).size ≤ out.size + 500 := by
  unfold shT
  simp only [ba_size]
  have hz : t.z.toNat ≤ 1000000 := by have := ht.z1; omega
  have h1 := itoa_lenB t.z.toNat hz
  have h2 : (⟨(Lib.itoa (t.z.toNat : Int)).toArray⟩ : ByteArray).size = (Lib.itoa (t.z.toNat : Int)).length := bytes_size _
  have h3 : (⟨#[32]⟩ : ByteArray).size = 1 := rfl
  have h4 : (⟨#[59]⟩ : ByteArray).size = 1 := rfl
  have h6 : (dtx t.d).size = 64 := dtx_size _
  have := ht.n
  omega
theorem fold_take {α β : Type} (f : β → α → β) (b : β) (l : List α) {i : Nat} (hi : i < l.length) : (l.take (i + 1)).foldl f b = f ((l.take i).foldl f b) (l[i]'hi) := by
  rw [List.take_add_one, List.getElem?_eq_getElem hi, List.foldl_append]
  rfl
section
variable {w : World} {db xb sb cb : Nat} {s : PSt} {tb : Nat} {cl : List (List Nat)} {A : Sto} {r : Int} {n : Nat}
set_option maxHeartbeats 4000000 in
set_option maxRecDepth 100000 in
theorem saShown (h : SA w db xb sb cb s tb cl A r n) (hn : n ≤ 300000) :
    Calls Tryz.prog 13 #[.pointer (some ⟨xb, 0, none⟩)] w fun e w' => e = .returned (.tuple #[.string (shA A), .bool true]) ∧ SGo (sS xb sb cb) s s w w' ∧ SA w' db xb sb cb s tb cl A r n := by
  have HBL := hide (saBlobs h hn)
  have HTG := hide (fun (W : World) (hW : SA W db xb sb cb s tb cl A r n) => saTags hW)
  have HKEEP := hide (show ∀ (wa wb : World), SGo (sS xb sb cb) s s wa wb → ∀ (B : Nat) (e : TypeId) (k : Nat) (v : Value) (m : Nat) (xs : List Value), w.heap.size ≤ B → wa.ownsRow B e k v m xs → wb.ownsRow B e k v m xs from fun wa wb hg B e k v m xs hB ho => own_same ho (fun x hx hlt => hg.gr.block x hlt (fun e2 => by
    have h1 := own_ge ho x hx
    have h2 := h.lt x (e2.elim .inl (fun e2 => .inr (.inl e2)))
    omega)))
  have HGD := hide h.good
  have hlen : A.cs.length ≤ 300000 := Nat.le_trans h.len hn
  have ht8 := h.good.t8
  have HGET := hide (show ∀ (W : World) (i : Nat) (hi : i < A.cs.length), SA W db xb sb cb s tb cl A r n → Calls Tryz.prog 34 #[.pointer (some ⟨xb, 0, none⟩), .string (hxB (A.cs[i]'hi))] W fun e w' => e = .returned (.tuple #[.string (A.cs[i]'hi), .int .i64 0]) ∧ SGo (sS xb sb cb) s s W w' ∧ SA w' db xb sb cb s tb cl A r n from fun W i hi hW => saGet hW (findK_mem hW.good.rise (List.getElem_mem hi)))
  obtain ⟨R, hR⟩ : ∃ R, R = shA A := ⟨_, rfl⟩
  rw [← hR]
  have HR := hide hR
  obtain ⟨m, hm⟩ : ∃ m, m = A.cs.length := ⟨_, rfl⟩
  obtain ⟨q, hq⟩ : ∃ q, q = A.tg.length := ⟨_, rfl⟩
  rw [← hm] at hlen
  rw [← hq] at ht8
  have HM := hide hm
  have HQ := hide hq
  clear h hR hm hq
  go_enter Tryz.func13, Tryz.ntmps13
  go_wp2_with fail
  refine (HBL.out).mono ?_
  rintro _ w1 ⟨v1, rfl, hrow1, hg1, hs1⟩
  dsimp only
  have HT1 := hide (HTG.out w1 hs1)
  have HG1 := hide hg1
  have HROW1 := hide hrow1
  clear hrow1 hg1 hs1 HBL HTG
  go_wp2_with fail
  refine (HT1.out).mono ?_
  rintro _ w2 ⟨v2, rfl, hrow2, hg2, hs2⟩
  dsimp only
  have hrow1 := HKEEP.out w1 w2 hg2 _ _ _ _ _ _ (Nat.le_refl _) HROW1.out
  rw [← HM.out] at hrow1
  rw [← HQ.out] at hrow2
  obtain ⟨o1, k1, rfl⟩ := own_sl hrow1
  obtain ⟨o2, k2, rfl⟩ := own_sl hrow2
  have hrow2 := hrow2.mono_base (HG1.out.gr.size : w.heap.size ≤ w1.heap.size)
  have HR1 := hide hrow1
  have HR2 := hide hrow2
  have HG2 := hide (HG1.out.trans hg2)
  have HS2 := hide hs2
  clear hrow1 hrow2 hg2 hs2 HT1 HROW1 HG1
  go_wp2_with fail
  go_loopw [8, 9] (fun ov iv wr => ∃ (j : Nat), j ≤ m ∧ iv = .int .i64 ((j : Nat) : Int) ∧ ov = .string ((A.cs.take j).foldl shC ⟨#[]⟩) ∧ ((A.cs.take j).foldl shC ⟨#[]⟩).size ≤ j * 500 ∧ SGo (sS xb sb cb) s s w wr ∧ SA wr db xb sb cb s tb cl A r n ∧ wr.ownsRow w.heap.size 73 2 (.slice o1 m k1) m (A.cs.flatMap bC) ∧ wr.ownsRow w.heap.size 83 3 (.slice o2 q k2) q (A.tg.flatMap tC)) (fun _ iv _ => m - (intOf iv).toNat)
  case atStart => exact ⟨0, Nat.zero_le _, rfl, rfl, Nat.le_refl _, HG2.out, HS2.out, HR1.out, HR2.out⟩
  case round =>
    obtain ⟨j, hj, rfl, rfl, hsz, hgo, hsa, hrw1, hrw2⟩ := hrel
    have HGO := hide hgo
    have HSA := hide hsa
    have HW1 := hide hrw1
    have HW2 := hide hrw2
    clear hgo hsa
    by_cases hlt : j < m
    · have hjl : j < A.cs.length := by rw [← HM.out]; exact hlt
      obtain ⟨g1, c1, e1, hc⟩ := row_flat (enc := bC) (k := 2) (fun x => rfl) hrw1 HM.out hjl
      injection e1 with e1 _ ec
      subst e1
      subst ec
      have r0 := hc 0 _ rfl
      have r1 := hc 1 _ rfl
      rw [Nat.add_zero] at r0
      have HRF := hide (show ∀ W : World, W.ownsRow w.heap.size 73 2 (.slice (some ⟨g1, 0, none⟩) m k1) m (A.cs.flatMap bC) → W.cell? ⟨g1, j * 2, none⟩ = some (.string (hxB (A.cs[j]'hjl))) ∧ W.cell? ⟨g1, j * 2 + 1, none⟩ = some (.int .i64 ((A.cs[j]'hjl).size : Int)) from fun W hW => by
        obtain ⟨g3, c3, e3, hc3⟩ := row_flat (enc := bC) (k := 2) (fun x => rfl) hW HM.out hjl
        injection e3 with e3 _ _
        injection e3 with e3
        injection e3 with e3
        subst e3
        exact ⟨hc3 0 _ rfl, hc3 1 _ rfl⟩)
      have HGT := hide (HGET.out wr j hjl HSA.out)
      have hnx := fold_take shC ⟨#[]⟩ A.cs hjl
      have hb3 := HGD.out.sz _ (List.getElem_mem hjl)
      have hone := shC_size ((A.cs.take j).foldl shC ⟨#[]⟩) (A.cs[j]'hjl) hb3
      have hsx : (hxB (A.cs[j]'hjl)).size ≤ 64 := Nat.le_of_eq (dtx_size _)
      generalize (A.cs.take j).foldl shC ⟨#[]⟩ = O at *
      generalize A.cs[j]'hjl = b at *
      have hnx2 : (A.cs.take (j + 1)).foldl shC ⟨#[]⟩ = O ++ hxB b ++ ⟨#[32]⟩ ++ ⟨(Lib.itoa (b.size : Int)).toArray⟩ ++ ⟨#[32]⟩ ++ ⟨(Lib.itoa ((0 : Nat) : Int)).toArray⟩ ++ ⟨#[32]⟩ ++ b ++ ⟨#[59]⟩ := hnx
      have HNX := hide hnx2
      clear hnx hnx2
      generalize hxB b = H at *
      have d1 : decide (((j : Nat) : Int) < ((m : Nat) : Int)) = true := decide_eq_true (by omega)
      clear hrw1 hrw2 hc hjl hone
      go_wp2_with fail
      refine (HGT.out).mono ?_
      rintro _ w3 ⟨rfl, hg3, hs3⟩
      dsimp only
      have hrw3 := HKEEP.out wr w3 hg3 _ _ _ _ _ _ (Nat.le_refl _) HW1.out
      have hrw4 := HKEEP.out wr w3 hg3 _ _ _ _ _ _ (Nat.le_refl _) HW2.out
      obtain ⟨r30, r31⟩ := HRF.out _ hrw3
      obtain ⟨z, hz⟩ : ∃ z, z = b.size := ⟨_, rfl⟩
      have HDC : Hid (∀ W, Calls Tryz.prog 41 #[.int .i64 ((z : Nat) : Int)] W fun e w' => e = .returned (.string ⟨(Lib.itoa (b.size : Int)).toArray⟩) ∧ Below W.heap.size W w') := hide (fun W => by rw [hz]; exact decimalB_any b.size (by omega) W)
      have HDZ : Hid (∀ W, Calls Tryz.prog 41 #[.int .i64 0] W fun e w' => e = .returned (.string ⟨(Lib.itoa ((0 : Nat) : Int)).toArray⟩) ∧ Below W.heap.size W w') := hide (fun W => decimalB_any 0 (by omega) W)
      rw [← hz] at r31
      clear hz
      have t1 : (⟨(Lib.itoa (b.size : Int)).toArray⟩ : ByteArray).size ≤ 21 := by rw [bytes_size]; exact itoa_lenB _ (by omega)
      have t0 : (⟨(Lib.itoa ((0 : Nat) : Int)).toArray⟩ : ByteArray).size ≤ 21 := by rw [bytes_size]; exact itoa_lenB _ (by omega)
      generalize (⟨(Lib.itoa (b.size : Int)).toArray⟩ : ByteArray) = Tx at *
      generalize (⟨(Lib.itoa ((0 : Nat) : Int)).toArray⟩ : ByteArray) = Tz at *
      have q1 : ¬ 9223372036854775807 < O.size + H.size := by omega
      have q2 : ¬ 9223372036854775807 < O.size + H.size + 1 := by omega
      have q3 : ¬ 9223372036854775807 < O.size + H.size + 1 + Tx.size := by omega
      have q4 : ¬ 9223372036854775807 < O.size + H.size + 1 + Tx.size + 1 := by omega
      have q5 : ¬ 9223372036854775807 < O.size + H.size + 1 + Tx.size + 1 + Tz.size := by omega
      have q6 : ¬ 9223372036854775807 < O.size + H.size + 1 + Tx.size + 1 + Tz.size + 1 := by omega
      have q7 : ¬ 9223372036854775807 < O.size + H.size + 1 + Tx.size + 1 + Tz.size + 1 + b.size := by omega
      have q8 : ¬ 9223372036854775807 < O.size + H.size + 1 + Tx.size + 1 + Tz.size + 1 + b.size + 1 := by omega
      have HGO3 := hide (HGO.out.trans hg3)
      have HSA3 := hide hs3
      have HW3 := hide hrw3
      have HW4 := hide hrw4
      have hdr : Below w3.heap.size w3 w3.drew := (Below.refl _ _).drew
      have hS0 : w3.drew.cell? ⟨g1, j * 2, none⟩ = some (.string H) ∧ w3.drew.cell? ⟨g1, j * 2 + 1, none⟩ = some (.int .i64 ((z : Nat) : Int)) := ⟨cell_later hdr r30, cell_later hdr r31⟩
      have HC0 := hide r30
      have HC1 := hide r31
      clear hg3 hs3 hrw3 hrw4 r30 r31 r0 r1 HRF HGT
      go_wp2_with fail
      go_region_held3 (fun w' => w'.cell? ⟨g1, j * 2, none⟩ = some (.string H) ∧ w'.cell? ⟨g1, j * 2 + 1, none⟩ = some (.int .i64 ((z : Nat) : Int))) (first | exact hS0 | exact hS4 | exact hS5 | go_keep) ((first
        | (go_at_call 41; (with_reducible refine (HDZ.out _).mono ?_); rintro _ w5 ⟨rfl, hb6⟩; have hb7 : Below w3.heap.size w3 w5 := hb5.trans (hb6.mono hb5.size); have hS5 : w5.cell? ⟨g1, j * 2, none⟩ = some (.string H) ∧ w5.cell? ⟨g1, j * 2 + 1, none⟩ = some (.int .i64 ((z : Nat) : Int)) := ⟨cell_later hb7 HC0.out, cell_later hb7 HC1.out⟩)
        | (go_at_call 41; (with_reducible refine (HDC.out _).mono ?_); rintro _ w4 ⟨rfl, hb4⟩; have hb5 : Below w3.heap.size w3 w4 := hdr.trans hb4; have hS4 : w4.cell? ⟨g1, j * 2, none⟩ = some (.string H) ∧ w4.cell? ⟨g1, j * 2 + 1, none⟩ = some (.int .i64 ((z : Nat) : Int)) := ⟨cell_later hb5 HC0.out, cell_later hb5 HC1.out⟩)))
      have HB7 := hide hb7
      clear hb4 hb5 hb6 hb7 hS0 hS4 hS5 hdr HDC HDZ HC0 HC1
      go_wp2_with fail
      refine ⟨⟨j + 1, by omega, by simp, by rw [HNX.out], ?_, HGO3.out.trans (SGo.of_below HB7.out), HSA3.out.later HB7.out, ownsRow_later HW3.out HB7.out, ownsRow_later HW4.out HB7.out⟩, by simp only [intOf]; omega⟩
      rw [HNX.out]
      simp only [ba_size]
      have h3 : (⟨#[32]⟩ : ByteArray).size = 1 := rfl
      have h4 : (⟨#[59]⟩ : ByteArray).size = 1 := rfl
      omega
    · have d1 : decide (((j : Nat) : Int) < ((m : Nat) : Int)) = false := decide_eq_false (by omega)
      have hjn : j = m := by omega
      subst hjn
      have ht : A.cs.take j = A.cs := List.take_of_length_le (by rw [← HM.out]; exact Nat.le_refl _)
      rw [ht] at hsz ⊢
      clear hrw1 hrw2 ht
      have HB0 := hide (show R = A.tg.foldl shT (A.cs.foldl shC ⟨#[]⟩) from HR.out)
      generalize A.cs.foldl shC ⟨#[]⟩ = O at hsz HB0 ⊢
      go_wp2_with fail
      go_loopw [8, 12] (fun ov iv wr => ∃ (i : Nat), i ≤ q ∧ iv = .int .i64 ((i : Nat) : Int) ∧ ov = .string ((A.tg.take i).foldl shT O) ∧ ((A.tg.take i).foldl shT O).size ≤ j * 500 + i * 500 ∧ SGo (sS xb sb cb) s s w wr ∧ SA wr db xb sb cb s tb cl A r n ∧ wr.ownsRow w.heap.size 83 3 (.slice o2 q k2) q (A.tg.flatMap tC)) (fun _ iv _ => q - (intOf iv).toNat)
      case atStart => exact ⟨0, Nat.zero_le _, rfl, rfl, by simpa using hsz, HGO.out, HSA.out, HW2.out⟩
      case round =>
        obtain ⟨i, hi, rfl, rfl, hsz2, hgo, hsa, hrw2⟩ := hrel
        have HGO2 := hide hgo
        have HSA2 := hide hsa
        have HW5 := hide hrw2
        clear hgo hsa
        by_cases hli : i < q
        · have hil : i < A.tg.length := by rw [← HQ.out]; exact hli
          obtain ⟨g2, c2, e2, hc⟩ := row_flat (enc := tC) (k := 3) (fun x => rfl) hrw2 HQ.out hil
          injection e2 with e2 _ ec
          subst e2
          subst ec
          have r0 := hc 0 _ rfl
          have r1 := hc 1 _ rfl
          have r2 := hc 2 _ rfl
          rw [Nat.add_zero] at r0
          have hnx := fold_take shT O A.tg hil
          have htk := HGD.out.tok _ (List.getElem_mem hil)
          have hone := shT_size ((A.tg.take i).foldl shT O) (A.tg[i]'hil) htk
          generalize A.tg[i]'hil = t at *
          generalize (A.tg.take i).foldl shT O = P at *
          have hnx2 : (A.tg.take (i + 1)).foldl shT O = P ++ t.n ++ ⟨#[32]⟩ ++ dtx t.d ++ ⟨#[32]⟩ ++ ⟨(Lib.itoa (t.z.toNat : Int)).toArray⟩ ++ ⟨#[59]⟩ := hnx
          have HNX := hide hnx2
          clear hnx hnx2
          obtain ⟨z, hz⟩ : ∃ z : Nat, t.z = (z : Int) := ⟨t.z.toNat, by have := htk.z0; omega⟩
          have hz3 : z ≤ 1000000 := by have := htk.z1; omega
          rw [hz] at r2
          have hzn : t.z.toNat = z := by omega
          rw [hzn] at HNX
          have HDC := hide (fun W => decimalB_any z hz3 W)
          have t1 : (⟨(Lib.itoa (z : Int)).toArray⟩ : ByteArray).size ≤ 21 := by rw [bytes_size]; exact itoa_lenB _ hz3
          generalize (⟨(Lib.itoa (z : Int)).toArray⟩ : ByteArray) = Tx at *
          have hn1 := htk.n
          have hd1 : (dtx t.d).size ≤ 64 := Nat.le_of_eq (dtx_size _)
          generalize dtx t.d = D at *
          generalize t.n = M at *
          have q1 : ¬ 9223372036854775807 < P.size + M.size := by omega
          have q2 : ¬ 9223372036854775807 < P.size + M.size + 1 := by omega
          have q3 : ¬ 9223372036854775807 < P.size + M.size + 1 + D.size := by omega
          have q4 : ¬ 9223372036854775807 < P.size + M.size + 1 + D.size + 1 := by omega
          have q5 : ¬ 9223372036854775807 < P.size + M.size + 1 + D.size + 1 + Tx.size := by omega
          have q6 : ¬ 9223372036854775807 < P.size + M.size + 1 + D.size + 1 + Tx.size + 1 := by omega
          have d2 : decide (((i : Nat) : Int) < ((q : Nat) : Int)) = true := decide_eq_true (by omega)
          have hdr : Below wr.heap.size wr wr.drew := (Below.refl _ _).drew
          have hS0 : wr.drew.cell? ⟨g2, i * 3, none⟩ = some (.string M) ∧ wr.drew.cell? ⟨g2, i * 3 + 1, none⟩ = some (.string D) ∧ wr.drew.cell? ⟨g2, i * 3 + 2, none⟩ = some (.int .i64 ((z : Nat) : Int)) := ⟨cell_later hdr r0, cell_later hdr r1, cell_later hdr r2⟩
          have HC := hide (And.intro r0 (And.intro r1 r2))
          clear hrw2 hc hil hone htk hz hzn r0 r1 r2
          go_wp2_with fail
          go_region_held3 (fun w' => w'.cell? ⟨g2, i * 3, none⟩ = some (.string M) ∧ w'.cell? ⟨g2, i * 3 + 1, none⟩ = some (.string D) ∧ w'.cell? ⟨g2, i * 3 + 2, none⟩ = some (.int .i64 ((z : Nat) : Int))) (first | exact hS0 | exact hS4 | go_keep) ((go_at_call 41; refine (HDC.out _).mono ?_; rintro _ w4 ⟨rfl, hb4⟩; have hb5 : Below wr.heap.size wr w4 := hdr.trans hb4; have hS4 : w4.cell? ⟨g2, i * 3, none⟩ = some (.string M) ∧ w4.cell? ⟨g2, i * 3 + 1, none⟩ = some (.string D) ∧ w4.cell? ⟨g2, i * 3 + 2, none⟩ = some (.int .i64 ((z : Nat) : Int)) := ⟨cell_later hb5 HC.out.1, cell_later hb5 HC.out.2.1, cell_later hb5 HC.out.2.2⟩))
          have HB5 := hide hb5
          clear hb4 hb5 hS0 hS4 hdr HDC HC
          go_wp2_with fail
          refine ⟨⟨i + 1, by omega, by simp, by rw [HNX.out], ?_, HGO2.out.trans (SGo.of_below HB5.out), HSA2.out.later HB5.out, ownsRow_later HW5.out HB5.out⟩, by simp only [intOf]; omega⟩
          rw [HNX.out]
          simp only [ba_size]
          have h3 : (⟨#[32]⟩ : ByteArray).size = 1 := rfl
          have h4 : (⟨#[59]⟩ : ByteArray).size = 1 := rfl
          omega
        · have d2 : decide (((i : Nat) : Int) < ((q : Nat) : Int)) = false := decide_eq_false (by omega)
          have hiq : i = q := by omega
          subst hiq
          have ht2 : A.tg.take i = A.tg := List.take_of_length_le (by rw [← HQ.out]; exact Nat.le_refl _)
          rw [ht2, ← HB0.out] at hsz2 ⊢
          clear hrw2 ht2
          go_wp2_with fail
          refine bodyPost_ret (results_tmp2 rfl _ _ _) rfl ?_
          exact ⟨rfl, HGO2.out, HSA2.out⟩
end
end Go.Proofs.YtncigfibncmioaaGreatDoor

/-
  PROVED HERE: what begun of the statements answers: a store at rest, with one content.
-/
namespace Go.Proofs.YtncigfibncmioaaGreatDoor
open Go.RowKit
def A0 : Sto := ⟨[], []⟩
def abcB : ByteArray := ⟨#[97, 98, 99]⟩
def latestB : ByteArray := ⟨#[108, 97, 116, 101, 115, 116]⟩
def A1 : Sto := ⟨[abcB], [⟨latestB, dOfB abcB, 3⟩]⟩
theorem good0 : GoodA A0 := ⟨List.Pairwise.nil, fun b hb => (by cases hb), List.Pairwise.nil, fun t ht => (by cases ht), Nat.zero_le _, fun t ht => (by cases ht)⟩
theorem szA0 : szA A0 = 36 := by rw [szA_eq]; rfl
theorem rest3_rst {D : DS} {r : Int} {L C : Nat} (h : Rest3 D) (hl : D.R.left = -1) (hr : D.R.room = r) (hf : DFit D L C 36) : Rst D (fA A0) r 2000 := by
  obtain ⟨⟨y, x, z, hn, fx, fy, fz⟩, h2, h3⟩ := h
  have hsz : ((idxX []).size : Int) = 23 := rfl
  have hvw : vwL D = fA A0 := by
    unfold vwL
    rw [hn]
    show [vwE D.fd ⟨indexP, y⟩, vwE D.fd ⟨journalP, x⟩, vwE D.fd ⟨layoutP, z⟩] = [ff indexP (idxX []), ff journalP ⟨#[]⟩, ff layoutP layoutT]
    unfold vwE
    dsimp only
    rw [fx, fy, fz]
    rfl
  have n1 : emptyT ≠ ⟨#[]⟩ := by decide
  have n2 : emptyT ≠ layoutT := by decide
  have n3 : layoutT ≠ ⟨#[]⟩ := by decide
  have nyx : y ≠ x := fun e => n1 (by have := fy; rw [e, fx] at this; injection this with this; exact this.symm)
  have nyz : y ≠ z := fun e => n2 (by have := fy; rw [e, fz] at this; injection this with this; exact this.symm)
  have nxz : x ≠ z := fun e => n3 (by have := fx; rw [e, fz] at this; injection this)
  refine ⟨⟨hvw, hl, hr, fun e he e' he' hb => ?_, hf.inow, hf.isafe, hf.ichg, hf.inv, hf.rise, fun f hf2 => (hf.dat f hf2).mono (by decide), hf.chf⟩, h2, h3, fun f hm => ?_⟩
  · rw [hn] at he he'
    simp only [List.mem_cons, List.not_mem_nil, or_false] at he he'
    rcases he with rfl | rfl | rfl <;> rcases he' with rfl | rfl | rfl <;> first | rfl | exact absurd hb nyx | exact absurd hb.symm nyx | exact absurd hb nyz | exact absurd hb.symm nyz | exact absurd hb nxz | exact absurd hb.symm nxz
  · rcases tail_mem (show f ∈ tailF [] from hm) with rfl | rfl | rfl <;> rfl
theorem run_gen (D : List Nat) (X : ByteArray) (hD : DigOk D) : Pl.run 1099511627776 A0 ⟨abcB.size + tgNeed [] [⟨latestB, D, 3⟩], X, 0, ⟨[abcB], [⟨latestB, D, 3⟩]⟩⟩ = (X, 0, ⟨[abcB], [⟨latestB, D, 3⟩]⟩) := by
  refine Pl.run_yes ?_
  rw [szA0]
  show ((36 : Nat) : Int) + ((abcB.size + tgNeed [] [⟨latestB, D, 3⟩] : Nat) : Int) ≤ 1099511627776
  have h4 : (idxX [⟨latestB, D, 3⟩]).size ≤ 2000 := idxX_size (fun t ht => by
    simp only [List.mem_singleton] at ht
    subst ht
    exact te_ok (by decide) hD.1 hD.2 (by decide) (by decide)) (by simp)
  have h5 : tgNeed [] [⟨latestB, D, 3⟩] ≤ 2000 := by
    unfold tgNeed
    rw [if_neg (by simp)]
    exact h4
  have h6 : abcB.size = 3 := rfl
  omega
theorem ins_one (b : ByteArray) : nbC A0.cs (some b) = [b] := rfl
theorem con_none (b : ByteArray) : conC A0 b = none := rfl
theorem new_one (b : ByteArray) : newC A0 b = some b := by unfold newC; rw [con_none]
theorem tag_one (m b : ByteArray) : tgNew A0 m b = [⟨m, dOfB b, (b.size : Int)⟩] := by
  unfold tgNew
  rw [con_none]
  rfl
theorem run_first : (pubPl A0 latestB abcB).run 1099511627776 A0 = (hxB abcB, 0, A1) := by
  have hm : mayB A0 latestB = true := rfl
  have hs : (abcB.size : Int) = 3 := rfl
  unfold pubPl A1
  rw [if_pos hm, new_one, tag_one, ins_one, hs, show nbN (some abcB) = abcB.size from rfl, show A0.tg = [] from rfl]
  generalize hD : dOfB abcB = D
  have hok : DigOk D := by rw [← hD]; exact dOfB_ok abcB
  generalize hxB abcB = X
  exact run_gen D X hok
theorem bNew_sa (r : Int) (w : World) (hg : Gl w) (h0 : 0 ≤ r) (h1 : r ≤ 9223372036854775807) :
    Calls Tryz.prog 24 #[.int .i64 r] w fun e w' => ∃ d so, e = .returned (.pointer (some ⟨d, 0, none⟩)) ∧ Below w.heap.size w w' ∧ w.heap.size ≤ d ∧ DkW w' d so ∧ (∀ k, so.own k → w.heap.size ≤ k) ∧ Er so.ds ∧ DFit so.ds 6 0 36 ∧ so.R.left = -1 ∧ so.R.room = r ∧ so.ds.R.now = [] := by
  refine (wNewDisk r (fun g w' => ∃ so : PSt, so.b = g ∧ Below w.heap.size w w' ∧ so.In w' ∧ (∀ k, so.own k → w.heap.size ≤ k) ∧ so.ds = ⟨⟨r, [], [], [], 0, -1⟩, [], so.fd⟩) w ((pnew_any r w).mono ?_)).mono ?_
  · rintro e w' ⟨rfl, hb, hpd, hsz⟩
    rw [if_neg (by omega)] at hpd
    refine ⟨_, rfl, ⟨w.heap.size + 1 + 1, w.heap.size, w.heap.size + 1, .slice none 0 0, ⟨r, [], [], [], 0, -1⟩, [], fun _ => (⟨#[]⟩, 0), fun _ => .slice none 0 0⟩, rfl, hb, ⟨hpd, fun f hf => (by cases hf), fun f hf => (by cases hf), fun e he => (by cases he), fun e he => (by cases he), fun c hc => (by cases hc)⟩, fun k hk => ?_, rfl⟩
    rcases hk with e | e | e | e | e | ⟨f, hf, e⟩
    · have e : k = w.heap.size + 1 + 1 := e; omega
    · have e : k = w.heap.size := e; omega
    · have e : k = w.heap.size + 1 := e; omega
    · cases e
    · cases e
    · cases hf
  · rintro e w' ⟨g, w1, rfl, rfl, so, rfl, hb, hin, hown, hds⟩
    have hba := hb.alloc hb.size (.cells #[.pointer (some ⟨so.b, 0, none⟩)] 90)
    obtain ⟨e1, e2⟩ := new_er r h0 h1 so.fd
    rw [← hds] at e1 e2
    exact ⟨w1.heap.size, so, rfl, hba, hb.size, ⟨hin.later ((Below.refl _ _).alloc (Nat.le_refl _) _), heap_alloc_new _ _, hg.later hba, fun k hk hG => by have := hown k hk; have := hg.lt hG; omega⟩, hown, e1, e2, congrArg (fun D : DS => D.R.left) hds, congrArg (fun D : DS => D.R.room) hds, congrArg (fun D : DS => D.R.now) hds⟩
theorem hx_abc : hxB abcB = abcT := abc_known
set_option maxHeartbeats 4000000 in
set_option maxRecDepth 100000 in
theorem within_sa (w : World) (hg : Gl w) :
    Calls Tryz.prog 28 #[.int .i64 1099511627776] w fun e w' => ∃ d xb sb cb s tb cl, e = .returned (.tuple #[.pointer (some ⟨d, 0, none⟩), .pointer (some ⟨xb, 0, none⟩), .bool false]) ∧ Below w.heap.size w w' ∧ SA w' d xb sb cb s tb cl A1 1099511627776 3 ∧ ∀ k, fpr s xb sb cb tb k → w.heap.size ≤ k := by
  have HND := hide (bNew_sa 1099511627776 w hg (by decide) (by decide))
  have HGL := hide hg
  clear hg
  go_enter Tryz.func28, Tryz.ntmps28
  go_wp2_with fail
  refine (HND.out).mono ?_
  rintro _ w1 ⟨d, so, rfl, hb1, hld, hdk, hown, her, hfit, hleft, hroom, hnow⟩
  dsimp only
  have hnl : so.R.now.length ≤ 6 := hfit.nowLen
  have HOP := hide (bOpen_new so w1 d hdk.inn hdk.gl hdk.low hfit (show Bud _ _ _ from ⟨by omega, by omega, by omega⟩) her.paths (by unfold rdD; rw [hnow]; rfl) hdk.bd)
  have HB1 := hide hb1
  have HDK := hide hdk
  have HOW := hide hown
  have HER := hide her
  have HFI := hide hfit
  have HLE := hide hleft
  have HRR := hide (show so.ds.R.room = 1099511627776 from hroom)
  have hN2 : w.heap.size ≤ w1.heap.size := hb1.size
  clear hb1 hdk hown her hfit hleft hroom hnow hnl HND
  go_wp2_with fail
  refine (HOP.out).mono ?_
  rintro _ w2 ⟨k, s3, sv, rfl, hg3, hop3, hok, hno⟩
  dsimp only
  obtain ⟨rfl, kp3, ea3, r3⟩ := open_pure HER.out (by rw [HRR.out]; decide) hop3
  have fit3 := open_fit HER.out (by rw [HRR.out]; decide) HFI.out hop3
  obtain ⟨xb, sb, cb, tb, rfl, hbst, hlsb, hlxb, hst⟩ := hok rfl
  have hGx : ¬ isG xb := fun e => by have := HGL.out.lt e; omega
  have hroom3 : s3.ds.R.room = 1099511627776 := by rw [kp3.1, HRR.out]
  have hbd2 : BD w2 d s3.b := (HDK.out.go hg3).bd
  have hsa : SA w2 d xb sb cb s3 tb [] A0 1099511627776 2 := ⟨hbst, hGx, hst, hbd2, fun d hd => (by cases hd), fun d => ⟨fun h => (by cases h), fun ⟨b, hb, _⟩ => (by cases hb)⟩, Nat.zero_le _, rest3_rst (r3 HLE.out) (kp3.2 HLE.out) hroom3 fit3, fit3.c0, by have := fit3.c1; omega, good0, by rw [szA0]; decide, by decide, by decide⟩
  have HB2 := hide (HB1.out.trans (hg3.low (N := w.heap.size) HOW.out hN2))
  have hfp : ∀ k, s3.own k ∨ sS xb sb cb k → w.heap.size ≤ k := fun k hk => by
    rcases hk with e | e | e | e
    · exact hg3.ownN HOW.out hN2 k e
    · omega
    · omega
    · omega
  have HFP := hide hfp
  have HPB := hide (saPub hsa (by decide) latestB abcB (by decide) (by decide +kernel) (by decide))
  have hN3 : w.heap.size ≤ w2.heap.size := Nat.le_trans hN2 hg3.gr.size
  rw [run_first] at HPB
  have hltb : w.heap.size ≤ tb := by omega
  unfold latestB at HPB
  have habc : abcB = ⟨#[97, 98, 99]⟩ := rfl
  clear hop3 kp3 ea3 r3 fit3 hok hno hst hbst hg3 HOP hroom3 hfp hbd2 hsa
  have HPB2 : Hid (Calls Tryz.prog 25 #[.pointer (some ⟨xb, 0, none⟩), .string ⟨#[108, 97, 116, 101, 115, 116]⟩, .string ⟨#[97, 98, 99]⟩] w2 fun e w' => e = .returned (.tuple #[.string abcT, .int .i64 0]) ∧ SaN w2 w' d xb sb cb s3 tb A1 1099511627776 3) := hide (by rw [← hx_abc]; exact HPB.out)
  clear HPB habc
  go_wp2_with fail
  refine (HPB2.out).mono ?_
  rintro _ w4 ⟨rfl, s4, tb4, cl4, hg4, ht4, hs4⟩
  dsimp only
  have HB4 := hide (HB2.out.trans (hg4.lowN HFP.out hN3))
  have HF4 := hide (show ∀ k, fpr s4 xb sb cb tb4 k → w.heap.size ≤ k from fun k hk => by
    rcases hk with e | e | e
    · rcases hg4.own k e with e | e
      · exact HFP.out k (.inl e)
      · omega
    · exact HFP.out k (.inr e)
    · rcases ht4 with ht4 | ht4 <;> omega)
  have HGT := hide (saGet hs4 (b := abcB) (c := abcB) (findK_mem hs4.good.rise (by simp [A1])))
  rw [hx_abc] at HGT
  have HGT2 : Hid (Calls Tryz.prog 34 #[.pointer (some ⟨xb, 0, none⟩), .string abcT] w4 fun e w' => e = .returned (.tuple #[.string ⟨#[97, 98, 99]⟩, .int .i64 0]) ∧ SGo (sS xb sb cb) s4 s4 w4 w' ∧ SA w' d xb sb cb s4 tb4 cl4 A1 1099511627776 3) := HGT
  have hN4 : w.heap.size ≤ w4.heap.size := Nat.le_trans hN3 hg4.gr.size
  have hfr := HF4.out
  clear hg4 ht4 hs4 HPB2 HGT hfr
  unfold abcT at HGT2 ⊢
  go_wp2_with fail
  refine (HGT2.out).mono ?_
  rintro _ w5 ⟨rfl, hg5, hs5⟩
  dsimp only
  have HTG := hide (saTags hs5)
  have HB5 := hide (HB4.out.trans (hg5.lowN (fun k hk => HF4.out k (hk.elim .inl (fun e => .inr (.inl e)))) hN4))
  have hN5 : w.heap.size ≤ w5.heap.size := Nat.le_trans hN4 hg5.gr.size
  clear hg5 hs5 HGT2 HB4
  go_wp2_with fail
  refine (HTG.out).mono ?_
  rintro _ w6 ⟨v6, rfl, hrow6, hg6, hs6⟩
  dsimp only
  have hcl : A1.tg.flatMap tC = [.string ⟨#[108, 97, 116, 101, 115, 116]⟩, .string abcT, .int .i64 3] := by
    have h1 : dtx (dOfB abcB) = abcT := abc_known
    show [Value.string latestB, .string (dtx (dOfB abcB)), .int .i64 3] ++ [] = _
    rw [h1]
    rfl
  rw [hcl] at hrow6
  obtain ⟨g, c, rfl, -, r0, r1, r2⟩ := own_three hrow6
  have HB6 := hide (HB5.out.trans (hg6.lowN (fun k hk => HF4.out k (hk.elim .inl (fun e => .inr (.inl e)))) hN5))
  have HS6 := hide hs6
  unfold abcT at r1
  clear hg6 hs6 hrow6 hcl HTG HB5
  go_wp2_with fail
  refine bodyPost_ret (results_tmp3 rfl _ _ _) rfl ?_
  exact ⟨d, xb, rfl, HB6.out, sb, cb, s4, tb4, ⟨cl4, HS6.out⟩, HF4.out⟩
set_option maxHeartbeats 1000000 in
set_option maxRecDepth 100000 in
theorem begun_sa (w : World) (hg : Gl w) :
    Calls Tryz.prog 10 #[] w fun e w' => ∃ d xb sb cb s tb cl, e = .returned (.tuple #[.pointer (some ⟨d, 0, none⟩), .pointer (some ⟨xb, 0, none⟩)]) ∧ Below w.heap.size w w' ∧ SA w' d xb sb cb s tb cl A1 1099511627776 3 ∧ ∀ k, fpr s xb sb cb tb k → w.heap.size ≤ k := by
  have HW := hide (within_sa w hg)
  clear hg
  go_enter Tryz.func10, Tryz.ntmps10
  go_wp2_with fail
  refine (HW.out).mono ?_
  rintro _ w1 ⟨d, xb, sb, cb, s, tb, cl, rfl, hb, hs, hf⟩
  dsimp only
  have HB := hide hb
  have HS := hide hs
  have HF := hide hf
  clear hb hs hf HW
  go_wp2_with fail
  refine bodyPost_ret (results_tmp2 rfl _ _ _) rfl ?_
  exact ⟨d, xb, sb, cb, s, tb, cl, rfl, HB.out, HS.out, HF.out⟩
end Go.Proofs.YtncigfibncmioaaGreatDoor

/-
  PROVED HERE: that the statement Refused answers true, for whatever script and number.
-/
namespace Go.Proofs.YtncigfibncmioaaGreatDoor
open Go.RowKit
structure StepV where
  k : Int
  n : Int
  b : Int
def step0 : StepV := ⟨0, 0, 0⟩
def StepV.ok (t : StepV) : Prop := i64r t.k ∧ i64r t.n ∧ i64r t.b
def StepV.cells (t : StepV) : List Value := [.int .i64 t.k, .int .i64 t.n, .int .i64 t.b]
def StepsAt (N : Nat) (w : World) (oa : Option Addr) (l : List StepV) : Prop := ∀ i, i < l.length → ∃ b o, oa = some ⟨b, o, none⟩ ∧ b < N ∧ w.rangeAt b (o + i * 3) (l.getD i step0).cells ∧ (l.getD i step0).ok
theorem StepsAt.low {N : Nat} {w w' : World} {oa : Option Addr} {l : List StepV} (h : StepsAt N w oa l) (hb : ∀ k, k < N → w'.heap[k]? = w.heap[k]?) : StepsAt N w' oa l := fun i hi => by
  obtain ⟨b, o, h1, h2, h3, h4⟩ := h i hi
  exact ⟨b, o, h1, h2, fun j v hj => (World.cell?_of_block (a := ⟨b, o + i * 3 + j, none⟩) (hb b h2)).trans (h3 j v hj), h4⟩
structure Two (N : Nat) (w : World) (d1 x1 b1 c1 d2 x2 b2 c2 : Nat) (n : Nat) : Prop where
  has : ∃ s1 t1 l1 s2 t2 l2 A, SA w d1 x1 b1 c1 s1 t1 l1 A 1099511627776 n ∧ SA w d2 x2 b2 c2 s2 t2 l2 A 1099511627776 n ∧ (∀ k, fpr s1 x1 b1 c1 t1 k → ¬ fpr s2 x2 b2 c2 t2 k) ∧ (∀ k, fpr s1 x1 b1 c1 t1 k → N ≤ k) ∧ (∀ k, fpr s2 x2 b2 c2 t2 k → N ≤ k)
theorem fpr_next {w w' : World} {xb sb cb tb tb' : Nat} {s s' : PSt} {k : Nat} (hg : SGo (sS xb sb cb) s s' w w') (ht : tb' = tb ∨ w.heap.size ≤ tb') (hk : fpr s' xb sb cb tb' k) : fpr s xb sb cb tb k ∨ w.heap.size ≤ k := by
  rcases hk with e | e | e
  · exact (hg.own k e).imp .inl id
  · exact .inl (.inr (.inl e))
  · rcases ht with ht | ht
    · exact .inl (.inr (.inr (e.trans ht)))
    · right
      rw [e]
      exact ht
theorem step_one {N : Nat} {w w' : World} {d1 x1 b1 c1 d2 x2 b2 c2 : Nat} {s1 s2 : PSt} {t1 t2 : Nat} {l1 l2 : List (List Nat)} {A A' A2 : Sto} {r r2 : Int} {n n2 m : Nat}
    (h1 : SA w d1 x1 b1 c1 s1 t1 l1 A r n) (h2 : SA w d2 x2 b2 c2 s2 t2 l2 A2 r2 n2) (ha : ∀ k, fpr s1 x1 b1 c1 t1 k → ¬ fpr s2 x2 b2 c2 t2 k) (hN : ∀ k, fpr s1 x1 b1 c1 t1 k → N ≤ k) (hw : N ≤ w.heap.size) (hs : SaN w w' d1 x1 b1 c1 s1 t1 A' r m) :
    ∃ s1' t1' l1', SA w' d1 x1 b1 c1 s1' t1' l1' A' r m ∧ SA w' d2 x2 b2 c2 s2 t2 l2 A2 r2 n2 ∧ (∀ k, fpr s1' x1 b1 c1 t1' k → ¬ fpr s2 x2 b2 c2 t2 k) ∧ (∀ k, fpr s1' x1 b1 c1 t1' k → N ≤ k) ∧ Below N w w' := by
  obtain ⟨s1', t1', l1', hg, ht, h3⟩ := hs
  refine ⟨s1', t1', l1', h3, h2.other h1 hg (fun k hk e => ha k e hk), fun k hk e => ?_, fun k hk => ?_, hg.lowN (fun k hk => hN k (hk.elim .inl (fun e => .inr (.inl e)))) hw⟩
  · rcases fpr_next hg ht hk with hk | hk
    · exact ha k hk e
    · have := h2.lt k e
      omega
  · rcases fpr_next hg ht hk with hk | hk
    · exact hN k hk
    · omega
theorem SaS.sn {w w' : World} {db xb sb cb : Nat} {s : PSt} {tb : Nat} {cl : List (List Nat)} {A : Sto} {r : Int} {n : Nat} (h : SaS w w' db xb sb cb s tb cl A r n) : SaN w w' db xb sb cb s tb A r n := ⟨s, tb, cl, h.1, .inl rfl, h.2⟩
theorem wrap_i64 (x : Int) : i64r (IntKind.i64.wrap x) := by
  unfold i64r IntKind.wrap
  simp [IntKind.bits, IntKind.signed]
  omega
theorem wrap64_i64 (x : Int) : i64r (Go.RowKit.wrap64 x) := by
  unfold i64r
  unfold Go.RowKit.wrap64
  omega
set_option maxHeartbeats 4000000 in
set_option maxRecDepth 100000 in
theorem refused_any (w : World) (oa : Option Addr) (cc : Nat) (l : List StepV) (v : Int) (hg : Gl w) (hl : StepsAt w.heap.size w oa l) (hn : l.length ≤ 262144) (hv : i64r v) :
    Calls Tryz.prog 3 #[.slice oa l.length cc, .int .i64 v] w fun e w' => e = .returned (.bool true) ∧ Below w.heap.size w w' := by
  have HBG := hide (begun_sa w hg)
  have HG := hide hg
  have HL := hide hl
  have HV := hide hv
  obtain ⟨N, hN⟩ : ∃ N, N = w.heap.size := ⟨_, rfl⟩
  rw [← hN] at HBG HL ⊢
  have HN := hide hN
  obtain ⟨q, hq⟩ : ∃ q, q = l.length := ⟨_, rfl⟩
  rw [← hq] at hn ⊢
  have HQ := hide hq
  clear hg hl hN hq hv
  go_enter Tryz.func3, Tryz.ntmps3
  go_wp2_with fail
  refine (HBG.out).mono ?_
  rintro _ w1 ⟨d1, x1, b1, c1, s1, t1, l1, rfl, hb1, hs1, hf1⟩
  dsimp only
  have hN1 : N ≤ w1.heap.size := by have := hb1.size; have := HN.out; omega
  have HB1 := hide hb1
  have HS1 := hide hs1
  have HF1 := hide hf1
  have HBG2 := hide (begun_sa w1 hs1.sw.gl)
  clear hb1 hs1 hf1 HBG
  go_wp2_with fail
  refine (HBG2.out).mono ?_
  rintro _ w2 ⟨d2, x2, b2, c2, s2, t2, l2, rfl, hb2, hs2, hf2⟩
  dsimp only
  have HB2 := hide (HB1.out.trans (hb2.mono hN1))
  have hN2 : N ≤ w2.heap.size := Nat.le_trans hN1 hb2.size
  have HTW := hide (show ∃ s1 t1 l1 s2 t2 l2 A, SA w2 d1 x1 b1 c1 s1 t1 l1 A 1099511627776 (0 + 3) ∧ SA w2 d2 x2 b2 c2 s2 t2 l2 A 1099511627776 (0 + 3) ∧ (∀ k, fpr s1 x1 b1 c1 t1 k → ¬ fpr s2 x2 b2 c2 t2 k) ∧ (∀ k, fpr s1 x1 b1 c1 t1 k → N ≤ k) ∧ (∀ k, fpr s2 x2 b2 c2 t2 k → N ≤ k) from ⟨s1, t1, l1, s2, t2, l2, A1, HS1.out.later hb2, hs2, fun k h1 h2 => by
    have := HS1.out.lt k h1
    have := hf2 k h2
    omega, HF1.out, fun k hk => Nat.le_trans hN1 (hf2 k hk)⟩)
  clear hb2 hs2 hf2 HBG2 HS1 HF1 HB1
  go_wp2_with fail
  go_loopw [9] (fun iv wr => ∃ (j : Nat), j ≤ q ∧ iv = .int .i64 ((j : Nat) : Int) ∧ Below N w wr ∧ N ≤ wr.heap.size ∧ ∃ s1 t1 l1 s2 t2 l2 A, SA wr d1 x1 b1 c1 s1 t1 l1 A 1099511627776 (j + 3) ∧ SA wr d2 x2 b2 c2 s2 t2 l2 A 1099511627776 (j + 3) ∧ (∀ k, fpr s1 x1 b1 c1 t1 k → ¬ fpr s2 x2 b2 c2 t2 k) ∧ (∀ k, fpr s1 x1 b1 c1 t1 k → N ≤ k) ∧ (∀ k, fpr s2 x2 b2 c2 t2 k → N ≤ k)) (fun iv _ => q - (intOf iv).toNat)
  case atStart => exact ⟨0, Nat.zero_le _, rfl, HB2.out, hN2, HTW.out⟩
  case round =>
    obtain ⟨j, hj, rfl, hb, hNr, s1, t1, l1, s2, t2, l2, A, h1, h2, ha, hf1, hf2⟩ := hrel
    have HB := hide hb
    have H1 := hide h1
    have H2 := hide h2
    have HA := hide ha
    have HF1 := hide hf1
    have HF2 := hide hf2
    clear h1 h2 ha hf1 hf2 hb
    by_cases hlt : j < q
    · have hjl : j < l.length := by rw [← HQ.out]; exact hlt
      obtain ⟨b, o, rfl, hbN, hrg, hok⟩ := (HL.out.low HB.out.block) j hjl
      have HRG := hide (show ∀ W : World, Below N wr W → W.rangeAt b (o + j * 3) (l.getD j step0).cells from fun W hW i x hx => (World.cell?_of_block (a := ⟨b, o + j * 3 + i, none⟩) (hW.block b hbN)).trans (hrg i x hx))
      generalize l.getD j step0 = t at HRG hok
      obtain ⟨K, M, B⟩ := t
      obtain ⟨okK, okM, okB⟩ := hok
      have HD1 := hide (does_any H1.out (by omega) K M B okK okM okB)
      have HD2 := hide (fun (W : World) (hW : SA W d2 x2 b2 c2 s2 t2 l2 A 1099511627776 (j + 3)) => does_any hW (by omega) K M B okK okM okB)
      generalize (dsPl A K M B).run 1099511627776 A = X at HD1 HD2
      obtain ⟨X1, X2, X3⟩ := X
      dsimp only at HD1 HD2
      have hi31 : (Tryz.prog.info? 31).map (·.size) = some ([.int .i64 K, .int .i64 M, .int .i64 B] : List Value).length := by show _ = some 3; kernel_rfl
      have HR0 := hide (show wr.rangeAt b (o + j * 3) [.int .i64 K, .int .i64 M, .int .i64 B] from HRG.out wr (Below.refl _ _))
      have d9 : decide (((j : Nat) : Int) < ((q : Nat) : Int)) = true := decide_eq_true (by omega)
      clear hrg hjl
      go_wp2_with (refine wpList_load_mid rfl 31 _ rfl b (o + j * 3) rfl [.int .i64 K, .int .i64 M, .int .i64 B] _ HR0.out Tryz.underlying31 rfl hi31 ?_)
      refine (HD1.out).mono ?_
      rintro _ w3 ⟨rfl, hsn⟩
      dsimp only
      obtain ⟨s3, t3, l3, h31, h32, ha3, hf3, hb3⟩ := step_one H1.out H2.out HA.out HF1.out hNr hsn
      have HD3 := hide (HD2.out w3 h32)
      have HR3 := hide (show w3.rangeAt b (o + j * 3) [.int .i64 K, .int .i64 M, .int .i64 B] from HRG.out w3 hb3)
      have H31 := hide h31
      have H32 := hide h32
      have HA3 := hide ha3
      have HF3 := hide hf3
      have HB3 := hide (HB.out.trans hb3)
      have hN3 : N ≤ w3.heap.size := Nat.le_trans hNr hb3.size
      clear hsn h31 h32 ha3 hf3 hb3 HD1 HD2 H1 H2 HA HF1 HB HR0
      go_wp2_with (refine wpList_load_mid rfl 31 _ rfl b (o + j * 3) rfl [.int .i64 K, .int .i64 M, .int .i64 B] _ HR3.out Tryz.underlying31 rfl hi31 ?_)
      refine (HD3.out).mono ?_
      rintro _ w4 ⟨rfl, hsn⟩
      dsimp only
      obtain ⟨s4, t4, l4, h41, h42, ha4, hf4, hb4⟩ := step_one H32.out H31.out (fun k hk e => HA3.out k e hk) HF2.out hN3 hsn
      have H41 := hide h41
      have H42 := hide h42
      have HA4 := hide ha4
      have HF4 := hide hf4
      have HB4 := hide (HB3.out.trans hb4)
      have hN4 : N ≤ w4.heap.size := Nat.le_trans hN3 hb4.size
      clear hsn h41 h42 ha4 hf4 hb4 HD3 H31 H32 HA3 HB3 HR3 HRG
      go_wp2_with fail
      obtain ⟨x9, hx9⟩ : ∃ x9, x9 = Go.RowKit.wrap64 (v + (j : Int)) := ⟨_, rfl⟩
      rw [← hx9]
      have hx8 : i64r x9 := by rw [hx9]; exact wrap64_i64 _
      have HWR := hide (saWrong H41.out x9 hx8)
      clear hx9 hx8
      refine (HWR.out).mono ?_
      rintro _ w5 ⟨rfl, hss⟩
      dsimp only
      obtain ⟨s5, t5, l5, h51, h52, ha5, hf5, hb5⟩ := step_one H41.out H42.out HA4.out HF4.out hN4 hss.sn
      have H51 := hide h51
      have H52 := hide h52
      have HA5 := hide ha5
      have HF5 := hide hf5
      have HB5 := hide (HB4.out.trans hb5)
      have hN5 : N ≤ w5.heap.size := Nat.le_trans hN4 hb5.size
      clear hss h51 h52 ha5 hf5 hb5 HWR H41 H42 HA4 HF4 HB4
      go_wp2_with fail
      exact ⟨⟨j + 1, by omega, by simp, HB5.out, hN5, s3, t3, l3, s5, t5, l5, X3, H52.out, H51.out, fun k hk e => HA5.out k e hk, HF3.out, HF5.out⟩, by simp only [intOf]; omega⟩
    · have d9 : decide (((j : Nat) : Int) < ((q : Nat) : Int)) = false := decide_eq_false (by omega)
      have hj3 : j + 3 ≤ 300000 := by omega
      go_wp2_with fail
      have HWR := hide (saWrong H2.out v HV.out)
      refine (HWR.out).mono ?_
      rintro _ w5 ⟨rfl, hss⟩
      dsimp only
      obtain ⟨s5, t5, l5, h51, h52, ha5, hf5, hb5⟩ := step_one H2.out H1.out (fun k hk e => HA.out k e hk) HF2.out hNr hss.sn
      have HB5 := hide (HB.out.trans hb5)
      have hN5 : N ≤ w5.heap.size := Nat.le_trans hNr hb5.size
      have HSH := hide (saShown h52 hj3)
      have H51 := hide h51
      have H52 := hide h52
      have HA5 := hide ha5
      have HF5 := hide hf5
      clear hss h51 h52 ha5 hf5 hb5 HWR H1 H2 HA HB
      generalize hSH : shA A = SH at HSH
      go_wp2_with fail
      refine (HSH.out).mono ?_
      rintro _ w6 ⟨rfl, hg6, hs6⟩
      dsimp only
      obtain ⟨s6, t6, l6, h61, h62, ha6, hf6, hb6⟩ := step_one H52.out H51.out (fun k hk e => HA5.out k e hk) HF1.out hN5 (show SaN _ w6 _ _ _ _ _ _ A _ _ from ⟨s1, t1, l1, hg6, .inl rfl, hs6⟩)
      have HB6 := hide (HB5.out.trans hb6)
      have hN6 : N ≤ w6.heap.size := Nat.le_trans hN5 hb6.size
      have HSH2 := hide (saShown h62 hj3)
      rw [hSH] at HSH2
      have H61 := hide h61
      have H62 := hide h62
      have HA6 := hide ha6
      have HF6 := hide hf6
      clear hg6 hs6 h61 h62 ha6 hf6 hb6 HSH H51 H52 HA5 HB5 hSH
      go_wp2_with fail
      refine (HSH2.out).mono ?_
      rintro _ w7 ⟨rfl, hg7, hs7⟩
      dsimp only
      obtain ⟨s7, t7, l7, h71, h72, ha7, hf7, hb7⟩ := step_one H62.out H61.out (fun k hk e => HA6.out k e hk) HF5.out hN6 (show SaN _ w7 _ _ _ _ _ _ A _ _ from ⟨s5, t5, l5, hg7, .inl rfl, hs7⟩)
      have HB7 := hide (HB6.out.trans hb7)
      have hN7 : N ≤ w7.heap.size := Nat.le_trans hN6 hb7.size
      have HHD := hide (saHeld h72 hj3)
      generalize hHF : hF (fA A) = HFt at HHD
      have H71 := hide h71
      have H72 := hide h72
      have HA7 := hide ha7
      have HF7 := hide hf7
      clear hg7 hs7 h71 h72 ha7 hf7 hb7 HSH2 H61 H62 HA6 HB6
      go_wp2_with fail
      refine (HHD.out).mono ?_
      rintro _ w8 ⟨rfl, hg8, hs8⟩
      dsimp only
      obtain ⟨s8, t8, l8, h81, h82, ha8, hf8, hb8⟩ := step_one H72.out H71.out (fun k hk e => HA7.out k e hk) HF6.out hN7 (show SaN _ w8 _ _ _ _ _ _ A _ _ from ⟨s6, t6, l6, hg8, .inl rfl, hs8⟩)
      have HB8 := hide (HB7.out.trans hb8)
      have hN8 : N ≤ w8.heap.size := Nat.le_trans hN7 hb8.size
      have HHD2 := hide (saHeld h82 hj3)
      rw [hHF] at HHD2
      have H82 := hide h82
      clear hg8 hs8 h81 h82 ha8 hf8 hb8 HHD H71 H72 HA7 HB7 hHF
      go_wp2_with fail
      refine (HHD2.out).mono ?_
      rintro _ w9 ⟨rfl, hg9, hs9⟩
      dsimp only
      have hb9 : Below N w8 w9 := hg9.lowN (fun k hk => HF7.out k (hk.elim .inl (fun e => .inr (.inl e)))) hN8
      have HB9 := hide (HB8.out.trans hb9)
      clear hg9 hs9 hb9 HHD2 H82 HB8
      go_wp2_with fail
      go_ret
      exact ⟨rfl, HB9.out⟩
end Go.Proofs.YtncigfibncmioaaGreatDoor
