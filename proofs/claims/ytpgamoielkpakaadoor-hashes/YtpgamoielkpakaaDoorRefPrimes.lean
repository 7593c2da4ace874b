/-
  PROVED HERE: what the document's answer's function primes answers when it is asked for 64 of them: nothing that was there has turned.
-/
import Derived.Test.YtpgamoielkpakaaDoorRefTimes
namespace Go.Proofs.YtpgamoielkpakaaDoor
open Go.RowKit
theorem primesTo_ge (f j : Nat) (hj : j < (Sha.primesTo f).length) : 2 ≤ (Sha.primesTo f).getD j 0 ∧ (Sha.primesTo f).getD j 0 ≤ f + 1 := by
  induction f with
  | zero => simp [Sha.primesTo] at hj
  | succ f ih =>
    simp only [Sha.primesTo] at hj ⊢
    split
    · next h =>
      rw [if_pos h] at hj
      by_cases e : j < (Sha.primesTo f).length
      · have := ih e
        rw [List.getD_eq_getElem?_getD, List.getElem?_append_left e, ← List.getD_eq_getElem?_getD]
        omega
      · have : j = (Sha.primesTo f).length := by simp at hj; omega
        subst this
        simp
    · next h =>
      rw [if_neg h] at hj
      have := ih hj
      omega
theorem all_take (L : List Nat) (n j : Nat) (hj : j < L.length) : (L.take (j + 1)).all (fun q => n % q != 0) = ((L.take j).all (fun q => n % q != 0) && (n % L.getD j 0 != 0)) := by
  rw [List.take_succ_eq_append_getElem hj, List.all_append, List.getD_eq_getElem?_getD, List.getElem?_eq_getElem hj]
  simp
theorem emod_nat (f q : Nat) : ((f : Int) + 2) % (q : Int) = (((f + 2) % q : Nat) : Int) := by
  rw [Int.natCast_emod]
  rfl
theorem OwnI.isNil {w : World} {B : Nat} {v : Value} {l : List Nat} (h : OwnI w B v l) (hl : l = []) : v = .slice none 0 0 ∨ ∃ g cap, v = .slice (some ⟨g, 0, none⟩) 0 cap := by
  subst hl
  rcases h.2 with ⟨hv, _⟩ | ⟨g, cap, _, hv, _⟩
  · exact Or.inl hv
  · exact Or.inr ⟨g, cap, hv⟩
theorem primes_short (f : Nat) (hf : f ≤ 310) : ((Sha.primesTo f).length < 64 ↔ f < 310) := by
  constructor
  · intro h
    by_cases e : f = 310
    · subst e; have := Sha.primes_310; omega
    · omega
  · intro h
    have := Sha.primesTo_mono f 309 (by omega)
    have := Sha.primes_309
    omega
set_option maxHeartbeats 1000000 in
set_option maxRecDepth 100000 in
theorem primes_core (w : World) (F : Nat → List Nat) (hF : ∀ f, F f = Sha.primesTo f) :
    Calls Tryd.prog 19 #[.int .i64 64] w fun e w' => ∃ v, e = .returned v ∧ OwnI w' w.heap.size v (F 310) ∧ Below w.heap.size w w' := by
  obtain ⟨i0, hi, hz0, hz1, hz2⟩ := info_parts Tryd.info3
  have HSH : Hid (∀ f, f ≤ 310 → ((F f).length < 64 ↔ f < 310)) := by intro f hf; rw [hF]; exact primes_short f hf
  have HGE : Hid (∀ f j, j < (F f).length → 2 ≤ (F f).getD j 0 ∧ (F f).getD j 0 ≤ f + 1) := by intro f j; rw [hF]; exact primesTo_ge f j
  have HNX : Hid (∀ f, F (f + 1) = if (F f).all (fun q => (f + 2) % q != 0) then F f ++ [f + 2] else F f) := by intro f; rw [hF, hF]; rfl
  have HZ : Hid (∀ P : List Nat → Prop, P [] → P (F 0)) := by intro P hP; rw [hF]; exact hP
  have HMAX : Hid (∀ f, f ≤ 310 → (F f).length ≤ 64) := by
    intro f hf
    rw [hF]
    have := Sha.primesTo_mono f 310 hf
    have := Sha.primes_310
    omega
  clear hF
  go_enter Tryd.func19, Tryd.ntmps19
  go_wp2
  go_loopw [3, 4] (fun v i wr => ∃ f : Nat, f ≤ 310 ∧ i = .int .i64 ((f : Int) + 2) ∧ OwnI wr w.heap.size v (F f) ∧ Below w.heap.size w wr)
    (fun _ i _ => 312 - (intOf i).toNat)
  case atStart => exact ⟨0, by omega, rfl, HZ.out (fun l => OwnI w w.heap.size (.slice none 0 0) l) (OwnI.nil _ _), Below.refl _ _⟩
  case round =>
    obtain ⟨f, hf, rfl, hown, hb⟩ := hrel
    have hsz := hb.size
    have hiff := HSH.out f hf
    have hmax := HMAX.out f hf
    have HG : Hid (∀ j, j < (F f).length → 2 ≤ (F f).getD j 0 ∧ (F f).getD j 0 ≤ f + 1) := HGE.out f
    have HN : Hid (F (f + 1) = if (F f).all (fun q => (f + 2) % q != 0) then F f ++ [f + 2] else F f) := HNX.out f
    have HD : Hid (f = 310 → F f = F 310) := fun h => by rw [h]
    obtain ⟨L, hL⟩ : ∃ L, L = F f := ⟨_, rfl⟩
    rw [← hL] at hown hiff hmax HG HN HD
    clear hL HSH HGE HNX HZ HMAX
    obtain ⟨F1, hF1⟩ : ∃ F1, F1 = F (f + 1) := ⟨_, rfl⟩
    have HF1 : Hid (∀ P : List Nat → Prop, P F1 → P (F (f + 1))) := fun P hP => by rw [← hF1]; exact hP
    rw [← hF1] at HN
    clear hF1
    by_cases h0 : L.length = 0
    · have hnil : L = [] := List.eq_nil_of_length_eq_zero h0
      have hvn := hown.isNil hnil
      subst hnil
      obtain ⟨a0, c0, hv⟩ : ∃ a0 c0, u3 = Value.slice a0 0 c0 := by
        rcases hvn with h | ⟨g, cap, h⟩
        · exact ⟨none, 0, h⟩
        · exact ⟨some ⟨g, 0, none⟩, cap, h⟩
      subst hv
      clear hvn
      have hf2 : f < 310 := hiff.1 (by simp)
      have HF2 : Hid (F1 = [f + 2]) := by show F1 = _; rw [HN.out]; rfl
      clear hiff HD HN HG hmax h0
      go_wp2
      go_loop [5, 6] (fun b i => b = .bool true ∧ i = .int .i64 0) (fun _ _ => 0)
      case atStart => exact ⟨rfl, rfl⟩
      case round =>
        obtain ⟨rfl, rfl⟩ := hrel
        go_wp2_with (at_builtin; refine wpList_append_ownI _ rfl (.tmp 27) (.tmp 29) 32 rfl i0 Tryd.underlying32 hi hz0 hz1 hz2 w.heap.size _ [] rfl (hown.alloc _) (by simp; omega) ⟨wr.heap.size, 0, none⟩ 1 _ (f + 2) rfl (oneI _ _ _) (by omega) (by simp) ?_; intro v2 w2 hown2 hb2)
        go_wp2
        go_roundw
        case rel => exact ⟨f + 1, by omega, by go_num, HF1.out (fun l => OwnI w2 w.heap.size v2 l) (by rw [HF2.out]; exact hown2), (hb.alloc hsz _).trans hb2⟩
        case measure => simp [intOf]; omega
    · obtain ⟨g, cap, hv, hBg, hgs, hcell⟩ := hown.shape (by omega)
      subst hv
      have HC := hide hcell
      clear hcell
      by_cases hlt : L.length < 64
      · have hd : decide ((L.length : Int) < 64) = true := by simp; omega
        have hf2 : f < 310 := hiff.1 hlt
        clear hiff HD
        go_wp2
        go_loop [5, 6] (fun b i => ∃ j : Nat, j ≤ L.length ∧ i = .int .i64 ((j : Nat) : Int) ∧ b = .bool ((L.take j).all (fun q => (f + 2) % q != 0))) (fun _ i => L.length - (intOf i).toNat)
        case atStart => exact ⟨0, Nat.zero_le _, rfl, by simp⟩
        case round =>
          obtain ⟨j, hj, rfl, rfl⟩ := hrel
          by_cases hjl : j < L.length
          · have hcj := HC.out j hjl
            have hge := HG.out j hjl
            have hall := all_take L (f + 2) j hjl
            obtain ⟨q, hq⟩ : ∃ q, q = L.getD j 0 := ⟨_, rfl⟩
            rw [← hq] at hcj hge hall
            have hq2 := hge.1
            have hq3 := hge.2
            clear hq hge
            generalize ha1 : (L.take (j + 1)).all (fun q => (f + 2) % q != 0) = a1 at hall
            generalize ha0 : (L.take j).all (fun q => (f + 2) % q != 0) = a0 at hall ⊢
            have HA1 : Hid (∀ P : Bool → Prop, P a1 → P ((L.take (j + 1)).all (fun q => (f + 2) % q != 0))) := fun P hP => by rw [ha1]; exact hP
            clear ha1 ha0
            have hqi : (2 : Int) ≤ (q : Int) := by omega
            have hem := emod_nat f q
            by_cases hz : (f + 2) % q = 0
            · have ht : (((f : Int) + 2) % (q : Int) == 0) = true := by rw [hem, hz]; rfl
              have ha : Hid (a1 = false) := by show a1 = false; rw [hall]; simp [hz]
              clear hall hz hem
              go_wp2
              go_round
              case rel => exact ⟨j + 1, by omega, by go_num, HA1.out (fun x => Value.bool false = .bool x) (by rw [ha.out])⟩
              case measure => simp [intOf]; omega
            · have ht : (((f : Int) + 2) % (q : Int) == 0) = false := by rw [hem]; simp; omega
              have ha : Hid (a1 = a0) := by show a1 = a0; rw [hall]; simp [hz]
              clear hall hz hem
              go_wp2
              go_round
              case rel => exact ⟨j + 1, by omega, by go_num, HA1.out (fun x => Value.bool a0 = .bool x) (by rw [ha.out])⟩
              case measure => simp [intOf]; omega
          · have hta : L.take j = L := List.take_of_length_le (by omega)
            rw [hta]
            generalize hal : L.all (fun q => (f + 2) % q != 0) = al at HN ⊢
            clear hta hal HC HG
            cases al
            · have HF2 : Hid (F1 = L) := by show F1 = L; rw [HN.out]; rfl
              go_wp2
              go_roundw
              case rel => exact ⟨f + 1, by omega, by go_num, HF1.out (fun l => OwnI wr w.heap.size _ l) (by rw [HF2.out]; exact hown), hb⟩
              case measure => simp [intOf]; omega
            · have HF2 : Hid (F1 = L ++ [f + 2]) := by show F1 = _; rw [HN.out]; rfl
              go_wp2_with (at_builtin; refine wpList_append_ownI _ rfl (.tmp 27) (.tmp 29) 32 rfl i0 Tryd.underlying32 hi hz0 hz1 hz2 w.heap.size _ L rfl (hown.alloc _) (by simp; omega) ⟨wr.heap.size, 0, none⟩ 1 _ (f + 2) rfl (oneI _ _ _) (by omega) (by omega) ?_; intro v2 w2 hown2 hb2)
              go_wp2
              go_roundw
              case rel => exact ⟨f + 1, by omega, by go_num, HF1.out (fun l => OwnI w2 w.heap.size v2 l) (by rw [HF2.out]; exact hown2), (hb.alloc hsz _).trans hb2⟩
              case measure => simp [intOf]; omega
      · have hf3 : f = 310 := by
          have : ¬ f < 310 := fun h => hlt (hiff.2 h)
          omega
        have HE : Hid (L = F 310) := HD.out hf3
        clear hiff HD
        go_wp2
        go_ret
        exact ⟨_, rfl, by rw [← HE.out]; exact hown, hb⟩
theorem primes_any (w : World) : Calls Tryd.prog 19 #[.int .i64 64] w fun e w' => ∃ v, e = .returned v ∧ OwnI w' w.heap.size v (Sha.primesTo 310) ∧ Below w.heap.size w w' :=
  primes_core w Sha.primesTo (fun _ => rfl)
end Go.Proofs.YtpgamoielkpakaaDoor
