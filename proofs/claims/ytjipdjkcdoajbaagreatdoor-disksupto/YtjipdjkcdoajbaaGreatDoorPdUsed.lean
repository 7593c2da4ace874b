/-
  PROVED HERE: what the program's own Used of disks answers: a range over a map, in whatever order.
-/
import Derived.Test.YtjipdjkcdoajbaaGreatDoorPdSync
namespace Go.Proofs.YtjipdjkcdoajbaaGreatDoor
open Go.RowKit
/-- How a pointer reads that is not nil. -/
def ptrRd1 : Value → Option (DataW Unit × List MemPlace)
  | .pointer (some ⟨b, 0, none⟩) => some (.lit (.int .i64 (b : Int)), [])
  | _ => none
theorem ptrRd1_inv {v : Value} {z : DataW Unit × List MemPlace} (h : ptrRd1 v = some z) : ∃ b : Nat, v = .pointer (some ⟨b, 0, none⟩) := by
  unfold ptrRd1 at h
  split at h
  · exact ⟨_, rfl⟩
  · cases h
theorem ptrRd1_of (b : Nat) : ptrRd1 (.pointer (some ⟨b, 0, none⟩)) = some (.lit (.int .i64 (b : Int)), []) := rfl
theorem PM.strict {P : Program} {k : TypeId} {w : World} {b : Nat} {l : List DE} (h : PM P k w b l) : w.ownsMap P k ptrRd1 b l.length (dOf l) := by
  obtain ⟨es, clock, hb, F, hs, hD⟩ := h
  have hst : ∀ x ∈ es.toList, ∀ z, ptrRd x.val = some z → ptrRd1 x.val = some z := by
    intro x hx z hz
    obtain ⟨y, hy⟩ := F.reads x hx
    have hm : WideElems.rg P k ptrRd x ∈ l.map dE := by
      have : WideElems.rg P k ptrRd x ∈ (es.toList.map (WideElems.rg P k ptrRd)).foldr DataW.insert [] := mem_sorted.2 (List.mem_map.2 ⟨x, hx, rfl⟩)
      injection hD with hD
      rw [hD]; exact this
    rw [WideElems.rg_of hy] at hm
    obtain ⟨e, _, he⟩ := List.mem_map.1 hm
    obtain ⟨z', hz', hyz⟩ := WideElems.rd_val hy
    rw [hz] at hz'
    injection hz' with hz'
    subst hz'
    rcases ptrRd_inv hz with ⟨_, e2⟩ | ⟨b', e1, e2⟩
    · rw [e2, ← he] at hyz
      cases hyz
    · rw [e1, e2]; rfl
  obtain ⟨F1, hmap, _⟩ := F.stay hst
  exact ⟨es, clock, hb, F1, hs, by rw [hmap]; exact hD⟩
theorem next_find {l : List DE} {x : ByteArray} {f : Nat} {d : DataW Unit} (hat : ∀ zd, (dOf l).atKey (kOf x) zd = d) (hd : d = .lit (.int .i64 (f : Int))) : findE x l = some f := by
  have h1 := hat .nil
  rw [dOf_at, hd] at h1
  cases hf : findE x l with
  | none => rw [hf] at h1; cases h1
  | some g =>
    rw [hf] at h1
    simp only [ptrD, DataW.lit.injEq, Lit.int.injEq, true_and] at h1
    have : g = f := by omega
    rw [this]
/-- The bytes of the files that have come already. -/
def usedL (fd : Nat → ByteArray × Int) (left : Lit → Bool) : List DE → Nat
  | [] => 0
  | e :: es => (if left (kOf e.path) then 0 else (fd e.blk).1.size) + usedL fd left es
theorem usedL_none (fd : Nat → ByteArray × Int) (left : Lit → Bool) : ∀ l : List DE, (∀ k, left k = false) → usedL fd left l = usedE fd l
  | [], _ => rfl
  | e :: es, h => by unfold usedL usedE; rw [h, usedL_none fd left es h]; simp
theorem usedL_all (fd : Nat → ByteArray × Int) (left : Lit → Bool) : ∀ l : List DE, (∀ e ∈ l, left (kOf e.path) = true) → usedL fd left l = 0
  | [], _ => rfl
  | e :: es, h => by unfold usedL; rw [h e (by simp), usedL_all fd left es (fun x hx => h x (by simp [hx]))]; simp
theorem usedL_le (fd : Nat → ByteArray × Int) (left : Lit → Bool) : ∀ l : List DE, usedL fd left l ≤ usedE fd l
  | [] => Nat.le_refl _
  | e :: es => by
    unfold usedL usedE
    have := usedL_le fd left es
    split <;> omega
theorem usedL_off (fd : Nat → ByteArray × Int) (left : Lit → Bool) (x : ByteArray) : ∀ l : List DE, (∀ e ∈ l, e.path ≠ x) → usedL fd (fun z => left z && !z.sameKey (kOf x)) l = usedL fd left l
  | [], _ => rfl
  | e :: es, h => by
    unfold usedL
    rw [usedL_off fd left x es (fun y hy => h y (by simp [hy]))]
    have : (kOf e.path).sameKey (kOf x) = false := by rw [kOf_same]; exact decide_eq_false (h e (by simp))
    simp [this]
theorem usedL_step (fd : Nat → ByteArray × Int) (left : Lit → Bool) (x : ByteArray) (f : Nat) (hx : left (kOf x) = true) : ∀ l : List DE, Rise l → findE x l = some f → usedL fd (fun z => left z && !z.sameKey (kOf x)) l = usedL fd left l + (fd f).1.size
  | [], _, h => by cases h
  | e :: es, hr, h => by
    obtain ⟨h1, h2⟩ := List.pairwise_cons.1 hr
    unfold findE at h
    unfold usedL
    by_cases he : e.path = x
    · rw [if_pos he] at h
      injection h with h
      rw [usedL_off fd left x es (fun y hy hyx => by have := h1 y hy; rw [hyx, he, less_irrefl] at this; cases this)]
      have e1 : (kOf e.path).sameKey (kOf x) = true := by rw [kOf_same]; exact decide_eq_true he
      rw [he] at e1
      simp only [he, hx, e1, h]
      simp
      omega
    · rw [if_neg he] at h
      rw [usedL_step fd left x f hx es h2 h]
      have e1 : (kOf e.path).sameKey (kOf x) = false := by rw [kOf_same]; exact decide_eq_false he
      simp [e1]
      omega
theorem has_path {l : List DE} {e : DE} (h : e ∈ l) : Maps.has (dOf l) (kOf e.path) = true := by
  show (l.map dE).any _ = true
  rw [List.any_eq_true]
  exact ⟨dE e, List.mem_map.2 ⟨e, h, rfl⟩, by show (kOf e.path).sameKey (kOf e.path) = true; rw [kOf_same]; simp⟩
theorem str_inv {P : Program} {k : TypeId} (hk : P.underlying k = some .string) {key : Value} {kl : Lit} (h : keyOf P k key = some kl) : ∃ x : ByteArray, key = .string x := by
  obtain ⟨s, e, _⟩ := WideMaps.string_of_keyOf hk h; exact ⟨s, e⟩
theorem str_key {P : Program} {k : TypeId} (hk : P.underlying k = some .string) {x : ByteArray} {kl : Lit} (h : keyOf P k (.string x) = some kl) : kl = kOf x := by
  obtain ⟨s, e, e2, _⟩ := WideMaps.string_of_keyOf hk h
  injection e with e
  rw [e2, e]; rfl
set_option maxHeartbeats 2000000 in
set_option maxRecDepth 100000 in
theorem pused_any (s : PSt) (w : World) (h : s.In w) (hu : usedE s.fd s.R.now ≤ 1000000000000) :
    Calls Tryz.prog 51 #[.pointer (some ⟨s.b, 0, none⟩)] w fun e w' => e = .returned (.int .i64 ((usedE s.fd s.R.now : Nat) : Int)) ∧ Below w.heap.size w w' := by
  have c1 : w.cell? ⟨s.b, 1, none⟩ = some (.map (some s.mb)) := cell_of_row _ _ 1 _ _ _ h.is.blk
  have H := hide h
  have HM := hide h.is.now.strict
  have HR := hide (h.is.now.rise (Maps.string_keyed Tryz.underlying9))
  have hml := h.is.now.lt
  clear h
  go_enter Tryz.func51, Tryz.ntmps51
  go_wp2_with (at_range; refine wpList_range_own _ rfl _ 88 rfl 9 92 (Maps.string_keyed Tryz.underlying9) Tryz.underlying88 ptrRd1 s.mb s.R.now.length (dOf s.R.now) rfl HM.out ?_; intro w0 hrg0 hg0 hs0)
  go_frame
  have HRG := hide hrg0
  have hB0 : Below w.heap.size w w0 := ⟨hg0.os, hg0.tape, hg0.output, hg0.size, fun k hk => hg0.block k hk (by simp)⟩
  have HB0 := hide hB0
  clear hrg0 hg0 hB0
  go_loopw [3] (fun uv wr => ∃ left cnt, wr.ranges Tryz.prog 9 ptrRd1 s.mb w.heap.size s.R.now.length (dOf s.R.now) left cnt ∧ Below w.heap.size w wr ∧ w.heap.size + 1 ≤ wr.heap.size ∧ uv = .int .i64 ((usedL s.fd left s.R.now : Nat) : Int)) (fun _ wr => wr.rangeLeft s.mb w.heap.size)
  case atStart => exact ⟨_, _, HRG.out, HB0.out, by omega, by rw [usedL_all _ _ _ (fun e he => has_path he)]; rfl⟩
  case round =>
    obtain ⟨left, cnt, hrg, hb, hsz, rfl⟩ := hrel
    have hle := usedL_le s.fd left s.R.now
    have HB := hide hb
    have HRGR := hide hrg
    clear hb
    go_wp2_with (at_next; refine wpList_next_ranges _ rfl _ rfl 9 (Maps.string_keyed Tryz.underlying9) ptrRd1 Value.string (fun f : Nat => Value.pointer (some ⟨f, 0, none⟩)) (fun key kl hkey => str_inv Tryz.underlying9 hkey) (fun v y hv => ptrRd1_inv hv) s.mb w.heap.size _ _ _ _ rfl HRGR.out ?_ ?_)
    · intro _ hl0
      have hval := usedL_none s.fd left s.R.now hl0
      rw [hval]
      clear hrg hl0 hval
      go_wp2_with fail
      go_ret
      exact ⟨rfl, HB.out⟩
    · intro x f kl d ps w1 cnt1 hkey hlk hv hat hrg1 hlt hg1 hs1 hen
      have hkl := str_key Tryz.underlying9 hkey
      subst hkl
      rw [ptrRd1_of] at hv
      injection hv with hv
      injection hv with hd _
      have hfe : findE x s.R.now = some f := next_find hat hd.symm
      have hfm : f ∈ s.fs := by
        obtain ⟨e, he, hbe⟩ := findE_mem hfe
        rw [← hbe]; exact H.out.inow e he
      have hb1 : Below w.heap.size w w1 := HB.out.grown hg1 (by omega) (fun k hk => by injection hk with hk; omega)
      have hfd := (H.out.later hb1).fds f hfm
      obtain ⟨o, cap, hfv, _, _⟩ := hfd.shape
      have f0 : w1.cell? ⟨f, 0, none⟩ = some (s.fv f) := cell_of_row _ _ 0 _ _ _ hfd.blk
      rw [hfv] at f0
      have hst := usedL_step s.fd left x f hlk s.R.now HR.out hfe
      have hle1 := usedL_le s.fd (fun z => left z && !z.sameKey (kOf x)) s.R.now
      rw [hst] at hle1
      have HST := hide hst
      have HB1 := hide hb1
      have HRG1 := hide hrg1
      have HLT := hide hlt
      have hsz1 : w.heap.size + 1 ≤ w1.heap.size := by omega
      have hsum : ((usedL s.fd left s.R.now : Nat) : Int) + (((s.fd f).1.size : Nat) : Int) = ((usedL s.fd left s.R.now + (s.fd f).1.size : Nat) : Int) := by omega
      have HSUM := hide hsum
      clear hrg hkey hlk hat hrg1 hlt hg1 hd hfe hfm hb1 hfd hfv hst hsum
      go_wp2_with fail
      go_roundw
      case rel => exact ⟨_, cnt1, HRG1.out, HB1.out, hsz1, by rw [HST.out, HSUM.out]⟩
      case measure => rw [HRG1.out.left_eq, HRGR.out.left_eq]; exact HLT.out
end Go.Proofs.YtjipdjkcdoajbaaGreatDoor
