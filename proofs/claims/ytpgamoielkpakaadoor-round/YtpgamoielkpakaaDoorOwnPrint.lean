/-
  PROVED HERE: what the program's function Print of package blobs answers for every list of entries: the index's text, or that it is none; nothing that was there has turned.
-/
import Derived.Test.YtpgamoielkpakaaDoorPrint
namespace Go.Proofs.YtpgamoielkpakaaDoor
open Go.RowKit
/-- The answer's text and error. -/
def pText (l : List Tg) : ByteArray := if indexB l then ⟨(prTo l l.length ++ [93, 125]).toArray⟩ else ⟨#[]⟩
def pErr (l : List Tg) : Int := if indexB l then 0 else 5
theorem good_facts {l : List Tg} (h : indexB l = true) : l.length ≤ 8 ∧ ∀ k, k < l.length → (l.getD k default).name.size ≤ 20 ∧ 0 ≤ (l.getD k default).size ∧ (l.getD k default).size ≤ 300 := by
  unfold indexB at h
  simp only [Bool.and_eq_true, decide_eq_true_iff] at h
  refine ⟨h.1, fun k hk => ?_⟩
  have := h.2 k hk
  unfold goodB at this
  simp only [Bool.and_eq_true, decide_eq_true_iff] at this
  refine ⟨?_, this.2.2.2.1, this.2.2.2.2⟩
  have h2 := this.2.1
  unfold isTagB at h2
  simp only [Bool.and_eq_true, decide_eq_true_iff] at h2
  exact h2.1.1.2
set_option maxHeartbeats 1000000 in
set_option maxRecDepth 100000 in
theorem ownPrint_any (oa : Option Addr) (ca : Nat) (l : List Tg) (w : World) (ha : TagsAt w oa l) (hsz : ∀ i, (l.getD i default).name.size ≤ 9223372036854775807) (htab : Lib.TabIs Tryd.prog w "internal/strconv.uint64pow10" .u64 Lib.pow10Tab) :
    Calls Tryd.prog 9 #[.slice oa l.length ca] w fun e w' => e = .returned (.tuple #[.string (pText l), .int .i64 (pErr l)]) ∧ Below w.heap.size w w' := by
  have HC := hide (check_any oa ca l w ha hsz)
  have HT := hide htab
  clear ha hsz htab
  generalize hn : l.length = n at HC
  have HN := hide hn
  clear hn
  go_enter Tryd.func9, Tryd.ntmps9
  go_wp2_with fail
  refine HC.out.mono ?_
  rintro e w1 ⟨hb1, h⟩
  rcases h with ⟨hi, v, rfl, hown⟩ | ⟨hi, rfl⟩
  · dsimp only
    obtain ⟨h8, hl⟩ := good_facts hi
    have hp := print_core v l w1 n HN.out (by rw [← HN.out]; exact h8) w.heap.size hown (by rw [HN.out] at hl; exact hl) (tab_later gPow (tab_lt gPow HT.out) HT.out hb1)
    have HP := hide hp
    have e1 : pText l = ⟨(prTo l n ++ [93, 125]).toArray⟩ := by unfold pText; rw [hi, HN.out]; rfl
    have e2 : pErr l = 0 := by unfold pErr; rw [hi]; rfl
    have H12 := hide (And.intro e1 e2)
    clear hp e1 e2 hown hl h8
    go_wp2_with (go_at_call 25; refine HP.out.mono ?_; rintro _ w2 ⟨rfl, hb2⟩)
    (try simp only [Exit.inBlock, Exit.then])
    refine bodyPost_ret (results_tmp2 rfl _ _ _) rfl ?_
    refine ⟨?_, hb1.trans (hb2.mono hb1.size)⟩
    rw [H12.out.1, H12.out.2]
    rfl
  · dsimp only
    have e1 : pText l = ⟨#[]⟩ := by unfold pText; rw [hi]; rfl
    have e2 : pErr l = 5 := by unfold pErr; rw [hi]; rfl
    have H12 := hide (And.intro e1 e2)
    clear e1 e2
    go_wp2
    (try simp only [Exit.inBlock, Exit.then])
    refine bodyPost_ret (results_tmp2 rfl _ _ _) rfl ?_
    refine ⟨?_, hb1⟩
    rw [H12.out.1, H12.out.2]
    rfl
end Go.Proofs.YtpgamoielkpakaaDoor
