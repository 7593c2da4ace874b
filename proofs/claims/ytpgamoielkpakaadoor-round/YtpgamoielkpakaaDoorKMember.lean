/-
  PROVED HERE: what the statement's own function member answers: a member of an object as a text, with blanks.
-/
import Derived.Test.YtpgamoielkpakaaDoorKTags
import Derived.Test.YtpgamoielkpakaaDoorRE
import Derived.Deep.QuietTactic
import Derived.BigQuiet
namespace Go.Proofs.YtpgamoielkpakaaDoor
open Go.RowKit
def blL : List ByteArray := [⟨#[]⟩, ⟨#[32]⟩, ⟨#[9]⟩, ⟨#[13, 10]⟩]
def blOf (r : Nat) : ByteArray := blL.getD r ⟨#[]⟩
theorem bl_size : ∀ r, r < 4 → (blOf r).size ≤ 2 := by decide +kernel
theorem bl_blank : ∀ r, r < 4 → Blank (blOf r).data.toList := by unfold Blank; decide +kernel
set_option maxHeartbeats 1000000 in
set_option maxRecDepth 100000 in
theorem member_any (key value : ByteArray) (c : Int) (hc : -9223372036854775808 ≤ c) (hc2 : c ≤ 9223372036854775807) (hk : key.size ≤ 1000) (hv : value.size ≤ 1000000) (w : World) :
    Calls Tryd.prog 34 #[.string key, .string value, .int .i64 c] w fun e w' => Below w.heap.size w w' ∧ ∃ r1 r2 r3, r1 < 4 ∧ r2 < 4 ∧ r3 < 4 ∧ e = .returned (.string (blOf r1 ++ ⟨#[34]⟩ ++ key ++ ⟨#[34]⟩ ++ blOf r2 ++ ⟨#[58]⟩ ++ blOf r3 ++ value)) := by
  have d4 : -9223372036854775808 ≤ c.tdiv 4 ∧ c.tdiv 4 ≤ 9223372036854775807 := tdiv_range c 4 (by decide) hc hc2
  have d16 : -9223372036854775808 ≤ c.tdiv 16 ∧ c.tdiv 16 ≤ 9223372036854775807 := tdiv_range c 16 (by decide) hc hc2
  have hw4 : IntKind.i64.wrap (c.tdiv 4) = c.tdiv 4 := by rw [IntKind.wrap_i64]; omega
  have hw16 : IntKind.i64.wrap (c.tdiv 16) = c.tdiv 16 := by rw [IntKind.wrap_i64]; omega
  have hp1 : ∀ w, Calls Tryd.prog 16 #[.int .i64 c, .int .i64 4] w fun e w' => e = .returned (.int .i64 ((pickN c 4 : Nat) : Int)) ∧ w' = w := fun w => pick_any c 4 (by decide) (by decide) hc hc2 w
  have hp2 : ∀ w, Calls Tryd.prog 16 #[.int .i64 (c.tdiv 4), .int .i64 4] w fun e w' => e = .returned (.int .i64 ((pickN (c.tdiv 4) 4 : Nat) : Int)) ∧ w' = w := fun w => pick_any _ 4 (by decide) (by decide) d4.1 d4.2 w
  have hp3 : ∀ w, Calls Tryd.prog 16 #[.int .i64 (c.tdiv 16), .int .i64 4] w fun e w' => e = .returned (.int .i64 ((pickN (c.tdiv 16) 4 : Nat) : Int)) ∧ w' = w := fun w => pick_any _ 4 (by decide) (by decide) d16.1 d16.2 w
  have l1 := pickN_lt c 4 (by decide)
  have l2 := pickN_lt (c.tdiv 4) 4 (by decide)
  have l3 := pickN_lt (c.tdiv 16) 4 (by decide)
  generalize pickN c 4 = r1 at hp1 l1
  generalize pickN (c.tdiv 4) 4 = r2 at hp2 l2
  generalize pickN (c.tdiv 16) 4 = r3 at hp3 l3
  have HP1 := hide hp1
  have HP2 := hide hp2
  have HP3 := hide hp3
  clear hp1 hp2 hp3 d4 d16
  have hrow := heap_alloc_new w (.cells #[.string ⟨#[]⟩, .string ⟨#[32]⟩, .string ⟨#[9]⟩, .string ⟨#[13, 10]⟩] 9 (0, 0))
  have hval : ∀ r, r < 4 → (#[Value.string ⟨#[]⟩, Value.string ⟨#[32]⟩, Value.string ⟨#[9]⟩, Value.string ⟨#[13, 10]⟩] : Array Value)[r]? = some (.string (blOf r)) := by
    intro r hr
    match r, hr with
    | 0, _ => rfl
    | 1, _ => rfl
    | 2, _ => rfl
    | 3, _ => rfl
  have k1 := (cell_of_row _ _ r1 _ _ _ hrow).trans (hval r1 l1)
  have k2 := (cell_of_row _ _ r2 _ _ _ hrow).trans (hval r2 l2)
  have k3 := (cell_of_row _ _ r3 _ _ _ hrow).trans (hval r3 l3)
  have s1 := bl_size r1 l1
  have s2 := bl_size r2 l2
  have s3 := bl_size r3 l3
  have HF : Hid (∃ q1 q2 q3, q1 < 4 ∧ q2 < 4 ∧ q3 < 4 ∧ blOf r1 = blOf q1 ∧ blOf r2 = blOf q2 ∧ blOf r3 = blOf q3) := ⟨r1, r2, r3, l1, l2, l3, rfl, rfl, rfl⟩
  generalize blOf r1 = b1 at k1 s1 HF
  generalize blOf r2 = b2 at k2 s2 HF
  generalize blOf r3 = b3 at k3 s3 HF
  have i1 : (0 : Int) ≤ (r1 : Int) := by omega
  have i1' : (r1 : Int) < 4 := by omega
  have i2 : (0 : Int) ≤ (r2 : Int) := by omega
  have i2' : (r2 : Int) < 4 := by omega
  have i3 : (0 : Int) ≤ (r3 : Int) := by omega
  have i3' : (r3 : Int) < 4 := by omega
  have q1 : ¬ 9223372036854775807 < b1.size + 1 := by omega
  have q2 : ¬ 9223372036854775807 < b1.size + 1 + key.size := by omega
  have q3 : ¬ 9223372036854775807 < b1.size + 1 + key.size + 1 := by omega
  have q4 : ¬ 9223372036854775807 < b1.size + 1 + key.size + 1 + b2.size := by omega
  have q5 : ¬ 9223372036854775807 < b1.size + 1 + key.size + 1 + b2.size + 1 := by omega
  have q6 : ¬ 9223372036854775807 < b1.size + 1 + key.size + 1 + b2.size + 1 + b3.size := by omega
  have q7 : ¬ 9223372036854775807 < b1.size + 1 + key.size + 1 + b2.size + 1 + b3.size + value.size := by omega
  clear hrow hval l1 l2 l3 hc hc2 hk hv s1 s2 s3
  go_enter Tryd.func34, Tryd.ntmps34
  go_wp2
  go_quiet (first | (go_at_call_of 16 (Value.int .i64 c); exact Calls.quiet_of_same (HP1.out _)) | (go_at_call_of 16 (Value.int .i64 (c.tdiv 4)); exact Calls.quiet_of_same (HP2.out _)) | (go_at_call_of 16 (Value.int .i64 (c.tdiv 16)); exact Calls.quiet_of_same (HP3.out _)))
  go_wp2
  go_ret
  obtain ⟨q1, q2, q3, m1, m2, m3, e1, e2, e3⟩ := HF.out
  refine ⟨((Below.refl _ _).alloc (Nat.le_refl _) _).drewN nq, q1, q2, q3, m1, m2, m3, ?_⟩
  rw [← e1, ← e2, ← e3]
  rfl
end Go.Proofs.YtpgamoielkpakaaDoor
