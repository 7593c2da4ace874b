/-
  PROVED HERE: small facts on rows that one owns; no text of the program.
-/
import Derived.Test.YtpgamoielkpakaaBase
import Derived.Test.YtpgamoielkpakaaOwnLib
namespace Go.Proofs.Ytpgamoielkpakaa
open Go.RowKit
theorem _root_.Go.World.ownsRow.mono_base {w : World} {base base' : Nat} {v : Value} {n : Nat} {e : TypeId} {size : Nat} {xs : List Value} (h : w.ownsRow base' e size v n xs) (hb : base ≤ base') : w.ownsRow base e size v n xs := by
  refine ⟨h.1, h.2.imp id ?_⟩
  rintro ⟨g, cap, cur, e1, e2, e3⟩
  exact ⟨g, cap, cur, e1, Nat.le_trans hb e2, e3⟩
theorem tk_ne {w : World} {base b o : Nat} {v : Value} {n : Nat} {e : TypeId} {size : Nat} {xs : List Value} (h : w.ownsRow base e size v n xs) (hb : b < base) : some (⟨b, o, none⟩ : Addr).block ≠ v.ownBlock := by
  intro e
  have := (h.lt b e.symm).1
  omega
theorem own_apart {w : World} {base b : Nat} {v : Value} {n : Nat} {e : TypeId} {size : Nat} {xs : List Value} (h : w.ownsRow base e size v n xs) (hb : b < base) : v.ownBlock = none ∨ v.ownBlock ≠ some b := by
  cases hv : v.ownBlock with
  | none => exact .inl rfl
  | some k => right; intro e; injection e with e; have := (h.lt k hv).1; omega
theorem own_sl {w : World} {base : Nat} {v : Value} {n : Nat} {e : TypeId} {size : Nat} {xs : List Value} (h : w.ownsRow base e size v n xs) : ∃ o cap, v = .slice o n cap := by
  rcases h.2 with ⟨rfl, rfl⟩ | ⟨g, cap, cur, rfl, -⟩
  · exact ⟨_, _, rfl⟩
  · exact ⟨_, _, rfl⟩
theorem Try.infoTag : (Try.prog.info? 55).map (fun i => (i.zero, i.size, i.bytes)) = some (some (.agg #[.string ⟨#[]⟩, .string ⟨#[]⟩, .int .i64 0]), 3, 40) := by kernel_rfl
end Go.Proofs.Ytpgamoielkpakaa
