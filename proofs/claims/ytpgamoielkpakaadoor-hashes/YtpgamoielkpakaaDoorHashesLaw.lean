/-
  PROVED HERE: blobslaw.Hashes answers true for every content within the reach: the program's hash and the document's own answer are the same text.
-/
import Derived.Test.YtpgamoielkpakaaDoorHash
import Derived.Test.YtpgamoielkpakaaDoorHashesWalk
namespace Go.Proofs.YtpgamoielkpakaaDoor
open Go.RowKit
theorem hash_both (b : ByteArray) (hm : b.size ≤ 140737488351232) : ∃ s : ByteArray, (∀ w, HasK w → Calls Tryd.prog 7 #[.string b] w fun e w' => e = .returned (.string s) ∧ Below w.heap.size w w') ∧ ∀ w, Calls Tryd.prog 8 #[.string b] w fun e w' => e = .returned (.string s) ∧ Below w.heap.size w w' :=
  ⟨_, fun w hK => hash_any b w hm hK, fun w => refHash_any b w hm⟩
set_option maxHeartbeats 1000000 in
set_option maxRecDepth 100000 in
theorem hashes_any (b : ByteArray) (w : World) (hm : b.size ≤ 140737488351232) (hK : HasK w) :
    Calls Tryd.prog 3 #[.string b] w fun e w' => e = .returned (.bool true) ∧ Below w.heap.size w w' := by
  obtain ⟨s, h7, h8⟩ := hash_both b hm
  have H7 := hide h7
  have H8 := hide h8
  clear h7 h8
  go_enter Tryd.func3, Tryd.ntmps3
  go_wp2_with fail
  refine (H7.out _ hK).mono ?_
  rintro _ w1 ⟨rfl, b1⟩
  dsimp only
  go_wp2_with fail
  refine (H8.out _).mono ?_
  rintro _ w2 ⟨rfl, b2⟩
  dsimp only
  have b3 : Below w.heap.size w w2 := b1.trans (b2.mono b1.size)
  clear b1 b2
  go_wp2
  go_ret
  exact ⟨rfl, b3⟩
end Go.Proofs.YtpgamoielkpakaaDoor
