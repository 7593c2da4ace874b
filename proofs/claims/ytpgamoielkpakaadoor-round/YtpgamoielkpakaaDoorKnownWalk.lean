/-
  PROVED HERE: blobskeep.Known holds for every input, as the given card says it: the two hashes that the document tells are answered, and every hash is a text of 64 of a digest's letters; conditions: the program's table of cube roots reads as its own text lays it (the card ties it).
-/
import Derived.Test.YtpgamoielkpakaaDoorHash
namespace Go.Proofs.YtpgamoielkpakaaDoor
open Go.RowKit
def hexL (c : UInt8) : Prop := (48 ≤ c.toNat ∧ c.toNat ≤ 57) ∨ (97 ≤ c.toNat ∧ c.toNat ≤ 102)
theorem hexd_hexL (n : Nat) (h : n < 16) : hexL (Sha.hexd n) := by
  rcases (show n = 0 ∨ n = 1 ∨ n = 2 ∨ n = 3 ∨ n = 4 ∨ n = 5 ∨ n = 6 ∨ n = 7 ∨ n = 8 ∨ n = 9 ∨ n = 10 ∨ n = 11 ∨ n = 12 ∨ n = 13 ∨ n = 14 ∨ n = 15 by omega) with rfl | rfl | rfl | rfl | rfl | rfl | rfl | rfl | rfl | rfl | rfl | rfl | rfl | rfl | rfl | rfl <;> simp [hexL, Sha.hexd, Sha.letters]
theorem textTo_hexL (bs : List Nat) (hlt : ∀ i, bs.getD i 0 < 256) (k : Nat) : ∀ c ∈ Sha.textTo bs k, hexL c := by
  induction k with
  | zero => intro c hc; cases hc
  | succ k ih =>
    intro c hc
    have := hlt k
    simp only [Sha.textTo, List.mem_append, List.mem_cons, List.not_mem_nil, or_false] at hc
    rcases hc with hc | rfl | rfl
    · exact ih c hc
    · exact hexd_hexL _ (by omega)
    · exact hexd_hexL _ (by omega)
theorem hash_len (l : List UInt8) : (Sha.hash l).length = 64 := Sha.textTo_len _ 32
theorem hash_hexL (l : List UInt8) : ∀ c ∈ Sha.hash l, hexL c := textTo_hexL _ (fun i => Sha.dBytes_lt _ _ i) 32

theorem hash_e (w : World) (hK : HasK w) : Calls Tryd.prog 7 #[.string ⟨#[]⟩] w fun e w' => e = .returned (.string ⟨#[101, 51, 98, 48, 99, 52, 52, 50, 57, 56, 102, 99, 49, 99, 49, 52, 57, 97, 102, 98, 102, 52, 99, 56, 57, 57, 54, 102, 98, 57, 50, 52, 50, 55, 97, 101, 52, 49, 101, 52, 54, 52, 57, 98, 57, 51, 52, 99, 97, 52, 57, 53, 57, 57, 49, 98, 55, 56, 53, 50, 98, 56, 53, 53]⟩) ∧ Below w.heap.size w w' := by
  have h := hash_any ⟨#[]⟩ w (by show 0 ≤ _; omega) hK
  have e : (Sha.hash (ByteArray.mk #[]).data.toList).toArray = #[101, 51, 98, 48, 99, 52, 52, 50, 57, 56, 102, 99, 49, 99, 49, 52, 57, 97, 102, 98, 102, 52, 99, 56, 57, 57, 54, 102, 98, 57, 50, 52, 50, 55, 97, 101, 52, 49, 101, 52, 54, 52, 57, 98, 57, 51, 52, 99, 97, 52, 57, 53, 57, 57, 49, 98, 55, 56, 53, 50, 98, 56, 53, 53] := by
    rw [show (ByteArray.mk #[]).data.toList = [] from rfl, Sha.hash_empty]
  rw [e] at h
  exact h
theorem hash_a (w : World) (hK : HasK w) : Calls Tryd.prog 7 #[.string ⟨#[97, 98, 99]⟩] w fun e w' => e = .returned (.string ⟨#[98, 97, 55, 56, 49, 54, 98, 102, 56, 102, 48, 49, 99, 102, 101, 97, 52, 49, 52, 49, 52, 48, 100, 101, 53, 100, 97, 101, 50, 50, 50, 51, 98, 48, 48, 51, 54, 49, 97, 51, 57, 54, 49, 55, 55, 97, 57, 99, 98, 52, 49, 48, 102, 102, 54, 49, 102, 50, 48, 48, 49, 53, 97, 100]⟩) ∧ Below w.heap.size w w' := by
  have h := hash_any ⟨#[97, 98, 99]⟩ w (by show 3 ≤ _; omega) hK
  have e : (Sha.hash (ByteArray.mk #[97, 98, 99]).data.toList).toArray = #[98, 97, 55, 56, 49, 54, 98, 102, 56, 102, 48, 49, 99, 102, 101, 97, 52, 49, 52, 49, 52, 48, 100, 101, 53, 100, 97, 101, 50, 50, 50, 51, 98, 48, 48, 51, 54, 49, 97, 51, 57, 54, 49, 55, 55, 97, 57, 99, 98, 52, 49, 48, 102, 102, 54, 49, 102, 50, 48, 48, 49, 53, 97, 100] := by
    rw [show (ByteArray.mk #[97, 98, 99]).data.toList = [97, 98, 99] from rfl, Sha.hash_abc]
  rw [e] at h
  exact h
theorem hash_b (b : ByteArray) (hm : b.size ≤ 140737488351232) : ∃ s : ByteArray, s.size = 64 ∧ (∀ i (h : i < s.size), hexL s[i]) ∧ ∀ w, HasK w → Calls Tryd.prog 7 #[.string b] w fun e w' => e = .returned (.string s) ∧ Below w.heap.size w w' := by
  have hc := fun w hK => hash_any b w hm hK
  have hl := hash_len b.data.toList
  have hx := hash_hexL b.data.toList
  generalize Sha.hash b.data.toList = l at hc hl hx
  refine ⟨⟨l.toArray⟩, by simp [ByteArray.size, hl], fun i h => ?_, hc⟩
  have h' : i < l.length := by simpa [ByteArray.size] using h
  exact hx _ (List.getElem_mem h')

set_option maxHeartbeats 1000000 in
set_option maxRecDepth 100000 in
theorem known_any (b : ByteArray) (w : World) (hm : b.size ≤ 140737488351232) (hK : HasK w) :
    Calls Tryd.prog 4 #[.string b] w fun e w' => e = .returned (.bool true) ∧ Below w.heap.size w w' := by
  have hK1 := hK.1
  obtain ⟨s, hs, hx, hcall⟩ := hash_b b hm
  have HX := hide hx
  have HB := hide hcall
  clear hx hcall
  go_enter Tryd.func4, Tryd.ntmps4
  go_wp2_with fail
  refine (hash_e _ hK).mono ?_
  rintro _ w1 ⟨rfl, b1⟩
  dsimp only
  go_wp2_with fail
  refine (hash_a _ (hK.below b1 hK1)).mono ?_
  rintro _ w2 ⟨rfl, b2⟩
  dsimp only
  have b3 : Below w.heap.size w w2 := b1.trans (b2.mono b1.size)
  clear b1 b2
  go_wp2_with fail
  refine (HB.out _ (hK.below b3 hK1)).mono ?_
  rintro _ w3 ⟨rfl, b4⟩
  dsimp only
  have b5 : Below w.heap.size w w3 := b3.trans (b4.mono b3.size)
  clear b3 b4
  go_wp2
  go_loop [6] (fun i => ∃ k : Nat, k ≤ 64 ∧ i = .int .i64 ((k : Nat) : Int)) (fun i => 64 - (intOf i).toNat)
  case atStart => exact ⟨0, by omega, rfl⟩
  case round =>
    obtain ⟨k, hk, rfl⟩ := hrel
    by_cases hlt : k < 64
    · have hc := HX.out k (by omega)
      unfold hexL at hc
      have hsz : k < s.size := by omega
      rcases hc with ⟨c1, c2⟩ | ⟨c1, c2⟩
      · have d1 : (48 : Int) ≤ ((s[k]'hsz).toNat : Int) := by omega
        have d2 : ((s[k]'hsz).toNat : Int) ≤ 57 := by omega
        clear c1 c2
        go_wp2
        go_round
        case rel => exact ⟨k + 1, by omega, by go_num⟩
        case measure => simp [intOf]; omega
      · have d1 : (97 : Int) ≤ ((s[k]'hsz).toNat : Int) := by omega
        have d2 : ((s[k]'hsz).toNat : Int) ≤ 102 := by omega
        clear c1 c2
        go_wp2
        go_round
        case rel => exact ⟨k + 1, by omega, by go_num⟩
        case measure => simp [intOf]; omega
    · go_wp2
      go_ret
      exact ⟨rfl, b5⟩
end Go.Proofs.YtpgamoielkpakaaDoor
