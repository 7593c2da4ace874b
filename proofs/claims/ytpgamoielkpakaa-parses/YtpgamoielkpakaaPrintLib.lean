/-
  PROVED HERE: an entry's text; an entry in a block of its own.
-/
import Derived.Test.YtpgamoielkpakaaCheckLib
import Derived.Lib.ItoaLen
namespace Go.Proofs.Ytpgamoielkpakaa
open Go.RowKit
theorem builder_later {T e : TypeId} {B b : Nat} {bs : List Value} {w w' : World} (h : Lib.IsBuilderF T e B b bs w) (hb : Below w.heap.size w w') : Lib.IsBuilderF T e B b bs w' := by
  have key : ∀ p, Lib.BuilderAtF T e B b p bs w → Lib.BuilderAtF T e B b p bs w' := by
    rintro p ⟨h1, v, h2, h3, h4⟩
    refine ⟨h1, v, (hb.block b (lt_of_row' h2)).trans h2, ⟨h3.1, h3.2.imp id ?_⟩, h4⟩
    rintro ⟨g, cap, cur, fz, e1, e2, e3, e4⟩
    exact ⟨g, cap, cur, fz, e1, e2, (hb.block g (lt_of_row' e3)).trans e3, e4⟩
  exact h.imp (key _) (key _)

def head1 : List UInt8 := [123, 34, 118, 101, 114, 115, 105, 111, 110, 34, 58, 49, 44, 34, 116, 97, 103, 115, 34, 58, 91]
/-- An entry's text. -/
def eText (t : Tg) : List UInt8 := [123, 34, 116, 97, 103, 34, 58, 34] ++ t.name.data.toList ++ [34, 44, 34, 100, 105, 103, 101, 115, 116, 34, 58, 34] ++ Sha.textTo (rd t.dig) 32 ++ [34, 44, 34, 115, 105, 122, 101, 34, 58] ++ Lib.itoa t.size ++ [125]
/-- The text behind k entries. -/
def prTo (l : List Tg) : Nat → List UInt8
  | 0 => head1
  | k + 1 => prTo l k ++ (if 0 < k then [44] else []) ++ eText (l.getD k default)
theorem Try.info71b : (Try.prog.info? 76).map (fun i => (i.zero, i.size)) = some (some (.agg (ecellsOf ⟨#[]⟩ (Sha.zeros 32) 0)), 34) := by kernel_rfl
theorem size71 (n : ByteArray) (ds : List Nat) (z : Int) (h : ds.length = 32) : (Try.prog.info? 76).map (·.size) = some (ecellsOf n ds z).size := by
  rw [ecellsOf_size _ _ _ h]; kernel_rfl
/-- The entry that the loop's round speaks of lies in block b. -/
structure Ent (w0 w : World) (b : Nat) (n : ByteArray) (ds : List Nat) (z : Int) : Prop where
  row : w.heap[b]? = some (.cells (ecellsOf n ds z) 76 (0, 0))
  below : Below w0.heap.size w0 w
def EntS (b : Nat) (n : ByteArray) (ds : List Nat) (z : Int) (w : World) : Prop := w.cell? ⟨b, 0, none⟩ = some (.string n) ∧ w.rangeAt b 1 (cells8 ds).toList ∧ w.cell? ⟨b, 33, none⟩ = some (.int .i64 z)
theorem Ent.out {w0 w : World} {b : Nat} {n : ByteArray} {ds : List Nat} {z : Int} (h : Ent w0 w b n ds z) (hl : ds.length = 32) : EntS b n ds z w := by
  refine ⟨cell_of_row w b 0 _ _ _ h.row, fun j v hj => ?_, ?_⟩
  · rw [cell_of_row w b (1 + j) _ _ _ h.row]
    have hlt : j < (cells8 ds).toList.length := (List.getElem?_eq_some_iff.1 hj).1
    have : (ecellsOf n ds z)[1 + j]? = ((cells8 ds).toList ++ [Value.int .i64 z])[j]? := by
      unfold ecellsOf
      rw [List.getElem?_toArray, Nat.add_comm 1 j, List.getElem?_cons_succ]
    rw [this, List.getElem?_append_left hlt]
    exact hj
  · rw [cell_of_row w b 33 _ _ _ h.row]
    have hlt : (cells8 ds).toList.length = 32 := by rw [Array.length_toList, cells8_size, hl]
    unfold ecellsOf
    rw [List.getElem?_toArray, List.getElem?_cons_succ, List.getElem?_append_right (by omega), hlt]
    rfl
theorem Ent.drew {w0 w : World} {b : Nat} {n : ByteArray} {ds : List Nat} {z : Int} (h : Ent w0 w b n ds z) : Ent w0 w.drew b n ds z := ⟨h.row, h.below.drew⟩
theorem Ent.later {w0 w w' : World} {b : Nat} {n : ByteArray} {ds : List Nat} {z : Int} (h : Ent w0 w b n ds z) (hb : Below w.heap.size w w') : Ent w0 w' b n ds z :=
  ⟨(hb.block b (lt_of_row' h.row)).trans h.row, h.below.trans (hb.mono h.below.size)⟩
theorem Ent.kept {w0 w w' : World} {b : Nat} {n : ByteArray} {ds : List Nat} {z : Int} (h : Ent w0 w b n ds z) (hb : Below w0.heap.size w w') {bb : Nat} (hk : Lib.OthersKept 5 (some bb) w w') (hne : b ≠ bb) : Ent w0 w' b n ds z :=
  ⟨hk b _ h.row (fun e => hne (Option.some.inj e)) (fun c fz e => by cases e), h.below.trans hb⟩
theorem ecells_range {w : World} {B g cap n : Nat} {l : List Tg} (h : w.ownsRow B 76 34 (.slice (some ⟨g, 0, none⟩) n cap) n (l.flatMap Tg.ecells)) (k : Nat) (hk : k < l.length) : w.rangeAt g (k * 34) (l.getD k default).ecells := by
  obtain ⟨hlen, h2⟩ := h
  rcases h2 with ⟨e, _⟩ | ⟨g', cap', cur, e, _, hg, hn, _, hsz, htk⟩
  · cases e
  · injection e with e1 e2 e3
    injection e1 with e1
    injection e1 with e1 _ _
    subst e1
    intro j v hj
    rw [cell_of_row w g (k * 34 + j) _ _ _ hg]
    have hl34 : ∀ t ∈ l, t.ecells.length = 34 := fun t _ => t.ecells_len
    have hjl : j < 34 := by
      have := (List.getElem?_eq_some_iff.1 hj).1
      rwa [Tg.ecells_len] at this
    have hn2 : l.length = n := by
      rw [List.length_flatMap] at hlen
      have : (l.map fun t => t.ecells.length).sum = l.length * 34 := by
        clear hj hk htk hlen
        induction l with
        | nil => rfl
        | cons t l ih =>
          rw [List.map_cons, List.sum_cons, ih (fun t ht => Tg.ecells_len t), Tg.ecells_len, List.length_cons]
          omega
      omega
    have hlt : k * 34 + j < n * 34 := by omega
    have e4 : cur[k * 34 + j]? = (l.flatMap Tg.ecells)[k * 34 + j]? := by
      rw [← htk, List.getElem?_take_of_lt hlt, Array.getElem?_toList]
    rw [e4]
    clear e4 htk hlt hn2 hlen
    induction l generalizing k with
    | nil => simp at hk
    | cons t l ih =>
      rw [List.flatMap_cons]
      cases k with
      | zero =>
        rw [List.getElem?_append_left (by rw [Tg.ecells_len]; omega)]
        simpa using hj
      | succ k =>
        rw [List.getElem?_append_right (by rw [Tg.ecells_len]; omega), Tg.ecells_len, show (k + 1) * 34 + j - 34 = k * 34 + j by omega]
        exact ih k (by simpa using hk) (by simpa using hj) (fun t _ => t.ecells_len)

theorem eText_len (t : Tg) (h : t.name.size ≤ 20) (h0 : 0 ≤ t.size) (h1 : t.size ≤ 300) : (eText t).length ≤ 135 := by
  have e1 := Lib.itoa_length_le t.size (by omega) (by omega)
  have e2 : t.name.data.toList.length = t.name.size := by simp
  have e3 := Sha.textTo_len (rd t.dig) 32
  unfold eText
  simp only [List.length_append, List.length_cons, List.length_nil]
  omega
theorem prTo_len (l : List Tg) (k : Nat) (h : ∀ j, j < k → (l.getD j default).name.size ≤ 20 ∧ 0 ≤ (l.getD j default).size ∧ (l.getD j default).size ≤ 300) : (prTo l k).length ≤ 21 + 136 * k := by
  induction k with
  | zero => exact Nat.le_refl _
  | succ k ih =>
    have h1 := ih (fun j hj => h j (by omega))
    have h2 := h k (by omega)
    have h3 := eText_len _ h2.1 h2.2.1 h2.2.2
    have h4 : (if 0 < k then [(44 : UInt8)] else []).length ≤ 1 := by split <;> simp
    unfold prTo
    rw [List.length_append, List.length_append]
    omega
theorem bytes_size (l : List UInt8) : (ByteArray.mk l.toArray).size = l.length := by simp [ByteArray.size]
theorem big_size (n1 dT zT : ByteArray) (h1 : n1.size ≤ 20) (h2 : dT.size = 64) (h3 : zT.size ≤ 21) : (⟨#[123, 34, 116, 97, 103, 34, 58, 34]⟩ ++ n1 ++ ⟨#[34, 44, 34, 100, 105, 103, 101, 115, 116, 34, 58, 34]⟩ ++ dT ++ ⟨#[34, 44, 34, 115, 105, 122, 101, 34, 58]⟩ ++ zT ++ ⟨#[125]⟩ : ByteArray).size ≤ 135 := by
  simp only [ByteArray.size_append]
  have e1 : (ByteArray.mk #[123, 34, 116, 97, 103, 34, 58, 34]).size = 8 := rfl
  have e2 : (ByteArray.mk #[34, 44, 34, 100, 105, 103, 101, 115, 116, 34, 58, 34]).size = 12 := rfl
  have e3 : (ByteArray.mk #[34, 44, 34, 115, 105, 122, 101, 34, 58]).size = 9 := rfl
  have e4 : (ByteArray.mk #[125]).size = 1 := rfl
  omega
theorem big_text (n1 d1 dT zT : ByteArray) (z1 : Int) (h2 : dT = ⟨(Sha.textTo (rd d1) 32).toArray⟩) (h3 : zT = ⟨(Lib.itoa z1).toArray⟩) : Lib.strCells (⟨#[123, 34, 116, 97, 103, 34, 58, 34]⟩ ++ n1 ++ ⟨#[34, 44, 34, 100, 105, 103, 101, 115, 116, 34, 58, 34]⟩ ++ dT ++ ⟨#[34, 44, 34, 115, 105, 122, 101, 34, 58]⟩ ++ zT ++ ⟨#[125]⟩ : ByteArray) = Lib.byteCells (eText ⟨n1, d1, z1⟩) := by
  rw [Lib.strCells_eq, h2, h3]
  simp [ByteArray.data_append, eText]
theorem i40len (ds : List Nat) (h : ds.length = 32) : (Try.prog.info? 74).map (·.size) = some (cells8 ds).toList.length := by rw [Array.length_toList]; exact size40 _ h

end Go.Proofs.Ytpgamoielkpakaa
