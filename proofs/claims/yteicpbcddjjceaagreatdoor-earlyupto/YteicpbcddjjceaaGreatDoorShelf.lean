/-
  PROVED HERE: nothing of the program: the plain mathematics of the hash, by numbers: the functions by which the walks say what the program's hash reckons, and small facts on their sizes.
-/
import Derived.Test.YteicpbcddjjceaaGreatDoorRows
import Derived.WalkKit
import Derived.WalkSpells
import Derived.WalkLawsBesides
import Derived.Laws.BitsAllLaws
import Derived.Deep.QuietTactic
import Derived.BigQuiet
import Derived.Laws.Rows
import Derived.Deep.WholeRow
import Derived.Deep.Draws
import Derived.Deep.RegionHeld3
import Derived.Deep.MidRow
import Derived.Laws.StructEq
import Derived.Shelf.Strings.BuilderK
import Derived.Shelf.Small.Strs
import Derived.Shelf.Strings.Search1
import Derived.Test.YteicpbcddjjceaaGreatDoorProg
namespace Go.Proofs.YteicpbcddjjceaaGreatDoor.Sha

/-- x turned right by r, in 32 bits. -/
def rotr (x r : Nat) : Nat := x * 2 ^ (32 - r) % 4294967296 ||| x / 2 ^ r
def big3 (x a b c : Nat) : Nat := rotr x a ^^^ rotr x b ^^^ rotr x c
def sm3 (x a b c : Nat) : Nat := rotr x a ^^^ rotr x b ^^^ x / 2 ^ c
def chs (e f g : Nat) : Nat := (e &&& f) ^^^ ((4294967295 - e) &&& g)
def maj (a b c : Nat) : Nat := (a &&& b) ^^^ (a &&& c) ^^^ (b &&& c)

theorem rotr_lt {x r : Nat} (hx : x < 4294967296) : rotr x r < 4294967296 := by
  unfold rotr
  have h1 : x * 2 ^ (32 - r) % 4294967296 < 2 ^ 32 := by have := Nat.mod_lt (x * 2 ^ (32 - r)) (show 0 < 4294967296 by omega); omega
  have h2 : x / 2 ^ r < 2 ^ 32 := by have := Nat.div_le_self x (2 ^ r); omega
  have := Nat.or_lt_two_pow h1 h2
  omega
theorem xor_lt {a b : Nat} (ha : a < 4294967296) (hb : b < 4294967296) : a ^^^ b < 4294967296 := by
  have := Nat.xor_lt_two_pow (x := a) (y := b) (n := 32) (by omega) (by omega)
  omega
theorem and_lt {a b : Nat} (ha : a < 4294967296) : a &&& b < 4294967296 := by
  have := Nat.and_le_left (n := a) (m := b)
  omega
theorem div_lt {a r : Nat} (ha : a < 4294967296) : a / 2 ^ r < 4294967296 := by have := Nat.div_le_self a (2 ^ r); omega
theorem big3_lt {x a b c : Nat} (hx : x < 4294967296) : big3 x a b c < 4294967296 := xor_lt (xor_lt (rotr_lt hx) (rotr_lt hx)) (rotr_lt hx)
theorem sm3_lt {x a b c : Nat} (hx : x < 4294967296) : sm3 x a b c < 4294967296 := xor_lt (xor_lt (rotr_lt hx) (rotr_lt hx)) (div_lt hx)
theorem chs_lt {e f g : Nat} (he : e < 4294967296) : chs e f g < 4294967296 := xor_lt (and_lt he) (and_lt (by omega))
theorem maj_lt {a b c : Nat} (ha : a < 4294967296) (hb : b < 4294967296) : maj a b c < 4294967296 := xor_lt (xor_lt (and_lt ha) (and_lt ha)) (and_lt hb)

/-- The eight numbers A to H. -/
structure St where
  a : Nat
  b : Nat
  c : Nat
  d : Nat
  e : Nat
  f : Nat
  g : Nat
  h : Nat

structure St.Ok (s : St) : Prop where
  a : s.a < 4294967296
  b : s.b < 4294967296
  c : s.c < 4294967296
  d : s.d < 4294967296
  e : s.e < 4294967296
  f : s.f < 4294967296
  g : s.g < 4294967296
  h : s.h < 4294967296

def tOf (s : St) (k w : Nat) : Nat := (s.h + big3 s.e 6 11 25 + chs s.e s.f s.g + k + w) % 4294967296
def uOf (s : St) : Nat := (big3 s.a 2 13 22 + maj s.a s.b s.c) % 4294967296
def step (s : St) (k w : Nat) : St := ⟨(tOf s k w + uOf s) % 4294967296, s.a, s.b, s.c, (s.d + tOf s k w) % 4294967296, s.e, s.f, s.g⟩
theorem step_ok {s : St} (h : s.Ok) (k w : Nat) : (step s k w).Ok :=
  ⟨Nat.mod_lt _ (by omega), h.a, h.b, h.c, Nat.mod_lt _ (by omega), h.e, h.f, h.g⟩
def add (s v : St) : St := ⟨(s.a + v.a) % 4294967296, (s.b + v.b) % 4294967296, (s.c + v.c) % 4294967296, (s.d + v.d) % 4294967296, (s.e + v.e) % 4294967296, (s.f + v.f) % 4294967296, (s.g + v.g) % 4294967296, (s.h + v.h) % 4294967296⟩
theorem add_ok (s v : St) : (add s v).Ok := ⟨Nat.mod_lt _ (by omega), Nat.mod_lt _ (by omega), Nat.mod_lt _ (by omega), Nat.mod_lt _ (by omega), Nat.mod_lt _ (by omega), Nat.mod_lt _ (by omega), Nat.mod_lt _ (by omega), Nat.mod_lt _ (by omega)⟩

def kTab : List Nat := [1116352408, 1899447441, 3049323471, 3921009573, 961987163, 1508970993, 2453635748, 2870763221, 3624381080, 310598401, 607225278, 1426881987, 1925078388, 2162078206, 2614888103, 3248222580, 3835390401, 4022224774, 264347078, 604807628, 770255983, 1249150122, 1555081692, 1996064986, 2554220882, 2821834349, 2952996808, 3210313671, 3336571891, 3584528711, 113926993, 338241895, 666307205, 773529912, 1294757372, 1396182291, 1695183700, 1986661051, 2177026350, 2456956037, 2730485921, 2820302411, 3259730800, 3345764771, 3516065817, 3600352804, 4094571909, 275423344, 430227734, 506948616, 659060556, 883997877, 958139571, 1322822218, 1537002063, 1747873779, 1955562222, 2024104815, 2227730452, 2361852424, 2428436474, 2756734187, 3204031479, 3329325298]

def roundsTo (ws : List Nat) (v : St) : Nat → St
  | 0 => v
  | k + 1 => step (roundsTo ws v k) (kTab.getD k 0) (ws.getD k 0)
theorem roundsTo_ok {ws : List Nat} {v : St} (h : v.Ok) (k : Nat) : (roundsTo ws v k).Ok := by
  induction k with
  | zero => exact h
  | succ k ih => exact step_ok ih _ _

/-- The number of four bytes, the greatest first. -/
def word4 (a b c d : Nat) : Nat := ((a * 16777216 ||| b * 65536) ||| c * 256) ||| d
def byteAt (bs : List UInt8) (i : Nat) : Nat := (bs.getD i 0).toNat
def wordAt (bs : List UInt8) (i : Nat) : Nat := word4 (byteAt bs (4 * i)) (byteAt bs (4 * i + 1)) (byteAt bs (4 * i + 2)) (byteAt bs (4 * i + 3))
def wNext (ws : List Nat) (i : Nat) : Nat := (sm3 (ws.getD (i - 2) 0) 17 19 10 + ws.getD (i - 7) 0 + sm3 (ws.getD (i - 15) 0) 7 18 3 + ws.getD (i - 16) 0) % 4294967296
def zeros (n : Nat) : List Nat := List.replicate n 0
theorem zeros_len (n : Nat) : (zeros n).length = n := by simp [zeros]
/-- The 64 numbers behind k rounds of the first loop, then behind k of the second. -/
def wOne (bs : List UInt8) : Nat → List Nat
  | 0 => zeros 64
  | k + 1 => (wOne bs k).set k (wordAt bs k)
def wTwo (bs : List UInt8) : Nat → List Nat
  | 0 => wOne bs 16
  | k + 1 => (wTwo bs k).set (k + 16) (wNext (wTwo bs k) (k + 16))
def words (bs : List UInt8) : List Nat := wTwo bs 48
def block (s : St) (bs : List UInt8) : St := add s (roundsTo (words bs) s 64)

theorem wOne_len (bs : List UInt8) (k : Nat) : (wOne bs k).length = 64 := by
  induction k with
  | zero => simp [wOne, zeros]
  | succ k ih => simp [wOne, ih]
theorem wTwo_len (bs : List UInt8) (k : Nat) : (wTwo bs k).length = 64 := by
  induction k with
  | zero => exact wOne_len bs 16
  | succ k ih => simp [wTwo, ih]

theorem words_len (bs : List UInt8) : (words bs).length = 64 := wTwo_len bs 48
/-- The sums of two lists of numbers, up to i. -/
def addTo (l m : List Nat) : Nat → List Nat
  | 0 => l
  | i + 1 => (addTo l m i).set i ((l.getD i 0 + m.getD i 0) % 4294967296)
theorem addTo_len (l m : List Nat) (i : Nat) : (addTo l m i).length = l.length := by
  induction i with
  | zero => rfl
  | succ i ih => simp [addTo, ih]
theorem addTo_past (l m : List Nat) (i j : Nat) (h : i ≤ j) : (addTo l m i).getD j 0 = l.getD j 0 := by
  induction i with
  | zero => rfl
  | succ i ih =>
    have := ih (by omega)
    simp only [addTo, List.getD_eq_getElem?_getD, List.getElem?_set] at *
    rw [if_neg (by omega)]
    exact this
theorem addTo_at (l m : List Nat) (i : Nat) : (addTo l m i).getD i 0 = l.getD i 0 := addTo_past l m i i (Nat.le_refl _)
theorem word4_lt {a b c d : Nat} (ha : a < 256) (hb : b < 256) (hc : c < 256) (hd : d < 256) : word4 a b c d < 4294967296 := by
  have h1 := Nat.or_lt_two_pow (n := 32) (x := a * 16777216) (y := b * 65536) (by omega) (by omega)
  have h2 := Nat.or_lt_two_pow (n := 32) (x := a * 16777216 ||| b * 65536) (y := c * 256) h1 (by omega)
  have h3 := Nat.or_lt_two_pow (n := 32) (x := (a * 16777216 ||| b * 65536) ||| c * 256) (y := d) h2 (by omega)
  exact h3
theorem byteAt_lt (bs : List UInt8) (i : Nat) : byteAt bs i < 256 := UInt8.toNat_lt _
theorem getD_set_lt {ws : List Nat} (h : ∀ i, ws.getD i 0 < 4294967296) (k n : Nat) (hn : n < 4294967296) (i : Nat) : (ws.set k n).getD i 0 < 4294967296 := by
  have := h i
  simp only [List.getD_eq_getElem?_getD, List.getElem?_set] at *
  split
  · split
    · exact hn
    · simp
  · exact this
theorem wOne_lt (bs : List UInt8) (k i : Nat) : (wOne bs k).getD i 0 < 4294967296 := by
  induction k generalizing i with
  | zero =>
    simp only [wOne, zeros, List.getD_eq_getElem?_getD, List.getElem?_replicate]
    split <;> simp
  | succ k ih => exact getD_set_lt ih _ _ (word4_lt (byteAt_lt _ _) (byteAt_lt _ _) (byteAt_lt _ _) (byteAt_lt _ _)) i
theorem wTwo_lt (bs : List UInt8) (k i : Nat) : (wTwo bs k).getD i 0 < 4294967296 := by
  induction k generalizing i with
  | zero => exact wOne_lt bs 16 i
  | succ k ih => exact getD_set_lt ih _ _ (Nat.mod_lt _ (by omega)) i

end Go.Proofs.YteicpbcddjjceaaGreatDoor.Sha

/-
  PROVED HERE: nothing: what every walk of this seat imports.
-/

/-
  PROVED HERE: small facts on rows of cells that hold numbers, and on worlds: no text of the program.
-/
namespace Go.Proofs.YteicpbcddjjceaaGreatDoor
open Go.RowKit

theorem hide {p : Prop} (h : p) : Hid p := h
def cells32 (ws : List Nat) : Array Value := (ws.map fun n => Value.int .u32 ((n : Nat) : Int)).toArray
def cells8 (ws : List Nat) : Array Value := (ws.map fun n => Value.int .u8 ((n : Nat) : Int)).toArray

theorem cells32_at (ws : List Nat) (i : Nat) (h : i < ws.length) : (cells32 ws)[i]? = some (.int .u32 ((ws.getD i 0 : Nat) : Int)) := by
  simp [cells32, h, List.getD_eq_getElem?_getD]
theorem cells32_set (ws : List Nat) (i n : Nat) : (cells32 ws).setIfInBounds i (.int .u32 ((n : Nat) : Int)) = cells32 (ws.set i n) := by
  simp [cells32, List.map_set]
theorem cells32_size (ws : List Nat) : (cells32 ws).size = ws.length := by simp [cells32]
theorem cells32_one (ws : List Nat) : (cells32 ws).all (·.oneCell') = true := by simp [cells32, Value.oneCell']
theorem cells8_at (ws : List Nat) (i : Nat) (h : i < ws.length) : (cells8 ws)[i]? = some (.int .u8 ((ws.getD i 0 : Nat) : Int)) := by
  simp [cells8, h, List.getD_eq_getElem?_getD]
theorem cells8_set (ws : List Nat) (i n : Nat) : (cells8 ws).setIfInBounds i (.int .u8 ((n : Nat) : Int)) = cells8 (ws.set i n) := by
  simp [cells8, List.map_set]
theorem cells8_size (ws : List Nat) : (cells8 ws).size = ws.length := by simp [cells8]
theorem cells8_one (ws : List Nat) : (cells8 ws).all (·.oneCell') = true := by simp [cells8, Value.oneCell']

/-- A store of a number into a row: the row behind it, another block, Below. -/
theorem row32_store {w : World} {g i : Nat} {ws : List Nat} {t : TypeId} (n : Nat) (hg : w.heap[g]? = some (.cells (cells32 ws) t (0, 0))) :
    (w.setCell ⟨g, i, none⟩ (.int .u32 ((n : Nat) : Int))).heap[g]? = some (.cells (cells32 (ws.set i n)) t (0, 0)) := by
  rw [heap_setCell_same w g i _ t _ hg, cells32_set]
theorem row8_store {w : World} {g i : Nat} {ws : List Nat} {t : TypeId} (n : Nat) (hg : w.heap[g]? = some (.cells (cells8 ws) t (0, 0))) :
    (w.setCell ⟨g, i, none⟩ (.int .u8 ((n : Nat) : Int))).heap[g]? = some (.cells (cells8 (ws.set i n)) t (0, 0)) := by
  rw [heap_setCell_same w g i _ t _ hg, cells8_set]
theorem row32_cell {w : World} {g : Nat} {ws : List Nat} {t : TypeId} (hg : w.heap[g]? = some (.cells (cells32 ws) t (0, 0))) (i : Nat) (h : i < ws.length) :
    w.cell? ⟨g, i, none⟩ = some (.int .u32 ((ws.getD i 0 : Nat) : Int)) := by
  rw [cell_of_row w g i _ t _ hg, cells32_at ws i h]
theorem row8_cell {w : World} {g : Nat} {ws : List Nat} {t : TypeId} (hg : w.heap[g]? = some (.cells (cells8 ws) t (0, 0))) (i : Nat) (h : i < ws.length) :
    w.cell? ⟨g, i, none⟩ = some (.int .u8 ((ws.getD i 0 : Nat) : Int)) := by
  rw [cell_of_row w g i _ t _ hg, cells8_at ws i h]
theorem bcell {B : Nat} {W w1 : World} (hb : Below B W w1) : (∀ b o, b < B → w1.cell? ⟨b, o, none⟩ = W.cell? ⟨b, o, none⟩) ∧ (∀ b o, b < B → w1.frozen? ⟨b, o, none⟩ = W.frozen? ⟨b, o, none⟩) :=
  ⟨fun b o h => hb.cell (p := ⟨b, o, none⟩) h, fun b o h => hb.frozen (p := ⟨b, o, none⟩) h⟩
theorem _root_.Go.RowKit.Below.setRow {B : Nat} {a w : World} (h : Below B a w) {g : Nat} (hg : B ≤ g) (cs : Array Value) : Below B a (w.setRow g cs) :=
  h.trans ⟨rfl, rfl, rfl, by simp, fun k hk => setRow_other w g k cs (by omega)⟩
theorem _root_.Go.RowKit.Below.drewN {B : Nat} {a w : World} (h : Below B a w) (n : Nat) : Below B a (w.drewN n) := ⟨h.os, h.tape, h.output, h.size, h.block⟩
theorem cell_off (w : World) (g i j : Nat) (v : Value) (h : ¬ i = j) : (w.setCell ⟨g, i, none⟩ v).cell? ⟨g, j, none⟩ = w.cell? ⟨g, j, none⟩ :=
  World.cell?_setCell_other w _ _ v (by simp)
theorem size_alloc (w : World) (o : Obj) : (w.alloc o).heap.size = w.heap.size + 1 := by
  show (w.heap.push o).size = _
  simp
theorem size_alloc2 (w : World) (A B : Obj) : ((w.alloc A).alloc B).heap.size = w.heap.size + 2 := by rw [size_alloc, size_alloc]
/-- Behind a callee's contract, two blocks of one's own laid ahead of it. -/
theorem below2 {w w1 : World} {A B : Obj} (hb : Below ((w.alloc A).alloc B).heap.size ((w.alloc A).alloc B) w1) :
    w.heap.size + 1 < w1.heap.size ∧ w1.heap[w.heap.size]? = some A ∧ w1.heap[w.heap.size + 1]? = some B ∧ Below w.heap.size w w1 := by
  have hs := size_alloc2 w A B
  refine ⟨by have := hb.size; omega, (hb.block _ (by omega)).trans (heap_alloc2_old _ _ _), (hb.block _ (by omega)).trans (heap_alloc2_new _ _ _), ?_⟩
  exact (((Below.refl _ _).alloc (Nat.le_refl _) _).alloc (by rw [size_alloc]; omega) _).trans (hb.mono (by omega))
theorem lt_of_row {w : World} {g : Nat} {o : Obj} (h : w.heap[g]? = some o) : g < w.heap.size := (Array.getElem?_eq_some_iff.1 h).1
end Go.Proofs.YteicpbcddjjceaaGreatDoor

/-
  PROVED HERE: small facts on rows of entries (a tag's name, its digest, its size), and what the law's own function sameT answers for all lists of entries: nothing turns.
-/
namespace Go.Proofs.YteicpbcddjjceaaGreatDoor
open Go.RowKit

structure Tg where
  name : ByteArray
  dig : ByteArray
  size : Int
  deriving DecidableEq
instance : Inhabited Tg := ⟨⟨⟨#[]⟩, ⟨#[]⟩, 0⟩⟩
def Tg.cells (t : Tg) : List Value := [.string t.name, .string t.dig, .int .i64 t.size]

/-- The entries l lie at a slice's address, each in three cells. -/
def TagsAt (w : World) (oa : Option Addr) (l : List Tg) : Prop :=
  ∀ i, i < l.length → ∃ b o, oa = some ⟨b, o, none⟩ ∧ w.rangeAt b (o + i * 3) (l.getD i default).cells
theorem rangeAt_later {w w' : World} {b o : Nat} {cs : List Value} (hb : Below w.heap.size w w') (h : w.rangeAt b o cs) : w'.rangeAt b o cs := fun j v hj => cell_later hb (h j v hj)
theorem TagsAt.later {w w' : World} {oa : Option Addr} {l : List Tg} (hb : Below w.heap.size w w') (h : TagsAt w oa l) : TagsAt w' oa l := fun i hi => by
  obtain ⟨b, o, e, hr⟩ := h i hi
  exact ⟨b, o, e, rangeAt_later hb hr⟩
theorem Below.drewN {B : Nat} {w w' : World} (h : Below B w w') (n : Nat) : Below B w (w'.drewN n) := ⟨h.os, h.tape, h.output, h.size, h.block⟩
theorem info26 : (Tryz.prog.info? 89).map (·.size) = some 3 := by kernel_rfl
theorem load26 {w : World} {b o : Nat} (t : Tg) (h : w.rangeAt b o t.cells) : (Instr.loadAt 89 (.pointer (some ⟨b, o, none⟩))).run Tryz.prog w = .ok (.agg t.cells.toArray) w :=
  run_loadAt_mid w b o 89 t.cells _ h Tryz.underlying89 rfl info26

theorem toList_inj (a b : ByteArray) : a.toList = b.toList ↔ a = b := by
  rw [ByteArray.toList_eq, ByteArray.toList_eq]
  obtain ⟨⟨x⟩⟩ := a
  obtain ⟨⟨y⟩⟩ := b
  simp
theorem run_equal26 (x y : Tg) (w : World) : (Op.equalIn 10000 89 (.agg x.cells.toArray) (.agg y.cells.toArray)).run Tryz.prog w = .ok (decide (x = y)) w := by
  obtain ⟨n1, d1, z1⟩ := x
  obtain ⟨n2, d2, z2⟩ := y
  rw [show 10000 = 9999 + 1 from rfl]
  simp [Tg.cells, go_sem, Tryz.underlying89, Tryz.underlying9, Tryz.underlying3]
  simp only [toList_inj]
  by_cases h1 : n1 = n2 <;> by_cases h2 : d1 = d2 <;> by_cases h3 : z1 = z2 <;> simp [h1, h2, h3]
theorem neq26 (x y : Tg) (w : World) : (binOp .neq 89 (.agg x.cells.toArray) (.agg y.cells.toArray)).run Tryz.prog w = .ok (.bool (!decide (x = y))) w := by
  rw [run_neq_struct, run_equal26]; rfl
theorem eql26 (x y : Tg) (w : World) : (binOp .eql 89 (.agg x.cells.toArray) (.agg y.cells.toArray)).run Tryz.prog w = .ok (.bool (decide (x = y))) w := by
  rw [run_eql_struct, run_equal26]; rfl

end Go.Proofs.YteicpbcddjjceaaGreatDoor

/-
  PROVED HERE: the library's contracts (strings.IndexByte, strconv.Itoa, strings.Builder) at this program's own numbers: laid by the shelf's command in plain words; of WriteString and WriteByte by hand, after the same form.
-/
namespace Go.Proofs.YteicpbcddjjceaaGreatDoor
open Go.Shelf
def Tryz.lays169_ren : Go.Shelf.Ren := ⟨fun | 169 => 110 | n => n, fun | 70 => 190 | 9 => 9 | 0 => 0 | 72 => 192 | 37 => 124 | 127 => 250 | 3 => 3 | 5 => 5 | n => n, fun | n => n⟩
theorem Tryz.lays169 : Go.Proofs.Lays.n169 Tryz.prog Tryz.lays169_ren := {
  mixed := by kernel_rfl
  f169 := Tryz.func110.trans (congrArg some (by kernel_rfl))
  t0 := Tryz.underlying0
  a0 := Tryz.isAgg0
  z0 := Tryz.sizeOf0
  v0 := Tryz.zeroValue0
  t3 := Tryz.underlying3
  a3 := Tryz.isAgg3
  z3 := Tryz.sizeOf3
  v3 := Tryz.zeroValue3
  t9 := Tryz.underlying9
  a9 := Tryz.isAgg9
  z9 := Tryz.sizeOf9
  v9 := Tryz.zeroValue9
  t37 := Tryz.underlying124
  a37 := Tryz.isAgg124
  z37 := Tryz.sizeOf124
  v37 := Tryz.zeroValue124
  t70 := Tryz.underlying190
  a70 := Tryz.isAgg190
  z70 := Tryz.sizeOf190
  v70 := Tryz.zeroValue190
  t72 := Tryz.underlying192
  a72 := Tryz.isAgg192
  z72 := Tryz.sizeOf192
  v72 := Tryz.zeroValue192
  t127 := Tryz.underlying250
  a127 := Tryz.isAgg250
  z127 := Tryz.sizeOf250
  v127 := Tryz.zeroValue250 }
theorem Tryz.Builder_Extra_169 : Builder.Extra Tryz.prog Tryz.lays169_ren := {
  sizeBuilder := by kernel_rfl
  liesBuilder := by kernel_rfl
  t5 := Tryz.underlying5
  a5 := Tryz.isAgg5
  z5 := Tryz.sizeOf5
  v5 := Tryz.zeroValue5
  infoByte := by kernel_rfl
  cellsByte := by kernel_rfl
  sizeByte := by kernel_rfl
  neB5 := by decide }
def Tryz.lays137_ren : Go.Shelf.Ren := ⟨fun | 137 => 65 | 217 => 115 | 266 => 166 | n => n, fun | 9 => 9 | 5 => 5 | 3 => 3 | n => n, fun | n => n⟩
theorem Tryz.lays137 : Go.Proofs.Lays.n137 Tryz.prog Tryz.lays137_ren := {
  mixed := by kernel_rfl
  f137 := Tryz.func65.trans (congrArg some (by kernel_rfl))
  f217 := Tryz.func115.trans (congrArg some (by kernel_rfl))
  f266 := Tryz.func166.trans (congrArg some (by kernel_rfl))
  t3 := Tryz.underlying3
  a3 := Tryz.isAgg3
  z3 := Tryz.sizeOf3
  v3 := Tryz.zeroValue3
  t5 := Tryz.underlying5
  a5 := Tryz.isAgg5
  z5 := Tryz.sizeOf5
  v5 := Tryz.zeroValue5
  t9 := Tryz.underlying9
  a9 := Tryz.isAgg9
  z9 := Tryz.sizeOf9
  v9 := Tryz.zeroValue9 }
open Go.RowKit in
theorem Tryz.strings_IndexByte (s : ByteArray) (c : Int) (w : World) :
    Calls Tryz.prog 65 #[.string s, .int .u8 c] w fun e w' => e = .returned (.int .i64 (Lib.indexByte s.data.toList c.toNat.toUInt8)) ∧ w' = w := Any.strings_IndexByte Tryz.lays137 s c w
def Tryz.lays167_ren : Go.Shelf.Ren := ⟨fun | 167 => 201 | 240 => 163 | 276 => 206 | n => n, fun | 0 => 0 | 3 => 3 | 4 => 4 | 5 => 5 | 9 => 9 | 20 => 20 | 37 => 124 | 70 => 190 | 72 => 192 | 75 => 96 | 80 => 73 | 164 => 165 | n => n, fun | n => n⟩
theorem Tryz.lays167 : Go.Proofs.Lays.n167 Tryz.prog Tryz.lays167_ren := {
  mixed := by kernel_rfl
  f167 := Tryz.func201.trans (congrArg some (by kernel_rfl))
  f240 := Tryz.func163.trans (congrArg some (by kernel_rfl))
  f276 := Tryz.func206.trans (congrArg some (by kernel_rfl))
  t0 := Tryz.underlying0
  a0 := Tryz.isAgg0
  z0 := Tryz.sizeOf0
  v0 := Tryz.zeroValue0
  t4 := Tryz.underlying4
  a4 := Tryz.isAgg4
  z4 := Tryz.sizeOf4
  v4 := Tryz.zeroValue4
  t5 := Tryz.underlying5
  a5 := Tryz.isAgg5
  z5 := Tryz.sizeOf5
  v5 := Tryz.zeroValue5
  t9 := Tryz.underlying9
  a9 := Tryz.isAgg9
  z9 := Tryz.sizeOf9
  v9 := Tryz.zeroValue9
  t20 := Tryz.underlying20
  a20 := Tryz.isAgg20
  z20 := Tryz.sizeOf20
  v20 := Tryz.zeroValue20
  t37 := Tryz.underlying124
  a37 := Tryz.isAgg124
  z37 := Tryz.sizeOf124
  v37 := Tryz.zeroValue124
  t70 := Tryz.underlying190
  a70 := Tryz.isAgg190
  z70 := Tryz.sizeOf190
  v70 := Tryz.zeroValue190
  t72 := Tryz.underlying192
  a72 := Tryz.isAgg192
  z72 := Tryz.sizeOf192
  v72 := Tryz.zeroValue192
  t75 := Tryz.underlying96
  a75 := Tryz.isAgg96
  z75 := Tryz.sizeOf96
  v75 := Tryz.zeroValue96
  t164 := Tryz.underlying165
  a164 := Tryz.isAgg165
  z164 := Tryz.sizeOf165
  v164 := Tryz.zeroValue165 }
theorem Tryz.Builder_Extra_167 : Builder.Extra Tryz.prog Tryz.lays167_ren := {
  sizeBuilder := by kernel_rfl
  liesBuilder := by kernel_rfl
  t5 := Tryz.underlying5
  a5 := Tryz.isAgg5
  z5 := Tryz.sizeOf5
  v5 := Tryz.zeroValue5
  infoByte := by kernel_rfl
  cellsByte := by kernel_rfl
  sizeByte := by kernel_rfl
  neB5 := by decide }
open Go.RowKit in
theorem Tryz.Builder_WriteByte_k (B b : Nat) (bs : List Value) (c : Int) (w : World) (h : Lib.IsBuilderF 192 5 B b bs w) (hlen : bs.length + 1 ≤ 140737488355328) (hBw : B ≤ w.heap.size) :
    Calls Tryz.prog 201 #[.pointer (some ⟨b, 0, none⟩), .int .u8 c] w fun e w' => e = .returned .nilIface ∧ (Lib.BuilderAtF 192 5 B b (.pointer (some ⟨b, 0, none⟩)) (bs ++ [.int .u8 c]) w' ∧ Below B w w' ∧ Lib.OthersKept 5 (some b) w w') := Any.Builder_WriteByte_k Tryz.lays167 Tryz.Builder_Extra_167 B b bs c w h hlen hBw
open Go.RowKit in
theorem Tryz.Builder_String_any_k (B b : Nat) (l : List UInt8) (w : World) (h : Lib.IsBuilderF 192 5 B b (Lib.byteCells l) w) (hBw : B ≤ w.heap.size) :
    Calls Tryz.prog 110 #[.pointer (some ⟨b, 0, none⟩)] w fun e w' => e = .returned (.string ⟨l.toArray⟩) ∧ (Lib.IsBuilderF 192 5 B b (Lib.byteCells l) w' ∧ Below B w w' ∧ Lib.OthersKept 5 (some b) w w') := Any.Builder_String_any_k Tryz.lays169 Tryz.Builder_Extra_169 B b l w h hBw
end Go.Proofs.YteicpbcddjjceaaGreatDoor
