/-
  PROVED HERE: nothing of the program: the plain mathematics of the hash, by numbers: the functions by which the walks say what the program's hash reckons, and small facts on their sizes.
-/
import Derived.Test.YtjipdjkcdoajbaaGreatDoorRows
import Derived.WalkKit
import Derived.WalkSpells
import Derived.WalkLawsBesides
import Derived.Laws.BitsAllLaws
import Derived.Deep.QuietTactic
import Derived.BigQuiet
import Derived.Laws.Rows
import Derived.Deep.WholeRow
import Derived.Deep.Draws
import Derived.Laws.AppendOwn
import Derived.Deep.MidRow
namespace Go.Proofs.YtjipdjkcdoajbaaGreatDoor.Sha

/-- x turned right by r, in 32 bits. -/
def rotr (x r : Nat) : Nat := x * 2 ^ (32 - r) % 4294967296 ||| x / 2 ^ r
def big3 (x a b c : Nat) : Nat := rotr x a ^^^ rotr x b ^^^ rotr x c
def sm3 (x a b c : Nat) : Nat := rotr x a ^^^ rotr x b ^^^ x / 2 ^ c
def chs (e f g : Nat) : Nat := (e &&& f) ^^^ ((4294967295 - e) &&& g)
def maj (a b c : Nat) : Nat := (a &&& b) ^^^ (a &&& c) ^^^ (b &&& c)

theorem rotr_lt {x r : Nat} (hx : x < 4294967296) : rotr x r < 4294967296 := by
  unfold rotr
  have h1 : x * 2 ^ (32 - r) % 4294967296 < 2 ^ 32 := by have := Nat.mod_lt (x * 2 ^ (32 - r)) (show 0 < 4294967296 by omega); omega
  have h2 : x / 2 ^ r < 2 ^ 32 := by have := Nat.div_le_self x (2 ^ r); omega
  have := Nat.or_lt_two_pow h1 h2
  omega
theorem xor_lt {a b : Nat} (ha : a < 4294967296) (hb : b < 4294967296) : a ^^^ b < 4294967296 := by
  have := Nat.xor_lt_two_pow (x := a) (y := b) (n := 32) (by omega) (by omega)
  omega
theorem and_lt {a b : Nat} (ha : a < 4294967296) : a &&& b < 4294967296 := by
  have := Nat.and_le_left (n := a) (m := b)
  omega
theorem div_lt {a r : Nat} (ha : a < 4294967296) : a / 2 ^ r < 4294967296 := by have := Nat.div_le_self a (2 ^ r); omega
theorem big3_lt {x a b c : Nat} (hx : x < 4294967296) : big3 x a b c < 4294967296 := xor_lt (xor_lt (rotr_lt hx) (rotr_lt hx)) (rotr_lt hx)
theorem sm3_lt {x a b c : Nat} (hx : x < 4294967296) : sm3 x a b c < 4294967296 := xor_lt (xor_lt (rotr_lt hx) (rotr_lt hx)) (div_lt hx)
theorem chs_lt {e f g : Nat} (he : e < 4294967296) : chs e f g < 4294967296 := xor_lt (and_lt he) (and_lt (by omega))
theorem maj_lt {a b c : Nat} (ha : a < 4294967296) (hb : b < 4294967296) : maj a b c < 4294967296 := xor_lt (xor_lt (and_lt ha) (and_lt ha)) (and_lt hb)

/-- The eight numbers A to H. -/
structure St where
  a : Nat
  b : Nat
  c : Nat
  d : Nat
  e : Nat
  f : Nat
  g : Nat
  h : Nat

structure St.Ok (s : St) : Prop where
  a : s.a < 4294967296
  b : s.b < 4294967296
  c : s.c < 4294967296
  d : s.d < 4294967296
  e : s.e < 4294967296
  f : s.f < 4294967296
  g : s.g < 4294967296
  h : s.h < 4294967296

def tOf (s : St) (k w : Nat) : Nat := (s.h + big3 s.e 6 11 25 + chs s.e s.f s.g + k + w) % 4294967296
def uOf (s : St) : Nat := (big3 s.a 2 13 22 + maj s.a s.b s.c) % 4294967296
def step (s : St) (k w : Nat) : St := ⟨(tOf s k w + uOf s) % 4294967296, s.a, s.b, s.c, (s.d + tOf s k w) % 4294967296, s.e, s.f, s.g⟩
theorem step_ok {s : St} (h : s.Ok) (k w : Nat) : (step s k w).Ok :=
  ⟨Nat.mod_lt _ (by omega), h.a, h.b, h.c, Nat.mod_lt _ (by omega), h.e, h.f, h.g⟩
def add (s v : St) : St := ⟨(s.a + v.a) % 4294967296, (s.b + v.b) % 4294967296, (s.c + v.c) % 4294967296, (s.d + v.d) % 4294967296, (s.e + v.e) % 4294967296, (s.f + v.f) % 4294967296, (s.g + v.g) % 4294967296, (s.h + v.h) % 4294967296⟩
theorem add_ok (s v : St) : (add s v).Ok := ⟨Nat.mod_lt _ (by omega), Nat.mod_lt _ (by omega), Nat.mod_lt _ (by omega), Nat.mod_lt _ (by omega), Nat.mod_lt _ (by omega), Nat.mod_lt _ (by omega), Nat.mod_lt _ (by omega), Nat.mod_lt _ (by omega)⟩

def kTab : List Nat := [1116352408, 1899447441, 3049323471, 3921009573, 961987163, 1508970993, 2453635748, 2870763221, 3624381080, 310598401, 607225278, 1426881987, 1925078388, 2162078206, 2614888103, 3248222580, 3835390401, 4022224774, 264347078, 604807628, 770255983, 1249150122, 1555081692, 1996064986, 2554220882, 2821834349, 2952996808, 3210313671, 3336571891, 3584528711, 113926993, 338241895, 666307205, 773529912, 1294757372, 1396182291, 1695183700, 1986661051, 2177026350, 2456956037, 2730485921, 2820302411, 3259730800, 3345764771, 3516065817, 3600352804, 4094571909, 275423344, 430227734, 506948616, 659060556, 883997877, 958139571, 1322822218, 1537002063, 1747873779, 1955562222, 2024104815, 2227730452, 2361852424, 2428436474, 2756734187, 3204031479, 3329325298]

def roundsTo (ws : List Nat) (v : St) : Nat → St
  | 0 => v
  | k + 1 => step (roundsTo ws v k) (kTab.getD k 0) (ws.getD k 0)
theorem roundsTo_ok {ws : List Nat} {v : St} (h : v.Ok) (k : Nat) : (roundsTo ws v k).Ok := by
  induction k with
  | zero => exact h
  | succ k ih => exact step_ok ih _ _

/-- The number of four bytes, the greatest first. -/
def word4 (a b c d : Nat) : Nat := ((a * 16777216 ||| b * 65536) ||| c * 256) ||| d
def byteAt (bs : List UInt8) (i : Nat) : Nat := (bs.getD i 0).toNat
def wordAt (bs : List UInt8) (i : Nat) : Nat := word4 (byteAt bs (4 * i)) (byteAt bs (4 * i + 1)) (byteAt bs (4 * i + 2)) (byteAt bs (4 * i + 3))
def wNext (ws : List Nat) (i : Nat) : Nat := (sm3 (ws.getD (i - 2) 0) 17 19 10 + ws.getD (i - 7) 0 + sm3 (ws.getD (i - 15) 0) 7 18 3 + ws.getD (i - 16) 0) % 4294967296
def zeros (n : Nat) : List Nat := List.replicate n 0
theorem zeros_len (n : Nat) : (zeros n).length = n := by simp [zeros]
/-- The 64 numbers behind k rounds of the first loop, then behind k of the second. -/
def wOne (bs : List UInt8) : Nat → List Nat
  | 0 => zeros 64
  | k + 1 => (wOne bs k).set k (wordAt bs k)
def wTwo (bs : List UInt8) : Nat → List Nat
  | 0 => wOne bs 16
  | k + 1 => (wTwo bs k).set (k + 16) (wNext (wTwo bs k) (k + 16))
def words (bs : List UInt8) : List Nat := wTwo bs 48
def block (s : St) (bs : List UInt8) : St := add s (roundsTo (words bs) s 64)

theorem wOne_len (bs : List UInt8) (k : Nat) : (wOne bs k).length = 64 := by
  induction k with
  | zero => simp [wOne, zeros]
  | succ k ih => simp [wOne, ih]
theorem wTwo_len (bs : List UInt8) (k : Nat) : (wTwo bs k).length = 64 := by
  induction k with
  | zero => exact wOne_len bs 16
  | succ k ih => simp [wTwo, ih]

theorem words_len (bs : List UInt8) : (words bs).length = 64 := wTwo_len bs 48
/-- The sums of two lists of numbers, up to i. -/
def addTo (l m : List Nat) : Nat → List Nat
  | 0 => l
  | i + 1 => (addTo l m i).set i ((l.getD i 0 + m.getD i 0) % 4294967296)
theorem addTo_len (l m : List Nat) (i : Nat) : (addTo l m i).length = l.length := by
  induction i with
  | zero => rfl
  | succ i ih => simp [addTo, ih]
theorem addTo_past (l m : List Nat) (i j : Nat) (h : i ≤ j) : (addTo l m i).getD j 0 = l.getD j 0 := by
  induction i with
  | zero => rfl
  | succ i ih =>
    have := ih (by omega)
    simp only [addTo, List.getD_eq_getElem?_getD, List.getElem?_set] at *
    rw [if_neg (by omega)]
    exact this
theorem addTo_at (l m : List Nat) (i : Nat) : (addTo l m i).getD i 0 = l.getD i 0 := addTo_past l m i i (Nat.le_refl _)
theorem word4_lt {a b c d : Nat} (ha : a < 256) (hb : b < 256) (hc : c < 256) (hd : d < 256) : word4 a b c d < 4294967296 := by
  have h1 := Nat.or_lt_two_pow (n := 32) (x := a * 16777216) (y := b * 65536) (by omega) (by omega)
  have h2 := Nat.or_lt_two_pow (n := 32) (x := a * 16777216 ||| b * 65536) (y := c * 256) h1 (by omega)
  have h3 := Nat.or_lt_two_pow (n := 32) (x := (a * 16777216 ||| b * 65536) ||| c * 256) (y := d) h2 (by omega)
  exact h3
theorem byteAt_lt (bs : List UInt8) (i : Nat) : byteAt bs i < 256 := UInt8.toNat_lt _
theorem getD_set_lt {ws : List Nat} (h : ∀ i, ws.getD i 0 < 4294967296) (k n : Nat) (hn : n < 4294967296) (i : Nat) : (ws.set k n).getD i 0 < 4294967296 := by
  have := h i
  simp only [List.getD_eq_getElem?_getD, List.getElem?_set] at *
  split
  · split
    · exact hn
    · simp
  · exact this
theorem wOne_lt (bs : List UInt8) (k i : Nat) : (wOne bs k).getD i 0 < 4294967296 := by
  induction k generalizing i with
  | zero =>
    simp only [wOne, zeros, List.getD_eq_getElem?_getD, List.getElem?_replicate]
    split <;> simp
  | succ k ih => exact getD_set_lt ih _ _ (word4_lt (byteAt_lt _ _) (byteAt_lt _ _) (byteAt_lt _ _) (byteAt_lt _ _)) i
theorem wTwo_lt (bs : List UInt8) (k i : Nat) : (wTwo bs k).getD i 0 < 4294967296 := by
  induction k generalizing i with
  | zero => exact wOne_lt bs 16 i
  | succ k ih => exact getD_set_lt ih _ _ (Nat.mod_lt _ (by omega)) i

end Go.Proofs.YtjipdjkcdoajbaaGreatDoor.Sha

/-
  PROVED HERE: nothing: what every walk of this seat imports.
-/

/-
  PROVED HERE: small facts on rows of cells that hold numbers, and on worlds: no text of the program.
-/
namespace Go.Proofs.YtjipdjkcdoajbaaGreatDoor
open Go.RowKit

theorem hide {p : Prop} (h : p) : Hid p := h
def cells32 (ws : List Nat) : Array Value := (ws.map fun n => Value.int .u32 ((n : Nat) : Int)).toArray
def cells8 (ws : List Nat) : Array Value := (ws.map fun n => Value.int .u8 ((n : Nat) : Int)).toArray

theorem cells32_at (ws : List Nat) (i : Nat) (h : i < ws.length) : (cells32 ws)[i]? = some (.int .u32 ((ws.getD i 0 : Nat) : Int)) := by
  simp [cells32, h, List.getD_eq_getElem?_getD]
theorem cells32_set (ws : List Nat) (i n : Nat) : (cells32 ws).setIfInBounds i (.int .u32 ((n : Nat) : Int)) = cells32 (ws.set i n) := by
  simp [cells32, List.map_set]
theorem cells32_size (ws : List Nat) : (cells32 ws).size = ws.length := by simp [cells32]
theorem cells32_one (ws : List Nat) : (cells32 ws).all (·.oneCell') = true := by simp [cells32, Value.oneCell']
theorem cells8_at (ws : List Nat) (i : Nat) (h : i < ws.length) : (cells8 ws)[i]? = some (.int .u8 ((ws.getD i 0 : Nat) : Int)) := by
  simp [cells8, h, List.getD_eq_getElem?_getD]
theorem cells8_set (ws : List Nat) (i n : Nat) : (cells8 ws).setIfInBounds i (.int .u8 ((n : Nat) : Int)) = cells8 (ws.set i n) := by
  simp [cells8, List.map_set]
theorem cells8_size (ws : List Nat) : (cells8 ws).size = ws.length := by simp [cells8]
theorem cells8_one (ws : List Nat) : (cells8 ws).all (·.oneCell') = true := by simp [cells8, Value.oneCell']

/-- A store of a number into a row: the row behind it, another block, Below. -/
theorem row32_store {w : World} {g i : Nat} {ws : List Nat} {t : TypeId} (n : Nat) (hg : w.heap[g]? = some (.cells (cells32 ws) t (0, 0))) :
    (w.setCell ⟨g, i, none⟩ (.int .u32 ((n : Nat) : Int))).heap[g]? = some (.cells (cells32 (ws.set i n)) t (0, 0)) := by
  rw [heap_setCell_same w g i _ t _ hg, cells32_set]
theorem row8_store {w : World} {g i : Nat} {ws : List Nat} {t : TypeId} (n : Nat) (hg : w.heap[g]? = some (.cells (cells8 ws) t (0, 0))) :
    (w.setCell ⟨g, i, none⟩ (.int .u8 ((n : Nat) : Int))).heap[g]? = some (.cells (cells8 (ws.set i n)) t (0, 0)) := by
  rw [heap_setCell_same w g i _ t _ hg, cells8_set]
theorem row32_cell {w : World} {g : Nat} {ws : List Nat} {t : TypeId} (hg : w.heap[g]? = some (.cells (cells32 ws) t (0, 0))) (i : Nat) (h : i < ws.length) :
    w.cell? ⟨g, i, none⟩ = some (.int .u32 ((ws.getD i 0 : Nat) : Int)) := by
  rw [cell_of_row w g i _ t _ hg, cells32_at ws i h]
theorem row8_cell {w : World} {g : Nat} {ws : List Nat} {t : TypeId} (hg : w.heap[g]? = some (.cells (cells8 ws) t (0, 0))) (i : Nat) (h : i < ws.length) :
    w.cell? ⟨g, i, none⟩ = some (.int .u8 ((ws.getD i 0 : Nat) : Int)) := by
  rw [cell_of_row w g i _ t _ hg, cells8_at ws i h]
theorem bcell {B : Nat} {W w1 : World} (hb : Below B W w1) : (∀ b o, b < B → w1.cell? ⟨b, o, none⟩ = W.cell? ⟨b, o, none⟩) ∧ (∀ b o, b < B → w1.frozen? ⟨b, o, none⟩ = W.frozen? ⟨b, o, none⟩) :=
  ⟨fun b o h => hb.cell (p := ⟨b, o, none⟩) h, fun b o h => hb.frozen (p := ⟨b, o, none⟩) h⟩
theorem _root_.Go.RowKit.Below.setRow {B : Nat} {a w : World} (h : Below B a w) {g : Nat} (hg : B ≤ g) (cs : Array Value) : Below B a (w.setRow g cs) :=
  h.trans ⟨rfl, rfl, rfl, by simp, fun k hk => setRow_other w g k cs (by omega)⟩
theorem _root_.Go.RowKit.Below.drewN {B : Nat} {a w : World} (h : Below B a w) (n : Nat) : Below B a (w.drewN n) := ⟨h.os, h.tape, h.output, h.size, h.block⟩
theorem cell_off (w : World) (g i j : Nat) (v : Value) (h : ¬ i = j) : (w.setCell ⟨g, i, none⟩ v).cell? ⟨g, j, none⟩ = w.cell? ⟨g, j, none⟩ :=
  World.cell?_setCell_other w _ _ v (by simp)
theorem size_alloc (w : World) (o : Obj) : (w.alloc o).heap.size = w.heap.size + 1 := by
  show (w.heap.push o).size = _
  simp
theorem size_alloc2 (w : World) (A B : Obj) : ((w.alloc A).alloc B).heap.size = w.heap.size + 2 := by rw [size_alloc, size_alloc]
/-- Behind a callee's contract, two blocks of one's own laid ahead of it. -/
theorem below2 {w w1 : World} {A B : Obj} (hb : Below ((w.alloc A).alloc B).heap.size ((w.alloc A).alloc B) w1) :
    w.heap.size + 1 < w1.heap.size ∧ w1.heap[w.heap.size]? = some A ∧ w1.heap[w.heap.size + 1]? = some B ∧ Below w.heap.size w w1 := by
  have hs := size_alloc2 w A B
  refine ⟨by have := hb.size; omega, (hb.block _ (by omega)).trans (heap_alloc2_old _ _ _), (hb.block _ (by omega)).trans (heap_alloc2_new _ _ _), ?_⟩
  exact (((Below.refl _ _).alloc (Nat.le_refl _) _).alloc (by rw [size_alloc]; omega) _).trans (hb.mono (by omega))
theorem lt_of_row {w : World} {g : Nat} {o : Obj} (h : w.heap[g]? = some o) : g < w.heap.size := (Array.getElem?_eq_some_iff.1 h).1
end Go.Proofs.YtjipdjkcdoajbaaGreatDoor

/-
  PROVED HERE: rows that one owns stay one's own while others come; no text of the program.
-/
namespace Go.Proofs.YtjipdjkcdoajbaaGreatDoor
open Go.RowKit
theorem lt_of_row' {w : World} {g : Nat} {o : Obj} (h : w.heap[g]? = some o) : g < w.heap.size := (Array.getElem?_eq_some_iff.1 h).1
theorem ownsRow_later {w w' : World} {base : Nat} {e : TypeId} {size : Nat} {v : Value} {n : Nat} {xs : List Value} (h : w.ownsRow base e size v n xs) (hb : Below w.heap.size w w') : w'.ownsRow base e size v n xs := by
  refine ⟨h.1, h.2.imp id ?_⟩
  rintro ⟨g, cap, cur, e1, e2, e3, e4⟩
  exact ⟨g, cap, cur, e1, e2, (hb.block g (lt_of_row' e3)).trans e3, e4⟩
theorem row_cells {w : World} {g : Nat} {cs : Array Value} {t : TypeId} {fr : Nat × Nat} (h : w.heap[g]? = some (.cells cs t fr)) : ∀ j u, cs.toList[j]? = some u → w.cell? ((⟨g, 0, none⟩ : Addr).add j) = some u := by
  intro j u hj
  rw [Addr.add_mid, cell_of_row w g (0 + j) _ _ _ h]
  simpa using hj
theorem grown_below {B : Nat} {a w w' : World} {v : Value} {base : Nat} {e : TypeId} {size n : Nat} {xs : List Value} (h : Below B a w) (hg : w.grownBy w' v.ownBlock) (ho : w.ownsRow base e size v n xs) (hB : B ≤ base) (hs : B ≤ w.heap.size) : Below B a w' :=
  h.grown hg hs fun k hk => Nat.le_trans hB (ho.lt k hk).1

theorem grown_keeps {w w2 : World} {v : Value} (hg : w.grownBy w2 v.ownBlock) {g : Nat} {o : Obj} (h : w.heap[g]? = some o) (hne : v.ownBlock ≠ some g) : w2.heap[g]? = some o :=
  (hg.block g (lt_of_row' h) (fun e => hne e.symm)).trans h
end Go.Proofs.YtjipdjkcdoajbaaGreatDoor

/-
  PROVED HERE: small facts on rows that one owns; no text of the program.
-/
namespace Go.Proofs.YtjipdjkcdoajbaaGreatDoor
open Go.RowKit
theorem _root_.Go.World.ownsRow.mono_base {w : World} {base base' : Nat} {v : Value} {n : Nat} {e : TypeId} {size : Nat} {xs : List Value} (h : w.ownsRow base' e size v n xs) (hb : base ≤ base') : w.ownsRow base e size v n xs := by
  refine ⟨h.1, h.2.imp id ?_⟩
  rintro ⟨g, cap, cur, e1, e2, e3⟩
  exact ⟨g, cap, cur, e1, Nat.le_trans hb e2, e3⟩
theorem own_same {w w' : World} {base : Nat} {e : TypeId} {size : Nat} {v : Value} {n : Nat} {xs : List Value} (h : w.ownsRow base e size v n xs) (hb : ∀ k, v.ownBlock = some k → k < w.heap.size → w'.heap[k]? = w.heap[k]?) : w'.ownsRow base e size v n xs := by
  refine ⟨h.1, h.2.imp id ?_⟩
  rintro ⟨g, cap, cur, rfl, e2, e3, e4⟩
  exact ⟨g, cap, cur, rfl, e2, (hb g rfl (lt_of_row e3)).trans e3, e4⟩
theorem tk_ne {w : World} {base b o : Nat} {v : Value} {n : Nat} {e : TypeId} {size : Nat} {xs : List Value} (h : w.ownsRow base e size v n xs) (hb : b < base) : some (⟨b, o, none⟩ : Addr).block ≠ v.ownBlock := by
  intro e
  have := (h.lt b e.symm).1
  omega
theorem own_apart {w : World} {base b : Nat} {v : Value} {n : Nat} {e : TypeId} {size : Nat} {xs : List Value} (h : w.ownsRow base e size v n xs) (hb : b < base) : v.ownBlock = none ∨ v.ownBlock ≠ some b := by
  cases hv : v.ownBlock with
  | none => exact .inl rfl
  | some k => right; intro e; injection e with e; have := (h.lt k hv).1; omega
theorem own_sl {w : World} {base : Nat} {v : Value} {n : Nat} {e : TypeId} {size : Nat} {xs : List Value} (h : w.ownsRow base e size v n xs) : ∃ o cap, v = .slice o n cap := by
  rcases h.2 with ⟨rfl, rfl⟩ | ⟨g, cap, cur, rfl, -⟩
  · exact ⟨_, _, rfl⟩
  · exact ⟨_, _, rfl⟩
theorem Tryz.infoTag : (Tryz.prog.info? 84).map (fun i => (i.zero, i.size, i.bytes)) = some (some (.agg #[.string ⟨#[]⟩, .string ⟨#[]⟩, .int .i64 0]), 3, 40) := by kernel_rfl
end Go.Proofs.YtjipdjkcdoajbaaGreatDoor

/-
  PROVED HERE: small facts on worlds that grow; no text of the program.
-/
namespace Go.Proofs.YtjipdjkcdoajbaaGreatDoor
open Go.RowKit
theorem lt_heap {w : World} {g : Nat} {o : Obj} (h : w.heap[g]? = some o) : g < w.heap.size := (Array.getElem?_eq_some_iff.1 h).1
theorem grownBy_refl (w : World) (r : Option Nat) : w.grownBy w r := ⟨rfl, rfl, rfl, Nat.le_refl _, fun _ _ _ => rfl⟩
theorem grownBy_trans {w w1 w2 : World} {r : Option Nat} (h1 : w.grownBy w1 r) (h2 : w1.grownBy w2 r) : w.grownBy w2 r :=
  ⟨h2.os.trans h1.os, h2.tape.trans h1.tape, h2.output.trans h1.output, Nat.le_trans h1.size h2.size, fun k hk hne => (h2.block k (Nat.lt_of_lt_of_le hk h1.size) hne).trans (h1.block k hk hne)⟩
theorem grownBy_set (w : World) (b o : Nat) (v : Value) : w.grownBy (w.setCell ⟨b, o, none⟩ v) (some b) :=
  ⟨rfl, rfl, rfl, by simp, fun k _ hne => heap_setCell_other _ _ _ _ (fun e => hne (by rw [e]))⟩
theorem grownBy_below {w w1 : World} (h : Below w.heap.size w w1) (r : Option Nat) : w.grownBy w1 r := ⟨h.os, h.tape, h.output, h.size, fun k hk _ => h.block k hk⟩
/-- The world has grown, and of the elder blocks only those of S may have changed. -/
structure Gr (S : Nat → Prop) (w w' : World) : Prop where
  os : w'.os = w.os
  tape : w'.tape = w.tape
  output : w'.output = w.output
  size : w.heap.size ≤ w'.heap.size
  block : ∀ k, k < w.heap.size → ¬ S k → w'.heap[k]? = w.heap[k]?
theorem Gr.refl (S : Nat → Prop) (w : World) : Gr S w w := ⟨rfl, rfl, rfl, Nat.le_refl _, fun _ _ _ => rfl⟩
theorem Gr.trans {S : Nat → Prop} {w w1 w2 : World} (h1 : Gr S w w1) (h2 : Gr S w1 w2) : Gr S w w2 :=
  ⟨h2.os.trans h1.os, h2.tape.trans h1.tape, h2.output.trans h1.output, Nat.le_trans h1.size h2.size, fun k hk hn => (h2.block k (Nat.lt_of_lt_of_le hk h1.size) hn).trans (h1.block k hk hn)⟩
theorem Gr.mono {S S' : Nat → Prop} {w w1 : World} (h : Gr S w w1) (hS : ∀ k, k < w.heap.size → S k → S' k) : Gr S' w w1 :=
  ⟨h.os, h.tape, h.output, h.size, fun k hk hn => h.block k hk fun hs => hn (hS k hk hs)⟩
theorem Gr.of_grownBy {S : Nat → Prop} {w w1 : World} {b : Nat} (h : w.grownBy w1 (some b)) (hb : S b) : Gr S w w1 :=
  ⟨h.os, h.tape, h.output, h.size, fun k hk hn => h.block k hk fun e => by cases e; exact hn hb⟩
theorem Gr.of_below {S : Nat → Prop} {w w1 : World} (h : Below w.heap.size w w1) : Gr S w w1 :=
  ⟨h.os, h.tape, h.output, h.size, fun k hk _ => h.block k hk⟩
theorem row_store {w : World} {g i : Nat} {cs : Array Value} {t : TypeId} (v : Value) (hg : w.heap[g]? = some (.cells cs t (0, 0))) : (w.setCell ⟨g, i, none⟩ v).heap[g]? = some (.cells (cs.setIfInBounds i v) t (0, 0)) := by
  rw [heap_setCell_same w g i _ t _ hg]
theorem setCells_row (g : Nat) (T : TypeId) : ∀ (vs : List Value) (o : Nat) (w : World) (cur : Array Value), w.heap[g]? = some (.cells cur T (0, 0)) → o + vs.length ≤ cur.size →
    ∃ cur', (w.setCells g o vs).heap[g]? = some (.cells cur' T (0, 0)) ∧ cur'.size = cur.size ∧ (∀ j, j < o → cur'[j]? = cur[j]?) ∧ (∀ j, j < vs.length → cur'[o + j]? = vs[j]?)
  | [], o, w, cur, h, _ => ⟨cur, h, rfl, fun _ _ => rfl, fun j hj => by simp at hj⟩
  | v :: vs, o, w, cur, h, hl => by
    simp only [List.length_cons] at hl
    obtain ⟨cur', h1, h2, h3, h4⟩ := setCells_row g T vs (o + 1) (w.setCell ⟨g, o, none⟩ v) _ (row_store v h) (by simp; omega)
    refine ⟨cur', h1, by simpa using h2, fun j hj => ?_, fun j hj => ?_⟩
    · rw [h3 j (by omega)]
      simp [Array.getElem?_setIfInBounds]
      intro e; omega
    · cases j with
      | zero =>
        rw [Nat.add_zero, h3 o (by omega)]
        simp [Array.getElem?_setIfInBounds]
        omega
      | succ j =>
        rw [show o + (j + 1) = o + 1 + j by omega, h4 j (by simpa using hj)]
        simp
theorem below_sets {B g : Nat} (hg : B ≤ g) : ∀ (vs : List Value) (o : Nat) (w : World), Below B w (w.setCells g o vs)
  | [], _, w => Below.refl _ w
  | v :: vs, o, w => ((Below.refl B w).setCell (p := ⟨g, o, none⟩) hg v).trans (below_sets hg vs (o + 1) _)
end Go.Proofs.YtjipdjkcdoajbaaGreatDoor
