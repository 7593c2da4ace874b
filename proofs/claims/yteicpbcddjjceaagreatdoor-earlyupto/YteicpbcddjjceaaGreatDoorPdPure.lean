/-
  PROVED HERE: maps from paths to blocks, as lists of entries that rise; no text of the program.
-/
import Derived.Test.YteicpbcddjjceaaGreatDoorDkPure
import Derived.Maps.RangeWalk
import Derived.Maps.Ext
import Derived.StringKeys
namespace Go.Proofs.YteicpbcddjjceaaGreatDoor
open Go.RowKit
/-- Rising entries. -/
def Rise (l : List DE) : Prop := l.Pairwise (fun x y => lessB x.path y.path = true)
/-- How a pointer to a whole block reads: by the block's number. -/
def ptrRd : Value → Option (DataW Unit × List MemPlace)
  | .pointer none => some (.nil, [])
  | .pointer (some ⟨b, 0, none⟩) => some (.lit (.int .i64 (b : Int)), [])
  | _ => none
theorem ptrRd_inv {v : Value} {z : DataW Unit × List MemPlace} (h : ptrRd v = some z) : (v = .pointer none ∧ z = (.nil, [])) ∨ ∃ b : Nat, v = .pointer (some ⟨b, 0, none⟩) ∧ z = (.lit (.int .i64 (b : Int)), []) := by
  unfold ptrRd at h
  split at h
  · exact .inl ⟨rfl, by injection h with h; exact h.symm⟩
  · exact .inr ⟨_, rfl, by injection h with h; exact h.symm⟩
  · cases h
def kOf (p : ByteArray) : Lit := .string p.data.toList
def dE (e : DE) : Lit × DataW Unit := (kOf e.path, .lit (.int .i64 (e.blk : Int)))
def dOf (l : List DE) : DataW Unit := .map (l.map dE)
/-- Block b is a map that has these entries. -/
def PM (P : Program) (k : TypeId) (w : World) (b : Nat) (l : List DE) : Prop := w.ownsMap P k ptrRd b l.length (dOf l)
theorem pm_tight {P : Program} {k : TypeId} {w : World} {b n : Nat} {l : List DE} (h : w.ownsMap P k ptrRd b n (dOf l)) : PM P k w b l := by
  obtain ⟨es, clock, hb, F, hs, hD⟩ := h
  refine ⟨es, clock, hb, F, ?_, hD⟩
  have h1 := congrArg (fun d => Maps.size d) hD
  simp only [dOf, Maps.size, List.length_map, length_sorted, Array.length_toList] at h1
  omega
theorem before_less : ∀ a b : List UInt8, bytesBefore a b = Op.bytesLess a b
  | [], [] => rfl
  | [], _ :: _ => rfl
  | _ :: _, [] => rfl
  | a :: r, b :: s => by simp only [bytesBefore, Op.bytesLess, before_less r s]
theorem kOf_before (p q : ByteArray) : (kOf p).before (kOf q) = lessB p q := by
  show bytesBefore _ _ = _
  rw [before_less, lessB, ByteArray.toList_eq, ByteArray.toList_eq]
theorem kOf_same (p q : ByteArray) : (kOf p).sameKey (kOf q) = decide (p = q) := by
  show (p.data.toList == q.data.toList) = _
  by_cases h : p = q
  · subst h; simp
  · rw [decide_eq_false h, beq_eq_false_iff_ne]
    exact fun e => h (WideShapes.bytes_inj e)
theorem PM.rise {P : Program} {k : TypeId} {w : World} {b : Nat} {l : List DE} (h : PM P k w b l) (K : Maps.Keyed P k) : Rise l := by
  obtain ⟨es, e, hp, _⟩ := World.ownsMap.canon h K
  injection e with e
  rw [← e, List.pairwise_map] at hp
  refine hp.imp ?_
  intro x y hxy
  rw [← kOf_before]; exact hxy
theorem dOf_find (p : ByteArray) : ∀ l : List DE, (l.map dE).find? (fun x => x.1.sameKey (kOf p)) = (l.find? (fun e => decide (e.path = p))).map dE
  | [] => rfl
  | e :: es => by
    simp only [List.map_cons, List.find?_cons]
    have : (dE e).1.sameKey (kOf p) = decide (e.path = p) := kOf_same _ _
    rw [this]
    cases decide (e.path = p)
    · exact dOf_find p es
    · rfl
theorem findE_find (p : ByteArray) : ∀ l : List DE, findE p l = (l.find? (fun e => decide (e.path = p))).map DE.blk
  | [] => rfl
  | e :: es => by
    unfold findE
    rw [List.find?_cons]
    by_cases h : e.path = p
    · simp [h]
    · simp [h, findE_find p es]
def ptrD : Option Nat → DataW Unit
  | none => .nil
  | some b => .lit (.int .i64 (b : Int))
theorem dOf_at (p : ByteArray) (l : List DE) : (dOf l).atKey (kOf p) .nil = ptrD (findE p l) := by
  simp only [dOf, DataW.atKey]
  rw [dOf_find, findE_find]
  cases l.find? (fun e => decide (e.path = p)) <;> rfl
theorem ptrRd_of {v : Value} {o : Option Nat} {ps : List MemPlace} (h : ptrRd v = some (ptrD o, ps)) : v = ptrOf o := by
  rcases ptrRd_inv h with ⟨rfl, e⟩ | ⟨b, rfl, e⟩
  · cases o with
    | none => rfl
    | some b => cases e
  · cases o with
    | none => cases e
    | some c =>
      simp only [ptrD, Prod.mk.injEq, DataW.lit.injEq, Lit.int.injEq] at e
      have : c = b := by omega
      subst this; rfl
/-- 'm[p]'. -/
theorem PM.look {P : Program} {k t e : TypeId} {w : World} {b : Nat} {l : List DE} (h : PM P k w b l) (hk : P.underlying k = some .string) (ht : P.underlying t = some (.map k e)) (hz : (zeroValue e).run P w = .ok (.pointer none) w) (p : ByteArray) (hp : p.size ≤ maxLen) :
    (Instr.lookup t (.map (some b)) (.string p) false).run P w = .ok (ptrOf (findE p l)) w := by
  obtain ⟨v, ps, hr, hv⟩ := World.ownsMap.lookup h (Maps.string_keyed hk) ht hz (zd := .nil) (zp := []) rfl (WideMaps.keyOf_string_mk hk hp)
  rw [show Lit.string p.data.toList = kOf p from rfl, dOf_at] at hv
  rw [hr, ptrRd_of hv]
theorem withE_done (p : ByteArray) (ob : Option Nat) : ∀ l : List DE, withE p ob l true = l.filter (fun e => !decide (e.path = p))
  | [] => rfl
  | e :: es => by
    unfold withE
    rw [List.filter_cons]
    by_cases h : e.path = p
    · simp [h, withE_done p ob es]
    · simp [h, withE_done p ob es]
theorem dOf_del (p : ByteArray) (l : List DE) : (dOf l).del (kOf p) = dOf (withE p none l true) := by
  show DataW.map ((l.map dE).filter fun x => !x.1.sameKey (kOf p)) = _
  rw [List.filter_map, withE_done]
  unfold dOf
  congr 2
  refine List.filter_congr fun e _ => ?_
  show (!(kOf e.path).sameKey (kOf p)) = _
  rw [kOf_same]
theorem less_irrefl (p : ByteArray) : lessB p p = false := by
  rw [← kOf_before]; exact WideAt.bytes_irrefl _
theorem less_trans {p q r : ByteArray} (h1 : lessB p q = true) (h2 : lessB q r = true) : lessB p r = true := by
  rw [← kOf_before] at *
  exact WideShapes.bytes_trans _ _ _ h1 h2
theorem less_total {p q : ByteArray} (h : p ≠ q) : lessB p q = true ∨ lessB q p = true := by
  rw [← kOf_before, ← kOf_before]
  exact WideAt.bytes_total _ _ (fun e => h (WideShapes.bytes_inj e))
theorem filter_all (p : ByteArray) : ∀ l : List DE, (∀ e ∈ l, e.path ≠ p) → l.filter (fun e => !decide (e.path = p)) = l := by
  intro l h
  rw [List.filter_eq_self]
  intro e he
  simp [h e he]
/-- Among rising entries: laid in where it belongs. -/
theorem withE_put (p : ByteArray) (nb : Nat) : ∀ l : List DE, Rise l → (withE p (some nb) l false).map dE = DataW.insert (kOf p, .lit (.int .i64 (nb : Int))) ((l.filter (fun e => !decide (e.path = p))).map dE)
  | [], _ => rfl
  | e :: es, hr => by
    obtain ⟨h1, h2⟩ := List.pairwise_cons.1 hr
    have ih := withE_put p nb es h2
    unfold withE
    rw [List.filter_cons]
    by_cases he : e.path = p
    · subst he
      have hall : es.filter (fun x => !decide (x.path = e.path)) = es := filter_all _ _ (fun x hx hxe => by have := h1 x hx; rw [hxe, less_irrefl] at this; cases this)
      rw [hall] at ih
      simp only [less_irrefl, Bool.and_false, Bool.false_eq_true, if_false, if_true, List.nil_append, Bool.or_self, decide_true, Bool.not_true]
      rw [hall, ih]
    · by_cases hl : lessB p e.path = true
      · have hall : es.filter (fun x => !decide (x.path = p)) = es := filter_all _ _ (fun x hx hxe => by
          have := less_trans hl (h1 x hx)
          rw [hxe, less_irrefl] at this; cases this)
        have hb : (kOf p).before (dE e).1 = true := by rw [show (dE e).1 = kOf e.path from rfl, kOf_before]; exact hl
        simp only [hl, he, Bool.not_false, Bool.and_self, if_true, if_false, Bool.or_true, decide_false, Bool.not_false]
        rw [withE_done, hall]
        simp only [List.map_cons, DataW.insert, hb, if_true, List.cons_append, List.nil_append]
        rfl
      · have hl' : lessB p e.path = false := by simpa using hl
        have hb : (kOf p).before (dE e).1 = false := by rw [show (dE e).1 = kOf e.path from rfl, kOf_before]; exact hl'
        simp only [hl', he, Bool.and_false, Bool.false_eq_true, if_false, Bool.or_self, decide_false, Bool.not_false, if_true, List.nil_append, List.cons_append, List.map_cons, DataW.insert, hb]
        rw [ih]
theorem dOf_put (p : ByteArray) (nb : Nat) (l : List DE) (hr : Rise l) : (dOf l).put (kOf p) (.lit (.int .i64 (nb : Int))) = dOf (withE p (some nb) l false) := by
  unfold dOf
  rw [withE_put p nb l hr]
  show DataW.map (DataW.insert _ ((l.map dE).filter fun x => !x.1.sameKey (kOf p))) = _
  rw [List.filter_map]
  congr 4
  funext e
  show (!(kOf e.path).sameKey (kOf p)) = _
  rw [kOf_same]
theorem PM.later {P : Program} {k : TypeId} {w w' : World} {b : Nat} {l : List DE} (h : PM P k w b l) (hs : w'.heap[b]? = w.heap[b]?) : PM P k w' b l := by
  obtain ⟨es, clock, hb, r⟩ := h
  exact ⟨es, clock, hs.trans hb, r⟩
theorem PM.isMap {P : Program} {k : TypeId} {w : World} {b : Nat} {l : List DE} (h : PM P k w b l) : ∃ es clock, w.heap[b]? = some (.map es clock) := by
  obtain ⟨es, clock, hb, r⟩ := h
  exact ⟨es, clock, hb⟩
theorem PM.lt {P : Program} {k : TypeId} {w : World} {b : Nat} {l : List DE} (h : PM P k w b l) : b < w.heap.size := World.ownsMap.lt h
section
variable {P : Program} (w : World) {ops : Array Oper} {rest : List Oper} {o : Oper} {a : Act} {Q : Exit → Act → World → Prop}
/-- 'delete(m, p)'. -/
theorem wpList_del_pm (hg : o.guard = none) (m x : Operand) (t k : TypeId) (hop : o.op = Op.call { callee := Callee.builtin Builtin.delete, args := #[m, x], argTypes := #[t, k] })
    (e : TypeId) (hk : P.underlying k = some .string) (ht : P.underlying t = some (.map k e)) (b : Nat) (l : List DE)
    (hm : a.eval m = .map (some b)) (hown : PM P k w b l) (p : ByteArray) (hx : a.eval x = .string p) (hp : p.size ≤ maxLen)
    (hK : ∀ w', PM P k w' b (withE p none l true) → w.mapTurned w' b → wpList P ops Q rest (a.put o.dst (.tuple #[])) w') :
    wpList P ops Q (o :: rest) a w := by
  refine wpList_delete_own w hg m x t k hop e (Maps.string_keyed hk) ht ptrRd b l.length (dOf l) hm hown _ (kOf p) hx (WideMaps.keyOf_string_mk hk hp) ?_
  intro w' h1 h2
  rw [dOf_del] at h1
  exact hK w' (pm_tight h1) h2
/-- 'm[p] = f'. -/
theorem wpList_put_pm (hg : o.guard = none) (m x v : Operand) (t : TypeId) (hop : o.op = Op.mapUpdate t m x v)
    (k e : TypeId) (hk : P.underlying k = some .string) (ht : P.underlying t = some (.map k e)) (b : Nat) (l : List DE)
    (hm : a.eval m = .map (some b)) (hown : PM P k w b l) (hn : l.length < maxLen) (p : ByteArray) (nb : Nat) (hx : a.eval x = .string p) (hv : a.eval v = .pointer (some ⟨nb, 0, none⟩)) (hp : p.size ≤ maxLen)
    (hK : ∀ w', PM P k w' b (withE p (some nb) l false) → w.mapTurned w' b → wpList P ops Q rest (a.put o.dst undef) w') :
    wpList P ops Q (o :: rest) a w := by
  refine wpList_mapUpdate_in w hg m x v t hop k e (Maps.string_keyed hk) ht ptrRd b l.length (dOf l) hm hown hn _ _ (kOf p) hx hv (WideMaps.keyOf_string_mk hk hp) (.lit (.int .i64 (nb : Int))) [] rfl ?_
  intro w' h1 h2
  rw [dOf_put p nb l (PM.rise hown (Maps.string_keyed hk))] at h1
  exact hK w' (pm_tight h1) h2
end
end Go.Proofs.YteicpbcddjjceaaGreatDoor

/-
  PROVED HERE: entries and changes of paths carried from the blocks of one side to those of the other; what a disk always is; no text of the program.
-/
namespace Go.Proofs.YteicpbcddjjceaaGreatDoor
open Go.RowKit
/-! Entries and changes carried from the files' blocks of one side to those of the other. -/
def DE.mv (φ : Nat → Nat) (e : DE) : DE := ⟨e.path, φ e.blk⟩
def CH.mv (φ : Nat → Nat) (c : CH) : CH := ⟨c.frm, c.too, φ c.blk⟩
def RDk.mv (φ : Nat → Nat) (R : RDk) : RDk := { R with now := R.now.map (DE.mv φ), safe := R.safe.map (DE.mv φ), chg := R.chg.map (CH.mv φ) }
theorem findE_mv (φ : Nat → Nat) (p : ByteArray) : ∀ l : List DE, findE p (l.map (DE.mv φ)) = (findE p l).map φ
  | [] => rfl
  | e :: es => by
    rw [List.map_cons]
    unfold findE
    by_cases h : e.path = p
    · simp [DE.mv, h]
    · simp only [DE.mv, h, if_false]
      exact findE_mv φ p es
theorem withE_mv (φ : Nat → Nat) (p : ByteArray) (ob : Option Nat) : ∀ (l : List DE) (d : Bool), withE p (ob.map φ) (l.map (DE.mv φ)) d = (withE p ob l d).map (DE.mv φ)
  | [], d => by
    rw [List.map_nil]
    unfold withE
    cases d <;> cases ob <;> rfl
  | e :: es, d => by
    rw [List.map_cons]
    unfold withE
    rw [show (DE.mv φ e).path = e.path from rfl, withE_mv φ p ob es, List.map_append, List.map_append]
    congr 1
    congr 1
    · cases (!d && lessB p e.path) <;> cases ob <;> rfl
    · by_cases h : e.path = p <;> simp [h]
theorem afterE_mv (φ : Nat → Nat) (l : List DE) (frm too : ByteArray) (nb : Nat) : afterE (l.map (DE.mv φ)) frm too (φ nb) = (afterE l frm too nb).map (DE.mv φ) := by
  unfold afterE
  have h1 := withE_mv φ frm none l true
  by_cases hf : frm = ⟨#[]⟩
  · have h2 := withE_mv φ too (some nb) l false
    by_cases ht : too = ⟨#[]⟩
    · simp [hf, ht]
    · simpa [hf, ht] using h2
  · have h2 := withE_mv φ too (some nb) (withE frm none l true) false
    by_cases ht : too = ⟨#[]⟩
    · simpa [hf, ht] using h1
    · simp only [hf, ht, if_false]
      rw [← h2, ← h1]
      rfl
theorem usedE_mv (φ : Nat → Nat) (nd fd : Nat → ByteArray × Int) : ∀ l : List DE, (∀ e ∈ l, fd (φ e.blk) = nd e.blk) → usedE fd (l.map (DE.mv φ)) = usedE nd l
  | [], _ => rfl
  | e :: es, h => by
    rw [List.map_cons]
    unfold usedE
    rw [usedE_mv φ nd fd es (fun x hx => h x (by simp [hx])), show (DE.mv φ e).blk = φ e.blk from rfl, h e (by simp)]
theorem mv_congr {φ ψ : Nat → Nat} {l : List DE} (h : ∀ e ∈ l, φ e.blk = ψ e.blk) : l.map (DE.mv φ) = l.map (DE.mv ψ) := List.map_congr_left (fun e he => by simp [DE.mv, h e he])
theorem mvc_congr {φ ψ : Nat → Nat} {l : List CH} (h : ∀ e ∈ l, φ e.blk = ψ e.blk) : l.map (CH.mv φ) = l.map (CH.mv ψ) := List.map_congr_left (fun e he => by simp [CH.mv, h e he])
/-- None under the empty path. -/
def NoEmp (l : List DE) : Prop := ∀ e ∈ l, e.path ≠ ⟨#[]⟩
theorem withE_path {p : ByteArray} {ob : Option Nat} : ∀ {l : List DE} {d : Bool} {e : DE}, e ∈ withE p ob l d → (e ∈ l ∧ e.path ≠ p) ∨ e.path = p
  | [], d, e, h => by
    unfold withE at h
    cases d <;> cases ob <;> simp at h
    exact .inr (by rw [h])
  | x :: l, d, e, h => by
    unfold withE at h
    rcases List.mem_append.1 h with h | h
    · rcases List.mem_append.1 h with h | h
      · cases hc : (!d && lessB p x.path) <;> cases ob <;> simp [hc] at h
        exact .inr (by rw [h])
      · by_cases hx : x.path = p
        · simp [hx] at h
        · simp only [hx, if_false, List.mem_singleton] at h
          exact .inl ⟨by rw [h]; simp, by rw [h]; exact hx⟩
    · rcases withE_path h with ⟨h1, h2⟩ | h1
      · exact .inl ⟨by simp [h1], h2⟩
      · exact .inr h1
theorem withE_noEmp {p : ByteArray} {ob : Option Nat} {l : List DE} {d : Bool} (h : NoEmp l) (hp : p ≠ ⟨#[]⟩) : NoEmp (withE p ob l d) := by
  intro e he
  rcases withE_path he with ⟨h1, _⟩ | h1
  · exact h e h1
  · rw [h1]; exact hp
theorem afterE_noEmp {l : List DE} (h : NoEmp l) (frm too : ByteArray) (nb : Nat) : NoEmp (afterE l frm too nb) := by
  unfold afterE
  by_cases hf : frm = ⟨#[]⟩
  · by_cases ht : too = ⟨#[]⟩
    · simpa [hf, ht] using h
    · simpa [hf, ht] using withE_noEmp h ht
  · by_cases ht : too = ⟨#[]⟩
    · simpa [hf, ht] using withE_noEmp h hf
    · simpa [hf, ht] using withE_noEmp (withE_noEmp h hf) ht
/-- What the program does with a change of paths. -/
def applyE (l : List DE) (c : CH) : List DE := if c.too = ⟨#[]⟩ then withE c.frm none l true else withE c.too (some c.blk) (withE c.frm none l true) false
theorem withE_nil_path {l : List DE} (h : NoEmp l) : withE ⟨#[]⟩ none l true = l := by
  induction l with
  | nil => rfl
  | cons e es ih =>
    have h0 := h e (by simp)
    unfold withE
    simp only [Bool.not_true, Bool.false_and, Bool.false_eq_true, if_false, h0, Bool.true_or, List.nil_append, List.cons_append]
    rw [ih (fun x hx => h x (by simp [hx]))]
theorem applyE_after {l : List DE} (h : NoEmp l) (c : CH) : applyE l c = afterE l c.frm c.too c.blk := by
  unfold applyE afterE
  by_cases hf : c.frm = ⟨#[]⟩
  · simp only [hf, if_true, withE_nil_path h]
  · simp only [hf, if_false]
def goE (l : List DE) (cs : List CH) : List DE := cs.foldl (fun l c => afterE l c.frm c.too c.blk) l
theorem goE_noEmp : ∀ (cs : List CH) {l : List DE}, NoEmp l → NoEmp (goE l cs)
  | [], _, h => h
  | _ :: cs, _, h => goE_noEmp cs (afterE_noEmp h _ _ _)
theorem goE_apply : ∀ (cs : List CH) {l : List DE}, NoEmp l → cs.foldl applyE l = goE l cs
  | [], _, _ => rfl
  | c :: cs, l, h => by
    show cs.foldl applyE (applyE l c) = goE (afterE l c.frm c.too c.blk) cs
    rw [applyE_after h, goE_apply cs (afterE_noEmp h _ _ _)]
theorem goE_mv (φ : Nat → Nat) : ∀ (cs : List CH) (l : List DE), goE (l.map (DE.mv φ)) (cs.map (CH.mv φ)) = (goE l cs).map (DE.mv φ)
  | [], _ => rfl
  | c :: cs, l => by
    show goE (afterE (l.map (DE.mv φ)) c.frm c.too (φ c.blk)) (cs.map (CH.mv φ)) = _
    rw [afterE_mv, goE_mv φ cs]
    rfl
theorem goE_snoc (l : List DE) (cs : List CH) (c : CH) : goE l (cs ++ [c]) = afterE (goE l cs) c.frm c.too c.blk := by
  unfold goE; rw [List.foldl_append]; rfl
theorem goE_mem : ∀ (cs : List CH) {l : List DE} {e : DE}, e ∈ goE l cs → e ∈ l ∨ ∃ c ∈ cs, e.blk = c.blk
  | [], _, _, h => .inl h
  | c :: cs, l, e, h => by
    rcases goE_mem cs (l := afterE l c.frm c.too c.blk) h with h1 | ⟨x, hx, hb⟩
    · rcases afterE_mem h1 with h2 | h2
      · exact .inl h2
      · exact .inr ⟨c, by simp, h2⟩
    · exact .inr ⟨x, by simp [hx], hb⟩
/-- What a disk always is. -/
structure Inv (R : RDk) : Prop where
  go : R.now = goE R.safe R.chg
  ne : NoEmp R.safe
theorem Inv.nowNe {R : RDk} (h : Inv R) : NoEmp R.now := by rw [h.go]; exact goE_noEmp _ h.ne
theorem Inv.wrote {R : RDk} (h : Inv R) : Inv R.wrote := ⟨h.go, h.ne⟩
theorem Inv.push {R : RDk} (h : Inv R) (c : CH) : Inv { R with now := afterE R.now c.frm c.too c.blk, chg := R.chg ++ [c] } := ⟨by dsimp only; rw [goE_snoc, ← h.go], h.ne⟩
theorem Inv.sync {R : RDk} (h : Inv R) : Inv { R with safe := R.now, chg := [] } := ⟨rfl, h.nowNe⟩
/-- What a crash leaves of a file. -/
def cutK (x : ByteArray × Int) (k : Int) : ByteArray × Int :=
  let n := (x.2 + min (max k 0) ((x.1.size : Int) - x.2)).toNat
  (x.1.extract 0 n, (n : Int))
def crashN (nd : Nat → ByteArray × Int) : List DE → List Int → (Nat → ByteArray × Int)
  | [], _ => nd
  | e :: es, ks => crashN (setNd nd e.blk (cutK (nd e.blk) (ks.headD 0))) es ks.tail
theorem crashN_mv (φ : Nat → Nat) (ns : List Nat) (hinj : ∀ a ∈ ns, ∀ b ∈ ns, φ a = φ b → a = b) : ∀ (l : List DE) (nd fd : Nat → ByteArray × Int) (ks : List Int), (∀ e ∈ l, e.blk ∈ ns) → (∀ k ∈ ns, fd (φ k) = nd k) → ∀ k ∈ ns, crashN fd (l.map (DE.mv φ)) ks (φ k) = crashN nd l ks k
  | [], nd, fd, ks, _, h => h
  | e :: es, nd, fd, ks, hm, h => by
    rw [List.map_cons]
    unfold crashN
    have he := hm e (by simp)
    refine crashN_mv φ ns hinj es _ _ _ (fun x hx => hm x (by simp [hx])) ?_
    intro k hk
    unfold setNd
    rw [show (DE.mv φ e).blk = φ e.blk from rfl, h e.blk he]
    by_cases hc : k = e.blk
    · subst hc; simp
    · have : ¬ φ k = φ e.blk := fun x => hc (hinj k hk e.blk he x)
      simp [hc, this, h k hk]
end Go.Proofs.YteicpbcddjjceaaGreatDoor
