/-
  PROVED HERE: the index's reader over whatever gives the next token: and that a map between two such is a map between what is read.
-/
import Derived.Lib.SlicesS
import Derived.Lib.ItoaLen
import GoSem.Op.String
import Derived.Test.YteicpbcddjjceaaGreatDoorShelf
import Derived.Deep.RegionHeld3
namespace Go.Proofs.YteicpbcddjjceaaGreatDoor
def digB (c : Nat) : Bool := decide (48 ≤ c) && decide (c ≤ 57)
def hexB (c : Nat) : Bool := digB c || (decide (97 ≤ c) && decide (c ≤ 102))
def plainB (c : Nat) : Bool := (decide (97 ≤ c) && decide (c ≤ 122)) || digB c
def signB (c : Nat) : Bool := decide (c = 46) || decide (c = 95) || decide (c = 45)
def isDigB (s : ByteArray) : Bool := decide (s.size = 64) && s.data.toList.all (fun c => hexB c.toNat)
def isTagB (s : ByteArray) : Bool := decide (1 ≤ s.size) && decide (s.size ≤ 20) && plainB (s.data.toList.getD 0 0).toNat && s.data.toList.all (fun c => plainB c.toNat || signB c.toNat)
def leB (a b : ByteArray) : Bool := Op.bytesLess a.toList b.toList || a.toList == b.toList
def sTag : ByteArray := ⟨#[116, 97, 103]⟩
def sDigest : ByteArray := ⟨#[100, 105, 103, 101, 115, 116]⟩
def sSize : ByteArray := ⟨#[115, 105, 122, 101]⟩
def sVersion : ByteArray := ⟨#[118, 101, 114, 115, 105, 111, 110]⟩
def sTags : ByteArray := ⟨#[116, 97, 103, 115]⟩

/-- The next token: its kind, where it stands, its number, its text, what is behind it; or where the reader gives up. -/
inductive NG (P : Type) where
  | tok (kind : Nat) (place : P) (num : Nat) (txt : List UInt8) (c : P)
  | bad (p : P)
/-- What a reader answers: a value, and what is behind it; or where it gives up. -/
inductive RG (P α : Type) where
  | ok (v : α) (c : P)
  | bad (p : P)
/-- An entry as far as it is read. -/
structure En where
  name : ByteArray
  dig : ByteArray
  size : Nat
def En0 : En := ⟨⟨#[]⟩, ⟨#[]⟩, 0⟩
section
variable {P : Type} (nx : P → NG P)
def markG (a : P) (kind : Nat) : RG P Unit :=
  match nx a with
  | .tok k p _ _ c => if k = kind then .ok () c else .bad p
  | .bad p => .bad p
def versionG (a : P) : RG P Unit :=
  match nx a with
  | .tok k p n _ c => if k = 48 ∧ n = 1 then .ok () c else .bad p
  | .bad p => .bad p
def sizeG (a : P) : RG P Nat :=
  match nx a with
  | .tok k p n _ c => if k = 48 ∧ n ≤ 300 then .ok n c else .bad p
  | .bad p => .bad p
def tagG (last : ByteArray) (a : P) : RG P ByteArray :=
  match nx a with
  | .tok k p _ l c => if k = 34 ∧ isTagB ⟨l.toArray⟩ = true ∧ leB ⟨l.toArray⟩ last = false then .ok ⟨l.toArray⟩ c else .bad p
  | .bad p => .bad p
def digestG (a : P) : RG P ByteArray :=
  match nx a with
  | .tok k p _ l c => if k = 34 ∧ isDigB ⟨l.toArray⟩ = true then .ok ⟨l.toArray⟩ c else .bad p
  | .bad p => .bad p
def objG {σ : Type} (val : ByteArray → σ → P → RG P σ) : Bool → Nat → List ByteArray → σ → P → RG P σ
  | _, 0, _, st, a => match markG nx a 125 with
    | .ok _ c => .ok st c
    | .bad p => .bad p
  | first, d + 1, missing, st, a =>
    match (if first then .ok () a else markG nx a 44 : RG P Unit) with
    | .bad p => .bad p
    | .ok _ a1 =>
      match nx a1 with
      | .bad p => .bad p
      | .tok k p _ l c =>
        if k = 34 ∧ 0 ≤ Lib.idxOfS missing ⟨l.toArray⟩ then
          match markG nx c 58 with
          | .bad p => .bad p
          | .ok _ c2 =>
            match val ⟨l.toArray⟩ st c2 with
            | .bad p => .bad p
            | .ok st' c3 => objG val false d (missing.eraseIdx (Lib.idxOfS missing ⟨l.toArray⟩).toNat) st' c3
        else .bad p
def entG (last x : ByteArray) (e : En) (a : P) : RG P En :=
  if x = sTag then (match tagG nx last a with | .ok n c => .ok { e with name := n } c | .bad p => .bad p)
  else if x = sDigest then (match digestG nx a with | .ok s c => .ok { e with dig := s } c | .bad p => .bad p)
  else if x = sSize then (match sizeG nx a with | .ok n c => .ok { e with size := n } c | .bad p => .bad p)
  else .ok e a
def entryG (k : Nat) (p : P) (last : ByteArray) (c : P) : RG P En :=
  if k = 123 then objG nx (entG nx last) true 3 [sTag, sDigest, sSize] En0 c else .bad p
/-- n: how many entries more there may be behind this one. -/
def entsG : Nat → List En → ByteArray → Nat → P → P → RG P (List En)
  | n, es, last, k, p, c =>
    match entryG nx k p last c with
    | .bad p => .bad p
    | .ok e c1 =>
      match nx c1 with
      | .bad p => .bad p
      | .tok k2 p2 _ _ c2 =>
        if k2 = 93 then .ok (es ++ [e]) c2
        else match n with
          | 0 => .bad p2
          | n + 1 => if k2 = 44 then (match nx c2 with | .bad p => .bad p | .tok k3 p3 _ _ c3 => entsG n (es ++ [e]) e.name k3 p3 c3) else .bad p2
def entriesG (a : P) : RG P (List En) :=
  match markG nx a 91 with
  | .bad p => .bad p
  | .ok _ a1 =>
    match nx a1 with
    | .bad p => .bad p
    | .tok k p _ _ c => if k = 93 then .ok [] c else entsG nx 7 [] ⟨#[]⟩ k p c
def topG (x : ByteArray) (st : List En) (a : P) : RG P (List En) :=
  if x = sVersion then (match versionG nx a with | .ok _ c => .ok st c | .bad p => .bad p)
  else if x = sTags then entriesG nx a
  else .ok st a
def wholeG (a : P) : RG P (List En) :=
  match nx a with
  | .bad p => .bad p
  | .tok k p _ _ c => if k = 123 then objG nx (topG nx) true 2 [sVersion, sTags] [] c else .bad p
def readG (a : P) : RG P (List En) :=
  match wholeG nx a with
  | .bad p => .bad p
  | .ok es c =>
    match nx c with
    | .bad p => .bad p
    | .tok k p _ _ c2 => if k = 0 then .ok es c2 else .bad p
end
def NG.map {P Q : Type} (f : P → Q) : NG P → NG Q
  | .tok k p n l c => .tok k (f p) n l (f c)
  | .bad p => .bad (f p)
def RG.map {P Q α : Type} (f : P → Q) : RG P α → RG Q α
  | .ok v c => .ok v (f c)
  | .bad p => .bad (f p)
/-- A map between two that give tokens. -/
structure Hom {P Q : Type} (D : P → Prop) (f : P → Q) (nx : P → NG P) (ny : Q → NG Q) : Prop where
  map : ∀ a, D a → ny (f a) = (nx a).map f
  tok : ∀ a k p n l c, D a → nx a = .tok k p n l c → D p ∧ D c
  bad : ∀ a p, D a → nx a = .bad p → D p
def RG.In {P α : Type} (D : P → Prop) : RG P α → Prop
  | .ok _ c => D c
  | .bad p => D p
section
variable {P Q : Type} {D : P → Prop} {f : P → Q} {nx : P → NG P} {ny : Q → NG Q} (H : Hom D f nx ny)
include H
theorem Hom.tok' {a : P} (h : D a) {k n l} {p c : P} (e : nx a = .tok k p n l c) : ny (f a) = .tok k (f p) n l (f c) ∧ D p ∧ D c := ⟨by rw [H.map a h, e]; rfl, H.tok a k p n l c h e⟩
theorem Hom.bad' {a : P} (h : D a) {p : P} (e : nx a = .bad p) : ny (f a) = .bad (f p) ∧ D p := ⟨by rw [H.map a h, e]; rfl, H.bad a p h e⟩
theorem Hom.mark {a : P} (h : D a) (kind : Nat) : markG ny (f a) kind = (markG nx a kind).map f ∧ (markG nx a kind).In D := by
  unfold markG
  cases e : nx a with
  | bad p => obtain ⟨e1, e2⟩ := H.bad' h e; rw [e1]; exact ⟨rfl, e2⟩
  | tok k p n l c =>
    obtain ⟨e1, e2, e3⟩ := H.tok' h e
    rw [e1]; dsimp only
    split
    · exact ⟨rfl, e3⟩
    · exact ⟨rfl, e2⟩
theorem Hom.version {a : P} (h : D a) : versionG ny (f a) = (versionG nx a).map f ∧ (versionG nx a).In D := by
  unfold versionG
  cases e : nx a with
  | bad p => obtain ⟨e1, e2⟩ := H.bad' h e; rw [e1]; exact ⟨rfl, e2⟩
  | tok k p n l c =>
    obtain ⟨e1, e2, e3⟩ := H.tok' h e
    rw [e1]; dsimp only
    split
    · exact ⟨rfl, e3⟩
    · exact ⟨rfl, e2⟩
theorem Hom.size {a : P} (h : D a) : sizeG ny (f a) = (sizeG nx a).map f ∧ (sizeG nx a).In D := by
  unfold sizeG
  cases e : nx a with
  | bad p => obtain ⟨e1, e2⟩ := H.bad' h e; rw [e1]; exact ⟨rfl, e2⟩
  | tok k p n l c =>
    obtain ⟨e1, e2, e3⟩ := H.tok' h e
    rw [e1]; dsimp only
    split
    · exact ⟨rfl, e3⟩
    · exact ⟨rfl, e2⟩
theorem Hom.digest {a : P} (h : D a) : digestG ny (f a) = (digestG nx a).map f ∧ (digestG nx a).In D := by
  unfold digestG
  cases e : nx a with
  | bad p => obtain ⟨e1, e2⟩ := H.bad' h e; rw [e1]; exact ⟨rfl, e2⟩
  | tok k p n l c =>
    obtain ⟨e1, e2, e3⟩ := H.tok' h e
    rw [e1]; dsimp only
    split
    · exact ⟨rfl, e3⟩
    · exact ⟨rfl, e2⟩
theorem Hom.tag {a : P} (h : D a) (last : ByteArray) : tagG ny last (f a) = (tagG nx last a).map f ∧ (tagG nx last a).In D := by
  unfold tagG
  cases e : nx a with
  | bad p => obtain ⟨e1, e2⟩ := H.bad' h e; rw [e1]; exact ⟨rfl, e2⟩
  | tok k p n l c =>
    obtain ⟨e1, e2, e3⟩ := H.tok' h e
    rw [e1]; dsimp only
    split
    · exact ⟨rfl, e3⟩
    · exact ⟨rfl, e2⟩
theorem Hom.obj {σ : Type} {val : ByteArray → σ → P → RG P σ} {val' : ByteArray → σ → Q → RG Q σ} (hv : ∀ x st a, D a → val' x st (f a) = (val x st a).map f ∧ (val x st a).In D) :
    ∀ (d : Nat) (first : Bool) (missing : List ByteArray) (st : σ) (a : P), D a → objG ny val' first d missing st (f a) = (objG nx val first d missing st a).map f ∧ (objG nx val first d missing st a).In D := by
  intro d
  induction d with
  | zero =>
    intro first missing st a h
    obtain ⟨e1, e2⟩ := H.mark h 125
    unfold objG
    rw [e1]
    cases hm : markG nx a 125 with
    | ok v c => rw [hm] at e2; exact ⟨rfl, e2⟩
    | bad p => rw [hm] at e2; exact ⟨rfl, e2⟩
  | succ d ih =>
    intro first missing st a h
    have hf : (if first then .ok () (f a) else markG ny (f a) 44 : RG Q Unit) = (if first then .ok () a else markG nx a 44 : RG P Unit).map f ∧ (if first then .ok () a else markG nx a 44 : RG P Unit).In D := by
      cases first with
      | true => exact ⟨rfl, h⟩
      | false => exact H.mark h 44
    unfold objG
    rw [hf.1]
    obtain ⟨r, hr⟩ : ∃ r, r = (if first then .ok () a else markG nx a 44 : RG P Unit) := ⟨_, rfl⟩
    rw [← hr] at hf ⊢
    cases r with
    | bad p => exact ⟨rfl, hf.2⟩
    | ok u a1 =>
      have h1 : D a1 := hf.2
      dsimp only [RG.map]
      cases e : nx a1 with
      | bad p => obtain ⟨e1, e2⟩ := H.bad' h1 e; rw [e1]; exact ⟨rfl, e2⟩
      | tok k p n l c =>
        obtain ⟨e1, e2, e3⟩ := H.tok' h1 e
        rw [e1]; dsimp only
        split
        · obtain ⟨m1, m2⟩ := H.mark e3 58
          rw [m1]
          cases hm : markG nx c 58 with
          | bad p => rw [hm] at m2; exact ⟨rfl, m2⟩
          | ok u2 c2 =>
            rw [hm] at m2
            dsimp only [RG.map]
            obtain ⟨v1, v2⟩ := hv ⟨l.toArray⟩ st c2 m2
            rw [v1]
            cases hvv : val ⟨l.toArray⟩ st c2 with
            | bad p => rw [hvv] at v2; exact ⟨rfl, v2⟩
            | ok st' c3 => rw [hvv] at v2; exact ih false _ st' c3 v2
        · exact ⟨rfl, e2⟩
theorem Hom.ent (last x : ByteArray) (e : En) {a : P} (h : D a) : entG ny last x e (f a) = (entG nx last x e a).map f ∧ (entG nx last x e a).In D := by
  unfold entG
  split
  · obtain ⟨m1, m2⟩ := H.tag h last
    rw [m1]
    cases hm : tagG nx last a with
    | bad p => rw [hm] at m2; exact ⟨rfl, m2⟩
    | ok u c => rw [hm] at m2; exact ⟨rfl, m2⟩
  · split
    · obtain ⟨m1, m2⟩ := H.digest h
      rw [m1]
      cases hm : digestG nx a with
      | bad p => rw [hm] at m2; exact ⟨rfl, m2⟩
      | ok u c => rw [hm] at m2; exact ⟨rfl, m2⟩
    · split
      · obtain ⟨m1, m2⟩ := H.size h
        rw [m1]
        cases hm : sizeG nx a with
        | bad p => rw [hm] at m2; exact ⟨rfl, m2⟩
        | ok u c => rw [hm] at m2; exact ⟨rfl, m2⟩
      · exact ⟨rfl, h⟩
theorem Hom.entry (k : Nat) {p c : P} (hp : D p) (hc : D c) (last : ByteArray) : entryG ny k (f p) last (f c) = (entryG nx k p last c).map f ∧ (entryG nx k p last c).In D := by
  unfold entryG
  split
  · exact H.obj (fun x st a h => H.ent last x st h) 3 true _ _ c hc
  · exact ⟨rfl, hp⟩
theorem Hom.ents : ∀ (n : Nat) (es : List En) (last : ByteArray) (k : Nat) (p c : P), D p → D c → entsG ny n es last k (f p) (f c) = (entsG nx n es last k p c).map f ∧ (entsG nx n es last k p c).In D := by
  intro n
  induction n with
  | zero =>
    intro es last k p c hp hc
    unfold entsG
    obtain ⟨m1, m2⟩ := H.entry k hp hc last
    rw [m1]
    cases hm : entryG nx k p last c with
    | bad p => rw [hm] at m2; exact ⟨rfl, m2⟩
    | ok e c1 =>
      rw [hm] at m2
      dsimp only [RG.map]
      cases e : nx c1 with
      | bad p => obtain ⟨e1, e2⟩ := H.bad' m2 e; rw [e1]; exact ⟨rfl, e2⟩
      | tok k2 p2 n2 l2 c2 =>
        obtain ⟨e1, e2, e3⟩ := H.tok' m2 e
        rw [e1]; dsimp only
        split
        · exact ⟨rfl, e3⟩
        · exact ⟨rfl, e2⟩
  | succ n ih =>
    intro es last k p c hp hc
    unfold entsG
    obtain ⟨m1, m2⟩ := H.entry k hp hc last
    rw [m1]
    cases hm : entryG nx k p last c with
    | bad p => rw [hm] at m2; exact ⟨rfl, m2⟩
    | ok e c1 =>
      rw [hm] at m2
      dsimp only [RG.map]
      cases e : nx c1 with
      | bad p => obtain ⟨e1, e2⟩ := H.bad' m2 e; rw [e1]; exact ⟨rfl, e2⟩
      | tok k2 p2 n2 l2 c2 =>
        obtain ⟨e1, e2, e3⟩ := H.tok' m2 e
        rw [e1]; dsimp only
        split
        · exact ⟨rfl, e3⟩
        · split
          · cases e4 : nx c2 with
            | bad p => obtain ⟨e1, e2⟩ := H.bad' e3 e4; rw [e1]; exact ⟨rfl, e2⟩
            | tok k3 p3 n3 l3 c3 =>
              obtain ⟨e5, e6, e7⟩ := H.tok' e3 e4
              rw [e5]; dsimp only
              exact ih _ _ k3 p3 c3 e6 e7
          · exact ⟨rfl, e2⟩
theorem Hom.entries {a : P} (h : D a) : entriesG ny (f a) = (entriesG nx a).map f ∧ (entriesG nx a).In D := by
  unfold entriesG
  obtain ⟨m1, m2⟩ := H.mark h 91
  rw [m1]
  cases hm : markG nx a 91 with
  | bad p => rw [hm] at m2; exact ⟨rfl, m2⟩
  | ok u c =>
    rw [hm] at m2
    dsimp only [RG.map]
    cases e : nx c with
    | bad p => obtain ⟨e1, e2⟩ := H.bad' m2 e; rw [e1]; exact ⟨rfl, e2⟩
    | tok k2 p2 n2 l2 c2 =>
      obtain ⟨e1, e2, e3⟩ := H.tok' m2 e
      rw [e1]; dsimp only
      split
      · exact ⟨rfl, e3⟩
      · exact H.ents 7 [] _ k2 p2 c2 e2 e3
theorem Hom.top (x : ByteArray) (st : List En) {a : P} (h : D a) : topG ny x st (f a) = (topG nx x st a).map f ∧ (topG nx x st a).In D := by
  unfold topG
  split
  · obtain ⟨m1, m2⟩ := H.version h
    rw [m1]
    cases hm : versionG nx a with
    | bad p => rw [hm] at m2; exact ⟨rfl, m2⟩
    | ok u c => rw [hm] at m2; exact ⟨rfl, m2⟩
  · split
    · exact H.entries h
    · exact ⟨rfl, h⟩
theorem Hom.whole {a : P} (h : D a) : wholeG ny (f a) = (wholeG nx a).map f ∧ (wholeG nx a).In D := by
  unfold wholeG
  cases e : nx a with
  | bad p => obtain ⟨e1, e2⟩ := H.bad' h e; rw [e1]; exact ⟨rfl, e2⟩
  | tok k2 p2 n2 l2 c2 =>
    obtain ⟨e1, e2, e3⟩ := H.tok' h e
    rw [e1]; dsimp only
    split
    · exact H.obj (fun x st a h => H.top x st h) 2 true _ _ c2 e3
    · exact ⟨rfl, e2⟩
theorem Hom.read {a : P} (h : D a) : readG ny (f a) = (readG nx a).map f ∧ (readG nx a).In D := by
  unfold readG
  obtain ⟨m1, m2⟩ := H.whole h
  rw [m1]
  cases hm : wholeG nx a with
  | bad p => rw [hm] at m2; exact ⟨rfl, m2⟩
  | ok es c =>
    rw [hm] at m2
    dsimp only [RG.map]
    cases e : nx c with
    | bad p => obtain ⟨e1, e2⟩ := H.bad' m2 e; rw [e1]; exact ⟨rfl, e2⟩
    | tok k2 p2 n2 l2 c2 =>
      obtain ⟨e1, e2, e3⟩ := H.tok' m2 e
      rw [e1]; dsimp only
      split
      · exact ⟨rfl, e3⟩
      · exact ⟨rfl, e2⟩
end
end Go.Proofs.YteicpbcddjjceaaGreatDoor

/-
  PROVED HERE: what the small functions on letters answer for every byte and every string: isDigit, isSmallOrDigit, isSize of the program; isDigest of the document's answer; nothing turns.
-/
namespace Go.Proofs.YteicpbcddjjceaaGreatDoor
open Go.RowKit

theorem all_iff (s : ByteArray) (p : UInt8 → Bool) : s.data.toList.all p = true ↔ ∀ i (h : i < s.size), p s[i] = true := by
  rw [List.all_eq_true]
  constructor
  · intro h i hi
    exact h _ (Array.mem_toList_iff.2 (Array.getElem_mem (xs := s.data) hi))
  · intro h x hx
    obtain ⟨i, hi, rfl⟩ := List.getElem_of_mem hx
    exact h i (by simpa using hi)

set_option maxRecDepth 100000 in
theorem isDigit_any (c : Nat) (w : World) : Calls Tryz.prog 114 #[.int .u8 ((c : Nat) : Int)] w fun e w' => e = .returned (.bool (digB c)) ∧ w' = w := by
  obtain ⟨r, hr⟩ : ∃ r, r = digB c := ⟨_, rfl⟩
  rw [← hr]
  unfold digB at hr
  have hc : ((c : Int) < 48 ∧ r = false) ∨ (48 ≤ (c : Int) ∧ (c : Int) ≤ 57 ∧ r = true) ∨ (57 < (c : Int) ∧ r = false) := by
    rw [hr]; simp; omega
  clear hr
  rcases hc with ⟨h, rfl⟩ | ⟨h, h', rfl⟩ | ⟨h, rfl⟩
  all_goals
    go_enter Tryz.func114, Tryz.ntmps114
    go_wp2
    go_ret
    simp [h]
  all_goals omega
set_option maxRecDepth 100000 in
theorem isSmallOrDigit_any (c : Nat) (w : World) : Calls Tryz.prog 64 #[.int .u8 ((c : Nat) : Int)] w fun e w' => e = .returned (.bool (plainB c)) ∧ w' = w := by
  obtain ⟨r, hr⟩ : ∃ r, r = plainB c := ⟨_, rfl⟩
  rw [← hr]
  unfold plainB at hr
  have hc : ((c : Int) < 97 ∧ r = digB c) ∨ (97 ≤ (c : Int) ∧ (c : Int) ≤ 122 ∧ r = true) ∨ (122 < (c : Int) ∧ r = digB c) := by
    rw [hr]
    rcases (show c < 97 ∨ (97 ≤ c ∧ c ≤ 122) ∨ 122 < c by omega) with h | ⟨h, h'⟩ | h
    · left; refine ⟨by omega, ?_⟩; simp [show ¬ 97 ≤ c by omega]
    · right; left; refine ⟨by omega, by omega, ?_⟩; simp [h, h']
    · right; right; refine ⟨by omega, ?_⟩; simp [show ¬ c ≤ 122 by omega]
  clear hr
  rcases hc with ⟨h, rfl⟩ | ⟨h, h', rfl⟩ | ⟨h, rfl⟩
  all_goals
    go_enter Tryz.func64, Tryz.ntmps64
    go_wp2_with (go_at_call 114; refine (isDigit_any _ _).mono ?_; rintro e w' ⟨rfl, rfl⟩)
    go_ret
    simp
  omega
set_option maxRecDepth 100000 in
theorem isSize_any (n : Int) (w : World) : Calls Tryz.prog 107 #[.int .i64 n] w fun e w' => e = .returned (.bool (decide (0 ≤ n) && decide (n ≤ 300))) ∧ w' = w := by
  rcases (show n < 0 ∨ (0 ≤ n ∧ n ≤ 300) ∨ 300 < n by omega) with h | ⟨h, h'⟩ | h
  all_goals
    go_enter Tryz.func107, Tryz.ntmps107
    go_wp2
    go_ret
    simp
  all_goals omega

end Go.Proofs.YteicpbcddjjceaaGreatDoor

/-
  PROVED HERE: nothing of the program: more of the hash's plain mathematics: all blocks, the bytes that are added, the digest and its text.
-/
namespace Go.Proofs.YteicpbcddjjceaaGreatDoor.Sha

theorem block_ok (s : St) (bs : List UInt8) : (block s bs).Ok := add_ok _ _
/-- The eight numbers behind k blocks. -/
def allTo (s : St) (l : List UInt8) : Nat → St
  | 0 => s
  | k + 1 => block (allTo s l k) ((l.drop (64 * k)).take 64)
theorem allTo_ok {s : St} (h : s.Ok) (l : List UInt8) (k : Nat) : (allTo s l k).Ok := by
  cases k with
  | zero => exact h
  | succ k => exact block_ok _ _

def start : St := ⟨1779033703, 3144134277, 1013904242, 2773480762, 1359893119, 2600822924, 528734635, 1541459225⟩
theorem start_ok : start.Ok := ⟨by decide, by decide, by decide, by decide, by decide, by decide, by decide, by decide⟩

/-- The 32 bytes of eight numbers, as they are laid four a round. -/
def dBytes (l : List Nat) : Nat → List Nat
  | 0 => zeros 32
  | i + 1 => ((((dBytes l i).set (4 * i) (l.getD i 0 / 16777216 % 256)).set (4 * i + 1) (l.getD i 0 / 65536 % 256)).set (4 * i + 2) (l.getD i 0 / 256 % 256)).set (4 * i + 3) (l.getD i 0 % 256)
theorem dBytes_len (l : List Nat) (i : Nat) : (dBytes l i).length = 32 := by
  induction i with
  | zero => simp [dBytes, zeros]
  | succ i ih => simp [dBytes, ih]
theorem getD_set_lt' {B : Nat} {ws : List Nat} (hB : 0 < B) (h : ∀ i, ws.getD i 0 < B) (k n : Nat) (hn : n < B) (i : Nat) : (ws.set k n).getD i 0 < B := by
  have := h i
  simp only [List.getD_eq_getElem?_getD, List.getElem?_set] at *
  split
  · split
    · exact hn
    · exact hB
  · exact this
theorem dBytes_lt (l : List Nat) (k i : Nat) : (dBytes l k).getD i 0 < 256 := by
  induction k generalizing i with
  | zero =>
    simp only [dBytes, zeros, List.getD_eq_getElem?_getD, List.getElem?_replicate]
    split <;> simp
  | succ k ih =>
    have p : 0 < 256 := by omega
    exact getD_set_lt' p (getD_set_lt' p (getD_set_lt' p (getD_set_lt' p ih _ _ (Nat.mod_lt _ p)) _ _ (Nat.mod_lt _ p)) _ _ (Nat.mod_lt _ p)) _ _ (Nat.mod_lt _ p) i
def St.list (s : St) : List Nat := [s.a, s.b, s.c, s.d, s.e, s.f, s.g, s.h]
def digest (s : St) : List Nat := dBytes s.list 8

/-- The letter of a number below 16. -/
def letters : List UInt8 := [48, 49, 50, 51, 52, 53, 54, 55, 56, 57, 97, 98, 99, 100, 101, 102]
def hexd (n : Nat) : UInt8 := letters.getD n 0
/-- The text behind k bytes. -/
def textTo (bs : List Nat) : Nat → List UInt8
  | 0 => []
  | k + 1 => textTo bs k ++ [hexd (bs.getD k 0 / 16), hexd (bs.getD k 0 % 16)]
theorem textTo_len (bs : List Nat) (k : Nat) : (textTo bs k).length = 2 * k := by
  induction k with
  | zero => rfl
  | succ k ih => simp [textTo, ih]; omega

/-- What stands behind k noughts of the filling, then behind k bytes of the length. -/
def fillZ (l : List UInt8) : Nat → List UInt8
  | 0 => l ++ [128]
  | k + 1 => fillZ l k ++ [0]
theorem fillZ_len (l : List UInt8) (k : Nat) : (fillZ l k).length = l.length + 1 + k := by
  induction k with
  | zero => simp [fillZ]
  | succ k ih => simp [fillZ, ih]; omega
def fillL (l : List UInt8) (n : Nat) : Nat → List UInt8
  | 0 => l
  | k + 1 => fillL l n k ++ [UInt8.ofNat (n / 2 ^ (8 * (7 - k)) % 256)]
theorem fillL_len (l : List UInt8) (n k : Nat) : (fillL l n k).length = l.length + k := by
  induction k with
  | zero => simp [fillL]
  | succ k ih => simp [fillL, ih]; omega
/-- How many noughts. -/
def gap (n : Nat) : Nat := (119 - n % 64) % 64
def fill (l : List UInt8) (n : Nat) : List UInt8 := fillL (fillZ l (gap l.length)) (n * 8 % 18446744073709551616) 8
theorem fill_len (l : List UInt8) (n : Nat) : (fill l n).length = l.length + 9 + gap l.length := by
  simp only [fill, fillL_len, fillZ_len]; omega
theorem fill_mod (l : List UInt8) (n : Nat) : (fill l n).length % 64 = 0 := by
  rw [fill_len]; unfold gap; omega

def whole (l : List UInt8) : Nat := l.length / 64 * 64
def state (l : List UInt8) : St :=
  allTo (allTo start (l.take (whole l)) (l.length / 64)) (fill (l.drop (whole l)) l.length) ((fill (l.drop (whole l)) l.length).length / 64)
theorem state_ok (l : List UInt8) : (state l).Ok := allTo_ok (allTo_ok start_ok _ _) _ _
def hash (l : List UInt8) : List UInt8 := textTo (digest (state l)) 32

set_option maxRecDepth 100000 in
theorem hash_empty : hash [] = [101, 51, 98, 48, 99, 52, 52, 50, 57, 56, 102, 99, 49, 99, 49, 52, 57, 97, 102, 98, 102, 52, 99, 56, 57, 57, 54, 102, 98, 57, 50, 52, 50, 55, 97, 101, 52, 49, 101, 52, 54, 52, 57, 98, 57, 51, 52, 99, 97, 52, 57, 53, 57, 57, 49, 98, 55, 56, 53, 50, 98, 56, 53, 53] := by decide +kernel
set_option maxRecDepth 100000 in
theorem hash_abc : hash [97, 98, 99] = [98, 97, 55, 56, 49, 54, 98, 102, 56, 102, 48, 49, 99, 102, 101, 97, 52, 49, 52, 49, 52, 48, 100, 101, 53, 100, 97, 101, 50, 50, 50, 51, 98, 48, 48, 51, 54, 49, 97, 51, 57, 54, 49, 55, 55, 97, 57, 99, 98, 52, 49, 48, 102, 102, 54, 49, 102, 50, 48, 48, 49, 53, 97, 100] := by decide +kernel
end Go.Proofs.YteicpbcddjjceaaGreatDoor.Sha

/-
  PROVED HERE: small facts on the digest by value.
-/
namespace Go.Proofs.YteicpbcddjjceaaGreatDoor
open Go.RowKit
theorem Tryz.info72 : (Tryz.prog.info? 72).map (fun i => (i.zero, i.size)) = some (some (.agg (cells8 (Sha.zeros 32))), 32) := by kernel_rfl
theorem size40_32 : (Tryz.prog.info? 72).map (·.size) = some 32 := by kernel_rfl
theorem alloc3 (w : World) (A B C : Obj) : (((w.alloc A).alloc B).alloc C).heap[w.heap.size + 1]? = some B ∧ (((w.alloc A).alloc B).alloc C).heap[w.heap.size + 2]? = some C := by
  have s2 := size_alloc2 w A B
  refine ⟨(Below.heap_alloc ((w.alloc A).alloc B) C (w.heap.size + 1) (by omega)).trans (heap_alloc2_new _ _ _), ?_⟩
  have := heap_alloc_new ((w.alloc A).alloc B) C
  rwa [s2] at this
end Go.Proofs.YteicpbcddjjceaaGreatDoor
