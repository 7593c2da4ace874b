/-
  PROVED HERE: the index's reader over whatever gives the next token: and that a map between two such is a map between what is read.
-/
import Derived.Lib.SlicesS
import Derived.Lib.ItoaLen
import GoSem.Op.String
namespace Go.Proofs.Ytpgamoielkpakaa
def digB (c : Nat) : Bool := decide (48 ≤ c) && decide (c ≤ 57)
def hexB (c : Nat) : Bool := digB c || (decide (97 ≤ c) && decide (c ≤ 102))
def plainB (c : Nat) : Bool := (decide (97 ≤ c) && decide (c ≤ 122)) || digB c
def signB (c : Nat) : Bool := decide (c = 46) || decide (c = 95) || decide (c = 45)
def isDigB (s : ByteArray) : Bool := decide (s.size = 64) && s.data.toList.all (fun c => hexB c.toNat)
def isTagB (s : ByteArray) : Bool := decide (1 ≤ s.size) && decide (s.size ≤ 20) && plainB (s.data.toList.getD 0 0).toNat && s.data.toList.all (fun c => plainB c.toNat || signB c.toNat)
def leB (a b : ByteArray) : Bool := Op.bytesLess a.toList b.toList || a.toList == b.toList
def sTag : ByteArray := ⟨#[116, 97, 103]⟩
def sDigest : ByteArray := ⟨#[100, 105, 103, 101, 115, 116]⟩
def sSize : ByteArray := ⟨#[115, 105, 122, 101]⟩
def sVersion : ByteArray := ⟨#[118, 101, 114, 115, 105, 111, 110]⟩
def sTags : ByteArray := ⟨#[116, 97, 103, 115]⟩

/-- The next token: its kind, where it stands, its number, its text, what is behind it; or where the reader gives up. -/
inductive NG (P : Type) where
  | tok (kind : Nat) (place : P) (num : Nat) (txt : List UInt8) (c : P)
  | bad (p : P)
/-- What a reader answers: a value, and what is behind it; or where it gives up. -/
inductive RG (P α : Type) where
  | ok (v : α) (c : P)
  | bad (p : P)
/-- An entry as far as it is read. -/
structure En where
  name : ByteArray
  dig : ByteArray
  size : Nat
def En0 : En := ⟨⟨#[]⟩, ⟨#[]⟩, 0⟩
section
variable {P : Type} (nx : P → NG P)
def markG (a : P) (kind : Nat) : RG P Unit :=
  match nx a with
  | .tok k p _ _ c => if k = kind then .ok () c else .bad p
  | .bad p => .bad p
def versionG (a : P) : RG P Unit :=
  match nx a with
  | .tok k p n _ c => if k = 48 ∧ n = 1 then .ok () c else .bad p
  | .bad p => .bad p
def sizeG (a : P) : RG P Nat :=
  match nx a with
  | .tok k p n _ c => if k = 48 ∧ n ≤ 300 then .ok n c else .bad p
  | .bad p => .bad p
def tagG (last : ByteArray) (a : P) : RG P ByteArray :=
  match nx a with
  | .tok k p _ l c => if k = 34 ∧ isTagB ⟨l.toArray⟩ = true ∧ leB ⟨l.toArray⟩ last = false then .ok ⟨l.toArray⟩ c else .bad p
  | .bad p => .bad p
def digestG (a : P) : RG P ByteArray :=
  match nx a with
  | .tok k p _ l c => if k = 34 ∧ isDigB ⟨l.toArray⟩ = true then .ok ⟨l.toArray⟩ c else .bad p
  | .bad p => .bad p
def objG {σ : Type} (val : ByteArray → σ → P → RG P σ) : Bool → Nat → List ByteArray → σ → P → RG P σ
  | _, 0, _, st, a => match markG nx a 125 with
    | .ok _ c => .ok st c
    | .bad p => .bad p
  | first, d + 1, missing, st, a =>
    match (if first then .ok () a else markG nx a 44 : RG P Unit) with
    | .bad p => .bad p
    | .ok _ a1 =>
      match nx a1 with
      | .bad p => .bad p
      | .tok k p _ l c =>
        if k = 34 ∧ 0 ≤ Lib.idxOfS missing ⟨l.toArray⟩ then
          match markG nx c 58 with
          | .bad p => .bad p
          | .ok _ c2 =>
            match val ⟨l.toArray⟩ st c2 with
            | .bad p => .bad p
            | .ok st' c3 => objG val false d (missing.eraseIdx (Lib.idxOfS missing ⟨l.toArray⟩).toNat) st' c3
        else .bad p
def entG (last x : ByteArray) (e : En) (a : P) : RG P En :=
  if x = sTag then (match tagG nx last a with | .ok n c => .ok { e with name := n } c | .bad p => .bad p)
  else if x = sDigest then (match digestG nx a with | .ok s c => .ok { e with dig := s } c | .bad p => .bad p)
  else if x = sSize then (match sizeG nx a with | .ok n c => .ok { e with size := n } c | .bad p => .bad p)
  else .ok e a
def entryG (k : Nat) (p : P) (last : ByteArray) (c : P) : RG P En :=
  if k = 123 then objG nx (entG nx last) true 3 [sTag, sDigest, sSize] En0 c else .bad p
/-- n: how many entries more there may be behind this one. -/
def entsG : Nat → List En → ByteArray → Nat → P → P → RG P (List En)
  | n, es, last, k, p, c =>
    match entryG nx k p last c with
    | .bad p => .bad p
    | .ok e c1 =>
      match nx c1 with
      | .bad p => .bad p
      | .tok k2 p2 _ _ c2 =>
        if k2 = 93 then .ok (es ++ [e]) c2
        else match n with
          | 0 => .bad p2
          | n + 1 => if k2 = 44 then (match nx c2 with | .bad p => .bad p | .tok k3 p3 _ _ c3 => entsG n (es ++ [e]) e.name k3 p3 c3) else .bad p2
def entriesG (a : P) : RG P (List En) :=
  match markG nx a 91 with
  | .bad p => .bad p
  | .ok _ a1 =>
    match nx a1 with
    | .bad p => .bad p
    | .tok k p _ _ c => if k = 93 then .ok [] c else entsG nx 7 [] ⟨#[]⟩ k p c
def topG (x : ByteArray) (st : List En) (a : P) : RG P (List En) :=
  if x = sVersion then (match versionG nx a with | .ok _ c => .ok st c | .bad p => .bad p)
  else if x = sTags then entriesG nx a
  else .ok st a
def wholeG (a : P) : RG P (List En) :=
  match nx a with
  | .bad p => .bad p
  | .tok k p _ _ c => if k = 123 then objG nx (topG nx) true 2 [sVersion, sTags] [] c else .bad p
def readG (a : P) : RG P (List En) :=
  match wholeG nx a with
  | .bad p => .bad p
  | .ok es c =>
    match nx c with
    | .bad p => .bad p
    | .tok k p _ _ c2 => if k = 0 then .ok es c2 else .bad p
end
def NG.map {P Q : Type} (f : P → Q) : NG P → NG Q
  | .tok k p n l c => .tok k (f p) n l (f c)
  | .bad p => .bad (f p)
def RG.map {P Q α : Type} (f : P → Q) : RG P α → RG Q α
  | .ok v c => .ok v (f c)
  | .bad p => .bad (f p)
/-- A map between two that give tokens. -/
structure Hom {P Q : Type} (D : P → Prop) (f : P → Q) (nx : P → NG P) (ny : Q → NG Q) : Prop where
  map : ∀ a, D a → ny (f a) = (nx a).map f
  tok : ∀ a k p n l c, D a → nx a = .tok k p n l c → D p ∧ D c
  bad : ∀ a p, D a → nx a = .bad p → D p
def RG.In {P α : Type} (D : P → Prop) : RG P α → Prop
  | .ok _ c => D c
  | .bad p => D p
section
variable {P Q : Type} {D : P → Prop} {f : P → Q} {nx : P → NG P} {ny : Q → NG Q} (H : Hom D f nx ny)
include H
theorem Hom.tok' {a : P} (h : D a) {k n l} {p c : P} (e : nx a = .tok k p n l c) : ny (f a) = .tok k (f p) n l (f c) ∧ D p ∧ D c := ⟨by rw [H.map a h, e]; rfl, H.tok a k p n l c h e⟩
theorem Hom.bad' {a : P} (h : D a) {p : P} (e : nx a = .bad p) : ny (f a) = .bad (f p) ∧ D p := ⟨by rw [H.map a h, e]; rfl, H.bad a p h e⟩
theorem Hom.mark {a : P} (h : D a) (kind : Nat) : markG ny (f a) kind = (markG nx a kind).map f ∧ (markG nx a kind).In D := by
  unfold markG
  cases e : nx a with
  | bad p => obtain ⟨e1, e2⟩ := H.bad' h e; rw [e1]; exact ⟨rfl, e2⟩
  | tok k p n l c =>
    obtain ⟨e1, e2, e3⟩ := H.tok' h e
    rw [e1]; dsimp only
    split
    · exact ⟨rfl, e3⟩
    · exact ⟨rfl, e2⟩
theorem Hom.version {a : P} (h : D a) : versionG ny (f a) = (versionG nx a).map f ∧ (versionG nx a).In D := by
  unfold versionG
  cases e : nx a with
  | bad p => obtain ⟨e1, e2⟩ := H.bad' h e; rw [e1]; exact ⟨rfl, e2⟩
  | tok k p n l c =>
    obtain ⟨e1, e2, e3⟩ := H.tok' h e
    rw [e1]; dsimp only
    split
    · exact ⟨rfl, e3⟩
    · exact ⟨rfl, e2⟩
theorem Hom.size {a : P} (h : D a) : sizeG ny (f a) = (sizeG nx a).map f ∧ (sizeG nx a).In D := by
  unfold sizeG
  cases e : nx a with
  | bad p => obtain ⟨e1, e2⟩ := H.bad' h e; rw [e1]; exact ⟨rfl, e2⟩
  | tok k p n l c =>
    obtain ⟨e1, e2, e3⟩ := H.tok' h e
    rw [e1]; dsimp only
    split
    · exact ⟨rfl, e3⟩
    · exact ⟨rfl, e2⟩
theorem Hom.digest {a : P} (h : D a) : digestG ny (f a) = (digestG nx a).map f ∧ (digestG nx a).In D := by
  unfold digestG
  cases e : nx a with
  | bad p => obtain ⟨e1, e2⟩ := H.bad' h e; rw [e1]; exact ⟨rfl, e2⟩
  | tok k p n l c =>
    obtain ⟨e1, e2, e3⟩ := H.tok' h e
    rw [e1]; dsimp only
    split
    · exact ⟨rfl, e3⟩
    · exact ⟨rfl, e2⟩
theorem Hom.tag {a : P} (h : D a) (last : ByteArray) : tagG ny last (f a) = (tagG nx last a).map f ∧ (tagG nx last a).In D := by
  unfold tagG
  cases e : nx a with
  | bad p => obtain ⟨e1, e2⟩ := H.bad' h e; rw [e1]; exact ⟨rfl, e2⟩
  | tok k p n l c =>
    obtain ⟨e1, e2, e3⟩ := H.tok' h e
    rw [e1]; dsimp only
    split
    · exact ⟨rfl, e3⟩
    · exact ⟨rfl, e2⟩
theorem Hom.obj {σ : Type} {val : ByteArray → σ → P → RG P σ} {val' : ByteArray → σ → Q → RG Q σ} (hv : ∀ x st a, D a → val' x st (f a) = (val x st a).map f ∧ (val x st a).In D) :
    ∀ (d : Nat) (first : Bool) (missing : List ByteArray) (st : σ) (a : P), D a → objG ny val' first d missing st (f a) = (objG nx val first d missing st a).map f ∧ (objG nx val first d missing st a).In D := by
  intro d
  induction d with
  | zero =>
    intro first missing st a h
    obtain ⟨e1, e2⟩ := H.mark h 125
    unfold objG
    rw [e1]
    cases hm : markG nx a 125 with
    | ok v c => rw [hm] at e2; exact ⟨rfl, e2⟩
    | bad p => rw [hm] at e2; exact ⟨rfl, e2⟩
  | succ d ih =>
    intro first missing st a h
    have hf : (if first then .ok () (f a) else markG ny (f a) 44 : RG Q Unit) = (if first then .ok () a else markG nx a 44 : RG P Unit).map f ∧ (if first then .ok () a else markG nx a 44 : RG P Unit).In D := by
      cases first with
      | true => exact ⟨rfl, h⟩
      | false => exact H.mark h 44
    unfold objG
    rw [hf.1]
    obtain ⟨r, hr⟩ : ∃ r, r = (if first then .ok () a else markG nx a 44 : RG P Unit) := ⟨_, rfl⟩
    rw [← hr] at hf ⊢
    cases r with
    | bad p => exact ⟨rfl, hf.2⟩
    | ok u a1 =>
      have h1 : D a1 := hf.2
      dsimp only [RG.map]
      cases e : nx a1 with
      | bad p => obtain ⟨e1, e2⟩ := H.bad' h1 e; rw [e1]; exact ⟨rfl, e2⟩
      | tok k p n l c =>
        obtain ⟨e1, e2, e3⟩ := H.tok' h1 e
        rw [e1]; dsimp only
        split
        · obtain ⟨m1, m2⟩ := H.mark e3 58
          rw [m1]
          cases hm : markG nx c 58 with
          | bad p => rw [hm] at m2; exact ⟨rfl, m2⟩
          | ok u2 c2 =>
            rw [hm] at m2
            dsimp only [RG.map]
            obtain ⟨v1, v2⟩ := hv ⟨l.toArray⟩ st c2 m2
            rw [v1]
            cases hvv : val ⟨l.toArray⟩ st c2 with
            | bad p => rw [hvv] at v2; exact ⟨rfl, v2⟩
            | ok st' c3 => rw [hvv] at v2; exact ih false _ st' c3 v2
        · exact ⟨rfl, e2⟩
theorem Hom.ent (last x : ByteArray) (e : En) {a : P} (h : D a) : entG ny last x e (f a) = (entG nx last x e a).map f ∧ (entG nx last x e a).In D := by
  unfold entG
  split
  · obtain ⟨m1, m2⟩ := H.tag h last
    rw [m1]
    cases hm : tagG nx last a with
    | bad p => rw [hm] at m2; exact ⟨rfl, m2⟩
    | ok u c => rw [hm] at m2; exact ⟨rfl, m2⟩
  · split
    · obtain ⟨m1, m2⟩ := H.digest h
      rw [m1]
      cases hm : digestG nx a with
      | bad p => rw [hm] at m2; exact ⟨rfl, m2⟩
      | ok u c => rw [hm] at m2; exact ⟨rfl, m2⟩
    · split
      · obtain ⟨m1, m2⟩ := H.size h
        rw [m1]
        cases hm : sizeG nx a with
        | bad p => rw [hm] at m2; exact ⟨rfl, m2⟩
        | ok u c => rw [hm] at m2; exact ⟨rfl, m2⟩
      · exact ⟨rfl, h⟩
theorem Hom.entry (k : Nat) {p c : P} (hp : D p) (hc : D c) (last : ByteArray) : entryG ny k (f p) last (f c) = (entryG nx k p last c).map f ∧ (entryG nx k p last c).In D := by
  unfold entryG
  split
  · exact H.obj (fun x st a h => H.ent last x st h) 3 true _ _ c hc
  · exact ⟨rfl, hp⟩
theorem Hom.ents : ∀ (n : Nat) (es : List En) (last : ByteArray) (k : Nat) (p c : P), D p → D c → entsG ny n es last k (f p) (f c) = (entsG nx n es last k p c).map f ∧ (entsG nx n es last k p c).In D := by
  intro n
  induction n with
  | zero =>
    intro es last k p c hp hc
    unfold entsG
    obtain ⟨m1, m2⟩ := H.entry k hp hc last
    rw [m1]
    cases hm : entryG nx k p last c with
    | bad p => rw [hm] at m2; exact ⟨rfl, m2⟩
    | ok e c1 =>
      rw [hm] at m2
      dsimp only [RG.map]
      cases e : nx c1 with
      | bad p => obtain ⟨e1, e2⟩ := H.bad' m2 e; rw [e1]; exact ⟨rfl, e2⟩
      | tok k2 p2 n2 l2 c2 =>
        obtain ⟨e1, e2, e3⟩ := H.tok' m2 e
        rw [e1]; dsimp only
        split
        · exact ⟨rfl, e3⟩
        · exact ⟨rfl, e2⟩
  | succ n ih =>
    intro es last k p c hp hc
    unfold entsG
    obtain ⟨m1, m2⟩ := H.entry k hp hc last
    rw [m1]
    cases hm : entryG nx k p last c with
    | bad p => rw [hm] at m2; exact ⟨rfl, m2⟩
    | ok e c1 =>
      rw [hm] at m2
      dsimp only [RG.map]
      cases e : nx c1 with
      | bad p => obtain ⟨e1, e2⟩ := H.bad' m2 e; rw [e1]; exact ⟨rfl, e2⟩
      | tok k2 p2 n2 l2 c2 =>
        obtain ⟨e1, e2, e3⟩ := H.tok' m2 e
        rw [e1]; dsimp only
        split
        · exact ⟨rfl, e3⟩
        · split
          · cases e4 : nx c2 with
            | bad p => obtain ⟨e1, e2⟩ := H.bad' e3 e4; rw [e1]; exact ⟨rfl, e2⟩
            | tok k3 p3 n3 l3 c3 =>
              obtain ⟨e5, e6, e7⟩ := H.tok' e3 e4
              rw [e5]; dsimp only
              exact ih _ _ k3 p3 c3 e6 e7
          · exact ⟨rfl, e2⟩
theorem Hom.entries {a : P} (h : D a) : entriesG ny (f a) = (entriesG nx a).map f ∧ (entriesG nx a).In D := by
  unfold entriesG
  obtain ⟨m1, m2⟩ := H.mark h 91
  rw [m1]
  cases hm : markG nx a 91 with
  | bad p => rw [hm] at m2; exact ⟨rfl, m2⟩
  | ok u c =>
    rw [hm] at m2
    dsimp only [RG.map]
    cases e : nx c with
    | bad p => obtain ⟨e1, e2⟩ := H.bad' m2 e; rw [e1]; exact ⟨rfl, e2⟩
    | tok k2 p2 n2 l2 c2 =>
      obtain ⟨e1, e2, e3⟩ := H.tok' m2 e
      rw [e1]; dsimp only
      split
      · exact ⟨rfl, e3⟩
      · exact H.ents 7 [] _ k2 p2 c2 e2 e3
theorem Hom.top (x : ByteArray) (st : List En) {a : P} (h : D a) : topG ny x st (f a) = (topG nx x st a).map f ∧ (topG nx x st a).In D := by
  unfold topG
  split
  · obtain ⟨m1, m2⟩ := H.version h
    rw [m1]
    cases hm : versionG nx a with
    | bad p => rw [hm] at m2; exact ⟨rfl, m2⟩
    | ok u c => rw [hm] at m2; exact ⟨rfl, m2⟩
  · split
    · exact H.entries h
    · exact ⟨rfl, h⟩
theorem Hom.whole {a : P} (h : D a) : wholeG ny (f a) = (wholeG nx a).map f ∧ (wholeG nx a).In D := by
  unfold wholeG
  cases e : nx a with
  | bad p => obtain ⟨e1, e2⟩ := H.bad' h e; rw [e1]; exact ⟨rfl, e2⟩
  | tok k2 p2 n2 l2 c2 =>
    obtain ⟨e1, e2, e3⟩ := H.tok' h e
    rw [e1]; dsimp only
    split
    · exact H.obj (fun x st a h => H.top x st h) 2 true _ _ c2 e3
    · exact ⟨rfl, e2⟩
theorem Hom.read {a : P} (h : D a) : readG ny (f a) = (readG nx a).map f ∧ (readG nx a).In D := by
  unfold readG
  obtain ⟨m1, m2⟩ := H.whole h
  rw [m1]
  cases hm : wholeG nx a with
  | bad p => rw [hm] at m2; exact ⟨rfl, m2⟩
  | ok es c =>
    rw [hm] at m2
    dsimp only [RG.map]
    cases e : nx c with
    | bad p => obtain ⟨e1, e2⟩ := H.bad' m2 e; rw [e1]; exact ⟨rfl, e2⟩
    | tok k2 p2 n2 l2 c2 =>
      obtain ⟨e1, e2, e3⟩ := H.tok' m2 e
      rw [e1]; dsimp only
      split
      · exact ⟨rfl, e3⟩
      · exact ⟨rfl, e2⟩
end
end Go.Proofs.Ytpgamoielkpakaa

/-
  PROVED HERE: the index's reader by places: its next token.
-/
namespace Go.Proofs.Ytpgamoielkpakaa
/- digits, blanks, marks -/
def spB (c : Nat) : Bool := decide (c = 9) || decide (c = 10) || decide (c = 13) || decide (c = 32)
def markB (c : Nat) : Bool := decide (c = 123) || decide (c = 125) || decide (c = 91) || decide (c = 93) || decide (c = 58) || decide (c = 44)
def byteS (t : ByteArray) (a : Nat) : Option Nat :=
  if h : a < t.size then (if 32 ≤ (t[a]).toNat ∧ (t[a]).toNat ≤ 126 then some (t[a]).toNat else none) else none
theorem byteS_lt {t : ByteArray} {a x : Nat} (h : byteS t a = some x) : a < t.size := by
  unfold byteS at h; split at h
  · assumption
  · cases h
def skipS (t : ByteArray) (a : Nat) : Nat :=
  if h : a < t.size then (if spB (t[a]).toNat then skipS t (a + 1) else a) else a
termination_by t.size - a
def strS (t : ByteArray) (a : Nat) (acc : List UInt8) : Option (List UInt8 × Nat) :=
  match _h : byteS t a with
  | none => none
  | some x => if x = 34 then some (acc, a + 1) else if x = 92 then (match byteS t (a + 1) with
    | none => none
    | some y => if y = 34 ∨ y = 92 then strS t (a + 2) (acc ++ [UInt8.ofNat y]) else none) else strS t (a + 1) (acc ++ [UInt8.ofNat x])
termination_by t.size - a
decreasing_by
  · have := byteS_lt _h; omega
  · have := byteS_lt _h; omega
def numS (t : ByteArray) (p a n : Nat) : Option (Nat × Nat) :=
  if h : a < t.size then (if digB (t[a]).toNat then (if (p < a ∧ n = 0) ∨ ¬ a < p + 9 then none else numS t p (a + 1) (10 * n + ((t[a]).toNat - 48))) else some (n, a)) else some (n, a)
termination_by t.size - a
def nextAt (t : ByteArray) (p : Nat) : NG Nat :=
  if h : p < t.size then
    (if markB (t[p]).toNat then .tok (t[p]).toNat p 0 [] (p + 1)
    else if digB (t[p]).toNat then (match numS t p p 0 with | some (n, c) => .tok 48 p n [] c | none => .bad p)
    else if (t[p]).toNat = 34 then (match strS t (p + 1) [] with | some (l, c) => .tok 34 p 0 l c | none => .bad p)
    else .bad p)
  else .tok 0 p 0 [] p
def nextS (t : ByteArray) (a : Nat) : NG Nat := nextAt t (skipS t a)
end Go.Proofs.Ytpgamoielkpakaa

/-
  PROVED HERE: the document's tokens, cut at once and then gone through by their number, are read as the reader by places reads: the same entries, or the same place.
-/
namespace Go.Proofs.Ytpgamoielkpakaa
theorem skipS_up (t : ByteArray) (a : Nat) : a ≤ skipS t a := by
  fun_induction skipS t a with
  | case1 a h hs ih => omega
  | case2 a h hs => omega
  | case3 a h => omega
theorem skipS_size (t : ByteArray) (a : Nat) (ha : a ≤ t.size) : skipS t a ≤ t.size := by
  fun_induction skipS t a with
  | case1 a h hs ih => exact ih (by omega)
  | case2 a h hs => exact ha
  | case3 a h => exact ha
theorem skipS_twice (t : ByteArray) (a : Nat) : skipS t (skipS t a) = skipS t a := by
  fun_induction skipS t a with
  | case1 a h hs ih => exact ih
  | case2 a h hs => rw [skipS, dif_pos h, if_neg hs]
  | case3 a h => rw [skipS, dif_neg h]
theorem strS_to (t : ByteArray) (a : Nat) (acc : List UInt8) : ∀ l c, strS t a acc = some (l, c) → a < c ∧ c ≤ t.size := by
  fun_induction strS t a acc with
  | case1 a acc h => intro l c e; cases e
  | case2 a acc h => intro l c e; have := byteS_lt h; cases e; omega
  | case3 a acc h hn h2 => intro l c e; cases e
  | case4 a acc h hn y h2 hy ih => intro l c e; have := ih l c e; omega
  | case5 a acc h hn y h2 hy => intro l c e; cases e
  | case6 a acc x h hn hn2 ih => intro l c e; have := ih l c e; omega
theorem numS_to (t : ByteArray) (p a n : Nat) (ha : a ≤ t.size) : ∀ l c, numS t p a n = some (l, c) → a ≤ c ∧ c ≤ t.size := by
  fun_induction numS t p a n with
  | case1 a n h hd hb => intro l c e; cases e
  | case2 a n h hd hb ih => intro l c e; have := ih (by omega) l c e; omega
  | case3 a n h hd => intro l c e; cases e; omega
  | case4 a n h => intro l c e; cases e; omega
theorem numS_past (t : ByteArray) (p : Nat) (h : p < t.size) (hd : digB (t[p]).toNat = true) : ∀ l c, numS t p p 0 = some (l, c) → p < c ∧ c ≤ t.size := by
  intro l c e
  rw [numS, dif_pos h, if_pos hd] at e
  split at e
  · cases e
  · have := numS_to t p (p + 1) _ (by omega) l c e; omega
theorem nextAt_to (t : ByteArray) (p : Nat) : ∀ k q n l c, nextAt t p = .tok k q n l c → q = p ∧ ((k = 0 ∧ c = p ∧ n = 0 ∧ l = [] ∧ t.size ≤ p) ∨ (k ≠ 0 ∧ p < c ∧ c ≤ t.size ∧ (markB k = true ∨ k = 48 ∨ k = 34))) := by
  intro k q n l c e
  unfold nextAt at e
  split at e
  · rename_i h
    split at e
    · rename_i hm
      cases e
      refine ⟨rfl, .inr ⟨?_, by omega, by omega, .inl hm⟩⟩
      intro h0
      rw [h0] at hm
      exact absurd hm (by decide)
    · split at e
      · rename_i hd
        split at e
        · rename_i hnum
          cases e
          have := numS_past t p h hd _ _ hnum
          exact ⟨rfl, .inr ⟨by decide, by omega, by omega, .inr (.inl rfl)⟩⟩
        · cases e
      · split at e
        · split at e
          · rename_i hstr
            cases e
            have := strS_to t (p + 1) [] _ _ hstr
            exact ⟨rfl, .inr ⟨by decide, by omega, by omega, .inr (.inr rfl)⟩⟩
          · cases e
        · cases e
  · rename_i h
    cases e
    exact ⟨rfl, .inl ⟨rfl, rfl, rfl, rfl, by omega⟩⟩
theorem nextAt_bad (t : ByteArray) (p : Nat) : ∀ q, nextAt t p = .bad q → q = p := by
  intro q e
  unfold nextAt at e
  split at e
  · split at e
    · cases e
    · split at e
      · split at e
        · cases e
        · cases e; rfl
      · split at e
        · split at e
          · cases e
          · cases e; rfl
        · cases e; rfl
  · cases e
/-- A token of the document. -/
structure Tk where
  kind : Nat
  pl : Nat
  txt : List UInt8
  num : Nat
/-- The document's kind of a token of the reader's, and back. -/
def kindD (k : Nat) : Nat := if k = 34 then 115 else if k = 48 then 110 else k
def kindR (k : Nat) : Nat := if k = 115 then 34 else if k = 110 then 48 else k
theorem kindR_D {k : Nat} (h : markB k = true ∨ k = 48 ∨ k = 34) : kindR (kindD k) = k ∧ kindD k ≠ 63 ∧ kindD k ≠ 0 := by
  rcases h with h | rfl | rfl
  · simp only [markB, Bool.or_eq_true, decide_eq_true_eq] at h
    rcases h with ((((rfl | rfl) | rfl) | rfl) | rfl) | rfl <;> decide
  · decide
  · decide
/-- The tokens from a place on. -/
def cutL (t : ByteArray) (p : Nat) : List Tk :=
  match _h : nextAt t (skipS t p) with
  | .bad _ => [⟨63, skipS t p, [], 0⟩]
  | .tok k _ n l c => if _hk : k = 0 then [⟨0, skipS t p, [], 0⟩] else ⟨kindD k, skipS t p, l, n⟩ :: cutL t c
termination_by t.size - p
decreasing_by
  have h1 := (nextAt_to t _ _ _ _ _ _ _h).2
  have h2 := skipS_up t p
  rcases h1 with h1 | h1
  · exact absurd h1.1 _hk
  · omega
theorem cutL_bad {t : ByteArray} {p q : Nat} (h : nextAt t (skipS t p) = .bad q) : cutL t p = [⟨63, skipS t p, [], 0⟩] := by
  rw [cutL]; split
  · rfl
  · rename_i h2; rw [h] at h2; cases h2
theorem cutL_end {t : ByteArray} {p q n c : Nat} {l : List UInt8} (h : nextAt t (skipS t p) = .tok 0 q n l c) : cutL t p = [⟨0, skipS t p, [], 0⟩] := by
  rw [cutL]; split
  · rename_i h2; rw [h] at h2; cases h2
  · rename_i h2; rw [h] at h2; cases h2; rfl
theorem cutL_tok {t : ByteArray} {p k q n c : Nat} {l : List UInt8} (h : nextAt t (skipS t p) = .tok k q n l c) (hk : k ≠ 0) : cutL t p = ⟨kindD k, skipS t p, l, n⟩ :: cutL t c := by
  rw [cutL]; split
  · rename_i h2; rw [h] at h2; cases h2
  · rename_i h2; rw [h] at h2; cases h2; rw [dif_neg hk]
/-- The next token of a row of tokens, by its number. -/
def nextW (l : List Tk) (j : Nat) : NG Nat :=
  match l[j]? with
  | none => .bad j
  | some tk => if tk.kind = 63 then .bad j else .tok (kindR tk.kind) j tk.num tk.txt (if tk.kind = 0 then j else j + 1)
/-- The place of a token. -/
def plOf (l : List Tk) (j : Nat) : Nat := match l[j]? with | some tk => tk.pl | none => 0
/-- The reader by places, the blanks always passed. -/
def nextK (t : ByteArray) (p : Nat) : NG Nat := (nextAt t p).map (skipS t)
theorem hom_skip (t : ByteArray) : Hom (fun _ => True) (skipS t) (nextS t) (nextK t) where
  map := fun _ _ => rfl
  tok := fun _ _ _ _ _ _ _ _ => ⟨trivial, trivial⟩
  bad := fun _ _ _ _ => trivial
/-- From the token j on stand the tokens from the place p on. -/
def Cut (t : ByteArray) (l : List Tk) (j : Nat) : Prop := ∃ p, l.drop j = cutL t p
theorem drop_at {l : List Tk} {j : Nat} {x : Tk} {r : List Tk} (h : l.drop j = x :: r) : l[j]? = some x ∧ l.drop (j + 1) = r := by
  constructor
  · have : (l.drop j)[0]? = some x := by rw [h]; rfl
    rwa [List.getElem?_drop, Nat.add_zero] at this
  · have : (l.drop j).drop 1 = r := by rw [h]; rfl
    rwa [List.drop_drop] at this
theorem hom_cut (t : ByteArray) (l : List Tk) : Hom (Cut t l) (plOf l) (nextW l) (nextK t) where
  map := by
    rintro j ⟨p, hp⟩
    cases e : nextAt t (skipS t p) with
    | bad q =>
      obtain rfl := nextAt_bad t _ q e
      rw [cutL_bad e] at hp
      obtain ⟨h1, h2⟩ := drop_at hp
      simp only [nextW, plOf, h1, nextK, e, NG.map, skipS_twice, if_true]
    | tok k q n s c =>
      obtain ⟨rfl, h0 | h0⟩ := nextAt_to t _ k q n s c e
      · obtain ⟨rfl, rfl, rfl, rfl, h3⟩ := h0
        rw [cutL_end e] at hp
        obtain ⟨h1, h2⟩ := drop_at hp
        simp [nextW, plOf, h1, nextK, e, NG.map, skipS_twice, kindR]
      · obtain ⟨h3, h4, h5, h6⟩ := h0
        obtain ⟨g1, g2, g3⟩ := kindR_D h6
        rw [cutL_tok e h3] at hp
        obtain ⟨h1, h2⟩ := drop_at hp
        have hc : plOf l (j + 1) = skipS t c := by
          cases e2 : nextAt t (skipS t c) with
          | bad q => rw [cutL_bad e2] at h2; simp only [plOf, (drop_at h2).1]
          | tok k2 q2 n2 s2 c2 =>
            by_cases hk : k2 = 0
            · subst hk; rw [cutL_end e2] at h2; simp only [plOf, (drop_at h2).1]
            · rw [cutL_tok e2 hk] at h2; simp only [plOf, (drop_at h2).1]
        have hj : plOf l j = skipS t p := by simp only [plOf, h1]
        simp only [nextW, h1, nextK, e, NG.map, skipS_twice, hj, g1, if_neg g2, if_neg g3, hc]
  tok := by
    rintro j k q n s c ⟨p, hp⟩ e
    cases e1 : nextAt t (skipS t p) with
    | bad q =>
      rw [cutL_bad e1] at hp
      obtain ⟨h1, h2⟩ := drop_at hp
      simp [nextW, h1] at e
    | tok k2 q2 n2 s2 c2 =>
      by_cases hk : k2 = 0
      · subst hk
        rw [cutL_end e1] at hp
        obtain ⟨h1, h2⟩ := drop_at hp
        simp [nextW, h1] at e
        obtain ⟨-, rfl, -, -, rfl⟩ := e
        exact ⟨⟨p, by rw [hp, cutL_end e1]⟩, ⟨p, by rw [hp, cutL_end e1]⟩⟩
      · obtain ⟨-, h0 | h0⟩ := nextAt_to t _ _ _ _ _ _ e1
        · exact absurd h0.1 hk
        · obtain ⟨g1, g2, g3⟩ := kindR_D h0.2.2.2
          have hp' := hp
          rw [cutL_tok e1 hk] at hp
          obtain ⟨h1, h2⟩ := drop_at hp
          simp only [nextW, h1, if_neg g2, if_neg g3, NG.tok.injEq] at e
          obtain ⟨-, rfl, -, -, rfl⟩ := e
          exact ⟨⟨p, hp'⟩, ⟨c2, h2⟩⟩
  bad := by
    rintro j q ⟨p, hp⟩ e
    have : q = j := by
      unfold nextW at e
      split at e
      · cases e; rfl
      · split at e
        · cases e; rfl
        · cases e
    subst this
    exact ⟨p, hp⟩
/-- A place at which a token stands, or a reader gives up. -/
def Seen {P : Type} (nx : P → NG P) (p : P) : Prop := ∃ a, nx a = .bad p ∨ ∃ k n l c, nx a = .tok k p n l c
section
variable {P : Type} {nx : P → NG P}
theorem seen_mark {a p : P} {k : Nat} (h : markG nx a k = .bad p) : Seen nx p := by
  unfold markG at h
  split at h
  · rename_i e
    split at h
    · cases h
    · cases h; exact ⟨a, .inr ⟨_, _, _, _, e⟩⟩
  · rename_i e; cases h; exact ⟨a, .inl e⟩
theorem seen_version {a p : P} (h : versionG nx a = .bad p) : Seen nx p := by
  unfold versionG at h
  split at h
  · rename_i e
    split at h
    · cases h
    · cases h; exact ⟨a, .inr ⟨_, _, _, _, e⟩⟩
  · rename_i e; cases h; exact ⟨a, .inl e⟩
theorem seen_size {a p : P} (h : sizeG nx a = .bad p) : Seen nx p := by
  unfold sizeG at h
  split at h
  · rename_i e
    split at h
    · cases h
    · cases h; exact ⟨a, .inr ⟨_, _, _, _, e⟩⟩
  · rename_i e; cases h; exact ⟨a, .inl e⟩
theorem seen_tag {a p : P} {last : ByteArray} (h : tagG nx last a = .bad p) : Seen nx p := by
  unfold tagG at h
  split at h
  · rename_i e
    split at h
    · cases h
    · cases h; exact ⟨a, .inr ⟨_, _, _, _, e⟩⟩
  · rename_i e; cases h; exact ⟨a, .inl e⟩
theorem seen_digest {a p : P} (h : digestG nx a = .bad p) : Seen nx p := by
  unfold digestG at h
  split at h
  · rename_i e
    split at h
    · cases h
    · cases h; exact ⟨a, .inr ⟨_, _, _, _, e⟩⟩
  · rename_i e; cases h; exact ⟨a, .inl e⟩
theorem seen_obj {σ : Type} {val : ByteArray → σ → P → RG P σ} (hv : ∀ x st a p, val x st a = .bad p → Seen nx p) :
    ∀ (d : Nat) (first : Bool) (missing : List ByteArray) (st : σ) (a p : P), objG nx val first d missing st a = .bad p → Seen nx p := by
  intro d
  induction d with
  | zero =>
    intro first missing st a p h
    unfold objG at h
    split at h
    · cases h
    · rename_i e; cases h; exact seen_mark e
  | succ d ih =>
    intro first missing st a p h
    unfold objG at h
    split at h
    · rename_i e
      cases h
      cases first with
      | true => cases e
      | false => exact seen_mark e
    · split at h
      · rename_i e; cases h; exact ⟨_, .inl e⟩
      · rename_i e
        split at h
        · split at h
          · rename_i e2; cases h; exact seen_mark e2
          · split at h
            · rename_i e2; cases h; exact hv _ _ _ _ e2
            · exact ih _ _ _ _ _ h
        · cases h; exact ⟨_, .inr ⟨_, _, _, _, e⟩⟩
theorem seen_ent {last x : ByteArray} {e : En} {a p : P} (h : entG nx last x e a = .bad p) : Seen nx p := by
  unfold entG at h
  split at h
  · split at h
    · cases h
    · rename_i e2; cases h; exact seen_tag e2
  · split at h
    · split at h
      · cases h
      · rename_i e2; cases h; exact seen_digest e2
    · split at h
      · split at h
        · cases h
        · rename_i e2; cases h; exact seen_size e2
      · cases h
theorem seen_entry {k : Nat} {q c p : P} {last : ByteArray} (hq : Seen nx q) (h : entryG nx k q last c = .bad p) : Seen nx p := by
  unfold entryG at h
  split at h
  · exact seen_obj (fun x st a p h => seen_ent h) _ _ _ _ _ _ h
  · cases h; exact hq
theorem seen_ents : ∀ (n : Nat) (es : List En) (last : ByteArray) (k : Nat) (q c p : P), Seen nx q → entsG nx n es last k q c = .bad p → Seen nx p := by
  intro n
  induction n with
  | zero =>
    intro es last k q c p hq h
    unfold entsG at h
    split at h
    · rename_i e; cases h; exact seen_entry hq e
    · split at h
      · rename_i e; cases h; exact ⟨_, .inl e⟩
      · rename_i e
        split at h
        · cases h
        · cases h; exact ⟨_, .inr ⟨_, _, _, _, e⟩⟩
  | succ n ih =>
    intro es last k q c p hq h
    unfold entsG at h
    split at h
    · rename_i e; cases h; exact seen_entry hq e
    · split at h
      · rename_i e; cases h; exact ⟨_, .inl e⟩
      · rename_i e
        split at h
        · cases h
        · dsimp only at h
          split at h
          · split at h
            · rename_i e2; cases h; exact ⟨_, .inl e2⟩
            · rename_i e2; exact ih _ _ _ _ _ _ ⟨_, .inr ⟨_, _, _, _, e2⟩⟩ h
          · cases h; exact ⟨_, .inr ⟨_, _, _, _, e⟩⟩
theorem seen_entries {a p : P} (h : entriesG nx a = .bad p) : Seen nx p := by
  unfold entriesG at h
  split at h
  · rename_i e; cases h; exact seen_mark e
  · split at h
    · rename_i e; cases h; exact ⟨_, .inl e⟩
    · rename_i e
      split at h
      · cases h
      · exact seen_ents _ _ _ _ _ _ _ ⟨_, .inr ⟨_, _, _, _, e⟩⟩ h
theorem seen_top {x : ByteArray} {st : List En} {a p : P} (h : topG nx x st a = .bad p) : Seen nx p := by
  unfold topG at h
  split at h
  · split at h
    · cases h
    · rename_i e2; cases h; exact seen_version e2
  · split at h
    · exact seen_entries h
    · cases h
theorem seen_read {a p : P} (h : readG nx a = .bad p) : Seen nx p := by
  unfold readG at h
  split at h
  · rename_i e
    cases h
    unfold wholeG at e
    split at e
    · rename_i e2; cases e; exact ⟨_, .inl e2⟩
    · rename_i e2
      split at e
      · exact seen_obj (fun x st a p h => seen_top h) _ _ _ _ _ _ e
      · cases e; exact ⟨_, .inr ⟨_, _, _, _, e2⟩⟩
  · split at h
    · rename_i e; cases h; exact ⟨_, .inl e⟩
    · rename_i e
      split at h
      · cases h
      · cases h; exact ⟨_, .inr ⟨_, _, _, _, e⟩⟩
end
theorem seen_skipped {t : ByteArray} {p : Nat} (h : Seen (nextS t) p) : skipS t p = p := by
  obtain ⟨a, h | ⟨k, n, l, c, h⟩⟩ := h
  · obtain rfl := nextAt_bad t _ _ h; exact skipS_twice t a
  · obtain rfl := (nextAt_to t _ _ _ _ _ _ h).1; exact skipS_twice t a
/-- What the document's reader answers, in the reader's by places. -/
theorem read_both (t : ByteArray) :
    (∀ es c, readG (nextS t) 0 = .ok es c → ∃ j, readG (nextW (cutL t 0)) 0 = .ok es j) ∧
    (∀ p, readG (nextS t) 0 = .bad p → ∃ j, readG (nextW (cutL t 0)) 0 = .bad j ∧ plOf (cutL t 0) j = p ∧ j < (cutL t 0).length) := by
  have h1 := ((hom_skip t).read (a := 0) trivial).1
  have hD : Cut t (cutL t 0) 0 := ⟨0, rfl⟩
  have h2 := (hom_cut t (cutL t 0)).read hD
  have h3 : plOf (cutL t 0) 0 = skipS t 0 := by
    cases e : nextAt t (skipS t 0) with
    | bad q => rw [cutL_bad e]; rfl
    | tok k q n s c =>
      by_cases hk : k = 0
      · subst hk; rw [cutL_end e]; rfl
      · rw [cutL_tok e hk]; rfl
  rw [h3, h1] at h2
  constructor
  · intro es c h
    rw [h] at h2
    cases e : readG (nextW (cutL t 0)) 0 with
    | ok es2 j => rw [e] at h2; have := h2.1; simp only [RG.map, RG.ok.injEq] at this; exact ⟨j, by rw [this.1]⟩
    | bad j => rw [e] at h2; have := h2.1; simp only [RG.map] at this; cases this
  · intro p h
    have hs := seen_skipped (seen_read h)
    rw [h] at h2
    cases e : readG (nextW (cutL t 0)) 0 with
    | ok es2 j => rw [e] at h2; have := h2.1; simp only [RG.map] at this; cases this
    | bad j =>
      rw [e] at h2
      have h4 := h2.1
      simp only [RG.map, RG.bad.injEq] at h4
      refine ⟨j, rfl, by rw [← h4, hs], ?_⟩
      obtain ⟨p2, h5⟩ : Cut t (cutL t 0) j := h2.2
      apply Classical.byContradiction
      intro hl
      rw [List.drop_eq_nil_of_le (by omega)] at h5
      cases e3 : nextAt t (skipS t p2) with
      | bad q => rw [cutL_bad e3] at h5; cases h5
      | tok k q n s c =>
        by_cases hk : k = 0
        · subst hk; rw [cutL_end e3] at h5; cases h5
        · rw [cutL_tok e3 hk] at h5; cases h5
end Go.Proofs.Ytpgamoielkpakaa

/-
  PROVED HERE: the document's way through the tokens, as plain functions: what it answers is what the reader over the tokens' numbers answers.
-/
namespace Go.Proofs.Ytpgamoielkpakaa
/-- How far the tokens are gone through, and whether something was wrong. -/
structure Ws where
  j : Nat
  bad : Bool
def tk0 : Tk := ⟨0, 0, [], 0⟩
def Tk.s (t : Tk) : ByteArray := ⟨t.txt.toArray⟩
def wantsP (l : List Tk) (kind : Nat) (s : Ws) : Tk × Ws :=
  if s.bad = true ∨ (l.getD s.j tk0).kind ≠ kind then (tk0, ⟨s.j, true⟩) else (l.getD s.j tk0, ⟨s.j + 1, false⟩)
def backP (wrong : Bool) (s : Ws) : Ws := if wrong = true ∧ s.bad = false then ⟨s.j - 1, true⟩ else s
def memberP (l : List Tk) (left : List ByteArray) (s : Ws) : (ByteArray × List ByteArray) × Ws :=
  if (wantsP l 115 s).2.bad = true then ((⟨#[]⟩, left), (wantsP l 115 s).2)
  else if 0 ≤ Lib.idxOfS left (wantsP l 115 s).1.s then (((wantsP l 115 s).1.s, left.eraseIdx (Lib.idxOfS left (wantsP l 115 s).1.s).toNat), (wantsP l 58 (wantsP l 115 s).2).2)
  else ((⟨#[]⟩, left), backP true (wantsP l 115 s).2)
def goesP (l : List Tk) (left : List ByteArray) (s : Ws) : Ws := (wantsP l (if left = [] then 125 else 44) s).2
def objP {σ : Type} (l : List Tk) (val : ByteArray → σ → Ws → σ × Ws) : Nat → List ByteArray → σ → Ws → σ × Ws
  | 0, _, x, s => (x, s)
  | d + 1, left, x, s => if s.bad = true then (x, s) else
    objP l val d (memberP l left s).1.2 (val (memberP l left s).1.1 x (memberP l left s).2).1 (goesP l (memberP l left s).1.2 (val (memberP l left s).1.1 x (memberP l left s).2).2)
def entB (l : List Tk) (last name : ByteArray) (x : En) (s : Ws) : En × Ws :=
  if name = sTag then ({ x with name := (wantsP l 115 s).1.s }, backP (!isTagB (wantsP l 115 s).1.s || leB (wantsP l 115 s).1.s last) (wantsP l 115 s).2)
  else if name = sDigest then ({ x with dig := (wantsP l 115 s).1.s }, backP (!isDigB (wantsP l 115 s).1.s) (wantsP l 115 s).2)
  else if name = sSize then ({ x with size := (wantsP l 110 s).1.num }, backP (decide (300 < (wantsP l 110 s).1.num)) (wantsP l 110 s).2)
  else (x, s)
def entryP (l : List Tk) (last : ByteArray) (s : Ws) : En × Ws := objP l (entB l last) 3 [sTag, sDigest, sSize] En0 (wantsP l 123 s).2
def entsP (l : List Tk) : Nat → List En → ByteArray → Ws → List En × Ws
  | 0, es, last, s => (es ++ [(entryP l last s).1], (wantsP l 93 (entryP l last s).2).2)
  | n + 1, es, last, s => if (entryP l last s).2.bad = false ∧ (l.getD (entryP l last s).2.j tk0).kind = 44 then entsP l n (es ++ [(entryP l last s).1]) (entryP l last s).1.name ⟨(entryP l last s).2.j + 1, false⟩
    else (es ++ [(entryP l last s).1], (wantsP l 93 (entryP l last s).2).2)
def entriesP (l : List Tk) (s : Ws) : List En × Ws :=
  if (wantsP l 91 s).2.bad = true then ([], (wantsP l 91 s).2)
  else if (l.getD (wantsP l 91 s).2.j tk0).kind = 93 then ([], ⟨(wantsP l 91 s).2.j + 1, false⟩)
  else entsP l 7 [] ⟨#[]⟩ (wantsP l 91 s).2
def topB (l : List Tk) (name : ByteArray) (es : List En) (s : Ws) : List En × Ws :=
  if name = sVersion then (es, backP (decide ((wantsP l 110 s).1.num ≠ 1)) (wantsP l 110 s).2)
  else if name = sTags then entriesP l s
  else (es, s)
def parseP (l : List Tk) : List En × Ws :=
  ((objP l (topB l) 2 [sVersion, sTags] [] (wantsP l 123 ⟨0, false⟩).2).1, (wantsP l 0 (objP l (topB l) 2 [sVersion, sTags] [] (wantsP l 123 ⟨0, false⟩).2).2).2)
/-- A row of tokens as the text is cut: behind one that is no end stands another; strings and numbers have the document's kinds. -/
structure GoodL (l : List Tk) : Prop where
  ends : ∀ j tk, l[j]? = some tk → tk.kind ≠ 0 → tk.kind ≠ 63 → j + 1 < l.length
  kinds : ∀ tk, tk ∈ l → tk.kind ≠ 34 ∧ tk.kind ≠ 48
  pos : 0 < l.length
theorem kindD_not (k : Nat) : kindD k ≠ 34 ∧ kindD k ≠ 48 := by
  unfold kindD
  split
  · omega
  · split
    · omega
    · omega
theorem goodL_cut (t : ByteArray) (p : Nat) : GoodL (cutL t p) := by
  cases e : nextAt t (skipS t p) with
  | bad q =>
    rw [cutL_bad e]
    refine ⟨fun j tk h h0 h1 => ?_, fun tk h => ?_, by simp⟩
    · cases j with
      | zero => simp only [List.getElem?_cons_zero, Option.some.injEq] at h; subst h; exact absurd rfl h1
      | succ j => simp at h
    · simp only [List.mem_singleton] at h; subst h; exact ⟨by show (63 : Nat) ≠ 34; decide, by show (63 : Nat) ≠ 48; decide⟩
  | tok k q n s c =>
    by_cases hk : k = 0
    · subst hk
      rw [cutL_end e]
      refine ⟨fun j tk h h0 h1 => ?_, fun tk h => ?_, by simp⟩
      · cases j with
        | zero => simp only [List.getElem?_cons_zero, Option.some.injEq] at h; subst h; exact absurd rfl h0
        | succ j => simp at h
      · simp only [List.mem_singleton] at h; subst h; exact ⟨by show (0 : Nat) ≠ 34; decide, by show (0 : Nat) ≠ 48; decide⟩
    · have hlt : p < c ∧ p < t.size := by
        have h1 := (nextAt_to t _ _ _ _ _ _ e).2
        have h2 := skipS_up t p
        rcases h1 with h1 | h1
        · exact absurd h1.1 hk
        · omega
      have ih := goodL_cut t c
      rw [cutL_tok e hk]
      refine ⟨fun j tk h h0 h1 => ?_, fun tk h => ?_, by simp⟩
      · cases j with
        | zero => have := ih.pos; simp only [List.length_cons]; omega
        | succ j =>
          simp only [List.getElem?_cons_succ] at h
          have := ih.ends j tk h h0 h1
          simp only [List.length_cons]; omega
      · simp only [List.mem_cons] at h
        rcases h with rfl | h
        · exact kindD_not k
        · exact ih.kinds tk h
termination_by t.size - p
/- what each of them does where something was wrong: nothing -/
theorem wants_bad (l : List Tk) (kind : Nat) {s : Ws} (h : s.bad = true) : wantsP l kind s = (tk0, s) := by
  obtain ⟨j, b⟩ := s
  cases h
  simp [wantsP]
theorem back_bad (wrong : Bool) {s : Ws} (h : s.bad = true) : backP wrong s = s := by simp [backP, h]
theorem member_bad (l : List Tk) (left : List ByteArray) {s : Ws} (h : s.bad = true) : (memberP l left s).2 = s := by
  simp [memberP, wants_bad l 115 h, h]
theorem goes_bad (l : List Tk) (left : List ByteArray) {s : Ws} (h : s.bad = true) : goesP l left s = s := by simp [goesP, wants_bad l _ h]
theorem obj_bad {σ : Type} (l : List Tk) (val : ByteArray → σ → Ws → σ × Ws) (d : Nat) (left : List ByteArray) (x : σ) {s : Ws} (h : s.bad = true) : objP l val d left x s = (x, s) := by
  cases d with
  | zero => rfl
  | succ d => simp [objP, h]
theorem entB_bad (l : List Tk) (last name : ByteArray) (x : En) {s : Ws} (h : s.bad = true) : (entB l last name x s).2 = s := by
  unfold entB
  split
  · simp [wants_bad l _ h, back_bad _ h]
  · split
    · simp [wants_bad l _ h, back_bad _ h]
    · split
      · simp [wants_bad l _ h, back_bad _ h]
      · rfl
theorem entries_bad (l : List Tk) {s : Ws} (h : s.bad = true) : (entriesP l s).2 = s := by
  simp [entriesP, wants_bad l _ h, h]
theorem topB_bad (l : List Tk) (name : ByteArray) (es : List En) {s : Ws} (h : s.bad = true) : (topB l name es s).2 = s := by
  unfold topB
  split
  · simp [wants_bad l _ h, back_bad _ h]
  · split
    · exact entries_bad l h
    · rfl
/- what was gone through is a token's number -/
def InL (l : List Tk) (s : Ws) : Prop := s.j < l.length
theorem wants_in {l : List Tk} (hl : GoodL l) {kind : Nat} (h0 : kind ≠ 0) (h1 : kind ≠ 63) {s : Ws} (h : InL l s) : InL l (wantsP l kind s).2 ∧ ((wantsP l kind s).2.bad = true ∨ 1 ≤ (wantsP l kind s).2.j) := by
  unfold wantsP
  split
  · exact ⟨h, .inl rfl⟩
  · rename_i hn
    have hk : (l.getD s.j tk0).kind = kind := Classical.byContradiction fun e => hn (.inr e)
    have hj : l[s.j]? = some (l.getD s.j tk0) := by
      have h' : s.j < l.length := h
      rw [List.getD_eq_getElem?_getD, List.getElem?_eq_getElem h']; rfl
    exact ⟨hl.ends _ _ hj (by rw [hk]; exact h0) (by rw [hk]; exact h1), .inr (by simp)⟩
theorem back_in {l : List Tk} {wrong : Bool} {s : Ws} (h : InL l s) : InL l (backP wrong s) := by
  unfold backP
  split
  · show s.j - 1 < l.length
    have : s.j < l.length := h
    omega
  · exact h
theorem member_in {l : List Tk} (hl : GoodL l) {left : List ByteArray} {s : Ws} (h : InL l s) : InL l (memberP l left s).2 := by
  have h1 := (wants_in hl (kind := 115) (by decide) (by decide) h).1
  unfold memberP
  split
  · exact h1
  · split
    · exact (wants_in hl (by decide) (by decide) h1).1
    · exact back_in h1
theorem goes_in {l : List Tk} (hl : GoodL l) {left : List ByteArray} {s : Ws} (h : InL l s) : InL l (goesP l left s) := by
  unfold goesP
  split
  · exact (wants_in hl (by decide) (by decide) h).1
  · exact (wants_in hl (by decide) (by decide) h).1
theorem obj_in {σ : Type} {l : List Tk} (hl : GoodL l) {val : ByteArray → σ → Ws → σ × Ws} (hv : ∀ n x s, InL l s → InL l (val n x s).2) : ∀ (d : Nat) (left : List ByteArray) (x : σ) (s : Ws), InL l s → InL l (objP l val d left x s).2
  | 0, _, _, _, h => h
  | d + 1, left, x, s, h => by
    unfold objP
    split
    · exact h
    · exact obj_in hl hv d _ _ _ (goes_in hl (hv _ _ _ (member_in hl h)))
theorem entB_in {l : List Tk} (hl : GoodL l) (last name : ByteArray) (x : En) (s : Ws) (h : InL l s) : InL l (entB l last name x s).2 := by
  unfold entB
  split
  · exact back_in (wants_in hl (by decide) (by decide) h).1
  · split
    · exact back_in (wants_in hl (by decide) (by decide) h).1
    · split
      · exact back_in (wants_in hl (by decide) (by decide) h).1
      · exact h
theorem entry_in {l : List Tk} (hl : GoodL l) (last : ByteArray) {s : Ws} (h : InL l s) : InL l (entryP l last s).2 :=
  obj_in hl (entB_in hl last) _ _ _ _ (wants_in hl (by decide) (by decide) h).1
theorem step_in {l : List Tk} (hl : GoodL l) {k : Nat} (h0 : k ≠ 0) (h1 : k ≠ 63) {j : Nat} (h : j < l.length) (hk : (l.getD j tk0).kind = k) : j + 1 < l.length := by
  have hj : l[j]? = some (l.getD j tk0) := by rw [List.getD_eq_getElem?_getD, List.getElem?_eq_getElem h]; rfl
  exact hl.ends _ _ hj (by rw [hk]; exact h0) (by rw [hk]; exact h1)
theorem ents_in {l : List Tk} (hl : GoodL l) : ∀ (n : Nat) (es : List En) (last : ByteArray) (s : Ws), InL l s → InL l (entsP l n es last s).2
  | 0, es, last, s, h => (wants_in hl (by decide) (by decide) (entry_in hl last h)).1
  | n + 1, es, last, s, h => by
    unfold entsP
    split
    · rename_i hc
      exact ents_in hl n _ _ _ (step_in hl (by decide) (by decide) (entry_in hl last h) hc.2)
    · exact (wants_in hl (by decide) (by decide) (entry_in hl last h)).1
theorem entries_in {l : List Tk} (hl : GoodL l) {s : Ws} (h : InL l s) : InL l (entriesP l s).2 := by
  have h1 := (wants_in hl (kind := 91) (by decide) (by decide) h).1
  unfold entriesP
  split
  · exact h1
  · split
    · rename_i hc
      exact step_in hl (by decide) (by decide) h1 hc
    · exact ents_in hl _ _ _ _ h1
theorem topB_in {l : List Tk} (hl : GoodL l) (name : ByteArray) (es : List En) (s : Ws) (h : InL l s) : InL l (topB l name es s).2 := by
  unfold topB
  split
  · exact back_in (wants_in hl (by decide) (by decide) h).1
  · split
    · exact entries_in hl h
    · exact h
theorem RowStrX.idxFrom (x : ByteArray) : ∀ (ms : List ByteArray) (j : Nat), Lib.idxFromS ms x j = -1 ∨ ∃ i, i < ms.length ∧ Lib.idxFromS ms x j = ((j + i : Nat) : Int)
  | [], _ => Or.inl rfl
  | z :: zs, j => by
    by_cases hz : z = x
    · right; exact ⟨0, by simp, by simp [Lib.idxFromS, hz]⟩
    · rcases RowStrX.idxFrom x zs (j + 1) with h | ⟨i, hi, h⟩
      · left; simp only [Lib.idxFromS, if_neg hz, h]
      · right; exact ⟨i + 1, by simp; omega, by simp only [Lib.idxFromS, if_neg hz, h]; omega⟩
theorem RowStrX.idx_cases (ms : List ByteArray) (x : ByteArray) : Lib.idxOfS ms x = -1 ∨ ∃ i, i < ms.length ∧ Lib.idxOfS ms x = (i : Int) := by
  rcases RowStrX.idxFrom x ms 0 with h | ⟨i, hi, h⟩
  · exact Or.inl h
  · exact Or.inr ⟨i, hi, by unfold Lib.idxOfS; rw [h]; omega⟩
/- the tie to the reader over the tokens' numbers -/
def RelP {α : Type} (r : RG Nat α) (o : α × Ws) : Prop :=
  match r with
  | .ok v c => o = (v, ⟨c, false⟩)
  | .bad p => o.2 = ⟨p, true⟩
theorem next_at {l : List Tk} {j : Nat} (h : j < l.length) : nextW l j = if (l.getD j tk0).kind = 63 then .bad j else .tok (kindR (l.getD j tk0).kind) j (l.getD j tk0).num (l.getD j tk0).txt (if (l.getD j tk0).kind = 0 then j else j + 1) := by
  unfold nextW
  rw [List.getD_eq_getElem?_getD, List.getElem?_eq_getElem h]
  rfl
theorem kind_of {l : List Tk} (hl : GoodL l) {j : Nat} (h : j < l.length) : (l.getD j tk0).kind ≠ 34 ∧ (l.getD j tk0).kind ≠ 48 :=
  hl.kinds _ (by rw [List.getD_eq_getElem?_getD, List.getElem?_eq_getElem h]; exact List.getElem_mem h)
/-- A token of this kind comes, or not. -/
theorem wants_next {l : List Tk} (hl : GoodL l) {kind : Nat} (h0 : kind ≠ 0) (h1 : kind ≠ 63) (h34 : kind ≠ 34) (h48 : kind ≠ 48) {j : Nat} (h : j < l.length) :
    (∃ tk, nextW l j = .tok (kindR kind) j tk.num tk.txt (j + 1) ∧ wantsP l kind ⟨j, false⟩ = (tk, ⟨j + 1, false⟩)) ∨
    ((nextW l j = .bad j ∨ ∃ k n s c, nextW l j = .tok k j n s c ∧ k ≠ kindR kind) ∧ wantsP l kind ⟨j, false⟩ = (tk0, ⟨j, true⟩)) := by
  rw [next_at h]
  unfold wantsP
  obtain ⟨g34, g48⟩ := kind_of hl h
  dsimp only
  generalize l.getD j tk0 = tk at g34 g48 ⊢
  by_cases hk : tk.kind = kind
  · refine .inl ⟨tk, ?_, ?_⟩
    · rw [hk, if_neg h1, if_neg h0]
    · simp [hk]
  · refine .inr ⟨?_, by simp [hk]⟩
    by_cases h63 : tk.kind = 63
    · rw [if_pos h63]; exact .inl rfl
    · rw [if_neg h63]
      refine .inr ⟨_, _, _, _, rfl, ?_⟩
      unfold kindR
      split
      · split <;> first | omega | (split <;> omega)
      · split
        · split <;> first | omega | (split <;> omega)
        · split <;> first | omega | (split <;> omega)
theorem wants_mark {l : List Tk} (hl : GoodL l) {kind : Nat} (h0 : kind ≠ 0) (h1 : kind ≠ 63) (h34 : kind ≠ 34) (h48 : kind ≠ 48) {j : Nat} (h : j < l.length) :
    (markG (nextW l) j (kindR kind) = .ok () (j + 1) ∧ (wantsP l kind ⟨j, false⟩).2 = ⟨j + 1, false⟩ ∧ j + 1 < l.length) ∨ (markG (nextW l) j (kindR kind) = .bad j ∧ (wantsP l kind ⟨j, false⟩).2 = ⟨j, true⟩) := by
  have hin := (wants_in hl h0 h1 (s := ⟨j, false⟩) h).1
  rcases wants_next hl h0 h1 h34 h48 h with ⟨tk, e1, e2⟩ | ⟨e1 | ⟨k, n, s, c, e1, hk⟩, e2⟩
  · rw [e2] at hin
    refine .inl ⟨?_, by rw [e2], hin⟩
    unfold markG; rw [e1]; simp
  · refine .inr ⟨?_, by rw [e2]⟩
    unfold markG; rw [e1]
  · refine .inr ⟨?_, by rw [e2]⟩
    unfold markG; rw [e1]; simp [hk]
theorem objG_false {σ : Type} (nx : Nat → NG Nat) (val : ByteArray → σ → Nat → RG Nat σ) (d : Nat) (ms : List ByteArray) (st : σ) (a : Nat) :
    objG nx val false (d + 1) ms st a = match markG nx a 44 with | .bad p => .bad p | .ok _ a1 => objG nx val true (d + 1) ms st a1 := by
  rw [objG]
  simp only [Bool.false_eq_true, if_false]
  cases markG nx a 44 with
  | bad p => rfl
  | ok v c => simp only [objG, if_true]
theorem relP_bad {α : Type} {p : Nat} {o : α × Ws} (h : o.2 = ⟨p, true⟩) : RelP (.bad p) o := h
section
variable {σ : Type} {l : List Tk} {valG : ByteArray → σ → Nat → RG Nat σ} {val : ByteArray → σ → Ws → σ × Ws}
theorem obj_step_bad (hb : ∀ n x s, s.bad = true → (val n x s).2 = s) {d : Nat} {ms : List ByteArray} {st : σ} {a p : Nat} (h : (memberP l ms ⟨a, false⟩).2 = ⟨p, true⟩) : (objP l val (d + 1) ms st ⟨a, false⟩).2 = ⟨p, true⟩ := by
  rw [objP]
  simp only [Bool.false_eq_true, if_false]
  rw [h, hb _ _ _ rfl, goes_bad l _ rfl, obj_bad l val d _ _ rfl]
theorem obj_of_tail (hl : GoodL l) (hv : ∀ x st j, j < l.length → RelP (valG x st j) (val x st ⟨j, false⟩)) (hin : ∀ n x s, InL l s → InL l (val n x s).2) (hb : ∀ n x s, s.bad = true → (val n x s).2 = s) (d : Nat)
    (T : ∀ (ms : List ByteArray) (st : σ) (c : Nat), ms.length = d → c < l.length → RelP (objG (nextW l) valG false d ms st c) (objP l val d ms st (goesP l ms ⟨c, false⟩)))
    (ms : List ByteArray) (st : σ) (a : Nat) (hm : ms.length = d + 1) (ha : a < l.length) : RelP (objG (nextW l) valG true (d + 1) ms st a) (objP l val (d + 1) ms st ⟨a, false⟩) := by
  have hin1 := (wants_in hl (kind := 115) (by decide) (by decide) (s := ⟨a, false⟩) ha).1
  rw [objG]
  simp only [if_true]
  rcases wants_next hl (kind := 115) (by decide) (by decide) (by decide) (by decide) ha with ⟨tk, e1, e2⟩ | ⟨e1 | ⟨k, n, s, c, e1, hk⟩, e2⟩
  · rw [e1]
    rw [e2] at hin1
    have hin2 : a + 1 < l.length := hin1
    dsimp only
    rcases RowStrX.idx_cases ms tk.s with hx | ⟨i, hi, hx⟩
    · have hne : ¬ (kindR 115 = 34 ∧ 0 ≤ Lib.idxOfS ms ⟨tk.txt.toArray⟩) := by
        rintro ⟨-, h⟩
        have hx' : Lib.idxOfS ms ⟨tk.txt.toArray⟩ = -1 := hx
        omega
      rw [if_neg hne]
      refine relP_bad (obj_step_bad hb ?_)
      unfold memberP
      rw [e2, hx]
      simp [backP]
    · have hx' : Lib.idxOfS ms ⟨tk.txt.toArray⟩ = (i : Int) := hx
      rw [if_pos ⟨rfl, by rw [hx']; omega⟩]
      have hmem : memberP l ms ⟨a, false⟩ = ((tk.s, ms.eraseIdx (Lib.idxOfS ms tk.s).toNat), (wantsP l 58 ⟨a + 1, false⟩).2) := by
        unfold memberP
        rw [e2]
        rw [if_neg (by simp), if_pos (by rw [hx]; omega)]
      rcases wants_mark hl (kind := 58) (by decide) (by decide) (by decide) (by decide) hin2 with ⟨f1, f2, f3⟩ | ⟨f1, f2⟩
      · rw [show kindR 58 = 58 from rfl] at f1
        rw [f1]
        dsimp only
        have hval := hv tk.s st (a + 1 + 1) f3
        have hvin := hin tk.s st ⟨a + 1 + 1, false⟩ f3
        rw [objP]
        simp only [Bool.false_eq_true, if_false]
        rw [hmem, f2]
        dsimp only
        unfold Tk.s at hval hvin ⊢
        cases ev : valG ⟨tk.txt.toArray⟩ st (a + 1 + 1) with
        | bad p =>
          rw [ev] at hval
          have h2 : (val ⟨tk.txt.toArray⟩ st ⟨a + 1 + 1, false⟩).2 = ⟨p, true⟩ := hval
          dsimp only
          refine relP_bad ?_
          rw [h2, goes_bad l _ rfl, obj_bad l val d _ _ rfl]
        | ok st2 c3 =>
          rw [ev] at hval
          have h2 : val ⟨tk.txt.toArray⟩ st ⟨a + 1 + 1, false⟩ = (st2, ⟨c3, false⟩) := hval
          rw [h2] at hvin ⊢
          dsimp only
          refine T _ _ _ ?_ hvin
          rw [List.length_eraseIdx, hx', if_pos (by simpa using hi)]
          omega
      · rw [show kindR 58 = 58 from rfl] at f1
        rw [f1]
        dsimp only
        exact relP_bad (obj_step_bad hb (by rw [hmem, f2]))
  · rw [e1]
    exact relP_bad (obj_step_bad hb (by unfold memberP; rw [e2]; simp))
  · rw [e1]
    dsimp only
    rw [if_neg (fun h => hk h.1)]
    exact relP_bad (obj_step_bad hb (by unfold memberP; rw [e2]; simp))
theorem obj_rel (hl : GoodL l) (hv : ∀ x st j, j < l.length → RelP (valG x st j) (val x st ⟨j, false⟩)) (hin : ∀ n x s, InL l s → InL l (val n x s).2) (hb : ∀ n x s, s.bad = true → (val n x s).2 = s) :
    ∀ (d : Nat) (ms : List ByteArray) (st : σ) (a : Nat), ms.length = d + 1 → a < l.length → RelP (objG (nextW l) valG true (d + 1) ms st a) (objP l val (d + 1) ms st ⟨a, false⟩) := by
  intro d
  induction d with
  | zero =>
    refine obj_of_tail hl hv hin hb 0 ?_
    intro ms st c hm hc
    have hms : ms = [] := List.eq_nil_of_length_eq_zero hm
    subst hms
    rw [objG, objP]
    unfold goesP
    simp only [if_true]
    rcases wants_mark hl (kind := 125) (by decide) (by decide) (by decide) (by decide) hc with ⟨f1, f2, f3⟩ | ⟨f1, f2⟩
    · rw [show kindR 125 = 125 from rfl] at f1
      rw [f1, f2]; rfl
    · rw [show kindR 125 = 125 from rfl] at f1
      rw [f1, f2]; exact relP_bad rfl
  | succ d ih =>
    refine obj_of_tail hl hv hin hb (d + 1) ?_
    intro ms st c hm hc
    have hms : ms ≠ [] := fun e => by rw [e] at hm; simp at hm
    rw [objG_false]
    unfold goesP
    rw [if_neg hms]
    rcases wants_mark hl (kind := 44) (by decide) (by decide) (by decide) (by decide) hc with ⟨f1, f2, f3⟩ | ⟨f1, f2⟩
    · rw [show kindR 44 = 44 from rfl] at f1
      rw [f1, f2]; exact ih ms st (c + 1) hm f3
    · rw [show kindR 44 = 44 from rfl] at f1
      rw [f1, f2]; exact relP_bad (by rw [obj_bad l val _ _ _ rfl])
end
section
variable {l : List Tk} (hl : GoodL l)
include hl
theorem entB_rel (last x : ByteArray) (e : En) (j : Nat) (h : j < l.length) : RelP (entG (nextW l) last x e j) (entB l last x e ⟨j, false⟩) := by
  have w1 := wants_next hl (kind := 115) (by decide) (by decide) (by decide) (by decide) h
  have w2 := wants_next hl (kind := 110) (by decide) (by decide) (by decide) (by decide) h
  rw [show kindR 115 = 34 from rfl] at w1
  rw [show kindR 110 = 48 from rfl] at w2
  unfold entG entB
  by_cases h1 : x = sTag
  · rw [if_pos h1, if_pos h1]
    unfold tagG
    rcases w1 with ⟨tk, e1, e2⟩ | ⟨e1 | ⟨k, n, s, c, e1, hk⟩, e2⟩
    · rw [e1, e2]
      dsimp only
      unfold Tk.s
      cases ht : isTagB ⟨tk.txt.toArray⟩ <;> cases hle : leB ⟨tk.txt.toArray⟩ last <;> simp [backP, RelP]
    · rw [e1, e2]; simp [backP, RelP]
    · rw [e1, e2]; simp [backP, RelP, hk]
  · rw [if_neg h1, if_neg h1]
    by_cases h2 : x = sDigest
    · rw [if_pos h2, if_pos h2]
      unfold digestG
      rcases w1 with ⟨tk, e1, e2⟩ | ⟨e1 | ⟨k, n, s, c, e1, hk⟩, e2⟩
      · rw [e1, e2]
        dsimp only
        unfold Tk.s
        cases ht : isDigB ⟨tk.txt.toArray⟩ <;> simp [backP, RelP]
      · rw [e1, e2]; simp [backP, RelP]
      · rw [e1, e2]; simp [backP, RelP, hk]
    · rw [if_neg h2, if_neg h2]
      by_cases h3 : x = sSize
      · rw [if_pos h3, if_pos h3]
        unfold sizeG
        rcases w2 with ⟨tk, e1, e2⟩ | ⟨e1 | ⟨k, n, s, c, e1, hk⟩, e2⟩
        · rw [e1, e2]
          dsimp only
          by_cases hn : tk.num ≤ 300
          · have hn2 : ¬ 300 < tk.num := by omega
            simp [backP, RelP, hn, hn2]
          · have hn2 : 300 < tk.num := by omega
            simp [backP, RelP, hn, hn2]
        · rw [e1, e2]; simp [backP, RelP]
        · rw [e1, e2]; simp [backP, RelP, hk]
      · rw [if_neg h3, if_neg h3]
        exact rfl
theorem entry_rel (last : ByteArray) (j : Nat) (h : j < l.length) :
    RelP (match nextW l j with | .bad p => .bad p | .tok k p _ _ c => entryG (nextW l) k p last c) (entryP l last ⟨j, false⟩) := by
  have hin := (wants_in hl (kind := 123) (by decide) (by decide) (s := ⟨j, false⟩) h).1
  unfold entryP entryG
  rcases wants_next hl (kind := 123) (by decide) (by decide) (by decide) (by decide) h with ⟨tk, e1, e2⟩ | ⟨e1 | ⟨k, n, s, c, e1, hk⟩, e2⟩
  · rw [e2] at hin
    rw [e1, e2]
    rw [show kindR 123 = 123 from rfl]
    dsimp only
    rw [if_pos rfl]
    exact obj_rel hl (entB_rel hl last) (entB_in hl last) (fun n x s hs => entB_bad l last n x hs) 2 _ _ _ rfl hin
  · rw [e1, e2]; exact relP_bad (by rw [obj_bad l _ _ _ _ rfl])
  · rw [show kindR 123 = 123 from rfl] at hk
    rw [e1, e2]
    dsimp only
    rw [if_neg hk]
    exact relP_bad (by rw [obj_bad l _ _ _ _ rfl])
theorem ents_rel : ∀ (n : Nat) (es : List En) (last : ByteArray) (j : Nat), j < l.length →
    RelP (match nextW l j with | .bad p => .bad p | .tok k p _ _ c => entsG (nextW l) n es last k p c) (entsP l n es last ⟨j, false⟩) := by
  have hbad : ∀ (n : Nat) (es : List En) (last : ByteArray) (j p : Nat), (entryP l last ⟨j, false⟩).2 = ⟨p, true⟩ → (entsP l n es last ⟨j, false⟩).2 = ⟨p, true⟩ := by
    intro n es last j p h
    cases n with
    | zero => rw [entsP, h]; dsimp only; rw [wants_bad l _ rfl]
    | succ n => rw [entsP, h]; simp only [Bool.true_eq_false, false_and, if_false]; rw [wants_bad l _ rfl]
  intro n
  induction n with
  | zero =>
    intro es last j h
    have h1 := entry_rel hl last j h
    have h2 := entry_in hl last (s := ⟨j, false⟩) h
    cases e : nextW l j with
    | bad p => rw [e] at h1; exact relP_bad (hbad _ _ _ _ _ h1)
    | tok k p n2 s c =>
      rw [e] at h1
      dsimp only at h1 ⊢
      rw [entsG]
      cases e2 : entryG (nextW l) k p last c with
      | bad q => rw [e2] at h1; exact relP_bad (hbad _ _ _ _ _ h1)
      | ok v c1 =>
        rw [e2] at h1
        have h3 : entryP l last ⟨j, false⟩ = (v, ⟨c1, false⟩) := h1
        rw [h3] at h2
        rw [entsP, h3]
        dsimp only
        rcases wants_next hl (kind := 93) (by decide) (by decide) (by decide) (by decide) h2 with ⟨tk, f1, f2⟩ | ⟨f1 | ⟨k3, n3, s3, c3, f1, hk⟩, f2⟩
        · rw [f1, f2]; dsimp only; rw [if_pos (show kindR 93 = 93 from rfl)]; rfl
        · rw [f1, f2]; exact relP_bad rfl
        · rw [show kindR 93 = 93 from rfl] at hk
          rw [f1, f2]; dsimp only; rw [if_neg hk]; exact relP_bad rfl
  | succ n ih =>
    intro es last j h
    have h1 := entry_rel hl last j h
    have h2 := entry_in hl last (s := ⟨j, false⟩) h
    cases e : nextW l j with
    | bad p => rw [e] at h1; exact relP_bad (hbad _ _ _ _ _ h1)
    | tok k p n2 s c =>
      rw [e] at h1
      dsimp only at h1 ⊢
      rw [entsG]
      cases e2 : entryG (nextW l) k p last c with
      | bad q => rw [e2] at h1; exact relP_bad (hbad _ _ _ _ _ h1)
      | ok v c1 =>
        rw [e2] at h1
        have h3 : entryP l last ⟨j, false⟩ = (v, ⟨c1, false⟩) := h1
        rw [h3] at h2
        have h2' : c1 < l.length := h2
        rw [entsP, h3]
        dsimp only
        by_cases h44 : (l.getD c1 tk0).kind = 44
        · rw [if_pos ⟨rfl, h44⟩]
          rw [next_at h2', h44]
          simp only [show ¬ (44 : Nat) = 63 by decide, show ¬ (44 : Nat) = 0 by decide, if_false, show kindR 44 = 44 from rfl, show ¬ (44 : Nat) = 93 by decide, if_true]
          have hi := ih (es ++ [v]) v.name (c1 + 1) (step_in hl (by decide) (by decide) h2' h44)
          cases e5 : nextW l (c1 + 1) with
          | bad p => rw [e5] at hi; exact hi
          | tok k5 p5 n5 s5 c5 => rw [e5] at hi; exact hi
        · rw [if_neg (fun h => h44 h.2)]
          rcases wants_next hl (kind := 93) (by decide) (by decide) (by decide) (by decide) h2' with ⟨tk, f1, f2⟩ | ⟨f1 | ⟨k3, n3, s3, c3, f1, hk⟩, f2⟩
          · rw [f1, f2]; dsimp only; rw [if_pos (show kindR 93 = 93 from rfl)]; rfl
          · rw [f1, f2]; exact relP_bad rfl
          · rw [show kindR 93 = 93 from rfl] at hk
            have hk44 : k3 ≠ 44 := by
              intro e44
              rw [next_at h2'] at f1
              split at f1
              · cases f1
              · injection f1 with g1
                obtain ⟨g34, g48⟩ := kind_of hl h2'
                rw [e44] at g1
                unfold kindR at g1
                split at g1
                · omega
                · split at g1
                  · omega
                  · exact h44 g1
            rw [f1, f2]; dsimp only; rw [if_neg hk, if_neg hk44]; exact relP_bad rfl
theorem entries_rel (j : Nat) (h : j < l.length) : RelP (entriesG (nextW l) j) (entriesP l ⟨j, false⟩) := by
  unfold entriesG entriesP
  rcases wants_mark hl (kind := 91) (by decide) (by decide) (by decide) (by decide) h with ⟨f1, f2, f3⟩ | ⟨f1, f2⟩
  · rw [show kindR 91 = 91 from rfl] at f1
    rw [f1, f2]
    simp only [Bool.false_eq_true, if_false]
    have hr := ents_rel hl 7 [] ⟨#[]⟩ (j + 1) f3
    by_cases h93 : (l.getD (j + 1) tk0).kind = 93
    · rw [if_pos h93, next_at f3, h93]
      simp only [show ¬ (93 : Nat) = 63 by decide, show ¬ (93 : Nat) = 0 by decide, if_false, show kindR 93 = 93 from rfl, if_true]
      rfl
    · rw [if_neg h93]
      cases e : nextW l (j + 1) with
      | bad p => rw [e] at hr; exact hr
      | tok k p n2 s c =>
        rw [e] at hr
        dsimp only at hr ⊢
        have hk93 : k ≠ 93 := by
          intro e93
          rw [next_at f3] at e
          split at e
          · cases e
          · injection e with g1
            obtain ⟨g34, g48⟩ := kind_of hl f3
            rw [e93] at g1
            unfold kindR at g1
            split at g1
            · omega
            · split at g1
              · omega
              · exact h93 g1
        rw [if_neg hk93]
        exact hr
  · rw [show kindR 91 = 91 from rfl] at f1
    rw [f1, f2]
    simp only [if_true]
    exact relP_bad rfl
theorem top_rel (x : ByteArray) (es : List En) (j : Nat) (h : j < l.length) : RelP (topG (nextW l) x es j) (topB l x es ⟨j, false⟩) := by
  have w2 := wants_next hl (kind := 110) (by decide) (by decide) (by decide) (by decide) h
  rw [show kindR 110 = 48 from rfl] at w2
  unfold topG topB
  by_cases h1 : x = sVersion
  · rw [if_pos h1, if_pos h1]
    unfold versionG
    rcases w2 with ⟨tk, e1, e2⟩ | ⟨e1 | ⟨k, n, s, c, e1, hk⟩, e2⟩
    · rw [e1, e2]
      dsimp only
      by_cases hn : tk.num = 1
      · simp [backP, RelP, hn]
      · simp [backP, RelP, hn]
    · rw [e1, e2]; simp [backP, RelP]
    · rw [e1, e2]; simp [backP, RelP, hk]
  · rw [if_neg h1, if_neg h1]
    by_cases h2 : x = sTags
    · rw [if_pos h2, if_pos h2]; exact entries_rel hl j h
    · rw [if_neg h2, if_neg h2]; rfl
theorem parse_rel :
    (∀ es c, readG (nextW l) 0 = .ok es c → (parseP l).1 = es ∧ (parseP l).2.bad = false) ∧ (∀ p, readG (nextW l) 0 = .bad p → (parseP l).2 = ⟨p, true⟩) := by
  have hpos := hl.pos
  have hin := (wants_in hl (kind := 123) (by decide) (by decide) (s := ⟨0, false⟩) hpos).1
  obtain ⟨O, hO⟩ : ∃ O, O = objP l (topB l) 2 [sVersion, sTags] [] (wantsP l 123 ⟨0, false⟩).2 := ⟨_, rfl⟩
  have hP : parseP l = (O.1, (wantsP l 0 O.2).2) := by rw [hO]; rfl
  have hw : RelP (wholeG (nextW l) 0) O := by
    rw [hO]
    unfold wholeG
    rcases wants_next hl (kind := 123) (by decide) (by decide) (by decide) (by decide) hpos with ⟨tk, e1, e2⟩ | ⟨e1 | ⟨k, n, s, c, e1, hk⟩, e2⟩
    · rw [e2] at hin
      rw [e1, e2]
      rw [show kindR 123 = 123 from rfl]
      dsimp only
      rw [if_pos rfl]
      exact obj_rel hl (top_rel hl) (topB_in hl) (fun n x s hs => topB_bad l n x hs) 1 _ _ _ rfl hin
    · rw [e1, e2]; exact relP_bad (by rw [obj_bad l _ _ _ _ rfl])
    · rw [show kindR 123 = 123 from rfl] at hk
      rw [e1, e2]
      dsimp only
      rw [if_neg hk]
      exact relP_bad (by rw [obj_bad l _ _ _ _ rfl])
  have hOin : InL l O.2 := by rw [hO]; exact obj_in hl (topB_in hl) _ _ _ _ hin
  rw [hP]
  unfold readG
  cases e : wholeG (nextW l) 0 with
  | bad p =>
    rw [e] at hw
    have h2 : O.2 = ⟨p, true⟩ := hw
    constructor
    · intro es c h; cases h
    · intro q h
      injection h with h
      dsimp only
      rw [h2, wants_bad l _ rfl, h]
  | ok es c =>
    rw [e] at hw
    have h2 : O = (es, ⟨c, false⟩) := hw
    rw [h2] at hOin ⊢
    have hc : c < l.length := hOin
    dsimp only
    rw [next_at hc]
    unfold wantsP
    obtain ⟨g34, g48⟩ := kind_of hl hc
    dsimp only
    generalize l.getD c tk0 = tk at g34 g48 ⊢
    by_cases h63 : tk.kind = 63
    · rw [if_pos h63]
      dsimp only
      constructor
      · intro es2 c2 h; cases h
      · intro q h
        injection h with h
        simp [h63, h]
    · rw [if_neg h63]
      dsimp only
      by_cases h0 : tk.kind = 0
      · rw [h0]
        constructor
        · intro es2 c2 h
          rw [show kindR 0 = 0 from rfl, if_pos rfl] at h
          injection h with h
          simp [h]
        · intro q h
          rw [show kindR 0 = 0 from rfl, if_pos rfl] at h
          cases h
      · have hk : ¬ kindR tk.kind = 0 := by
          unfold kindR
          split
          · decide
          · split
            · decide
            · exact h0
        rw [if_neg hk]
        constructor
        · intro es2 c2 h; cases h
        · intro q h
          injection h with h
          simp [h0, h]
end
end Go.Proofs.Ytpgamoielkpakaa

/-
  PROVED HERE: the entries that the index's reader gives have digests.
-/
namespace Go.Proofs.Ytpgamoielkpakaa
theorem idx_at {ms : List ByteArray} {x : ByteArray} {i : Nat} (h : Lib.idxOfS ms x = (i : Int)) : ms[i]? = some x := by
  have : ∀ (ms : List ByteArray) (j i : Nat), Lib.idxFromS ms x j = ((j + i : Nat) : Int) → ms[i]? = some x := by
    intro ms
    induction ms with
    | nil => intro j i h; simp [Lib.idxFromS] at h; omega
    | cons z zs ih =>
      intro j i h
      by_cases hz : z = x
      · simp [Lib.idxFromS, hz] at h
        have : i = 0 := by omega
        subst this
        simp [hz]
      · simp only [Lib.idxFromS, if_neg hz] at h
        cases i with
        | zero =>
          rcases RowStrX.idxFrom x zs (j + 1) with h2 | ⟨i2, -, h2⟩
          · rw [h2] at h; omega
          · rw [h2] at h; omega
        | succ i => exact ih (j + 1) i (by rw [h]; omega)
  exact this ms 0 i (by simpa [Lib.idxOfS] using h)
section
variable {P : Type} {nx : P → NG P}
theorem entG_dig {last x : ByteArray} {e e' : En} {a c : P} (h : entG nx last x e a = .ok e' c) : (x = sDigest ∧ isDigB e'.dig = true) ∨ (x ≠ sDigest ∧ e'.dig = e.dig) := by
  unfold entG at h
  split at h
  · rename_i hx
    split at h
    · cases h; exact .inr ⟨by rw [hx]; decide, rfl⟩
    · cases h
  · split at h
    · rename_i hx
      split at h
      · rename_i s c2 hd
        cases h
        refine .inl ⟨hx, ?_⟩
        unfold digestG at hd
        split at hd
        · split at hd
          · rename_i hc; cases hd; exact hc.2
          · cases hd
        · cases hd
      · cases h
    · rename_i hx
      split at h
      · split at h
        · cases h; exact .inr ⟨hx, rfl⟩
        · cases h
      · cases h; exact .inr ⟨hx, rfl⟩
theorem objG_dig {last : ByteArray} : ∀ (d : Nat) (first : Bool) (ms : List ByteArray) (e e' : En) (a c : P), ms.length = d → objG nx (entG nx last) first d ms e a = .ok e' c → (sDigest ∈ ms ∨ isDigB e.dig = true) → isDigB e'.dig = true := by
  intro d
  induction d with
  | zero =>
    intro first ms e e' a c hm h hi
    have : ms = [] := List.eq_nil_of_length_eq_zero hm
    subst this
    unfold objG at h
    split at h
    · cases h; simpa using hi
    · cases h
  | succ d ih =>
    intro first ms e e' a c hm h hi
    unfold objG at h
    split at h
    · cases h
    · split at h
      · cases h
      · split at h
        · rename_i l c1 _ hc
          split at h
          · cases h
          · split at h
            · cases h
            · rename_i st' c3 hv
              rcases RowStrX.idx_cases ms ⟨List.toArray ‹List UInt8›⟩ with hx | ⟨i, hi2, hx⟩
              · have := hc.2; rw [hx] at this; omega
              · rw [hx] at h
                have hat := idx_at hx
                refine ih _ _ _ _ _ _ ?_ h ?_
                · rw [List.length_eraseIdx, if_pos (by simpa using hi2), hm]; omega
                · rcases entG_dig hv with ⟨hn, hg⟩ | ⟨hn, hg⟩
                  · exact .inr hg
                  · rcases hi with hi | hi
                    · left
                      rw [List.mem_eraseIdx_iff_getElem?]
                      obtain ⟨k, hk⟩ := List.getElem?_of_mem hi
                      refine ⟨k, ?_, hk⟩
                      intro e
                      simp only [Int.toNat_natCast] at e
                      rw [e, hat] at hk
                      injection hk with hk
                      exact hn hk
                    · right; rw [hg]; exact hi
        · cases h
theorem entryG_dig {k : Nat} {p : P} {last : ByteArray} {c c' : P} {e : En} (h : entryG nx k p last c = .ok e c') : isDigB e.dig = true := by
  unfold entryG at h
  split at h
  · exact objG_dig 3 _ _ _ _ _ _ rfl h (.inl (by simp))
  · cases h
theorem entsG_dig : ∀ (n : Nat) (es : List En) (last : ByteArray) (k : Nat) (p c : P) (es' : List En) (c' : P), (∀ x ∈ es, isDigB x.dig = true) → entsG nx n es last k p c = .ok es' c' → ∀ x ∈ es', isDigB x.dig = true := by
  intro n
  induction n with
  | zero =>
    intro es last k p c es' c' hes h
    unfold entsG at h
    split at h
    · cases h
    · rename_i e c1 he
      have hd := entryG_dig he
      split at h
      · cases h
      · split at h
        · cases h
          intro x hx
          simp only [List.mem_append, List.mem_singleton] at hx
          rcases hx with hx | rfl
          · exact hes x hx
          · exact hd
        · cases h
  | succ n ih =>
    intro es last k p c es' c' hes h
    unfold entsG at h
    split at h
    · cases h
    · rename_i e c1 he
      have hd := entryG_dig he
      have hes2 : ∀ x ∈ es ++ [e], isDigB x.dig = true := by
        intro x hx
        simp only [List.mem_append, List.mem_singleton] at hx
        rcases hx with hx | rfl
        · exact hes x hx
        · exact hd
      split at h
      · cases h
      · split at h
        · cases h; exact hes2
        · dsimp only at h
          split at h
          · split at h
            · cases h
            · exact ih _ _ _ _ _ _ _ hes2 h
          · cases h
theorem entriesG_dig {a c : P} {es : List En} (h : entriesG nx a = .ok es c) : ∀ x ∈ es, isDigB x.dig = true := by
  unfold entriesG at h
  split at h
  · cases h
  · split at h
    · cases h
    · split at h
      · cases h; intro x hx; simp at hx
      · exact entsG_dig _ _ _ _ _ _ _ _ (by intro x hx; simp at hx) h
theorem objTop_dig : ∀ (d : Nat) (first : Bool) (ms : List ByteArray) (es es' : List En) (a c : P), (∀ x ∈ es, isDigB x.dig = true) → objG nx (topG nx) first d ms es a = .ok es' c → ∀ x ∈ es', isDigB x.dig = true := by
  intro d
  induction d with
  | zero =>
    intro first ms es es' a c hes h
    unfold objG at h
    split at h
    · cases h; exact hes
    · cases h
  | succ d ih =>
    intro first ms es es' a c hes h
    unfold objG at h
    split at h
    · cases h
    · split at h
      · cases h
      · split at h
        · split at h
          · cases h
          · split at h
            · cases h
            · rename_i st' c3 hv
              refine ih _ _ _ _ _ _ ?_ h
              unfold topG at hv
              split at hv
              · split at hv
                · cases hv; exact hes
                · cases hv
              · split at hv
                · exact entriesG_dig hv
                · cases hv; exact hes
        · cases h
theorem readG_dig {a c : P} {es : List En} (h : readG nx a = .ok es c) : ∀ x ∈ es, isDigB x.dig = true := by
  unfold readG at h
  split at h
  · cases h
  · rename_i hw
    split at h
    · cases h
    · split at h
      · cases h
        unfold wholeG at hw
        split at hw
        · cases hw
        · split at hw
          · exact objTop_dig _ _ _ _ _ _ _ (by intro x hx; simp at hx) hw
          · cases hw
      · cases h
theorem entsG_len : ∀ (n : Nat) (es : List En) (last : ByteArray) (k : Nat) (p c : P) (es' : List En) (c' : P), es.length + n ≤ 7 → entsG nx n es last k p c = .ok es' c' → es'.length ≤ 8 := by
  intro n
  induction n with
  | zero =>
    intro es last k p c es' c' hes h
    unfold entsG at h
    split at h
    · cases h
    · split at h
      · cases h
      · split at h
        · cases h; simp; omega
        · cases h
  | succ n ih =>
    intro es last k p c es' c' hes h
    unfold entsG at h
    split at h
    · cases h
    · split at h
      · cases h
      · split at h
        · cases h; simp; omega
        · dsimp only at h
          split at h
          · split at h
            · cases h
            · exact ih _ _ _ _ _ _ _ (by simp; omega) h
          · cases h
theorem entriesG_len {a c : P} {es : List En} (h : entriesG nx a = .ok es c) : es.length ≤ 8 := by
  unfold entriesG at h
  split at h
  · cases h
  · split at h
    · cases h
    · split at h
      · cases h; simp
      · exact entsG_len 7 [] _ _ _ _ _ _ (by simp) h
theorem objTop_len : ∀ (d : Nat) (first : Bool) (ms : List ByteArray) (es es' : List En) (a c : P), es.length ≤ 8 → objG nx (topG nx) first d ms es a = .ok es' c → es'.length ≤ 8 := by
  intro d
  induction d with
  | zero =>
    intro first ms es es' a c hes h
    unfold objG at h
    split at h
    · cases h; exact hes
    · cases h
  | succ d ih =>
    intro first ms es es' a c hes h
    unfold objG at h
    split at h
    · cases h
    · split at h
      · cases h
      · split at h
        · split at h
          · cases h
          · split at h
            · cases h
            · rename_i st' c3 hv
              refine ih _ _ _ _ _ _ ?_ h
              unfold topG at hv
              split at hv
              · split at hv
                · cases hv; exact hes
                · cases hv
              · split at hv
                · exact entriesG_len hv
                · cases hv; exact hes
        · cases h
theorem readG_len {a c : P} {es : List En} (h : readG nx a = .ok es c) : es.length ≤ 8 := by
  unfold readG at h
  split at h
  · cases h
  · rename_i hw
    split at h
    · cases h
    · split at h
      · cases h
        unfold wholeG at hw
        split at hw
        · cases hw
        · split at hw
          · exact objTop_len _ _ _ _ _ _ _ (by simp) hw
          · cases hw
      · cases h
end
end Go.Proofs.Ytpgamoielkpakaa
