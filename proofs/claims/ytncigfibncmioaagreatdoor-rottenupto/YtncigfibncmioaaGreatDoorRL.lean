/-
  PROVED HERE: the index's reader over whatever gives the next token: and that a map between two such is a map between what is read.
-/
import Derived.Lib.SlicesS
import Derived.Lib.ItoaLen
import GoSem.Op.String
namespace Go.Proofs.YtncigfibncmioaaGreatDoor
def digB (c:Nat):Bool:=decide (48 ≤ c) && decide (c ≤ 57)
def hexB (c:Nat):Bool:=digB c || (decide (97 ≤ c) && decide (c ≤ 102))
def plainB (c:Nat):Bool:=(decide (97 ≤ c) && decide (c ≤ 122)) || digB c
def signB (c:Nat):Bool:=decide (c = 46) || decide (c = 95) || decide (c = 45)
def isDigB (s:ByteArray):Bool:=decide (s.size = 64) && s.data.toList.all (fun c=>hexB c.toNat)
def isTagB (s:ByteArray):Bool:=decide (1 ≤ s.size) && decide (s.size ≤ 20) && plainB (s.data.toList.getD 0 0).toNat && s.data.toList.all (fun c=>plainB c.toNat || signB c.toNat)
def leB (a b:ByteArray):Bool:=Op.bytesLess a.toList b.toList || a.toList == b.toList
def sTag:ByteArray:=⟨#[116,97,103]⟩
def sDigest:ByteArray:=⟨#[100,105,103,101,115,116]⟩
def sSize:ByteArray:=⟨#[115,105,122,101]⟩
def sVersion:ByteArray:=⟨#[118,101,114,115,105,111,110]⟩
def sTags:ByteArray:=⟨#[116,97,103,115]⟩
inductive NG (P:Type) where
 | tok (kind:Nat) (place:P) (num:Nat) (txt:List UInt8) (c:P)
 | bad (p:P)
inductive RG (P α:Type) where
 | ok (v:α) (c:P)
 | bad (p:P)
structure En where
 name:ByteArray
 dig:ByteArray
 size:Nat
def En0:En:=⟨⟨#[]⟩,⟨#[]⟩,0⟩
section
variable {P:Type} (nx:P → NG P)
def markG (a:P) (kind:Nat):RG P Unit :=
 match nx a with
 | .tok k p _ _ c=>if k = kind then .ok () c else .bad p
 | .bad p=>.bad p
def versionG (a:P):RG P Unit :=
 match nx a with
 | .tok k p n _ c=>if k = 48 ∧ n = 1 then .ok () c else .bad p
 | .bad p=>.bad p
def sizeG (a:P):RG P Nat :=
 match nx a with
 | .tok k p n _ c=>if k = 48 ∧ n ≤ 300 then .ok n c else .bad p
 | .bad p=>.bad p
def tagG (last:ByteArray) (a:P):RG P ByteArray :=
 match nx a with
 | .tok k p _ l c=>if k = 34 ∧ isTagB ⟨l.toArray⟩ = true ∧ leB ⟨l.toArray⟩ last = false then .ok ⟨l.toArray⟩ c else .bad p
 | .bad p=>.bad p
def digestG (a:P):RG P ByteArray :=
 match nx a with
 | .tok k p _ l c=>if k = 34 ∧ isDigB ⟨l.toArray⟩ = true then .ok ⟨l.toArray⟩ c else .bad p
 | .bad p=>.bad p
def objG {σ:Type} (val:ByteArray → σ → P → RG P σ):Bool → Nat → List ByteArray → σ → P → RG P σ
 | _,0,_,st,a=>match markG nx a 125 with
  | .ok _ c=>.ok st c
  | .bad p=>.bad p
 | first,d + 1,missing,st,a =>
  match (if first then .ok () a else markG nx a 44:RG P Unit) with
  | .bad p=>.bad p
  | .ok _ a1 =>
   match nx a1 with
   | .bad p=>.bad p
   | .tok k p _ l c =>
    if k = 34 ∧ 0 ≤ Lib.idxOfS missing ⟨l.toArray⟩ then
     match markG nx c 58 with
     | .bad p=>.bad p
     | .ok _ c2 =>
      match val ⟨l.toArray⟩ st c2 with
      | .bad p=>.bad p
      | .ok st' c3=>objG val false d (missing.eraseIdx (Lib.idxOfS missing ⟨l.toArray⟩).toNat) st' c3
    else .bad p
def entG (last x:ByteArray) (e:En) (a:P):RG P En :=
 if x = sTag then (match tagG nx last a with | .ok n c=>.ok { e with name:=n } c | .bad p=>.bad p)
 else if x = sDigest then (match digestG nx a with | .ok s c=>.ok { e with dig:=s } c | .bad p=>.bad p)
 else if x = sSize then (match sizeG nx a with | .ok n c=>.ok { e with size:=n } c | .bad p=>.bad p)
 else .ok e a
def entryG (k:Nat) (p:P) (last:ByteArray) (c:P):RG P En :=
 if k = 123 then objG nx (entG nx last) true 3 [sTag,sDigest,sSize] En0 c else .bad p
def entsG:Nat → List En → ByteArray → Nat → P → P → RG P (List En)
 | n,es,last,k,p,c =>
  match entryG nx k p last c with
  | .bad p=>.bad p
  | .ok e c1 =>
   match nx c1 with
   | .bad p=>.bad p
   | .tok k2 p2 _ _ c2 =>
    if k2 = 93 then .ok (es ++ [e]) c2
    else match n with
     | 0=>.bad p2
     | n + 1=>if k2 = 44 then (match nx c2 with | .bad p=>.bad p | .tok k3 p3 _ _ c3=>entsG n (es ++ [e]) e.name k3 p3 c3) else .bad p2
def entriesG (a:P):RG P (List En) :=
 match markG nx a 91 with
 | .bad p=>.bad p
 | .ok _ a1 =>
  match nx a1 with
  | .bad p=>.bad p
  | .tok k p _ _ c=>if k = 93 then .ok [] c else entsG nx 7 [] ⟨#[]⟩ k p c
def topG (x:ByteArray) (st:List En) (a:P):RG P (List En) :=
 if x = sVersion then (match versionG nx a with | .ok _ c=>.ok st c | .bad p=>.bad p)
 else if x = sTags then entriesG nx a
 else .ok st a
def wholeG (a:P):RG P (List En) :=
 match nx a with
 | .bad p=>.bad p
 | .tok k p _ _ c=>if k = 123 then objG nx (topG nx) true 2 [sVersion,sTags] [] c else .bad p
def readG (a:P):RG P (List En) :=
 match wholeG nx a with
 | .bad p=>.bad p
 | .ok es c =>
  match nx c with
  | .bad p=>.bad p
  | .tok k p _ _ c2=>if k = 0 then .ok es c2 else .bad p
end
def NG.map {P Q:Type} (f:P → Q):NG P → NG Q
 | .tok k p n l c=>.tok k (f p) n l (f c)
 | .bad p=>.bad (f p)
structure Hom {P Q:Type} (D:P → Prop) (f:P → Q) (nx:P → NG P) (ny:Q → NG Q):Prop where
 map:∀ a,D a → ny (f a) = (nx a).map f
 tok:∀ a k p n l c,D a → nx a = .tok k p n l c → D p ∧ D c
 bad:∀ a p,D a → nx a = .bad p → D p
section
variable {P Q:Type} {D:P → Prop} {f:P → Q} {nx:P → NG P} {ny:Q → NG Q} (H:Hom D f nx ny)
include H
end
/- digits, blanks, marks -/
def spB (c:Nat):Bool:=decide (c = 9) || decide (c = 10) || decide (c = 13) || decide (c = 32)
def markB (c:Nat):Bool:=decide (c = 123) || decide (c = 125) || decide (c = 91) || decide (c = 93) || decide (c = 58) || decide (c = 44)
def byteS (t:ByteArray) (a:Nat):Option Nat :=
 if h:a < t.size then (if 32 ≤ (t[a]).toNat ∧ (t[a]).toNat ≤ 126 then some (t[a]).toNat else none) else none
theorem byteS_lt {t:ByteArray} {a x:Nat} (h:byteS t a = some x):a < t.size:=by
 unfold byteS at h;split at h
 ·assumption
 ·cases h
def skipS (t:ByteArray) (a:Nat):Nat :=
 if h:a < t.size then (if spB (t[a]).toNat then skipS t (a + 1) else a) else a
termination_by t.size - a
def strS (t:ByteArray) (a:Nat) (acc:List UInt8):Option (List UInt8 × Nat) :=
 match _h:byteS t a with
 | none=>none
 | some x=>if x = 34 then some (acc,a + 1) else if x = 92 then (match byteS t (a + 1) with
  | none=>none
  | some y=>if y = 34 ∨ y = 92 then strS t (a + 2) (acc ++ [UInt8.ofNat y]) else none) else strS t (a + 1) (acc ++ [UInt8.ofNat x])
termination_by t.size - a
decreasing_by
 ·have:=byteS_lt _h;omega
 ·have:=byteS_lt _h;omega
def numS (t:ByteArray) (p a n:Nat):Option (Nat × Nat) :=
 if h:a < t.size then (if digB (t[a]).toNat then (if (p < a ∧ n = 0) ∨ ¬ a < p + 9 then none else numS t p (a + 1) (10 * n + ((t[a]).toNat - 48))) else some (n,a)) else some (n,a)
termination_by t.size - a
def nextAt (t:ByteArray) (p:Nat):NG Nat :=
 if h:p < t.size then
  (if markB (t[p]).toNat then .tok (t[p]).toNat p 0 [] (p + 1)
  else if digB (t[p]).toNat then (match numS t p p 0 with | some (n,c)=>.tok 48 p n [] c | none=>.bad p)
  else if (t[p]).toNat = 34 then (match strS t (p + 1) [] with | some (l,c)=>.tok 34 p 0 l c | none=>.bad p)
  else .bad p)
 else .tok 0 p 0 [] p
def nextS (t:ByteArray) (a:Nat):NG Nat:=nextAt t (skipS t a)
def okB (x:Nat):Bool:=decide (32 ≤ x) && decide (x ≤ 126)
def rest (t:ByteArray) (a:Nat):List UInt8:=t.data.toList.drop a
end Go.Proofs.YtncigfibncmioaaGreatDoor
