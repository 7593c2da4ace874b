/-
  PROVED HERE: the index's reader over whatever gives the next token: and that a map between two such is a map between what is read.
-/
import Derived.Lib.SlicesS
import Derived.Lib.ItoaLen
import GoSem.Op.String
namespace Go.Proofs.YtncigfibncmioaaGreatDoor
def digB (c:Nat):Bool:=decide (48≤c) && decide (c≤57)
def hexB (c:Nat):Bool:=digB c || (decide (97≤c) && decide (c≤102))
def plainB (c:Nat):Bool:=(decide (97≤c) && decide (c≤122)) || digB c
def signB (c:Nat):Bool:=decide (c=46) || decide (c=95) || decide (c=45)
def isDigB (s:ByteArray):Bool:=decide (s.size=64) && s.data.toList.all (fun c=>hexB c.toNat)
def isTagB (s:ByteArray):Bool:=decide (1≤s.size) && decide (s.size≤20) && plainB (s.data.toList.getD 0 0).toNat && s.data.toList.all (fun c=>plainB c.toNat || signB c.toNat)
def leB (a b:ByteArray):Bool:=Op.bytesLess a.toList b.toList || a.toList == b.toList
def sTag:ByteArray:=⟨#[116,97,103]⟩
def sDigest:ByteArray:=⟨#[100,105,103,101,115,116]⟩
def sSize:ByteArray:=⟨#[115,105,122,101]⟩
def sVersion:ByteArray:=⟨#[118,101,114,115,105,111,110]⟩
def sTags:ByteArray:=⟨#[116,97,103,115]⟩
inductive NG (P:Type) where
 | tok (kind:Nat) (place:P) (num:Nat) (txt:List UInt8) (c:P)
 | bad (p:P)
inductive RG (P α:Type) where
 | ok (v:α) (c:P)
 | bad (p:P)
structure En where
 name:ByteArray
 dig:ByteArray
 size:Nat
def En0:En:=⟨⟨#[]⟩,⟨#[]⟩,0⟩
section
variable {P:Type} (nx:P→NG P)
def markG (a:P) (kind:Nat):RG P Unit :=
 match nx a with
 | .tok k p _ _ c=>if k=kind then .ok () c else .bad p
 | .bad p=>.bad p
def versionG (a:P):RG P Unit :=
 match nx a with
 | .tok k p n _ c=>if k=48∧n=1 then .ok () c else .bad p
 | .bad p=>.bad p
def sizeG (a:P):RG P Nat :=
 match nx a with
 | .tok k p n _ c=>if k=48∧n≤300 then .ok n c else .bad p
 | .bad p=>.bad p
def tagG (last:ByteArray) (a:P):RG P ByteArray :=
 match nx a with
 | .tok k p _ l c=>if k=34∧isTagB ⟨l.toArray⟩=true∧leB ⟨l.toArray⟩ last=false then .ok ⟨l.toArray⟩ c else .bad p
 | .bad p=>.bad p
def digestG (a:P):RG P ByteArray :=
 match nx a with
 | .tok k p _ l c=>if k=34∧isDigB ⟨l.toArray⟩=true then .ok ⟨l.toArray⟩ c else .bad p
 | .bad p=>.bad p
def objG {σ:Type} (val:ByteArray→σ→P→RG P σ):Bool→Nat→List ByteArray→σ→P→RG P σ
 | _,0,_,st,a=>match markG nx a 125 with
  | .ok _ c=>.ok st c
  | .bad p=>.bad p
 | first,d+1,missing,st,a =>
  match (if first then .ok () a else markG nx a 44:RG P Unit) with
  | .bad p=>.bad p
  | .ok _ a1 =>
   match nx a1 with
   | .bad p=>.bad p
   | .tok k p _ l c =>
    if k=34∧0≤Lib.idxOfS missing ⟨l.toArray⟩ then
     match markG nx c 58 with
     | .bad p=>.bad p
     | .ok _ c2 =>
      match val ⟨l.toArray⟩ st c2 with
      | .bad p=>.bad p
      | .ok st' c3=>objG val false d (missing.eraseIdx (Lib.idxOfS missing ⟨l.toArray⟩).toNat) st' c3
    else .bad p
def entG (last x:ByteArray) (e:En) (a:P):RG P En :=
 if x=sTag then (match tagG nx last a with|.ok n c=>.ok { e with name:=n } c|.bad p=>.bad p)
 else if x=sDigest then (match digestG nx a with|.ok s c=>.ok { e with dig:=s } c|.bad p=>.bad p)
 else if x=sSize then (match sizeG nx a with|.ok n c=>.ok { e with size:=n } c|.bad p=>.bad p)
 else .ok e a
def entryG (k:Nat) (p:P) (last:ByteArray) (c:P):RG P En :=
 if k=123 then objG nx (entG nx last) true 3 [sTag,sDigest,sSize] En0 c else .bad p
def entsG:Nat→List En→ByteArray→Nat→P→P→RG P (List En)
 | n,es,last,k,p,c =>
  match entryG nx k p last c with
  | .bad p=>.bad p
  | .ok e c1 =>
   match nx c1 with
   | .bad p=>.bad p
   | .tok k2 p2 _ _ c2 =>
    if k2=93 then .ok (es ++ [e]) c2
    else match n with
     | 0=>.bad p2
     | n+1=>if k2=44 then (match nx c2 with|.bad p=>.bad p|.tok k3 p3 _ _ c3=>entsG n (es ++ [e]) e.name k3 p3 c3) else .bad p2
def entriesG (a:P):RG P (List En) :=
 match markG nx a 91 with
 | .bad p=>.bad p
 | .ok _ a1 =>
  match nx a1 with
  | .bad p=>.bad p
  | .tok k p _ _ c=>if k=93 then .ok [] c else entsG nx 7 [] ⟨#[]⟩ k p c
def topG (x:ByteArray) (st:List En) (a:P):RG P (List En) :=
 if x=sVersion then (match versionG nx a with|.ok _ c=>.ok st c|.bad p=>.bad p)
 else if x=sTags then entriesG nx a
 else .ok st a
def wholeG (a:P):RG P (List En) :=
 match nx a with
 | .bad p=>.bad p
 | .tok k p _ _ c=>if k=123 then objG nx (topG nx) true 2 [sVersion,sTags] [] c else .bad p
def readG (a:P):RG P (List En) :=
 match wholeG nx a with
 | .bad p=>.bad p
 | .ok es c =>
  match nx c with
  | .bad p=>.bad p
  | .tok k p _ _ c2=>if k=0 then .ok es c2 else .bad p
end
def NG.map {P Q:Type} (f:P→Q):NG P→NG Q
 | .tok k p n l c=>.tok k (f p) n l (f c)
 | .bad p=>.bad (f p)
def RG.map {P Q α:Type} (f:P→Q):RG P α→RG Q α
 | .ok v c=>.ok v (f c)
 | .bad p=>.bad (f p)
structure Hom {P Q:Type} (D:P→Prop) (f:P→Q) (nx:P→NG P) (ny:Q→NG Q):Prop where
 map:∀ a,D a→ny (f a)=(nx a).map f
 tok:∀ a k p n l c,D a→nx a = .tok k p n l c→D p∧D c
 bad:∀ a p,D a→nx a = .bad p→D p
def RG.In {P α:Type} (D:P→Prop):RG P α→Prop
 | .ok _ c=>D c
 | .bad p=>D p
section
variable {P Q:Type} {D:P→Prop} {f:P→Q} {nx:P→NG P} {ny:Q→NG Q} (H:Hom D f nx ny)
include H
theorem Hom.tok' {a:P} (h:D a) {k n l} {p c:P} (e:nx a = .tok k p n l c):ny (f a) = .tok k (f p) n l (f c)∧D p∧D c:=⟨by rw [H.map a h,e];rfl,H.tok a k p n l c h e⟩
theorem Hom.bad' {a:P} (h:D a) {p:P} (e:nx a = .bad p):ny (f a) = .bad (f p)∧D p:=⟨by rw [H.map a h,e];rfl,H.bad a p h e⟩
theorem Hom.mark {a:P} (h:D a) (kind:Nat):markG ny (f a) kind=(markG nx a kind).map f∧(markG nx a kind).In D:=by
 unfold markG
 cases e:nx a with
 | bad p=>obtain ⟨e1,e2⟩:=H.bad' h e;rw [e1];exact ⟨rfl,e2⟩
 | tok k p n l c =>
  obtain ⟨e1,e2,e3⟩:=H.tok' h e
  rw [e1];dsimp only
  split
  ·exact ⟨rfl,e3⟩
  ·exact ⟨rfl,e2⟩
theorem Hom.version {a:P} (h:D a):versionG ny (f a)=(versionG nx a).map f∧(versionG nx a).In D:=by
 unfold versionG
 cases e:nx a with
 | bad p=>obtain ⟨e1,e2⟩:=H.bad' h e;rw [e1];exact ⟨rfl,e2⟩
 | tok k p n l c =>
  obtain ⟨e1,e2,e3⟩:=H.tok' h e
  rw [e1];dsimp only
  split
  ·exact ⟨rfl,e3⟩
  ·exact ⟨rfl,e2⟩
theorem Hom.size {a:P} (h:D a):sizeG ny (f a)=(sizeG nx a).map f∧(sizeG nx a).In D:=by
 unfold sizeG
 cases e:nx a with
 | bad p=>obtain ⟨e1,e2⟩:=H.bad' h e;rw [e1];exact ⟨rfl,e2⟩
 | tok k p n l c =>
  obtain ⟨e1,e2,e3⟩:=H.tok' h e
  rw [e1];dsimp only
  split
  ·exact ⟨rfl,e3⟩
  ·exact ⟨rfl,e2⟩
theorem Hom.digest {a:P} (h:D a):digestG ny (f a)=(digestG nx a).map f∧(digestG nx a).In D:=by
 unfold digestG
 cases e:nx a with
 | bad p=>obtain ⟨e1,e2⟩:=H.bad' h e;rw [e1];exact ⟨rfl,e2⟩
 | tok k p n l c =>
  obtain ⟨e1,e2,e3⟩:=H.tok' h e
  rw [e1];dsimp only
  split
  ·exact ⟨rfl,e3⟩
  ·exact ⟨rfl,e2⟩
theorem Hom.tag {a:P} (h:D a) (last:ByteArray):tagG ny last (f a)=(tagG nx last a).map f∧(tagG nx last a).In D:=by
 unfold tagG
 cases e:nx a with
 | bad p=>obtain ⟨e1,e2⟩:=H.bad' h e;rw [e1];exact ⟨rfl,e2⟩
 | tok k p n l c =>
  obtain ⟨e1,e2,e3⟩:=H.tok' h e
  rw [e1];dsimp only
  split
  ·exact ⟨rfl,e3⟩
  ·exact ⟨rfl,e2⟩
theorem Hom.obj {σ:Type} {val:ByteArray→σ→P→RG P σ} {val':ByteArray→σ→Q→RG Q σ} (hv:∀ x st a,D a→val' x st (f a)=(val x st a).map f∧(val x st a).In D) :
  ∀ (d:Nat) (first:Bool) (missing:List ByteArray) (st:σ) (a:P),D a→objG ny val' first d missing st (f a)=(objG nx val first d missing st a).map f∧(objG nx val first d missing st a).In D:=by
 intro d
 induction d with
 | zero =>
  intro first missing st a h
  obtain ⟨e1,e2⟩:=H.mark h 125
  unfold objG
  rw [e1]
  cases hm:markG nx a 125 with
  | ok v c=>rw [hm] at e2;exact ⟨rfl,e2⟩
  | bad p=>rw [hm] at e2;exact ⟨rfl,e2⟩
 | succ d ih =>
  intro first missing st a h
  have hf:(if first then .ok () (f a) else markG ny (f a) 44:RG Q Unit)=(if first then .ok () a else markG nx a 44:RG P Unit).map f∧(if first then .ok () a else markG nx a 44:RG P Unit).In D:=by
   cases first with
   | true=>exact ⟨rfl,h⟩
   | false=>exact H.mark h 44
  unfold objG
  rw [hf.1]
  obtain ⟨r,hr⟩ : ∃ r,r=(if first then .ok () a else markG nx a 44:RG P Unit):=⟨_,rfl⟩
  rw [← hr] at hf ⊢
  cases r with
  | bad p=>exact ⟨rfl,hf.2⟩
  | ok u a1 =>
   have h1:D a1:=hf.2
   dsimp only [RG.map]
   cases e:nx a1 with
   | bad p=>obtain ⟨e1,e2⟩:=H.bad' h1 e;rw [e1];exact ⟨rfl,e2⟩
   | tok k p n l c =>
    obtain ⟨e1,e2,e3⟩:=H.tok' h1 e
    rw [e1];dsimp only
    split
    ·obtain ⟨m1,m2⟩:=H.mark e3 58
     rw [m1]
     cases hm:markG nx c 58 with
     | bad p=>rw [hm] at m2;exact ⟨rfl,m2⟩
     | ok u2 c2 =>
      rw [hm] at m2
      dsimp only [RG.map]
      obtain ⟨v1,v2⟩:=hv ⟨l.toArray⟩ st c2 m2
      rw [v1]
      cases hvv:val ⟨l.toArray⟩ st c2 with
      | bad p=>rw [hvv] at v2;exact ⟨rfl,v2⟩
      | ok st' c3=>rw [hvv] at v2;exact ih false _ st' c3 v2
    ·exact ⟨rfl,e2⟩
theorem Hom.ent (last x:ByteArray) (e:En) {a:P} (h:D a):entG ny last x e (f a)=(entG nx last x e a).map f∧(entG nx last x e a).In D:=by
 unfold entG
 split
 ·obtain ⟨m1,m2⟩:=H.tag h last
  rw [m1]
  cases hm:tagG nx last a with
  | bad p=>rw [hm] at m2;exact ⟨rfl,m2⟩
  | ok u c=>rw [hm] at m2;exact ⟨rfl,m2⟩
 ·split
  ·obtain ⟨m1,m2⟩:=H.digest h
   rw [m1]
   cases hm:digestG nx a with
   | bad p=>rw [hm] at m2;exact ⟨rfl,m2⟩
   | ok u c=>rw [hm] at m2;exact ⟨rfl,m2⟩
  ·split
   ·obtain ⟨m1,m2⟩:=H.size h
    rw [m1]
    cases hm:sizeG nx a with
    | bad p=>rw [hm] at m2;exact ⟨rfl,m2⟩
    | ok u c=>rw [hm] at m2;exact ⟨rfl,m2⟩
   ·exact ⟨rfl,h⟩
theorem Hom.entry (k:Nat) {p c:P} (hp:D p) (hc:D c) (last:ByteArray):entryG ny k (f p) last (f c)=(entryG nx k p last c).map f∧(entryG nx k p last c).In D:=by
 unfold entryG
 split
 ·exact H.obj (fun x st a h=>H.ent last x st h) 3 true _ _ c hc
 ·exact ⟨rfl,hp⟩
theorem Hom.ents:∀ (n:Nat) (es:List En) (last:ByteArray) (k:Nat) (p c:P),D p→D c→entsG ny n es last k (f p) (f c)=(entsG nx n es last k p c).map f∧(entsG nx n es last k p c).In D:=by
 intro n
 induction n with
 | zero =>
  intro es last k p c hp hc
  unfold entsG
  obtain ⟨m1,m2⟩:=H.entry k hp hc last
  rw [m1]
  cases hm:entryG nx k p last c with
  | bad p=>rw [hm] at m2;exact ⟨rfl,m2⟩
  | ok e c1 =>
   rw [hm] at m2
   dsimp only [RG.map]
   cases e:nx c1 with
   | bad p=>obtain ⟨e1,e2⟩:=H.bad' m2 e;rw [e1];exact ⟨rfl,e2⟩
   | tok k2 p2 n2 l2 c2 =>
    obtain ⟨e1,e2,e3⟩:=H.tok' m2 e
    rw [e1];dsimp only
    split
    ·exact ⟨rfl,e3⟩
    ·exact ⟨rfl,e2⟩
 | succ n ih =>
  intro es last k p c hp hc
  unfold entsG
  obtain ⟨m1,m2⟩:=H.entry k hp hc last
  rw [m1]
  cases hm:entryG nx k p last c with
  | bad p=>rw [hm] at m2;exact ⟨rfl,m2⟩
  | ok e c1 =>
   rw [hm] at m2
   dsimp only [RG.map]
   cases e:nx c1 with
   | bad p=>obtain ⟨e1,e2⟩:=H.bad' m2 e;rw [e1];exact ⟨rfl,e2⟩
   | tok k2 p2 n2 l2 c2 =>
    obtain ⟨e1,e2,e3⟩:=H.tok' m2 e
    rw [e1];dsimp only
    split
    ·exact ⟨rfl,e3⟩
    ·split
     ·cases e4:nx c2 with
      | bad p=>obtain ⟨e1,e2⟩:=H.bad' e3 e4;rw [e1];exact ⟨rfl,e2⟩
      | tok k3 p3 n3 l3 c3 =>
       obtain ⟨e5,e6,e7⟩:=H.tok' e3 e4
       rw [e5];dsimp only
       exact ih _ _ k3 p3 c3 e6 e7
     ·exact ⟨rfl,e2⟩
theorem Hom.entries {a:P} (h:D a):entriesG ny (f a)=(entriesG nx a).map f∧(entriesG nx a).In D:=by
 unfold entriesG
 obtain ⟨m1,m2⟩:=H.mark h 91
 rw [m1]
 cases hm:markG nx a 91 with
 | bad p=>rw [hm] at m2;exact ⟨rfl,m2⟩
 | ok u c =>
  rw [hm] at m2
  dsimp only [RG.map]
  cases e:nx c with
  | bad p=>obtain ⟨e1,e2⟩:=H.bad' m2 e;rw [e1];exact ⟨rfl,e2⟩
  | tok k2 p2 n2 l2 c2 =>
   obtain ⟨e1,e2,e3⟩:=H.tok' m2 e
   rw [e1];dsimp only
   split
   ·exact ⟨rfl,e3⟩
   ·exact H.ents 7 [] _ k2 p2 c2 e2 e3
theorem Hom.top (x:ByteArray) (st:List En) {a:P} (h:D a):topG ny x st (f a)=(topG nx x st a).map f∧(topG nx x st a).In D:=by
 unfold topG
 split
 ·obtain ⟨m1,m2⟩:=H.version h
  rw [m1]
  cases hm:versionG nx a with
  | bad p=>rw [hm] at m2;exact ⟨rfl,m2⟩
  | ok u c=>rw [hm] at m2;exact ⟨rfl,m2⟩
 ·split
  ·exact H.entries h
  ·exact ⟨rfl,h⟩
theorem Hom.whole {a:P} (h:D a):wholeG ny (f a)=(wholeG nx a).map f∧(wholeG nx a).In D:=by
 unfold wholeG
 cases e:nx a with
 | bad p=>obtain ⟨e1,e2⟩:=H.bad' h e;rw [e1];exact ⟨rfl,e2⟩
 | tok k2 p2 n2 l2 c2 =>
  obtain ⟨e1,e2,e3⟩:=H.tok' h e
  rw [e1];dsimp only
  split
  ·exact H.obj (fun x st a h=>H.top x st h) 2 true _ _ c2 e3
  ·exact ⟨rfl,e2⟩
theorem Hom.read {a:P} (h:D a):readG ny (f a)=(readG nx a).map f∧(readG nx a).In D:=by
 unfold readG
 obtain ⟨m1,m2⟩:=H.whole h
 rw [m1]
 cases hm:wholeG nx a with
 | bad p=>rw [hm] at m2;exact ⟨rfl,m2⟩
 | ok es c =>
  rw [hm] at m2
  dsimp only [RG.map]
  cases e:nx c with
  | bad p=>obtain ⟨e1,e2⟩:=H.bad' m2 e;rw [e1];exact ⟨rfl,e2⟩
  | tok k2 p2 n2 l2 c2 =>
   obtain ⟨e1,e2,e3⟩:=H.tok' m2 e
   rw [e1];dsimp only
   split
   ·exact ⟨rfl,e3⟩
   ·exact ⟨rfl,e2⟩
end
/- digits, blanks, marks -/
def spB (c:Nat):Bool:=decide (c=9) || decide (c=10) || decide (c=13) || decide (c=32)
def markB (c:Nat):Bool:=decide (c=123) || decide (c=125) || decide (c=91) || decide (c=93) || decide (c=58) || decide (c=44)
def byteS (t:ByteArray) (a:Nat):Option Nat :=
 if h:a<t.size then (if 32≤(t[a]).toNat∧(t[a]).toNat≤126 then some (t[a]).toNat else none) else none
theorem byteS_lt {t:ByteArray} {a x:Nat} (h:byteS t a=some x):a<t.size:=by
 unfold byteS at h;split at h
 ·assumption
 ·cases h
def skipS (t:ByteArray) (a:Nat):Nat :=
 if h:a<t.size then (if spB (t[a]).toNat then skipS t (a+1) else a) else a
termination_by t.size - a
def strS (t:ByteArray) (a:Nat) (acc:List UInt8):Option (List UInt8 × Nat) :=
 match _h:byteS t a with
 | none=>none
 | some x=>if x=34 then some (acc,a+1) else if x=92 then (match byteS t (a+1) with
  | none=>none
  | some y=>if y=34∨y=92 then strS t (a+2) (acc ++ [UInt8.ofNat y]) else none) else strS t (a+1) (acc ++ [UInt8.ofNat x])
termination_by t.size - a
decreasing_by
 ·have:=byteS_lt _h;omega
 ·have:=byteS_lt _h;omega
def numS (t:ByteArray) (p a n:Nat):Option (Nat × Nat) :=
 if h:a<t.size then (if digB (t[a]).toNat then (if (p<a∧n=0)∨¬ a<p+9 then none else numS t p (a+1) (10 * n+((t[a]).toNat - 48))) else some (n,a)) else some (n,a)
termination_by t.size - a
def nextAt (t:ByteArray) (p:Nat):NG Nat :=
 if h:p<t.size then
  (if markB (t[p]).toNat then .tok (t[p]).toNat p 0 [] (p+1)
  else if digB (t[p]).toNat then (match numS t p p 0 with|some (n,c)=>.tok 48 p n [] c|none=>.bad p)
  else if (t[p]).toNat=34 then (match strS t (p+1) [] with|some (l,c)=>.tok 34 p 0 l c|none=>.bad p)
  else .bad p)
 else .tok 0 p 0 [] p
def nextS (t:ByteArray) (a:Nat):NG Nat:=nextAt t (skipS t a)
def skipL:List UInt8→List UInt8
 | []=>[]
 | x::r=>if spB x.toNat then skipL r else x::r
def okB (x:Nat):Bool:=decide (32≤x) && decide (x≤126)
def strL:List UInt8→List UInt8→Option (List UInt8 × List UInt8)
 | [],_=>none
 | x::r,acc =>
  if okB x.toNat then
   if x.toNat=34 then some (acc,r)
   else if x.toNat=92 then
    match r with
    | []=>none
    | y::r2=>if y.toNat=34∨y.toNat=92 then strL r2 (acc ++ [y]) else none
   else strL r (acc ++ [x])
  else none
def numL:List UInt8→Nat→Nat→Option (Nat × List UInt8)
 | [],_,n=>some (n,[])
 | x::r,d,n=>if digB x.toNat then (if (0<d∧n=0)∨¬ d<9 then none else numL r (d+1) (10 * n+(x.toNat - 48))) else some (n,x::r)
def nextLA:List UInt8→NG (List UInt8)
 | []=>.tok 0 [] 0 [] []
 | x::r =>
  if markB x.toNat then .tok x.toNat (x::r) 0 [] r
  else if digB x.toNat then (match numL (x::r) 0 0 with|some (n,r2)=>.tok 48 (x::r) n [] r2|none=>.bad (x::r))
  else if x.toNat=34 then (match strL r [] with|some (l,r2)=>.tok 34 (x::r) 0 l r2|none=>.bad (x::r))
  else .bad (x::r)
def nextL (r:List UInt8):NG (List UInt8):=nextLA (skipL r)
def rest (t:ByteArray) (a:Nat):List UInt8:=t.data.toList.drop a
theorem rest_cons (t:ByteArray) (a:Nat) (h:a<t.size):rest t a=t[a]::rest t (a+1):=by
 unfold rest
 rw [List.drop_eq_getElem_cons (by rw [Array.length_toList];exact h)]
 rfl
theorem rest_nil (t:ByteArray) (a:Nat) (h:¬ a<t.size):rest t a = []:=by
 unfold rest
 exact List.drop_eq_nil_of_le (by rw [Array.length_toList];exact Nat.le_of_not_lt h)
theorem skip_rest (t:ByteArray) (a:Nat) (h:a≤t.size):skipL (rest t a)=rest t (skipS t a)∧skipS t a≤t.size:=by
 rw [skipS]
 by_cases hl:a<t.size
 ·rw [dif_pos hl,rest_cons t a hl,skipL]
  split
  ·exact skip_rest t (a+1) (by omega)
  ·exact ⟨(rest_cons t a hl).symm,h⟩
 ·rw [dif_neg hl,rest_nil t a hl]
  exact ⟨rfl,h⟩
termination_by t.size - a
theorem u8_back (x:UInt8):UInt8.ofNat x.toNat=x:=by simp
theorem byteS_rest (t:ByteArray) (a:Nat) (h:a<t.size):byteS t a=if okB (t[a]).toNat then some (t[a]).toNat else none:=by
 unfold byteS okB
 rw [dif_pos h]
 by_cases hc:32≤(t[a]).toNat∧(t[a]).toNat≤126
 ·rw [if_pos hc,if_pos (by simp [hc])]
 ·rw [if_neg hc,if_neg (by simp;omega)]
theorem str_rest (t:ByteArray):∀ (d a:Nat) (acc:List UInt8),t.size - a=d→(∀ l c,strS t a acc=some (l,c)→strL (rest t a) acc=some (l,rest t c)∧c≤t.size)∧(strS t a acc=none→strL (rest t a) acc=none):=by
 intro d
 induction d using Nat.strongRecOn with
 | _ d ih =>
  intro a acc hd
  by_cases hl:a<t.size
  ·have hb:=byteS_rest t a hl
   rw [rest_cons t a hl]
   by_cases hc:okB (t[a]).toNat=true
   ·rw [if_pos hc] at hb
    have hs:strS t a acc=if (t[a]).toNat=34 then some (acc,a+1) else if (t[a]).toNat=92 then (match byteS t (a+1) with
      | none=>none
      | some y=>if y=34∨y=92 then strS t (a+2) (acc ++ [UInt8.ofNat y]) else none) else strS t (a+1) (acc ++ [UInt8.ofNat (t[a]).toNat]):=by
     rw [strS];split
     ·rename_i h2;rw [hb] at h2;cases h2
     ·rename_i x h2;rw [hb] at h2;cases h2;rfl
    rw [hs,strL.eq_def]
    dsimp only
    rw [if_pos hc]
    by_cases h1:(t[a]).toNat=34
    ·rw [if_pos h1,if_pos h1]
     exact ⟨fun l c e=>by cases e;exact ⟨rfl,hl⟩,fun e=>by cases e⟩
    ·rw [if_neg h1,if_neg h1]
     by_cases h2:(t[a]).toNat=92
     ·rw [if_pos h2,if_pos h2]
      by_cases hl2:a+1<t.size
      ·rw [rest_cons t (a+1) hl2]
       have hb2:=byteS_rest t (a+1) hl2
       dsimp only
       by_cases hy:(t[a+1]).toNat=34∨(t[a+1]).toNat=92
       ·have hc2:okB (t[a+1]).toNat=true:=by unfold okB;simp;omega
        rw [hb2,if_pos hc2,if_pos hy]
        dsimp only
        rw [if_pos hy,u8_back]
        exact ih (t.size - (a+2)) (by omega) (a+2) _ rfl
       ·rw [if_neg hy]
        refine ⟨fun l c e=>?_,fun _=>rfl⟩
        rw [hb2] at e
        split at e
        ·cases e
        ·rename_i y hy2
         split at hy2
         ·cases hy2;rw [if_neg hy] at e;cases e
         ·cases hy2
      ·have hb2:byteS t (a+1)=none:=by unfold byteS;rw [dif_neg hl2]
       rw [rest_nil t (a+1) hl2,hb2]
       exact ⟨fun l c e=>(by cases e),fun _=>rfl⟩
     ·rw [if_neg h2,if_neg h2,u8_back]
      exact ih (t.size - (a+1)) (by omega) (a+1) _ rfl
   ·rw [if_neg hc] at hb
    have hs:strS t a acc=none:=by
     rw [strS];split
     ·rfl
     ·rename_i x h2;rw [hb] at h2;cases h2
    rw [hs,strL.eq_def]
    dsimp only
    rw [if_neg hc]
    exact ⟨fun l c e=>(by cases e),fun _=>rfl⟩
  ·have hb:byteS t a=none:=by unfold byteS;rw [dif_neg hl]
   have hs:strS t a acc=none:=by
    rw [strS];split
    ·rfl
    ·rename_i x h2;rw [hb] at h2;cases h2
   rw [hs,rest_nil t a hl]
   exact ⟨fun l c e=>(by cases e),fun _=>rfl⟩
theorem num_rest (t:ByteArray) (p:Nat):∀ (d a n:Nat),t.size - a=d→p≤a→a≤t.size→(∀ m c,numS t p a n=some (m,c)→numL (rest t a) (a - p) n=some (m,rest t c)∧c≤t.size)∧(numS t p a n=none→numL (rest t a) (a - p) n=none):=by
 intro d
 induction d using Nat.strongRecOn with
 | _ d ih =>
  intro a n hd hp ha
  rw [numS]
  by_cases hl:a<t.size
  ·rw [dif_pos hl,rest_cons t a hl,numL]
   by_cases hg:digB (t[a]).toNat=true
   ·rw [if_pos hg,if_pos hg]
    by_cases hz:(p<a∧n=0)∨¬ a<p+9
    ·rw [if_pos hz,if_pos (by omega)]
     exact ⟨fun m c e=>(by cases e),fun _=>rfl⟩
    ·rw [if_neg hz,if_neg (by omega),show a - p+1=a+1 - p by omega]
     exact ih (t.size - (a+1)) (by omega) (a+1) _ rfl (by omega) (by omega)
   ·rw [if_neg hg,if_neg hg]
    exact ⟨fun m c e=>by cases e;exact ⟨by rw [rest_cons t _ hl],ha⟩,fun e=>by cases e⟩
  ·rw [dif_neg hl,rest_nil t a hl,numL]
   exact ⟨fun m c e=>by cases e;exact ⟨by rw [rest_nil t _ hl],ha⟩,fun e=>by cases e⟩
theorem next_rest (t:ByteArray) (a:Nat) (ha:a≤t.size) :
  (∀ k p n l c,nextS t a = .tok k p n l c→nextL (rest t a) = .tok k (rest t p) n l (rest t c)∧p≤t.size∧c≤t.size)∧(∀ p,nextS t a = .bad p→nextL (rest t a) = .bad (rest t p)∧p≤t.size):=by
 obtain ⟨h1,h2⟩:=skip_rest t a ha
 unfold nextS nextL
 rw [h1]
 generalize skipS t a=q at h2
 unfold nextAt
 by_cases hl:q<t.size
 ·rw [dif_pos hl,rest_cons t q hl,nextLA]
  by_cases hm:markB (t[q]).toNat=true
  ·rw [if_pos hm,if_pos hm]
   refine ⟨fun k p n l c e=>?_,fun p e=>(by cases e)⟩
   cases e
   exact ⟨by rw [rest_cons t _ hl],h2,hl⟩
  ·rw [if_neg hm,if_neg hm]
   by_cases hd:digB (t[q]).toNat=true
   ·rw [if_pos hd,if_pos hd]
    obtain ⟨n1,n2⟩:=num_rest t q _ q 0 rfl (Nat.le_refl _) h2
    rw [Nat.sub_self,rest_cons t q hl] at n1 n2
    cases hn:numS t q q 0 with
    | none =>
     rw [n2 hn]
     exact ⟨fun k p n l c e=>(by cases e),fun p e=>by cases e;exact ⟨by rw [rest_cons t _ hl],h2⟩⟩
    | some r =>
     obtain ⟨m,c'⟩:=r
     obtain ⟨n3,n4⟩:=n1 m c' hn
     rw [n3]
     exact ⟨fun k p n l c e=>by cases e;exact ⟨by rw [rest_cons t _ hl],h2,n4⟩,fun p e=>(by cases e)⟩
   ·rw [if_neg hd,if_neg hd]
    by_cases h34:(t[q]).toNat=34
    ·rw [if_pos h34,if_pos h34]
     obtain ⟨s1,s2⟩:=str_rest t _ (q+1) [] rfl
     cases hn:strS t (q+1) [] with
     | none =>
      rw [s2 hn]
      exact ⟨fun k p n l c e=>(by cases e),fun p e=>by cases e;exact ⟨by rw [rest_cons t _ hl],h2⟩⟩
     | some r =>
      obtain ⟨m,c'⟩:=r
      obtain ⟨n3,n4⟩:=s1 m c' hn
      rw [n3]
      exact ⟨fun k p n l c e=>by cases e;exact ⟨by rw [rest_cons t _ hl],h2,n4⟩,fun p e=>(by cases e)⟩
    ·rw [if_neg h34,if_neg h34]
     exact ⟨fun k p n l c e=>(by cases e),fun p e=>by cases e;exact ⟨by rw [rest_cons t _ hl],h2⟩⟩
 ·rw [dif_neg hl,rest_nil t q hl,nextLA]
  refine ⟨fun k p n l c e=>?_,fun p e=>(by cases e)⟩
  cases e
  exact ⟨by rw [rest_nil t _ hl],h2,h2⟩
theorem hom_rest (t:ByteArray):Hom (fun a=>a≤t.size) (rest t) (nextS t) nextL where
 map a h:=by
  cases e:nextS t a with
  | bad p=>exact ((next_rest t a h).2 p e).1
  | tok k p n l c=>exact ((next_rest t a h).1 k p n l c e).1
 tok a k p n l c h e:=((next_rest t a h).1 k p n l c e).2
 bad a p h e:=((next_rest t a h).2 p e).2
def Blank (b:List UInt8):Prop:=∀ x∈b,spB x.toNat=true
theorem Blank.nil:Blank []:=fun _ h=>by cases h
theorem skip_blank:∀ (b r:List UInt8),Blank b→skipL (b++r)=skipL r
 | [],_,_=>rfl
 | x::b,r,h=>by
  rw [List.cons_append,skipL,if_pos (h x (List.mem_cons_self ..))]
  exact skip_blank b r fun y hy=>h y (List.mem_cons_of_mem _ hy)
theorem next_blank {b:List UInt8} (r:List UInt8) (h:Blank b):nextL (b++r)=nextL r:=by unfold nextL;rw [skip_blank b r h]
theorem skip_not {x:UInt8} (r:List UInt8) (h:spB x.toNat=false):skipL (x::r)=x::r:=by rw [skipL,h];rfl
theorem next_mark (k:UInt8) (r:List UInt8) (h:markB k.toNat=true) (hs:spB k.toNat=false):nextL (k::r) = .tok k.toNat (k::r) 0 [] r:=by
 unfold nextL
 rw [skip_not r hs,nextLA,if_pos h]
def StrOk (s:List UInt8):Prop:=∀ x∈s,okB x.toNat=true∧x.toNat≠34∧x.toNat≠92
theorem strL_ok:∀ (s r acc:List UInt8),StrOk s→strL (s++34::r) acc=some (acc++s,r)
 | [],r,acc,_=>by
  rw [List.nil_append,strL.eq_def]
  dsimp only
  rw [if_pos (by decide),if_pos (by decide),List.append_nil]
 | x::s,r,acc,h=>by
  obtain ⟨h1,h2,h3⟩:=h x (List.mem_cons_self ..)
  rw [List.cons_append,strL.eq_def]
  dsimp only
  rw [if_pos h1,if_neg h2,if_neg h3,strL_ok s r _ fun y hy=>h y (List.mem_cons_of_mem _ hy),List.append_assoc]
  rfl
theorem next_str (s r:List UInt8) (h:StrOk s):nextL (34::(s++34::r)) = .tok 34 (34::(s++34::r)) 0 s r:=by
 unfold nextL
 rw [skip_not _ (by decide),nextLA,if_neg (by decide),if_neg (by decide),if_pos (by decide),strL_ok s r [] h]
 rfl
def NoDig (r:List UInt8):Prop:=∀ x,r.head? = some x→digB x.toNat=false
theorem numL_end {r:List UInt8} (h:NoDig r) (d n:Nat):numL r d n=some (n,r):=by
 cases r with
 | nil=>rfl
 | cons x r=>rw [numL,if_neg (by rw [h x rfl];decide)]
theorem ofNat_dig (k:Nat) (h:k<10):(UInt8.ofNat (48+k)).toNat=48+k:=by
 rw [UInt8.toNat_ofNat'];omega
theorem digB_dig (k:Nat) (h:k<10):digB (48+k)=true:=by unfold digB;simp;omega
theorem numL_dig (k:Nat) (h:k<10) (r:List UInt8) (d n:Nat) (hz:¬ ((0<d∧n=0)∨¬ d<9)):numL (UInt8.ofNat (48+k)::r) d n=numL r (d+1) (10 * n+k):=by
 rw [numL,ofNat_dig k h,if_pos (digB_dig k h),if_neg hz,show 48+k - 48=k by omega]
theorem dec1 (n:Nat) (h:n<10):Lib.decDigits n = [UInt8.ofNat (48+n)]:=by rw [Lib.decDigits,dif_pos h]
theorem dec2 (n:Nat) (h:10≤n) (h2:n<100):Lib.decDigits n = [UInt8.ofNat (48+n / 10),UInt8.ofNat (48+n % 10)]:=by
 rw [Lib.decDigits,dif_neg (by omega),dec1 _ (by omega)];rfl
theorem dec3 (n:Nat) (h:100≤n) (h2:n<1000):Lib.decDigits n = [UInt8.ofNat (48+n / 10 / 10),UInt8.ofNat (48+n / 10 % 10),UInt8.ofNat (48+n % 10)]:=by
 rw [Lib.decDigits,dif_neg (by omega),dec2 _ (by omega) (by omega)];rfl
theorem num_dec (n:Nat) (h:n≤300) (r:List UInt8) (hr:NoDig r):numL (Lib.decDigits n++r) 0 0=some (n,r):=by
 rcases (show n<10∨(10≤n∧n<100)∨(100≤n∧n<1000) by omega) with h1|⟨h1,h2⟩|⟨h1,h2⟩
 ·rw [dec1 n h1,List.singleton_append,numL_dig n h1 _ _ _ (by omega),numL_end hr]
  simp
 ·rw [dec2 n h1 h2]
  simp only [List.cons_append,List.nil_append]
  rw [numL_dig _ (by omega) _ _ _ (by omega),numL_dig _ (by omega) _ _ _ (by omega),numL_end hr]
  simp only [Option.some.injEq,Prod.mk.injEq,and_true]
  omega
 ·rw [dec3 n h1 h2]
  simp only [List.cons_append,List.nil_append]
  rw [numL_dig _ (by omega) _ _ _ (by omega),numL_dig _ (by omega) _ _ _ (by omega),numL_dig _ (by omega) _ _ _ (by omega),numL_end hr]
  simp only [Option.some.injEq,Prod.mk.injEq,and_true]
  omega
theorem dec_head (n:Nat) (h:n≤300):∃ k r,k<10∧Lib.decDigits n=UInt8.ofNat (48+k)::r:=by
 rcases (show n<10∨(10≤n∧n<100)∨(100≤n∧n<1000) by omega) with h1|⟨h1,h2⟩|⟨h1,h2⟩
 ·exact ⟨_,_,h1,dec1 n h1⟩
 ·exact ⟨_,_,by omega,dec2 n h1 h2⟩
 ·exact ⟨_,_,by omega,dec3 n h1 h2⟩
theorem next_num (n:Nat) (h:n≤300) (r:List UInt8) (hr:NoDig r):∃ p,nextL (Lib.decDigits n++r) = .tok 48 p n [] r:=by
 have hn:=num_dec n h r hr
 obtain ⟨k,q,hk,hd⟩:=dec_head n h
 rw [hd,List.cons_append] at hn ⊢
 have ht:=ofNat_dig k hk
 unfold nextL
 rw [skip_not _ (by rw [ht];unfold spB;simp;omega),nextLA,ht,if_neg (by unfold markB;simp;omega),if_pos (digB_dig k hk),hn]
 exact ⟨_,rfl⟩
theorem mark_read {b:List UInt8} (hb:Blank b) (k:UInt8) (r:List UInt8) (h:markB k.toNat=true) (hs:spB k.toNat=false):markG nextL (b++k::r) k.toNat = .ok () r:=by
 unfold markG
 rw [next_blank _ hb,next_mark k r h hs]
 dsimp only
 rw [if_pos rfl]
def memT (b1 key b2:List UInt8) (r:List UInt8):List UInt8:=b1++34::(key++34::(b2++58::r))
theorem obj_step {σ:Type} (val:ByteArray→σ→List UInt8→RG (List UInt8) σ) (first:Bool) (d i:Nat) (missing:List ByteArray) (st:σ) (c b1 key b2 r:List UInt8) (hc:Blank c) (h1:Blank b1) (h2:Blank b2) (hk:StrOk key)
  (hi:Lib.idxOfS missing ⟨key.toArray⟩=(i:Int)) :
  objG nextL val first (d+1) missing st ((if first then [] else c ++ [44])++memT b1 key b2 r)=(match val ⟨key.toArray⟩ st r with|.ok st' c3=>objG nextL val false d (missing.eraseIdx i) st' c3|.bad p=>.bad p):=by
 have hf:(if first then .ok () ((if first then [] else c ++ [44])++memT b1 key b2 r) else markG nextL ((if first then [] else c ++ [44])++memT b1 key b2 r) 44:RG (List UInt8) Unit) = .ok () (memT b1 key b2 r):=by
  cases first with
  | true=>rfl
  | false =>
   simp only [Bool.false_eq_true,if_false,List.append_assoc,List.singleton_append]
   exact mark_read hc 44 _ (by decide) (by decide)
 conv=>lhs;unfold objG
 rw [hf]
 dsimp only
 unfold memT
 rw [next_blank _ h1,next_str key _ hk]
 dsimp only
 rw [if_pos ⟨rfl,by rw [hi];omega⟩,show (58:Nat)=(58:UInt8).toNat from rfl,mark_read h2 58 r (by decide) (by decide),hi]
 dsimp only
 rw [Int.toNat_natCast]
 cases val ⟨key.toArray⟩ st r<;>rfl
theorem obj_end {σ:Type} (val:ByteArray→σ→List UInt8→RG (List UInt8) σ) (first:Bool) (missing:List ByteArray) (st:σ) (c r:List UInt8) (hc:Blank c):objG nextL val first 0 missing st (c++125::r) = .ok st r:=by
 unfold objG
 rw [show (125:Nat)=(125:UInt8).toNat from rfl,mark_read hc 125 r (by decide) (by decide)]
structure Good (e:En):Prop where
 tag:isTagB e.name=true
 dig:isDigB e.dig=true
 size:e.size≤300
theorem ba_back (s:ByteArray):(⟨s.data.toList.toArray⟩ : ByteArray)=s:=by cases s;rfl
theorem tag_strOk {s:ByteArray} (h:isTagB s=true):StrOk s.data.toList:=by
 unfold isTagB at h
 simp only [Bool.and_eq_true,List.all_eq_true] at h
 intro x hx
 have:=h.2 x hx
 unfold plainB signB digB at this
 unfold okB
 simp at this ⊢
 omega
theorem dig_strOk {s:ByteArray} (h:isDigB s=true):StrOk s.data.toList:=by
 unfold isDigB at h
 simp only [Bool.and_eq_true,List.all_eq_true] at h
 intro x hx
 have:=h.2 x hx
 unfold hexB digB at this
 unfold okB
 simp at this ⊢
 omega
theorem ent_tag (last:ByteArray) (e:En) (n:ByteArray) (b r:List UInt8) (hb:Blank b) (h:isTagB n=true) (hl:leB n last=false):entG nextL last sTag e (b++34::(n.data.toList++34::r)) = .ok { e with name:=n } r:=by
 unfold entG tagG
 rw [if_pos rfl,next_blank _ hb,next_str _ _ (tag_strOk h)]
 dsimp only
 rw [ba_back,if_pos ⟨rfl,h,hl⟩]
theorem ent_dig (last:ByteArray) (e:En) (n:ByteArray) (b r:List UInt8) (hb:Blank b) (h:isDigB n=true):entG nextL last sDigest e (b++34::(n.data.toList++34::r)) = .ok { e with dig:=n } r:=by
 unfold entG digestG
 rw [if_neg (by decide),if_pos rfl,next_blank _ hb,next_str _ _ (dig_strOk h)]
 dsimp only
 rw [ba_back,if_pos ⟨rfl,h⟩]
theorem ent_size (last:ByteArray) (e:En) (n:Nat) (b r:List UInt8) (hb:Blank b) (h:n≤300) (hr:NoDig r):entG nextL last sSize e (b++(Lib.decDigits n++r)) = .ok { e with size:=n } r:=by
 obtain ⟨p,hp⟩:=next_num n h r hr
 unfold entG sizeG
 rw [if_neg (by decide),if_neg (by decide),if_pos rfl,next_blank _ hb,hp]
 dsimp only
 rw [if_pos ⟨rfl,h⟩]
def Reads (e:En) (x:List UInt8):Prop:=∀ (last:ByteArray) (r:List UInt8),leB e.name last=false→∃ p n l c,nextL (x++r) = .tok 123 p n l c∧entryG nextL 123 p last c = .ok e r
structure Bl where
 a:List UInt8
 b:List UInt8
 c:List UInt8
 d:List UInt8
structure Bl.Ok (x:Bl):Prop where
 a:Blank x.a
 b:Blank x.b
 c:Blank x.c
 d:Blank x.d
def tagT (x:Bl) (e:En) (r:List UInt8):List UInt8:=memT x.a sTag.data.toList x.b (x.c++34::(e.name.data.toList++34::(x.d++r)))
def digT (x:Bl) (e:En) (r:List UInt8):List UInt8:=memT x.a sDigest.data.toList x.b (x.c++34::(e.dig.data.toList++34::(x.d++r)))
def sizT (x:Bl) (e:En) (r:List UInt8):List UInt8:=memT x.a sSize.data.toList x.b (x.c++(Lib.decDigits e.size++(x.d++r)))
theorem noDig_blank {b:List UInt8} (hb:Blank b) {x:UInt8} (r:List UInt8) (hx:digB x.toNat=false):NoDig (b++x::r):=by
 intro y hy
 cases b with
 | nil=>simp at hy;subst hy;exact hx
 | cons z b =>
  simp at hy;subst hy
  have:=hb z (List.mem_cons_self ..)
  unfold spB at this
  unfold digB
  simp at this ⊢
  omega
theorem keyTag:StrOk sTag.data.toList:=by unfold StrOk;decide
theorem keyDigest:StrOk sDigest.data.toList:=by unfold StrOk;decide
theorem keySize:StrOk sSize.data.toList:=by unfold StrOk;decide
theorem keyVersion:StrOk sVersion.data.toList:=by unfold StrOk;decide
theorem keyTags:StrOk sTags.data.toList:=by unfold StrOk;decide
theorem st_tag (last:ByteArray) (first:Bool) (d i:Nat) (missing:List ByteArray) (st e:En) (x:Bl) (cb r:List UInt8) (hx:x.Ok) (hc:Blank cb) (hi:Lib.idxOfS missing sTag=(i:Int)) (hg:Good e) (hl:leB e.name last=false) :
  objG nextL (entG nextL last) first (d+1) missing st ((if first then [] else cb ++ [44])++tagT x e r)=objG nextL (entG nextL last) false d (missing.eraseIdx i) { st with name:=e.name } (x.d++r):=by
 unfold tagT
 rw [obj_step _ first d i missing st cb _ _ _ _ hc hx.a hx.b keyTag (by rw [ba_back];exact hi),ba_back,ent_tag last st e.name _ _ hx.c hg.tag hl]
theorem st_dig (last:ByteArray) (first:Bool) (d i:Nat) (missing:List ByteArray) (st e:En) (x:Bl) (cb r:List UInt8) (hx:x.Ok) (hc:Blank cb) (hi:Lib.idxOfS missing sDigest=(i:Int)) (hg:Good e) :
  objG nextL (entG nextL last) first (d+1) missing st ((if first then [] else cb ++ [44])++digT x e r)=objG nextL (entG nextL last) false d (missing.eraseIdx i) { st with dig:=e.dig } (x.d++r):=by
 unfold digT
 rw [obj_step _ first d i missing st cb _ _ _ _ hc hx.a hx.b keyDigest (by rw [ba_back];exact hi),ba_back,ent_dig last st e.dig _ _ hx.c hg.dig]
theorem st_siz (last:ByteArray) (first:Bool) (d i:Nat) (missing:List ByteArray) (st e:En) (x:Bl) (cb r:List UInt8) (hx:x.Ok) (hc:Blank cb) (hi:Lib.idxOfS missing sSize=(i:Int)) (hg:Good e) (hr:NoDig (x.d++r)) :
  objG nextL (entG nextL last) first (d+1) missing st ((if first then [] else cb ++ [44])++sizT x e r)=objG nextL (entG nextL last) false d (missing.eraseIdx i) { st with size:=e.size } (x.d++r):=by
 unfold sizT
 rw [obj_step _ first d i missing st cb _ _ _ _ hc hx.a hx.b keySize (by rw [ba_back];exact hi),ba_back,ent_size last st e.size _ _ hx.c hg.size hr]
theorem reads_of {e:En} {x:List UInt8} (b y:List UInt8) (hb:Blank b) (hx:x=b++123::y) (h:∀ (last:ByteArray) (r:List UInt8),leB e.name last=false→objG nextL (entG nextL last) true 3 [sTag,sDigest,sSize] En0 (y++r) = .ok e r):Reads e x:=by
 intro last r hl
 refine ⟨123::(y++r),0,[],y++r,?_,?_⟩
 ·rw [hx,List.append_assoc,next_blank _ hb,List.cons_append]
  exact next_mark 123 _ (by decide) (by decide)
 ·unfold entryG
  rw [if_pos rfl]
  exact h last r hl
theorem reads_abc (e:En) (hg:Good e) (b:List UInt8) (x y z:Bl) (hb:Blank b) (hx:x.Ok) (hy:y.Ok) (hz:z.Ok):Reads e (b++123::tagT x e (44::digT y e (44::sizT z e [125]))):=by
 refine reads_of b _ hb rfl fun last r hl=>?_
 have e1:tagT x e (44::digT y e (44::sizT z e [125]))++r=(if true then [] else ([]:List UInt8) ++ [44])++tagT x e (44::digT y e (44::sizT z e (125::r))):=by simp [tagT,digT,sizT,memT]
 rw [e1,st_tag last true 2 0 _ _ e x _ _ hx Blank.nil (by decide) hg hl]
 have e2:x.d++44::digT y e (44::sizT z e (125::r))=(if false then [] else x.d ++ [44])++digT y e (44::sizT z e (125::r)):=by simp
 rw [e2,st_dig last false 1 0 _ _ e y _ _ hy hx.d (by decide) hg]
 have e3:y.d++44::sizT z e (125::r)=(if false then [] else y.d ++ [44])++sizT z e (125::r):=by simp
 rw [e3,st_siz last false 0 0 _ _ e z _ _ hz hy.d (by decide) hg (noDig_blank hz.d _ (by decide)),obj_end _ _ _ _ _ _ hz.d]
def joinT:List (List UInt8)→List UInt8
 | []=>[]
 | [x]=>x
 | x::y::l=>x++44::joinT (y::l)
def RiseE:ByteArray→List En→Prop
 | _,[]=>True
 | last,e::l=>leB e.name last=false∧RiseE e.name l
theorem ents_read:∀ (es:List En) (xs:List (List UInt8)) (e:En) (x:List UInt8) (n:Nat) (acc:List En) (last:ByteArray) (b r:List UInt8),es.length=xs.length→(∀ i (h:i<es.length) (h2:i<xs.length),Reads es[i] xs[i])→Reads e x→RiseE last (e::es)→es.length≤n→Blank b →
  ∃ p nn l c,nextL (joinT (x::xs)++(b++93::r)) = .tok 123 p nn l c∧entsG nextL n acc last 123 p c = .ok (acc++e::es) r
 | [],[],e,x,n,acc,last,b,r,_,_,hx,hr,_,hb=>by
  obtain ⟨p,nn,l,c,h1,h2⟩:=hx last (b++93::r) hr.1
  refine ⟨p,nn,l,c,h1,?_⟩
  rw [entsG.eq_def]
  dsimp only
  rw [h2]
  dsimp only
  rw [next_blank _ hb,next_mark 93 r (by decide) (by decide)]
  dsimp only
  rw [if_pos (by decide)]
 | e2::es,x2::xs,e,x,n,acc,last,b,r,hl,hs,hx,hr,hn,hb=>by
  obtain ⟨m,rfl⟩ : ∃ m,n=m+1:=⟨n - 1,by simp at hn;omega⟩
  obtain ⟨p2,nn2,l2,c2,i1,i2⟩:=ents_read es xs e2 x2 m (acc ++ [e]) e.name b r (by simpa using hl) (fun i h h2=>hs (i+1) (by simpa using h) (by simpa using h2)) (hs 0 (by simp) (by simp)) hr.2 (by simp at hn;omega) hb
  obtain ⟨p,nn,l,c,h1,h2⟩:=hx last (44::(joinT (x2::xs)++(b++93::r))) hr.1
  refine ⟨p,nn,l,c,?_,?_⟩
  ·rw [joinT,List.append_assoc,List.cons_append];exact h1
  ·rw [entsG.eq_def]
   dsimp only
   rw [h2]
   dsimp only
   rw [next_mark 44 _ (by decide) (by decide)]
   dsimp only
   rw [if_neg (by decide),if_pos (by decide),i1]
   dsimp only
   rw [i2,List.append_assoc]
   rfl
theorem entries_read (es:List En) (xs:List (List UInt8)) (a b r:List UInt8) (hl:es.length=xs.length) (hs:∀ i (h:i<es.length) (h2:i<xs.length),Reads es[i] xs[i]) (hr:RiseE ⟨#[]⟩ es) (hn:es.length≤8) (ha:Blank a) (hb:Blank b) :
  entriesG nextL (a++91::(joinT xs++(b++93::r))) = .ok es r:=by
 unfold entriesG
 rw [show (91:Nat)=(91:UInt8).toNat from rfl,mark_read ha 91 _ (by decide) (by decide)]
 dsimp only
 cases es with
 | nil =>
  cases xs with
  | nil =>
   rw [joinT,List.nil_append,next_blank _ hb,next_mark 93 r (by decide) (by decide)]
   dsimp only
   rw [if_pos (by decide)]
  | cons _ _=>simp at hl
 | cons e es =>
  cases xs with
  | nil=>simp at hl
  | cons x xs =>
   obtain ⟨p,nn,l,c,h1,h2⟩:=ents_read es xs e x 7 [] ⟨#[]⟩ b r (by simpa using hl) (fun i h h2=>hs (i+1) (by simpa using h) (by simpa using h2)) (hs 0 (by simp) (by simp)) hr (by simp at hn;omega) hb
   rw [h1]
   dsimp only
   rw [if_neg (by decide),h2]
   rfl
def verT (x:Bl) (r:List UInt8):List UInt8:=memT x.a sVersion.data.toList x.b (x.c++49::(x.d++r))
def tagsT (x:Bl) (b:List UInt8) (xs:List (List UInt8)) (r:List UInt8):List UInt8:=memT x.a sTags.data.toList x.b (x.c++91::(joinT xs++(b++93::(x.d++r))))
theorem top_version (st:List En) (b r:List UInt8) (hb:Blank b) (hr:NoDig r):topG nextL sVersion st (b++49::r) = .ok st r:=by
 obtain ⟨p,hp⟩:=next_num 1 (by omega) r hr
 unfold topG versionG
 rw [dec1 1 (by omega),List.singleton_append] at hp
 rw [if_pos rfl,next_blank _ hb,show (49:UInt8)=UInt8.ofNat (48+1) from rfl,hp]
 rfl
theorem whole_vt (es:List En) (xs:List (List UInt8)) (a b r:List UInt8) (x y:Bl) (hl:es.length=xs.length) (hs:∀ i (h:i<es.length) (h2:i<xs.length),Reads es[i] xs[i]) (hr:RiseE ⟨#[]⟩ es) (hn:es.length≤8) (ha:Blank a) (hb:Blank b) (hx:x.Ok) (hy:y.Ok) :
  wholeG nextL (a++123::verT x (44::tagsT y b xs (125::r))) = .ok es r:=by
 unfold wholeG
 rw [next_blank _ ha,next_mark 123 _ (by decide) (by decide)]
 dsimp only
 rw [if_pos (by decide)]
 have e1:verT x (44::tagsT y b xs (125::r))=(if true then [] else ([]:List UInt8) ++ [44])++verT x (44::tagsT y b xs (125::r)):=by simp
 rw [e1,verT,obj_step _ true 1 0 _ _ _ _ _ _ _ Blank.nil hx.a hx.b keyVersion (by decide),ba_back,top_version _ _ _ hx.c (noDig_blank hx.d _ (by decide))]
 dsimp only
 have e2:x.d++44::tagsT y b xs (125::r)=(if false then [] else x.d ++ [44])++tagsT y b xs (125::r):=by simp
 rw [e2,tagsT,obj_step _ false 0 0 _ _ _ _ _ _ _ hx.d hy.a hy.b keyTags (by decide),ba_back]
 unfold topG
 rw [if_neg (by decide),if_pos rfl,entries_read es xs _ _ _ hl hs hr hn hy.c hb]
 dsimp only
 rw [obj_end _ _ _ _ _ _ hy.d]
theorem read_end {s r:List UInt8} {es:List En} (h:wholeG nextL s = .ok es r) (hr:Blank r):∃ c,readG nextL s = .ok es c:=by
 unfold readG
 rw [h]
 dsimp only
 have:=next_blank [] hr
 rw [List.append_nil] at this
 rw [this]
 exact ⟨_,rfl⟩
end Go.Proofs.YtncigfibncmioaaGreatDoor
