/-
  PROVED HERE: the index's reader over whatever gives the next token: and that a map between two such is a map between what is read.
-/
import Derived.Lib.SlicesS
import Derived.Lib.ItoaLen
namespace Go.Proofs.YtncigfibncmioaaGreatDoor
def dL (c:Nat):Bool:=decide (48<=c) && decide (c<=57)
def im (c:Nat):Bool:=dL c || (decide (97<=c) && decide (c<=102))
def uE (c:Nat):Bool:=(decide (97<=c) && decide (c<=122)) || dL c
def BN (c:Nat):Bool:=decide (c=46) || decide (c=95) || decide (c=45)
def fE (s:ByteArray):Bool:=decide (s.size=64) && s.data.toList.all (fun c=>im c.toNat)
def eP (s:ByteArray):Bool:=decide (1<=s.size) && decide (s.size<=20) && uE (s.data.toList.getD 0 0).toNat && s.data.toList.all (fun c=>uE c.toNat || BN c.toNat)
def leB (a b:ByteArray):Bool:=Op.bytesLess a.toList b.toList || a.toList == b.toList
def il:ByteArray:=⟨#[116,97,103]⟩
def rP:ByteArray:=⟨#[100,105,103,101,115,116]⟩
def rQ:ByteArray:=⟨#[115,105,122,101]⟩
def sQ:ByteArray:=⟨#[118,101,114,115,105,111,110]⟩
def uF:ByteArray:=⟨#[116,97,103,115]⟩
inductive NG (P:Type) where
 | tok (kind:Nat) (place:P) (num:Nat) (txt:List UInt8) (c:P)
 | bad (p:P)
inductive RG (P α:Type) where
 | ok (v:α) (c:P)
 | bad (p:P)
structure En where
 name:ByteArray
 dig:ByteArray
 size:Nat
def I6:En:=⟨⟨#[]⟩,⟨#[]⟩,0⟩
section
variable {P:Type} (nx:P->NG P)
def lB (a:P) (kind:Nat):RG P Unit :=
 match nx a with
 | .tok k p _ _ c=>if k=kind then .ok () c else .bad p
 | .bad p=>.bad p
def yn (a:P):RG P Unit :=
 match nx a with
 | .tok k p n _ c=>if k=48/\n=1 then .ok () c else .bad p
 | .bad p=>.bad p
def ye (a:P):RG P Nat :=
 match nx a with
 | .tok k p n _ c=>if k=48/\n<=300 then .ok n c else .bad p
 | .bad p=>.bad p
def my (last:ByteArray) (a:P):RG P ByteArray :=
 match nx a with
 | .tok k p _ l c=>if k=34/\eP ⟨l.toArray⟩=true/\leB ⟨l.toArray⟩ last=false then .ok ⟨l.toArray⟩ c else .bad p
 | .bad p=>.bad p
def xU (a:P):RG P ByteArray :=
 match nx a with
 | .tok k p _ l c=>if k=34/\fE ⟨l.toArray⟩=true then .ok ⟨l.toArray⟩ c else .bad p
 | .bad p=>.bad p
def dU {σ:Type} (val:ByteArray->σ->P->RG P σ):Bool->Nat->List ByteArray->σ->P->RG P σ
 | _,0,_,st,a=>match lB nx a 125 with
  | .ok _ c=>.ok st c
  | .bad p=>.bad p
 | first,d+1,missing,st,a =>
  match (if first then .ok () a else lB nx a 44:RG P Unit) with
  | .bad p=>.bad p
  | .ok _ a1 =>
   match nx a1 with
   | .bad p=>.bad p
   | .tok k p _ l c =>
    if k=34/\0<=Lib.idxOfS missing ⟨l.toArray⟩ then
     match lB nx c 58 with
     | .bad p=>.bad p
     | .ok _ c2 =>
      match val ⟨l.toArray⟩ st c2 with
      | .bad p=>.bad p
      | .ok ju c3=>dU val false d (missing.eraseIdx (Lib.idxOfS missing ⟨l.toArray⟩).toNat) ju c3
    else .bad p
def eH (last x:ByteArray) (e:En) (a:P):RG P En :=
 if x=il then (match my nx last a with|.ok n c=>.ok { e with name:=n } c|.bad p=>.bad p)
 else if x=rP then (match xU nx a with|.ok s c=>.ok { e with dig:=s } c|.bad p=>.bad p)
 else if x=rQ then (match ye nx a with|.ok n c=>.ok { e with size:=n } c|.bad p=>.bad p)
 else .ok e a
def wS (k:Nat) (p:P) (last:ByteArray) (c:P):RG P En :=
 if k=123 then dU nx (eH nx last) true 3 [il,rP,rQ] I6 c else .bad p
def qq:Nat->List En->ByteArray->Nat->P->P->RG P (List En)
 | n,es,last,k,p,c =>
  match wS nx k p last c with
  | .bad p=>.bad p
  | .ok e c1 =>
   match nx c1 with
   | .bad p=>.bad p
   | .tok k2 p2 _ _ c2 =>
    if k2=93 then .ok (es ++ [e]) c2
    else match n with
     | 0=>.bad p2
     | n+1=>if k2=44 then (match nx c2 with|.bad p=>.bad p|.tok k3 p3 _ _ c3=>qq n (es ++ [e]) e.name k3 p3 c3) else .bad p2
def xZ (a:P):RG P (List En) :=
 match lB nx a 91 with
 | .bad p=>.bad p
 | .ok _ a1 =>
  match nx a1 with
  | .bad p=>.bad p
  | .tok k p _ _ c=>if k=93 then .ok [] c else qq nx 7 [] ⟨#[]⟩ k p c
def kQ (x:ByteArray) (st:List En) (a:P):RG P (List En) :=
 if x=sQ then (match yn nx a with|.ok _ c=>.ok st c|.bad p=>.bad p)
 else if x=uF then xZ nx a
 else .ok st a
def wV (a:P):RG P (List En) :=
 match nx a with
 | .bad p=>.bad p
 | .tok k p _ _ c=>if k=123 then dU nx (kQ nx) true 2 [sQ,uF] [] c else .bad p
def uG (a:P):RG P (List En) :=
 match wV nx a with
 | .bad p=>.bad p
 | .ok es c =>
  match nx c with
  | .bad p=>.bad p
  | .tok k p _ _ c2=>if k=0 then .ok es c2 else .bad p
end
def NG.map {P Q:Type} (f:P->Q):NG P->NG Q
 | .tok k p n l c=>.tok k (f p) n l (f c)
 | .bad p=>.bad (f p)
def RG.map {P Q α:Type} (f:P->Q):RG P α->RG Q α
 | .ok v c=>.ok v (f c)
 | .bad p=>.bad (f p)
structure qy {P Q:Type} (D:P->Prop) (f:P->Q) (nx:P->NG P) (ny:Q->NG Q):Prop where
 map:∀ a,D a->ny (f a)=(nx a).map f
 tok:∀ a k p n l c,D a->nx a = .tok k p n l c->D p/\D c
 bad:∀ a p,D a->nx a = .bad p->D p
def RG.In {P α:Type} (D:P->Prop):RG P α->Prop
 | .ok _ c=>D c
 | .bad p=>D p
section
variable {P Q:Type} {D:P->Prop} {f:P->Q} {nx:P->NG P} {ny:Q->NG Q} (H:qy D f nx ny)
include H
theorem qy.kR {a:P} (h:D a) {k n l} {p c:P} (e:nx a = .tok k p n l c):ny (f a) = .tok k (f p) n l (f c)/\D p/\D c:=⟨by rw [H.map a h,e];rfl,H.tok a k p n l c h e⟩
theorem qy.kS {a:P} (h:D a) {p:P} (e:nx a = .bad p):ny (f a) = .bad (f p)/\D p:=⟨by rw [H.map a h,e];rfl,H.bad a p h e⟩
theorem qy.mark {a:P} (h:D a) (kind:Nat):lB ny (f a) kind=(lB nx a kind).map f/\(lB nx a kind).In D:=by
 unfold lB
 cases e:nx a with
 | bad p=>obtain ⟨e1,e2⟩:=H.kS h e;rw [e1];exact ⟨rfl,e2⟩
 | tok k p n l c =>
  obtain ⟨e1,e2,e3⟩:=H.kR h e;rw [e1];dsimp only
  split
  ·exact ⟨rfl,e3⟩
  ·exact ⟨rfl,e2⟩
theorem qy.version {a:P} (h:D a):yn ny (f a)=(yn nx a).map f/\(yn nx a).In D:=by
 unfold yn
 cases e:nx a with
 | bad p=>obtain ⟨e1,e2⟩:=H.kS h e;rw [e1];exact ⟨rfl,e2⟩
 | tok k p n l c =>
  obtain ⟨e1,e2,e3⟩:=H.kR h e;rw [e1];dsimp only
  split
  ·exact ⟨rfl,e3⟩
  ·exact ⟨rfl,e2⟩
theorem qy.size {a:P} (h:D a):ye ny (f a)=(ye nx a).map f/\(ye nx a).In D:=by
 unfold ye
 cases e:nx a with
 | bad p=>obtain ⟨e1,e2⟩:=H.kS h e;rw [e1];exact ⟨rfl,e2⟩
 | tok k p n l c =>
  obtain ⟨e1,e2,e3⟩:=H.kR h e;rw [e1];dsimp only
  split
  ·exact ⟨rfl,e3⟩
  ·exact ⟨rfl,e2⟩
theorem qy.digest {a:P} (h:D a):xU ny (f a)=(xU nx a).map f/\(xU nx a).In D:=by
 unfold xU
 cases e:nx a with
 | bad p=>obtain ⟨e1,e2⟩:=H.kS h e;rw [e1];exact ⟨rfl,e2⟩
 | tok k p n l c =>
  obtain ⟨e1,e2,e3⟩:=H.kR h e;rw [e1];dsimp only
  split
  ·exact ⟨rfl,e3⟩
  ·exact ⟨rfl,e2⟩
theorem qy.tag {a:P} (h:D a) (last:ByteArray):my ny last (f a)=(my nx last a).map f/\(my nx last a).In D:=by
 unfold my
 cases e:nx a with
 | bad p=>obtain ⟨e1,e2⟩:=H.kS h e;rw [e1];exact ⟨rfl,e2⟩
 | tok k p n l c =>
  obtain ⟨e1,e2,e3⟩:=H.kR h e;rw [e1];dsimp only
  split
  ·exact ⟨rfl,e3⟩
  ·exact ⟨rfl,e2⟩
theorem qy.obj {σ:Type} {val:ByteArray->σ->P->RG P σ} {KZ:ByteArray->σ->Q->RG Q σ} (hv:∀ x st a,D a->KZ x st (f a)=(val x st a).map f/\(val x st a).In D) :
  ∀ (d:Nat) (first:Bool) (missing:List ByteArray) (st:σ) (a:P),D a->dU ny KZ first d missing st (f a)=(dU nx val first d missing st a).map f/\(dU nx val first d missing st a).In D:=by
 intro d
 induction d with
 | zero =>
  intro first missing st a h
  obtain ⟨e1,e2⟩:=H.mark h 125;unfold dU;rw [e1]
  cases hm:lB nx a 125 with
  | ok v c=>rw [hm] at e2;exact ⟨rfl,e2⟩
  | bad p=>rw [hm] at e2;exact ⟨rfl,e2⟩
 | succ d ih =>
  intro first missing st a h
  have hf:(if first then .ok () (f a) else lB ny (f a) 44:RG Q Unit)=(if first then .ok () a else lB nx a 44:RG P Unit).map f/\(if first then .ok () a else lB nx a 44:RG P Unit).In D:=by
   cases first with
   | true=>exact ⟨rfl,h⟩
   | false=>exact H.mark h 44
  unfold dU;rw [hf.1];obtain ⟨r,hr⟩ : ∃ r,r=(if first then .ok () a else lB nx a 44:RG P Unit):=⟨_,rfl⟩;rw [<- hr] at hf ⊢
  cases r with
  | bad p=>exact ⟨rfl,hf.2⟩
  | ok u a1 =>
   have h1:D a1:=hf.2;dsimp only [RG.map]
   cases e:nx a1 with
   | bad p=>obtain ⟨e1,e2⟩:=H.kS h1 e;rw [e1];exact ⟨rfl,e2⟩
   | tok k p n l c =>
    obtain ⟨e1,e2,e3⟩:=H.kR h1 e;rw [e1];dsimp only
    split
    ·obtain ⟨m1,m2⟩:=H.mark e3 58;rw [m1]
     cases hm:lB nx c 58 with
     | bad p=>rw [hm] at m2;exact ⟨rfl,m2⟩
     | ok u2 c2 =>
      rw [hm] at m2;dsimp only [RG.map];obtain ⟨v1,v2⟩:=hv ⟨l.toArray⟩ st c2 m2;rw [v1]
      cases Ak:val ⟨l.toArray⟩ st c2 with
      | bad p=>rw [Ak] at v2;exact ⟨rfl,v2⟩
      | ok ju c3=>rw [Ak] at v2;exact ih false _ ju c3 v2
    ·exact ⟨rfl,e2⟩
theorem qy.ent (last x:ByteArray) (e:En) {a:P} (h:D a):eH ny last x e (f a)=(eH nx last x e a).map f/\(eH nx last x e a).In D:=by
 unfold eH
 split
 ·obtain ⟨m1,m2⟩:=H.tag h last;rw [m1]
  cases hm:my nx last a with
  | bad p=>rw [hm] at m2;exact ⟨rfl,m2⟩
  | ok u c=>rw [hm] at m2;exact ⟨rfl,m2⟩
 ·split
  ·obtain ⟨m1,m2⟩:=H.digest h;rw [m1]
   cases hm:xU nx a with
   | bad p=>rw [hm] at m2;exact ⟨rfl,m2⟩
   | ok u c=>rw [hm] at m2;exact ⟨rfl,m2⟩
  ·split
   ·obtain ⟨m1,m2⟩:=H.size h;rw [m1]
    cases hm:ye nx a with
    | bad p=>rw [hm] at m2;exact ⟨rfl,m2⟩
    | ok u c=>rw [hm] at m2;exact ⟨rfl,m2⟩
   ·exact ⟨rfl,h⟩
theorem qy.entry (k:Nat) {p c:P} (hp:D p) (hc:D c) (last:ByteArray):wS ny k (f p) last (f c)=(wS nx k p last c).map f/\(wS nx k p last c).In D:=by
 unfold wS
 split
 ·exact H.obj (fun x st a h=>H.ent last x st h) 3 true _ _ c hc
 ·exact ⟨rfl,hp⟩
theorem qy.R6:∀ (n:Nat) (es:List En) (last:ByteArray) (k:Nat) (p c:P),D p->D c->qq ny n es last k (f p) (f c)=(qq nx n es last k p c).map f/\(qq nx n es last k p c).In D:=by
 intro n
 induction n with
 | zero =>
  intro es last k p c hp hc;unfold qq;obtain ⟨m1,m2⟩:=H.entry k hp hc last;rw [m1]
  cases hm:wS nx k p last c with
  | bad p=>rw [hm] at m2;exact ⟨rfl,m2⟩
  | ok e c1 =>
   rw [hm] at m2;dsimp only [RG.map]
   cases e:nx c1 with
   | bad p=>obtain ⟨e1,e2⟩:=H.kS m2 e;rw [e1];exact ⟨rfl,e2⟩
   | tok k2 p2 n2 l2 c2 =>
    obtain ⟨e1,e2,e3⟩:=H.kR m2 e;rw [e1];dsimp only
    split
    ·exact ⟨rfl,e3⟩
    ·exact ⟨rfl,e2⟩
 | succ n ih =>
  intro es last k p c hp hc;unfold qq;obtain ⟨m1,m2⟩:=H.entry k hp hc last;rw [m1]
  cases hm:wS nx k p last c with
  | bad p=>rw [hm] at m2;exact ⟨rfl,m2⟩
  | ok e c1 =>
   rw [hm] at m2;dsimp only [RG.map]
   cases e:nx c1 with
   | bad p=>obtain ⟨e1,e2⟩:=H.kS m2 e;rw [e1];exact ⟨rfl,e2⟩
   | tok k2 p2 n2 l2 c2 =>
    obtain ⟨e1,e2,e3⟩:=H.kR m2 e;rw [e1];dsimp only
    split
    ·exact ⟨rfl,e3⟩
    ·split
     ·cases e4:nx c2 with
      | bad p=>obtain ⟨e1,e2⟩:=H.kS e3 e4;rw [e1];exact ⟨rfl,e2⟩
      | tok k3 p3 n3 l3 c3 =>
       obtain ⟨e5,e6,e7⟩:=H.kR e3 e4;rw [e5];dsimp only;exact ih _ _ k3 p3 c3 e6 e7
     ·exact ⟨rfl,e2⟩
theorem qy.entries {a:P} (h:D a):xZ ny (f a)=(xZ nx a).map f/\(xZ nx a).In D:=by
 unfold xZ;obtain ⟨m1,m2⟩:=H.mark h 91;rw [m1]
 cases hm:lB nx a 91 with
 | bad p=>rw [hm] at m2;exact ⟨rfl,m2⟩
 | ok u c =>
  rw [hm] at m2;dsimp only [RG.map]
  cases e:nx c with
  | bad p=>obtain ⟨e1,e2⟩:=H.kS m2 e;rw [e1];exact ⟨rfl,e2⟩
  | tok k2 p2 n2 l2 c2 =>
   obtain ⟨e1,e2,e3⟩:=H.kR m2 e;rw [e1];dsimp only
   split
   ·exact ⟨rfl,e3⟩
   ·exact H.R6 7 [] _ k2 p2 c2 e2 e3
theorem qy.top (x:ByteArray) (st:List En) {a:P} (h:D a):kQ ny x st (f a)=(kQ nx x st a).map f/\(kQ nx x st a).In D:=by
 unfold kQ
 split
 ·obtain ⟨m1,m2⟩:=H.version h;rw [m1]
  cases hm:yn nx a with
  | bad p=>rw [hm] at m2;exact ⟨rfl,m2⟩
  | ok u c=>rw [hm] at m2;exact ⟨rfl,m2⟩
 ·split
  ·exact H.entries h
  ·exact ⟨rfl,h⟩
theorem qy.whole {a:P} (h:D a):wV ny (f a)=(wV nx a).map f/\(wV nx a).In D:=by
 unfold wV
 cases e:nx a with
 | bad p=>obtain ⟨e1,e2⟩:=H.kS h e;rw [e1];exact ⟨rfl,e2⟩
 | tok k2 p2 n2 l2 c2 =>
  obtain ⟨e1,e2,e3⟩:=H.kR h e;rw [e1];dsimp only
  split
  ·exact H.obj (fun x st a h=>H.top x st h) 2 true _ _ c2 e3
  ·exact ⟨rfl,e2⟩
theorem qy.read {a:P} (h:D a):uG ny (f a)=(uG nx a).map f/\(uG nx a).In D:=by
 unfold uG;obtain ⟨m1,m2⟩:=H.whole h;rw [m1]
 cases hm:wV nx a with
 | bad p=>rw [hm] at m2;exact ⟨rfl,m2⟩
 | ok es c =>
  rw [hm] at m2;dsimp only [RG.map]
  cases e:nx c with
  | bad p=>obtain ⟨e1,e2⟩:=H.kS m2 e;rw [e1];exact ⟨rfl,e2⟩
  | tok k2 p2 n2 l2 c2 =>
   obtain ⟨e1,e2,e3⟩:=H.kR m2 e;rw [e1];dsimp only
   split
   ·exact ⟨rfl,e3⟩
   ·exact ⟨rfl,e2⟩
end
/- digits, blanks, marks -/
def zt (c:Nat):Bool:=decide (c=9) || decide (c=10) || decide (c=13) || decide (c=32)
def Ay (c:Nat):Bool:=decide (c=123) || decide (c=125) || decide (c=91) || decide (c=93) || decide (c=58) || decide (c=44)
def mm (t:ByteArray) (a:Nat):Option Nat :=
 if h:a<t.size then (if 32<=(t[a]).toNat/\(t[a]).toNat<=126 then some (t[a]).toNat else none) else none
theorem Jg {t:ByteArray} {a x:Nat} (h:mm t a=some x):a<t.size:=by
 unfold mm at h;split at h
 ·assumption
 ·cases h
def nN (t:ByteArray) (a:Nat):Nat :=
 if h:a<t.size then (if zt (t[a]).toNat then nN t (a+1) else a) else a
termination_by t.size - a
def cO (t:ByteArray) (a:Nat) (acc:List UInt8):Option (List UInt8 × Nat) :=
 match _h:mm t a with
 | none=>none
 | some x=>if x=34 then some (acc,a+1) else if x=92 then (match mm t (a+1) with
  | none=>none
  | some y=>if y=34∨y=92 then cO t (a+2) (acc ++ [UInt8.ofNat y]) else none) else cO t (a+1) (acc ++ [UInt8.ofNat x])
termination_by t.size - a
decreasing_by
 ·have:=Jg _h;omega
 ·have:=Jg _h;omega
def dv (t:ByteArray) (p a n:Nat):Option (Nat × Nat) :=
 if h:a<t.size then (if dL (t[a]).toNat then (if (p<a/\n=0)∨¬ a<p+9 then none else dv t p (a+1) (10 * n+((t[a]).toNat - 48))) else some (n,a)) else some (n,a)
termination_by t.size - a
def Je (t:ByteArray) (p:Nat):NG Nat :=
 if h:p<t.size then
  (if Ay (t[p]).toNat then .tok (t[p]).toNat p 0 [] (p+1)
  else if dL (t[p]).toNat then (match dv t p p 0 with|some (n,c)=>.tok 48 p n [] c|none=>.bad p)
  else if (t[p]).toNat=34 then (match cO t (p+1) [] with|some (l,c)=>.tok 34 p 0 l c|none=>.bad p)
  else .bad p)
 else .tok 0 p 0 [] p
def bO (t:ByteArray) (a:Nat):NG Nat:=Je t (nN t a)
def Cn:List UInt8->List UInt8
 | []=>[]
 | x::r=>if zt x.toNat then Cn r else x::r
def okB (x:Nat):Bool:=decide (32<=x) && decide (x<=126)
def nU:List UInt8->List UInt8->Option (List UInt8 × List UInt8)
 | [],_=>none
 | x::r,acc =>
  if okB x.toNat then
   if x.toNat=34 then some (acc,r)
   else if x.toNat=92 then
    match r with
    | []=>none
    | y::r2=>if y.toNat=34∨y.toNat=92 then nU r2 (acc ++ [y]) else none
   else nU r (acc ++ [x])
  else none
def lg:List UInt8->Nat->Nat->Option (Nat × List UInt8)
 | [],_,n=>some (n,[])
 | x::r,d,n=>if dL x.toNat then (if (0<d/\n=0)∨¬ d<9 then none else lg r (d+1) (10 * n+(x.toNat - 48))) else some (n,x::r)
def Jp:List UInt8->NG (List UInt8)
 | []=>.tok 0 [] 0 [] []
 | x::r =>
  if Ay x.toNat then .tok x.toNat (x::r) 0 [] r
  else if dL x.toNat then (match lg (x::r) 0 0 with|some (n,r2)=>.tok 48 (x::r) n [] r2|none=>.bad (x::r))
  else if x.toNat=34 then (match nU r [] with|some (l,r2)=>.tok 34 (x::r) 0 l r2|none=>.bad (x::r))
  else .bad (x::r)
def eL (r:List UInt8):NG (List UInt8):=Jp (Cn r)
def rest (t:ByteArray) (a:Nat):List UInt8:=t.data.toList.drop a
theorem uS (t:ByteArray) (a:Nat) (h:a<t.size):rest t a=t[a]::rest t (a+1):=by
 unfold rest;rw [List.drop_eq_getElem_cons (by rw [Array.length_toList];exact h)];rfl
theorem GH (t:ByteArray) (a:Nat) (h:¬ a<t.size):rest t a = []:=by
 unfold rest;exact List.drop_eq_nil_of_le (by rw [Array.length_toList];exact Nat.le_of_not_lt h)
theorem QjB (t:ByteArray) (a:Nat) (h:a<=t.size):Cn (rest t a)=rest t (nN t a)/\nN t a<=t.size:=by
 rw [nN]
 by_cases hl:a<t.size
 ·rw [dif_pos hl,uS t a hl,Cn]
  split
  ·exact QjB t (a+1) (by omega)
  ·exact ⟨(uS t a hl).symm,h⟩
 ·rw [dif_neg hl,GH t a hl];exact ⟨rfl,h⟩
termination_by t.size - a
theorem Qn9 (x:UInt8):UInt8.ofNat x.toNat=x:=by simp
theorem QhO (t:ByteArray) (a:Nat) (h:a<t.size):mm t a=if okB (t[a]).toNat then some (t[a]).toNat else none:=by
 unfold mm okB;rw [dif_pos h]
 by_cases hc:32<=(t[a]).toNat/\(t[a]).toNat<=126
 ·rw [if_pos hc,if_pos (by simp [hc])]
 ·rw [if_neg hc,if_neg (by simp;omega)]
theorem Qqj (t:ByteArray):∀ (d a:Nat) (acc:List UInt8),t.size - a=d->(∀ l c,cO t a acc=some (l,c)->nU (rest t a) acc=some (l,rest t c)/\c<=t.size)/\(cO t a acc=none->nU (rest t a) acc=none):=by
 intro d
 induction d using Nat.strongRecOn with
 | _ d ih =>
  intro a acc hd
  by_cases hl:a<t.size
  ·have hb:=QhO t a hl;rw [uS t a hl]
   by_cases hc:okB (t[a]).toNat=true
   ·rw [if_pos hc] at hb;have hs:cO t a acc=if (t[a]).toNat=34 then some (acc,a+1) else if (t[a]).toNat=92 then (match mm t (a+1) with
      | none=>none
      | some y=>if y=34∨y=92 then cO t (a+2) (acc ++ [UInt8.ofNat y]) else none) else cO t (a+1) (acc ++ [UInt8.ofNat (t[a]).toNat]):=by
     rw [cO];split
     ·rename_i h2;rw [hb] at h2;cases h2
     ·rename_i x h2;rw [hb] at h2;cases h2;rfl
    rw [hs,nU.eq_def];dsimp only;rw [if_pos hc]
    by_cases h1:(t[a]).toNat=34
    ·rw [if_pos h1,if_pos h1];exact ⟨fun l c e=>by cases e;exact ⟨rfl,hl⟩,fun e=>by cases e⟩
    ·rw [if_neg h1,if_neg h1]
     by_cases h2:(t[a]).toNat=92
     ·rw [if_pos h2,if_pos h2]
      by_cases hl2:a+1<t.size
      ·rw [uS t (a+1) hl2];have hb2:=QhO t (a+1) hl2;dsimp only
       by_cases hy:(t[a+1]).toNat=34∨(t[a+1]).toNat=92
       ·have hc2:okB (t[a+1]).toNat=true:=by unfold okB;simp;omega
        rw [hb2,if_pos hc2,if_pos hy];dsimp only;rw [if_pos hy,Qn9];exact ih (t.size - (a+2)) (by omega) (a+2) _ rfl
       ·rw [if_neg hy];refine ⟨fun l c e=>?_,fun _=>rfl⟩;rw [hb2] at e
        split at e
        ·cases e
        ·rename_i y Ed
         split at Ed
         ·cases Ed;rw [if_neg hy] at e;cases e
         ·cases Ed
      ·have hb2:mm t (a+1)=none:=by unfold mm;rw [dif_neg hl2]
       rw [GH t (a+1) hl2,hb2];exact ⟨fun l c e=>(by cases e),fun _=>rfl⟩
     ·rw [if_neg h2,if_neg h2,Qn9];exact ih (t.size - (a+1)) (by omega) (a+1) _ rfl
   ·rw [if_neg hc] at hb;have hs:cO t a acc=none:=by
     rw [cO];split
     ·rfl
     ·rename_i x h2;rw [hb] at h2;cases h2
    rw [hs,nU.eq_def];dsimp only;rw [if_neg hc];exact ⟨fun l c e=>(by cases e),fun _=>rfl⟩
  ·have hb:mm t a=none:=by unfold mm;rw [dif_neg hl]
   have hs:cO t a acc=none:=by
    rw [cO];split
    ·rfl
    ·rename_i x h2;rw [hb] at h2;cases h2
   rw [hs,GH t a hl];exact ⟨fun l c e=>(by cases e),fun _=>rfl⟩
theorem Qqk (t:ByteArray) (p:Nat):∀ (d a n:Nat),t.size - a=d->p<=a->a<=t.size->(∀ m c,dv t p a n=some (m,c)->lg (rest t a) (a - p) n=some (m,rest t c)/\c<=t.size)/\(dv t p a n=none->lg (rest t a) (a - p) n=none):=by
 intro d
 induction d using Nat.strongRecOn with
 | _ d ih =>
  intro a n hd hp ha;rw [dv]
  by_cases hl:a<t.size
  ·rw [dif_pos hl,uS t a hl,lg]
   by_cases hg:dL (t[a]).toNat=true
   ·rw [if_pos hg,if_pos hg]
    by_cases hz:(p<a/\n=0)∨¬ a<p+9
    ·rw [if_pos hz,if_pos (by omega)];exact ⟨fun m c e=>(by cases e),fun _=>rfl⟩
    ·rw [if_neg hz,if_neg (by omega),show a - p+1=a+1 - p by omega];exact ih (t.size - (a+1)) (by omega) (a+1) _ rfl (by omega) (by omega)
   ·rw [if_neg hg,if_neg hg];exact ⟨fun m c e=>by cases e;exact ⟨by rw [uS t _ hl],ha⟩,fun e=>by cases e⟩
  ·rw [dif_neg hl,GH t a hl,lg];exact ⟨fun m c e=>by cases e;exact ⟨by rw [GH t _ hl],ha⟩,fun e=>by cases e⟩
theorem Pg (t:ByteArray) (a:Nat) (ha:a<=t.size) :
  (∀ k p n l c,bO t a = .tok k p n l c->eL (rest t a) = .tok k (rest t p) n l (rest t c)/\p<=t.size/\c<=t.size)/\(∀ p,bO t a = .bad p->eL (rest t a) = .bad (rest t p)/\p<=t.size):=by
 obtain ⟨h1,h2⟩:=QjB t a ha;unfold bO eL;rw [h1];generalize nN t a=q at h2;unfold Je
 by_cases hl:q<t.size
 ·rw [dif_pos hl,uS t q hl,Jp]
  by_cases hm:Ay (t[q]).toNat=true
  ·rw [if_pos hm,if_pos hm];refine ⟨fun k p n l c e=>?_,fun p e=>(by cases e)⟩
   cases e
   exact ⟨by rw [uS t _ hl],h2,hl⟩
  ·rw [if_neg hm,if_neg hm]
   by_cases hd:dL (t[q]).toNat=true
   ·rw [if_pos hd,if_pos hd];obtain ⟨n1,n2⟩:=Qqk t q _ q 0 rfl (Nat.le_refl _) h2;rw [Nat.sub_self,uS t q hl] at n1 n2
    cases hn:dv t q q 0 with
    | none =>
     rw [n2 hn];exact ⟨fun k p n l c e=>(by cases e),fun p e=>by cases e;exact ⟨by rw [uS t _ hl],h2⟩⟩
    | some r =>
     obtain ⟨m,c'⟩:=r;obtain ⟨n3,n4⟩:=n1 m c' hn;rw [n3];exact ⟨fun k p n l c e=>by cases e;exact ⟨by rw [uS t _ hl],h2,n4⟩,fun p e=>(by cases e)⟩
   ·rw [if_neg hd,if_neg hd]
    by_cases wY:(t[q]).toNat=34
    ·rw [if_pos wY,if_pos wY];obtain ⟨s1,s2⟩:=Qqj t _ (q+1) [] rfl
     cases hn:cO t (q+1) [] with
     | none =>
      rw [s2 hn];exact ⟨fun k p n l c e=>(by cases e),fun p e=>by cases e;exact ⟨by rw [uS t _ hl],h2⟩⟩
     | some r =>
      obtain ⟨m,c'⟩:=r;obtain ⟨n3,n4⟩:=s1 m c' hn;rw [n3];exact ⟨fun k p n l c e=>by cases e;exact ⟨by rw [uS t _ hl],h2,n4⟩,fun p e=>(by cases e)⟩
    ·rw [if_neg wY,if_neg wY];exact ⟨fun k p n l c e=>(by cases e),fun p e=>by cases e;exact ⟨by rw [uS t _ hl],h2⟩⟩
 ·rw [dif_neg hl,GH t q hl,Jp];refine ⟨fun k p n l c e=>?_,fun p e=>(by cases e)⟩
  cases e
  exact ⟨by rw [GH t _ hl],h2,h2⟩
theorem Qql (t:ByteArray):qy (fun a=>a<=t.size) (rest t) (bO t) eL where
 map a h:=by
  cases e:bO t a with
  | bad p=>exact ((Pg t a h).2 p e).1
  | tok k p n l c=>exact ((Pg t a h).1 k p n l c e).1
 tok a k p n l c h e:=((Pg t a h).1 k p n l c e).2
 bad a p h e:=((Pg t a h).2 p e).2
def Blank (b:List UInt8):Prop:=∀ x∈b,zt x.toNat=true
theorem Blank.nil:Blank []:=fun _ h=>by cases h
theorem QhP:∀ (b r:List UInt8),Blank b->Cn (b++r)=Cn r
 | [],_,_=>rfl
 | x::b,r,h=>by
  rw [List.cons_append,Cn,if_pos (h x (List.mem_cons_self ..))];exact QhP b r fun y hy=>h y (List.mem_cons_of_mem _ hy)
theorem zv {b:List UInt8} (r:List UInt8) (h:Blank b):eL (b++r)=eL r:=by unfold eL;rw [QhP b r h]
theorem TH {x:UInt8} (r:List UInt8) (h:zt x.toNat=false):Cn (x::r)=x::r:=by rw [Cn,h];rfl
theorem Jq (k:UInt8) (r:List UInt8) (h:Ay k.toNat=true) (hs:zt k.toNat=false):eL (k::r) = .tok k.toNat (k::r) 0 [] r:=by
 unfold eL;rw [TH r hs,Jp,if_pos h]
def tH (s:List UInt8):Prop:=∀ x∈s,okB x.toNat=true/\x.toNat≠34/\x.toNat≠92
theorem Qoa:∀ (s r acc:List UInt8),tH s->nU (s++34::r) acc=some (acc++s,r)
 | [],r,acc,_=>by
  rw [List.nil_append,nU.eq_def];dsimp only;rw [if_pos (by decide),if_pos (by decide),List.append_nil]
 | x::s,r,acc,h=>by
  obtain ⟨h1,h2,h3⟩:=h x (List.mem_cons_self ..);rw [List.cons_append,nU.eq_def];dsimp only;rw [if_pos h1,if_neg h2,if_neg h3,Qoa s r _ fun y hy=>h y (List.mem_cons_of_mem _ hy),List.append_assoc];rfl
theorem TI (s r:List UInt8) (h:tH s):eL (34::(s++34::r)) = .tok 34 (34::(s++34::r)) 0 s r:=by
 unfold eL;rw [TH _ (by decide),Jp,if_neg (by decide),if_neg (by decide),if_pos (by decide),Qoa s r [] h];rfl
def GI (r:List UInt8):Prop:=∀ x,r.head? = some x->dL x.toNat=false
theorem TJ {r:List UInt8} (h:GI r) (d n:Nat):lg r d n=some (n,r):=by
 cases r with
 | nil=>rfl
 | cons x r=>rw [lg,if_neg (by rw [h x rfl];decide)]
theorem QjC (k:Nat) (h:k<10):(UInt8.ofNat (48+k)).toNat=48+k:=by
 rw [UInt8.toNat_ofNat'];omega
theorem Qlx (k:Nat) (h:k<10):dL (48+k)=true:=by unfold dL;simp;omega
theorem Jr (k:Nat) (h:k<10) (r:List UInt8) (d n:Nat) (hz:¬ ((0<d/\n=0)∨¬ d<9)):lg (UInt8.ofNat (48+k)::r) d n=lg r (d+1) (10 * n+k):=by
 rw [lg,QjC k h,if_pos (Qlx k h),if_neg hz,show 48+k - 48=k by omega]
theorem Co (n:Nat) (h:n<10):Lib.decDigits n = [UInt8.ofNat (48+n)]:=by rw [Lib.decDigits,dif_pos h]
theorem GJ (n:Nat) (h:10<=n) (h2:n<100):Lib.decDigits n = [UInt8.ofNat (48+n / 10),UInt8.ofNat (48+n % 10)]:=by
 rw [Lib.decDigits,dif_neg (by omega),Co _ (by omega)];rfl
theorem L3 (n:Nat) (h:100<=n) (h2:n<1000):Lib.decDigits n = [UInt8.ofNat (48+n / 10 / 10),UInt8.ofNat (48+n / 10 % 10),UInt8.ofNat (48+n % 10)]:=by
 rw [Lib.decDigits,dif_neg (by omega),GJ _ (by omega) (by omega)];rfl
theorem QsG (n:Nat) (h:n<=300) (r:List UInt8) (hr:GI r):lg (Lib.decDigits n++r) 0 0=some (n,r):=by
 rcases (show n<10∨(10<=n/\n<100)∨(100<=n/\n<1000) by omega) with h1|⟨h1,h2⟩|⟨h1,h2⟩
 ·rw [Co n h1,List.singleton_append,Jr n h1 _ _ _ (by omega),TJ hr];simp
 ·rw [GJ n h1 h2];simp only [List.cons_append,List.nil_append];rw [Jr _ (by omega) _ _ _ (by omega),Jr _ (by omega) _ _ _ (by omega),TJ hr];simp only [Option.some.injEq,Prod.mk.injEq,and_true];omega
 ·rw [L3 n h1 h2];simp only [List.cons_append,List.nil_append];rw [Jr _ (by omega) _ _ _ (by omega),Jr _ (by omega) _ _ _ (by omega),Jr _ (by omega) _ _ _ (by omega),TJ hr];simp only [Option.some.injEq,Prod.mk.injEq,and_true];omega
theorem Qqm (n:Nat) (h:n<=300):∃ k r,k<10/\Lib.decDigits n=UInt8.ofNat (48+k)::r:=by
 rcases (show n<10∨(10<=n/\n<100)∨(100<=n/\n<1000) by omega) with h1|⟨h1,h2⟩|⟨h1,h2⟩
 ·exact ⟨_,_,h1,Co n h1⟩
 ·exact ⟨_,_,by omega,GJ n h1 h2⟩
 ·exact ⟨_,_,by omega,L3 n h1 h2⟩
theorem Qly (n:Nat) (h:n<=300) (r:List UInt8) (hr:GI r):∃ p,eL (Lib.decDigits n++r) = .tok 48 p n [] r:=by
 have hn:=QsG n h r hr;obtain ⟨k,q,hk,hd⟩:=Qqm n h;rw [hd,List.cons_append] at hn ⊢;have ht:=QjC k hk;unfold eL;rw [TH _ (by rw [ht];unfold zt;simp;omega),Jp,ht,if_neg (by unfold Ay;simp;omega),if_pos (Qlx k hk),hn];exact ⟨_,rfl⟩
theorem Ph {b:List UInt8} (hb:Blank b) (k:UInt8) (r:List UInt8) (h:Ay k.toNat=true) (hs:zt k.toNat=false):lB eL (b++k::r) k.toNat = .ok () r:=by
 unfold lB;rw [zv _ hb,Jq k r h hs];dsimp only;rw [if_pos rfl]
def memT (b1 key b2:List UInt8) (r:List UInt8):List UInt8:=b1++34::(key++34::(b2++58::r))
theorem L4 {σ:Type} (val:ByteArray->σ->List UInt8->RG (List UInt8) σ) (first:Bool) (d i:Nat) (missing:List ByteArray) (st:σ) (c b1 key b2 r:List UInt8) (hc:Blank c) (h1:Blank b1) (h2:Blank b2) (hk:tH key)
  (hi:Lib.idxOfS missing ⟨key.toArray⟩=(i:Int)) :
  dU eL val first (d+1) missing st ((if first then [] else c ++ [44])++memT b1 key b2 r)=(match val ⟨key.toArray⟩ st r with|.ok ju c3=>dU eL val false d (missing.eraseIdx i) ju c3|.bad p=>.bad p):=by
 have hf:(if first then .ok () ((if first then [] else c ++ [44])++memT b1 key b2 r) else lB eL ((if first then [] else c ++ [44])++memT b1 key b2 r) 44:RG (List UInt8) Unit) = .ok () (memT b1 key b2 r):=by
  cases first with
  | true=>rfl
  | false =>
   simp only [Bool.false_eq_true,if_false,List.append_assoc,List.singleton_append];exact Ph hc 44 _ (by decide) (by decide)
 conv=>lhs;unfold dU
 rw [hf];dsimp only;unfold memT;rw [zv _ h1,TI key _ hk];dsimp only;rw [if_pos ⟨rfl,by rw [hi];omega⟩,show (58:Nat)=(58:UInt8).toNat from rfl,Ph h2 58 r (by decide) (by decide),hi];dsimp only;rw [Int.toNat_natCast]
 cases val ⟨key.toArray⟩ st r<;>rfl
theorem Qob {σ:Type} (val:ByteArray->σ->List UInt8->RG (List UInt8) σ) (first:Bool) (missing:List ByteArray) (st:σ) (c r:List UInt8) (hc:Blank c):dU eL val first 0 missing st (c++125::r) = .ok st r:=by
 unfold dU;rw [show (125:Nat)=(125:UInt8).toNat from rfl,Ph hc 125 r (by decide) (by decide)]
structure Good (e:En):Prop where
 tag:eP e.name=true
 dig:fE e.dig=true
 size:e.size<=300
theorem AH (s:ByteArray):(⟨s.data.toList.toArray⟩ : ByteArray)=s:=by cases s;rfl
theorem Qoc {s:ByteArray} (h:eP s=true):tH s.data.toList:=by
 unfold eP at h;simp only [Bool.and_eq_true,List.all_eq_true] at h;intro x hx;have:=h.2 x hx;unfold uE BN dL at this;unfold okB;simp at this ⊢;omega
theorem Qod {s:ByteArray} (h:fE s=true):tH s.data.toList:=by
 unfold fE at h;simp only [Bool.and_eq_true,List.all_eq_true] at h;intro x hx;have:=h.2 x hx;unfold im dL at this;unfold okB;simp at this ⊢;omega
theorem QsH (last:ByteArray) (e:En) (n:ByteArray) (b r:List UInt8) (hb:Blank b) (h:eP n=true) (hl:leB n last=false):eH eL last il e (b++34::(n.data.toList++34::r)) = .ok { e with name:=n } r:=by
 unfold eH my;rw [if_pos rfl,zv _ hb,TI _ _ (Qoc h)];dsimp only;rw [AH,if_pos ⟨rfl,h,hl⟩]
theorem QsI (last:ByteArray) (e:En) (n:ByteArray) (b r:List UInt8) (hb:Blank b) (h:fE n=true):eH eL last rP e (b++34::(n.data.toList++34::r)) = .ok { e with dig:=n } r:=by
 unfold eH xU;rw [if_neg (by decide),if_pos rfl,zv _ hb,TI _ _ (Qod h)];dsimp only;rw [AH,if_pos ⟨rfl,h⟩]
theorem Qqn (last:ByteArray) (e:En) (n:Nat) (b r:List UInt8) (hb:Blank b) (h:n<=300) (hr:GI r):eH eL last rQ e (b++(Lib.decDigits n++r)) = .ok { e with size:=n } r:=by
 obtain ⟨p,hp⟩:=Qly n h r hr;unfold eH ye;rw [if_neg (by decide),if_neg (by decide),if_pos rfl,zv _ hb,hp];dsimp only;rw [if_pos ⟨rfl,h⟩]
def Reads (e:En) (x:List UInt8):Prop:=∀ (last:ByteArray) (r:List UInt8),leB e.name last=false->∃ p n l c,eL (x++r) = .tok 123 p n l c/\wS eL 123 p last c = .ok e r
structure Bl where
 a:List UInt8
 b:List UInt8
 c:List UInt8
 d:List UInt8
structure Bl.Ok (x:Bl):Prop where
 a:Blank x.a
 b:Blank x.b
 c:Blank x.c
 d:Blank x.d
def qB (x:Bl) (e:En) (r:List UInt8):List UInt8:=memT x.a il.data.toList x.b (x.c++34::(e.name.data.toList++34::(x.d++r)))
def nM (x:Bl) (e:En) (r:List UInt8):List UInt8:=memT x.a rP.data.toList x.b (x.c++34::(e.dig.data.toList++34::(x.d++r)))
def kU (x:Bl) (e:En) (r:List UInt8):List UInt8:=memT x.a rQ.data.toList x.b (x.c++(Lib.decDigits e.size++(x.d++r)))
theorem QgG {b:List UInt8} (hb:Blank b) {x:UInt8} (r:List UInt8) (hx:dL x.toNat=false):GI (b++x::r):=by
 intro y hy
 cases b with
 | nil=>simp at hy;subst hy;exact hx
 | cons z b =>
  simp at hy;subst hy;have:=hb z (List.mem_cons_self ..);unfold zt at this;unfold dL;simp at this ⊢;omega
theorem Quo:tH il.data.toList:=by unfold tH;decide
theorem Qoe:tH rP.data.toList:=by unfold tH;decide
theorem lC:tH rQ.data.toList:=by unfold tH;decide
theorem QmK:tH sQ.data.toList:=by unfold tH;decide
theorem QsJ:tH uF.data.toList:=by unfold tH;decide
theorem Qup (last:ByteArray) (first:Bool) (d i:Nat) (missing:List ByteArray) (st e:En) (x:Bl) (cb r:List UInt8) (hx:x.Ok) (hc:Blank cb) (hi:Lib.idxOfS missing il=(i:Int)) (hg:Good e) (hl:leB e.name last=false) :
  dU eL (eH eL last) first (d+1) missing st ((if first then [] else cb ++ [44])++qB x e r)=dU eL (eH eL last) false d (missing.eraseIdx i) { st with name:=e.name } (x.d++r):=by
 unfold qB;rw [L4 _ first d i missing st cb _ _ _ _ hc hx.a hx.b Quo (by rw [AH];exact hi),AH,QsH last st e.name _ _ hx.c hg.tag hl]
theorem Quq (last:ByteArray) (first:Bool) (d i:Nat) (missing:List ByteArray) (st e:En) (x:Bl) (cb r:List UInt8) (hx:x.Ok) (hc:Blank cb) (hi:Lib.idxOfS missing rP=(i:Int)) (hg:Good e) :
  dU eL (eH eL last) first (d+1) missing st ((if first then [] else cb ++ [44])++nM x e r)=dU eL (eH eL last) false d (missing.eraseIdx i) { st with dig:=e.dig } (x.d++r):=by
 unfold nM;rw [L4 _ first d i missing st cb _ _ _ _ hc hx.a hx.b Qoe (by rw [AH];exact hi),AH,QsI last st e.dig _ _ hx.c hg.dig]
theorem Qur (last:ByteArray) (first:Bool) (d i:Nat) (missing:List ByteArray) (st e:En) (x:Bl) (cb r:List UInt8) (hx:x.Ok) (hc:Blank cb) (hi:Lib.idxOfS missing rQ=(i:Int)) (hg:Good e) (hr:GI (x.d++r)) :
  dU eL (eH eL last) first (d+1) missing st ((if first then [] else cb ++ [44])++kU x e r)=dU eL (eH eL last) false d (missing.eraseIdx i) { st with size:=e.size } (x.d++r):=by
 unfold kU;rw [L4 _ first d i missing st cb _ _ _ _ hc hx.a hx.b lC (by rw [AH];exact hi),AH,Qqn last st e.size _ _ hx.c hg.size hr]
theorem Qqo {e:En} {x:List UInt8} (b y:List UInt8) (hb:Blank b) (hx:x=b++123::y) (h:∀ (last:ByteArray) (r:List UInt8),leB e.name last=false->dU eL (eH eL last) true 3 [il,rP,rQ] I6 (y++r) = .ok e r):Reads e x:=by
 intro last r hl;refine ⟨123::(y++r),0,[],y++r,?_,?_⟩
 ·rw [hx,List.append_assoc,zv _ hb,List.cons_append];exact Jq 123 _ (by decide) (by decide)
 ·unfold wS;rw [if_pos rfl];exact h last r hl
theorem Qof (e:En) (hg:Good e) (b:List UInt8) (x y z:Bl) (hb:Blank b) (hx:x.Ok) (hy:y.Ok) (hz:z.Ok):Reads e (b++123::qB x e (44::nM y e (44::kU z e [125]))):=by
 refine Qqo b _ hb rfl fun last r hl=>?_
 have e1:qB x e (44::nM y e (44::kU z e [125]))++r=(if true then [] else ([]:List UInt8) ++ [44])++qB x e (44::nM y e (44::kU z e (125::r))):=by simp [qB,nM,kU,memT]
 rw [e1,Qup last true 2 0 _ _ e x _ _ hx Blank.nil (by decide) hg hl];have e2:x.d++44::nM y e (44::kU z e (125::r))=(if false then [] else x.d ++ [44])++nM y e (44::kU z e (125::r)):=by simp
 rw [e2,Quq last false 1 0 _ _ e y _ _ hy hx.d (by decide) hg];have e3:y.d++44::kU z e (125::r)=(if false then [] else y.d ++ [44])++kU z e (125::r):=by simp
 rw [e3,Qur last false 0 0 _ _ e z _ _ hz hy.d (by decide) hg (QgG hz.d _ (by decide)),Qob _ _ _ _ _ _ hz.d]
def uI:List (List UInt8)->List UInt8
 | []=>[]
 | [x]=>x
 | x::y::l=>x++44::uI (y::l)
def Jb:ByteArray->List En->Prop
 | _,[]=>True
 | last,e::l=>leB e.name last=false/\Jb e.name l
theorem QjD:∀ (es:List En) (xs:List (List UInt8)) (e:En) (x:List UInt8) (n:Nat) (acc:List En) (last:ByteArray) (b r:List UInt8),es.length=xs.length->(∀ i (h:i<es.length) (h2:i<xs.length),Reads es[i] xs[i])->Reads e x->Jb last (e::es)->es.length<=n->Blank b ->
  ∃ p nn l c,eL (uI (x::xs)++(b++93::r)) = .tok 123 p nn l c/\qq eL n acc last 123 p c = .ok (acc++e::es) r
 | [],[],e,x,n,acc,last,b,r,_,_,hx,hr,_,hb=>by
  obtain ⟨p,nn,l,c,h1,h2⟩:=hx last (b++93::r) hr.1;refine ⟨p,nn,l,c,h1,?_⟩;rw [qq.eq_def];dsimp only;rw [h2];dsimp only;rw [zv _ hb,Jq 93 r (by decide) (by decide)];dsimp only;rw [if_pos (by decide)]
 | e2::es,x2::xs,e,x,n,acc,last,b,r,hl,hs,hx,hr,hn,hb=>by
  obtain ⟨m,rfl⟩ : ∃ m,n=m+1:=⟨n - 1,by simp at hn;omega⟩;obtain ⟨p2,nn2,l2,c2,i1,i2⟩:=QjD es xs e2 x2 m (acc ++ [e]) e.name b r (by simpa using hl) (fun i h h2=>hs (i+1) (by simpa using h) (by simpa using h2)) (hs 0 (by simp) (by simp)) hr.2 (by simp at hn;omega) hb;obtain ⟨p,nn,l,c,h1,h2⟩:=hx last (44::(uI (x2::xs)++(b++93::r))) hr.1;refine ⟨p,nn,l,c,?_,?_⟩
  ·rw [uI,List.append_assoc,List.cons_append];exact h1
  ·rw [qq.eq_def];dsimp only;rw [h2];dsimp only;rw [Jq 44 _ (by decide) (by decide)];dsimp only;rw [if_neg (by decide),if_pos (by decide),i1];dsimp only;rw [i2,List.append_assoc];rfl
theorem QjE (es:List En) (xs:List (List UInt8)) (a b r:List UInt8) (hl:es.length=xs.length) (hs:∀ i (h:i<es.length) (h2:i<xs.length),Reads es[i] xs[i]) (hr:Jb ⟨#[]⟩ es) (hn:es.length<=8) (ha:Blank a) (hb:Blank b) :
  xZ eL (a++91::(uI xs++(b++93::r))) = .ok es r:=by
 unfold xZ;rw [show (91:Nat)=(91:UInt8).toNat from rfl,Ph ha 91 _ (by decide) (by decide)];dsimp only
 cases es with
 | nil =>
  cases xs with
  | nil =>
   rw [uI,List.nil_append,zv _ hb,Jq 93 r (by decide) (by decide)];dsimp only;rw [if_pos (by decide)]
  | cons _ _=>simp at hl
 | cons e es =>
  cases xs with
  | nil=>simp at hl
  | cons x xs =>
   obtain ⟨p,nn,l,c,h1,h2⟩:=QjD es xs e x 7 [] ⟨#[]⟩ b r (by simpa using hl) (fun i h h2=>hs (i+1) (by simpa using h) (by simpa using h2)) (hs 0 (by simp) (by simp)) hr (by simp at hn;omega) hb;rw [h1];dsimp only;rw [if_neg (by decide),h2];rfl
def vG (x:Bl) (r:List UInt8):List UInt8:=memT x.a sQ.data.toList x.b (x.c++49::(x.d++r))
def DN (x:Bl) (b:List UInt8) (xs:List (List UInt8)) (r:List UInt8):List UInt8:=memT x.a uF.data.toList x.b (x.c++91::(uI xs++(b++93::(x.d++r))))
theorem QkD (st:List En) (b r:List UInt8) (hb:Blank b) (hr:GI r):kQ eL sQ st (b++49::r) = .ok st r:=by
 obtain ⟨p,hp⟩:=Qly 1 (by omega) r hr;unfold kQ yn;rw [Co 1 (by omega),List.singleton_append] at hp;rw [if_pos rfl,zv _ hb,show (49:UInt8)=UInt8.ofNat (48+1) from rfl,hp];rfl
theorem Qqp (es:List En) (xs:List (List UInt8)) (a b r:List UInt8) (x y:Bl) (hl:es.length=xs.length) (hs:∀ i (h:i<es.length) (h2:i<xs.length),Reads es[i] xs[i]) (hr:Jb ⟨#[]⟩ es) (hn:es.length<=8) (ha:Blank a) (hb:Blank b) (hx:x.Ok) (hy:y.Ok) :
  wV eL (a++123::vG x (44::DN y b xs (125::r))) = .ok es r:=by
 unfold wV;rw [zv _ ha,Jq 123 _ (by decide) (by decide)];dsimp only;rw [if_pos (by decide)];have e1:vG x (44::DN y b xs (125::r))=(if true then [] else ([]:List UInt8) ++ [44])++vG x (44::DN y b xs (125::r)):=by simp
 rw [e1,vG,L4 _ true 1 0 _ _ _ _ _ _ _ Blank.nil hx.a hx.b QmK (by decide),AH,QkD _ _ _ hx.c (QgG hx.d _ (by decide))];dsimp only;have e2:x.d++44::DN y b xs (125::r)=(if false then [] else x.d ++ [44])++DN y b xs (125::r):=by simp
 rw [e2,DN,L4 _ false 0 0 _ _ _ _ _ _ _ hx.d hy.a hy.b QsJ (by decide),AH];unfold kQ;rw [if_neg (by decide),if_pos rfl,QjE es xs _ _ _ hl hs hr hn hy.c hb];dsimp only;rw [Qob _ _ _ _ _ _ hy.d]
theorem Qqq {s r:List UInt8} {es:List En} (h:wV eL s = .ok es r) (hr:Blank r):∃ c,uG eL s = .ok es c:=by
 unfold uG;rw [h];dsimp only;have:=zv [] hr;rw [List.append_nil] at this;rw [this];exact ⟨_,rfl⟩
end Go.Proofs.YtncigfibncmioaaGreatDoor
