/-
  PROVED HERE: a store's two maps: what they hold, value for value; the store whole on its disk; no walk.
-/
import Derived.DeepKeys4
import Derived.Test.YtncigfibncmioaaGreatDoorStGoOn
set_option maxHeartbeats 2000000
set_option maxRecDepth 100000
namespace Go.Proofs.YtncigfibncmioaaGreatDoor
open Go.RowKit
def fG (v:Value):Option (DataW Value × List MemPlace):=some (.held v,[])
def CM (w:World) (b n:Nat) (D:DataW Value):Prop:=w.ownsMap Tryz.prog 117 fG b n D
def TM (w:World) (b n:Nat) (D:DataW Value):Prop:=w.ownsMap Tryz.prog 9 fG b n D
theorem rY:Maps.Keyed Tryz.prog 117:=Maps.Keyed.of_law (deep_law (P:=Tryz.prog) (m:=2) (by decide) (by kernel_rfl) (by kernel_rfl) (by kernel_rfl))
theorem tZ:Maps.Keyed Tryz.prog 9:=Maps.string_keyed Tryz.underlying9
theorem jP {w w':World} {k:TypeId} {b n:Nat} {D:DataW Value} (h:w.ownsMap Tryz.prog k fG b n D) (hb:w'.heap[b]? = w.heap[b]?):w'.ownsMap Tryz.prog k fG b n D:=by
 obtain ⟨es,clock,h1,F,hs,hD⟩:=h;exact ⟨es,clock,hb.trans h1,F,hs,hD⟩
structure aI (w:World) (sb:Nat) (s:ai) (cb tb nc nt:Nat) (Dc Dt:DataW Value):Prop where
 ay:s.In w
 gl:Gl w
 low:fN s
 blk:w.heap[sb]? = some (.cells #[.pointer (some ⟨s.b,0,none⟩),.map (some cb),.map (some tb)] 159 (0,0))
 cm:CM w cb nc Dc
 tm:TM w tb nt Dt
 sk:¬ s.own cb
 sq:¬ s.own tb
 rJ:¬ gj cb
 vq:¬ gj tb
 rK:¬ gj sb
 ne:cb≠tb
theorem aI.on {w:World} {sb:Nat} {s:ai} {cb tb nc nt:Nat} {Dc Dt:DataW Value} (h:aI w sb s cb tb nc nt Dc Dt):On w sb s:=⟨⟨_,_,h.blk⟩,h.ay,h.gl,h.low⟩
theorem aI.go {w w':World} {sb:Nat} {s s':ai} {cb tb nc nt:Nat} {Dc Dt:DataW Value} (h:aI w sb s cb tb nc nt Dc Dt) (hg:aC s s' w w'):aI w' sb s' cb tb nc nt Dc Dt:=by
 have ho:=h.on.go hg;refine ⟨hg.ay,ho.gl,ho.low,?_,jP h.cm (hg.gr.block _ h.cm.lt h.sk),jP h.tm (hg.gr.block _ h.tm.lt h.sq),fun e=>?_,fun e=>?_,h.rJ,h.vq,h.rK,h.ne⟩
 ·rw [hg.b];exact hg.keeps h.ay h.blk (by decide) (by decide) (by decide) (by decide)
 ·rcases hg.own _ e with e|e
  ·exact h.sk e
  ·have:=h.cm.lt;omega
 ·rcases hg.own _ e with e|e
  ·exact h.sq e
  ·have:=h.tm.lt;omega
theorem aI.later {w w':World} {sb:Nat} {s:ai} {cb tb nc nt:Nat} {Dc Dt:DataW Value} (h:aI w sb s cb tb nc nt Dc Dt) (hb:Below w.heap.size w w'):aI w' sb s cb tb nc nt Dc Dt:=h.go (aC.refl h.ay hb)
theorem ai.In.typed {s:ai} {w:World} (h:s.In w) {k:Nat} (hk:s.own k) {cur:Array Value} {T:TypeId} {fr:Nat × Nat} (hc:w.heap[k]? = some (.cells cur T fr)):T=150∨T=214∨T=154∨T=5:=by
 have hm:∀ {b:Nat} {l:List DE},PM Tryz.prog 9 w b l->k≠b:=by
  rintro b l ⟨es,clock,h1,_⟩ rfl;rw [hc] at h1
  cases h1
 have hT:∀ {cur':Array Value} {T':TypeId} {fr':Nat × Nat},w.heap[k]? = some (.cells cur' T' fr')->T=T':=by
  intro cur' T' fr' h';rw [hc] at h'
  cases h'
  rfl
 rcases hk with rfl|rfl|rfl|e|e|⟨f,hf,e⟩
 ·exact .inl (hT h.is.blk)
 ·exact absurd rfl (hm h.is.now)
 ·exact absurd rfl (hm h.is.safe)
 ·obtain ⟨c,h1⟩:=eO h.is.aw k e;exact .inr (.inl (hT h1))
 ·exact .inr (.inr (.inl (hT (h.fds k e).blk)))
 ·obtain ⟨c,h1⟩:=eO (h.fds f hf).row k e;exact .inr (.inr (.inr (hT h1)))
theorem aI.vg {w:World} {sb:Nat} {s:ai} {cb tb nc nt t2 n2:Nat} {Dc Dt D2:DataW Value} (h:aI w sb s cb tb nc nt Dc Dt) (ht:TM w t2 n2 D2) (ho:¬ s.own t2) (hG:¬ gj t2) (hc:cb≠t2):aI (w.setCell ⟨sb,2,none⟩ (.map (some t2))) sb s cb t2 nc n2 Dc D2:=by
 have hne:∀ {x n:Nat} {k:TypeId} {D:DataW Value},w.ownsMap Tryz.prog k fG x n D->(w.setCell ⟨sb,2,none⟩ (.map (some t2))).heap[x]? = w.heap[x]?:=by
  rintro x n k D ⟨es,clock,h1,_⟩;refine heap_setCell_other _ _ _ _ (fun e=>?_);have e:x=sb:=e;subst e;rw [h.blk] at h1
  cases h1
 refine ⟨h.ay.same (fun k hk=>heap_setCell_other _ _ _ _ (fun e=>?_)),h.gl.same (by simp) (fun k hk=>heap_setCell_other _ _ _ _ (fun e=>?_)),h.low,?_,jP h.cm (hne h.cm),jP ht (hne ht),h.sk,ho,h.rJ,hG,h.rK,hc⟩
 ·have e:k=sb:=e;subst e
  rcases h.ay.typed hk h.blk with h3|h3|h3|h3<;>exact absurd h3 (by decide)
 ·have e:k=sb:=e;subst e;exact h.rK hk
 ·rw [heap_setCell_same _ sb 2 _ _ _ h.blk];rfl
def OpQ (D:DS):Prop:=∃ t c,cr D bB=some t/\t.size<=2000/\kT t = .ok [] c/\(∀ e∈D.R.now,jg e.path=false)/\cr D (fk 1)=none/\cr D cS=none/\(cr D bK).isSome=true
def KS (D:DS) (k:Int) (D':DS):Prop:=(cr D bK=none/\RH D k D')∨(OpQ D/\vC D k D')
theorem PG (w:World) (b:Nat):∃ W,W=((w.alloc (.map #[] 0)).alloc (.map #[] 0)).alloc (.cells #[.pointer (some ⟨b,0,none⟩),.map (some w.heap.size),.map (some (w.heap.size+1))] 159)/\Below w.heap.size w W/\W.heap.size=w.heap.size+3 /\
  CM W w.heap.size 0 (.map [])/\TM W (w.heap.size+1) 0 (.map [])/\W.heap[w.heap.size+1+1]? = some (.cells #[.pointer (some ⟨b,0,none⟩),.map (some w.heap.size),.map (some (w.heap.size+1))] 159 (0,0)):=by
 refine ⟨_,rfl,Al _ _ _ _,by simp,?_,?_,?_⟩
 ·exact ((World.ownsMap_made w _ _ _).alloc _).alloc _
 ·have:=(World.ownsMap_made (w.alloc (.map #[] 0)) Tryz.prog 9 fG).alloc (.cells #[.pointer (some ⟨b,0,none⟩),.map (some w.heap.size),.map (some (w.heap.size+1))] 159);rwa [size_alloc] at this
 ·have:=heap_alloc_new ((w.alloc (.map #[] 0)).alloc (.map #[] 0)) (.cells #[.pointer (some ⟨b,0,none⟩),.map (some w.heap.size),.map (some (w.heap.size+1))] 159);rwa [size_alloc,size_alloc] at this
theorem aI.put {W:World} {sb:Nat} {s:ai} {cb tb nc nt b i:Nat} {Dc Dt:DataW Value} {cur:Array Value} {T:TypeId} {v:Value} (h:aI W sb s cb tb nc nt Dc Dt) (hb:W.heap[b]? = some (.cells cur T (0,0))) (h0:T≠159) (cJ:s.In (W.setCell ⟨b,i,none⟩ v)) (hG:¬ gj b) :
  aI (W.setCell ⟨b,i,none⟩ v) sb s cb tb nc nt Dc Dt:=by
 have hne:∀ {x n:Nat} {k:TypeId} {D:DataW Value},W.ownsMap Tryz.prog k fG x n D->x≠b:=by
  rintro x n k D ⟨es,clock,h1,_⟩ rfl;rw [hb] at h1
  cases h1
 refine ⟨cJ,h.gl.same (by simp) (fun k hk=>heap_setCell_other _ _ _ _ (fun e=>?_)),h.low,(heap_setCell_other _ _ _ _ (by simpa using ja h.blk hb (fun e=>h0 e.symm))).trans h.blk,jP h.cm (heap_setCell_other _ _ _ _ (hne h.cm)),jP h.tm (heap_setCell_other _ _ _ _ (hne h.tm)),h.sk,h.sq,h.rJ,h.vq,h.rK,h.ne⟩;have e:k=b:=e;subst e;exact hG hk
theorem bR.put {W:World} {ev v:Value} {k:Int} {b i:Nat} {cur:Array Value} {T:TypeId} (h:bR W ev k) (hb:W.heap[b]? = some (.cells cur T (0,0))) (hT:T≠167):bR (W.setCell ⟨b,i,none⟩ v) ev k:=by
 rcases h with h|⟨h0,sv,nm,h1,h2⟩
 ·exact .inl h
 ·exact .inr ⟨h0,sv,nm,h1,(heap_setCell_other _ _ _ _ (by simpa using ja h2 hb (fun e=>hT e.symm))).trans h2⟩
theorem IW {w:World} {ev:Value} {k:Int} (h:bR w ev k) (hg:w.cell? ⟨0,0,none⟩=some lI):Calls Tryz.prog 51 #[ev] w fun e w'=>e = .returned (.int .i64 k)/\Below w.heap.size w w':=by
 rcases h with ⟨rfl,rfl⟩|⟨_,h⟩
 ·exact Xz w
 ·exact XA ev k w h hg
theorem Qnl (W:World) (T1 T2:TypeId) (a b:Value):∃ X,X=(W.alloc (.cells #[a] T1)).alloc (.cells #[b] T2)/\Below W.heap.size W X/\X.heap[W.heap.size]? = some (.cells #[a] T1 (0,0))/\X.heap[W.heap.size+1]? = some (.cells #[b] T2 (0,0)):=by
 refine ⟨_,rfl,((Below.refl _ _).alloc (Nat.le_refl _) _).alloc (by rw [size_alloc];omega) _,?_,?_⟩
 ·exact (Below.heap_alloc _ _ _ (by simp)).trans (heap_alloc_new _ _)
 ·have:=heap_alloc_new (W.alloc (.cells #[a] T1)) (.cells #[b] T2);rwa [size_alloc] at this
def ej (w:World) (xb sb:Nat):Prop:=w.heap[xb]? = some (.cells #[.int .i32 0,.int .u32 0,.pointer (some ⟨sb,0,none⟩)] 108 (0,0))
def p0:ByteArray:=⟨#[98,101,115,105,100,101,47,48]⟩
def p1:ByteArray:=⟨#[98,101,115,105,100,101,47,49]⟩
def p2:ByteArray:=⟨#[98,101,115,105,100,101,47,50]⟩
theorem BJ:fk 0=p0:=by decide +kernel
theorem vB:fk 1=p1:=by decide +kernel
theorem Qt8:fk 2=p2:=by decide +kernel
def six:List ByteArray:=[p0,p1,p2,bB,bo,bK]
theorem RL {p:ByteArray} (h:p∈six):aK p=true:=by
 have:∀ p∈six,aK p=true:=by decide +kernel
 exact this p h
def jr (D:DS) (c:CH):DS:=⟨dz.wrote { D.R with now:=cC D.R.now c,aw:=D.R.aw ++ [c] },D.fs,D.fd⟩
def uD (D:DS) (f:Nat) (x:ByteArray × Int):DS:=⟨D.R.wrote,D.fs,cB D.fd f x⟩
def fQ (D:DS) (p dt:ByteArray) (f:Nat):DS:=⟨dz.wrote { D.R with now:=cC D.R.now ⟨⟨#[]⟩,p,f⟩,aw:=D.R.aw ++ [⟨⟨#[]⟩,p,f⟩] },f::D.fs,cB D.fd f (dt,0)⟩
theorem OJ (D:DS) (c:CH):(jr D c).R.now=cC D.R.now c:=rfl
theorem RM (D:DS) (p dt:ByteArray) (f:Nat):(fQ D p dt f).R.now=cC D.R.now ⟨⟨#[]⟩,p,f⟩:=rfl
structure nL (D:DS):Prop where
 lf:LF bK D
 six:∀ m,∀ e∈fh D.R.safe (D.R.aw.take m),e.path∈six
 dS:∀ f∈D.fs,dA 36 (D.fd f)
 rise:bZ D.R.safe
 inv:Inv D.R
theorem Qkn {l:List DE} {bg too:ByteArray} {nb:Nat} {e:DE} (h:e∈mq l bg too nb):e∈l∨(e.path=too/\too≠⟨#[]⟩):=by
 unfold mq at h;have h1:∀ e,e∈(if bg=⟨#[]⟩ then l else dc bg none l true)->e∈l:=by
  intro e he
  split at he
  ·exact he
  ·rw [Ap] at he;exact (List.mem_filter.1 he).1
 revert h
 show e∈(if too=⟨#[]⟩ then (if bg=⟨#[]⟩ then l else dc bg none l true) else dc too (some nb) (if bg=⟨#[]⟩ then l else dc bg none l true) false)->_;intro h
 by_cases ht:too=⟨#[]⟩
 ·rw [if_pos ht] at h;exact .inl (h1 e h)
 ·rw [if_neg ht] at h
  rcases Ou h with h|h
  ·exact .inl (h1 e h.1)
  ·exact .inr ⟨h,ht⟩
theorem RN {D:DS} (h:∀ m,∀ e∈fh D.R.safe (D.R.aw.take m),e.path∈six) {c:CH} (hc:c.too=⟨#[]⟩∨c.too∈six) (m:Nat):∀ e∈fh D.R.safe ((D.R.aw ++ [c]).take m),e.path∈six:=by
 intro e he
 rcases Nat.lt_or_ge D.R.aw.length m with hm|hm
 ·rw [List.take_of_length_le (by simp;omega),Ro] at he
  rcases Qkn he with he|⟨he,hn⟩
  ·have:=h D.R.aw.length e;rw [List.take_length] at this;exact this he
  ·rw [he];exact hc.resolve_left hn
 ·rw [List.take_append_of_le_length hm] at he;exact h m e he
theorem RP {R:dz} (h:Inv R) (c:CH):Inv { R with now:=cC R.now c,aw:=R.aw ++ [c] }:=by
 rw [Ov h.kg c];exact h.push c
theorem nL.push {D:DS} (h:nL D) {c:CH} (hc:c.too≠bK) (hs:c.too=⟨#[]⟩∨c.too∈Go.Proofs.YtncigfibncmioaaGreatDoor.six):nL (jr D c) :=
 ⟨fun m=>h.lf.push h.rise (by decide) hc m,fun m=>RN h.six hs m,h.dS,h.rise,(RP h.inv c).wrote⟩
theorem nL.set {D:DS} (h:nL D) {f:Nat} {x:ByteArray × Int} (hx:dA 36 x):nL (uD D f x) :=
 ⟨h.lf,h.six,Rp h.dS (Nat.le_refl _) hx,h.rise,h.inv.wrote⟩
theorem nL.add {D:DS} (h:nL D) {p dt:ByteArray} {f:Nat} (hp:p≠bK) (hs:p∈Go.Proofs.YtncigfibncmioaaGreatDoor.six) (hd:dt.size<=36):nL (fQ D p dt f):=by
 refine ⟨fun m=>h.lf.push h.rise (by decide) (c:=⟨⟨#[]⟩,p,f⟩) hp m,fun m=>RN h.six (c:=⟨⟨#[]⟩,p,f⟩) (.inr hs) m,fun g hg=>?_,h.rise,(RP h.inv ⟨⟨#[]⟩,p,f⟩).wrote⟩;show dA 36 (cB D.fd f (dt,0) g);unfold cB
 split
 ·exact ⟨hd,Int.le_refl _,by simp⟩
 ·next hn =>
  rcases List.mem_cons.1 hg with e|e
  ·exact absurd e hn
  ·exact h.dS g e
theorem nL.now {D:DS} (h:nL D):∀ e∈D.R.now,e.path∈Go.Proofs.YtncigfibncmioaaGreatDoor.six:=by
 intro e he;rw [h.inv.go] at he;have:=h.six D.R.aw.length e;rw [List.take_length] at this;exact this he
def pj (t:bU):Bool:=match t.k with|0=>aK t.p|1=>aK t.p|2=>aK t.p|3=>aK t.p && aK t.q|_=>true
theorem RJ {D D':DS} {t:bU} {k:Int} (hs:fK D t k D') (ho:pj t=true) (hl:D.R.left=0):k=0/\D'=D:=by
 obtain ⟨tk,p,q⟩:=t;unfold fK at hs;unfold pj at ho
 match tk with
 | 0 =>
  obtain ⟨f,_,he⟩:=hs;simp only at ho;simp [pQ,ho,hl] at he;exact he
 | 1=>simp only at ho;simp [qo,ho,hl] at hs;exact hs
 | 2=>simp only at ho;simp [ni,ho,hl] at hs;exact hs
 | 3=>simp only at ho;simp [o9,ho,hl] at hs;exact hs
 | n+4=>simp [pc,hl] at hs;exact hs
theorem Fz:∀ {l:List bU} {D D':DS} {k:Int} {n:Nat},(∀ t∈l,pj t=true)->D.R.left=0->bM D l k n D'->k=0/\D'=D
 | [],_,_,_,_,_,_,h=>⟨h.1,h.2.2⟩
 | t::l,D,D',k,n,ho,hl,h=>by
  obtain ⟨k1,D1,h1,h2⟩:=h;obtain ⟨rfl,rfl⟩:=RJ h1 (ho t (by simp)) hl
  rcases h2 with ⟨h2,_⟩|⟨_,m,_,h3⟩
  ·exact absurd rfl h2
  ·exact Fz (fun x hx=>ho x (by simp [hx])) hl h3
theorem RQ {D D':DS} {k:Int} {p:ByteArray} {g:Nat} (hs:fK D (fM p) k D') (hp:aK p=true) (hl:D.R.left≠0) (hf:aO p D.R.now=some g):k=0/\D'=jr D ⟨p,⟨#[]⟩,g⟩:=by
 have hs:(k,D')=ni D p:=hs;simp [ni,hp,hl,hf] at hs;exact hs
theorem KU {D D':DS} {k:Int} {p dt:ByteArray} (hs:fK D (oB p dt) k D') (hp:aK p=true) (hl:D.R.left≠0) (hr:(gH D.fd D.R.now:Int)+(dt.size:Int)<=D.R.room) (hf:aO p D.R.now=none):∃ f,f ∉ D.fs/\k=0/\D'=fQ D p dt f:=by
 obtain ⟨f,hfn,hs⟩ : ∃ f,f ∉ D.fs/\(k,D')=pQ D p dt f:=hs;have Ja:¬ D.R.room - (gH D.fd D.R.now:Int)<(dt.size:Int):=by omega
 simp [pQ,hp,hl,Ja,hf] at hs;exact ⟨f,hfn,hs.1,hs.2⟩
theorem KV {D D':DS} {k:Int} {p:ByteArray} {g:Nat} (hs:fK D (oC p) k D') (hp:aK p=true) (hl:D.R.left≠0) (hf:aO p D.R.now=some g):k=0/\D'=uD D g ((D.fd g).1,((D.fd g).1.size:Int)):=by
 have hs:(k,D')=qo D p:=hs;simp [qo,hp,hl,hf] at hs;exact hs
theorem KW {D D':DS} {k:Int} {p q:ByteArray} {g:Nat} (hs:fK D (gv p q) k D') (hp:aK p=true) (hq:aK q=true) (oA:p≠q) (hl:D.R.left≠0) (hf:aO p D.R.now=some g):k=0/\D'=jr D ⟨p,q,g⟩:=by
 have hs:(k,D')=o9 D p q:=hs;simp [o9,hp,hq,hl,hf,oA] at hs;exact hs
theorem KR {D D':DS} {k:Int} (hs:fK D gQ k D') (hl:D.R.left≠0):k=0/\D'=⟨dz.wrote { D.R with safe:=D.R.now,aw:=[] },D.fs,D.fd⟩:=by
 have hs:(k,D')=pc D:=hs;simp [pc,hl] at hs;exact hs
def Kp (D D':DS):Prop:=D'.R.room=D.R.room/\(D.R.left = -1->D'.R.left = -1)
theorem Kp.refl (D:DS):Kp D D:=⟨rfl,id⟩
theorem Kp.trans {A B C:DS} (h:Kp A B) (k:Kp B C):Kp A C:=⟨k.1.trans h.1,fun e=>k.2 (h.2 e)⟩
theorem DF {R:dz} (h:R.left = -1):R.wrote.left = -1:=by
 show (if 0<R.left then R.left - 1 else R.left) = -1;rw [h];rfl
theorem Kp.push (D:DS) (c:CH):Kp D (jr D c):=⟨rfl,fun h=>DF h⟩
theorem Kp.set (D:DS) (f:Nat) (x:ByteArray × Int):Kp D (uD D f x):=⟨rfl,fun h=>DF h⟩
theorem Kp.add (D:DS) (p dt:ByteArray) (f:Nat):Kp D (fQ D p dt f):=⟨rfl,fun h=>DF h⟩
theorem QnJ {l:List DE} {e:DE} (h:∀ x∈l,x.path≠e.path):aO e.path (l ++ [e])=some e.blk/\cC (l ++ [e]) ⟨e.path,⟨#[]⟩,e.blk⟩=l:=by
 constructor
 ·induction l with
  | nil=>simp [aO]
  | cons a l ih =>
   show (if a.path=e.path then some a.blk else aO e.path (l ++ [e]))=_;rw [if_neg (h a (by simp))];exact ih (fun x hx=>h x (by simp [hx]))
 ·unfold cC;rw [if_pos rfl,Ap,List.filter_append];have h1:l.filter (fun x=>!decide (x.path=e.path))=l:=List.filter_eq_self.2 (fun x hx=>by simp [h x hx]);show List.filter (fun x=>!decide (x.path=e.path)) l++_=l;rw [h1];simp
theorem pg {a b:ByteArray} (h:bJ a b=true):a≠b:=by
 rintro rfl;unfold bJ at h;rw [Yu] at h
 cases h
theorem QnK {l:List DE} {e:DE} (h:bZ (l ++ [e])):∀ x∈l,x.path≠e.path:=fun x hx=>pg ((List.pairwise_append.1 h).2.2 x hx e (by simp))
theorem YV:∀ (n:Nat) (l:List DE) {D D1:DS} {k:Int} {m:Nat},l.length=n->D.R.now=l->nL D->bM D ((l.map DE.path).reverse.map fM) k m D1->k=0/\nL D1/\D1.fs=D.fs/\D1.fd=D.fd/\Kp D D1/\(D1.R.left=0∨D1.R.now = [])
 | 0,l,D,D1,k,m,hn,fR,hm,hr=>by
  have:l = []:=List.length_eq_zero_iff.1 hn;subst this;obtain ⟨rfl,_,rfl⟩:=hr;exact ⟨rfl,hm,rfl,rfl,Kp.refl _,.inr fR⟩
 | n+1,l,D,D1,k,m,hn,fR,hm,hr=>by
  rcases List.eq_nil_or_concat l with rfl|⟨l',e,rfl⟩
  ·cases hn
  ·have vD:e.path∈six:=hm.now e (by rw [fR];simp)
   by_cases hl:D.R.left=0
   ·obtain ⟨rfl,rfl⟩:=Fz (fun t ht=>by
     simp only [List.mem_map,List.mem_reverse] at ht;obtain ⟨p,⟨e',vE,rfl⟩,rfl⟩:=ht;exact RL (hm.now e' (by rw [fR];exact vE))) hl hr
    exact ⟨rfl,hm,rfl,rfl,Kp.refl _,.inl hl⟩
   ·have ba:bZ (l' ++ [e]):=by
     have:=Fl D.R.aw hm.rise;rw [<- hm.inv.go,fR] at this;simpa using this
    obtain ⟨f1,f2⟩:=QnJ (QnK ba);simp only [List.concat_eq_append] at fR hr hn;rw [List.map_append,List.reverse_append] at hr;simp only [List.map_cons,List.map_nil,List.reverse_cons,List.reverse_nil,List.nil_append,List.cons_append] at hr;obtain ⟨k1,D2,h1,h2⟩:=hr;obtain ⟨rfl,rfl⟩:=RQ h1 (RL vD) hl (by rw [fR];exact f1)
    rcases h2 with ⟨h2,_⟩|⟨_,m',_,h3⟩
    ·exact absurd rfl h2
    ·have j8:=hm.push (c:=⟨e.path,⟨#[]⟩,e.blk⟩) (show (⟨#[]⟩ : ByteArray)≠bK by decide) (.inl rfl);have:=YV n l' (by simpa using hn) (D:=jr D ⟨e.path,⟨#[]⟩,e.blk⟩) (by rw [OJ,fR];exact f2) j8 h3;obtain ⟨a,b,c,d,e2,f⟩:=this;exact ⟨a,b,c,d,(Kp.push _ _).trans e2,f⟩
theorem bM.alt {D D':DS} {t:bU} {l:List bU} {k:Int} {n:Nat} (P:DS->Prop) (h:bM D (t::l) k n D') (ho:∀ t'∈t::l,pj t'=true) (he:D.R.left≠0->∀ k1 X,fK D t k1 X->k1=0/\P X):(k=0/\D'=D/\D.R.left=0)∨∃ D1 m,P D1/\bM D1 l k m D':=by
 by_cases hl:D.R.left=0
 ·obtain ⟨h1,h2⟩:=Fz ho hl h;exact .inl ⟨h1,h2,hl⟩
 ·obtain ⟨k1,D1,h1,h2⟩:=h;obtain ⟨rfl,hP⟩:=he hl k1 D1 h1
  rcases h2 with ⟨h2,_⟩|⟨_,m,_,h3⟩
  ·exact absurd rfl h2
  ·exact .inr ⟨D1,m,hP,h3⟩
def Fx (fd:Nat->ByteArray × Int) (l:List DE):Prop:=∃ y x z,l = [⟨bB,y⟩,⟨bo,x⟩,⟨bK,z⟩]/\fd x=(⟨#[]⟩,0)/\fd y=(uC,23)/\fd z=(pX,13)
structure Ea (D:DS):Prop where
 each:∀ m,aO bK (fh D.R.safe (D.R.aw.take m))=none∨Fx D.fd (fh D.R.safe (D.R.aw.take m))
 six:∀ m,∀ e∈fh D.R.safe (D.R.aw.take m),e.path∈six
 dS:∀ f∈D.fs,dA 36 (D.fd f)
 rise:bZ D.R.safe
 inv:Inv D.R
theorem nL.ea {D:DS} (h:nL D):Ea D:=⟨fun m=>.inl (h.lf m),h.six,h.dS,h.rise,h.inv⟩
def I8 (D:DS):Prop:=Fx D.fd D.R.now/\D.R.safe=D.R.now/\D.R.aw = []
structure S3 (D X:DS) (l:List DE) (x y z:Nat) (sx sy sz:Int):Prop where
 mid:nL X
 now:X.R.now=l
 fx:X.fd x=(⟨#[]⟩,sx)
 fy:X.fd y=(uC,sy)
 fz:X.fd z=(pX,sz)
 xy:x≠y
 xz:x≠z
 yz:y≠z
 kp:Kp D X
theorem gX (a b:ByteArray):bJ a b=Op.bytesLess a.data.toList b.data.toList:=by
 unfold bJ;rw [ByteArray.toList_eq,ByteArray.toList_eq]
theorem Qvv (x y:Nat):cC [⟨p0,x⟩] ⟨⟨#[]⟩,p1,y⟩ = [⟨p0,x⟩,⟨p1,y⟩]:=by
 have l:bJ p1 p0=false:=by rw [gX];decide
 have a1:p0≠p1:=by decide
 have a2:p0≠⟨#[]⟩:=by decide
 have a3:p1≠⟨#[]⟩:=by decide
 simp [cC,dc,l,a1,a2,a3]
theorem Qt9 (x y z:Nat):cC [⟨p0,x⟩,⟨p1,y⟩] ⟨⟨#[]⟩,p2,z⟩ = [⟨p0,x⟩,⟨p1,y⟩,⟨p2,z⟩]:=by
 have l:bJ p2 p0=false:=by rw [gX];decide
 have l':bJ p2 p1=false:=by rw [gX];decide
 have a1:p0≠p2:=by decide
 have a2:p1≠p2:=by decide
 have a3:p0≠⟨#[]⟩:=by decide
 have a4:p1≠⟨#[]⟩:=by decide
 have a5:p2≠⟨#[]⟩:=by decide
 simp [cC,dc,l,l',a1,a2,a3,a4,a5]
theorem RR (x y z:Nat):cC [⟨p0,x⟩,⟨p1,y⟩,⟨p2,z⟩] ⟨p0,bo,x⟩ = [⟨p1,y⟩,⟨p2,z⟩,⟨bo,x⟩]:=by
 have l:bJ bo p1=false:=by rw [gX];decide
 have l':bJ bo p2=false:=by rw [gX];decide
 have a1:p1≠bo:=by decide
 have a2:p2≠bo:=by decide
 have a3:p1≠p0:=by decide
 have a4:p2≠p0:=by decide
 have a5:bo≠⟨#[]⟩:=by decide
 simp [cC,dc,l,l',a1,a2,a3,a4,a5]
theorem RT (x y z:Nat):cC [⟨p1,y⟩,⟨p2,z⟩,⟨bo,x⟩] ⟨p1,bB,y⟩ = [⟨p2,z⟩,⟨bB,y⟩,⟨bo,x⟩]:=by
 have l:bJ bB p2=false:=by rw [gX];decide
 have l':bJ bB bo=true:=by rw [gX];decide
 have a1:p2≠bB:=by decide
 have a2:bo≠bB:=by decide
 have a3:p2≠p1:=by decide
 have a4:bo≠p1:=by decide
 have a5:bB≠⟨#[]⟩:=by decide
 simp [cC,dc,l,l',a1,a2,a3,a4,a5]
theorem RU (x y z:Nat):cC [⟨p2,z⟩,⟨bB,y⟩,⟨bo,x⟩] ⟨p2,bK,z⟩ = [⟨bB,y⟩,⟨bo,x⟩,⟨bK,z⟩]:=by
 have l:bJ bK bB=false:=by rw [gX];decide
 have l':bJ bK bo=false:=by rw [gX];decide
 have a1:bB≠bK:=by decide
 have a2:bo≠bK:=by decide
 have a3:bB≠p2:=by decide
 have a4:bo≠p2:=by decide
 have a5:bK≠⟨#[]⟩:=by decide
 simp [cC,dc,l,l',a1,a2,a3,a4,a5]
theorem Qsw {D D':DS} {k:Int} {n:Nat} (hm:nL D) (fR:D.R.now = []) (hroom:36<=D.R.room) (h:bM D [oB p0 ⟨#[]⟩,oB p1 uC,oB p2 pX,oC p0,oC p1,oC p2,gv p0 bo,gv p1 bB,gv p2 bK,gQ] k n D') :
  k=0/\Kp D D'/\((nL D'/\D'.R.left=0)∨(Ea D'/\D'.R.left=0)∨(Ea D'/\I8 D')):=by
 have ze:(⟨#[]⟩ : ByteArray).size=0:=rfl;have zi:uC.size=23:=rfl;have zl:pX.size=13:=rfl
 rcases h.alt (fun X=>∃ x,nL X/\X.R.now = [⟨p0,x⟩]/\X.fd x=(⟨#[]⟩,0)/\x∈X.fs/\Kp D X) (by decide +kernel) (fun hl k1 X hs=>by
  obtain ⟨x,hx,h0,rfl⟩:=KU hs (by decide) hl (by rw [fR,ze];show (0:Int)+0<=_;omega) (by rw [fR];rfl);refine ⟨h0,x,hm.add (by decide) (by simp [six]) (by decide),?_,?_,by simp [fQ],Kp.add _ _ _ _⟩
  ·rw [RM,fR];rfl
  ·simp [fQ,cB]) with ⟨rfl,rfl,hl⟩|⟨D1,n1,⟨x,m1,FA,YZ,Y0,Fy⟩,h⟩
 ·exact ⟨rfl,Kp.refl _,.inl ⟨hm,hl⟩⟩
 rcases h.alt (fun X=>∃ y,nL X/\X.R.now = [⟨p0,x⟩,⟨p1,y⟩]/\X.fd x=(⟨#[]⟩,0)/\X.fd y=(uC,0)/\x≠y/\x∈X.fs/\y∈X.fs/\Kp D X) (by decide +kernel) (fun hl k1 X hs=>by
  obtain ⟨y,hy,h0,rfl⟩:=KU hs (by decide) hl (by rw [FA,Fy.1,zi];simp only [gH,YZ,ze];omega) (by rw [FA];rfl);have hne:x≠y:=fun e=>hy (e ▸ Y0)
  refine ⟨h0,y,m1.add (by decide) (by simp [six]) (by decide),?_,?_,?_,hne,by simp [fQ,Y0],by simp [fQ],Fy.trans (Kp.add _ _ _ _)⟩
  ·rw [RM,FA];exact Qvv x y
  ·simp [fQ,cB,hne,YZ]
  ·simp [fQ,cB]) with ⟨rfl,rfl,hl⟩|⟨D2,n2,⟨y,m2,FB,Y1,Y2,xy,RY,RZ,Aw⟩,h⟩
 ·exact ⟨rfl,Fy,.inl ⟨m1,hl⟩⟩
 rcases h.alt (fun X=>∃ z,S3 D X [⟨p0,x⟩,⟨p1,y⟩,⟨p2,z⟩] x y z 0 0 0) (by decide +kernel) (fun hl k1 X hs=>by
  obtain ⟨z,hz,h0,rfl⟩:=KU hs (by decide) hl (by rw [FB,Aw.1,zl];simp only [gH,Y1,Y2,ze,zi];omega) (by rw [FB];rfl);have Y3:x≠z:=fun e=>hz (e ▸ RY)
  have KX:y≠z:=fun e=>hz (e ▸ RZ)
  refine ⟨h0,z,m2.add (by decide) (by simp [six]) (by decide),?_,?_,?_,?_,xy,Y3,KX,Aw.trans (Kp.add _ _ _ _)⟩
  ·rw [RM,FB];exact Qt9 x y z
  ·simp [fQ,cB,Y3,Y1]
  ·simp [fQ,cB,KX,Y2]
  ·simp [fQ,cB]) with ⟨rfl,rfl,hl⟩|⟨D3,n3,⟨z,s3⟩,h⟩
 ·exact ⟨rfl,Aw,.inl ⟨m2,hl⟩⟩
 rcases h.alt (fun X=>S3 D X [⟨p0,x⟩,⟨p1,y⟩,⟨p2,z⟩] x y z 0 0 0) (by decide +kernel) (fun hl k1 X hs=>by
  obtain ⟨h0,rfl⟩:=KV (g:=x) hs (by decide) hl (by rw [s3.now];rfl);rw [s3.fx];exact ⟨h0,s3.mid.set ⟨by decide,by decide,by decide⟩,s3.now,by simp [uD,cB,ze],by simp [uD,cB,Ne.symm s3.xy,s3.fy],by simp [uD,cB,Ne.symm s3.xz,s3.fz],s3.xy,s3.xz,s3.yz,s3.kp.trans (Kp.set _ _ _)⟩) with ⟨rfl,rfl,hl⟩|⟨D4,n4,s4,h⟩
 ·exact ⟨rfl,s3.kp,.inl ⟨s3.mid,hl⟩⟩
 rcases h.alt (fun X=>S3 D X [⟨p0,x⟩,⟨p1,y⟩,⟨p2,z⟩] x y z 0 23 0) (by decide +kernel) (fun hl k1 X hs=>by
  obtain ⟨h0,rfl⟩:=KV (g:=y) hs (by decide) hl (by rw [s4.now];rfl);rw [s4.fy];exact ⟨h0,s4.mid.set ⟨by decide,by decide,by decide⟩,s4.now,by simp [uD,cB,s4.xy,s4.fx],by simp [uD,cB,zi],by simp [uD,cB,Ne.symm s4.yz,s4.fz],s4.xy,s4.xz,s4.yz,s4.kp.trans (Kp.set _ _ _)⟩) with ⟨rfl,rfl,hl⟩|⟨D5,n5,s5,h⟩
 ·exact ⟨rfl,s4.kp,.inl ⟨s4.mid,hl⟩⟩
 rcases h.alt (fun X=>S3 D X [⟨p0,x⟩,⟨p1,y⟩,⟨p2,z⟩] x y z 0 23 13) (by decide +kernel) (fun hl k1 X hs=>by
  obtain ⟨h0,rfl⟩:=KV (g:=z) hs (by decide) hl (by rw [s5.now];rfl);rw [s5.fz];exact ⟨h0,s5.mid.set ⟨by decide,by decide,by decide⟩,s5.now,by simp [uD,cB,s5.xz,s5.fx],by simp [uD,cB,s5.yz,s5.fy],by simp [uD,cB,zl],s5.xy,s5.xz,s5.yz,s5.kp.trans (Kp.set _ _ _)⟩) with ⟨rfl,rfl,hl⟩|⟨D6,n6,s6,h⟩
 ·exact ⟨rfl,s5.kp,.inl ⟨s5.mid,hl⟩⟩
 rcases h.alt (fun X=>S3 D X [⟨p1,y⟩,⟨p2,z⟩,⟨bo,x⟩] x y z 0 23 13) (by decide +kernel) (fun hl k1 X hs=>by
  obtain ⟨h0,rfl⟩:=KW (g:=x) hs (by decide) (by decide) (by decide) hl (by rw [s6.now];rfl);exact ⟨h0,s6.mid.push (show bo≠bK by decide) (.inr (by simp [six])),by rw [OJ,s6.now];exact RR x y z,s6.fx,s6.fy,s6.fz,s6.xy,s6.xz,s6.yz,s6.kp.trans (Kp.push _ _)⟩) with ⟨rfl,rfl,hl⟩|⟨D7,n7,s7,h⟩
 ·exact ⟨rfl,s6.kp,.inl ⟨s6.mid,hl⟩⟩
 rcases h.alt (fun X=>S3 D X [⟨p2,z⟩,⟨bB,y⟩,⟨bo,x⟩] x y z 0 23 13) (by decide +kernel) (fun hl k1 X hs=>by
  obtain ⟨h0,rfl⟩:=KW (g:=y) hs (by decide) (by decide) (by decide) hl (by rw [s7.now];rfl);exact ⟨h0,s7.mid.push (show bB≠bK by decide) (.inr (by simp [six])),by rw [OJ,s7.now];exact RT x y z,s7.fx,s7.fy,s7.fz,s7.xy,s7.xz,s7.yz,s7.kp.trans (Kp.push _ _)⟩) with ⟨rfl,rfl,hl⟩|⟨D8,n8,s8,h⟩
 ·exact ⟨rfl,s7.kp,.inl ⟨s7.mid,hl⟩⟩
 rcases h.alt (fun X=>X=jr D8 ⟨p2,bK,z⟩) (by decide +kernel) (fun hl k1 X hs=>by
  obtain ⟨h0,rfl⟩:=KW (g:=z) hs (by decide) (by decide) (by decide) hl (by rw [s8.now];rfl);exact ⟨h0,rfl⟩) with ⟨rfl,rfl,hl⟩|⟨D9,n9,rfl,h⟩
 ·exact ⟨rfl,s8.kp,.inl ⟨s8.mid,hl⟩⟩
 have KY:(jr D8 ⟨p2,bK,z⟩).R.now = [⟨bB,y⟩,⟨bo,x⟩,⟨bK,z⟩]:=by rw [OJ,s8.now];exact RU x y z
 have R1:Fx (jr D8 ⟨p2,bK,z⟩).fd (jr D8 ⟨p2,bK,z⟩).R.now:=⟨y,x,z,KY,s8.fx,s8.fy,s8.fz⟩;have BK:Inv (jr D8 ⟨p2,bK,z⟩).R:=(RP s8.mid.inv ⟨p2,bK,z⟩).wrote;have ea9:Ea (jr D8 ⟨p2,bK,z⟩):=by
  refine ⟨fun m=>?_,fun m=>RN s8.mid.six (c:=⟨p2,bK,z⟩) (.inr (by simp [six])) m,s8.mid.dS,s8.mid.rise,BK⟩
  rcases Nat.lt_or_ge D8.R.aw.length m with vF|vF
  ·refine .inr ?_;have e:(jr D8 ⟨p2,bK,z⟩).R.aw.take m=(jr D8 ⟨p2,bK,z⟩).R.aw:=List.take_of_length_le (by show (D8.R.aw ++ [_]).length<=m;simp;omega);rw [e,<- BK.go];exact R1
  ·refine .inl ?_;have e:(jr D8 ⟨p2,bK,z⟩).R.aw.take m=D8.R.aw.take m:=by show (D8.R.aw ++ [_]).take m=_;rw [List.take_append_of_le_length vF]
   rw [e];exact s8.mid.lf m
 rcases h.alt (fun X=>X=⟨dz.wrote { (jr D8 ⟨p2,bK,z⟩).R with safe:=(jr D8 ⟨p2,bK,z⟩).R.now,aw:=[] },(jr D8 ⟨p2,bK,z⟩).fs,(jr D8 ⟨p2,bK,z⟩).fd⟩) (by decide +kernel) (fun hl k1 X hs=>KR hs hl) with ⟨rfl,rfl,hl⟩|⟨D10,n10,rfl,h⟩
 ·exact ⟨rfl,s8.kp.trans (Kp.push _ _),.inr (.inl ⟨ea9,hl⟩)⟩
 obtain ⟨rfl,_,rfl⟩:=h;refine ⟨rfl,(s8.kp.trans (Kp.push _ _)).trans ⟨rfl,fun e=>DF e⟩,.inr (.inr ⟨⟨fun m=>.inr ?_,fun m e he=>?_,s8.mid.dS,?_,BK.sync.wrote⟩,R1,rfl,rfl⟩)⟩
 ·show Fx _ (fh _ (List.take m []));rw [List.take_nil];exact R1
 ·have he:e∈(jr D8 ⟨p2,bK,z⟩).R.now:=by
   have:e∈fh (jr D8 ⟨p2,bK,z⟩).R.now (List.take m []):=he;rw [List.take_nil] at this;exact this
  rw [KY] at he;simp only [List.mem_cons,List.not_mem_nil,or_false] at he
  rcases he with rfl|rfl|rfl<;>simp [six]
 ·show bZ (jr D8 ⟨p2,bK,z⟩).R.now;rw [BK.go];exact Fl _ s8.mid.rise
end Go.Proofs.YtncigfibncmioaaGreatDoor
namespace Go.Proofs.YtncigfibncmioaaGreatDoor
open Go.RowKit Go.Shelf
def Tryz.rF:Go.Shelf.Ren:=⟨fun|5=>116|7=>134|n=>n,fun|4=>4|20=>20|23=>157|25=>9|3=>193|n=>n,fun|n=>n⟩
theorem Tryz.C8:Go.Proofs.SlLaysW.n5 Tryz.prog Tryz.rF:={
 mixed:=by kernel_rfl
 f5:=⟨"maps.Clone[map[string]blobs/index.Entry,string,blobs/index.Entry]",by decide,Tryz.func116.trans (congrArg some (by kernel_rfl))⟩
 f7:=Tryz.func134.trans (congrArg some (by kernel_rfl))
 t4:=Tryz.underlying4
 a4:=Tryz.isAgg4
 z4:=Tryz.sizeOf4
 v4:=Tryz.zeroValue4
 t20:=Tryz.underlying20
 a20:=Tryz.isAgg20
 z20:=Tryz.sizeOf20
 v20:=Tryz.zeroValue20
 t23:=Tryz.underlying157
 a23:=Tryz.isAgg157
 z23:=Tryz.sizeOf157
 v23:=Tryz.zeroValue157 }
theorem U3 (tb n:Nat) (D:DataW Value) (w:World) (h:TM w tb n D) :
  Calls Tryz.prog 116 #[.map (some tb)] w fun e w'=>e = .returned (.map (some w.heap.size))/\TM w' w.heap.size n D/\Below w.heap.size w w' :=
 (AnyW.maps_Clone_owns Tryz.C8 9 fG tb n D w h).mono fun _ _ ⟨h1,h2,_,h3⟩=>⟨h1,h2,h3⟩
theorem QkZ (n:ByteArray) (x0 x1 x2 x3 x4 x5 x6 x7 x8 x9 lO lQ lR kJ lS lT lU lV lW lX lY lZ l4 l5 l6 l7 l9 ma mf mg mh mi:Value) (w:World):(Instr.build 193 #[(0,.string n),(1,.agg #[x0,x1,x2,x3,x4,x5,x6,x7,x8,x9,lO,lQ,lR,kJ,lS,lT,lU,lV,lW,lX,lY,lZ,l4,l5,l6,l7,l9,ma,mf,mg,mh,mi])]).run Tryz.prog w = .ok (.agg #[.string n,x0,x1,x2,x3,x4,x5,x6,x7,x8,x9,lO,lQ,lR,kJ,lS,lT,lU,lV,lW,lX,lY,lZ,l4,l5,l6,l7,l9,ma,mf,mg,mh,mi,.int .i64 0]) w:=by kernel_rfl
theorem Qpn (n:ByteArray) (ds:List Nat) (h:ds.length=32) (w:World):(Instr.build 193 #[(0,.string n),(1,.agg (ah ds))]).run Tryz.prog w = .ok (.agg (aT n ds 0)) w:=by
 obtain ⟨x0,x1,x2,x3,x4,x5,x6,x7,x8,x9,lO,lQ,lR,kJ,lS,lT,lU,lV,lW,lX,lY,lZ,l4,l5,l6,l7,l9,ma,mf,mg,mh,mi,rfl⟩:=IZ ds h;exact QkZ n _ _ _ _ _ _ _ _ _ _ _ _ _ _ _ _ _ _ _ _ _ _ _ _ _ _ _ _ _ _ _ _ w
theorem Qhh {ops:Array Oper} {Q:Exit->Act->World->Prop} {o:Oper} {rest:List Oper} {a:Act} {w:World} (hgd:o.guard=none) (p0 p1:Operand) (hop:o.op=Op.build 193 #[(0,p0),(1,p1)]) (n:ByteArray) (ds:List Nat) (hl:ds.length=32) (h0:a.eval p0 = .string n) (h1:a.eval p1 = .agg (ah ds))
  (hK:wpList Tryz.prog ops Q rest (a.put o.dst (.agg (aT n ds 0))) w):wpList Tryz.prog ops Q (o::rest) a w:=by
 refine wpList_plain hgd fun K' hK'=>?_
 have hr:=Qpn n ds hl w;unfold Oper.wp;simp [execOp,hop,h0,h1,hr,Result.andThen];exact hK' _ _ hK
theorem Below.cW {n b:Nat} {w w':World} (hg:w.grownBy w' (some b)) (hb:n<=b) (hn:n<=w.heap.size):Below n w w':=(Below.refl _ _).grown hg hn (fun k e=>by injection e with e;omega)
theorem MX (n:ByteArray) (h:n.size<=1000000):keyOf Tryz.prog 9 (.string n)=some (.string n.data.toList):=by
 unfold keyOf;rw [Tryz.underlying9];simp only [mapKey,Tryz.underlying9];have h:n.size<=maxLen:=by unfold maxLen;omega
 simp [h]
theorem QfT (sb:Nat) (s:ai) (cb tb nc nt:Nat) (Dc Dt:DataW Value) (name:ByteArray) (ds:List Nat) (w:World) (h:aI w sb s cb tb nc nt Dc Dt) (aJ:ds.length=32) (tP:nt<=1000) (hn:name.size<=1000000) :
  Calls Tryz.prog 103 #[.pointer (some ⟨sb,0,none⟩),.string name,.agg (ah ds)] w fun e w'=>∃ b,e = .returned (.map (some b))/\w.heap.size<=b/\TM w' b (nt+1) (Dt.put (.string name.data.toList) (.held (.agg (aT name ds 0))))/\Below w.heap.size w w':=by
 have qP:=aa (U3 tb nt Dt);have j9:=aa (fun W=>ZC name W (by omega));have CE:=Qpn name ds aJ;have bh:Below w.heap.size w (w.alloc (.cells (ah ds) 117)):=(Below.refl _ _).alloc (Nat.le_refl _) _;have c2:=cell_later bh (cell_of_row _ _ 2 _ _ _ h.blk);have hrow:(w.alloc (.cells (ah ds) 117)).heap[w.heap.size]? = some (.cells (ah ds) 117 (0,0)):=heap_alloc_new _ _;have kz:=(h.later bh).tm;obtain ⟨W,hW⟩ : ∃ W,W=w.alloc (.cells (ah ds) 117):=⟨_,rfl⟩;rw [<- hW] at bh c2 hrow kz;have oO:=aa kz;have HW:=aa hW;have cI:=aa bh;have aA:=aa hrow;clear h bh kz hW hrow;go_enter Tryz.func103,Tryz.ntmps103;go_upto_region 1 with fail
 rw [<- HW.out];go_wp2_with fail;refine (qP.out _ oO.out).mono ?_;rintro _ w1 ⟨rfl,iV,hb1⟩;dsimp only;have wB:=aa iV;have br:=aa hb1;clear iV hb1 qP;go_wp2_with fail;refine (j9.out _).mono ?_;rintro _ w2 ⟨rfl,hb2⟩;dsimp only;have VG:=aa (jP wB.out (hb2.block _ wB.out.lt));have fL:=aa ((hb2.block _ (by have:=br.out.size;have:=ax aA.out;omega)).trans ((br.out.block _ (ax aA.out)).trans aA.out));have cL:=aa (br.out.trans (hb2.mono br.out.size));clear hb2 j9;go_wp2_with (first|(refine wpList_load_row rfl 117 _ rfl w.heap.size rfl 117 _ _ _ fL.out Tryz.underlying117 rfl (bL _ aJ) ?_)|(refine Qhh rfl _ _ rfl name ds aJ rfl rfl ?_)|(refine wpList_mapUpdate_own _ rfl _ _ _ 157 rfl 9 193 tZ Tryz.underlying157 fG W.heap.size nt Dt rfl VG.out (by unfold maxLen;omega) _ _ (.string name.data.toList) rfl rfl (MX name (by omega)) _ [] rfl ?_;intro w3 kM hg3));go_ret;have hz:=cI.out.size;have hz2:=cL.out.size;exact ⟨_,rfl,hz,kM,cI.out.trans ((cL.out.mono hz).trans (Below.cW hg3 hz (by omega)))⟩
end Go.Proofs.YtncigfibncmioaaGreatDoor
namespace Go.Proofs.YtncigfibncmioaaGreatDoor
open Go.RowKit
theorem Qss (now:List DE):nK (fun _=>true) now=(now.map DE.path).reverse.map fM:=by
 unfold nK;rw [List.filter_eq_self.2 (fun _ _=>rfl)]
theorem YU:jq Av = [oB p0 ⟨#[]⟩,oB p1 uC,oB p2 pX,oC p0,oC p1,oC p2,gv p0 bo,gv p1 bB,gv p2 bK,gQ]:=by
 rw [<- BJ,<- vB,<- Qt8];rfl
structure Er (D:DS):Prop where
 ea:Ea D
 aw:D.R.aw = []
theorem Er.now {D:DS} (h:Er D):D.R.now=D.R.safe:=by
 have:=h.ea.inv.go;rw [h.aw] at this;exact this
theorem Er.or {D:DS} (h:Er D):aO bK D.R.now=none∨Fx D.fd D.R.now:=by
 have:=h.ea.each 0;rw [List.take_zero] at this;rw [h.now];exact this
theorem Er.mid {D:DS} (h:Er D) (hn:aO bK D.R.now=none):nL D:=by
 refine ⟨fun m=>?_,h.ea.six,h.ea.dS,h.ea.rise,h.ea.inv⟩;rw [h.aw,List.take_nil];show aO bK D.R.safe=none;rw [<- h.now];exact hn
theorem Qmy {D D':DS} {k:Int} (h:Er D) (hn:aO bK D.R.now=none) (hr:36<=D.R.room) (hb:RH D k D'):k=0/\Kp D D'/\Ea D'/\(D.R.left = -1->I8 D'):=by
 rcases hb with ⟨h1,_⟩|⟨_,k1,m,D1,h1,h2⟩
 ·omega
 ·rw [Qss] at h1;obtain ⟨rfl,m1,_,_,Fy,DD⟩:=YV _ _ rfl rfl (h.mid hn) h1
  rcases h2 with ⟨h2,_⟩|⟨_,m2,D2,h3,h4⟩
  ·exact absurd rfl h2
  ·rw [YU] at h3;have key:k=0/\Kp D1 D2/\Ea D2/\(D2.R.left = -1->I8 D2):=by
    by_cases hl:D1.R.left=0
    ·obtain ⟨rfl,rfl⟩:=Fz (by decide +kernel) hl h3;exact ⟨rfl,Kp.refl _,m1.ea,fun e=>by rw [hl] at e;cases e⟩
    ·have Bq:D1.R.now = []:=DD.resolve_left hl;obtain ⟨rfl,Aw,hc⟩:=Qsw m1 Bq (by rw [Fy.1];exact hr) h3
     rcases hc with ⟨a,b⟩|⟨a,b⟩|⟨a,b⟩
     ·exact ⟨rfl,Aw,a.ea,fun e=>by rw [b] at e;cases e⟩
     ·exact ⟨rfl,Aw,a,fun e=>by rw [b] at e;cases e⟩
     ·exact ⟨rfl,Aw,a,fun _=>b⟩
   obtain ⟨rfl,Aw,e2,r2⟩:=key
   rcases h4 with ⟨_,rfl⟩|⟨h4,_⟩
   ·exact ⟨rfl,Fy.trans Aw,e2,fun e=>r2 ((Fy.trans Aw).2 e)⟩
   ·exact absurd rfl h4
theorem Qst {D D':DS} {k:Int} (h:Er D) (h3:Fx D.fd D.R.now) (hg:vC D k D'):k=0/\Kp D D'/\Ea D'/\I8 D':=by
 obtain ⟨k1,m,D1,h1,h2⟩:=hg;have OG:nK eW D.R.now = []:=by
  obtain ⟨y,x,z,e,_⟩:=h3;rw [e];have f1:eW bB=false:=by decide +kernel
  have f2:eW bo=false:=by decide +kernel
  have f3:eW bK=false:=by decide +kernel
  simp [nK,f1,f2,f3]
 rw [OG] at h1;obtain ⟨rfl,_,e1⟩:=h1;rw [e1] at h2
 rcases h2 with ⟨h2,_⟩|⟨_,hs⟩
 ·exact absurd rfl h2
 ·by_cases hl:D.R.left=0
  ·obtain ⟨rfl,e2⟩:=RJ hs rfl hl;rw [e2];exact ⟨rfl,Kp.refl _,h.ea,h3,h.now.symm,h.aw⟩
  ·obtain ⟨rfl,rfl⟩:=KR hs hl;refine ⟨rfl,⟨rfl,fun e=>DF e⟩,⟨fun m=>.inr ?_,fun m e he=>?_,h.ea.dS,?_,h.ea.inv.sync.wrote⟩,h3,rfl,rfl⟩
   ·show Fx _ (fh _ (List.take m []));rw [List.take_nil];exact h3
   ·have he:e∈fh D.R.now (List.take m []):=he;rw [List.take_nil] at he;have he:e∈D.R.now:=he;have:=h.ea.six 0 e;rw [List.take_zero] at this;rw [h.now] at he;exact this he
   ·show bZ D.R.now;rw [h.now];exact h.ea.rise
theorem YW {D:DS}:cr D bK=none ↔ aO bK D.R.now=none:=by
 unfold cr;have:¬ aK bK=false:=by decide
 rw [if_neg this,Option.map_eq_none_iff]
theorem YX {D D':DS} {k:Int} (h:Er D) (hr:36<=D.R.room) (hb:KS D k D'):k=0/\Kp D D'/\Ea D'/\(D.R.left = -1->I8 D'):=by
 rcases hb with ⟨h1,h2⟩|⟨⟨t,c,_,_,_,_,_,_,hs⟩,h2⟩
 ·exact Qmy h (YW.1 h1) hr h2
 ·rcases h.or with hn|h3
  ·rw [YW.2 hn] at hs
   cases hs
  ·obtain ⟨a,b,c,d⟩:=Qst h h3 h2;exact ⟨a,b,c,fun _=>d⟩
theorem QnE (d:ByteArray) (k:Int):cF (d,(d.size:Int)) k=(d,(d.size:Int)):=by
 have:((d.size:Int)+min (max k 0) ((d.size:Int) - (d.size:Int))).toNat=d.size:=by omega
 unfold cF;simp only [this];congr 1;exact ByteArray.ext (by simp [ByteArray.extract_zero_size])
theorem YY:∀ (l:List DE) (fd:Nat->ByteArray × Int) (ks:List Int),(∀ e∈l,∀ k,cF (fd e.blk) k=fd e.blk)->nr fd l ks=fd
 | [],_,_,_=>rfl
 | e::l,fd,ks,h=>by
  show nr (cB fd e.blk (cF (fd e.blk) (ks.headD 0))) l ks.tail=fd;rw [h e (by simp)];have:cB fd e.blk (fd e.blk)=fd:=by
   funext x
   unfold cB
   split
   ·next hx=>rw [hx]
   ·rfl
  rw [this];exact YY l fd _ (fun x hx=>h x (by simp [hx]))
def I9 (D:DS) (n:Nat) (ks:List Int):DS:=⟨{ D.R with now:=fh D.R.safe (D.R.aw.take n),safe:=fh D.R.safe (D.R.aw.take n),aw:=[],left := -1 },D.fs,nr D.fd (fh D.R.safe (D.R.aw.take n)) ks⟩
end Go.Proofs.YtncigfibncmioaaGreatDoor
namespace Go.Proofs.YtncigfibncmioaaGreatDoor
open Go.RowKit
section
variable {RO:DS->Int->DS->Prop} {nc nt:Nat} {Dc Dt:DataW Value}
def XB (RO:DS->Int->DS->Prop) (nc nt:Nat) (Dc Dt:DataW Value) (s:ai) (w:World):Prop:=∀ W,Below w.heap.size w W->Calls Tryz.prog 50 #[.pointer (some ⟨s.b,0,none⟩)] W fun e w'=>∃ k s' sv ev,e = .returned (.tuple #[sv,ev])/\bR w' ev k/\aC s s' W w'/\RO s.ds k s'.ds /\
 (k=0->∃ sb cb tb,sv = .pointer (some ⟨sb,0,none⟩)/\(W.heap.size<=sb/\W.heap.size<=cb/\W.heap.size<=tb)/\aI w' sb s' cb tb nc nt Dc Dt)/\(k≠0->sv = .pointer none)
structure sI (RO:DS->Int->DS->Prop) (nc nt:Nat) (Dc Dt:DataW Value) (s:ai) (w w':World) (k:Int) (s':ai) (sv ev:Value):Prop where
 ev:bR w' ev k
 go:aC s s' w w'
 r:RO s.ds k s'.ds
 ok:k=0->∃ sb cb tb,sv = .pointer (some ⟨sb,0,none⟩)/\(w.heap.size<=sb/\w.heap.size<=cb/\w.heap.size<=tb)/\aI w' sb s' cb tb nc nt Dc Dt
 no:k≠0->sv = .pointer none
theorem Qmm (s:ai) (w W:World) (d gd gf ge:Nat) (h:s.In w) (cX:Gl w) (hop:XB RO nc nt Dc Dt s w)
  (hB:Below w.heap.size w W) (jI:BD w d s.b) (h1:W.heap[gd]? = some (.cells #[.pointer (some ⟨d,0,none⟩)] 23 (0,0))) (h2:W.heap[gf]? = some (.cells #[.pointer none] 92 (0,0))) (h3:W.heap[ge]? = some (.cells #[.nilIface] 94 (0,0))) (l2:w.heap.size<=gf) (l3:w.heap.size<=ge) :
  Calls Tryz.prog 49 #[.pointer (some ⟨gd,0,none⟩),.pointer (some ⟨gf,0,none⟩),.pointer (some ⟨ge,0,none⟩)] W fun e w'=>e = .returned (.tuple #[])/\∃ k s' sv ev,sI RO nc nt Dc Dt s w w' k s' sv ev/\w'.heap[gf]? = some (.cells #[sv] 92 (0,0))/\w'.heap[ge]? = some (.cells #[ev] 94 (0,0)) /\
   ∀ k cur T,W.heap[k]? = some (.cells cur T (0,0))->k≠gf->k≠ge->T≠150->T≠214->T≠154->T≠5->w'.heap[k]? = some (.cells cur T (0,0)):=by
 have hi:=h.later hB;have jn:=aa (hop W hB);have xO:W.heap[d]? = some (.cells #[.pointer (some ⟨s.b,0,none⟩)] 90 (0,0)):=(hB.block d (ax jI)).trans jI;have c0:=cell_of_row _ _ 0 _ _ _ h1;have c1:=cell_of_row _ _ 0 _ _ _ xO;have H:=aa h;have HB:=aa hB;have Du:=aa cX;have HI:=aa hi;have H2:=aa h2;have H3:=aa h3;clear h cX hop hB jI h1 h2 h3 hi xO;go_enter Tryz.func49,Tryz.ntmps49;go_wp2_with fail;refine (jn.out).mono ?_;rintro _ w1 ⟨k,s',sv,ev,rfl,cj,hg,hr,aF,hno⟩;dsimp only;obtain ⟨po,rfl⟩ : ∃ po,sv = .pointer po:=by
  by_cases hk:k=0
  ·obtain ⟨sb,cb,tb,rfl, -⟩:=aF hk;exact ⟨_,rfl⟩
  ·exact ⟨_,hno hk⟩
 have hg2:w1.heap[gf]? = some (.cells #[.pointer none] 92 (0,0)):=hg.keeps HI.out H2.out (by decide) (by decide) (by decide) (by decide);have hg3:w1.heap[ge]? = some (.cells #[.nilIface] 94 (0,0)):=hg.keeps HI.out H3.out (by decide) (by decide) (by decide) (by decide);have q1:=cell_of_row _ _ 0 _ _ _ hg2;have q2:=frozen_of_row _ _ 0 _ _ hg2;have q3:=cell_of_row _ _ 0 _ _ _ hg3;have q4:=frozen_of_row _ _ 0 _ _ hg3;have Rf:ev = .nilIface∨∃ ti pp,ev = .iface ti pp:=by
  rcases cj with ⟨-,h⟩|⟨-,a,b,h, -⟩
  ·exact .inl h
  ·exact .inr ⟨_,_,h⟩
 have HG:=aa hg;have xP:=aa cj;have HR:=aa hr;have fH:=aa aF;have wM:=aa hno;have G2:=aa hg2;have G3:=aa hg3;clear hg cj hr aF hno hg2 hg3;have hne:ge≠gf:=by simpa using ja G3.out G2.out (by decide)
 have Dv:(w1.setCell ⟨gf,0,none⟩ (.pointer po)).heap[ge]? = some (.cells #[.nilIface] 94 (0,0)):=(heap_setCell_other _ _ _ _ hne).trans G3.out;have q5:=cell_of_row _ _ 0 _ _ _ Dv;have q6:=frozen_of_row _ _ 0 _ _ Dv;have aV:∃ k s' sv Dw,sI RO nc nt Dc Dt s w ((w1.setCell ⟨gf,0,none⟩ (.pointer po)).setCell ⟨ge,0,none⟩ ev) k s' sv Dw/\((w1.setCell ⟨gf,0,none⟩ (.pointer po)).setCell ⟨ge,0,none⟩ ev).heap[gf]? = some (.cells #[sv] 92 (0,0))/\((w1.setCell ⟨gf,0,none⟩ (.pointer po)).setCell ⟨ge,0,none⟩ ev).heap[ge]? = some (.cells #[Dw] 94 (0,0)) /\
   ∀ k cur T,W.heap[k]? = some (.cells cur T (0,0))->k≠gf->k≠ge->T≠150->T≠214->T≠154->T≠5->((w1.setCell ⟨gf,0,none⟩ (.pointer po)).setCell ⟨ge,0,none⟩ ev).heap[k]? = some (.cells cur T (0,0)):=by
  have g0:=(aC.refl H.out HB.out).trans HG.out;have g1:aC s s' w (w1.setCell ⟨gf,0,none⟩ (.pointer po)):=g0.fX l2 G2.out (by decide) (by decide) (by decide) (by decide);have g2:aC s s' w ((w1.setCell ⟨gf,0,none⟩ (.pointer po)).setCell ⟨ge,0,none⟩ ev):=g1.fX l3 Dv (by decide) (by decide) (by decide) (by decide);refine ⟨k,s',.pointer po,ev,⟨(xP.out.put G2.out (by decide)).put Dv (by decide),g2,HR.out,fun hk=>?_,wM.out⟩,?_,?_,?_⟩
  ·obtain ⟨sb,cb,tb,e,hl,hs⟩:=fH.out hk;have hlo:=HB.out.size;exact ⟨sb,cb,tb,e,by omega,(hs.put G2.out (by decide) g1.ay (fun e=>by have:=Du.out.lt e;omega)).put Dv (by decide) g2.ay (fun e=>by have:=Du.out.lt e;omega)⟩
  ·rw [heap_setCell_other _ _ _ _ (fun e=>hne e.symm),heap_setCell_same _ gf 0 _ _ _ G2.out];rfl
  ·rw [heap_setCell_same _ ge 0 _ _ _ Dv];rfl
  ·intro k cur T hk n1 n2 t1 t2 t3 t4;rw [heap_setCell_other _ _ _ _ n2,heap_setCell_other _ _ _ _ n1];exact HG.out.keeps HI.out hk t1 t2 t3 t4
 have bG:=aa aV;clear aV;have G3H:=aa Dv;clear Dv
 rcases Rf with rfl|⟨ti,pp,rfl⟩
 ·go_wp2_with fail
  go_end0
  exact ⟨rfl,bG.out⟩
 ·go_wp2_with fail
  go_end0
  exact ⟨rfl,bG.out⟩
theorem sI.put {s s':ai} {w W:World} {k:Int} {sv ev v:Value} {b i:Nat} {cur:Array Value} {T:TypeId} (h:sI RO nc nt Dc Dt s w W k s' sv ev) (hg:Gl w) (hb:W.heap[b]? = some (.cells cur T (0,0))) (hl:w.heap.size<=b) (t0:T≠159) (t1:T≠150) (t2:T≠214) (t3:T≠154) (t4:T≠5) (t5:T≠167):sI RO nc nt Dc Dt s w (W.setCell ⟨b,i,none⟩ v) k s' sv ev:=by
 have g1:=h.go.fX (v:=v) (i:=i) hl hb t1 t2 t3 t4;refine ⟨h.ev.put hb t5,g1,h.r,fun hk=>?_,h.no⟩;obtain ⟨sb,cb,tb,e,hl2,hs⟩:=h.ok hk;exact ⟨sb,cb,tb,e,hl2,hs.put hb t0 g1.ay (fun e=>by have:=hg.lt e;omega)⟩
theorem Ol (s:ai) (w:World) (d:Nat) (h:s.In w) (cX:Gl w) (dI:fN s) (hop:XB RO nc nt Dc Dt s w) (jI:BD w d s.b) :
  Calls Tryz.prog 17 #[.pointer (some ⟨d,0,none⟩)] w fun e w'=>∃ k s' sv,e = .returned (.tuple #[sv,.int .i64 k])/\aC s s' w w'/\RO s.ds k s'.ds /\
   (k=0->∃ xb sb cb tb,sv = .pointer (some ⟨xb,0,none⟩)/\ej w' xb sb/\(w.heap.size<=sb/\w.heap.size<=cb/\w.heap.size<=tb)/\w.heap.size<=xb/\aI w' sb s' cb tb nc nt Dc Dt)/\(k≠0->sv = .pointer none):=by
 have hb3:=Al w (.cells #[.pointer (some ⟨d,0,none⟩)] 23) (.cells #[.pointer none] 92) (.cells #[.nilIface] 94);have k0:=IX w #[.pointer (some ⟨d,0,none⟩)] 23 (.cells #[.pointer none] 92) (.cells #[.nilIface] 94);have k1:=Fa w (.cells #[.pointer (some ⟨d,0,none⟩)] 23) #[.pointer none] 92 (.cells #[.nilIface] 94);have k2:=IY w (.cells #[.pointer (some ⟨d,0,none⟩)] 23) (.cells #[.pointer none] 92) #[.nilIface] 94;obtain ⟨W,hW⟩ : ∃ W,W=((w.alloc (.cells #[.pointer (some ⟨d,0,none⟩)] 23)).alloc (.cells #[.pointer none] 92)).alloc (.cells #[.nilIface] 94):=⟨_,rfl⟩;have Fb:∀ (fn:Fn) (first cap:Array Value) (w:World),(Instr.makeFunc fn first cap).run Tryz.prog w = .ok (.func fn first cap) w:=fun _ _ _ _=>rfl
 have c0:(w.alloc (.cells #[.pointer (some ⟨d,0,none⟩)] 23)).cell? ⟨w.heap.size,0,none⟩=some (.pointer (some ⟨d,0,none⟩)):=cell_of_row _ _ 0 _ _ _ (heap_alloc_new _ _);rw [<- hW] at hb3 k0 k1 k2;have HW:=aa hW;have Fc:W.heap.size=w.heap.size+3:=by rw [hW];simp
 obtain ⟨X,hX,Kj,x0,x1⟩:=Qnl W 27 3 (.int .i64 0) (.int .i64 0);have XC:Below w.heap.size w X:=hb3.trans (Kj.mono hb3.size);have na:=aa (XD 49 #[.pointer (some ⟨w.heap.size,0,none⟩),.pointer (some ⟨w.heap.size+1,0,none⟩),.pointer (some ⟨w.heap.size+1+1,0,none⟩)] W
  (fun W1=>(∃ k s' sv ev,sI RO nc nt Dc Dt s w W1 k s' sv ev/\W1.heap[w.heap.size+1]? = some (.cells #[sv] 92 (0,0))/\W1.heap[w.heap.size+1+1]? = some (.cells #[ev] 94 (0,0)))/\W1.heap[W.heap.size]? = some (.cells #[.int .i64 0] 27 (0,0))/\W1.heap[W.heap.size+1]? = some (.cells #[.int .i64 0] 3 (0,0))) (fun _ _=>False)
  (enters_of Tryz.func49 (by kernel_rfl) rfl) (by
   rw [<- hX];refine (Qmm s w X d w.heap.size (w.heap.size+1) (w.heap.size+1+1) h cX hop XC jI ((Kj.block _ (ax k0)).trans k0) ((Kj.block _ (ax k1)).trans k1) ((Kj.block _ (ax k2)).trans k2) (by omega) (by omega)).mono ?_;rintro _ Y ⟨rfl,k,s',sv,ev,y1,y2,y3,y4⟩;have z0:=y4 _ _ _ x0 (by omega) (by omega) (by decide) (by decide) (by decide) (by decide);have z1:=y4 _ _ _ x1 (by omega) (by omega) (by decide) (by decide) (by decide) (by decide);exact ⟨⟨z0,z1⟩,.inl ⟨rfl,⟨k,s',sv,ev,y1,y2,y3⟩,z0,z1⟩⟩))
 have j7:=aa hb3;have Du:=aa cX;have Rg:=aa dI;have H:=aa h;clear hW hX Kj x0 x1 XC hb3 k0 k1 k2 h cX dI hop jI;go_enter Tryz.func17,Tryz.ntmps17;go_wp2_with fail;rw [<- HW.out];refine (na.out).mono ?_;rintro e1 w1 he;obtain ⟨W1,⟨⟨k,s',sv,ev,hop,Bp,rM⟩,gL,hr1⟩,rfl,rfl⟩ : ∃ W1,((∃ k s' sv ev,sI RO nc nt Dc Dt s w W1 k s' sv ev/\W1.heap[w.heap.size+1]? = some (.cells #[sv] 92 (0,0))/\W1.heap[w.heap.size+1+1]? = some (.cells #[ev] 94 (0,0)))/\W1.heap[W.heap.size]? = some (.cells #[.int .i64 0] 27 (0,0))/\W1.heap[W.heap.size+1]? = some (.cells #[.int .i64 0] 3 (0,0)))/\e1 = .returned (.tuple #[.int .i64 0,.int .i64 0])/\w1=(W1.setCell ⟨W.heap.size,0,none⟩ (.int .i64 0)).setCell ⟨W.heap.size+1,0,none⟩ (.int .i64 0):=by
  rcases he with ⟨X,h1,h2,h3⟩|⟨p,X,h1, -⟩
  ·exact ⟨X,h1,h2,h3⟩
  ·exact h1.elim
 dsimp only;have Bq:W.heap.size+1≠W.heap.size:=by omega
 have Kl:(W1.setCell ⟨W.heap.size,0,none⟩ (.int .i64 0)).heap[W.heap.size+1]? = some (.cells #[.int .i64 0] 3 (0,0)):=(heap_setCell_other _ _ _ _ Bq).trans hr1;have hlo:=j7.out.size;have xQ:=(hop.put (v:=.int .i64 0) (i:=0) Du.out gL (by omega) (by decide) (by decide) (by decide) (by decide) (by decide) (by decide)).put (v:=.int .i64 0) (i:=0) Du.out Kl (by omega) (by decide) (by decide) (by decide) (by decide) (by decide) (by decide);have Br:((W1.setCell ⟨W.heap.size,0,none⟩ (.int .i64 0)).setCell ⟨W.heap.size+1,0,none⟩ (.int .i64 0)).heap[w.heap.size+1]? = some (.cells #[sv] 92 (0,0)):=(heap_setCell_other _ _ _ _ (by simp;omega)).trans ((heap_setCell_other _ _ _ _ (by simp;omega)).trans Bp);have Fe:((W1.setCell ⟨W.heap.size,0,none⟩ (.int .i64 0)).setCell ⟨W.heap.size+1,0,none⟩ (.int .i64 0)).heap[w.heap.size+1+1]? = some (.cells #[ev] 94 (0,0)):=(heap_setCell_other _ _ _ _ (by simp;omega)).trans ((heap_setCell_other _ _ _ _ (by simp;omega)).trans rM);generalize (W1.setCell ⟨W.heap.size,0,none⟩ (.int .i64 0)).setCell ⟨W.heap.size+1,0,none⟩ (.int .i64 0)=W2 at xQ Br Fe ⊢;have cf:=cell_of_row _ _ 0 _ _ _ Br;have ce:=cell_of_row _ _ 0 _ _ _ Fe;have jn:=aa xQ;have HGF:=aa Br;have wJ:=aa (IW xQ.ev (Du.out.go Rg.out xQ.go).1.err);clear hop xQ Bp rM Br Fe gL hr1 Kl na he;go_wp2_with fail;refine (wJ.out).mono ?_;rintro _ w3 ⟨rfl,hb3⟩;dsimp only;have cf3:=cell_later hb3 cf;have kI:=aa hb3;clear hb3 wJ cf ce
 by_cases hk:k=0
 ·subst hk;obtain ⟨sb,cb,tb,rfl,hl,hs⟩:=jn.out.ok rfl;have HS:=aa hs;clear hs;go_wp2_with fail;refine bodyPost_ret (results_tmp2 rfl _ _ _) rfl ?_;have bI:=kI.out.alloc kI.out.size (.cells #[.int .i32 0,.int .u32 0,.pointer (some ⟨sb,0,none⟩)] 108);have hz:=kI.out.size;have hz2:=jn.out.go.gr.size;exact ⟨0,s',_,rfl,jn.out.go.trans (aC.refl jn.out.go.ay bI),jn.out.r,fun _=>⟨_,sb,cb,tb,rfl,heap_alloc_new _ _,hl,by omega,HS.out.later bI⟩,fun hk=>absurd rfl hk⟩
 ·have XE:=jn.out.no hk;subst XE;go_wp2_with fail;refine bodyPost_ret (results_tmp2 rfl _ _ _) rfl ?_;exact ⟨k,s',_,rfl,jn.out.go.trans (aC.refl jn.out.go.ay kI.out),jn.out.r,fun h=>absurd h hk,fun _=>rfl⟩
end
end Go.Proofs.YtncigfibncmioaaGreatDoor
namespace Go.Proofs.YtncigfibncmioaaGreatDoor
open Go.RowKit
theorem QvJ (d n:Nat) (h:n<256):Tryz.prog.keyLits (d+1) 5 [.int .u8 ((n:Nat):Int)]=some [.int .u8 ((n:Nat):Int)]:=by
 have hw:(Lit.int .u8 ((n:Nat):Int)).wf=true:=by
  have h1:IntKind.min .u8=0:=by decide
  have h2:IntKind.max .u8=255:=by decide
  simp [Lit.wf,h1,h2];omega
 unfold Program.keyLits;rw [Tryz.underlying5];simp [hw]
theorem QvK (ds:List Nat) (i:Nat) (hi:i<ds.length):(((ah ds).toList.drop (i * 1)).take 1) = [.int .u8 ((ds.getD i 0:Nat):Int)]:=by
 rw [Nat.mul_one];have hl:i<(ah ds).toList.length:=by rw [Array.length_toList,aY];exact hi
 rw [List.drop_eq_getElem_cons hl,List.take_succ_cons,List.take_zero];congr 1;simp [ah,hi]
theorem Ql0:Tryz.prog.cellsOf 5=1:=by kernel_rfl
theorem MU (d:Nat) (ds:List Nat) (hlt:∀ i,ds.getD i 0<256):∀ (is:List Nat),(∀ i∈is,i<ds.length)->is.mapM (fun i=>Tryz.prog.keyLits (d+1) 5 (((ah ds).toList.drop (i * Tryz.prog.cellsOf 5)).take (Tryz.prog.cellsOf 5)))=some (is.map fun i=>[Lit.int .u8 ((ds.getD i 0:Nat):Int)])
 | [],_=>rfl
 | i::is,h=>by
  rw [List.mapM_cons,Ql0,QvK ds i (h i (by simp)),QvJ d _ (hlt i)];have ih:=MU d ds hlt is (fun j hj=>h j (by simp [hj]));rw [Ql0] at ih;rw [ih];rfl
theorem PW (ds:List Nat) (h:ds.length=32):((List.range 32).map fun i=>[Lit.int .u8 ((ds.getD i 0:Nat):Int)]).flatten=ds.map fun n=>Lit.int .u8 ((n:Nat):Int):=by
 have:((List.range 32).map fun i=>[Lit.int .u8 ((ds.getD i 0:Nat):Int)]).flatten=(List.range 32).map fun i=>Lit.int .u8 ((ds.getD i 0:Nat):Int):=by
  rw [<- List.flatMap_def];simp;rfl
 rw [this];apply List.ext_getElem
 ·simp [h]
 ·intro i h1 h2;simp only [List.length_map] at h2;simp [h2]
def dy (ds:List Nat):Lit:=.string (keyBytes (ds.map fun n=>Lit.int .u8 ((n:Nat):Int)))
theorem EB (ds:List Nat) (h:ds.length=32) (hlt:∀ i,ds.getD i 0<256):keyOf Tryz.prog 117 (.agg (ah ds))=some (dy ds):=by
 have hu:=Tryz.underlying117;have hc:Tryz.prog.cellsOf 117=32:=by kernel_rfl
 have hk:Tryz.prog.keyType 117=true:=by kernel_rfl
 have hf:(Value.agg (ah ds)).formed Tryz.prog 117=true:=by simp [Value.formed,hu,hc,aY,h]
 have hl:Tryz.prog.keyLits (Tryz.prog.types.size+1) 117 (ah ds).toList=some (ds.map fun n=>Lit.int .u8 ((n:Nat):Int)):=by
  rw [show Tryz.prog.types.size=(Tryz.prog.types.size - 1)+1 from by kernel_rfl];unfold Program.keyLits;rw [hu];simp only [];rw [if_pos (by rw [hc,Array.length_toList,aY,h]),MU _ ds hlt _ (fun i hi=>by rw [h];exact List.mem_range.1 hi)];exact congrArg some (PW ds h)
 unfold keyOf;rw [hu];simp only [hk,hf,Bool.and_self,if_true];show (Tryz.prog.keyLits _ _ (ah ds).toList).map _=_;rw [hl];rfl
theorem Ql1 {a b:List Nat} (h:(a.map fun n=>Lit.int .u8 ((n:Nat):Int))=b.map fun n=>Lit.int .u8 ((n:Nat):Int)):a=b:=by
 induction a generalizing b with
 | nil=>cases b with
  | nil=>rfl
  | cons y b=>cases h
 | cons x a ih=>cases b with
  | nil=>cases h
  | cons y b =>
   simp only [List.map_cons] at h;injection h with h1 h2
   injection h1 with _ h1
   rw [ih h2,Int.ofNat.inj h1]
theorem UB (d:Nat) (a b:List Nat) (ha:a.length=32) (hb:b.length=32) (ha':∀ i,a.getD i 0<256) (hb':∀ i,b.getD i 0<256) (w:World) :
  (Op.equalIn (d+2) 117 (.agg (ah a)) (.agg (ah b))).run Tryz.prog w = .ok (decide (a=b)) w:=by
 obtain ⟨i5,hi5⟩:=Option.isSome_iff_exists.1 (show (Tryz.prog.info? 5).isSome=true by kernel_rfl);rw [run_equalIn_array w (d+1) (ah a) (ah b) Tryz.underlying117 hi5];obtain ⟨r,hr,wA⟩:=run_eqItems_plain w d (e:=5) (by kernel_rfl) (ah a) (ah b) (List.range 32) _ _ (MU 0 a ha' _ (fun i hi=>by rw [ha];exact List.mem_range.1 hi)) (MU 0 b hb' _ (fun i hi=>by rw [hb];exact List.mem_range.1 hi));rw [PW a ha,PW b hb] at wA;have Aq:r=true ↔ a=b:=wA.trans ⟨Ql1,fun h=>by rw [h]⟩;have hd:r=decide (a=b):=by
  cases r with
  | true=>exact (decide_eq_true (Aq.1 rfl)).symm
  | false=>exact (decide_eq_false (fun h=>by cases Aq.2 h)).symm
 rw [<- hd];exact hr
theorem Qpc:Tryz.prog.eqGuardType Tryz.prog.depth 117=false:=by kernel_rfl
theorem PJ {ops:Array Oper} {Q:Exit->Act->World->Prop} {o:Oper} {rest:List Oper} {c:Act} {w:World} (hgd:o.guard=none) (x y:Operand) (k:TypeId) (hop:o.op=Op.binOp .eql 117 x y k) (a b:List Nat) (ha:a.length=32) (hb:b.length=32) (ha':∀ i,a.getD i 0<256) (hb':∀ i,b.getD i 0<256) (hx:c.eval x = .agg (ah a)) (hy:c.eval y = .agg (ah b))
  (hK:wpList Tryz.prog ops Q rest (c.put o.dst (.bool (decide (a=b)))) w):wpList Tryz.prog ops Q (o::rest) c w:=by
 refine wpList_plain hgd fun K' hK'=>?_
 have hr:=UB 9998 a b ha hb ha' hb' w;unfold Oper.wp execOp;simp only [hop,hx,hy,eqGuard,binOp,Op.equal,Op.maxDepth,Sem.run_bind,Sem.run_pure,run_program,Result.andThen_ok,Qpc,hr,Bool.not_true,Bool.not_false,Bool.false_eq_true,if_false,if_true];exact hK' _ _ hK
end Go.Proofs.YtncigfibncmioaaGreatDoor
