/-
  PROVED HERE: what the program's disks and the document's have in common: entries, changes of paths, what a crash leaves; no walk.
-/
import Derived.Test.YtncigfibncmioaaGreatDoorKPick
import Derived.Test.YtncigfibncmioaaGreatDoorDig
import Derived.Deep.CutRange
import Derived.Deep.RegionLaw
import Derived.Deep.AppendLies
namespace Go.Proofs.YtncigfibncmioaaGreatDoor
open Go.RowKit
structure DE where
 path:ByteArray
 blk:Nat
def gV:DE:=⟨⟨#[]⟩,0⟩
def DE.cells (e:DE):List Value:=[.string e.path,.pointer (some ⟨e.blk,0,none⟩)]
def aK (s:ByteArray):Bool:=decide (1<=s.size) && decide (s.size<=80)
def aO (p:ByteArray):List DE->Option Nat
 | []=>none
 | e::es=>if e.path=p then some e.blk else aO p es
def Dz:Option Nat->Value
 | none=>.pointer none
 | some b=>.pointer (some ⟨b,0,none⟩)
def bJ (a b:ByteArray):Bool:=Op.bytesLess a.toList b.toList
def dc (p:ByteArray) (ob:Option Nat):List DE->Bool->List DE
 | [],done=>if done then [] else (match ob with|some b=>[⟨p,b⟩]|none=>[])
 | e::es,done=>(if !done && bJ p e.path then (match ob with|some b=>[⟨p,b⟩]|none=>[]) else [])++(if e.path=p then [] else [e])++dc p ob es (done || bJ p e.path)
theorem QvS (e:DE):∀ u∈e.cells,u.oneCell'=true:=by
 intro u hu;simp only [DE.cells,List.mem_cons,List.not_mem_nil,or_false] at hu
 rcases hu with rfl|rfl<;>rfl
theorem Yt (p:ByteArray) (ob:Option Nat):∀ (l:List DE) (d:Bool),(dc p ob l d).length<=2 * l.length+1
 | [],d=>by
  unfold dc
  cases d<;>cases ob<;>simp
 | e::es,d=>by
  have ih:=Yt p ob es (d || bJ p e.path);unfold dc;rw [List.length_append,List.length_append,List.length_cons];have h1:∀ (b:Bool),(if b=true then (match ob with|some b=>[(⟨p,b⟩ : DE)]|none=>[]) else []).length<=1:=by
   intro b;cases b<;>cases ob<;>simp
  have h2:(if e.path=p then [] else [e]).length<=1:=by split<;>simp
  have h3:=h1 (!d && bJ p e.path);omega
theorem Yu:∀ l:List UInt8,Op.bytesLess l l=false
 | []=>by simp [Op.bytesLess]
 | x::l=>by simp [Op.bytesLess,Yu l]
structure CH where
 bg:ByteArray
 too:ByteArray
 blk:Nat
def CH.cells (c:CH):List Value:=[.string c.bg,.string c.too,.pointer (some ⟨c.blk,0,none⟩)]
structure dz where
 room:Int
 now:List DE
 safe:List DE
 aw:List CH
 count:Int
 left:Int
def mq (l:List DE) (bg too:ByteArray) (nb:Nat):List DE :=
 let l1:=if bg=⟨#[]⟩ then l else dc bg none l true
 if too=⟨#[]⟩ then l1 else dc too (some nb) l1 false
theorem toList_empty (s:ByteArray) (h:s≠⟨#[]⟩):s.toList.isEmpty=false:=by
 cases e:s.toList.isEmpty with
 | false=>rfl
 | true=>exact absurd ((toList_inj s ⟨#[]⟩).1 ((List.isEmpty_iff.1 e).trans (by rw [ByteArray.toList_eq]))) h
def gH (nd:Nat->ByteArray × Int):List DE->Nat
 | []=>0
 | e::es=>(nd e.blk).1.size+gH nd es
theorem DA {p:ByteArray}:∀ {l:List DE} {b:Nat},aO p l=some b->∃ e∈l,e.blk=b
 | [],b,h=>by cases h
 | e::es,b,h=>by
  unfold aO at h
  split at h
  ·injection h with h;exact ⟨e,by simp,h⟩
  ·obtain ⟨x,hx,he⟩:=DA h;exact ⟨x,by simp [hx],he⟩
theorem Qt4 (c:CH):∀ u∈c.cells,u.oneCell'=true:=by
 intro u hu;simp only [CH.cells,List.mem_cons,List.not_mem_nil,or_false] at hu
 rcases hu with rfl|rfl|rfl<;>rfl
theorem eO {w:World} {base:Nat} {e:TypeId} {size:Nat} {v:Value} {n:Nat} {xs:List Value} (h:w.ownsRow base e size v n xs):∀ k,v.ownBlock=some k->∃ cur,w.heap[k]? = some (.cells cur e (0,0)):=by
 intro k hk
 rcases h.2 with ⟨rfl,_⟩|⟨g,cap,cur,rfl,_,hg,_⟩
 ·simp [Value.ownBlock] at hk
 ·simp only [Value.ownBlock,Option.some.injEq] at hk;subst hk;exact ⟨cur,hg⟩
theorem ja {w:World} {g b:Nat} {c1 c2:Array Value} {t1 t2:TypeId} {f1 f2:Nat × Nat} (h1:w.heap[g]? = some (.cells c1 t1 f1)) (h2:w.heap[b]? = some (.cells c2 t2 f2)) (ht:t1≠t2):g≠b:=by
 intro e;subst e;rw [h1] at h2;injection h2 with h2
 injection h2 with _ h3
 exact ht h3
def dz.wrote (R:dz):dz:={ R with count:=R.count+1,left:=if 0<R.left then R.left - 1 else R.left }
def cB (nd:Nat->ByteArray × Int) (nb:Nat) (x:ByteArray × Int):Nat->ByteArray × Int:=fun k=>if k=nb then x else nd k
theorem QpU {S:Nat->Prop} {w w2 w':World} (hb:Below w.heap.size w w2) (h:Gr S w2 w'):Gr S w w' :=
 ⟨h.os.trans hb.os,h.tape.trans hb.tape,h.output.trans hb.output,Nat.le_trans hb.size h.size,fun k hk hs=>(h.block k (Nat.lt_of_lt_of_le hk hb.size) hs).trans (hb.block k hk)⟩
def kN (R:dz):Prop:=0<=R.count/\R.count<1000000000000 /\ -1<=R.left/\R.left<=9223372036854775807
theorem Fo {p:ByteArray} {ob:Option Nat}:∀ {l:List DE} {d:Bool} {e:DE},e∈dc p ob l d->e∈l∨∃ b,ob=some b/\e.blk=b
 | [],d,e,h=>by
  unfold dc at h
  cases d<;>cases ob<;>simp at h
  right;exact ⟨_,rfl,by rw [h]⟩
 | x::xs,d,e,h=>by
  unfold dc at h;rw [List.mem_append,List.mem_append] at h
  rcases h with (h|h)|h
  ·split at h
   ·cases ob with
    | none=>simp at h
    | some b=>simp only [List.mem_singleton] at h;right;exact ⟨b,rfl,by rw [h]⟩
   ·simp at h
  ·split at h
   ·simp at h
   ·simp only [List.mem_singleton] at h;left;rw [h];exact List.mem_cons_self
  ·rcases Fo h with h|h
   ·left;exact List.mem_cons_of_mem _ h
   ·right;exact h
theorem Qmv {l:List DE} {bg too:ByteArray} {nb:Nat} {e:DE} (h:e∈mq l bg too nb):e∈l∨e.blk=nb:=by
 have h1:∀ x,x∈(if bg=⟨#[]⟩ then l else dc bg none l true)->x∈l:=by
  intro x hx
  split at hx
  ·exact hx
  ·rcases Fo hx with hx|⟨b,hb, -⟩
   ·exact hx
   ·cases hb
 unfold mq at h;dsimp only at h
 split at h
 ·exact .inl (h1 e h)
 ·rcases Fo h with h|⟨b,hb,he⟩
  ·exact .inl (h1 e h)
  ·injection hb with hb;right;rw [he,hb]
theorem Yv (nd:Nat->ByteArray × Int) (nb:Nat) (x y:ByteArray × Int):cB (cB nd nb y) nb x=cB nd nb x:=by
 funext k
 unfold cB
 by_cases h:k=nb<;>simp [h]
theorem Qns (s:ByteArray):(⟨#[]⟩ : ByteArray)++s=s:=by
 obtain ⟨d⟩:=s;rw [ByteArray.mk_append_mk];simp
end Go.Proofs.YtncigfibncmioaaGreatDoor
