/-
  PROVED HERE: maps from paths to blocks, as lists of entries that rise; no text of the program.
-/
import Derived.Test.YtncigfibncmioaaGreatDoorDkPure
import Derived.Maps.Ext
namespace Go.Proofs.YtncigfibncmioaaGreatDoor
open Go.RowKit
def bZ (l:List DE):Prop:=l.Pairwise (fun x y=>bJ x.path y.path=true)
def uR:Value->Option (DataW Unit × List MemPlace)
 | .pointer none=>some (.nil,[])
 | .pointer (some ⟨b,0,none⟩)=>some (.lit (.int .i64 (b:Int)),[])
 | _=>none
theorem Qjp {v:Value} {z:DataW Unit × List MemPlace} (h:uR v=some z):(v = .pointer none/\z=(.nil,[]))∨∃ b:Nat,v = .pointer (some ⟨b,0,none⟩)/\z=(.lit (.int .i64 (b:Int)),[]):=by
 unfold uR at h
 split at h
 ·exact .inl ⟨rfl,by injection h with h;exact h.symm⟩
 ·exact .inr ⟨_,rfl,by injection h with h;exact h.symm⟩
 ·cases h
def bk (p:ByteArray):Lit:=.string p.data.toList
def dE (e:DE):Lit × DataW Unit:=(bk e.path,.lit (.int .i64 (e.blk:Int)))
def jd (l:List DE):DataW Unit:=.map (l.map dE)
def PM (P:Program) (k:TypeId) (w:World) (b:Nat) (l:List DE):Prop:=w.ownsMap P k uR b l.length (jd l)
theorem SS {P:Program} {k:TypeId} {w:World} {b n:Nat} {l:List DE} (h:w.ownsMap P k uR b n (jd l)):PM P k w b l:=by
 obtain ⟨es,clock,hb,F,hs,hD⟩:=h;refine ⟨es,clock,hb,F,?_,hD⟩;have h1:=congrArg (fun d=>Maps.size d) hD;simp only [jd,Maps.size,List.length_map,length_sorted,Array.length_toList] at h1;omega
theorem Qgx:∀ a b:List UInt8,bytesBefore a b=Op.bytesLess a b
 | [],[]=>rfl
 | [],_::_=>rfl
 | _::_,[]=>rfl
 | a::r,b::s=>by simp only [bytesBefore,Op.bytesLess,Qgx r s]
theorem zq (p q:ByteArray):(bk p).before (bk q)=bJ p q:=by
 show bytesBefore _ _=_;rw [Qgx,bJ,ByteArray.toList_eq,ByteArray.toList_eq]
theorem rW (p q:ByteArray):(bk p).sameKey (bk q)=decide (p=q):=by
 show (p.data.toList == q.data.toList)=_
 by_cases h:p=q
 ·subst h;simp
 ·rw [decide_eq_false h,beq_eq_false_iff_ne];exact fun e=>h (WideShapes.bytes_inj e)
theorem PM.rise {P:Program} {k:TypeId} {w:World} {b:Nat} {l:List DE} (h:PM P k w b l) (K:Maps.Keyed P k):bZ l:=by
 obtain ⟨es,e,hp,_⟩:=World.ownsMap.canon h K;injection e with e
 rw [<- e,List.pairwise_map] at hp;refine hp.imp ?_;intro x y Cl;rw [<- zq];exact Cl
theorem Qlq (p:ByteArray):∀ l:List DE,(l.map dE).find? (fun x=>x.1.sameKey (bk p))=(l.find? (fun e=>decide (e.path=p))).map dE
 | []=>rfl
 | e::es=>by
  simp only [List.map_cons,List.find?_cons];have:(dE e).1.sameKey (bk p)=decide (e.path=p):=rW _ _;rw [this]
  cases decide (e.path=p)
  ·exact Qlq p es
  ·rfl
theorem QhC (p:ByteArray):∀ l:List DE,aO p l=(l.find? (fun e=>decide (e.path=p))).map DE.blk
 | []=>rfl
 | e::es=>by
  unfold aO;rw [List.find?_cons]
  by_cases h:e.path=p
  ·simp [h]
  ·simp [h,QhC p es]
def vO:Option Nat->DataW Unit
 | none=>.nil
 | some b=>.lit (.int .i64 (b:Int))
theorem O3 (p:ByteArray) (l:List DE):(jd l).atKey (bk p) .nil=vO (aO p l):=by
 simp only [jd,DataW.atKey];rw [Qlq,QhC]
 cases l.find? (fun e=>decide (e.path=p))<;>rfl
theorem Qqg {v:Value} {o:Option Nat} {ps:List MemPlace} (h:uR v=some (vO o,ps)):v=Dz o:=by
 rcases Qjp h with ⟨rfl,e⟩|⟨b,rfl,e⟩
 ·cases o with
  | none=>rfl
  | some b=>cases e
 ·cases o with
  | none=>cases e
  | some c =>
   simp only [vO,Prod.mk.injEq,DataW.lit.injEq,Lit.int.injEq] at e;have:c=b:=by omega
   subst this;rfl
theorem PM.look {P:Program} {k t e:TypeId} {w:World} {b:Nat} {l:List DE} (h:PM P k w b l) (hk:P.underlying k=some .string) (ht:P.underlying t=some (.map k e)) (hz:(zeroValue e).run P w = .ok (.pointer none) w) (p:ByteArray) (hp:p.size<=maxLen) :
  (Instr.lookup t (.map (some b)) (.string p) false).run P w = .ok (Dz (aO p l)) w:=by
 obtain ⟨v,ps,hr,hv⟩:=World.ownsMap.lookup h (Maps.string_keyed hk) ht hz (zd:=.nil) (zp:=[]) rfl (WideMaps.keyOf_string_mk hk hp);rw [show Lit.string p.data.toList=bk p from rfl,O3] at hv;rw [hr,Qqg hv]
theorem Ap (p:ByteArray) (ob:Option Nat):∀ l:List DE,dc p ob l true=l.filter (fun e=>!decide (e.path=p))
 | []=>rfl
 | e::es=>by
  unfold dc;rw [List.filter_cons]
  by_cases h:e.path=p
  ·simp [h,Ap p ob es]
  ·simp [h,Ap p ob es]
theorem QsD (p:ByteArray) (l:List DE):(jd l).del (bk p)=jd (dc p none l true):=by
 show DataW.map ((l.map dE).filter fun x=>!x.1.sameKey (bk p))=_;rw [List.filter_map,Ap];unfold jd;congr 2;refine List.filter_congr fun e _=>?_
 show (!(bk e.path).sameKey (bk p))=_;rw [rW]
theorem mo (p:ByteArray):bJ p p=false:=by
 rw [<- zq];exact WideAt.bytes_irrefl _
theorem uA {p q r:ByteArray} (h1:bJ p q=true) (h2:bJ q r=true):bJ p r=true:=by
 rw [<- zq] at *;exact WideShapes.bytes_trans _ _ _ h1 h2
theorem Fk {p q:ByteArray} (h:p≠q):bJ p q=true∨bJ q p=true:=by
 rw [<- zq,<- zq];exact WideAt.bytes_total _ _ (fun e=>h (WideShapes.bytes_inj e))
theorem filter_all (p:ByteArray):∀ l:List DE,(∀ e∈l,e.path≠p)->l.filter (fun e=>!decide (e.path=p))=l:=by
 intro l h;rw [List.filter_eq_self];intro e he;simp [h e he]
theorem Qjq (p:ByteArray) (nb:Nat):∀ l:List DE,bZ l->(dc p (some nb) l false).map dE=DataW.insert (bk p,.lit (.int .i64 (nb:Int))) ((l.filter (fun e=>!decide (e.path=p))).map dE)
 | [],_=>rfl
 | e::es,hr=>by
  obtain ⟨h1,h2⟩:=List.pairwise_cons.1 hr;have ih:=Qjq p nb es h2;unfold dc;rw [List.filter_cons]
  by_cases he:e.path=p
  ·subst he;have hall:es.filter (fun x=>!decide (x.path=e.path))=es:=filter_all _ _ (fun x hx GC=>by have:=h1 x hx;rw [GC,mo] at this;cases this);rw [hall] at ih;simp only [mo,Bool.and_false,Bool.false_eq_true,if_false,if_true,List.nil_append,Bool.or_self,decide_true,Bool.not_true];rw [hall,ih]
  ·by_cases hl:bJ p e.path=true
   ·have hall:es.filter (fun x=>!decide (x.path=p))=es:=filter_all _ _ (fun x hx GC=>by
     have:=uA hl (h1 x hx);rw [GC,mo] at this;cases this)
    have hb:(bk p).before (dE e).1=true:=by rw [show (dE e).1=bk e.path from rfl,zq];exact hl
    simp only [hl,he,Bool.not_false,Bool.and_self,if_true,if_false,Bool.or_true,decide_false,Bool.not_false];rw [Ap,hall];simp only [List.map_cons,DataW.insert,hb,if_true,List.cons_append,List.nil_append];rfl
   ·have hl':bJ p e.path=false:=by simpa using hl
    have hb:(bk p).before (dE e).1=false:=by rw [show (dE e).1=bk e.path from rfl,zq];exact hl'
    simp only [hl',he,Bool.and_false,Bool.false_eq_true,if_false,Bool.or_self,decide_false,Bool.not_false,if_true,List.nil_append,List.cons_append,List.map_cons,DataW.insert,hb];rw [ih]
theorem SQ (p:ByteArray) (nb:Nat) (l:List DE) (hr:bZ l):(jd l).put (bk p) (.lit (.int .i64 (nb:Int)))=jd (dc p (some nb) l false):=by
 unfold jd;rw [Qjq p nb l hr];show DataW.map (DataW.insert _ ((l.map dE).filter fun x=>!x.1.sameKey (bk p)))=_;rw [List.filter_map];congr 4
 funext e
 show (!(bk e.path).sameKey (bk p))=_;rw [rW]
theorem PM.later {P:Program} {k:TypeId} {w w':World} {b:Nat} {l:List DE} (h:PM P k w b l) (hs:w'.heap[b]? = w.heap[b]?):PM P k w' b l:=by
 obtain ⟨es,clock,hb,r⟩:=h;exact ⟨es,clock,hs.trans hb,r⟩
theorem PM.isMap {P:Program} {k:TypeId} {w:World} {b:Nat} {l:List DE} (h:PM P k w b l):∃ es clock,w.heap[b]? = some (.map es clock):=by
 obtain ⟨es,clock,hb,r⟩:=h;exact ⟨es,clock,hb⟩
theorem PM.lt {P:Program} {k:TypeId} {w:World} {b:Nat} {l:List DE} (h:PM P k w b l):b<w.heap.size:=World.ownsMap.lt h
section
variable {P:Program} (w:World) {ops:Array Oper} {rest:List Oper} {o:Oper} {a:Act} {Q:Exit->Act->World->Prop}
theorem ZB (hg:o.guard=none) (m x:Operand) (t k:TypeId) (hop:o.op=Op.call { callee:=Callee.builtin Builtin.delete,args:=#[m,x],argTypes:=#[t,k] })
  (e:TypeId) (hk:P.underlying k=some .string) (ht:P.underlying t=some (.map k e)) (b:Nat) (l:List DE)
  (hm:a.eval m = .map (some b)) (hown:PM P k w b l) (p:ByteArray) (hx:a.eval x = .string p) (hp:p.size<=maxLen)
  (hK:∀ w',PM P k w' b (dc p none l true)->w.mapTurned w' b->wpList P ops Q rest (a.put o.dst (.tuple #[])) w') :
  wpList P ops Q (o::rest) a w:=by
 refine wpList_delete_own w hg m x t k hop e (Maps.string_keyed hk) ht uR b l.length (jd l) hm hown _ (bk p) hx (WideMaps.keyOf_string_mk hk hp) ?_;intro w' h1 h2;rw [QsD] at h1;exact hK w' (SS h1) h2
theorem Qii (hg:o.guard=none) (m x v:Operand) (t:TypeId) (hop:o.op=Op.mapUpdate t m x v)
  (k e:TypeId) (hk:P.underlying k=some .string) (ht:P.underlying t=some (.map k e)) (b:Nat) (l:List DE)
  (hm:a.eval m = .map (some b)) (hown:PM P k w b l) (hn:l.length<maxLen) (p:ByteArray) (nb:Nat) (hx:a.eval x = .string p) (hv:a.eval v = .pointer (some ⟨nb,0,none⟩)) (hp:p.size<=maxLen)
  (hK:∀ w',PM P k w' b (dc p (some nb) l false)->w.mapTurned w' b->wpList P ops Q rest (a.put o.dst undef) w') :
  wpList P ops Q (o::rest) a w:=by
 refine wpList_mapUpdate_in w hg m x v t hop k e (Maps.string_keyed hk) ht uR b l.length (jd l) hm hown hn _ _ (bk p) hx hv (WideMaps.keyOf_string_mk hk hp) (.lit (.int .i64 (nb:Int))) [] rfl ?_;intro w' h1 h2;rw [SQ p nb l (PM.rise hown (Maps.string_keyed hk))] at h1;exact hK w' (SS h1) h2
end
/-! Entries and changes carried from the files' blocks of one side to those of the other. -/
def vX (l:List DE):Prop:=∀ e∈l,e.path≠⟨#[]⟩
theorem Ou {p:ByteArray} {ob:Option Nat}:∀ {l:List DE} {d:Bool} {e:DE},e∈dc p ob l d->(e∈l/\e.path≠p)∨e.path=p
 | [],d,e,h=>by
  unfold dc at h
  cases d<;>cases ob<;>simp at h
  exact .inr (by rw [h])
 | x::l,d,e,h=>by
  unfold dc at h
  rcases List.mem_append.1 h with h|h
  ·rcases List.mem_append.1 h with h|h
   ·cases hc:(!d && bJ p x.path)<;>cases ob<;>simp [hc] at h
    exact .inr (by rw [h])
   ·by_cases hx:x.path=p
    ·simp [hx] at h
    ·simp only [hx,if_false,List.mem_singleton] at h;exact .inl ⟨by rw [h];simp,by rw [h];exact hx⟩
  ·rcases Ou h with ⟨h1,h2⟩|h1
   ·exact .inl ⟨by simp [h1],h2⟩
   ·exact .inr h1
theorem Pb {p:ByteArray} {ob:Option Nat} {l:List DE} {d:Bool} (h:vX l) (hp:p≠⟨#[]⟩):vX (dc p ob l d):=by
 intro e he
 rcases Ou he with ⟨h1,_⟩|h1
 ·exact h e h1
 ·rw [h1];exact hp
theorem QfJ {l:List DE} (h:vX l) (bg too:ByteArray) (nb:Nat):vX (mq l bg too nb):=by
 unfold mq
 by_cases hf:bg=⟨#[]⟩
 ·by_cases ht:too=⟨#[]⟩
  ·simpa [hf,ht] using h
  ·simpa [hf,ht] using Pb h ht
 ·by_cases ht:too=⟨#[]⟩
  ·simpa [hf,ht] using Pb h hf
  ·simpa [hf,ht] using Pb (Pb h hf) ht
def cC (l:List DE) (c:CH):List DE:=if c.too=⟨#[]⟩ then dc c.bg none l true else dc c.too (some c.blk) (dc c.bg none l true) false
theorem Qhe {l:List DE} (h:vX l):dc ⟨#[]⟩ none l true=l:=by
 induction l with
 | nil=>rfl
 | cons e es ih =>
  have h0:=h e (by simp);unfold dc;simp only [Bool.not_true,Bool.false_and,Bool.false_eq_true,if_false,h0,Bool.true_or,List.nil_append,List.cons_append];rw [ih (fun x hx=>h x (by simp [hx]))]
theorem Ov {l:List DE} (h:vX l) (c:CH):cC l c=mq l c.bg c.too c.blk:=by
 unfold cC mq
 by_cases hf:c.bg=⟨#[]⟩
 ·simp only [hf,if_true,Qhe h]
 ·simp only [hf,if_false]
def fh (l:List DE) (cs:List CH):List DE:=cs.foldl (fun l c=>mq l c.bg c.too c.blk) l
theorem Tp:∀ (cs:List CH) {l:List DE},vX l->vX (fh l cs)
 | [],_,h=>h
 | _::cs,_,h=>Tp cs (QfJ h _ _ _)
theorem Rn:∀ (cs:List CH) {l:List DE},vX l->cs.foldl cC l=fh l cs
 | [],_,_=>rfl
 | c::cs,l,h=>by
  show cs.foldl cC (cC l c)=fh (mq l c.bg c.too c.blk) cs;rw [Ov h,Rn cs (QfJ h _ _ _)]
theorem Ro (l:List DE) (cs:List CH) (c:CH):fh l (cs ++ [c])=mq (fh l cs) c.bg c.too c.blk:=by
 unfold fh;rw [List.foldl_append];rfl
theorem Tq:∀ (cs:List CH) {l:List DE} {e:DE},e∈fh l cs->e∈l∨∃ c∈cs,e.blk=c.blk
 | [],_,_,h=>.inl h
 | c::cs,l,e,h=>by
  rcases Tq cs (l:=mq l c.bg c.too c.blk) h with h1|⟨x,hx,hb⟩
  ·rcases Qmv h1 with h2|h2
   ·exact .inl h2
   ·exact .inr ⟨c,by simp,h2⟩
  ·exact .inr ⟨x,by simp [hx],hb⟩
structure Inv (R:dz):Prop where
 go:R.now=fh R.safe R.aw
 ne:vX R.safe
theorem Inv.kg {R:dz} (h:Inv R):vX R.now:=by rw [h.go];exact Tp _ h.ne
theorem Inv.wrote {R:dz} (h:Inv R):Inv R.wrote:=⟨h.go,h.ne⟩
theorem Inv.push {R:dz} (h:Inv R) (c:CH):Inv { R with now:=mq R.now c.bg c.too c.blk,aw:=R.aw ++ [c] }:=⟨by dsimp only;rw [Ro,<- h.go],h.ne⟩
theorem Inv.sync {R:dz} (h:Inv R):Inv { R with safe:=R.now,aw:=[] }:=⟨rfl,h.kg⟩
def cF (x:ByteArray × Int) (k:Int):ByteArray × Int :=
 let n:=(x.2+min (max k 0) ((x.1.size:Int) - x.2)).toNat
 (x.1.extract 0 n,(n:Int))
def nr (nd:Nat->ByteArray × Int):List DE->List Int->(Nat->ByteArray × Int)
 | [],_=>nd
 | e::es,ks=>nr (cB nd e.blk (cF (nd e.blk) (ks.headD 0))) es ks.tail
section
variable {α:Type} (key:α->ByteArray)
def aq (l:List α):Prop:=l.Pairwise fun x y=>bJ (key x) (key y)=true
def aQ (n:ByteArray) (l:List α):Option α:=l.find? fun e=>decide (key e=n)
def ag (t:α):List α->List α
 | []=>[t]
 | e::es=>if key e=key t then t::es else if bJ (key t) (key e) then t::e::es else e::ag t es
def aB (n:ByteArray) (l:List α):List α:=l.filter fun e=>!decide (key e=n)
theorem UN (n:ByteArray):aQ key n []=none:=rfl
theorem ib (n:ByteArray) (e:α) (es:List α):aQ key n (e::es)=if key e=n then some e else aQ key n es:=by
 unfold aQ;rw [List.find?_cons]
 by_cases h:key e=n<;>simp [h]
variable {key}
theorem tT {n:ByteArray} {l:List α} {t:α} (h:aQ key n l=some t):t∈l/\key t=n:=⟨List.mem_of_find?_eq_some h,by simpa using List.find?_some h⟩
theorem tL {n:ByteArray} {l:List α} (h:aQ key n l=none):∀ e∈l,key e≠n:=fun e he h2=>by
 unfold aQ at h;have:=List.find?_eq_none.1 h e he;simp [h2] at this
theorem Et {n:ByteArray} {l:List α} (h:∀ e∈l,key e≠n):aQ key n l=none:=by
 unfold aQ;exact List.find?_eq_none.2 fun e he=>by simp [h e he]
theorem aq.ne {e:α} {es:List α} (h:aq key (e::es)):∀ x∈es,key x≠key e:=fun x hx GC=>by
 have:=(List.pairwise_cons.1 h).1 x hx;rw [GC,mo] at this
 cases this
theorem lD {l:List α} (hr:aq key l) {t:α} (h:t∈l):aQ key (key t) l=some t:=by
 induction l with
 | nil=>cases h
 | cons e es ih =>
  rw [ib]
  rcases List.mem_cons.1 h with rfl|h
  ·simp
  ·rw [if_neg (fun e1=>hr.ne t h e1.symm)];exact ih (List.pairwise_cons.1 hr).2 h
theorem Eu {l:List α} (hr:aq key l) {a b:α} (ha:a∈l) (hb:b∈l) (h:key a=key b):a=b:=by
 have h1:=lD hr ha;rw [h,lD hr hb] at h1;injection h1 with h1
 exact h1.symm
theorem JB {n:ByteArray} {l:List α} (h:∀ e∈l,key e≠n):aB key n l=l:=by
 unfold aB;rw [List.filter_eq_self];intro e he;simp [h e he]
theorem UO (n:ByteArray) (e:α) (es:List α):aB key n (e::es)=if key e=n then aB key n es else e::aB key n es:=by
 unfold aB;rw [List.filter_cons]
 by_cases h:key e=n<;>simp [h]
theorem jA {n:ByteArray} {l:List α} {x:α}:x∈aB key n l ↔ x∈l/\key x≠n:=by
 unfold aB;simp
theorem iT (n:ByteArray) {l:List α} (h:aq key l):aq key (aB key n l):=List.Pairwise.sublist List.filter_sublist h
theorem qX (n m:ByteArray):∀ l:List α,aQ key n (aB key m l)=if n=m then none else aQ key n l
 | []=>by simp [aB,aQ]
 | e::es=>by
  rw [UO,ib];have ih:=qX n m es
  by_cases he:key e=m
  ·rw [if_pos he,ih]
   by_cases hn:n=m
   ·simp [hn]
   ·rw [if_neg hn,if_neg hn,if_neg (fun h=>hn (h.symm.trans he))]
  ·rw [if_neg he,ib,ih]
   by_cases hn:n=m
   ·subst hn;simp [he]
   ·simp only [if_neg hn]
theorem ln {t x:α}:∀ {l:List α},x∈ag key t l->x=t∨(x∈l)
 | [],h=>by simpa [ag] using h
 | e::es,h=>by
  unfold ag at h
  split at h
  ·rcases List.mem_cons.1 h with h|h
   ·exact .inl h
   ·exact .inr (by simp [h])
  ·split at h
   ·rcases List.mem_cons.1 h with h|h
    ·exact .inl h
    ·exact .inr h
   ·rcases List.mem_cons.1 h with h|h
    ·exact .inr (by simp [h])
    ·rcases ln h with h|h
     ·exact .inl h
     ·exact .inr (by simp [h])
theorem eA (t:α):∀ {l:List α},aq key l->aq key (ag key t l)
 | [],_=>by simp [ag,aq]
 | e::es,h=>by
  obtain ⟨h1,h2⟩:=List.pairwise_cons.1 h;unfold ag
  by_cases he:key e=key t
  ·rw [if_pos he];exact List.pairwise_cons.2 ⟨fun x hx=>by rw [<- he];exact h1 x hx,h2⟩
  ·rw [if_neg he]
   by_cases hl:bJ (key t) (key e)=true
   ·rw [if_pos hl];exact List.pairwise_cons.2 ⟨fun x hx=>by
     rcases List.mem_cons.1 hx with rfl|hx
     ·exact hl
     ·exact uA hl (h1 x hx),h⟩
   ·rw [if_neg hl];refine List.pairwise_cons.2 ⟨fun x hx=>?_,eA t h2⟩
    rcases ln hx with rfl|hx
    ·exact (Fk (Ne.symm he)).resolve_left hl
    ·exact h1 x hx
theorem fw (n:ByteArray) (t:α):∀ {l:List α},aq key l->aQ key n (ag key t l)=if n=key t then some t else aQ key n l
 | [],_=>by
  unfold ag;rw [ib,UN]
  by_cases h:n=key t
  ·rw [if_pos h,if_pos h.symm]
  ·rw [if_neg h,if_neg (Ne.symm h)]
 | e::es,hr=>by
  obtain ⟨h1,h2⟩:=List.pairwise_cons.1 hr;unfold ag
  by_cases he:key e=key t
  ·rw [if_pos he,ib,ib]
   by_cases h:n=key t
   ·rw [if_pos h,if_pos h.symm]
   ·rw [if_neg h,if_neg (Ne.symm h),if_neg (fun h3=>h (h3.symm.trans he))]
  ·rw [if_neg he]
   by_cases hl:bJ (key t) (key e)=true
   ·rw [if_pos hl,ib]
    by_cases h:n=key t
    ·rw [if_pos h,if_pos h.symm]
    ·rw [if_neg h,if_neg (Ne.symm h)]
   ·rw [if_neg hl,ib,ib,fw n t h2]
    by_cases h:n=key t
    ·rw [if_pos h,if_neg (fun h3=>he (h3.trans h))];simp [h]
    ·simp only [if_neg h]
theorem rZ:∀ {l m:List α},aq key l->aq key m->(∀ n,aQ key n l=aQ key n m)->l=m
 | [],[],_,_,_=>rfl
 | [],e::es,_,_,h=>by
  have:=h (key e);rw [UN,ib,if_pos rfl] at this
  cases this
 | e::es,[],_,_,h=>by
  have:=h (key e);rw [UN,ib,if_pos rfl] at this
  cases this
 | e::es,f::fs,hl,hm,h=>by
  obtain ⟨l1,l2⟩:=List.pairwise_cons.1 hl;obtain ⟨m1,m2⟩:=List.pairwise_cons.1 hm;have he:key e=key f:=by
   by_cases ED:key e=key f
   ·exact ED
   ·exfalso
    rcases Fk ED with hx|hx
    ·have:=h (key e);rw [ib,if_pos rfl] at this;have:=tT this.symm
     rcases List.mem_cons.1 this.1 with h3|h3
     ·exact ED (by rw [<- h3])
     ·have:=uA hx (m1 _ h3);rw [mo] at this
      cases this
    ·have:=h (key f);rw [ib (key:=key) (key f) f fs,if_pos rfl] at this;have:=tT this
     rcases List.mem_cons.1 this.1 with h3|h3
     ·exact ED (by rw [<- h3])
     ·have:=uA hx (l1 _ h3);rw [mo] at this
      cases this
  have ED:e=f:=by
   have:=h (key e);rw [ib,if_pos rfl,ib,if_pos he.symm] at this;injection this
  subst ED;rw [rZ l2 m2 (fun n=>by
   have:=h n;rw [ib,ib] at this
   by_cases hn:key e=n
   ·subst hn;rw [Et (fun x hx=>hl.ne x hx),Et (fun x hx=>hm.ne x hx)]
   ·rwa [if_neg hn,if_neg hn] at this)]
theorem Ux {t:α}:∀ {l:List α},aq key l->(∃ e∈l,key e=key t)->ag key t l=l.map fun e=>if key e=key t then t else e
 | [],_,⟨_,h,_⟩=>by cases h
 | e::es,hr,⟨x,hx,hn⟩=>by
  obtain ⟨h1,h2⟩:=List.pairwise_cons.1 hr;unfold ag
  by_cases he:key e=key t
  ·rw [if_pos he,List.map_cons,if_pos he];congr 1
   symm
   conv=>rhs;rw [<- List.map_id es]
   refine List.map_congr_left fun y hy=>?_
   rw [if_neg (fun h3=>hr.ne y hy (h3.trans he.symm))];rfl
  ·have hx':x∈es:=by
    rcases List.mem_cons.1 hx with rfl|h
    ·exact absurd hn he
    ·exact h
   have hl:¬ bJ (key t) (key e)=true:=fun hl=>by
    have:=uA hl (h1 x hx');rw [hn,mo] at this
    cases this
   rw [if_neg he,if_neg hl,List.map_cons,if_neg he,Ux h2 ⟨x,hx',hn⟩]
theorem AP (t:α):∀ (l:List α),(ag key t l).length<=l.length+1
 | []=>by simp [ag]
 | e::es=>by
  have:=AP t es;unfold ag
  split
  ·simp
  ·split
   ·simp
   ·simp only [List.length_cons];omega
theorem Jz (n:ByteArray) (l:List α):(aB key n l).length<=l.length:=List.length_filter_le _ _
theorem T3 (f:α->Nat) (t:α):∀ {l:List α},aq key l->((ag key t l).map f).sum=f t+((aB key (key t) l).map f).sum
 | [],_=>by simp [ag,aB]
 | e::es,hr=>by
  obtain ⟨h1,h2⟩:=List.pairwise_cons.1 hr;unfold ag;rw [UO]
  by_cases he:key e=key t
  ·rw [if_pos he,if_pos he,JB (fun x hx h3=>hr.ne x hx (h3.trans he.symm))];simp
  ·rw [if_neg he,if_neg he]
   by_cases hl:bJ (key t) (key e)=true
   ·rw [if_pos hl,JB (fun x hx h3=>by
     have:=uA hl (h1 x hx);rw [h3,mo] at this
     cases this)]
    simp
   ·rw [if_neg hl];simp only [List.map_cons,List.sum_cons,T3 f t h2];omega
variable (key)
def mE (val:α->Value) (t:α):Lit × DataW Value:=(bk (key t),.held (val t))
def mD (val:α->Value) (l:List α):DataW Value:=.map (l.map (mE key val))
variable {key} {val:α->Value}
theorem QoT (n:ByteArray):∀ l:List α,(l.map (mE key val)).find? (fun x=>x.1.sameKey (bk n))=(aQ key n l).map (mE key val)
 | []=>rfl
 | e::es=>by
  rw [ib];simp only [List.map_cons,List.find?_cons];have:(mE key val e).1.sameKey (bk n)=decide (key e=n):=rW _ _;rw [this]
  by_cases h:key e=n
  ·simp [h]
  ·simp only [decide_eq_false h,if_neg h];exact QoT n es
theorem JI (n:ByteArray) (l:List α) (zd:DataW Value):(mD key val l).atKey (bk n) zd=((aQ key n l).map fun t=>DataW.held (val t)).getD zd:=by
 simp only [mD,DataW.atKey];rw [QoT]
 cases aQ key n l<;>rfl
theorem Mw {l:List α} {kl:Lit} (h:Maps.has (mD key val l) kl=true):∃ t∈l,kl=bk (key t):=by
 simp only [Maps.has,mD,List.any_map,List.any_eq_true] at h;obtain ⟨t,ht,hk⟩:=h;exact ⟨t,ht,(WideAt.sameKey_eq hk).symm⟩
theorem Mu (n:ByteArray) (l:List α):Maps.has (mD key val l) (bk n)=(aQ key n l).isSome:=by
 simp only [Maps.has,mD]
 induction l with
 | nil=>rfl
 | cons e es ih =>
  have:(mE key val e).1.sameKey (bk n)=decide (key e=n):=rW _ _;simp only [List.map_cons,List.any_cons,this,ih];rw [ib]
  by_cases h:key e=n<;>simp [h]
theorem JH (l:List α):Maps.size (mD key val l)=l.length:=by simp [mD,Maps.size]
theorem QlN (t:α):∀ l:List α,aq key l->(ag key t l).map (mE key val)=DataW.insert (bk (key t),.held (val t)) ((aB key (key t) l).map (mE key val))
 | [],_=>rfl
 | e::es,hr=>by
  obtain ⟨h1,h2⟩:=List.pairwise_cons.1 hr;have ih:=QlN t es h2;unfold ag;rw [UO]
  by_cases he:key e=key t
  ·have hd:aB key (key t) es=es:=JB (fun x hx h3=>hr.ne x hx (h3.trans he.symm));rw [if_pos he,if_pos he,hd]
   cases es with
   | nil=>rfl
   | cons f fs =>
    have hb:(bk (key t)).before (mE key val f).1=true:=by rw [show (mE key val f).1=bk (key f) from rfl,zq,<- he];exact h1 f (by simp)
    simp only [List.map_cons,DataW.insert,hb,if_true];rfl
  ·rw [if_neg he,if_neg he]
   by_cases hl:bJ (key t) (key e)=true
   ·have hd:aB key (key t) es=es:=JB (fun x hx GC=>by
     have:=uA hl (h1 x hx);rw [GC,mo] at this;cases this)
    have hb:(bk (key t)).before (mE key val e).1=true:=by rw [show (mE key val e).1=bk (key e) from rfl,zq];exact hl
    rw [if_pos hl,hd];simp only [List.map_cons,DataW.insert,hb,if_true];rfl
   ·have hl':bJ (key t) (key e)=false:=by simpa using hl
    have hb:(bk (key t)).before (mE key val e).1=false:=by rw [show (mE key val e).1=bk (key e) from rfl,zq];exact hl'
    rw [if_neg hl];simp only [List.map_cons,DataW.insert,hb,Bool.false_eq_true,if_false];rw [ih]
theorem Jy (t:α) (l:List α) (hr:aq key l):(mD key val l).put (bk (key t)) (.held (val t))=mD key val (ag key t l):=by
 unfold mD;rw [QlN t l hr];show DataW.map (DataW.insert _ ((l.map (mE key val)).filter fun x=>!x.1.sameKey (bk (key t))))=_;rw [List.filter_map];unfold aB;congr 4
 funext e
 show (!(bk (key e)).sameKey (bk (key t)))=_;rw [rW]
theorem QrU (n:ByteArray) (l:List α):(mD key val l).del (bk n)=mD key val (aB key n l):=by
 show DataW.map ((l.map (mE key val)).filter fun x=>!x.1.sameKey (bk n))=_;rw [List.filter_map];unfold mD aB;congr 2;refine List.filter_congr fun e _=>?_
 show (!(bk (key e)).sameKey (bk n))=_;rw [rW]
theorem GQ {P:Program} {k:TypeId} {R:Value->Option (DataW Value × List MemPlace)} {w:World} {b n:Nat} {l:List α} (h:w.ownsMap P k R b n (mD key val l)) (K:Maps.Keyed P k):aq key l:=by
 obtain ⟨es,e,hp,_⟩:=World.ownsMap.canon h K;injection e with e
 rw [<- e,List.pairwise_map] at hp;refine hp.imp ?_;intro x y Cl;rw [<- zq];exact Cl
theorem PB {P:Program} {k:TypeId} {R:Value->Option (DataW Value × List MemPlace)} {w:World} {b n:Nat} {l:List α} (h:w.ownsMap P k R b n (mD key val l)):w.ownsMap P k R b l.length (mD key val l):=by
 obtain ⟨es,clock,hb,F,hs,hD⟩:=h;refine ⟨es,clock,hb,F,?_,hD⟩;have h1:=congrArg (fun d=>Maps.size d) hD;simp only [mD,Maps.size,List.length_map,length_sorted,Array.length_toList] at h1;omega
end
end Go.Proofs.YtncigfibncmioaaGreatDoor
