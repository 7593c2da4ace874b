/-
  PROVED HERE: maps from paths to blocks, as lists of entries that rise; no text of the program.
-/
import Derived.Test.YtncigfibncmioaaGreatDoorDkPure
import Derived.Maps.RangeWalk
import Derived.Maps.Ext
import Derived.StringKeys
namespace Go.Proofs.YtncigfibncmioaaGreatDoor
open Go.RowKit
def Rise (l:List DE):Prop:=l.Pairwise (fun x y=>lessB x.path y.path=true)
def ptrRd:Value→Option (DataW Unit × List MemPlace)
 | .pointer none=>some (.nil,[])
 | .pointer (some ⟨b,0,none⟩)=>some (.lit (.int .i64 (b:Int)),[])
 | _=>none
theorem ptrRd_inv {v:Value} {z:DataW Unit × List MemPlace} (h:ptrRd v=some z):(v = .pointer none∧z=(.nil,[]))∨∃ b:Nat,v = .pointer (some ⟨b,0,none⟩)∧z=(.lit (.int .i64 (b:Int)),[]):=by
 unfold ptrRd at h
 split at h
 ·exact .inl ⟨rfl,by injection h with h;exact h.symm⟩
 ·exact .inr ⟨_,rfl,by injection h with h;exact h.symm⟩
 ·cases h
def kOf (p:ByteArray):Lit:=.string p.data.toList
def dE (e:DE):Lit × DataW Unit:=(kOf e.path,.lit (.int .i64 (e.blk:Int)))
def dOf (l:List DE):DataW Unit:=.map (l.map dE)
def PM (P:Program) (k:TypeId) (w:World) (b:Nat) (l:List DE):Prop:=w.ownsMap P k ptrRd b l.length (dOf l)
theorem pm_tight {P:Program} {k:TypeId} {w:World} {b n:Nat} {l:List DE} (h:w.ownsMap P k ptrRd b n (dOf l)):PM P k w b l:=by
 obtain ⟨es,clock,hb,F,hs,hD⟩:=h
 refine ⟨es,clock,hb,F,?_,hD⟩
 have h1:=congrArg (fun d=>Maps.size d) hD
 simp only [dOf,Maps.size,List.length_map,length_sorted,Array.length_toList] at h1
 omega
theorem before_less:∀ a b:List UInt8,bytesBefore a b=Op.bytesLess a b
 | [],[]=>rfl
 | [],_::_=>rfl
 | _::_,[]=>rfl
 | a::r,b::s=>by simp only [bytesBefore,Op.bytesLess,before_less r s]
theorem kOf_before (p q:ByteArray):(kOf p).before (kOf q)=lessB p q:=by
 show bytesBefore _ _=_
 rw [before_less,lessB,ByteArray.toList_eq,ByteArray.toList_eq]
theorem kOf_same (p q:ByteArray):(kOf p).sameKey (kOf q)=decide (p=q):=by
 show (p.data.toList == q.data.toList)=_
 by_cases h:p=q
 ·subst h;simp
 ·rw [decide_eq_false h,beq_eq_false_iff_ne]
  exact fun e=>h (WideShapes.bytes_inj e)
theorem PM.rise {P:Program} {k:TypeId} {w:World} {b:Nat} {l:List DE} (h:PM P k w b l) (K:Maps.Keyed P k):Rise l:=by
 obtain ⟨es,e,hp,_⟩:=World.ownsMap.canon h K
 injection e with e
 rw [← e,List.pairwise_map] at hp
 refine hp.imp ?_
 intro x y hxy
 rw [← kOf_before];exact hxy
theorem dOf_find (p:ByteArray):∀ l:List DE,(l.map dE).find? (fun x=>x.1.sameKey (kOf p))=(l.find? (fun e=>decide (e.path=p))).map dE
 | []=>rfl
 | e::es=>by
  simp only [List.map_cons,List.find?_cons]
  have:(dE e).1.sameKey (kOf p)=decide (e.path=p):=kOf_same _ _
  rw [this]
  cases decide (e.path=p)
  ·exact dOf_find p es
  ·rfl
theorem findE_find (p:ByteArray):∀ l:List DE,findE p l=(l.find? (fun e=>decide (e.path=p))).map DE.blk
 | []=>rfl
 | e::es=>by
  unfold findE
  rw [List.find?_cons]
  by_cases h:e.path=p
  ·simp [h]
  ·simp [h,findE_find p es]
def ptrD:Option Nat→DataW Unit
 | none=>.nil
 | some b=>.lit (.int .i64 (b:Int))
theorem dOf_at (p:ByteArray) (l:List DE):(dOf l).atKey (kOf p) .nil=ptrD (findE p l):=by
 simp only [dOf,DataW.atKey]
 rw [dOf_find,findE_find]
 cases l.find? (fun e=>decide (e.path=p))<;>rfl
theorem ptrRd_of {v:Value} {o:Option Nat} {ps:List MemPlace} (h:ptrRd v=some (ptrD o,ps)):v=ptrOf o:=by
 rcases ptrRd_inv h with ⟨rfl,e⟩|⟨b,rfl,e⟩
 ·cases o with
  | none=>rfl
  | some b=>cases e
 ·cases o with
  | none=>cases e
  | some c =>
   simp only [ptrD,Prod.mk.injEq,DataW.lit.injEq,Lit.int.injEq] at e
   have:c=b:=by omega
   subst this;rfl
theorem PM.look {P:Program} {k t e:TypeId} {w:World} {b:Nat} {l:List DE} (h:PM P k w b l) (hk:P.underlying k=some .string) (ht:P.underlying t=some (.map k e)) (hz:(zeroValue e).run P w = .ok (.pointer none) w) (p:ByteArray) (hp:p.size≤maxLen) :
  (Instr.lookup t (.map (some b)) (.string p) false).run P w = .ok (ptrOf (findE p l)) w:=by
 obtain ⟨v,ps,hr,hv⟩:=World.ownsMap.lookup h (Maps.string_keyed hk) ht hz (zd:=.nil) (zp:=[]) rfl (WideMaps.keyOf_string_mk hk hp)
 rw [show Lit.string p.data.toList=kOf p from rfl,dOf_at] at hv
 rw [hr,ptrRd_of hv]
theorem withE_done (p:ByteArray) (ob:Option Nat):∀ l:List DE,withE p ob l true=l.filter (fun e=>!decide (e.path=p))
 | []=>rfl
 | e::es=>by
  unfold withE
  rw [List.filter_cons]
  by_cases h:e.path=p
  ·simp [h,withE_done p ob es]
  ·simp [h,withE_done p ob es]
theorem dOf_del (p:ByteArray) (l:List DE):(dOf l).del (kOf p)=dOf (withE p none l true):=by
 show DataW.map ((l.map dE).filter fun x=>!x.1.sameKey (kOf p))=_
 rw [List.filter_map,withE_done]
 unfold dOf
 congr 2
 refine List.filter_congr fun e _=>?_
 show (!(kOf e.path).sameKey (kOf p))=_
 rw [kOf_same]
theorem less_irrefl (p:ByteArray):lessB p p=false:=by
 rw [← kOf_before];exact WideAt.bytes_irrefl _
theorem less_trans {p q r:ByteArray} (h1:lessB p q=true) (h2:lessB q r=true):lessB p r=true:=by
 rw [← kOf_before] at *
 exact WideShapes.bytes_trans _ _ _ h1 h2
theorem less_total {p q:ByteArray} (h:p≠q):lessB p q=true∨lessB q p=true:=by
 rw [← kOf_before,← kOf_before]
 exact WideAt.bytes_total _ _ (fun e=>h (WideShapes.bytes_inj e))
theorem filter_all (p:ByteArray):∀ l:List DE,(∀ e∈l,e.path≠p)→l.filter (fun e=>!decide (e.path=p))=l:=by
 intro l h
 rw [List.filter_eq_self]
 intro e he
 simp [h e he]
theorem withE_put (p:ByteArray) (nb:Nat):∀ l:List DE,Rise l→(withE p (some nb) l false).map dE=DataW.insert (kOf p,.lit (.int .i64 (nb:Int))) ((l.filter (fun e=>!decide (e.path=p))).map dE)
 | [],_=>rfl
 | e::es,hr=>by
  obtain ⟨h1,h2⟩:=List.pairwise_cons.1 hr
  have ih:=withE_put p nb es h2
  unfold withE
  rw [List.filter_cons]
  by_cases he:e.path=p
  ·subst he
   have hall:es.filter (fun x=>!decide (x.path=e.path))=es:=filter_all _ _ (fun x hx hxe=>by have:=h1 x hx;rw [hxe,less_irrefl] at this;cases this)
   rw [hall] at ih
   simp only [less_irrefl,Bool.and_false,Bool.false_eq_true,if_false,if_true,List.nil_append,Bool.or_self,decide_true,Bool.not_true]
   rw [hall,ih]
  ·by_cases hl:lessB p e.path=true
   ·have hall:es.filter (fun x=>!decide (x.path=p))=es:=filter_all _ _ (fun x hx hxe=>by
     have:=less_trans hl (h1 x hx)
     rw [hxe,less_irrefl] at this;cases this)
    have hb:(kOf p).before (dE e).1=true:=by rw [show (dE e).1=kOf e.path from rfl,kOf_before];exact hl
    simp only [hl,he,Bool.not_false,Bool.and_self,if_true,if_false,Bool.or_true,decide_false,Bool.not_false]
    rw [withE_done,hall]
    simp only [List.map_cons,DataW.insert,hb,if_true,List.cons_append,List.nil_append]
    rfl
   ·have hl':lessB p e.path=false:=by simpa using hl
    have hb:(kOf p).before (dE e).1=false:=by rw [show (dE e).1=kOf e.path from rfl,kOf_before];exact hl'
    simp only [hl',he,Bool.and_false,Bool.false_eq_true,if_false,Bool.or_self,decide_false,Bool.not_false,if_true,List.nil_append,List.cons_append,List.map_cons,DataW.insert,hb]
    rw [ih]
theorem dOf_put (p:ByteArray) (nb:Nat) (l:List DE) (hr:Rise l):(dOf l).put (kOf p) (.lit (.int .i64 (nb:Int)))=dOf (withE p (some nb) l false):=by
 unfold dOf
 rw [withE_put p nb l hr]
 show DataW.map (DataW.insert _ ((l.map dE).filter fun x=>!x.1.sameKey (kOf p)))=_
 rw [List.filter_map]
 congr 4
 funext e
 show (!(kOf e.path).sameKey (kOf p))=_
 rw [kOf_same]
theorem PM.later {P:Program} {k:TypeId} {w w':World} {b:Nat} {l:List DE} (h:PM P k w b l) (hs:w'.heap[b]? = w.heap[b]?):PM P k w' b l:=by
 obtain ⟨es,clock,hb,r⟩:=h
 exact ⟨es,clock,hs.trans hb,r⟩
theorem PM.isMap {P:Program} {k:TypeId} {w:World} {b:Nat} {l:List DE} (h:PM P k w b l):∃ es clock,w.heap[b]? = some (.map es clock):=by
 obtain ⟨es,clock,hb,r⟩:=h
 exact ⟨es,clock,hb⟩
theorem PM.lt {P:Program} {k:TypeId} {w:World} {b:Nat} {l:List DE} (h:PM P k w b l):b<w.heap.size:=World.ownsMap.lt h
section
variable {P:Program} (w:World) {ops:Array Oper} {rest:List Oper} {o:Oper} {a:Act} {Q:Exit→Act→World→Prop}
theorem wpList_del_pm (hg:o.guard=none) (m x:Operand) (t k:TypeId) (hop:o.op=Op.call { callee:=Callee.builtin Builtin.delete,args:=#[m,x],argTypes:=#[t,k] })
  (e:TypeId) (hk:P.underlying k=some .string) (ht:P.underlying t=some (.map k e)) (b:Nat) (l:List DE)
  (hm:a.eval m = .map (some b)) (hown:PM P k w b l) (p:ByteArray) (hx:a.eval x = .string p) (hp:p.size≤maxLen)
  (hK:∀ w',PM P k w' b (withE p none l true)→w.mapTurned w' b→wpList P ops Q rest (a.put o.dst (.tuple #[])) w') :
  wpList P ops Q (o::rest) a w:=by
 refine wpList_delete_own w hg m x t k hop e (Maps.string_keyed hk) ht ptrRd b l.length (dOf l) hm hown _ (kOf p) hx (WideMaps.keyOf_string_mk hk hp) ?_
 intro w' h1 h2
 rw [dOf_del] at h1
 exact hK w' (pm_tight h1) h2
theorem wpList_put_pm (hg:o.guard=none) (m x v:Operand) (t:TypeId) (hop:o.op=Op.mapUpdate t m x v)
  (k e:TypeId) (hk:P.underlying k=some .string) (ht:P.underlying t=some (.map k e)) (b:Nat) (l:List DE)
  (hm:a.eval m = .map (some b)) (hown:PM P k w b l) (hn:l.length<maxLen) (p:ByteArray) (nb:Nat) (hx:a.eval x = .string p) (hv:a.eval v = .pointer (some ⟨nb,0,none⟩)) (hp:p.size≤maxLen)
  (hK:∀ w',PM P k w' b (withE p (some nb) l false)→w.mapTurned w' b→wpList P ops Q rest (a.put o.dst undef) w') :
  wpList P ops Q (o::rest) a w:=by
 refine wpList_mapUpdate_in w hg m x v t hop k e (Maps.string_keyed hk) ht ptrRd b l.length (dOf l) hm hown hn _ _ (kOf p) hx hv (WideMaps.keyOf_string_mk hk hp) (.lit (.int .i64 (nb:Int))) [] rfl ?_
 intro w' h1 h2
 rw [dOf_put p nb l (PM.rise hown (Maps.string_keyed hk))] at h1
 exact hK w' (pm_tight h1) h2
end
/-! Entries and changes carried from the files' blocks of one side to those of the other. -/
def NoEmp (l:List DE):Prop:=∀ e∈l,e.path≠⟨#[]⟩
theorem withE_path {p:ByteArray} {ob:Option Nat}:∀ {l:List DE} {d:Bool} {e:DE},e∈withE p ob l d→(e∈l∧e.path≠p)∨e.path=p
 | [],d,e,h=>by
  unfold withE at h
  cases d<;>cases ob<;>simp at h
  exact .inr (by rw [h])
 | x::l,d,e,h=>by
  unfold withE at h
  rcases List.mem_append.1 h with h|h
  ·rcases List.mem_append.1 h with h|h
   ·cases hc:(!d && lessB p x.path)<;>cases ob<;>simp [hc] at h
    exact .inr (by rw [h])
   ·by_cases hx:x.path=p
    ·simp [hx] at h
    ·simp only [hx,if_false,List.mem_singleton] at h
     exact .inl ⟨by rw [h];simp,by rw [h];exact hx⟩
  ·rcases withE_path h with ⟨h1,h2⟩|h1
   ·exact .inl ⟨by simp [h1],h2⟩
   ·exact .inr h1
theorem withE_noEmp {p:ByteArray} {ob:Option Nat} {l:List DE} {d:Bool} (h:NoEmp l) (hp:p≠⟨#[]⟩):NoEmp (withE p ob l d):=by
 intro e he
 rcases withE_path he with ⟨h1,_⟩|h1
 ·exact h e h1
 ·rw [h1];exact hp
theorem afterE_noEmp {l:List DE} (h:NoEmp l) (frm too:ByteArray) (nb:Nat):NoEmp (afterE l frm too nb):=by
 unfold afterE
 by_cases hf:frm=⟨#[]⟩
 ·by_cases ht:too=⟨#[]⟩
  ·simpa [hf,ht] using h
  ·simpa [hf,ht] using withE_noEmp h ht
 ·by_cases ht:too=⟨#[]⟩
  ·simpa [hf,ht] using withE_noEmp h hf
  ·simpa [hf,ht] using withE_noEmp (withE_noEmp h hf) ht
def applyE (l:List DE) (c:CH):List DE:=if c.too=⟨#[]⟩ then withE c.frm none l true else withE c.too (some c.blk) (withE c.frm none l true) false
theorem withE_nil_path {l:List DE} (h:NoEmp l):withE ⟨#[]⟩ none l true=l:=by
 induction l with
 | nil=>rfl
 | cons e es ih =>
  have h0:=h e (by simp)
  unfold withE
  simp only [Bool.not_true,Bool.false_and,Bool.false_eq_true,if_false,h0,Bool.true_or,List.nil_append,List.cons_append]
  rw [ih (fun x hx=>h x (by simp [hx]))]
theorem applyE_after {l:List DE} (h:NoEmp l) (c:CH):applyE l c=afterE l c.frm c.too c.blk:=by
 unfold applyE afterE
 by_cases hf:c.frm=⟨#[]⟩
 ·simp only [hf,if_true,withE_nil_path h]
 ·simp only [hf,if_false]
def goE (l:List DE) (cs:List CH):List DE:=cs.foldl (fun l c=>afterE l c.frm c.too c.blk) l
theorem goE_noEmp:∀ (cs:List CH) {l:List DE},NoEmp l→NoEmp (goE l cs)
 | [],_,h=>h
 | _::cs,_,h=>goE_noEmp cs (afterE_noEmp h _ _ _)
theorem goE_apply:∀ (cs:List CH) {l:List DE},NoEmp l→cs.foldl applyE l=goE l cs
 | [],_,_=>rfl
 | c::cs,l,h=>by
  show cs.foldl applyE (applyE l c)=goE (afterE l c.frm c.too c.blk) cs
  rw [applyE_after h,goE_apply cs (afterE_noEmp h _ _ _)]
theorem goE_snoc (l:List DE) (cs:List CH) (c:CH):goE l (cs ++ [c])=afterE (goE l cs) c.frm c.too c.blk:=by
 unfold goE;rw [List.foldl_append];rfl
theorem goE_mem:∀ (cs:List CH) {l:List DE} {e:DE},e∈goE l cs→e∈l∨∃ c∈cs,e.blk=c.blk
 | [],_,_,h=>.inl h
 | c::cs,l,e,h=>by
  rcases goE_mem cs (l:=afterE l c.frm c.too c.blk) h with h1|⟨x,hx,hb⟩
  ·rcases afterE_mem h1 with h2|h2
   ·exact .inl h2
   ·exact .inr ⟨c,by simp,h2⟩
  ·exact .inr ⟨x,by simp [hx],hb⟩
structure Inv (R:RDk):Prop where
 go:R.now=goE R.safe R.chg
 ne:NoEmp R.safe
theorem Inv.nowNe {R:RDk} (h:Inv R):NoEmp R.now:=by rw [h.go];exact goE_noEmp _ h.ne
theorem Inv.wrote {R:RDk} (h:Inv R):Inv R.wrote:=⟨h.go,h.ne⟩
theorem Inv.push {R:RDk} (h:Inv R) (c:CH):Inv { R with now:=afterE R.now c.frm c.too c.blk,chg:=R.chg ++ [c] }:=⟨by dsimp only;rw [goE_snoc,← h.go],h.ne⟩
theorem Inv.sync {R:RDk} (h:Inv R):Inv { R with safe:=R.now,chg:=[] }:=⟨rfl,h.nowNe⟩
def cutK (x:ByteArray × Int) (k:Int):ByteArray × Int :=
 let n:=(x.2+min (max k 0) ((x.1.size:Int) - x.2)).toNat
 (x.1.extract 0 n,(n:Int))
def crashN (nd:Nat→ByteArray × Int):List DE→List Int→(Nat→ByteArray × Int)
 | [],_=>nd
 | e::es,ks=>crashN (setNd nd e.blk (cutK (nd e.blk) (ks.headD 0))) es ks.tail
section
variable {α:Type} (key:α→ByteArray)
def RiseK (l:List α):Prop:=l.Pairwise fun x y=>lessB (key x) (key y)=true
def findK (n:ByteArray) (l:List α):Option α:=l.find? fun e=>decide (key e=n)
def insK (t:α):List α→List α
 | []=>[t]
 | e::es=>if key e=key t then t::es else if lessB (key t) (key e) then t::e::es else e::insK t es
def delK (n:ByteArray) (l:List α):List α:=l.filter fun e=>!decide (key e=n)
theorem findK_nil (n:ByteArray):findK key n []=none:=rfl
theorem findK_cons (n:ByteArray) (e:α) (es:List α):findK key n (e::es)=if key e=n then some e else findK key n es:=by
 unfold findK
 rw [List.find?_cons]
 by_cases h:key e=n<;>simp [h]
variable {key}
theorem findK_some {n:ByteArray} {l:List α} {t:α} (h:findK key n l=some t):t∈l∧key t=n:=⟨List.mem_of_find?_eq_some h,by simpa using List.find?_some h⟩
theorem findK_none {n:ByteArray} {l:List α} (h:findK key n l=none):∀ e∈l,key e≠n:=fun e he h2=>by
 unfold findK at h
 have:=List.find?_eq_none.1 h e he
 simp [h2] at this
theorem findK_out {n:ByteArray} {l:List α} (h:∀ e∈l,key e≠n):findK key n l=none:=by
 unfold findK
 exact List.find?_eq_none.2 fun e he=>by simp [h e he]
theorem RiseK.ne {e:α} {es:List α} (h:RiseK key (e::es)):∀ x∈es,key x≠key e:=fun x hx hxe=>by
 have:=(List.pairwise_cons.1 h).1 x hx
 rw [hxe,less_irrefl] at this
 cases this
theorem findK_mem {l:List α} (hr:RiseK key l) {t:α} (h:t∈l):findK key (key t) l=some t:=by
 induction l with
 | nil=>cases h
 | cons e es ih =>
  rw [findK_cons]
  rcases List.mem_cons.1 h with rfl|h
  ·simp
  ·rw [if_neg (fun e1=>hr.ne t h e1.symm)]
   exact ih (List.pairwise_cons.1 hr).2 h
theorem riseK_inj {l:List α} (hr:RiseK key l) {a b:α} (ha:a∈l) (hb:b∈l) (h:key a=key b):a=b:=by
 have h1:=findK_mem hr ha
 rw [h,findK_mem hr hb] at h1
 injection h1 with h1
 exact h1.symm
theorem delK_all {n:ByteArray} {l:List α} (h:∀ e∈l,key e≠n):delK key n l=l:=by
 unfold delK
 rw [List.filter_eq_self]
 intro e he
 simp [h e he]
theorem delK_cons (n:ByteArray) (e:α) (es:List α):delK key n (e::es)=if key e=n then delK key n es else e::delK key n es:=by
 unfold delK
 rw [List.filter_cons]
 by_cases h:key e=n<;>simp [h]
theorem delK_mem {n:ByteArray} {l:List α} {x:α}:x∈delK key n l ↔ x∈l∧key x≠n:=by
 unfold delK
 simp
theorem riseK_del (n:ByteArray) {l:List α} (h:RiseK key l):RiseK key (delK key n l):=List.Pairwise.sublist List.filter_sublist h
theorem findK_del (n m:ByteArray):∀ l:List α,findK key n (delK key m l)=if n=m then none else findK key n l
 | []=>by simp [delK,findK]
 | e::es=>by
  rw [delK_cons,findK_cons]
  have ih:=findK_del n m es
  by_cases he:key e=m
  ·rw [if_pos he,ih]
   by_cases hn:n=m
   ·simp [hn]
   ·rw [if_neg hn,if_neg hn,if_neg (fun h=>hn (h.symm.trans he))]
  ·rw [if_neg he,findK_cons,ih]
   by_cases hn:n=m
   ·subst hn
    simp [he]
   ·simp only [if_neg hn]
theorem insK_mem {t x:α}:∀ {l:List α},x∈insK key t l→x=t∨(x∈l)
 | [],h=>by simpa [insK] using h
 | e::es,h=>by
  unfold insK at h
  split at h
  ·rcases List.mem_cons.1 h with h|h
   ·exact .inl h
   ·exact .inr (by simp [h])
  ·split at h
   ·rcases List.mem_cons.1 h with h|h
    ·exact .inl h
    ·exact .inr h
   ·rcases List.mem_cons.1 h with h|h
    ·exact .inr (by simp [h])
    ·rcases insK_mem h with h|h
     ·exact .inl h
     ·exact .inr (by simp [h])
theorem riseK_ins (t:α):∀ {l:List α},RiseK key l→RiseK key (insK key t l)
 | [],_=>by simp [insK,RiseK]
 | e::es,h=>by
  obtain ⟨h1,h2⟩:=List.pairwise_cons.1 h
  unfold insK
  by_cases he:key e=key t
  ·rw [if_pos he]
   exact List.pairwise_cons.2 ⟨fun x hx=>by rw [← he];exact h1 x hx,h2⟩
  ·rw [if_neg he]
   by_cases hl:lessB (key t) (key e)=true
   ·rw [if_pos hl]
    exact List.pairwise_cons.2 ⟨fun x hx=>by
     rcases List.mem_cons.1 hx with rfl|hx
     ·exact hl
     ·exact less_trans hl (h1 x hx),h⟩
   ·rw [if_neg hl]
    refine List.pairwise_cons.2 ⟨fun x hx=>?_,riseK_ins t h2⟩
    rcases insK_mem hx with rfl|hx
    ·exact (less_total (Ne.symm he)).resolve_left hl
    ·exact h1 x hx
theorem findK_ins (n:ByteArray) (t:α):∀ {l:List α},RiseK key l→findK key n (insK key t l)=if n=key t then some t else findK key n l
 | [],_=>by
  unfold insK
  rw [findK_cons,findK_nil]
  by_cases h:n=key t
  ·rw [if_pos h,if_pos h.symm]
  ·rw [if_neg h,if_neg (Ne.symm h)]
 | e::es,hr=>by
  obtain ⟨h1,h2⟩:=List.pairwise_cons.1 hr
  unfold insK
  by_cases he:key e=key t
  ·rw [if_pos he,findK_cons,findK_cons]
   by_cases h:n=key t
   ·rw [if_pos h,if_pos h.symm]
   ·rw [if_neg h,if_neg (Ne.symm h),if_neg (fun h3=>h (h3.symm.trans he))]
  ·rw [if_neg he]
   by_cases hl:lessB (key t) (key e)=true
   ·rw [if_pos hl,findK_cons]
    by_cases h:n=key t
    ·rw [if_pos h,if_pos h.symm]
    ·rw [if_neg h,if_neg (Ne.symm h)]
   ·rw [if_neg hl,findK_cons,findK_cons,findK_ins n t h2]
    by_cases h:n=key t
    ·rw [if_pos h,if_neg (fun h3=>he (h3.trans h))]
     simp [h]
    ·simp only [if_neg h]
theorem riseK_ext:∀ {l m:List α},RiseK key l→RiseK key m→(∀ n,findK key n l=findK key n m)→l=m
 | [],[],_,_,_=>rfl
 | [],e::es,_,_,h=>by
  have:=h (key e)
  rw [findK_nil,findK_cons,if_pos rfl] at this
  cases this
 | e::es,[],_,_,h=>by
  have:=h (key e)
  rw [findK_nil,findK_cons,if_pos rfl] at this
  cases this
 | e::es,f::fs,hl,hm,h=>by
  obtain ⟨l1,l2⟩:=List.pairwise_cons.1 hl
  obtain ⟨m1,m2⟩:=List.pairwise_cons.1 hm
  have he:key e=key f:=by
   by_cases hef:key e=key f
   ·exact hef
   ·exfalso
    rcases less_total hef with hx|hx
    ·have:=h (key e)
     rw [findK_cons,if_pos rfl] at this
     have:=findK_some this.symm
     rcases List.mem_cons.1 this.1 with h3|h3
     ·exact hef (by rw [← h3])
     ·have:=less_trans hx (m1 _ h3)
      rw [less_irrefl] at this
      cases this
    ·have:=h (key f)
     rw [findK_cons (key:=key) (key f) f fs,if_pos rfl] at this
     have:=findK_some this
     rcases List.mem_cons.1 this.1 with h3|h3
     ·exact hef (by rw [← h3])
     ·have:=less_trans hx (l1 _ h3)
      rw [less_irrefl] at this
      cases this
  have hef:e=f:=by
   have:=h (key e)
   rw [findK_cons,if_pos rfl,findK_cons,if_pos he.symm] at this
   injection this
  subst hef
  rw [riseK_ext l2 m2 (fun n=>by
   have:=h n
   rw [findK_cons,findK_cons] at this
   by_cases hn:key e=n
   ·subst hn
    rw [findK_out (fun x hx=>hl.ne x hx),findK_out (fun x hx=>hm.ne x hx)]
   ·rwa [if_neg hn,if_neg hn] at this)]
theorem insK_there {t:α}:∀ {l:List α},RiseK key l→(∃ e∈l,key e=key t)→insK key t l=l.map fun e=>if key e=key t then t else e
 | [],_,⟨_,h,_⟩=>by cases h
 | e::es,hr,⟨x,hx,hn⟩=>by
  obtain ⟨h1,h2⟩:=List.pairwise_cons.1 hr
  unfold insK
  by_cases he:key e=key t
  ·rw [if_pos he,List.map_cons,if_pos he]
   congr 1
   symm
   conv=>rhs;rw [← List.map_id es]
   refine List.map_congr_left fun y hy=>?_
   rw [if_neg (fun h3=>hr.ne y hy (h3.trans he.symm))]
   rfl
  ·have hx':x∈es:=by
    rcases List.mem_cons.1 hx with rfl|h
    ·exact absurd hn he
    ·exact h
   have hl:¬ lessB (key t) (key e)=true:=fun hl=>by
    have:=less_trans hl (h1 x hx')
    rw [hn,less_irrefl] at this
    cases this
   rw [if_neg he,if_neg hl,List.map_cons,if_neg he,insK_there h2 ⟨x,hx',hn⟩]
theorem insK_len (t:α):∀ (l:List α),(insK key t l).length≤l.length+1
 | []=>by simp [insK]
 | e::es=>by
  have:=insK_len t es
  unfold insK
  split
  ·simp
  ·split
   ·simp
   ·simp only [List.length_cons];omega
theorem delK_len (n:ByteArray) (l:List α):(delK key n l).length≤l.length:=List.length_filter_le _ _
theorem sumK_ins (f:α→Nat) (t:α):∀ {l:List α},RiseK key l→((insK key t l).map f).sum=f t+((delK key (key t) l).map f).sum
 | [],_=>by simp [insK,delK]
 | e::es,hr=>by
  obtain ⟨h1,h2⟩:=List.pairwise_cons.1 hr
  unfold insK
  rw [delK_cons]
  by_cases he:key e=key t
  ·rw [if_pos he,if_pos he,delK_all (fun x hx h3=>hr.ne x hx (h3.trans he.symm))]
   simp
  ·rw [if_neg he,if_neg he]
   by_cases hl:lessB (key t) (key e)=true
   ·rw [if_pos hl,delK_all (fun x hx h3=>by
     have:=less_trans hl (h1 x hx)
     rw [h3,less_irrefl] at this
     cases this)]
    simp
   ·rw [if_neg hl]
    simp only [List.map_cons,List.sum_cons,sumK_ins f t h2]
    omega
variable (key)
def mE (val:α→Value) (t:α):Lit × DataW Value:=(kOf (key t),.held (val t))
def mD (val:α→Value) (l:List α):DataW Value:=.map (l.map (mE key val))
variable {key} {val:α→Value}
theorem mD_find (n:ByteArray):∀ l:List α,(l.map (mE key val)).find? (fun x=>x.1.sameKey (kOf n))=(findK key n l).map (mE key val)
 | []=>rfl
 | e::es=>by
  rw [findK_cons]
  simp only [List.map_cons,List.find?_cons]
  have:(mE key val e).1.sameKey (kOf n)=decide (key e=n):=kOf_same _ _
  rw [this]
  by_cases h:key e=n
  ·simp [h]
  ·simp only [decide_eq_false h,if_neg h]
   exact mD_find n es
theorem mD_at (n:ByteArray) (l:List α) (zd:DataW Value):(mD key val l).atKey (kOf n) zd=((findK key n l).map fun t=>DataW.held (val t)).getD zd:=by
 simp only [mD,DataW.atKey]
 rw [mD_find]
 cases findK key n l<;>rfl
theorem mD_any {l:List α} {kl:Lit} (h:Maps.has (mD key val l) kl=true):∃ t∈l,kl=kOf (key t):=by
 simp only [Maps.has,mD,List.any_map,List.any_eq_true] at h
 obtain ⟨t,ht,hk⟩:=h
 exact ⟨t,ht,(WideAt.sameKey_eq hk).symm⟩
theorem mD_has (n:ByteArray) (l:List α):Maps.has (mD key val l) (kOf n)=(findK key n l).isSome:=by
 simp only [Maps.has,mD]
 induction l with
 | nil=>rfl
 | cons e es ih =>
  have:(mE key val e).1.sameKey (kOf n)=decide (key e=n):=kOf_same _ _
  simp only [List.map_cons,List.any_cons,this,ih]
  rw [findK_cons]
  by_cases h:key e=n<;>simp [h]
theorem mD_size (l:List α):Maps.size (mD key val l)=l.length:=by simp [mD,Maps.size]
theorem insK_map (t:α):∀ l:List α,RiseK key l→(insK key t l).map (mE key val)=DataW.insert (kOf (key t),.held (val t)) ((delK key (key t) l).map (mE key val))
 | [],_=>rfl
 | e::es,hr=>by
  obtain ⟨h1,h2⟩:=List.pairwise_cons.1 hr
  have ih:=insK_map t es h2
  unfold insK
  rw [delK_cons]
  by_cases he:key e=key t
  ·have hd:delK key (key t) es=es:=delK_all (fun x hx h3=>hr.ne x hx (h3.trans he.symm))
   rw [if_pos he,if_pos he,hd]
   cases es with
   | nil=>rfl
   | cons f fs =>
    have hb:(kOf (key t)).before (mE key val f).1=true:=by rw [show (mE key val f).1=kOf (key f) from rfl,kOf_before,← he];exact h1 f (by simp)
    simp only [List.map_cons,DataW.insert,hb,if_true]
    rfl
  ·rw [if_neg he,if_neg he]
   by_cases hl:lessB (key t) (key e)=true
   ·have hd:delK key (key t) es=es:=delK_all (fun x hx hxe=>by
     have:=less_trans hl (h1 x hx)
     rw [hxe,less_irrefl] at this;cases this)
    have hb:(kOf (key t)).before (mE key val e).1=true:=by rw [show (mE key val e).1=kOf (key e) from rfl,kOf_before];exact hl
    rw [if_pos hl,hd]
    simp only [List.map_cons,DataW.insert,hb,if_true]
    rfl
   ·have hl':lessB (key t) (key e)=false:=by simpa using hl
    have hb:(kOf (key t)).before (mE key val e).1=false:=by rw [show (mE key val e).1=kOf (key e) from rfl,kOf_before];exact hl'
    rw [if_neg hl]
    simp only [List.map_cons,DataW.insert,hb,Bool.false_eq_true,if_false]
    rw [ih]
theorem mD_put (t:α) (l:List α) (hr:RiseK key l):(mD key val l).put (kOf (key t)) (.held (val t))=mD key val (insK key t l):=by
 unfold mD
 rw [insK_map t l hr]
 show DataW.map (DataW.insert _ ((l.map (mE key val)).filter fun x=>!x.1.sameKey (kOf (key t))))=_
 rw [List.filter_map]
 unfold delK
 congr 4
 funext e
 show (!(kOf (key e)).sameKey (kOf (key t)))=_
 rw [kOf_same]
theorem mD_del (n:ByteArray) (l:List α):(mD key val l).del (kOf n)=mD key val (delK key n l):=by
 show DataW.map ((l.map (mE key val)).filter fun x=>!x.1.sameKey (kOf n))=_
 rw [List.filter_map]
 unfold mD delK
 congr 2
 refine List.filter_congr fun e _=>?_
 show (!(kOf (key e)).sameKey (kOf n))=_
 rw [kOf_same]
theorem mD_rise {P:Program} {k:TypeId} {R:Value→Option (DataW Value × List MemPlace)} {w:World} {b n:Nat} {l:List α} (h:w.ownsMap P k R b n (mD key val l)) (K:Maps.Keyed P k):RiseK key l:=by
 obtain ⟨es,e,hp,_⟩:=World.ownsMap.canon h K
 injection e with e
 rw [← e,List.pairwise_map] at hp
 refine hp.imp ?_
 intro x y hxy
 rw [← kOf_before];exact hxy
theorem mD_tight {P:Program} {k:TypeId} {R:Value→Option (DataW Value × List MemPlace)} {w:World} {b n:Nat} {l:List α} (h:w.ownsMap P k R b n (mD key val l)):w.ownsMap P k R b l.length (mD key val l):=by
 obtain ⟨es,clock,hb,F,hs,hD⟩:=h
 refine ⟨es,clock,hb,F,?_,hD⟩
 have h1:=congrArg (fun d=>Maps.size d) hD
 simp only [mD,Maps.size,List.length_map,length_sorted,Array.length_toList] at h1
 omega
end
end Go.Proofs.YtncigfibncmioaaGreatDoor
