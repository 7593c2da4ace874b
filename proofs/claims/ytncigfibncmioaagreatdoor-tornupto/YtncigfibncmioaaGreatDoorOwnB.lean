/-
  PROVED HERE: small facts on rows of cells that hold numbers, and on worlds: no text of the program.
-/
import Derived.Test.YtncigfibncmioaaGreatDoorShaTwo
import Derived.WalkKit
import Derived.Deep.WholeRow
import Derived.Deep.Draws
namespace Go.Proofs.YtncigfibncmioaaGreatDoor
open Go.RowKit
theorem aa {p:Prop} (h:p):Hid p:=h
def kE (ws:List Nat):Array Value:=(ws.map fun n=>Value.int .u32 ((n:Nat):Int)).toArray
def ah (ws:List Nat):Array Value:=(ws.map fun n=>Value.int .u8 ((n:Nat):Int)).toArray
theorem Qmp (ws:List Nat) (i:Nat) (h:i<ws.length):(kE ws)[i]? = some (.int .u32 ((ws.getD i 0:Nat):Int)):=by
 simp [kE,h,List.getD_eq_getElem?_getD]
theorem Qkh (ws:List Nat) (i n:Nat):(kE ws).setIfInBounds i (.int .u32 ((n:Nat):Int))=kE (ws.set i n):=by
 simp [kE,List.map_set]
theorem Dj (ws:List Nat):(kE ws).size=ws.length:=by simp [kE]
theorem W6 (ws:List Nat):(kE ws).all (·.oneCell')=true:=by simp [kE,Value.oneCell']
theorem Yc (ws:List Nat) (i:Nat) (h:i<ws.length):(ah ws)[i]? = some (.int .u8 ((ws.getD i 0:Nat):Int)):=by
 simp [ah,h,List.getD_eq_getElem?_getD]
theorem Qmq (ws:List Nat) (i n:Nat):(ah ws).setIfInBounds i (.int .u8 ((n:Nat):Int))=ah (ws.set i n):=by
 simp [ah,List.map_set]
theorem aY (ws:List Nat):(ah ws).size=ws.length:=by simp [ah]
theorem dQ (ws:List Nat):(ah ws).all (·.oneCell')=true:=by simp [ah,Value.oneCell']
theorem Q6 {w:World} {g i:Nat} {ws:List Nat} {t:TypeId} (n:Nat) (hg:w.heap[g]? = some (.cells (kE ws) t (0,0))) :
  (w.setCell ⟨g,i,none⟩ (.int .u32 ((n:Nat):Int))).heap[g]? = some (.cells (kE (ws.set i n)) t (0,0)):=by
 rw [heap_setCell_same w g i _ t _ hg,Qkh]
theorem Ff {w:World} {g i:Nat} {ws:List Nat} {t:TypeId} (n:Nat) (hg:w.heap[g]? = some (.cells (ah ws) t (0,0))) :
  (w.setCell ⟨g,i,none⟩ (.int .u8 ((n:Nat):Int))).heap[g]? = some (.cells (ah (ws.set i n)) t (0,0)):=by
 rw [heap_setCell_same w g i _ t _ hg,Qmq]
theorem Bg {w:World} {g:Nat} {ws:List Nat} {t:TypeId} (hg:w.heap[g]? = some (.cells (kE ws) t (0,0))) (i:Nat) (h:i<ws.length) :
  w.cell? ⟨g,i,none⟩=some (.int .u32 ((ws.getD i 0:Nat):Int)):=by
 rw [cell_of_row w g i _ t _ hg,Qmp ws i h]
theorem Fg {w:World} {g:Nat} {ws:List Nat} {t:TypeId} (hg:w.heap[g]? = some (.cells (ah ws) t (0,0))) (i:Nat) (h:i<ws.length) :
  w.cell? ⟨g,i,none⟩=some (.int .u8 ((ws.getD i 0:Nat):Int)):=by
 rw [cell_of_row w g i _ t _ hg,Yc ws i h]
theorem _root_.Go.RowKit.Below.setRow {B:Nat} {a w:World} (h:Below B a w) {g:Nat} (hg:B<=g) (cs:Array Value):Below B a (w.setRow g cs) :=
 h.trans ⟨rfl,rfl,rfl,by simp,fun k hk=>setRow_other w g k cs (by omega)⟩
theorem _root_.Go.RowKit.Below.drewN {B:Nat} {a w:World} (h:Below B a w) (n:Nat):Below B a (w.drewN n):=⟨h.os,h.tape,h.output,h.size,h.block⟩
theorem Rh (w:World) (g i j:Nat) (v:Value) (h:¬ i=j):(w.setCell ⟨g,i,none⟩ v).cell? ⟨g,j,none⟩=w.cell? ⟨g,j,none⟩ :=
 World.cell?_setCell_other w _ _ v (by simp)
theorem size_alloc (w:World) (o:Obj):(w.alloc o).heap.size=w.heap.size+1:=by
 show (w.heap.push o).size=_;simp
theorem Ri (w:World) (A B:Obj):((w.alloc A).alloc B).heap.size=w.heap.size+2:=by rw [size_alloc,size_alloc]
theorem Qt2 {w w1:World} {A B:Obj} (hb:Below ((w.alloc A).alloc B).heap.size ((w.alloc A).alloc B) w1) :
  w.heap.size+1<w1.heap.size/\w1.heap[w.heap.size]? = some A/\w1.heap[w.heap.size+1]? = some B/\Below w.heap.size w w1:=by
 have hs:=Ri w A B;refine ⟨by have:=hb.size;omega,(hb.block _ (by omega)).trans (heap_alloc2_old _ _ _),(hb.block _ (by omega)).trans (heap_alloc2_new _ _ _),?_⟩;exact (((Below.refl _ _).alloc (Nat.le_refl _) _).alloc (by rw [size_alloc];omega) _).trans (hb.mono (by omega))
theorem eB {w:World} {g:Nat} {o:Obj} (h:w.heap[g]? = some o):g<w.heap.size:=(Array.getElem?_eq_some_iff.1 h).1
def fS (w:World) (B:Nat) (v:Value) (l:List UInt8):Prop :=
 ∃ g cap,v = .slice (some ⟨g,0,none⟩) l.length cap/\B<=g/\g<w.heap.size/\(∀ j (hj:j<l.length),w.cell? ⟨g,j,none⟩=some (.int .u8 ((l[j].toNat:Nat):Int))) /\
  (∀ j,l.length<=j->j<cap->(w.cell? ⟨g,j,none⟩).isSome=true/\w.frozen? ⟨g,j,none⟩=false)
theorem fS.kept {w w':World} {B:Nat} {v:Value} {l:List UInt8} (h:fS w B v l) (hb:∀ k,k<w.heap.size->w'.heap[k]? = w.heap[k]?) (hs:w.heap.size<=w'.heap.size):fS w' B v l:=by
 obtain ⟨g,cap,hv,hB,hg,h1,h2⟩:=h;have hc:∀ j,w'.cell? ⟨g,j,none⟩=w.cell? ⟨g,j,none⟩:=fun j=>World.cell?_of_block (w:=w) (hb g hg)
 have hf:∀ j,w'.frozen? ⟨g,j,none⟩=w.frozen? ⟨g,j,none⟩:=fun j=>World.frozen?_of_block (w:=w) (hb g hg)
 exact ⟨g,cap,hv,hB,by omega,fun j hj=>(hc j).trans (h1 j hj),fun j hj hk=>by rw [hc,hf];exact h2 j hj hk⟩
theorem fS.alloc {w:World} {B:Nat} {v:Value} {l:List UInt8} (h:fS w B v l) (o:Obj):fS (w.alloc o) B v l :=
 h.kept (fun k hk=>Below.heap_alloc w o k hk) (by rw [size_alloc];omega)
theorem fS.drew {w:World} {B:Nat} {v:Value} {l:List UInt8} (h:fS w B v l):fS w.drew B v l:=h
theorem fS.of_string (w:World) (s:ByteArray) (cap B:Nat) (hB:B<=w.heap.size) :
  fS (w.alloc (.cells (bytesRow s cap) 5 ((bytesRow s cap).size,(bytesRow s cap).size+1))) B (.slice (some ⟨w.heap.size,0,none⟩) s.size cap) s.data.toList:=by
 have hh:(w.alloc (.cells (bytesRow s cap) 5 ((bytesRow s cap).size,(bytesRow s cap).size+1))).heap[w.heap.size]? = some (.cells (bytesRow s cap) 5 ((bytesRow s cap).size,(bytesRow s cap).size+1)):=heap_alloc_new w _;have hl:s.data.toList.length=s.size:=by simp
 have wW:(bytesRow s cap).size=s.size+(cap - s.size):=by simp [bytesRow]
 refine ⟨w.heap.size,cap,by rw [hl],hB,by rw [size_alloc];omega,fun j hj=>?_,fun j hj hk=>?_⟩
 ·rw [cell_of_row _ _ j _ _ _ hh];rw [hl] at hj;have pY:j<s.data.size:=hj;have Zn:j<(s.data.map (fun b=>Value.int .u8 ((b.toNat:Nat):Int))).size:=by simpa using pY
  unfold bytesRow;rw [Array.getElem?_append_left Zn,Array.getElem?_map,Array.getElem?_eq_getElem pY];simp
 ·rw [hl] at hj
  constructor
  ·rw [cell_of_row _ _ j _ _ _ hh];have:j<(bytesRow s cap).size:=by omega
   simp [this]
  ·have:¬ ((bytesRow s cap).size<=j):=by omega
   simp only [World.frozen?,hh];simp [this]
theorem R4 {P:Program} (w:World) {ops:Array Oper} {rest:List Oper} {o:Oper} {a:Act} {Q:Exit->Act->World->Prop}
  (hg:o.guard=none) (s x:Operand) (t:TypeId) (hop:o.op=Op.call { callee:=Callee.builtin Builtin.append,args:=#[s,x],argTypes:=#[t,t] })
  (i:TypeInfo) (h1:P.underlying t=some (.slice 5)) (h2:P.info? 5=some i) (h3:i.zero=some (.int .u8 0)) (h4:i.size=1) (h5:i.bytes=1)
  (B:Nat) (v:Value) (l:List UInt8) (hs:a.eval s=v) (hown:fS w B v l) (hB:B<=w.heap.size)
  (ad:Addr) (c:Nat) (n:Int) (b:UInt8) (hx:a.eval x = .slice (some ad) 1 c) (hc:w.cell? ad=some (.int .u8 n)) (hn:n=((b.toNat:Nat):Int)) (hl:l.length+1<=140737488355328)
  (h:∀ v' w',fS w' B v' (l ++ [b])->Below B w w'->wpList P ops Q rest (a.put o.dst v') w'):wpList P ops Q (o::rest) a w:=by
 obtain ⟨g,cap,rfl,Zo,vA,uO,hsp⟩:=hown;subst hn;have holds:∀ j u,(l.map fun b=>Value.int .u8 ((b.toNat:Nat):Int))[j]? = some u->w.cell? ⟨g,0+j,none⟩=some u:=by
  intro j u hj;have hj':j<l.length:=by have:=(List.getElem?_eq_some_iff.1 hj).1;simpa using this
  rw [Nat.zero_add,uO j hj'];simpa [hj'] using hj
 have mn:∀ j u,[Value.int .u8 ((b.toNat:Nat):Int)][j]? = some u->w.cell? (ad.add j)=some u:=by
  intro j u hj
  match j,hj with
  | 0,hj =>
   have:ad.add 0=ad:=by unfold Addr.add;split<;>simp_all
   rw [this,hc];simpa using hj
 refine wpList_append_arg w hg s x t hop 5 i (.int .u8 0) 1 1 h1 h2 h3 h4 h5 rfl (by omega) g 0 l.length cap (l.map fun b=>Value.int .u8 ((b.toNat:Nat):Int)) hs (by simp) holds ad 1 c [Value.int .u8 ((b.toNat:Nat):Int)] hx (by simp) mn (by simp [Value.oneCell'])
  (fun hr j hj=>by
   have Rl:j=0:=by simpa using hj
   subst Rl;have:=hsp l.length (Nat.le_refl _) (by omega);simpa using this) (by unfold maxLen;omega) (by omega) (fun hr=>?_) (fun hr v' w' hown' hgrow=>?_)
 ·have e:0+l.length * 1=l.length:=by omega
  rw [e];have hsome:=hsp l.length (Nat.le_refl _) (by omega);obtain ⟨u,hu⟩:=Option.isSome_iff_exists.1 hsome.1;refine h _ _ ⟨g,cap,by simp,Zo,?_,?_,?_⟩ ?_
  ·show g<(w.setCell ⟨g,l.length,none⟩ _).heap.size;simp [World.setCell];exact vA
  ·intro j hj;show (w.setCell ⟨g,l.length,none⟩ _).cell? ⟨g,j,none⟩=_
   by_cases eN:j=l.length
   ·subst eN;rw [World.cell?_setCell_same _ _ _ hu];simp
   ·have pY:j<l.length:=by simp at hj;omega
    rw [Rh w g l.length j _ (fun e=>eN e.symm),uO j pY];simp [List.getElem_append_left pY]
  ·intro j hj hk;have eN:¬ l.length=j:=by simp at hj;omega
   show ((w.setCell ⟨g,l.length,none⟩ _).cell? ⟨g,j,none⟩).isSome=true/\(w.setCell ⟨g,l.length,none⟩ _).frozen? ⟨g,j,none⟩=false;rw [Rh w g l.length j _ eN];have:=hsp j (by simp at hj;omega) hk;refine ⟨this.1,?_⟩;simpa using this.2
  ·exact (Below.refl B w).setCell (p:=⟨g,l.length,none⟩) Zo _
 ·obtain ⟨hlen,hv⟩:=hown'
  rcases hv with ⟨_,h0⟩|⟨g',cap',cur,hv',hb',OW,hn',_,hcs,qJ⟩
  ·omega
  ·refine h v' w' ⟨g',cap',by rw [hv'];simp,by omega,((Array.getElem?_eq_some_iff.1 OW).1),?_,?_⟩ ((Below.refl B w).grown hgrow hB (fun k hk=>by cases hk))
   ·intro j hj;rw [cell_of_row _ _ j _ _ _ OW];have pY:j<l.length+1:=by simpa using hj
    have e:cur[j]? = (List.map (fun b=>Value.int .u8 ((b.toNat:Nat):Int)) (l ++ [b]))[j]?:=by
     have:(cur.toList.take ((l.length+1) * 1))[j]? = cur[j]?:=by
      rw [List.getElem?_take,if_pos (by omega)];simp
     rw [<- this,qJ];simp
    rw [e,List.getElem?_map,List.getElem?_eq_getElem hj];rfl
   ·intro j hj hk;have hjc:j<cur.size:=by omega
    refine ⟨by rw [cell_of_row _ _ j _ _ _ OW];simp [hjc],frozen_of_row _ _ _ _ _ OW⟩
end Go.Proofs.YtncigfibncmioaaGreatDoor
