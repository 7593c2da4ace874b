/-
  PROVED HERE: rows that one owns stay one's own while others come; no text of the program.
-/
import Derived.Test.YtncigfibncmioaaGreatDoorOwnB
import Derived.Deep.MidRow
namespace Go.Proofs.YtncigfibncmioaaGreatDoor
open Go.RowKit
theorem Jh {w:World} {g:Nat} {o:Obj} (h:w.heap[g]? = some o):g<w.heap.size:=(Array.getElem?_eq_some_iff.1 h).1
theorem gA {w w':World} {base:Nat} {e:TypeId} {size:Nat} {v:Value} {n:Nat} {xs:List Value} (h:w.ownsRow base e size v n xs) (hb:Below w.heap.size w w'):w'.ownsRow base e size v n xs:=by
 refine ⟨h.1,h.2.imp id ?_⟩;rintro ⟨g,cap,cur,e1,e2,e3,e4⟩;exact ⟨g,cap,cur,e1,e2,(hb.block g (Jh e3)).trans e3,e4⟩
theorem Kb {w:World} {g:Nat} {cs:Array Value} {t:TypeId} {fr:Nat × Nat} (h:w.heap[g]? = some (.cells cs t fr)):∀ j u,cs.toList[j]? = some u->w.cell? ((⟨g,0,none⟩ : Addr).add j)=some u:=by
 intro j u hj;rw [Addr.add_mid,cell_of_row w g (0+j) _ _ _ h];simpa using hj
theorem Yf {B:Nat} {a w w':World} {v:Value} {base:Nat} {e:TypeId} {size n:Nat} {xs:List Value} (h:Below B a w) (hg:w.grownBy w' v.ownBlock) (ho:w.ownsRow base e size v n xs) (hB:B<=base) (hs:B<=w.heap.size):Below B a w' :=
 h.grown hg hs fun k hk=>Nat.le_trans hB (ho.lt k hk).1
theorem Rk {w w2:World} {v:Value} (hg:w.grownBy w2 v.ownBlock) {g:Nat} {o:Obj} (h:w.heap[g]? = some o) (hne:v.ownBlock≠some g):w2.heap[g]? = some o :=
 (hg.block g (Jh h) (fun e=>hne e.symm)).trans h
end Go.Proofs.YtncigfibncmioaaGreatDoor
