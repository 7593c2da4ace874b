/-
  PROVED HERE: a row of whatever elements behind a sort; the order of a sorted list; no walk, no text of the program.
-/
import Derived.Shelf.SlSortCmp.WholeK
import Derived.Test.YtncigfibncmioaaGreatDoorKPick
namespace Go.Proofs.YtncigfibncmioaaGreatDoor
open Go.RowKit Go.Shelf Go.Sort Go.Lib
section
variable {α:Type}
theorem Hk (enc:α->List Value) (k:Nat) (hk:∀ x,(enc x).length=k):∀ l:List α,(l.flatMap enc).length=l.length * k
 | []=>by simp
 | x::l=>by
  rw [List.flatMap_cons,List.length_append,hk,Hk enc k hk l,List.length_cons,Nat.add_mul];omega
variable [Inhabited α]
theorem JJ (enc:α->List Value) (k:Nat) (hk:∀ x,(enc x).length=k) (bu:0<k):∀ (l:List α) (t:Nat),t<l.length * k->(l.flatMap enc)[t]? = some ((enc l[t / k]!)[t % k]!)
 | [],t,h=>by simp at h
 | x::l,t,h=>by
  rw [List.flatMap_cons]
  by_cases ht:t<k
  ·rw [List.getElem?_append_left (by rw [hk];exact ht),Nat.div_eq_of_lt ht,Nat.mod_eq_of_lt ht];have h1:t<(enc x).length:=by rw [hk];exact ht
   rw [List.getElem?_eq_getElem h1];simp [h1]
  ·have e1:t / k=(t - k) / k+1:=by
    rw [Nat.div_eq_sub_div bu (by omega)]
   have e2:t % k=(t - k) % k:=by rw [Nat.mod_eq_sub_mod (by omega)]
   rw [List.getElem?_append_right (by rw [hk];omega),hk,JJ enc k hk bu l (t - k) (by simp only [List.length_cons,Nat.add_mul] at h;omega),e1,e2];simp
theorem Qm0 (enc:α->List Value) (k:Nat) (hk:∀ x,(enc x).length=k) (bu:0<k) (l:List α):(flatK enc k l.toArray).toList=l.flatMap enc:=by
 refine List.ext_getElem? fun t=>?_
 by_cases ht:t<l.length * k
 ·rw [JJ enc k hk bu l t ht];unfold flatK;simp [ht]
 ·rw [List.getElem?_eq_none (by simp [flatK];omega),List.getElem?_eq_none (by rw [Hk enc k hk];omega)]
theorem Qj1 {enc:α->List Value} {k:Nat} (hk:∀ x,(enc x).length=k) (bu:0<k) {w:World} {B g cap:Nat} {e:TypeId} {l:List α} (h:w.ownsRow B e k (.slice (some ⟨g,0,none⟩) l.length cap) l.length (l.flatMap enc)):HoldsK enc k w g 0 l.toArray:=by
 obtain ⟨_,⟨h1,_⟩|⟨g',cap',cur,h1,_,hg,_,_,hsz,cN⟩⟩:=h
 ·cases h1
 ·injection h1 with h1 _ h2
  injection h1 with h1
  injection h1 with h1
  subst h1;intro j hj;have pY:j<l.length * k:=by simpa [flatK] using hj
  rw [Nat.zero_add];refine ⟨?_,frozen_of_row _ _ j _ _ hg⟩;rw [cell_of_row _ _ j _ _ _ hg];have e1:cur[j]? = (l.flatMap enc)[j]?:=by
   rw [<- cN,List.getElem?_take,if_pos pY];simp
  rw [e1,JJ enc k hk bu l j pY,get_flatK enc k _ j (by simpa using pY)];simp
theorem QhV {enc:α->List Value} {k:Nat} (hk:∀ x,(enc x).length=k) (bu:0<k) {w:World} {B g cap n:Nat} {e:TypeId} {l l':List α} {os:Array Obj} (h:w.ownsRow B e k (.slice (some ⟨g,0,none⟩) l.length cap) l.length (l.flatMap enc)) (hl:l'.length=l.length) :
  (sortWorldK enc k w g 0 n l'.toArray os).ownsRow B e k (.slice (some ⟨g,0,none⟩) l'.length cap) l'.length (l'.flatMap enc)/\w.grownBy (sortWorldK enc k w g 0 n l'.toArray os) (some g):=by
 obtain ⟨_,⟨h1,_⟩|⟨g',cap',cur,h1,hB,hg,hn,hc,hsz,cN⟩⟩:=h
 ·cases h1
 ·injection h1 with h1 _ h2
  injection h1 with h1
  injection h1 with h1
  subst h1;subst h2;have hlt:g<w.heap.size:=ax hg;have hm:(putRowK enc k (Sort.ahead w n) g 0 l'.toArray).heap[g]? = some (.cells (putCells id 0 (flatK enc k l'.toArray) cur) e (0,0)):=by
   unfold putRowK putRow mapBlock;simp only [Sort.ahead,Array.getElem?_modify,hg];rfl
  have kV:(putRowK enc k (Sort.ahead w n) g 0 l'.toArray).heap.size=w.heap.size:=by simp [putRowK,putRow,mapBlock,Sort.ahead]
  have hcs:(putCells id 0 (flatK enc k l'.toArray) cur).size=cap * k:=by simp [putCells,hsz]
  constructor
  ·refine ⟨Hk enc k hk l',.inr ⟨g,cap,_,rfl,hB,?_,by omega,hc,hcs,?_⟩⟩
   ·unfold sortWorldK;rw [heap_grow_old _ _ (by rw [kV];exact hlt)];exact hm
   ·refine List.ext_getElem? fun t=>?_
    have hle:l'.length * k<=cap * k:=Nat.mul_le_mul_right _ (by omega)
    by_cases ht:t<l'.length * k
    ·rw [List.getElem?_take,if_pos ht,<- Qm0 enc k hk bu l'];have h3:t<(flatK enc k l'.toArray).size:=by simp [flatK];exact ht
     have h4:t<cur.size:=by rw [hsz];omega
     have h5:(putCells id 0 (flatK enc k l'.toArray) cur).toList[t]? = some ((flatK enc k l'.toArray)[t]!):=by
      have h6:(putCells id 0 (flatK enc k l'.toArray) cur)[t]? = some ((flatK enc k l'.toArray)[t]!):=by
       unfold putCells;rw [Array.getElem?_mapIdx,Array.getElem?_eq_getElem h4];simp only [Option.map_some,Nat.zero_le,Nat.zero_add,Nat.sub_zero,h3,and_self,if_true,id_eq]
      rw [Array.getElem?_toList];exact h6
     rw [h5,Array.getElem?_toList,Array.getElem?_eq_getElem h3,getElem!_pos (flatK enc k l'.toArray) t h3]
    ·rw [List.getElem?_eq_none (by rw [List.length_take];exact Nat.le_trans (Nat.min_le_left _ _) (by omega)),List.getElem?_eq_none (by rw [Hk enc k hk];omega)]
  ·refine ⟨rfl,rfl,rfl,?_,fun j hj hne=>?_⟩
   ·show w.heap.size<=_;unfold sortWorldK grow;simp [kV]
   ·unfold sortWorldK;rw [heap_grow_old _ _ (by rw [kV];exact hj)];unfold putRowK putRow mapBlock;simp only [Sort.ahead,Array.getElem?_modify];rw [if_neg (fun e=>hne (by rw [e]))]
end
end Go.Proofs.YtncigfibncmioaaGreatDoor
