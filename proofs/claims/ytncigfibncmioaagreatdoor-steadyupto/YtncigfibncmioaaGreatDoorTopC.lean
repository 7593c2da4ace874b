/-
  PROVED HERE: rows of strings: their cells, and what is left in one from which an element was taken out.
-/
import Derived.Test.YtncigfibncmioaaGreatDoorDigR
import Derived.Test.YtncigfibncmioaaGreatDoorShelfS
import Derived.Test.YtncigfibncmioaaGreatDoorKPick
import Derived.Deep.MidRow
namespace Go.Proofs.YtncigfibncmioaaGreatDoor
open Go.RowKit
theorem row_strs {w:World} {g:Nat} {cur:Array Value} {ms:List ByteArray} (h:w.heap[g]? = some (.cells cur 9 (0,0))) (htk:cur.toList.take ms.length=ms.map Value.string) :
  ∀ j,j<ms.length→w.cell? ⟨g,0+j,none⟩=some (.string (ms.getD j ByteArray.empty)):=by
 intro j hj
 rw [Nat.zero_add,cell_of_row w g j _ _ _ h]
 have h1:(cur.toList.take ms.length)[j]? = (ms.map Value.string)[j]?:=by rw [htk]
 rw [List.getElem?_take,if_pos hj,List.getElem?_map,List.getElem?_eq_getElem hj] at h1
 rw [← Array.getElem?_toList,h1]
 simp [List.getD_eq_getElem?_getD,List.getElem?_eq_getElem hj]
theorem strs_erase (ms:List ByteArray) (i:Nat) :
  (((Lib.strsOf (fun j=>ms.getD j ByteArray.empty) ms.length).take i++(Lib.strsOf (fun j=>ms.getD j ByteArray.empty) ms.length).drop (i+1)++List.replicate (i+1 - i) []).map encStr)=(ms.eraseIdx i).map Value.string ++ [Value.string ⟨#[]⟩]:=by
 have h0:Lib.strsOf (fun j=>ms.getD j ByteArray.empty) ms.length=ms.map (fun s=>s.data.toList):=by
  unfold Lib.strsOf
  apply List.ext_getElem?
  intro j
  by_cases hj:j<ms.length
  ·simp [List.getElem?_map,List.getElem?_range hj,List.getD_eq_getElem?_getD,List.getElem?_eq_getElem hj]
  ·simp [List.getElem?_map,List.getElem?_eq_none (show (List.range ms.length).length≤j by simp;omega),List.getElem?_eq_none (show ms.length≤j by omega)]
 have h1:∀ s:ByteArray,encStr s.data.toList=Value.string s:=fun s=>rfl
 rw [h0,show i+1 - i=1 by omega,List.eraseIdx_eq_take_drop_succ]
 simp only [List.map_append,List.map_take,List.map_drop,List.map_map,List.replicate_one,List.map_cons,List.map_nil]
 rfl
theorem idxFromS_cases (x:ByteArray):∀ (ms:List ByteArray) (j:Nat),Lib.idxFromS ms x j = -1∨∃ i,i<ms.length∧Lib.idxFromS ms x j=((j+i:Nat):Int)
 | [],_=>Or.inl rfl
 | z::zs,j=>by
  by_cases hz:z=x
  ·right;exact ⟨0,by simp,by simp [Lib.idxFromS,hz]⟩
  ·rcases idxFromS_cases x zs (j+1) with h|⟨i,hi,h⟩
   ·left;simp only [Lib.idxFromS,if_neg hz,h]
   ·right;exact ⟨i+1,by simp;omega,by simp only [Lib.idxFromS,if_neg hz,h];omega⟩
theorem idxOfS_cases (ms:List ByteArray) (x:ByteArray):Lib.idxOfS ms x = -1∨∃ i,i<ms.length∧Lib.idxOfS ms x=(i:Int):=by
 rcases idxFromS_cases x ms 0 with h|⟨i,hi,h⟩
 ·exact Or.inl h
 ·exact Or.inr ⟨i,hi,by unfold Lib.idxOfS;rw [h];omega⟩
end Go.Proofs.YtncigfibncmioaaGreatDoor
namespace Go.Proofs.YtncigfibncmioaaGreatDoor
set_option maxHeartbeats 2000000
set_option maxRecDepth 100000
open Go.RowKit
def objS {σ:Type} (valS:ByteArray→σ→Nat→RS σ) (t:ByteArray) (first:Bool) (d:Nat) (missing:List ByteArray) (st:σ) (a:Nat):RS σ:=objG (nextS t) valS first d missing st a
theorem objS_zero {σ:Type} (valS:ByteArray→σ→Nat→RS σ) (t:ByteArray) (f:Bool) (ms:List ByteArray) (s':σ) (a':Nat):objS valS t f 0 ms s' a'=(match markS t a' 125 with|.ok _ c=>.ok s' c|.bad p=>.bad p):=by
 unfold objS objG markS
 cases markG (nextS t) a' 125<;>rfl
theorem objS_first {σ:Type} (valS:ByteArray→σ→Nat→RS σ) (t:ByteArray) (d:Nat) (ms:List ByteArray) (s':σ) (a':Nat):objS valS t true (d+1) ms s' a'=(match nextS t a' with|.bad p=>.bad p|.tok k p _ l c=>if k=34∧0≤Lib.idxOfS ms ⟨l.toArray⟩ then (match markS t c 58 with|.bad p=>.bad p|.ok _ c2=>(match valS ⟨l.toArray⟩ s' c2 with|.bad p=>.bad p|.ok st' c3=>objS valS t false d (ms.eraseIdx (Lib.idxOfS ms ⟨l.toArray⟩).toNat) st' c3)) else .bad p):=by
 conv=>lhs;unfold objS objG
 simp only [if_true]
 cases nextS t a' with
 | bad p=>rfl
 | tok k p n l c =>
  dsimp only
  split
  ·unfold markS
   cases markG (nextS t) c 58 with
   | bad p=>rfl
   | ok u c2 =>
    dsimp only
    cases valS ⟨l.toArray⟩ s' c2<;>rfl
  ·rfl
theorem objS_more {σ:Type} (valS:ByteArray→σ→Nat→RS σ) (t:ByteArray) (d:Nat) (ms:List ByteArray) (s':σ) (a':Nat):objS valS t false (d+1) ms s' a'=(match markS t a' 44 with|.bad p=>.bad p|.ok _ a1=>objS valS t true (d+1) ms s' a1):=by
 conv=>lhs;unfold objS objG
 unfold markS
 simp only [Bool.false_eq_true,if_false]
 cases markG (nextS t) a' 44 with
 | bad p=>rfl
 | ok u a1 =>
  dsimp only
  conv=>rhs;unfold objS objG
  simp only [if_true]
theorem markS_far {t:ByteArray} {a kind c:Nat} (ha:a≤t.size) (h:markS t a kind = .ok () c):c≤t.size:=by
 unfold markS markG at h
 cases hn:nextS t a with
 | bad p=>rw [hn] at h;cases h
 | tok k p n l c' =>
  rw [hn] at h
  dsimp only at h
  split at h
  ·cases h;exact (nextS_far ha hn).1
  ·cases h
theorem object_bad (b gn K:Nat) (n m:Nat) (cap:Array Value) (k0 p0:Nat) (n0:Int) (s0:ByteArray) (w:World) (S:Nat→Prop) (hk:¬ k0=123) :
  Calls Tryz.prog 123 #[.pointer (some ⟨b,0,none⟩),tokV k0 p0 n0 s0,.slice (some ⟨gn,0,none⟩) n m,.func (.func K) #[] cap] w fun e w'=>Gr S w w'∧e=gaveUp p0:=by
 have hf:((k0:Int) == (123:Int))=false:=by simp;omega
 unfold tokV
 go_enter Tryz.func123,Tryz.ntmps123
 go_wp2_with (go_at_call 128;refine (must_bad _ _ _ _ _).mono ?_;rintro e w1 ⟨rfl,hm⟩;dsimp only [gaveUp])
 exact ⟨rfl,(Gr.of_below ((Below.refl _ _).alloc (Nat.le_refl _) _)).trans (Gr.of_below hm),rfl⟩
theorem heap_setCells_other {g h:Nat}:∀ (vs:List Value) (o:Nat) (w:World),h≠g→(w.setCells g o vs).heap[h]? = w.heap[h]?
 | [],_,_,_=>rfl
 | v::vs,o,w,hn=>(heap_setCells_other vs (o+1) (w.setCell ⟨g,o,none⟩ v) hn).trans (heap_setCell_other _ _ _ _ hn)
theorem grow_then {S:Nat→Prop} {w w1 w2:World} (h:Gr S w w1) (hb:Below w.heap.size w1 w2):Gr S w w2 :=
 ⟨hb.os.trans h.os,hb.tape.trans h.tape,hb.output.trans h.output,Nat.le_trans h.size hb.size,fun k hk hn=>(hb.block k hk).trans (h.block k hk hn)⟩
def lenOf:Value→Nat
 | .slice _ n _=>n
 | _=>0
theorem object_ok {σ:Type} (valS:ByteArray→σ→Nat→RS σ) (b gn K:Nat) (names:List ByteArray) (cap:Array Value) (t:ByteArray) (a p0:Nat) (n0:Int) (s0:ByteArray) (w:World) (S:Nat→Prop) (R:σ→World→Prop) (st:σ)
  (hcf:∀ (args:Array Value) (w:World),(callFunc K args).run Tryz.prog w = .ok (.enter K args) w) (hs:ScIs w b t a) (ha:a≤t.size) (ht:t.size≤2000) (hSb:S b) (hSw:∀ k,S k→k<w.heap.size) (hR:R st w) (hn3:names.length≤3)
  (hn:∀ j,j<names.length→w.cell? ⟨gn,j,none⟩=some (.string (names.getD j ByteArray.empty)))
  (hRk:∀ st W W',R st W→w.heap.size≤W.heap.size→Gr (fun k=>k=b∨(w.heap.size≤k∧∃ cur,W.heap[k]? = some (.cells cur 9 (0,0)))) W W'→R st W')
  (hv:∀ x st c W,R st W→w.heap.size≤W.heap.size→ScIs W b t c→c≤t.size→Calls Tryz.prog K (#[.string x]++cap) W fun e W'=>Gr S W W'∧((∃ st' c',valS x st c = .ok st' c'∧e = .returned (.tuple #[])∧ScIs W' b t c'∧c'≤t.size∧R st' W')∨(∃ p,valS x st c = .bad p∧e=gaveUp p))) :
  Calls Tryz.prog 123 #[.pointer (some ⟨b,0,none⟩),tokV 123 p0 n0 s0,.slice (some ⟨gn,0,none⟩) names.length names.length,.func (.func K) #[] cap] w fun e w'=>Gr S w w' ∧
   ((∃ st' c',objS valS t true names.length names st a = .ok st' c'∧e = .returned (.tuple #[])∧ScIs w' b t c'∧c'≤t.size∧R st' w')∨(∃ p,objS valS t true names.length names st a = .bad p∧e=gaveUp p)):=by
 have HS:=hide hs
 have hbl:=lt_heap hs
 have HV:=hide hv
 have HRK:=hide hRk
 have HR:=hide hR
 have HN:=hide hn
 clear hs hv hRk hR hn
 unfold tokV
 go_enter Tryz.func123,Tryz.ntmps123
 go_wp2_with (go_at_call 128;refine (must_ok _ _ _ _ _).mono ?_;rintro e w1 ⟨rfl,hm⟩)
 have hb1:Below w.heap.size w w1:=((Below.refl _ _).alloc (Nat.le_refl _) _).trans (hm.mono (by simp))
 refine (Tryz.slices_Clone_string gn 0 names.length names.length names w1 (Nat.le_refl _) (by omega) (fun j hj=>?_)).mono ?_
 ·rw [Nat.zero_add];exact cell_later hb1 (HN.out j hj)
 rintro e w2 ⟨v',rfl,ho,hne,hb2⟩
 dsimp only
 obtain ⟨g,c0,cur0,rfl,hg,hrow,hnc,hcm,hcs,htk⟩ : ∃ g c cur,v' = .slice (some ⟨g,0,none⟩) names.length c∧w1.heap.size≤g∧w2.heap[g]? = some (.cells cur 9 (0,0))∧names.length≤c∧c≤maxLen∧cur.size=c∧cur.toList.take names.length=names.map Value.string:=by
  rcases ho.2 with ⟨rfl,_⟩|⟨g,c,cur,h1,h2,h3,h4,h5,h6,h7⟩
  ·exact absurd rfl hne
  ·exact ⟨g,c,cur,h1,h2,h3,h4,h5,by omega,by rw [Nat.mul_one] at h7;rw [h7,List.take_length]⟩
 clear ho hne
 go_wp2_with fail
 go_loopw [8] (fun v wr=>∃ (ms:List ByteArray) (g c:Nat) (cur:Array Value) (s':σ) (a':Nat),v = .slice (some ⟨g,0,none⟩) ms.length c∧w.heap.size≤g∧wr.heap[g]? = some (.cells cur 9 (0,0))∧ms.length≤c∧c≤maxLen∧cur.size=c∧cur.toList.take ms.length=ms.map Value.string∧ms.length≤names.length∧a'≤t.size∧ScIs wr b t a'∧R s' wr∧Gr S w wr∧objS valS t (decide (ms.length=names.length)) ms.length ms s' a'=objS valS t true names.length names st a)
  (fun v _=>lenOf v)
 case atStart =>
  have hg2:Gr S w w2:=(Gr.of_below hb1).trans (Gr.of_below hb2)
  have hg3:Gr (fun k=>k=b∨(w.heap.size≤k∧∃ cur,w.heap[k]? = some (.cells cur 9 (0,0)))) w w2:=(Gr.of_below hb1).trans (Gr.of_below hb2)
  refine ⟨names,g,c0,cur0,st,a,rfl,Nat.le_trans hb1.size hg,hrow,hnc,hcm,hcs,htk,Nat.le_refl _,ha,(HS.out.later hb1).later hb2,HRK.out st w w2 HR.out (Nat.le_refl _) hg3,hg2,by simp⟩
 case round =>
  obtain ⟨ms,g,c,cur,s',a',rfl,hg,hrow,hmc,hcm,hcs,htk,hml,ha',hsc,hr,hgr,he⟩:=hrel
  have HROW:=hide hrow
  have HSC:=hide hsc
  have HRR:=hide hr
  have HGR:=hide hgr
  have HTK:=hide htk
  have HE:=hide he
  have hsz:=hgr.size
  clear hrow hsc hr hgr htk he
  by_cases h0:ms.length=0
  ·have hd:objS valS t true names.length names st a=(match markS t a' 125 with|.ok _ c=>.ok s' c|.bad p=>.bad p):=by rw [← HE.out,h0,objS_zero]
   have HD:=hide hd
   clear hd
   rw [h0]
   go_wp2_with fail
   refine (mark_core b a' 125 t wr HSC.out ha' ht).mono ?_
   rintro e w3 ⟨hg3,(⟨c3,hm3,rfl,hsc3⟩|⟨p,hm3,rfl⟩)⟩
   ·dsimp only
    go_wp2_with fail
    go_end0
    exact ⟨HGR.out.trans (Gr.of_grownBy hg3 hSb),Or.inl ⟨s',c3,by rw [HD.out,hm3],rfl,hsc3,markS_far ha' hm3,HRK.out s' wr w3 HRR.out hsz (Gr.of_grownBy hg3 (Or.inl rfl))⟩⟩
   ·dsimp only [gaveUp]
    exact ⟨rfl,HGR.out.trans (Gr.of_grownBy hg3 hSb),Or.inr ⟨p,by rw [HD.out,hm3],rfl⟩⟩
  ·obtain ⟨d,hd⟩ : ∃ d,ms.length=d+1:=⟨ms.length - 1,by omega⟩
   have hgl:=lt_heap HROW.out
   have hpos:(0:Int)<(ms.length:Int):=by omega
   by_cases hfull:ms.length=names.length
   ·have hlt:decide ((ms.length:Int)<(names.length:Int))=false:=by simp;omega
    have hlt2:decide (ms.length<names.length)=false:=by simp;omega
    have hda:objS valS t true names.length names st a=(match nextS t a' with|.bad p=>.bad p|.tok k p _ l c=>if k=34∧0≤Lib.idxOfS ms ⟨l.toArray⟩ then (match markS t c 58 with|.bad p=>.bad p|.ok _ c2=>(match valS ⟨l.toArray⟩ s' c2 with|.bad p=>.bad p|.ok st' c3=>objS valS t false d (ms.eraseIdx (Lib.idxOfS ms ⟨l.toArray⟩).toNat) st' c3)) else .bad p):=by rw [← HE.out,decide_eq_true hfull,hd,objS_first]
    have HDA:=hide hda
    have HFULL:=hide hfull
    have HD1:=hide hd
    clear hda hfull hd h0
    have HSCA:=HSC
    have HRA:=HRR
    have HGA:=HGR
    have HROWA:=HROW
    have hgA:=hgl
    have hszA:=hsz
    have haA:=ha'
    clear HSC HRR HGR HROW hgl hsz ha' HE
    have hbA:=lt_heap HSCA.out
    go_wp2_with fail
    refine (next_core b a' t wr HSCA.out haA ht).mono ?_
    rintro e w4 ⟨hg4,hc4⟩
    cases hnx:nextS t a' with
    | bad p =>
     rw [hnx] at hc4
     have hc5:e=gaveUp p:=hc4
     subst hc5
     dsimp only [gaveUp]
     exact ⟨rfl,HGA.out.trans (Gr.of_grownBy hg4 hSb),Or.inr ⟨p,by rw [HDA.out,hnx],rfl⟩⟩
    | tok k p n l c4 =>
     rw [hnx] at hc4
     obtain ⟨rfl,hsc4⟩ : e = .returned (tokV k p ((n:Nat):Int) ⟨l.toArray⟩)∧ScIs w4 b t c4:=hc4
     dsimp only [tokV]
     have hc4t:=(nextS_far haA hnx).1
     have hdd:objS valS t true names.length names st a=(if k=34∧0≤Lib.idxOfS ms ⟨l.toArray⟩ then (match markS t c4 58 with|.bad p=>.bad p|.ok _ c2=>(match valS ⟨l.toArray⟩ s' c2 with|.bad p=>.bad p|.ok st' c3=>objS valS t false d (ms.eraseIdx (Lib.idxOfS ms ⟨l.toArray⟩).toNat) st' c3)) else .bad p):=by rw [HDA.out,hnx]
     have HG4:=hide (HGA.out.trans (Gr.of_grownBy hg4 hSb))
     have HR4:=hide (HRK.out s' wr w4 HRA.out hszA (Gr.of_grownBy hg4 (Or.inl rfl)))
     have HSC4:=hide hsc4
     have HROW4:=hide ((hg4.block g hgA (fun e=>by cases e;omega)).trans HROWA.out)
     have hsz4:w.heap.size≤w4.heap.size:=Nat.le_trans hszA hg4.size
     have hg4l:g<w4.heap.size:=Nat.lt_of_lt_of_le hgA hg4.size
     clear hnx hsc4 HDA
     generalize (⟨l.toArray⟩ : ByteArray)=x at hdd ⊢
     have HDD:=hide hdd
     clear hdd hg4
     have hix:=Tryz.slices_Index_string g 0 ms.length c ms x
     rw [List.take_length] at hix
     go_wp2_with fail
     obtain ⟨w5,hw5⟩ : ∃ w5,w5=w4.alloc (.cells #[.int .u8 ((k:Nat):Int),.int .i64 ((p:Nat):Int),.int .i64 ((n:Nat):Int),.string x] 204):=⟨_,rfl⟩
     rw [← hw5]
     have hb5:Below w4.heap.size w4 w5:=by rw [hw5];exact (Below.refl _ _).alloc (Nat.le_refl _) _
     have htok:w5.heap[w4.heap.size]? = some (.cells #[.int .u8 ((k:Nat):Int),.int .i64 ((p:Nat):Int),.int .i64 ((n:Nat):Int),.string x] 204 (0,0)):=by rw [hw5];exact heap_alloc_new _ _
     have HTOK:=hide htok
     have htl:=lt_heap htok
     have c50:w5.cell? ⟨w4.heap.size,0,none⟩=some (.int .u8 ((k:Nat):Int)):=cell_of_row w5 _ 0 _ _ _ htok
     have c51:w5.cell? ⟨w4.heap.size,1,none⟩=some (.int .i64 ((p:Nat):Int)):=cell_of_row w5 _ 1 _ _ _ htok
     have c52:w5.cell? ⟨w4.heap.size,2,none⟩=some (.int .i64 ((n:Nat):Int)):=cell_of_row w5 _ 2 _ _ _ htok
     have c53:w5.cell? ⟨w4.heap.size,3,none⟩=some (.string x):=cell_of_row w5 _ 3 _ _ _ htok
     have HROW5:=hide ((hb5.block g hg4l).trans HROW4.out)
     have HG5:=hide (HG4.out.trans (Gr.of_below hb5))
     have HR5:=hide (HRK.out s' w4 w5 HR4.out hsz4 (Gr.of_below hb5))
     have HSC5:=hide (HSC4.out.later hb5)
     have hsz5:w.heap.size≤w5.heap.size:=Nat.le_trans hsz4 hb5.size
     have hg5l:g<w5.heap.size:=Nat.lt_of_lt_of_le hg4l hb5.size
     clear htok hw5 HROW4 HG4 HR4 HSC4
     refine (hix w5 (Nat.le_refl _) (by omega) (row_strs HROW5.out HTK.out)).mono ?_
     rintro e w6 ⟨rfl,hw6⟩
     subst hw6
     dsimp only
     have hidx:=idxOfS_cases ms x
     clear hix
     by_cases hk:k=34
     ·rcases hidx with hi|⟨i,hil,hi⟩
      ·rw [hi]
       rw [hi] at HDD
       subst hk
       go_wp2_with fail
       refine (must_bad _ _ _ _ _).mono ?_
       rintro e w7 ⟨rfl,hm7⟩
       dsimp only [gaveUp]
       exact ⟨rfl,HG5.out.trans (Gr.of_below hm7),Or.inr ⟨p,by rw [HDD.out];simp,rfl⟩⟩
      ·rw [hi]
       rw [hi] at HDD
       subst hk
       go_wp2_with fail
       refine (must_ok _ _ _ _ _).mono ?_
       rintro e w7 ⟨rfl,hm7⟩
       dsimp only
       go_wp2_with fail
       have HROW7:=hide ((hm7.block g hg5l).trans HROW5.out)
       have HTOK7:=hide ((hm7.block _ htl).trans HTOK.out)
       have HG7:=hide (HG5.out.trans (Gr.of_below hm7))
       have HR7:=hide (HRK.out s' _ w7 HR5.out hsz5 (Gr.of_below hm7))
       have HSC7:=hide (HSC5.out.later hm7)
       have hsz7:w.heap.size≤w7.heap.size:=Nat.le_trans hsz5 hm7.size
       have hg7l:g<w7.heap.size:=Nat.lt_of_lt_of_le hg5l hm7.size
       have htl7:w4.heap.size<w7.heap.size:=Nat.lt_of_lt_of_le htl hm7.size
       clear hm7 HROW5 HG5 HR5 HSC5 c50 c51 c52 c53
       rw [show ((i:Int)+1)=((i+1:Nat):Int) by omega]
       refine (Tryz.slices_Delete_string_cells g 0 ms.length c i (i+1) (fun j=>ms.getD j ByteArray.empty) w7 hmc hcm (by omega) (by omega) (row_strs HROW7.out HTK.out) (fun j _=>frozen_of_row w7 g _ _ _ HROW7.out)).mono ?_
       rintro e w8 ⟨rfl,q,hw8⟩
       dsimp only
       rw [strs_erase] at hw8
       have hel:(ms.eraseIdx i).length=ms.length - 1:=by rw [List.length_eraseIdx,if_pos hil]
       obtain ⟨cur8,hr8,hcs8,_,hin8⟩:=setCells_row g 9 ((ms.eraseIdx i).map Value.string ++ [Value.string ⟨#[]⟩]) 0 (w7.drewN q) cur HROW7.out (by simp [hel];omega)
       rw [← hw8] at hr8
       have htk8:cur8.toList.take (ms.eraseIdx i).length=(ms.eraseIdx i).map Value.string:=by
        apply List.ext_getElem?
        intro j
        rw [List.getElem?_take]
        by_cases hj:j<(ms.eraseIdx i).length
        ·rw [if_pos hj,Array.getElem?_toList]
         have:=hin8 j (by simp;omega)
         rw [Nat.zero_add] at this
         rw [this,List.getElem?_append_left (by simpa using hj)]
        ·rw [if_neg hj,List.getElem?_eq_none (by simp;omega)]
       have hb8:Below g w7 w8:=by rw [hw8];exact (Below.drewN (Below.refl _ _) q).trans (below_sets (Nat.le_refl _) _ _ _)
       have hbw8:Below w.heap.size w7 w8:=hb8.mono hg
       have hs8:=hb8.size
       have htok8:w8.heap[w4.heap.size]? = some (.cells #[.int .u8 34,.int .i64 ((p:Nat):Int),.int .i64 ((n:Nat):Int),.string x] 204 (0,0)):=by
        rw [hw8,heap_setCells_other _ _ _ (by omega)]
        exact HTOK7.out
       have HTOK8:=hide htok8
       have HROW8:=hide hr8
       have HTK8:=hide htk8
       have HG8:=hide (grow_then HG7.out hbw8)
       have HR8:=hide (HRK.out s' w7 w8 HR7.out hsz7 ⟨hb8.os,hb8.tape,hb8.output,hb8.size,fun k hk hn=>by rw [hw8];exact heap_setCells_other _ _ _ (fun e=>hn (Or.inr (by subst e;exact ⟨hg,cur,HROW7.out⟩)))⟩)
       have HSC8:Hid (ScIs w8 b t c4):=(hbw8.block b hbl).trans HSC7.out
       have hsz8:w.heap.size≤w8.heap.size:=Nat.le_trans hsz7 hs8
       clear hw8 hr8 htk8 hin8 htok8 HROW7 HTOK7 HG7 HR7 HSC7
       go_wp2_with fail
       refine (mark_core b c4 58 t w8 HSC8.out hc4t ht).mono ?_
       rintro e w9 ⟨hg9,(⟨c9,hm9,rfl,hsc9⟩|⟨p9,hm9,rfl⟩)⟩
       ·dsimp only
        have c93:w9.cell? ⟨w4.heap.size,3,none⟩=some (.string x):=cell_of_row w9 _ 3 _ _ _ ((hg9.block _ (by omega) (fun e=>by cases e;omega)).trans HTOK8.out)
        go_wp2_with fail
        have HV9:=HV.out x s' c9 w9 (HRK.out s' w8 w9 HR8.out hsz8 (Gr.of_grownBy hg9 (Or.inl rfl))) (Nat.le_trans hsz8 hg9.size) hsc9 (markS_far hc4t hm9)
        refine HV9.mono ?_
        rintro e w10 ⟨hg10,(⟨st',c',hv',rfl,hsc10,hc10,hr10⟩|⟨pv,hv',rfl⟩)⟩
        ·have hrow10:w10.heap[g]? = some (.cells cur8 9 (0,0)):=by
          rw [hg10.block g (Nat.lt_of_lt_of_le (Nat.lt_of_lt_of_le hg7l hs8) hg9.size) (fun hS=>by have:=hSw g hS;omega),hg9.block g (Nat.lt_of_lt_of_le hg7l hs8) (fun e=>by cases e;omega)]
          exact HROW8.out
         have hgr10:Gr S w w10:=(HG8.out.trans (Gr.of_grownBy hg9 hSb)).trans hg10
         have hobj:objS valS t (decide ((ms.eraseIdx i).length=names.length)) (ms.eraseIdx i).length (ms.eraseIdx i) st' c'=objS valS t true names.length names st a:=by
          have hd1:=HD1.out
          rw [HDD.out,hel,decide_eq_false (by have:=hml;omega),show ms.length - 1=d by omega]
          simp [hm9,hv']
         have HROW10:=hide hrow10
         have HGR10:=hide hgr10
         have HOBJ:=hide hobj
         have HSC10:=hide hsc10
         have HR10:=hide hr10
         have HEL:=hide hel
         clear hrow10 hgr10 hobj hsc10 hr10 HV9 hg9 hg10 HROW8 HG8 HR8 HSC8 hv' hm9 c93
         dsimp only
         go_wp2_with fail
         go_roundw
         case rel =>
          have hel2:=HEL.out
          refine ⟨ms.eraseIdx i,g,c,cur8,st',c',?_,hg,HROW10.out,by omega,hcm,by omega,HTK8.out,by omega,hc10,HSC10.out,HR10.out,HGR10.out,HOBJ.out⟩
          rw [hel2,show ms.length - (i+1 - i)=ms.length - 1 by omega]
         case measure =>
          simp only [lenOf]
          show ms.length - (i+1 - i)<ms.length
          omega
        ·dsimp only [gaveUp]
         exact ⟨rfl,(HG8.out.trans (Gr.of_grownBy hg9 hSb)).trans hg10,Or.inr ⟨pv,by rw [HDD.out];simp [hm9,hv'],rfl⟩⟩
       ·dsimp only [gaveUp]
        exact ⟨rfl,HG8.out.trans (Gr.of_grownBy hg9 hSb),Or.inr ⟨p9,by rw [HDD.out];simp [hm9],rfl⟩⟩
     ·have hf:((k:Int) == (34:Int))=false:=by simp;omega
      generalize Lib.idxOfS ms x=ii at HDD ⊢
      go_wp2_with fail
      refine (must_bad _ _ _ _ _).mono ?_
      rintro e w7 ⟨rfl,hm7⟩
      dsimp only [gaveUp]
      exact ⟨rfl,HG5.out.trans (Gr.of_below hm7),Or.inr ⟨p,by rw [HDD.out];simp [hk],rfl⟩⟩
   ·have hlt:decide ((ms.length:Int)<(names.length:Int))=true:=by simp;omega
    have hlt2:decide (ms.length<names.length)=true:=by simp;omega
    have hda:objS valS t true names.length names st a=(match markS t a' 44 with|.bad p=>.bad p|.ok _ a1=>(match nextS t a1 with|.bad p=>.bad p|.tok k p _ l c=>if k=34∧0≤Lib.idxOfS ms ⟨l.toArray⟩ then (match markS t c 58 with|.bad p=>.bad p|.ok _ c2=>(match valS ⟨l.toArray⟩ s' c2 with|.bad p=>.bad p|.ok st' c3=>objS valS t false d (ms.eraseIdx (Lib.idxOfS ms ⟨l.toArray⟩).toNat) st' c3)) else .bad p)):=by rw [← HE.out,decide_eq_false hfull,hd,objS_more];simp only [objS_first]
    have HDA0:=hide hda
    have HFULL:=hide hfull
    have HD1:=hide hd
    clear hda hfull hd h0
    go_wp2_with fail
    refine (mark_core b a' 44 t wr HSC.out ha' ht).mono ?_
    rintro e w3 ⟨hg3,(⟨c3,hm3,rfl,hsc3⟩|⟨p,hm3,rfl⟩)⟩
    ·dsimp only
     have hda:objS valS t true names.length names st a=(match nextS t c3 with|.bad p=>.bad p|.tok k p _ l c=>if k=34∧0≤Lib.idxOfS ms ⟨l.toArray⟩ then (match markS t c 58 with|.bad p=>.bad p|.ok _ c2=>(match valS ⟨l.toArray⟩ s' c2 with|.bad p=>.bad p|.ok st' c3=>objS valS t false d (ms.eraseIdx (Lib.idxOfS ms ⟨l.toArray⟩).toNat) st' c3)) else .bad p):=by rw [HDA0.out,hm3]
     have HDA:=hide hda
     have HSCA:=hide hsc3
     have HRA:=hide (HRK.out s' wr w3 HRR.out hsz (Gr.of_grownBy hg3 (Or.inl rfl)))
     have HGA:=hide (HGR.out.trans (Gr.of_grownBy hg3 hSb))
     have HROWA:=hide ((hg3.block g hgl (fun e=>by cases e;omega)).trans HROW.out)
     have hgA:g<w3.heap.size:=Nat.lt_of_lt_of_le hgl hg3.size
     have hszA:w.heap.size≤w3.heap.size:=Nat.le_trans hsz hg3.size
     have haA:=markS_far ha' hm3
     clear hda hsc3 hm3 hg3 HSC HRR HGR HROW hgl hsz ha' HE HDA0
     have hbA:=lt_heap HSCA.out
     go_wp2_with fail
     refine (next_core b c3 t w3 HSCA.out haA ht).mono ?_
     rintro e w4 ⟨hg4,hc4⟩
     cases hnx:nextS t c3 with
     | bad p =>
      rw [hnx] at hc4
      have hc5:e=gaveUp p:=hc4
      subst hc5
      dsimp only [gaveUp]
      exact ⟨rfl,HGA.out.trans (Gr.of_grownBy hg4 hSb),Or.inr ⟨p,by rw [HDA.out,hnx],rfl⟩⟩
     | tok k p n l c4 =>
      rw [hnx] at hc4
      obtain ⟨rfl,hsc4⟩ : e = .returned (tokV k p ((n:Nat):Int) ⟨l.toArray⟩)∧ScIs w4 b t c4:=hc4
      dsimp only [tokV]
      have hc4t:=(nextS_far haA hnx).1
      have hdd:objS valS t true names.length names st a=(if k=34∧0≤Lib.idxOfS ms ⟨l.toArray⟩ then (match markS t c4 58 with|.bad p=>.bad p|.ok _ c2=>(match valS ⟨l.toArray⟩ s' c2 with|.bad p=>.bad p|.ok st' c3=>objS valS t false d (ms.eraseIdx (Lib.idxOfS ms ⟨l.toArray⟩).toNat) st' c3)) else .bad p):=by rw [HDA.out,hnx]
      have HG4:=hide (HGA.out.trans (Gr.of_grownBy hg4 hSb))
      have HR4:=hide (HRK.out s' w3 w4 HRA.out hszA (Gr.of_grownBy hg4 (Or.inl rfl)))
      have HSC4:=hide hsc4
      have HROW4:=hide ((hg4.block g hgA (fun e=>by cases e;omega)).trans HROWA.out)
      have hsz4:w.heap.size≤w4.heap.size:=Nat.le_trans hszA hg4.size
      have hg4l:g<w4.heap.size:=Nat.lt_of_lt_of_le hgA hg4.size
      clear hnx hsc4 HDA
      generalize (⟨l.toArray⟩ : ByteArray)=x at hdd ⊢
      have HDD:=hide hdd
      clear hdd hg4
      have hix:=Tryz.slices_Index_string g 0 ms.length c ms x
      rw [List.take_length] at hix
      go_wp2_with fail
      obtain ⟨w5,hw5⟩ : ∃ w5,w5=w4.alloc (.cells #[.int .u8 ((k:Nat):Int),.int .i64 ((p:Nat):Int),.int .i64 ((n:Nat):Int),.string x] 204):=⟨_,rfl⟩
      rw [← hw5]
      have hb5:Below w4.heap.size w4 w5:=by rw [hw5];exact (Below.refl _ _).alloc (Nat.le_refl _) _
      have htok:w5.heap[w4.heap.size]? = some (.cells #[.int .u8 ((k:Nat):Int),.int .i64 ((p:Nat):Int),.int .i64 ((n:Nat):Int),.string x] 204 (0,0)):=by rw [hw5];exact heap_alloc_new _ _
      have HTOK:=hide htok
      have htl:=lt_heap htok
      have c50:w5.cell? ⟨w4.heap.size,0,none⟩=some (.int .u8 ((k:Nat):Int)):=cell_of_row w5 _ 0 _ _ _ htok
      have c51:w5.cell? ⟨w4.heap.size,1,none⟩=some (.int .i64 ((p:Nat):Int)):=cell_of_row w5 _ 1 _ _ _ htok
      have c52:w5.cell? ⟨w4.heap.size,2,none⟩=some (.int .i64 ((n:Nat):Int)):=cell_of_row w5 _ 2 _ _ _ htok
      have c53:w5.cell? ⟨w4.heap.size,3,none⟩=some (.string x):=cell_of_row w5 _ 3 _ _ _ htok
      have HROW5:=hide ((hb5.block g hg4l).trans HROW4.out)
      have HG5:=hide (HG4.out.trans (Gr.of_below hb5))
      have HR5:=hide (HRK.out s' w4 w5 HR4.out hsz4 (Gr.of_below hb5))
      have HSC5:=hide (HSC4.out.later hb5)
      have hsz5:w.heap.size≤w5.heap.size:=Nat.le_trans hsz4 hb5.size
      have hg5l:g<w5.heap.size:=Nat.lt_of_lt_of_le hg4l hb5.size
      clear htok hw5 HROW4 HG4 HR4 HSC4
      refine (hix w5 (Nat.le_refl _) (by omega) (row_strs HROW5.out HTK.out)).mono ?_
      rintro e w6 ⟨rfl,hw6⟩
      subst hw6
      dsimp only
      have hidx:=idxOfS_cases ms x
      clear hix
      by_cases hk:k=34
      ·rcases hidx with hi|⟨i,hil,hi⟩
       ·rw [hi]
        rw [hi] at HDD
        subst hk
        go_wp2_with fail
        refine (must_bad _ _ _ _ _).mono ?_
        rintro e w7 ⟨rfl,hm7⟩
        dsimp only [gaveUp]
        exact ⟨rfl,HG5.out.trans (Gr.of_below hm7),Or.inr ⟨p,by rw [HDD.out];simp,rfl⟩⟩
       ·rw [hi]
        rw [hi] at HDD
        subst hk
        go_wp2_with fail
        refine (must_ok _ _ _ _ _).mono ?_
        rintro e w7 ⟨rfl,hm7⟩
        dsimp only
        go_wp2_with fail
        have HROW7:=hide ((hm7.block g hg5l).trans HROW5.out)
        have HTOK7:=hide ((hm7.block _ htl).trans HTOK.out)
        have HG7:=hide (HG5.out.trans (Gr.of_below hm7))
        have HR7:=hide (HRK.out s' _ w7 HR5.out hsz5 (Gr.of_below hm7))
        have HSC7:=hide (HSC5.out.later hm7)
        have hsz7:w.heap.size≤w7.heap.size:=Nat.le_trans hsz5 hm7.size
        have hg7l:g<w7.heap.size:=Nat.lt_of_lt_of_le hg5l hm7.size
        have htl7:w4.heap.size<w7.heap.size:=Nat.lt_of_lt_of_le htl hm7.size
        clear hm7 HROW5 HG5 HR5 HSC5 c50 c51 c52 c53
        rw [show ((i:Int)+1)=((i+1:Nat):Int) by omega]
        refine (Tryz.slices_Delete_string_cells g 0 ms.length c i (i+1) (fun j=>ms.getD j ByteArray.empty) w7 hmc hcm (by omega) (by omega) (row_strs HROW7.out HTK.out) (fun j _=>frozen_of_row w7 g _ _ _ HROW7.out)).mono ?_
        rintro e w8 ⟨rfl,q,hw8⟩
        dsimp only
        rw [strs_erase] at hw8
        have hel:(ms.eraseIdx i).length=ms.length - 1:=by rw [List.length_eraseIdx,if_pos hil]
        obtain ⟨cur8,hr8,hcs8,_,hin8⟩:=setCells_row g 9 ((ms.eraseIdx i).map Value.string ++ [Value.string ⟨#[]⟩]) 0 (w7.drewN q) cur HROW7.out (by simp [hel];omega)
        rw [← hw8] at hr8
        have htk8:cur8.toList.take (ms.eraseIdx i).length=(ms.eraseIdx i).map Value.string:=by
         apply List.ext_getElem?
         intro j
         rw [List.getElem?_take]
         by_cases hj:j<(ms.eraseIdx i).length
         ·rw [if_pos hj,Array.getElem?_toList]
          have:=hin8 j (by simp;omega)
          rw [Nat.zero_add] at this
          rw [this,List.getElem?_append_left (by simpa using hj)]
         ·rw [if_neg hj,List.getElem?_eq_none (by simp;omega)]
        have hb8:Below g w7 w8:=by rw [hw8];exact (Below.drewN (Below.refl _ _) q).trans (below_sets (Nat.le_refl _) _ _ _)
        have hbw8:Below w.heap.size w7 w8:=hb8.mono hg
        have hs8:=hb8.size
        have htok8:w8.heap[w4.heap.size]? = some (.cells #[.int .u8 34,.int .i64 ((p:Nat):Int),.int .i64 ((n:Nat):Int),.string x] 204 (0,0)):=by
         rw [hw8,heap_setCells_other _ _ _ (by omega)]
         exact HTOK7.out
        have HTOK8:=hide htok8
        have HROW8:=hide hr8
        have HTK8:=hide htk8
        have HG8:=hide (grow_then HG7.out hbw8)
        have HR8:=hide (HRK.out s' w7 w8 HR7.out hsz7 ⟨hb8.os,hb8.tape,hb8.output,hb8.size,fun k hk hn=>by rw [hw8];exact heap_setCells_other _ _ _ (fun e=>hn (Or.inr (by subst e;exact ⟨hg,cur,HROW7.out⟩)))⟩)
        have HSC8:Hid (ScIs w8 b t c4):=(hbw8.block b hbl).trans HSC7.out
        have hsz8:w.heap.size≤w8.heap.size:=Nat.le_trans hsz7 hs8
        clear hw8 hr8 htk8 hin8 htok8 HROW7 HTOK7 HG7 HR7 HSC7
        go_wp2_with fail
        refine (mark_core b c4 58 t w8 HSC8.out hc4t ht).mono ?_
        rintro e w9 ⟨hg9,(⟨c9,hm9,rfl,hsc9⟩|⟨p9,hm9,rfl⟩)⟩
        ·dsimp only
         have c93:w9.cell? ⟨w4.heap.size,3,none⟩=some (.string x):=cell_of_row w9 _ 3 _ _ _ ((hg9.block _ (by omega) (fun e=>by cases e;omega)).trans HTOK8.out)
         go_wp2_with fail
         have HV9:=HV.out x s' c9 w9 (HRK.out s' w8 w9 HR8.out hsz8 (Gr.of_grownBy hg9 (Or.inl rfl))) (Nat.le_trans hsz8 hg9.size) hsc9 (markS_far hc4t hm9)
         refine HV9.mono ?_
         rintro e w10 ⟨hg10,(⟨st',c',hv',rfl,hsc10,hc10,hr10⟩|⟨pv,hv',rfl⟩)⟩
         ·have hrow10:w10.heap[g]? = some (.cells cur8 9 (0,0)):=by
           rw [hg10.block g (Nat.lt_of_lt_of_le (Nat.lt_of_lt_of_le hg7l hs8) hg9.size) (fun hS=>by have:=hSw g hS;omega),hg9.block g (Nat.lt_of_lt_of_le hg7l hs8) (fun e=>by cases e;omega)]
           exact HROW8.out
          have hgr10:Gr S w w10:=(HG8.out.trans (Gr.of_grownBy hg9 hSb)).trans hg10
          have hobj:objS valS t (decide ((ms.eraseIdx i).length=names.length)) (ms.eraseIdx i).length (ms.eraseIdx i) st' c'=objS valS t true names.length names st a:=by
           have hd1:=HD1.out
           rw [HDD.out,hel,decide_eq_false (by have:=hml;omega),show ms.length - 1=d by omega]
           simp [hm9,hv']
          have HROW10:=hide hrow10
          have HGR10:=hide hgr10
          have HOBJ:=hide hobj
          have HSC10:=hide hsc10
          have HR10:=hide hr10
          have HEL:=hide hel
          clear hrow10 hgr10 hobj hsc10 hr10 HV9 hg9 hg10 HROW8 HG8 HR8 HSC8 hv' hm9 c93
          dsimp only
          go_wp2_with fail
          go_roundw
          case rel =>
           have hel2:=HEL.out
           refine ⟨ms.eraseIdx i,g,c,cur8,st',c',?_,hg,HROW10.out,by omega,hcm,by omega,HTK8.out,by omega,hc10,HSC10.out,HR10.out,HGR10.out,HOBJ.out⟩
           rw [hel2,show ms.length - (i+1 - i)=ms.length - 1 by omega]
          case measure =>
           simp only [lenOf]
           show ms.length - (i+1 - i)<ms.length
           omega
         ·dsimp only [gaveUp]
          exact ⟨rfl,(HG8.out.trans (Gr.of_grownBy hg9 hSb)).trans hg10,Or.inr ⟨pv,by rw [HDD.out];simp [hm9,hv'],rfl⟩⟩
        ·dsimp only [gaveUp]
         exact ⟨rfl,HG8.out.trans (Gr.of_grownBy hg9 hSb),Or.inr ⟨p9,by rw [HDD.out];simp [hm9],rfl⟩⟩
      ·have hf:((k:Int) == (34:Int))=false:=by simp;omega
       generalize Lib.idxOfS ms x=ii at HDD ⊢
       go_wp2_with fail
       refine (must_bad _ _ _ _ _).mono ?_
       rintro e w7 ⟨rfl,hm7⟩
       dsimp only [gaveUp]
       exact ⟨rfl,HG5.out.trans (Gr.of_below hm7),Or.inr ⟨p,by rw [HDD.out];simp [hk],rfl⟩⟩
    ·dsimp only [gaveUp]
     exact ⟨rfl,HGR.out.trans (Gr.of_grownBy hg3 hSb),Or.inr ⟨p,by rw [HDA0.out,hm3],rfl⟩⟩
set_option maxHeartbeats 1000000
set_option maxRecDepth 100000
open Go.RowKit
def entS (t last x:ByteArray) (e:En) (a:Nat):RS En:=entG (nextS t) last x e a
def EnAt (bs bl be b:Nat) (last:ByteArray) (e:En) (w:World):Prop :=
 w.heap[bs]? = some (.cells #[.pointer (some ⟨b,0,none⟩)] 199 (0,0))∧w.heap[bl]? = some (.cells #[.string last] 9 (0,0))∧w.heap[be]? = some (.cells (ecellsOf e.name (rd e.dig) e.size) 193 (0,0))
theorem ec_set0 (n m:ByteArray) (ds:List Nat) (z:Int):(ecellsOf n ds z).setIfInBounds 0 (.string m)=ecellsOf m ds z:=by simp [ecellsOf]
theorem ec_set33 (n:ByteArray) (ds:List Nat) (z z':Int) (h:ds.length=32):(ecellsOf n ds z).setIfInBounds 33 (.int .i64 z')=ecellsOf n ds z':=by
 have h2:(cells8 ds).toList.length=32:=by rw [Array.length_toList,cells8_size,h]
 simp only [ecellsOf,List.setIfInBounds_toArray,List.set_cons_succ]
 rw [List.set_append_right _ _ (by omega),h2]
 rfl
theorem ec_get33 (n:ByteArray) (ds:List Nat) (z:Int) (h:ds.length=32):(ecellsOf n ds z)[33]? = some (.int .i64 z):=by
 have h2:(cells8 ds).toList.length=32:=by rw [Array.length_toList,cells8_size,h]
 simp only [ecellsOf,List.getElem?_toArray,List.getElem?_cons_succ]
 rw [List.getElem?_append_right (by omega),h2]
 rfl
theorem EnAt.later {bs bl be b:Nat} {last:ByteArray} {e:En} {w w':World} (h:EnAt bs bl be b last e w) (hne:b≠be∧bs≠be∧bl≠be∧bs≠b∧bl≠b) (hg:w.grownBy w' (some b)):EnAt bs bl be b last e w' :=
 ⟨(hg.block bs (lt_heap h.1) (fun e=>by cases e;exact hne.2.2.2.1 rfl)).trans h.1,(hg.block bl (lt_heap h.2.1) (fun e=>by cases e;exact hne.2.2.2.2 rfl)).trans h.2.1,(hg.block be (lt_heap h.2.2) (fun e=>by cases e;exact hne.1 rfl)).trans h.2.2⟩
theorem tagS_far {t last n:ByteArray} {a c:Nat} (ha:a≤t.size) (h:tagS t last a = .ok n c):c≤t.size:=by
 unfold tagS tagG at h
 cases hn:nextS t a with
 | bad p=>rw [hn] at h;cases h
 | tok k p m l c' =>
  rw [hn] at h
  dsimp only at h
  split at h
  ·cases h;exact (nextS_far ha hn).1
  ·cases h
theorem digestS_far {t n:ByteArray} {a c:Nat} (ha:a≤t.size) (h:digestS t a = .ok n c):c≤t.size:=by
 unfold digestS digestG at h
 cases hn:nextS t a with
 | bad p=>rw [hn] at h;cases h
 | tok k p m l c' =>
  rw [hn] at h
  dsimp only at h
  split at h
  ·cases h;exact (nextS_far ha hn).1
  ·cases h
theorem sizeS_far {t:ByteArray} {n a c:Nat} (ha:a≤t.size) (h:sizeS t a = .ok n c):c≤t.size:=by
 unfold sizeS sizeG at h
 cases hn:nextS t a with
 | bad p=>rw [hn] at h;cases h
 | tok k p m l c' =>
  rw [hn] at h
  dsimp only at h
  split at h
  ·cases h;exact (nextS_far ha hn).1
  ·cases h
theorem setCells_rowF (g:Nat) (T:TypeId):∀ (vs:List Value) (o:Nat) (w:World) (cur:Array Value),w.heap[g]? = some (.cells cur T (0,0))→o+vs.length≤cur.size →
  ∃ cur',(w.setCells g o vs).heap[g]? = some (.cells cur' T (0,0))∧cur'.size=cur.size∧(∀ j,j<o→cur'[j]? = cur[j]?)∧(∀ j,j<vs.length→cur'[o+j]? = vs[j]?)∧(∀ j,o+vs.length≤j→cur'[j]? = cur[j]?)
 | [],o,w,cur,h,_=>⟨cur,h,rfl,fun _ _=>rfl,fun j hj=>by simp at hj,fun _ _=>rfl⟩
 | v::vs,o,w,cur,h,hl=>by
  simp only [List.length_cons] at hl
  obtain ⟨cur',h1,h2,h3,h4,h5⟩:=setCells_rowF g T vs (o+1) (w.setCell ⟨g,o,none⟩ v) _ (row_store v h) (by simp;omega)
  refine ⟨cur',h1,by simpa using h2,fun j hj=>?_,fun j hj=>?_,fun j hj=>?_⟩
  ·rw [h3 j (by omega)]
   simp [Array.getElem?_setIfInBounds]
   intro e;omega
  ·cases j with
   | zero =>
    rw [Nat.add_zero,h3 o (by omega)]
    simp [Array.getElem?_setIfInBounds]
    omega
   | succ j =>
    rw [show o+(j+1)=o+1+j by omega,h4 j (by simpa using hj)]
    simp
  ·simp only [List.length_cons] at hj
   rw [h5 j (by omega)]
   simp [Array.getElem?_setIfInBounds]
   intro e;omega
theorem gr_sets {S:Nat→Prop} {g:Nat} (vs:List Value) (o:Nat) (w:World) (hg:S g):Gr S w (w.setCells g o vs):=by
 have h:=below_sets (B:=0) (Nat.zero_le g) vs o w
 exact ⟨h.os,h.tape,h.output,h.size,fun k _ hn=>heap_setCells_other _ _ _ (fun e=>by subst e;exact hn hg)⟩
theorem there_mid {w:World} {be:Nat} {n:ByteArray} {ds:List Nat} {z:Int} (h:w.heap[be]? = some (.cells (ecellsOf n ds z) 193 (0,0))) (hd:ds.length=32) (ds':List Nat) (hd':ds'.length=32):w.there be 1 (cells8 ds').size:=by
 intro j hj
 rw [cells8_size,hd'] at hj
 refine ⟨?_,frozen_of_row w be _ _ _ h⟩
 rw [cell_of_row w be (1+j) _ _ _ h,Array.getElem?_eq_getElem (by rw [ecellsOf_size n ds z hd];omega)]
 rfl
theorem ec_setMid {w:World} {be:Nat} {n:ByteArray} {ds:List Nat} {z:Int} (h:w.heap[be]? = some (.cells (ecellsOf n ds z) 193 (0,0))) (hd:ds.length=32) (ds':List Nat) (hd':ds'.length=32):(w.setCells be 1 (cells8 ds').toList).heap[be]? = some (.cells (ecellsOf n ds' z) 193 (0,0)):=by
 have hl:(cells8 ds').toList.length=32:=by rw [Array.length_toList,cells8_size,hd']
 obtain ⟨cur',h1,h2,h3,h4,h5⟩:=setCells_rowF be 193 (cells8 ds').toList 1 w _ h (by rw [ecellsOf_size n ds z hd];omega)
 rw [h1]
 have hc:cur'=ecellsOf n ds' z:=by
  apply Array.ext_getElem?
  intro j
  have hl2:(cells8 ds).toList.length=32:=by rw [Array.length_toList,cells8_size,hd]
  rcases Nat.lt_or_ge j 1 with hj|hj
  ·rw [h3 j hj]
   obtain rfl:j=0:=by omega
   rfl
  ·obtain ⟨i,rfl⟩ : ∃ i,j=i+1:=⟨j - 1,by omega⟩
   rcases Nat.lt_or_ge i 32 with hi|hi
   ·rw [Nat.add_comm i 1,h4 i (by omega),Nat.add_comm 1 i]
    simp only [ecellsOf,List.getElem?_toArray,List.getElem?_cons_succ]
    rw [List.getElem?_append_left (by omega)]
   ·rw [h5 (i+1) (by omega)]
    simp only [ecellsOf,List.getElem?_toArray,List.getElem?_cons_succ]
    rw [List.getElem?_append_right (by omega),List.getElem?_append_right (by omega),hl,hl2]
 rw [hc]
theorem entryC_any (bs bl be b a:Nat) (t last x:ByteArray) (e0:En) (w:World) (hne:b≠be∧bs≠be∧bl≠be∧bs≠b∧bl≠b) (hs:ScIs w b t a) (ha:a≤t.size) (ht:t.size≤2000) (hE:EnAt bs bl be b last e0 w) :
  Calls Tryz.prog 221 #[.string x,.pointer (some ⟨bs,0,none⟩),.pointer (some ⟨bl,0,none⟩),.pointer (some ⟨be,0,none⟩)] w fun e w'=>Gr (fun k=>k=b∨k=be) w w' ∧
   ((∃ e1 c,entS t last x e0 a = .ok e1 c∧e = .returned (.tuple #[])∧ScIs w' b t c∧c≤t.size∧EnAt bs bl be b last e1 w')∨(∃ p,entS t last x e0 a = .bad p∧e=gaveUp p)):=by
 have HS:=hide hs
 have HE:=hide hE
 have c1:=cell_of_row w bs 0 _ _ _ hE.1
 have c2:=cell_of_row w bl 0 _ _ _ hE.2.1
 have hbl:=lt_heap hs
 clear hs hE
 by_cases h1:x=sTag
 ·subst h1
  have hent:entS t last sTag e0 a=(match tagS t last a with|.ok n c=>.ok { e0 with name:=n } c|.bad p=>.bad p):=by unfold entS entG;rw [if_pos rfl];unfold tagS;cases tagG (nextS t) last a<;>rfl
  unfold sTag at hent ⊢
  have HENT:=hide hent
  clear hent
  go_enter Tryz.func221,Tryz.ntmps221
  go_wp2_with fail
  refine (tag_core b a t last w HS.out ha ht).mono ?_
  rintro e w1 ⟨hg1,(⟨n1,c,hm1,rfl,hsc1⟩|⟨p,hm1,rfl⟩)⟩
  ·dsimp only
   have hE1:=HE.out.later hne hg1
   have c3:w1.cell? ⟨be,0,none⟩=some (.string e0.name):=cell_of_row w1 be 0 _ _ _ hE1.2.2
   have f3:=frozen_of_row w1 be 0 _ _ hE1.2.2
   have HE1:=hide hE1
   clear hE1
   go_wp2_with fail
   (try simp only [Exit.inBlock,Exit.then])
   go_end0
   have hrow:=row_store (i:=0) (.string n1) HE1.out.2.2
   rw [ec_set0] at hrow
   refine ⟨(Gr.of_grownBy hg1 (Or.inl rfl)).trans (Gr.of_grownBy (grownBy_set w1 be 0 _) (Or.inr rfl)),Or.inl ⟨{ e0 with name:=n1 },c,by rw [HENT.out,hm1],rfl,?_,?_,?_,?_,hrow⟩⟩
   ·exact (heap_setCell_other _ _ _ _ hne.1).trans hsc1
   ·exact tagS_far ha hm1
   ·exact (heap_setCell_other _ _ _ _ hne.2.1).trans HE1.out.1
   ·exact (heap_setCell_other _ _ _ _ hne.2.2.1).trans HE1.out.2.1
  ·dsimp only [gaveUp]
   exact ⟨rfl,Gr.of_grownBy hg1 (Or.inl rfl),Or.inr ⟨p,by rw [HENT.out,hm1],rfl⟩⟩
 ·by_cases h2:x=sDigest
  ·subst h2
   have hent:entS t last sDigest e0 a=(match digestS t a with|.ok s c=>.ok { e0 with dig:=s } c|.bad p=>.bad p):=by unfold entS entG;rw [if_neg (by decide),if_pos rfl];unfold digestS;cases digestG (nextS t) a<;>rfl
   unfold sDigest at hent ⊢
   have HENT:=hide hent
   clear hent h1
   go_enter Tryz.func221,Tryz.ntmps221
   go_wp2_with fail
   refine (digest_core b a t w HS.out ha ht).mono ?_
   rintro e w1 ⟨hg1,(⟨n1,c,hm1,rfl,hsc1⟩|⟨p,hm1,rfl⟩)⟩
   ·dsimp only
    have HE1:=hide (HE.out.later hne hg1)
    have hdl:=rd_len n1
    have hth:w1.there be 1 (cells8 (rd n1)).size:=there_mid HE1.out.2.2 (rd_len _) (rd n1) hdl
    go_wp2_with (refine wpList_store_mid rfl 117 _ _ rfl be 1 _ rfl rfl hth (size40 _ hdl) (cells8_one _) ?_)
    (try simp only [Exit.inBlock,Exit.then])
    go_end0
    have hrow:=ec_setMid HE1.out.2.2 (rd_len _) (rd n1) hdl
    have hgs:Gr (fun k=>k=b∨k=be) w1 (w1.setCells be 1 (cells8 (rd n1)).toList):=gr_sets _ _ _ (Or.inr rfl)
    refine ⟨(Gr.of_grownBy hg1 (Or.inl rfl)).trans hgs,Or.inl ⟨{ e0 with dig:=n1 },c,by rw [HENT.out,hm1],rfl,?_,?_,?_,?_,hrow⟩⟩
    ·exact (heap_setCells_other _ _ _ hne.1).trans hsc1
    ·exact digestS_far ha hm1
    ·exact (heap_setCells_other _ _ _ hne.2.1).trans HE1.out.1
    ·exact (heap_setCells_other _ _ _ hne.2.2.1).trans HE1.out.2.1
   ·dsimp only [gaveUp]
    exact ⟨rfl,Gr.of_grownBy hg1 (Or.inl rfl),Or.inr ⟨p,by rw [HENT.out,hm1],rfl⟩⟩
  ·by_cases h3:x=sSize
   ·subst h3
    have g1:=hide h1
    clear h1 h2
    have hent:entS t last sSize e0 a=(match sizeS t a with|.ok n c=>.ok { e0 with size:=n } c|.bad p=>.bad p):=by unfold entS entG;rw [if_neg (by decide),if_neg (by decide),if_pos rfl];unfold sizeS;cases sizeG (nextS t) a<;>rfl
    unfold sSize at hent ⊢
    have HENT:=hide hent
    clear hent
    go_enter Tryz.func221,Tryz.ntmps221
    go_wp2_with fail
    refine (size_core b a t w HS.out ha ht).mono ?_
    rintro e w1 ⟨hg1,(⟨n1,c,hm1,rfl,hsc1⟩|⟨p,hm1,rfl⟩)⟩
    ·dsimp only
     have hE1:=HE.out.later hne hg1
     have c3:w1.cell? ⟨be,33,none⟩=some (.int .i64 ((e0.size:Nat):Int)):=(cell_of_row w1 be 33 _ _ _ hE1.2.2).trans (ec_get33 _ _ _ (rd_len _))
     have f3:=frozen_of_row w1 be 33 _ _ hE1.2.2
     have HE1:=hide hE1
     clear hE1
     go_wp2_with fail
     (try simp only [Exit.inBlock,Exit.then])
     go_end0
     have hrow:=row_store (i:=33) (.int .i64 ((n1:Nat):Int)) HE1.out.2.2
     rw [ec_set33 _ _ _ _ (rd_len _)] at hrow
     refine ⟨(Gr.of_grownBy hg1 (Or.inl rfl)).trans (Gr.of_grownBy (grownBy_set w1 be 33 _) (Or.inr rfl)),Or.inl ⟨{ e0 with size:=n1 },c,by rw [HENT.out,hm1],rfl,?_,?_,?_,?_,hrow⟩⟩
     ·exact (heap_setCell_other _ _ _ _ hne.1).trans hsc1
     ·exact sizeS_far ha hm1
     ·exact (heap_setCell_other _ _ _ _ hne.2.1).trans HE1.out.1
     ·exact (heap_setCell_other _ _ _ _ hne.2.2.1).trans HE1.out.2.1
    ·dsimp only [gaveUp]
     exact ⟨rfl,Gr.of_grownBy hg1 (Or.inl rfl),Or.inr ⟨p,by rw [HENT.out,hm1],rfl⟩⟩
   ·have hent:entS t last x e0 a = .ok e0 a:=by unfold entS entG;rw [if_neg h1,if_neg h2,if_neg h3]
    have HENT:=hide hent
    have q1:(x.toList == [116,97,103])=false:=by rw [beq_eq_false_iff_ne];intro e;exact h1 ((toList_inj x sTag).1 (e.trans (by decide +kernel)))
    have q2:(x.toList == [100,105,103,101,115,116])=false:=by rw [beq_eq_false_iff_ne];intro e;exact h2 ((toList_inj x sDigest).1 (e.trans (by decide +kernel)))
    have q3:(x.toList == [115,105,122,101])=false:=by rw [beq_eq_false_iff_ne];intro e;exact h3 ((toList_inj x sSize).1 (e.trans (by decide +kernel)))
    clear hent h1 h2 h3
    go_enter Tryz.func221,Tryz.ntmps221
    go_wp2_with fail
    (try simp only [Exit.inBlock,Exit.then])
    go_end0
    exact ⟨Gr.refl _ _,Or.inl ⟨e0,a,HENT.out,rfl,HS.out,ha,HE.out⟩⟩
set_option maxHeartbeats 1000000
set_option maxRecDepth 100000
open Go.RowKit
def entryS (t:ByteArray) (k p:Nat) (last:ByteArray) (a:Nat):RS En:=entryG (nextS t) k p last a
theorem alloc6 (w W:World) (o0 o1 o2 o3 o4 o5:Obj) (hW:W=(((((w.alloc o0).alloc o1).alloc o2).alloc o3).alloc o4).alloc o5) :
  W.heap.size=w.heap.size+6∧W.heap[w.heap.size]? = some o0∧W.heap[w.heap.size+1+1]? = some o2∧W.heap[w.heap.size+1+1+1]? = some o3∧W.heap[w.heap.size+1+1+1+1]? = some o4∧W.heap[w.heap.size+1+1+1+1+1]? = some o5∧Below w.heap.size w W:=by
 subst hW
 refine ⟨by simp,?_,?_,?_,?_,?_,?_⟩
 ·exact (Below.heap_alloc _ _ _ (by simp;omega)).trans ((Below.heap_alloc _ _ _ (by simp;omega)).trans ((Below.heap_alloc _ _ _ (by simp;omega)).trans ((Below.heap_alloc _ _ _ (by simp;omega)).trans ((Below.heap_alloc _ _ _ (by simp)).trans (heap_alloc_new _ _)))))
 ·have h:=heap_alloc_new ((w.alloc o0).alloc o1) o2
  simp only [size_alloc] at h
  exact (Below.heap_alloc _ _ _ (by simp only [size_alloc];omega)).trans ((Below.heap_alloc _ _ _ (by simp only [size_alloc];omega)).trans ((Below.heap_alloc _ _ _ (by simp)).trans h))
 ·have h:=heap_alloc_new (((w.alloc o0).alloc o1).alloc o2) o3
  simp only [size_alloc] at h
  exact (Below.heap_alloc _ _ _ (by simp only [size_alloc];omega)).trans ((Below.heap_alloc _ _ _ (by simp)).trans h)
 ·have h:=heap_alloc_new ((((w.alloc o0).alloc o1).alloc o2).alloc o3) o4
  simp only [size_alloc] at h
  exact (Below.heap_alloc _ _ _ (by simp)).trans h
 ·have h:=heap_alloc_new (((((w.alloc o0).alloc o1).alloc o2).alloc o3).alloc o4) o5
  simp only [size_alloc] at h
  exact h
 ·exact ((((((Below.refl _ _).alloc (Nat.le_refl _) _).alloc (by simp) _).alloc (by simp;omega) _).alloc (by simp;omega) _).alloc (by simp;omega) _).alloc (by simp;omega) _
theorem Gr.after_below {S S2:Nat→Prop} {w W W1:World} (h1:Below w.heap.size w W) (h2:Gr S2 W W1) (hS:∀ k,k<w.heap.size→S2 k→S k):Gr S w W1 :=
 ⟨h2.os.trans h1.os,h2.tape.trans h1.tape,h2.output.trans h1.output,Nat.le_trans h1.size h2.size,fun k hk hn=>(h2.block k (Nat.lt_of_lt_of_le hk h1.size) fun h=>hn (hS k hk h)).trans (h1.block k hk)⟩
theorem rd_nil:rd ⟨#[]⟩=Sha.zeros 32:=by decide +kernel
theorem rd_nil_cells:ecellsOf ⟨#[]⟩ (rd ⟨#[]⟩) 0=ecellsOf ⟨#[]⟩ (Sha.zeros 32) 0:=by rw [rd_nil]
theorem entry_core (b a k0 p0:Nat) (n0:Int) (s0 t last:ByteArray) (w:World) (hs:ScIs w b t a) (ha:a≤t.size) (ht:t.size≤2000) :
  Calls Tryz.prog 183 #[.pointer (some ⟨b,0,none⟩),tokV k0 p0 n0 s0,.string last] w fun e w'=>Gr (fun k=>k=b) w w' ∧
   ((∃ e1 c,entryS t k0 p0 last a = .ok e1 c∧e = .returned (.agg (ecellsOf e1.name (rd e1.dig) e1.size))∧ScIs w' b t c∧c≤t.size)∨(∃ p,entryS t k0 p0 last a = .bad p∧e=gaveUp p)):=by
 have HS:=hide hs
 have hbl:=lt_heap hs
 clear hs
 have hz71:=(zero_of_info Tryz.info71b).1
 unfold tokV
 go_enter Tryz.func183,Tryz.ntmps183
 go_wp2_with fail
 obtain ⟨W,hW⟩ : ∃ W,W=(((((w.alloc (.cells #[.pointer (some ⟨b,0,none⟩)] 199)).alloc (.cells #[.int .u8 ((k0:Nat):Int),.int .i64 ((p0:Nat):Int),.int .i64 n0,.string s0] 204)).alloc (.cells #[.string last] 9)).alloc (.cells (ecellsOf ⟨#[]⟩ (Sha.zeros 32) 0) 193)).alloc (.cells (ecellsOf ⟨#[]⟩ (Sha.zeros 32) 0) 193)).alloc (.cells #[.string ⟨#[116,97,103]⟩,.string ⟨#[100,105,103,101,115,116]⟩,.string ⟨#[115,105,122,101]⟩] 9):=⟨_,rfl⟩
 rw [← hW]
 obtain ⟨hz,h0,h2,h3,h4,h5,hB⟩:=alloc6 _ _ _ _ _ _ _ _ hW
 clear hW
 have hsW:ScIs W b t a:=HS.out.later hB
 have hR:EnAt w.heap.size (w.heap.size+1+1) (w.heap.size+1+1+1+1) b last En0 W:=⟨h0,h2,by rw [h4];unfold En0;rw [show ((0:Nat):Int)=0 from rfl,rd_nil_cells]⟩
 have hn:∀ j,j < [sTag,sDigest,sSize].length→W.cell? ⟨w.heap.size+1+1+1+1+1,j,none⟩=some (.string ([sTag,sDigest,sSize].getD j ByteArray.empty)):=by
  intro j hj
  rw [cell_of_row W _ j _ _ _ h5]
  match j,hj with
  | 0,_=>rfl
  | 1,_=>rfl
  | 2,_=>rfl
 have HR3:=hide h3
 have HBB:=hide hB
 have HSW:=hide hsW
 have HRR:=hide hR
 have HNN:=hide hn
 clear h0 h2 h3 h4 h5 hB hsW hR hn
 by_cases hk:k0=123
 ·subst hk
  have hent:entryS t 123 p0 last a=objS (entS t last) t true 3 [sTag,sDigest,sSize] En0 a:=by
   unfold entryS entryG objS
   rw [if_pos rfl]
   rfl
  have HENT:=hide hent
  clear hent
  have hcall:=object_ok (entS t last) b (w.heap.size+1+1+1+1+1) 221 [sTag,sDigest,sSize] #[.pointer (some ⟨w.heap.size,0,none⟩),.pointer (some ⟨w.heap.size+1+1,0,none⟩),.pointer (some ⟨w.heap.size+1+1+1+1,0,none⟩)] t a p0 n0 s0 W (fun k=>k=b∨k=w.heap.size+1+1+1+1) (EnAt w.heap.size (w.heap.size+1+1) (w.heap.size+1+1+1+1) b last) En0
   (enters_of Tryz.func221 (by kernel_rfl) rfl) HSW.out ha ht (Or.inl rfl) (by intro k hk;rcases hk with rfl|rfl<;>omega) HRR.out (by decide) HNN.out
   (fun st V V' hV hsz hg=>⟨(hg.block _ (by omega) (by intro h;rcases h with h|⟨h,_⟩<;>omega)).trans hV.1,(hg.block _ (by omega) (by intro h;rcases h with h|⟨h,_⟩<;>omega)).trans hV.2.1,(hg.block _ (by omega) (by intro h;rcases h with h|⟨h,_⟩<;>omega)).trans hV.2.2⟩)
   (fun x st c V hV hsz hsc hc=>entryC_any _ _ _ b c t last x st V (by omega) hsc hc ht hV)
  simp only [tokV,List.length_cons,List.length_nil,Nat.zero_add,Nat.reduceAdd] at hcall
  refine hcall.mono ?_
  rintro e w1 ⟨hg1,(⟨e1,c,ho,rfl,hsc1,hc1,hR1⟩|⟨p,ho,rfl⟩)⟩
  ·dsimp only
   have hr4:=hR1.2.2
   have hr3:w1.heap[w.heap.size+1+1+1]? = some (.cells (ecellsOf ⟨#[]⟩ (Sha.zeros 32) 0) 193 (0,0)):=(hg1.block _ (by omega) (by intro h;rcases h with h|h<;>omega)).trans HR3.out
   have hgw:Gr (fun k=>k=b) w w1:=Gr.after_below HBB.out hg1 (by intro k hk h;rcases h with h|h<;>omega)
   have HGW:=hide hgw
   have HSC1:=hide hsc1
   have HO:=hide ho
   have hl:=rd_len e1.dig
   clear hgw hsc1 ho hg1 hR1 hcall
   generalize hds:rd e1.dig=ds at hr4 hl ⊢
   have HDS:=hide hds
   clear hds
   go_wp2_with (first|(refine wpList_load_row rfl 193 _ rfl (w.heap.size+1+1+1+1) rfl 193 _ _ _ hr4 Tryz.underlying193 rfl (size71 _ _ _ hl) ?_)|(refine wpList_store_row rfl 193 _ _ rfl (w.heap.size+1+1+1) _ rfl rfl 193 _ hr3 (size71 _ _ _ hl) (by rw [ecellsOf_size _ _ _ hl,ecellsOf_size _ _ _ (Sha.zeros_len 32)]) (by rw [Array.all_eq_true_iff_forall_mem];intro u hu;exact ecellsOf_one _ _ _ u (by simpa using hu)) ?_))
   have hb2:Below w.heap.size w1 (w1.setRow (w.heap.size+1+1+1) (ecellsOf e1.name ds e1.size)):=(Below.refl _ _).setRow (by omega) _
   refine bodyPost_ret (results_cell_row Tryz.results183 _ _ (w.heap.size+1+1+1) 193 _ (0,0) _ rfl (setRow_heap _ _ _ _ _ _ hr3) Tryz.underlying193 rfl (size71 _ _ _ hl)) rfl ⟨grow_then HGW.out hb2,Or.inl ⟨e1,c,?_,?_,?_,hc1⟩⟩
   ·rw [HENT.out,HO.out]
   ·rw [HDS.out]
   ·exact (hb2.block b hbl).trans HSC1.out
  ·dsimp only [gaveUp]
   exact ⟨rfl,Gr.after_below HBB.out hg1 (by intro k hk h;rcases h with h|h<;>omega),Or.inr ⟨p,by rw [HENT.out,ho],rfl⟩⟩
 ·have hent:entryS t k0 p0 last a = .bad p0:=by
   unfold entryS entryG
   rw [if_neg hk]
  have hcall:=object_bad b (w.heap.size+1+1+1+1+1) 221 3 3 #[.pointer (some ⟨w.heap.size,0,none⟩),.pointer (some ⟨w.heap.size+1+1,0,none⟩),.pointer (some ⟨w.heap.size+1+1+1+1,0,none⟩)] k0 p0 n0 s0 W (fun k=>k=b) hk
  simp only [tokV] at hcall
  refine hcall.mono ?_
  rintro e w1 ⟨hg1,rfl⟩
  dsimp only [gaveUp]
  exact ⟨rfl,Gr.after_below HBB.out hg1 (fun k _ h=>h),Or.inr ⟨p0,hent,rfl⟩⟩
set_option maxHeartbeats 2000000
set_option maxRecDepth 100000
open Go.RowKit
def En.ecells (e:En):List Value:=(ecellsOf e.name (rd e.dig) e.size).toList
def entsS (t:ByteArray) (n:Nat) (es:List En) (last:ByteArray) (k p c:Nat):RS (List En):=entsG (nextS t) n es last k p c
def entriesS (t:ByteArray) (a:Nat):RS (List En):=entriesG (nextS t) a
section
variable {t last:ByteArray} {n k p c:Nat} {es:List En}
theorem ents_bad {q:Nat} (h:entryS t k p last c = .bad q):entsS t n es last k p c = .bad q:=by
 unfold entsS;rw [entsG.eq_def];unfold entryS at h;dsimp only;rw [h]
theorem ents_nbad {e:En} {c1 q:Nat} (h:entryS t k p last c = .ok e c1) (h2:nextS t c1 = .bad q):entsS t n es last k p c = .bad q:=by
 unfold entsS;rw [entsG.eq_def];unfold entryS at h;dsimp only;rw [h];dsimp only;rw [h2]
theorem ents_end {e:En} {c1 p2 n2 c2:Nat} {l2:List UInt8} (h:entryS t k p last c = .ok e c1) (h2:nextS t c1 = .tok 93 p2 n2 l2 c2):entsS t n es last k p c = .ok (es ++ [e]) c2:=by
 unfold entsS;rw [entsG.eq_def];unfold entryS at h;dsimp only;rw [h];dsimp only;rw [h2];dsimp only;rw [if_pos rfl]
theorem ents_no {e:En} {c1 k2 p2 n2 c2:Nat} {l2:List UInt8} (h:entryS t k p last c = .ok e c1) (h2:nextS t c1 = .tok k2 p2 n2 l2 c2) (hk:k2≠93) (hn:n=0∨k2≠44):entsS t n es last k p c = .bad p2:=by
 unfold entsS;rw [entsG.eq_def];unfold entryS at h;dsimp only;rw [h];dsimp only;rw [h2];dsimp only;rw [if_neg hk]
 cases n with
 | zero=>rfl
 | succ m=>dsimp only;rw [if_neg (by rcases hn with h|h;omega;exact h)]
theorem ents_gbad {m:Nat} {e:En} {c1 p2 n2 c2 q:Nat} {l2:List UInt8} (hn:n=m+1) (h:entryS t k p last c = .ok e c1) (h2:nextS t c1 = .tok 44 p2 n2 l2 c2) (h3:nextS t c2 = .bad q):entsS t n es last k p c = .bad q:=by
 subst hn
 unfold entsS;rw [entsG.eq_def];unfold entryS at h;dsimp only;rw [h];dsimp only;rw [h2];dsimp only;rw [if_neg (by decide),if_pos rfl,h3]
theorem ents_go {m:Nat} {e:En} {c1 p2 n2 c2 k3 p3 n3 c3:Nat} {l2 l3:List UInt8} (hn:n=m+1) (h:entryS t k p last c = .ok e c1) (h2:nextS t c1 = .tok 44 p2 n2 l2 c2) (h3:nextS t c2 = .tok k3 p3 n3 l3 c3):entsS t n es last k p c=entsS t m (es ++ [e]) e.name k3 p3 c3:=by
 subst hn
 unfold entsS;rw [entsG.eq_def];unfold entryS at h;dsimp only;rw [h];dsimp only;rw [h2];dsimp only;rw [if_neg (by decide),if_pos rfl,h3]
end
theorem ownsRow_gr {S:Nat→Prop} {base:Nat} {e:TypeId} {size n:Nat} {v:Value} {xs:List Value} {w w':World} (ho:w.ownsRow base e size v n xs) (hg:Gr S w w') (hS:∀ k,S k→k<base):w'.ownsRow base e size v n xs:=by
 refine ⟨ho.1,ho.2.imp id ?_⟩
 rintro ⟨g,cap,cur,e1,e2,e3,e4⟩
 exact ⟨g,cap,cur,e1,e2,(hg.block g (lt_heap e3) (fun h=>by have:=hS g h;omega)).trans e3,e4⟩
theorem Gr.grown {S:Nat→Prop} {w w1 w2:World} {base:Nat} {e:TypeId} {size n:Nat} {v:Value} {xs:List Value} (h:Gr S w w1) (hg:w1.grownBy w2 v.ownBlock) (ho:w1.ownsRow base e size v n xs) (hB:w.heap.size≤base):Gr S w w2 :=
 ⟨hg.os.trans h.os,hg.tape.trans h.tape,hg.output.trans h.output,Nat.le_trans h.size hg.size,fun k hk hn=>(hg.block k (Nat.lt_of_lt_of_le hk h.size) (fun e=>by have:=(ho.lt k e.symm).1;omega)).trans (h.block k hk hn)⟩
theorem own_ne {base:Nat} {e:TypeId} {size n:Nat} {v:Value} {xs:List Value} {w:World} {g:Nat} {cs:Array Value} {T:TypeId} {fr:Nat × Nat} (ho:w.ownsRow base e size v n xs) (h:w.heap[g]? = some (.cells cs T fr)) (hT:T≠e):v.ownBlock≠some g:=by
 intro he
 rcases ho.2 with ⟨rfl,_⟩|⟨g2,cap,cur,rfl,h2,h3,_⟩
 ·cases he
 ·have:g2=g:=by cases he;rfl
  subst this
  rw [h] at h3
  cases h3
  exact hT rfl
theorem ownsRow_other {base:Nat} {e:TypeId} {size n:Nat} {v:Value} {xs:List Value} {w w':World} (ho:w.ownsRow base e size v n xs) (hb:∀ k,v.ownBlock=some k→w'.heap[k]? = w.heap[k]?):w'.ownsRow base e size v n xs:=by
 refine ⟨ho.1,ho.2.imp id ?_⟩
 rintro ⟨g,cap,cur,e1,e2,e3,e4⟩
 exact ⟨g,cap,cur,e1,e2,(hb g (by rw [e1];rfl)).trans e3,e4⟩
theorem own_slice {base:Nat} {e:TypeId} {size n:Nat} {v:Value} {xs:List Value} {w:World} (ho:w.ownsRow base e size v n xs):∃ oa cap,v = .slice oa n cap:=by
 rcases ho.2 with ⟨rfl,rfl⟩|⟨g2,cap,cur,rfl,_⟩
 ·exact ⟨none,0,rfl⟩
 ·exact ⟨_,cap,rfl⟩
theorem entries_core (b a:Nat) (t:ByteArray) (w:World) (hs:ScIs w b t a) (ha:a≤t.size) (ht:t.size≤2000) :
  Calls Tryz.prog 127 #[.pointer (some ⟨b,0,none⟩)] w fun e w'=>Gr (fun k=>k=b) w w' ∧
   ((∃ es c v,entriesS t a = .ok es c∧e = .returned v∧w'.ownsRow w.heap.size 193 34 v es.length (es.flatMap En.ecells)∧es.length≤8∧ScIs w' b t c∧c≤t.size)∨(∃ p,entriesS t a = .bad p∧e=gaveUp p)):=by
 have HS:=hide hs
 have hbl:=lt_heap hs
 clear hs
 obtain ⟨i0,hi,hz0,hz1,hz2⟩:=info_parts Tryz.info193
 have hz71:=(zero_of_info Tryz.info71b).1
 go_enter Tryz.func127,Tryz.ntmps127
 go_wp2_with fail
 refine (mark_core b a 91 t w HS.out ha ht).mono ?_
 rintro e w1 ⟨hg1,(⟨c1,hm1,rfl,hsc1⟩|⟨p,hm1,rfl⟩)⟩
 ·dsimp only
  have hc1:=markS_far ha hm1
  have G1:=hide (Gr.of_grownBy (S:=fun k=>k=b) hg1 rfl)
  have SC1:=hide hsc1
  have HM1:=hide hm1
  clear hg1 hsc1 hm1
  go_wp2_with fail
  refine (next_core b c1 t w1 SC1.out hc1 ht).mono ?_
  rintro e w2 ⟨hg2,hc⟩
  cases hnx:nextS t c1 with
  | bad p =>
   rw [hnx] at hc
   have hc2:e=gaveUp p:=hc
   subst hc2
   dsimp only [gaveUp]
   refine ⟨rfl,G1.out.trans (Gr.of_grownBy hg2 rfl),Or.inr ⟨p,?_,rfl⟩⟩
   have hm:=HM1.out
   unfold markS at hm
   unfold entriesS entriesG
   rw [hm]
   dsimp only
   rw [hnx]
  | tok k p n l c =>
   rw [hnx] at hc
   obtain ⟨rfl,hsc2⟩ : e = .returned (tokV k p ((n:Nat):Int) ⟨l.toArray⟩)∧ScIs w2 b t c:=hc
   dsimp only [tokV]
   have hc2:=(nextS_far hc1 hnx).1
   have G2:=hide (G1.out.trans (Gr.of_grownBy hg2 rfl))
   have SC2:=hide hsc2
   have hz2w:w.heap.size≤w2.heap.size:=(G1.out.trans (Gr.of_grownBy hg2 rfl)).size
   have hes:entriesS t a=if k=93 then .ok [] c else entsS t 7 [] ⟨#[]⟩ k p c:=by
    have hm:=HM1.out
    unfold markS at hm
    unfold entriesS entriesG entsS
    rw [hm]
    dsimp only
    rw [hnx]
   have HES:=hide hes
   clear hg2 hsc2 hnx hes
   generalize (⟨l.toArray⟩ : ByteArray)=txt
   by_cases hk:k=93
   ·subst hk
    go_wp2_with fail
    go_ret
    refine ⟨G2.out.trans (Gr.of_below ((Below.refl _ _).alloc (Nat.le_refl _) _)),Or.inl ⟨[],c,by rw [HES.out];simp,.slice none 0 0,rfl,World.ownsRow_nil _ _ _ _,by decide,SC2.out.later ((Below.refl _ _).alloc (Nat.le_refl _) _),hc2⟩⟩
   ·have hf:((k:Int) == (93:Int))=false:=by simp;omega
    have HES2:Hid (entriesS t a=entsS t 7 [] ⟨#[]⟩ k p c):=by have:=HES.out;rwa [if_neg hk] at this
    clear HES
    go_wp2_with fail
    go_loopw [4,5] (fun v la wr=>∃ (es:List En) (last:ByteArray) (k p:Nat) (n:Int) (s:ByteArray) (c:Nat),v=v∧la = .string last∧wr.ownsRow w.heap.size 193 34 v es.length (es.flatMap En.ecells)∧es.length<8∧lenOf v=es.length ∧
      wr.heap[w2.heap.size]? = some (.cells #[.int .u8 ((k:Nat):Int),.int .i64 ((p:Nat):Int),.int .i64 n,.string s] 204 (0,0))∧ScIs wr b t c∧c≤t.size∧Gr (fun k=>k=b) w wr∧entriesS t a=entsS t (7 - es.length) es last k p c)
     (fun v _ _=>8 - lenOf v)
    case atStart =>
     refine ⟨[],⟨#[]⟩,k,p,_,txt,c,rfl,rfl,World.ownsRow_nil _ _ _ _,by decide,rfl,heap_alloc_new _ _,SC2.out.later ((Below.refl _ _).alloc (Nat.le_refl _) _),hc2,G2.out.trans (Gr.of_below ((Below.refl _ _).alloc (Nat.le_refl _) _)),HES2.out⟩
    case round =>
     clear hk hf HES2 SC2 G2 hc2 SC1 G1 HM1 hc1
     obtain ⟨es,last,k,p,n,s,c, -,rfl,hown,hlt,hlen,htok,hsc,hc,hgr,he⟩:=hrel
     have htl:=lt_heap htok
     have hzz:=hgr.size
     have OWN:=hide hown
     have TOK:=hide htok
     have SC:=hide hsc
     have GR:=hide hgr
     have HE:=hide he
     have LEN:=hide hlen
     have t0:wr.cell? ⟨w2.heap.size,0,none⟩=some (.int .u8 ((k:Nat):Int)):=cell_of_row wr _ 0 _ _ _ htok
     have t1:wr.cell? ⟨w2.heap.size,1,none⟩=some (.int .i64 ((p:Nat):Int)):=cell_of_row wr _ 1 _ _ _ htok
     have t2:wr.cell? ⟨w2.heap.size,2,none⟩=some (.int .i64 n):=cell_of_row wr _ 2 _ _ _ htok
     have t3:wr.cell? ⟨w2.heap.size,3,none⟩=some (.string s):=cell_of_row wr _ 3 _ _ _ htok
     clear hown htok hsc hgr he hlen
     go_wp2_with fail
     refine (entry_core b c k p n s t last wr SC.out hc ht).mono ?_
     rintro e w3 ⟨hg3,(⟨e1,c3,he3,rfl,hsc3,hc3⟩|⟨q,he3,rfl⟩)⟩
     ·dsimp only
      have hdl:=rd_len e1.dig
      have hOw:=ownsRow_gr OWN.out hg3 (fun k hk=>by subst hk;exact hbl)
      have htk3:=(hg3.block _ htl (fun h=>by omega)).trans TOK.out
      have GR3:=hide (GR.out.trans hg3)
      have hz3:=hg3.size
      have SC3:=hide hsc3
      have HE3:=hide he3
      have OWN3:=hide hOw
      have TOK3:=hide htk3
      clear hg3 hsc3 he3 hOw htk3 t0 t1 t2 t3 OWN TOK SC GR
      have hecs:En.ecells e1=(ecellsOf e1.name (rd e1.dig) e1.size).toList:=rfl
      have HECS:=hide hecs
      clear hecs
      generalize hds:rd e1.dig=ds at hdl HECS
      have HDS:=hide hds
      clear hds
      have hE4:=heap_alloc_new w3 (.cells (ecellsOf e1.name ds e1.size) 193 (0,0))
      have OWN4:=hide ((OWN3.out.alloc (.cells (ecellsOf e1.name ds e1.size) 193 (0,0))).alloc (.cells (ecellsOf e1.name ds e1.size) 193 (0,0)))
      have HE5:=hide (row_cells (heap_alloc_new (w3.alloc (.cells (ecellsOf e1.name ds e1.size) 193 (0,0))) (.cells (ecellsOf e1.name ds e1.size) 193 (0,0))))
      go_wp2_with (first|(refine wpList_store_row rfl 193 _ _ rfl w3.heap.size _ rfl rfl 193 _ (heap_alloc_new _ _) (size71 _ _ _ hdl) (by rw [ecellsOf_size _ _ _ hdl,ecellsOf_size _ _ _ (Sha.zeros_len 32)]) (by rw [Array.all_eq_true_iff_forall_mem];intro u hu;exact ecellsOf_one _ _ _ u (by simpa using hu)) ?_;rw [World.setRow_alloc_new])|(refine wpList_load_row rfl 193 _ rfl w3.heap.size rfl 193 _ _ _ hE4 Tryz.underlying193 rfl (size71 _ _ _ hdl) ?_)|(refine wpList_slice47 rfl _ rfl e1.name ds e1.size hdl rfl ?_)|(refine wpList_append_own _ rfl _ _ 138 rfl w.heap.size 193 i0 _ 34 56 Tryz.underlying138 hi hz0 hz1 hz2 (ecellsOf_size _ _ _ (Sha.zeros_len _)) (by decide) _ es.length _ rfl OWN4.out _ 1 1 (ecellsOf e1.name ds e1.size).toList rfl (by rw [Array.length_toList,ecellsOf_size _ _ _ hdl]) HE5.out (ecellsOf_one _ _ _) (by unfold maxLen;omega) (by omega) (by simp;omega) ?_;rintro v2 w5 hv2 hg5 _;have t4:w5.cell? ⟨w3.heap.size,0,none⟩=some (.string e1.name):=cell_of_row w5 w3.heap.size 0 _ _ _ (grown_keeps hg5 ((Below.heap_alloc (w3.alloc (.cells (ecellsOf e1.name ds e1.size) 193 (0,0))) _ _ (by rw [size_alloc];omega)).trans hE4) (fun e=>by have:=(OWN3.out.lt _ e).2;omega));have OWN5:=hide hv2;have GG5:=hide hg5;clear hv2 hg5))
      have hG5:Gr (fun k=>k=b) w w5:=((GR3.out.trans (Gr.of_below ((Below.refl _ _).alloc (Nat.le_refl _) _))).trans (Gr.of_below ((Below.refl _ _).alloc (Nat.le_refl _) _))).grown GG5.out OWN4.out (Nat.le_refl _)
      have hne5:∀ k,k<w.heap.size→Value.ownBlock u4≠some k:=fun k hk e=>by have:=(OWN3.out.lt _ e).1;omega
      have hsc5:ScIs w5 b t c3:=(GG5.out.block b (by simp only [size_alloc];omega) (fun e=>hne5 b hbl e.symm)).trans ((SC3.out.later ((Below.refl _ _).alloc (Nat.le_refl _) _)).later ((Below.refl _ _).alloc (Nat.le_refl _) _))
      have htk5:=(GG5.out.block w2.heap.size (by simp only [size_alloc];omega) (fun e=>own_ne OWN3.out TOK3.out (by decide) e.symm)).trans ((Below.heap_alloc _ _ _ (by simp only [size_alloc];omega)).trans ((Below.heap_alloc _ _ _ (by omega)).trans TOK3.out))
      have hz5:=GG5.out.size
      simp only [size_alloc] at hz5
      have SC5:=hide hsc5
      have G5:=hide hG5
      have TOK5:=hide htk5
      have hown5:w5.ownsRow w.heap.size 193 34 v2 (es ++ [e1]).length ((es ++ [e1]).flatMap En.ecells):=by
       have h:=OWN5.out
       rw [List.flatMap_append,List.length_append,List.flatMap_cons,List.flatMap_nil,List.append_nil,HECS.out]
       exact h
      have hel:(es ++ [e1]).length=es.length+1:=by simp
      rw [hel] at hown5
      obtain ⟨oa,cap,rfl⟩:=own_slice hown5
      have OW5:=hide hown5
      clear hsc5 hG5 htk5 hown5 OWN5 GG5 OWN4 HE5 hE4 OWN3 TOK3 SC3 GR3 t4 hne5
      refine (next_core b c3 t w5 SC5.out hc3 ht).mono ?_
      rintro e w6 ⟨hg6,hc6⟩
      cases hnx:nextS t c3 with
      | bad q =>
       rw [hnx] at hc6
       have hc7:e=gaveUp q:=hc6
       subst hc7
       dsimp only [gaveUp]
       exact ⟨rfl,G5.out.trans (Gr.of_grownBy hg6 rfl),Or.inr ⟨q,by rw [HE.out];exact ents_nbad HE3.out hnx,rfl⟩⟩
      | tok k2 p2 n2 l2 c2 =>
       rw [hnx] at hc6
       obtain ⟨rfl,hsc6⟩ : e = .returned (tokV k2 p2 ((n2:Nat):Int) ⟨l2.toArray⟩)∧ScIs w6 b t c2:=hc6
       dsimp only [tokV]
       have hc2:=(nextS_far hc3 hnx).1
       have G6:=hide (G5.out.trans (Gr.of_grownBy hg6 rfl))
       have SC6:=hide hsc6
       have HNX:=hide hnx
       have OW6:=hide (ownsRow_gr OW5.out (Gr.of_grownBy (S:=fun k=>k=b) hg6 rfl) (fun k hk=>by subst hk;exact hbl))
       have TOK6:=hide ((hg6.block _ (by omega) (fun e=>by cases e;omega)).trans TOK5.out)
       have hz6:=hg6.size
       clear hg6 hsc6 hnx OW5 TOK5 G5 SC5
       generalize (⟨l2.toArray⟩ : ByteArray)=txt2
       have HEL:=hide hel
       clear hel
       by_cases hk2:k2=93
       ·subst hk2
        go_wp2_with fail
        go_ret
        refine ⟨G6.out.trans (Gr.of_below ((Below.refl _ _).alloc (Nat.le_refl _) _)),Or.inl ⟨es ++ [e1],c2,_,by rw [HE.out];exact ents_end HE3.out HNX.out,rfl,by rw [HEL.out];exact OW6.out.alloc _,by have:=HEL.out;omega,SC6.out.later ((Below.refl _ _).alloc (Nat.le_refl _) _),hc2⟩⟩
       ·have hf2:((k2:Int) == (93:Int))=false:=by simp;omega
        by_cases hgo:k2=44∧es.length+1<8
        ·obtain ⟨rfl,hl8⟩:=hgo
         have hl8b:decide ((es.length:Int)+1<8)=true:=by simp;omega
         go_wp2_with fail
         refine (must_ok _ _ _ _ _).mono ?_
         rintro e w7 ⟨rfl,hm7⟩
         dsimp only
         have hb7:Below w6.heap.size w6 w7:=((Below.refl _ _).alloc (Nat.le_refl _) _).trans (hm7.mono (by simp))
         have SC7:=hide (SC6.out.later hb7)
         have G7:=hide (G6.out.trans (Gr.of_below hb7))
         have OW7:=hide (ownsRow_gr OW6.out (Gr.of_below (S:=fun k=>k=b) hb7) (fun k hk=>by subst hk;exact hbl))
         have TOK7:=hide ((hb7.block _ (by omega)).trans TOK6.out)
         have hz7:=hb7.size
         clear hb7 hm7 SC6 G6 OW6 TOK6
         go_wp2_with fail
         refine (next_core b c2 t w7 SC7.out hc2 ht).mono ?_
         rintro e w8 ⟨hg8,hc8⟩
         cases hnx8:nextS t c2 with
         | bad q =>
          rw [hnx8] at hc8
          have hc9:e=gaveUp q:=hc8
          subst hc9
          dsimp only [gaveUp]
          exact ⟨rfl,G7.out.trans (Gr.of_grownBy hg8 rfl),Or.inr ⟨q,by rw [HE.out];exact ents_gbad (m:=6 - es.length) (by omega) HE3.out HNX.out hnx8,rfl⟩⟩
         | tok k3 p3 n3 l3 c4 =>
          rw [hnx8] at hc8
          obtain ⟨rfl,hsc8⟩ : e = .returned (tokV k3 p3 ((n3:Nat):Int) ⟨l3.toArray⟩)∧ScIs w8 b t c4:=hc8
          dsimp only [tokV]
          have hc4:=(nextS_far hc2 hnx8).1
          have HE8:Hid (entriesS t a=entsS t (7 - (es ++ [e1]).length) (es ++ [e1]) e1.name k3 p3 c4):=by
           have h:=HE.out
           rw [ents_go (m:=6 - es.length) (by omega) HE3.out HNX.out hnx8] at h
           rw [HEL.out,show 7 - (es.length+1)=6 - es.length by omega]
           exact h
          have G8:=hide (G7.out.trans (Gr.of_grownBy hg8 rfl))
          have SC8:=hide hsc8
          have OW8:=hide (ownsRow_gr OW7.out (Gr.of_grownBy (S:=fun k=>k=b) hg8 rfl) (fun k hk=>by subst hk;exact hbl))
          have htk8:=(hg8.block _ (by omega) (fun e=>by cases e;omega)).trans TOK7.out
          have hz8:=hg8.size
          have f0:=fun j=>frozen_of_row w8 w2.heap.size j _ _ htk8
          have q0:w8.cell? ⟨w2.heap.size,0,none⟩=some (.int .u8 ((k:Nat):Int)):=cell_of_row w8 _ 0 _ _ _ htk8
          have q1:w8.cell? ⟨w2.heap.size,1,none⟩=some (.int .i64 ((p:Nat):Int)):=cell_of_row w8 _ 1 _ _ _ htk8
          have q2:w8.cell? ⟨w2.heap.size,2,none⟩=some (.int .i64 n):=cell_of_row w8 _ 2 _ _ _ htk8
          have q3:w8.cell? ⟨w2.heap.size,3,none⟩=some (.string s):=cell_of_row w8 _ 3 _ _ _ htk8
          have TOK8:=hide htk8
          clear hg8 hsc8 hnx8 HNX HE HE3 G7 SC7 OW7 TOK7 htk8
          generalize (⟨l3.toArray⟩ : ByteArray)=txt3
          go_wp2_with fail
          go_roundw
          case rel =>
           have hB:=below_set4 w8 hz2w (.int .u8 ((k3:Nat):Int)) (.int .i64 ((p3:Nat):Int)) (.int .i64 ((n3:Nat):Int)) (.string txt3)
           refine ⟨es ++ [e1],e1.name,k3,p3,_,txt3,c4,trivial,rfl,?_,by have:=HEL.out;omega,by rw [HEL.out];rfl,set4 _ _ _ _ TOK8.out,(hB.block b hbl).trans SC8.out,hc4,grow_then G8.out hB,HE8.out⟩
           rw [HEL.out]
           refine ownsRow_other OW8.out fun k hk=>?_
           have hne:k≠w2.heap.size:=fun e=>own_ne OW8.out TOK8.out (by decide) (e ▸ hk)
           rw [heap_setCell_other _ _ _ _ hne,heap_setCell_other _ _ _ _ hne,heap_setCell_other _ _ _ _ hne,heap_setCell_other _ _ _ _ hne]
          case measure =>
           show 8 - (es.length+1)<8 - lenOf u4
           rw [LEN.out]
           omega
        ·have hcond:(k2=44∧decide ((es.length:Int)+1<8)=false)∨((k2:Int) == (44:Int))=false:=by
          by_cases h44:k2=44
          ·left;exact ⟨h44,by simp;omega⟩
          ·right;simp;omega
         have hno:7 - es.length=0∨k2≠44:=by omega
         have HNO:=hide hno
         clear hgo hno
         rcases hcond with ⟨rfl,hl8b⟩|hf4
         ·go_wp2_with fail
          refine (must_bad _ _ _ _ _).mono ?_
          rintro e w7 ⟨rfl,hm7⟩
          dsimp only [gaveUp]
          exact ⟨rfl,(G6.out.trans (Gr.of_below ((Below.refl _ _).alloc (Nat.le_refl _) _))).trans (Gr.of_below hm7),Or.inr ⟨p2,by rw [HE.out];exact ents_no HE3.out HNX.out (by decide) HNO.out,rfl⟩⟩
         ·have HK2:=hide hk2
          go_wp2_with fail
          refine (must_bad _ _ _ _ _).mono ?_
          rintro e w7 ⟨rfl,hm7⟩
          dsimp only [gaveUp]
          exact ⟨rfl,(G6.out.trans (Gr.of_below ((Below.refl _ _).alloc (Nat.le_refl _) _))).trans (Gr.of_below hm7),Or.inr ⟨p2,by rw [HE.out];exact ents_no HE3.out HNX.out HK2.out HNO.out,rfl⟩⟩
     ·dsimp only [gaveUp]
      exact ⟨rfl,GR.out.trans hg3,Or.inr ⟨q,by rw [HE.out];exact ents_bad he3,rfl⟩⟩
 ·dsimp only [gaveUp]
  refine ⟨rfl,Gr.of_grownBy hg1 rfl,Or.inr ⟨p,?_,rfl⟩⟩
  unfold markS at hm1
  unfold entriesS entriesG
  rw [hm1]
set_option maxHeartbeats 1000000
set_option maxRecDepth 100000
open Go.RowKit
def topS (t x:ByteArray) (es:List En) (a:Nat):RS (List En):=topG (nextS t) x es a
def TopAt (bs bn b B:Nat) (es:List En) (w:World):Prop :=
 w.heap[bs]? = some (.cells #[.pointer (some ⟨b,0,none⟩)] 199 (0,0))∧es.length≤8∧∃ v,w.heap[bn]? = some (.cells #[v] 138 (0,0))∧w.ownsRow B 193 34 v es.length (es.flatMap En.ecells)
theorem own_mono {B base:Nat} {e:TypeId} {size n:Nat} {v:Value} {xs:List Value} {w:World} (ho:w.ownsRow base e size v n xs) (hB:B≤base):w.ownsRow B e size v n xs :=
 ⟨ho.1,ho.2.imp id fun ⟨g,cap,cur,e1,e2,e3⟩=>⟨g,cap,cur,e1,Nat.le_trans hB e2,e3⟩⟩
theorem TopAt.later {bs bn b B:Nat} {es:List En} {w w':World} {S:Nat→Prop} (h:TopAt bs bn b B es w) (hg:Gr S w w') (h1:¬ S bs) (h2:¬ S bn) (h3:∀ k cur,S k→B≤k→w.heap[k]?≠some (.cells cur 193 (0,0))):TopAt bs bn b B es w':=by
 obtain ⟨a1,a2,v,a3,a4⟩:=h
 refine ⟨(hg.block _ (lt_heap a1) h1).trans a1,a2,v,(hg.block _ (lt_heap a3) h2).trans a3,ownsRow_other a4 fun k hk=>?_⟩
 rcases a4.2 with ⟨rfl,_⟩|⟨g,cap,cur,rfl,e2,e3,_⟩
 ·cases hk
 ·cases hk
  exact hg.block g (lt_heap e3) fun hS=>h3 g cur hS e2 e3
theorem topC_any (bs bn b a B:Nat) (t x:ByteArray) (es:List En) (w:World) (hne:b≠bn∧bs≠bn∧bs≠b) (hBw:B≤w.heap.size) (hs:ScIs w b t a) (ha:a≤t.size) (ht:t.size≤2000) (hE:TopAt bs bn b B es w) :
  Calls Tryz.prog 125 #[.string x,.pointer (some ⟨bs,0,none⟩),.pointer (some ⟨bn,0,none⟩)] w fun e w'=>Gr (fun k=>k=b∨k=bn) w w' ∧
   ((∃ es1 c,topS t x es a = .ok es1 c∧e = .returned (.tuple #[])∧ScIs w' b t c∧c≤t.size∧TopAt bs bn b B es1 w')∨(∃ p,topS t x es a = .bad p∧e=gaveUp p)):=by
 have HS:=hide hs
 have HE:=hide hE
 have c1:=cell_of_row w bs 0 _ _ _ hE.1
 have hbl:=lt_heap hs
 have hsc2:∀ k cur,k=b→w.heap[k]?≠some (.cells cur 193 (0,0)):=by
  intro k cur hk h
  subst hk
  rw [hs] at h
  cases h
 have HSC2:=hide hsc2
 clear hs hE hsc2
 by_cases h1:x=sVersion
 ·subst h1
  have hent:topS t sVersion es a=(match versionS t a with|.ok _ c=>.ok es c|.bad p=>.bad p):=by unfold topS topG;rw [if_pos rfl];unfold versionS;cases versionG (nextS t) a<;>rfl
  unfold sVersion at hent ⊢
  have HENT:=hide hent
  clear hent
  go_enter Tryz.func125,Tryz.ntmps125
  go_wp2_with fail
  refine (version_core b a t w HS.out ha ht).mono ?_
  rintro e w1 ⟨hg1,(⟨c,hm1,rfl,hsc1⟩|⟨p,hm1,rfl⟩)⟩
  ·dsimp only
   have hE1:TopAt bs bn b B es w1:=HE.out.later (S:=fun k=>k=b) (Gr.of_grownBy hg1 rfl) hne.2.2 (fun e=>hne.1 e.symm) (fun k cur hk _=>HSC2.out k cur hk)
   have hfar:c≤t.size:=by
    unfold versionS versionG at hm1
    cases hn:nextS t a with
    | bad p=>rw [hn] at hm1;cases hm1
    | tok k p n l c' =>
     rw [hn] at hm1
     dsimp only at hm1
     split at hm1
     ·cases hm1;exact (nextS_far ha hn).1
     ·cases hm1
   have HM1:=hide hm1
   clear hm1
   go_wp2_with fail
   (try simp only [Exit.inBlock,Exit.then])
   go_end0
   exact ⟨Gr.of_grownBy hg1 (Or.inl rfl),Or.inl ⟨es,c,by rw [HENT.out,HM1.out],rfl,hsc1,hfar,hE1⟩⟩
  ·dsimp only [gaveUp]
   exact ⟨rfl,Gr.of_grownBy hg1 (Or.inl rfl),Or.inr ⟨p,by rw [HENT.out,hm1],rfl⟩⟩
 ·by_cases h2:x=sTags
  ·subst h2
   have hent:topS t sTags es a=entriesS t a:=by unfold topS topG entriesS;rw [if_neg (by decide),if_pos rfl]
   unfold sTags at hent ⊢
   have HENT:=hide hent
   clear hent h1
   go_enter Tryz.func125,Tryz.ntmps125
   go_wp2_with fail
   refine (entries_core b a t w HS.out ha ht).mono ?_
   rintro e w1 ⟨hg1,(⟨es1,c,v1,hm1,rfl,hown,hl8,hsc1,hc1⟩|⟨p,hm1,rfl⟩)⟩
   ·dsimp only
    obtain ⟨oa,cap,rfl⟩:=own_slice hown
    obtain ⟨a1,a2,v0,a3,a4⟩:=HE.out
    have hbn:w1.heap[bn]? = some (.cells #[v0] 138 (0,0)):=(hg1.block _ (lt_heap a3) (fun e=>hne.1 e.symm)).trans a3
    have hbs:w1.heap[bs]? = some (.cells #[.pointer (some ⟨b,0,none⟩)] 199 (0,0)):=(hg1.block _ (lt_heap a1) hne.2.2).trans a1
    have c2:=cell_of_row w1 bn 0 _ _ _ hbn
    have f2:=frozen_of_row w1 bn 0 _ _ hbn
    have HBN:=hide hbn
    have HBS:=hide hbs
    have HOWN:=hide hown
    have HG1:=hide hg1
    have HSC1:=hide hsc1
    have HM1:=hide hm1
    clear hbn hbs hown hg1 hsc1 hm1 a1 a2 a3 a4
    go_wp2_with fail
    (try simp only [Exit.inBlock,Exit.then])
    go_end0
    have hrow:=row_store (i:=0) (.slice oa es1.length cap) HBN.out
    refine ⟨(HG1.out.mono (fun k _ h=>Or.inl h)).trans (Gr.of_grownBy (grownBy_set w1 bn 0 _) (Or.inr rfl)),Or.inl ⟨es1,c,by rw [HENT.out,HM1.out],rfl,?_,hc1,?_,hl8,.slice oa es1.length cap,hrow,?_⟩⟩
    ·exact (heap_setCell_other _ _ _ _ hne.1).trans HSC1.out
    ·exact (heap_setCell_other _ _ _ _ hne.2.1).trans HBS.out
    ·refine own_mono (ownsRow_other HOWN.out fun k hk=>?_) hBw
     exact heap_setCell_other _ _ _ _ (fun e=>own_ne HOWN.out HBN.out (by decide) (by rw [hk];exact congrArg some e))
   ·dsimp only [gaveUp]
    exact ⟨rfl,hg1.mono (fun k _ h=>Or.inl h),Or.inr ⟨p,by rw [HENT.out,hm1],rfl⟩⟩
  ·have hent:topS t x es a = .ok es a:=by unfold topS topG;rw [if_neg h1,if_neg h2]
   have HENT:=hide hent
   have q1:(x.toList == [118,101,114,115,105,111,110])=false:=by rw [beq_eq_false_iff_ne];intro e;exact h1 ((toList_inj x sVersion).1 (e.trans (by decide +kernel)))
   have q2:(x.toList == [116,97,103,115])=false:=by rw [beq_eq_false_iff_ne];intro e;exact h2 ((toList_inj x sTags).1 (e.trans (by decide +kernel)))
   clear hent h1 h2
   go_enter Tryz.func125,Tryz.ntmps125
   go_wp2_with fail
   (try simp only [Exit.inBlock,Exit.then])
   go_end0
   exact ⟨Gr.refl _ _,Or.inl ⟨es,a,HENT.out,rfl,HS.out,ha,HE.out⟩⟩
end Go.Proofs.YtncigfibncmioaaGreatDoor
