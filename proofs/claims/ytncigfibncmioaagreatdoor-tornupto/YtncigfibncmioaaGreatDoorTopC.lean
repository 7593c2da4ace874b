/-
  PROVED HERE: rows of strings: their cells, and what is left in one from which an element was taken out.
-/
import Derived.Test.YtncigfibncmioaaGreatDoorDigR
import Derived.Test.YtncigfibncmioaaGreatDoorShelfS
set_option maxHeartbeats 2000000
set_option maxRecDepth 100000
namespace Go.Proofs.YtncigfibncmioaaGreatDoor
open Go.RowKit
theorem OV {w:World} {g:Nat} {cur:Array Value} {ms:List ByteArray} (h:w.heap[g]? = some (.cells cur 9 (0,0))) (cN:cur.toList.take ms.length=ms.map Value.string) :
  ∀ j,j<ms.length->w.cell? ⟨g,0+j,none⟩=some (.string (ms.getD j ByteArray.empty)):=by
 intro j hj;rw [Nat.zero_add,cell_of_row w g j _ _ _ h];have h1:(cur.toList.take ms.length)[j]? = (ms.map Value.string)[j]?:=by rw [cN]
 rw [List.getElem?_take,if_pos hj,List.getElem?_map,List.getElem?_eq_getElem hj] at h1;rw [<- Array.getElem?_toList,h1];simp [List.getD_eq_getElem?_getD,List.getElem?_eq_getElem hj]
theorem Zm (ms:List ByteArray) (i:Nat) :
  (((Lib.strsOf (fun j=>ms.getD j ByteArray.empty) ms.length).take i++(Lib.strsOf (fun j=>ms.getD j ByteArray.empty) ms.length).drop (i+1)++List.replicate (i+1 - i) []).map encStr)=(ms.eraseIdx i).map Value.string ++ [Value.string ⟨#[]⟩]:=by
 have h0:Lib.strsOf (fun j=>ms.getD j ByteArray.empty) ms.length=ms.map (fun s=>s.data.toList):=by
  unfold Lib.strsOf;apply List.ext_getElem?;intro j
  by_cases hj:j<ms.length
  ·simp [List.getElem?_map,List.getElem?_range hj,List.getD_eq_getElem?_getD,List.getElem?_eq_getElem hj]
  ·simp [List.getElem?_map,List.getElem?_eq_none (show (List.range ms.length).length<=j by simp;omega),List.getElem?_eq_none (show ms.length<=j by omega)]
 have h1:∀ s:ByteArray,encStr s.data.toList=Value.string s:=fun s=>rfl
 rw [h0,show i+1 - i=1 by omega,List.eraseIdx_eq_take_drop_succ];simp only [List.map_append,List.map_take,List.map_drop,List.map_map,List.replicate_one,List.map_cons,List.map_nil];rfl
theorem QeC (x:ByteArray):∀ (ms:List ByteArray) (j:Nat),Lib.idxFromS ms x j = -1∨∃ i,i<ms.length/\Lib.idxFromS ms x j=((j+i:Nat):Int)
 | [],_=>Or.inl rfl
 | z::zs,j=>by
  by_cases hz:z=x
  ·right;exact ⟨0,by simp,by simp [Lib.idxFromS,hz]⟩
  ·rcases QeC x zs (j+1) with h|⟨i,hi,h⟩
   ·left;simp only [Lib.idxFromS,if_neg hz,h]
   ·right;exact ⟨i+1,by simp;omega,by simp only [Lib.idxFromS,if_neg hz,h];omega⟩
theorem Zl (ms:List ByteArray) (x:ByteArray):Lib.idxOfS ms x = -1∨∃ i,i<ms.length/\Lib.idxOfS ms x=(i:Int):=by
 rcases QeC x ms 0 with h|⟨i,hi,h⟩
 ·exact Or.inl h
 ·exact Or.inr ⟨i,hi,by unfold Lib.idxOfS;rw [h];omega⟩
end Go.Proofs.YtncigfibncmioaaGreatDoor
namespace Go.Proofs.YtncigfibncmioaaGreatDoor
open Go.RowKit
def cM {σ:Type} (cq:ByteArray->σ->Nat->RS σ) (t:ByteArray) (first:Bool) (d:Nat) (missing:List ByteArray) (st:σ) (a:Nat):RS σ:=dU (bO t) cq first d missing st a
theorem QnU {σ:Type} (cq:ByteArray->σ->Nat->RS σ) (t:ByteArray) (f:Bool) (ms:List ByteArray) (s':σ) (a':Nat):cM cq t f 0 ms s' a'=(match np t a' 125 with|.ok _ c=>.ok s' c|.bad p=>.bad p):=by
 unfold cM dU np
 cases lB (bO t) a' 125<;>rfl
theorem Zi {σ:Type} (cq:ByteArray->σ->Nat->RS σ) (t:ByteArray) (d:Nat) (ms:List ByteArray) (s':σ) (a':Nat):cM cq t true (d+1) ms s' a'=(match bO t a' with|.bad p=>.bad p|.tok k p _ l c=>if k=34/\0<=Lib.idxOfS ms ⟨l.toArray⟩ then (match np t c 58 with|.bad p=>.bad p|.ok _ c2=>(match cq ⟨l.toArray⟩ s' c2 with|.bad p=>.bad p|.ok ju c3=>cM cq t false d (ms.eraseIdx (Lib.idxOfS ms ⟨l.toArray⟩).toNat) ju c3)) else .bad p):=by
 conv=>lhs;unfold cM dU
 simp only [if_true]
 cases bO t a' with
 | bad p=>rfl
 | tok k p n l c =>
  dsimp only
  split
  ·unfold np
   cases lB (bO t) c 58 with
   | bad p=>rfl
   | ok u c2 =>
    dsimp only
    cases cq ⟨l.toArray⟩ s' c2<;>rfl
  ·rfl
theorem QnV {σ:Type} (cq:ByteArray->σ->Nat->RS σ) (t:ByteArray) (d:Nat) (ms:List ByteArray) (s':σ) (a':Nat):cM cq t false (d+1) ms s' a'=(match np t a' 44 with|.bad p=>.bad p|.ok _ a1=>cM cq t true (d+1) ms s' a1):=by
 conv=>lhs;unfold cM dU
 unfold np;simp only [Bool.false_eq_true,if_false]
 cases lB (bO t) a' 44 with
 | bad p=>rfl
 | ok u a1 =>
  dsimp only
  conv=>rhs;unfold cM dU
  simp only [if_true]
theorem Ks {t:ByteArray} {a kind c:Nat} (ha:a<=t.size) (h:np t a kind = .ok () c):c<=t.size:=by
 unfold np lB at h
 cases hn:bO t a with
 | bad p=>rw [hn] at h;cases h
 | tok k p n l c' =>
  rw [hn] at h;dsimp only at h
  split at h
  ·cases h;exact (wR ha hn).1
  ·cases h
theorem YQ (b gn K:Nat) (n m:Nat) (cap:Array Value) (k0 p0:Nat) (n0:Int) (s0:ByteArray) (w:World) (S:Nat->Prop) (hk:¬ k0=123) :
  Calls Tryz.prog 123 #[.pointer (some ⟨b,0,none⟩),bw k0 p0 n0 s0,.slice (some ⟨gn,0,none⟩) n m,.func (.func K) #[] cap] w fun e w'=>Gr S w w'/\e=bE p0:=by
 have hf:((k0:Int) == (123:Int))=false:=by simp;omega
 unfold bw;go_enter Tryz.func123,Tryz.ntmps123;go_wp2_with (go_at_call 128;refine (kK _ _ _ _ _).mono ?_;rintro e w1 ⟨rfl,hm⟩;dsimp only [bE]);exact ⟨rfl,(Gr.ae ((Below.refl _ _).alloc (Nat.le_refl _) _)).trans (Gr.ae hm),rfl⟩
theorem yg {g h:Nat}:∀ (vs:List Value) (o:Nat) (w:World),h≠g->(w.setCells g o vs).heap[h]? = w.heap[h]?
 | [],_,_,_=>rfl
 | v::vs,o,w,hn=>(yg vs (o+1) (w.setCell ⟨g,o,none⟩ v) hn).trans (heap_setCell_other _ _ _ _ hn)
theorem OC {S:Nat->Prop} {w w1 w2:World} (h:Gr S w w1) (hb:Below w.heap.size w1 w2):Gr S w w2 :=
 ⟨hb.os.trans h.os,hb.tape.trans h.tape,hb.output.trans h.output,Nat.le_trans h.size hb.size,fun k hk hn=>(hb.block k hk).trans (h.block k hk hn)⟩
def lenOf:Value->Nat
 | .slice _ n _=>n
 | _=>0
theorem YO {σ:Type} (cq:ByteArray->σ->Nat->RS σ) (b gn K:Nat) (names:List ByteArray) (cap:Array Value) (t:ByteArray) (a p0:Nat) (n0:Int) (s0:ByteArray) (w:World) (S:Nat->Prop) (R:σ->World->Prop) (st:σ)
  (oG:∀ (args:Array Value) (w:World),(callFunc K args).run Tryz.prog w = .ok (.enter K args) w) (hs:aD w b t a) (ha:a<=t.size) (ht:t.size<=2000) (uM:S b) (hSw:∀ k,S k->k<w.heap.size) (hR:R st w) (hn3:names.length<=3)
  (hn:∀ j,j<names.length->w.cell? ⟨gn,j,none⟩=some (.string (names.getD j ByteArray.empty)))
  (Zj:∀ st W W',R st W->w.heap.size<=W.heap.size->Gr (fun k=>k=b∨(w.heap.size<=k/\∃ cur,W.heap[k]? = some (.cells cur 9 (0,0)))) W W'->R st W')
  (hv:∀ x st c W,R st W->w.heap.size<=W.heap.size->aD W b t c->c<=t.size->Calls Tryz.prog K (#[.string x]++cap) W fun e W'=>Gr S W W'/\((∃ ju c',cq x st c = .ok ju c'/\e = .returned (.tuple #[])/\aD W' b t c'/\c'<=t.size/\R ju W')∨(∃ p,cq x st c = .bad p/\e=bE p))) :
  Calls Tryz.prog 123 #[.pointer (some ⟨b,0,none⟩),bw 123 p0 n0 s0,.slice (some ⟨gn,0,none⟩) names.length names.length,.func (.func K) #[] cap] w fun e w'=>Gr S w w' /\
   ((∃ ju c',cM cq t true names.length names st a = .ok ju c'/\e = .returned (.tuple #[])/\aD w' b t c'/\c'<=t.size/\R ju w')∨(∃ p,cM cq t true names.length names st a = .bad p/\e=bE p)):=by
 have HS:=aa hs;have hbl:=ax hs;have HV:=aa hv;have vH:=aa Zj;have HR:=aa hR;have HN:=aa hn;clear hs hv Zj hR hn;unfold bw;go_enter Tryz.func123,Tryz.ntmps123;go_wp2_with (go_at_call 128;refine (sJ _ _ _ _ _).mono ?_;rintro e w1 ⟨rfl,hm⟩);have hb1:Below w.heap.size w w1:=((Below.refl _ _).alloc (Nat.le_refl _) _).trans (hm.mono (by simp));refine (Tryz.slices_Clone_string gn 0 names.length names.length names w1 (Nat.le_refl _) (by omega) (fun j hj=>?_)).mono ?_
 ·rw [Nat.zero_add];exact cell_later hb1 (HN.out j hj)
 rintro e w2 ⟨v',rfl,ho,hne,hb2⟩;dsimp only;obtain ⟨g,c0,Sm,rfl,hg,hrow,iZ,hcm,hcs,cN⟩ : ∃ g c cur,v' = .slice (some ⟨g,0,none⟩) names.length c/\w1.heap.size<=g/\w2.heap[g]? = some (.cells cur 9 (0,0))/\names.length<=c/\c<=maxLen/\cur.size=c/\cur.toList.take names.length=names.map Value.string:=by
  rcases ho.2 with ⟨rfl,_⟩|⟨g,c,cur,h1,h2,h3,h4,h5,h6,h7⟩
  ·exact absurd rfl hne
  ·exact ⟨g,c,cur,h1,h2,h3,h4,h5,by omega,by rw [Nat.mul_one] at h7;rw [h7,List.take_length]⟩
 clear ho hne;go_wp2_with fail
 go_loopw [8] (fun v wr=>∃ (ms:List ByteArray) (g c:Nat) (cur:Array Value) (s':σ) (a':Nat),v = .slice (some ⟨g,0,none⟩) ms.length c/\w.heap.size<=g/\wr.heap[g]? = some (.cells cur 9 (0,0))/\ms.length<=c/\c<=maxLen/\cur.size=c/\cur.toList.take ms.length=ms.map Value.string/\ms.length<=names.length/\a'<=t.size/\aD wr b t a'/\R s' wr/\Gr S w wr/\cM cq t (decide (ms.length=names.length)) ms.length ms s' a'=cM cq t true names.length names st a)
  (fun v _=>lenOf v)
 case atStart =>
  have hg2:Gr S w w2:=(Gr.ae hb1).trans (Gr.ae hb2);have hg3:Gr (fun k=>k=b∨(w.heap.size<=k/\∃ cur,w.heap[k]? = some (.cells cur 9 (0,0)))) w w2:=(Gr.ae hb1).trans (Gr.ae hb2);refine ⟨names,g,c0,Sm,st,a,rfl,Nat.le_trans hb1.size hg,hrow,iZ,hcm,hcs,cN,Nat.le_refl _,ha,(HS.out.later hb1).later hb2,vH.out st w w2 HR.out (Nat.le_refl _) hg3,hg2,by simp⟩
 case round =>
  obtain ⟨ms,g,c,cur,s',a',rfl,hg,hrow,Zk,hcm,hcs,cN,K7,ha',hsc,hr,hgr,he⟩:=hrel;have aA:=aa hrow;have j9:=aa hsc;have gm:=aa hr;have Az:=aa hgr;have nu:=aa cN;have HE:=aa he;have hsz:=hgr.size;clear hrow hsc hr hgr cN he
  by_cases h0:ms.length=0
  ·have hd:cM cq t true names.length names st a=(match np t a' 125 with|.ok _ c=>.ok s' c|.bad p=>.bad p):=by rw [<- HE.out,h0,QnU]
   have HD:=aa hd;clear hd;rw [h0];go_wp2_with fail;refine (Kr b a' 125 t wr j9.out ha' ht).mono ?_;rintro e w3 ⟨hg3,(⟨c3,kM,rfl,sN⟩|⟨p,kM,rfl⟩)⟩
   ·dsimp only;go_wp2_with fail
    go_end0
    exact ⟨Az.out.trans (Gr.of_grownBy hg3 uM),Or.inl ⟨s',c3,by rw [HD.out,kM],rfl,sN,Ks ha' kM,vH.out s' wr w3 gm.out hsz (Gr.of_grownBy hg3 (Or.inl rfl))⟩⟩
   ·dsimp only [bE];exact ⟨rfl,Az.out.trans (Gr.of_grownBy hg3 uM),Or.inr ⟨p,by rw [HD.out,kM],rfl⟩⟩
  ·obtain ⟨d,hd⟩ : ∃ d,ms.length=d+1:=⟨ms.length - 1,by omega⟩;have cX:=ax aA.out;have aaj:(0:Int)<(ms.length:Int):=by omega
   by_cases gw:ms.length=names.length
   ·have hlt:decide ((ms.length:Int)<(names.length:Int))=false:=by simp;omega
    have vk:decide (ms.length<names.length)=false:=by simp;omega
    have yu:cM cq t true names.length names st a=(match bO t a' with|.bad p=>.bad p|.tok k p _ l c=>if k=34/\0<=Lib.idxOfS ms ⟨l.toArray⟩ then (match np t c 58 with|.bad p=>.bad p|.ok _ c2=>(match cq ⟨l.toArray⟩ s' c2 with|.bad p=>.bad p|.ok ju c3=>cM cq t false d (ms.eraseIdx (Lib.idxOfS ms ⟨l.toArray⟩).toNat) ju c3)) else .bad p):=by rw [<- HE.out,decide_eq_true gw,hd,Zi]
    have FM:=aa yu;have K8:=aa gw;have uN:=aa hd;clear yu gw hd h0;have yv:=j9;have vI:=gm;have yw:=Az;have yx:=aA;have La:=cX;have yy:=hsz;have Lb:=ha';clear j9 gm Az aA cX hsz ha' HE;have hbA:=ax yv.out;go_wp2_with fail;refine (wP b a' t wr yv.out Lb ht).mono ?_;rintro e w4 ⟨hg4,rO⟩
    cases cw:bO t a' with
    | bad p =>
     rw [cw] at rO;have AA:e=bE p:=rO;subst AA;dsimp only [bE];exact ⟨rfl,yw.out.trans (Gr.of_grownBy hg4 uM),Or.inr ⟨p,by rw [FM.out,cw],rfl⟩⟩
    | tok k p n l c4 =>
     rw [cw] at rO;obtain ⟨rfl,gg⟩ : e = .returned (bw k p ((n:Nat):Int) ⟨l.toArray⟩)/\aD w4 b t c4:=rO;dsimp only [bw];have yA:=(wR Lb cw).1;have hdd:cM cq t true names.length names st a=(if k=34/\0<=Lib.idxOfS ms ⟨l.toArray⟩ then (match np t c4 58 with|.bad p=>.bad p|.ok _ c2=>(match cq ⟨l.toArray⟩ s' c2 with|.bad p=>.bad p|.ok ju c3=>cM cq t false d (ms.eraseIdx (Lib.idxOfS ms ⟨l.toArray⟩).toNat) ju c3)) else .bad p):=by rw [FM.out,cw]
     have jW:=aa (yw.out.trans (Gr.of_grownBy hg4 uM));have sU:=aa (vH.out s' wr w4 vI.out yy (Gr.of_grownBy hg4 (Or.inl rfl)));have yB:=aa gg;have qD:=aa ((hg4.block g La (fun e=>by cases e;omega)).trans yx.out);have yC:w.heap.size<=w4.heap.size:=Nat.le_trans yy hg4.size;have yD:g<w4.heap.size:=Nat.lt_of_lt_of_le La hg4.size;clear cw gg FM;generalize (⟨l.toArray⟩ : ByteArray)=x at hdd ⊢;have iB:=aa hdd;clear hdd hg4;have iN:=Tryz.slices_Index_string g 0 ms.length c ms x;rw [List.take_length] at iN;go_wp2_with fail;obtain ⟨w5,pn⟩ : ∃ w5,w5=w4.alloc (.cells #[.int .u8 ((k:Nat):Int),.int .i64 ((p:Nat):Int),.int .i64 ((n:Nat):Int),.string x] 204):=⟨_,rfl⟩;rw [<- pn];have bI:Below w4.heap.size w4 w5:=by rw [pn];exact (Below.refl _ _).alloc (Nat.le_refl _) _
     have cn:w5.heap[w4.heap.size]? = some (.cells #[.int .u8 ((k:Nat):Int),.int .i64 ((p:Nat):Int),.int .i64 ((n:Nat):Int),.string x] 204 (0,0)):=by rw [pn];exact heap_alloc_new _ _
     have vJ:=aa cn;have lA:=ax cn;have Sn:w5.cell? ⟨w4.heap.size,0,none⟩=some (.int .u8 ((k:Nat):Int)):=cell_of_row w5 _ 0 _ _ _ cn;have Sp:w5.cell? ⟨w4.heap.size,1,none⟩=some (.int .i64 ((p:Nat):Int)):=cell_of_row w5 _ 1 _ _ _ cn;have Sq:w5.cell? ⟨w4.heap.size,2,none⟩=some (.int .i64 ((n:Nat):Int)):=cell_of_row w5 _ 2 _ _ _ cn;have Sr:w5.cell? ⟨w4.heap.size,3,none⟩=some (.string x):=cell_of_row w5 _ 3 _ _ _ cn;have mF:=aa ((bI.block g yD).trans qD.out);have gI:=aa (jW.out.trans (Gr.ae bI));have mG:=aa (vH.out s' w4 w5 sU.out yC (Gr.ae bI));have yE:=aa (yB.out.later bI);have yF:w.heap.size<=w5.heap.size:=Nat.le_trans yC bI.size;have yG:g<w5.heap.size:=Nat.lt_of_lt_of_le yD bI.size;clear cn pn qD jW sU yB;refine (iN w5 (Nat.le_refl _) (by omega) (OV mF.out nu.out)).mono ?_;rintro e w6 ⟨rfl,Lc⟩;subst Lc;dsimp only;have sK:=Zl ms x;clear iN
     by_cases hk:k=34
     ·rcases sK with hi|⟨i,kW,hi⟩
      ·rw [hi];rw [hi] at iB;subst hk;go_wp2_with fail;refine (kK _ _ _ _ _).mono ?_;rintro e w7 ⟨rfl,fZ⟩;dsimp only [bE];exact ⟨rfl,gI.out.trans (Gr.ae fZ),Or.inr ⟨p,by rw [iB.out];simp,rfl⟩⟩
      ·rw [hi];rw [hi] at iB;subst hk;go_wp2_with fail;refine (sJ _ _ _ _ _).mono ?_;rintro e w7 ⟨rfl,fZ⟩;dsimp only;go_wp2_with fail;have gN:=aa ((fZ.block g yG).trans mF.out);have qE:=aa ((fZ.block _ lA).trans vJ.out);have kn:=aa (gI.out.trans (Gr.ae fZ));have BR:=aa (vH.out s' _ w7 mG.out yF (Gr.ae fZ));have yH:=aa (yE.out.later fZ);have yI:w.heap.size<=w7.heap.size:=Nat.le_trans yF fZ.size;have yJ:g<w7.heap.size:=Nat.lt_of_lt_of_le yG fZ.size;have Ss:w4.heap.size<w7.heap.size:=Nat.lt_of_lt_of_le lA fZ.size;clear fZ mF gI mG yE Sn Sp Sq Sr;rw [show ((i:Int)+1)=((i+1:Nat):Int) by omega];refine (Tryz.slices_Delete_string_cells g 0 ms.length c i (i+1) (fun j=>ms.getD j ByteArray.empty) w7 Zk hcm (by omega) (by omega) (OV gN.out nu.out) (fun j _=>frozen_of_row w7 g _ _ _ gN.out)).mono ?_;rintro e w8 ⟨rfl,q,vK⟩;dsimp only;rw [Zm] at vK;have pU:(ms.eraseIdx i).length=ms.length - 1:=by rw [List.length_eraseIdx,if_pos kW]
       obtain ⟨sV,wZ,Su,_,yK⟩:=R8 g 9 ((ms.eraseIdx i).map Value.string ++ [Value.string ⟨#[]⟩]) 0 (w7.drewN q) cur gN.out (by simp [pU];omega);rw [<- vK] at wZ;have jU:sV.toList.take (ms.eraseIdx i).length=(ms.eraseIdx i).map Value.string:=by
        apply List.ext_getElem?;intro j;rw [List.getElem?_take]
        by_cases hj:j<(ms.eraseIdx i).length
        ·rw [if_pos hj,Array.getElem?_toList];have:=yK j (by simp;omega);rw [Nat.zero_add] at this;rw [this,List.getElem?_append_left (by simpa using hj)]
        ·rw [if_neg hj,List.getElem?_eq_none (by simp;omega)]
       have gR:Below g w7 w8:=by rw [vK];exact (Below.drewN (Below.refl _ _) q).trans (Au (Nat.le_refl _) _ _ _)
       have yL:Below w.heap.size w7 w8:=gR.mono hg;have FN:=gR.size;have qF:w8.heap[w4.heap.size]? = some (.cells #[.int .u8 34,.int .i64 ((p:Nat):Int),.int .i64 ((n:Nat):Int),.string x] 204 (0,0)):=by
        rw [vK,yg _ _ _ (by omega)];exact qE.out
       have yM:=aa qF;have qG:=aa wZ;have FO:=aa jU;have oH:=aa (OC kn.out yL);have FP:=aa (vH.out s' w7 w8 BR.out yI ⟨gR.os,gR.tape,gR.output,gR.size,fun k hk hn=>by rw [vK];exact yg _ _ _ (fun e=>hn (Or.inr (by subst e;exact ⟨hg,cur,gN.out⟩)))⟩);have yN:Hid (aD w8 b t c4):=(yL.block b hbl).trans yH.out;have yO:w.heap.size<=w8.heap.size:=Nat.le_trans yI FN;clear vK wZ jU yK qF gN qE kn BR yH;go_wp2_with fail;refine (Kr b c4 58 t w8 yN.out yA ht).mono ?_;rintro e w9 ⟨pq,(⟨c9,vL,rfl,FQ⟩|⟨p9,vL,rfl⟩)⟩
       ·dsimp only;have Sv:w9.cell? ⟨w4.heap.size,3,none⟩=some (.string x):=cell_of_row w9 _ 3 _ _ _ ((pq.block _ (by omega) (fun e=>by cases e;omega)).trans yM.out);go_wp2_with fail;have Ld:=HV.out x s' c9 w9 (vH.out s' w8 w9 FP.out yO (Gr.of_grownBy pq (Or.inl rfl))) (Nat.le_trans yO pq.size) FQ (Ks yA vL);refine Ld.mono ?_;rintro e Le ⟨pw,(⟨ju,c',hv',rfl,qH,FR,yP⟩|⟨pv,hv',rfl⟩)⟩
        ·have mH:Le.heap[g]? = some (.cells sV 9 (0,0)):=by
          rw [pw.block g (Nat.lt_of_lt_of_le (Nat.lt_of_lt_of_le yJ FN) pq.size) (fun hS=>by have:=hSw g hS;omega),pq.block g (Nat.lt_of_lt_of_le yJ FN) (fun e=>by cases e;omega)];exact qG.out
         have qI:Gr S w Le:=(oH.out.trans (Gr.of_grownBy pq uM)).trans pw;have yQ:cM cq t (decide ((ms.eraseIdx i).length=names.length)) (ms.eraseIdx i).length (ms.eraseIdx i) ju c'=cM cq t true names.length names st a:=by
          have xa:=uN.out;rw [iB.out,pU,decide_eq_false (by have:=K7;omega),show ms.length - 1=d by omega];simp [vL,hv']
         have sW:=aa mH;have yR:=aa qI;have FT:=aa yQ;have yS:=aa qH;have FU:=aa yP;have Ar:=aa pU;clear mH qI yQ qH yP Ld pq pw qG oH FP yN hv' vL Sv;dsimp only;go_wp2_with fail
         go_roundw
         case rel =>
          have FV:=Ar.out;refine ⟨ms.eraseIdx i,g,c,sV,ju,c',?_,hg,sW.out,by omega,hcm,by omega,FO.out,by omega,FR,yS.out,FU.out,yR.out,FT.out⟩;rw [FV,show ms.length - (i+1 - i)=ms.length - 1 by omega]
         case measure =>
          simp only [lenOf];show ms.length - (i+1 - i)<ms.length;omega
        ·dsimp only [bE];exact ⟨rfl,(oH.out.trans (Gr.of_grownBy pq uM)).trans pw,Or.inr ⟨pv,by rw [iB.out];simp [vL,hv'],rfl⟩⟩
       ·dsimp only [bE];exact ⟨rfl,oH.out.trans (Gr.of_grownBy pq uM),Or.inr ⟨p9,by rw [iB.out];simp [vL],rfl⟩⟩
     ·have hf:((k:Int) == (34:Int))=false:=by simp;omega
      generalize Lib.idxOfS ms x=ii at iB ⊢;go_wp2_with fail;refine (kK _ _ _ _ _).mono ?_;rintro e w7 ⟨rfl,fZ⟩;dsimp only [bE];exact ⟨rfl,gI.out.trans (Gr.ae fZ),Or.inr ⟨p,by rw [iB.out];simp [hk],rfl⟩⟩
   ·have hlt:decide ((ms.length:Int)<(names.length:Int))=true:=by simp;omega
    have vk:decide (ms.length<names.length)=true:=by simp;omega
    have yu:cM cq t true names.length names st a=(match np t a' 44 with|.bad p=>.bad p|.ok _ a1=>(match bO t a1 with|.bad p=>.bad p|.tok k p _ l c=>if k=34/\0<=Lib.idxOfS ms ⟨l.toArray⟩ then (match np t c 58 with|.bad p=>.bad p|.ok _ c2=>(match cq ⟨l.toArray⟩ s' c2 with|.bad p=>.bad p|.ok ju c3=>cM cq t false d (ms.eraseIdx (Lib.idxOfS ms ⟨l.toArray⟩).toNat) ju c3)) else .bad p)):=by rw [<- HE.out,decide_eq_false gw,hd,QnV];simp only [Zi]
    have FW:=aa yu;have K8:=aa gw;have uN:=aa hd;clear yu gw hd h0;go_wp2_with fail;refine (Kr b a' 44 t wr j9.out ha' ht).mono ?_;rintro e w3 ⟨hg3,(⟨c3,kM,rfl,sN⟩|⟨p,kM,rfl⟩)⟩
    ·dsimp only;have yu:cM cq t true names.length names st a=(match bO t c3 with|.bad p=>.bad p|.tok k p _ l c=>if k=34/\0<=Lib.idxOfS ms ⟨l.toArray⟩ then (match np t c 58 with|.bad p=>.bad p|.ok _ c2=>(match cq ⟨l.toArray⟩ s' c2 with|.bad p=>.bad p|.ok ju c3=>cM cq t false d (ms.eraseIdx (Lib.idxOfS ms ⟨l.toArray⟩).toNat) ju c3)) else .bad p):=by rw [FW.out,kM]
     have FM:=aa yu;have yv:=aa sN;have vI:=aa (vH.out s' wr w3 gm.out hsz (Gr.of_grownBy hg3 (Or.inl rfl)));have yw:=aa (Az.out.trans (Gr.of_grownBy hg3 uM));have yx:=aa ((hg3.block g cX (fun e=>by cases e;omega)).trans aA.out);have La:g<w3.heap.size:=Nat.lt_of_lt_of_le cX hg3.size;have yy:w.heap.size<=w3.heap.size:=Nat.le_trans hsz hg3.size;have Lb:=Ks ha' kM;clear yu sN kM hg3 j9 gm Az aA cX hsz ha' HE FW;have hbA:=ax yv.out;go_wp2_with fail;refine (wP b c3 t w3 yv.out Lb ht).mono ?_;rintro e w4 ⟨hg4,rO⟩
     cases cw:bO t c3 with
     | bad p =>
      rw [cw] at rO;have AA:e=bE p:=rO;subst AA;dsimp only [bE];exact ⟨rfl,yw.out.trans (Gr.of_grownBy hg4 uM),Or.inr ⟨p,by rw [FM.out,cw],rfl⟩⟩
     | tok k p n l c4 =>
      rw [cw] at rO;obtain ⟨rfl,gg⟩ : e = .returned (bw k p ((n:Nat):Int) ⟨l.toArray⟩)/\aD w4 b t c4:=rO;dsimp only [bw];have yA:=(wR Lb cw).1;have hdd:cM cq t true names.length names st a=(if k=34/\0<=Lib.idxOfS ms ⟨l.toArray⟩ then (match np t c4 58 with|.bad p=>.bad p|.ok _ c2=>(match cq ⟨l.toArray⟩ s' c2 with|.bad p=>.bad p|.ok ju c3=>cM cq t false d (ms.eraseIdx (Lib.idxOfS ms ⟨l.toArray⟩).toNat) ju c3)) else .bad p):=by rw [FM.out,cw]
      have jW:=aa (yw.out.trans (Gr.of_grownBy hg4 uM));have sU:=aa (vH.out s' w3 w4 vI.out yy (Gr.of_grownBy hg4 (Or.inl rfl)));have yB:=aa gg;have qD:=aa ((hg4.block g La (fun e=>by cases e;omega)).trans yx.out);have yC:w.heap.size<=w4.heap.size:=Nat.le_trans yy hg4.size;have yD:g<w4.heap.size:=Nat.lt_of_lt_of_le La hg4.size;clear cw gg FM;generalize (⟨l.toArray⟩ : ByteArray)=x at hdd ⊢;have iB:=aa hdd;clear hdd hg4;have iN:=Tryz.slices_Index_string g 0 ms.length c ms x;rw [List.take_length] at iN;go_wp2_with fail;obtain ⟨w5,pn⟩ : ∃ w5,w5=w4.alloc (.cells #[.int .u8 ((k:Nat):Int),.int .i64 ((p:Nat):Int),.int .i64 ((n:Nat):Int),.string x] 204):=⟨_,rfl⟩;rw [<- pn];have bI:Below w4.heap.size w4 w5:=by rw [pn];exact (Below.refl _ _).alloc (Nat.le_refl _) _
      have cn:w5.heap[w4.heap.size]? = some (.cells #[.int .u8 ((k:Nat):Int),.int .i64 ((p:Nat):Int),.int .i64 ((n:Nat):Int),.string x] 204 (0,0)):=by rw [pn];exact heap_alloc_new _ _
      have vJ:=aa cn;have lA:=ax cn;have Sn:w5.cell? ⟨w4.heap.size,0,none⟩=some (.int .u8 ((k:Nat):Int)):=cell_of_row w5 _ 0 _ _ _ cn;have Sp:w5.cell? ⟨w4.heap.size,1,none⟩=some (.int .i64 ((p:Nat):Int)):=cell_of_row w5 _ 1 _ _ _ cn;have Sq:w5.cell? ⟨w4.heap.size,2,none⟩=some (.int .i64 ((n:Nat):Int)):=cell_of_row w5 _ 2 _ _ _ cn;have Sr:w5.cell? ⟨w4.heap.size,3,none⟩=some (.string x):=cell_of_row w5 _ 3 _ _ _ cn;have mF:=aa ((bI.block g yD).trans qD.out);have gI:=aa (jW.out.trans (Gr.ae bI));have mG:=aa (vH.out s' w4 w5 sU.out yC (Gr.ae bI));have yE:=aa (yB.out.later bI);have yF:w.heap.size<=w5.heap.size:=Nat.le_trans yC bI.size;have yG:g<w5.heap.size:=Nat.lt_of_lt_of_le yD bI.size;clear cn pn qD jW sU yB;refine (iN w5 (Nat.le_refl _) (by omega) (OV mF.out nu.out)).mono ?_;rintro e w6 ⟨rfl,Lc⟩;subst Lc;dsimp only;have sK:=Zl ms x;clear iN
      by_cases hk:k=34
      ·rcases sK with hi|⟨i,kW,hi⟩
       ·rw [hi];rw [hi] at iB;subst hk;go_wp2_with fail;refine (kK _ _ _ _ _).mono ?_;rintro e w7 ⟨rfl,fZ⟩;dsimp only [bE];exact ⟨rfl,gI.out.trans (Gr.ae fZ),Or.inr ⟨p,by rw [iB.out];simp,rfl⟩⟩
       ·rw [hi];rw [hi] at iB;subst hk;go_wp2_with fail;refine (sJ _ _ _ _ _).mono ?_;rintro e w7 ⟨rfl,fZ⟩;dsimp only;go_wp2_with fail;have gN:=aa ((fZ.block g yG).trans mF.out);have qE:=aa ((fZ.block _ lA).trans vJ.out);have kn:=aa (gI.out.trans (Gr.ae fZ));have BR:=aa (vH.out s' _ w7 mG.out yF (Gr.ae fZ));have yH:=aa (yE.out.later fZ);have yI:w.heap.size<=w7.heap.size:=Nat.le_trans yF fZ.size;have yJ:g<w7.heap.size:=Nat.lt_of_lt_of_le yG fZ.size;have Ss:w4.heap.size<w7.heap.size:=Nat.lt_of_lt_of_le lA fZ.size;clear fZ mF gI mG yE Sn Sp Sq Sr;rw [show ((i:Int)+1)=((i+1:Nat):Int) by omega];refine (Tryz.slices_Delete_string_cells g 0 ms.length c i (i+1) (fun j=>ms.getD j ByteArray.empty) w7 Zk hcm (by omega) (by omega) (OV gN.out nu.out) (fun j _=>frozen_of_row w7 g _ _ _ gN.out)).mono ?_;rintro e w8 ⟨rfl,q,vK⟩;dsimp only;rw [Zm] at vK;have pU:(ms.eraseIdx i).length=ms.length - 1:=by rw [List.length_eraseIdx,if_pos kW]
        obtain ⟨sV,wZ,Su,_,yK⟩:=R8 g 9 ((ms.eraseIdx i).map Value.string ++ [Value.string ⟨#[]⟩]) 0 (w7.drewN q) cur gN.out (by simp [pU];omega);rw [<- vK] at wZ;have jU:sV.toList.take (ms.eraseIdx i).length=(ms.eraseIdx i).map Value.string:=by
         apply List.ext_getElem?;intro j;rw [List.getElem?_take]
         by_cases hj:j<(ms.eraseIdx i).length
         ·rw [if_pos hj,Array.getElem?_toList];have:=yK j (by simp;omega);rw [Nat.zero_add] at this;rw [this,List.getElem?_append_left (by simpa using hj)]
         ·rw [if_neg hj,List.getElem?_eq_none (by simp;omega)]
        have gR:Below g w7 w8:=by rw [vK];exact (Below.drewN (Below.refl _ _) q).trans (Au (Nat.le_refl _) _ _ _)
        have yL:Below w.heap.size w7 w8:=gR.mono hg;have FN:=gR.size;have qF:w8.heap[w4.heap.size]? = some (.cells #[.int .u8 34,.int .i64 ((p:Nat):Int),.int .i64 ((n:Nat):Int),.string x] 204 (0,0)):=by
         rw [vK,yg _ _ _ (by omega)];exact qE.out
        have yM:=aa qF;have qG:=aa wZ;have FO:=aa jU;have oH:=aa (OC kn.out yL);have FP:=aa (vH.out s' w7 w8 BR.out yI ⟨gR.os,gR.tape,gR.output,gR.size,fun k hk hn=>by rw [vK];exact yg _ _ _ (fun e=>hn (Or.inr (by subst e;exact ⟨hg,cur,gN.out⟩)))⟩);have yN:Hid (aD w8 b t c4):=(yL.block b hbl).trans yH.out;have yO:w.heap.size<=w8.heap.size:=Nat.le_trans yI FN;clear vK wZ jU yK qF gN qE kn BR yH;go_wp2_with fail;refine (Kr b c4 58 t w8 yN.out yA ht).mono ?_;rintro e w9 ⟨pq,(⟨c9,vL,rfl,FQ⟩|⟨p9,vL,rfl⟩)⟩
        ·dsimp only;have Sv:w9.cell? ⟨w4.heap.size,3,none⟩=some (.string x):=cell_of_row w9 _ 3 _ _ _ ((pq.block _ (by omega) (fun e=>by cases e;omega)).trans yM.out);go_wp2_with fail;have Ld:=HV.out x s' c9 w9 (vH.out s' w8 w9 FP.out yO (Gr.of_grownBy pq (Or.inl rfl))) (Nat.le_trans yO pq.size) FQ (Ks yA vL);refine Ld.mono ?_;rintro e Le ⟨pw,(⟨ju,c',hv',rfl,qH,FR,yP⟩|⟨pv,hv',rfl⟩)⟩
         ·have mH:Le.heap[g]? = some (.cells sV 9 (0,0)):=by
           rw [pw.block g (Nat.lt_of_lt_of_le (Nat.lt_of_lt_of_le yJ FN) pq.size) (fun hS=>by have:=hSw g hS;omega),pq.block g (Nat.lt_of_lt_of_le yJ FN) (fun e=>by cases e;omega)];exact qG.out
          have qI:Gr S w Le:=(oH.out.trans (Gr.of_grownBy pq uM)).trans pw;have yQ:cM cq t (decide ((ms.eraseIdx i).length=names.length)) (ms.eraseIdx i).length (ms.eraseIdx i) ju c'=cM cq t true names.length names st a:=by
           have xa:=uN.out;rw [iB.out,pU,decide_eq_false (by have:=K7;omega),show ms.length - 1=d by omega];simp [vL,hv']
          have sW:=aa mH;have yR:=aa qI;have FT:=aa yQ;have yS:=aa qH;have FU:=aa yP;have Ar:=aa pU;clear mH qI yQ qH yP Ld pq pw qG oH FP yN hv' vL Sv;dsimp only;go_wp2_with fail
          go_roundw
          case rel =>
           have FV:=Ar.out;refine ⟨ms.eraseIdx i,g,c,sV,ju,c',?_,hg,sW.out,by omega,hcm,by omega,FO.out,by omega,FR,yS.out,FU.out,yR.out,FT.out⟩;rw [FV,show ms.length - (i+1 - i)=ms.length - 1 by omega]
          case measure =>
           simp only [lenOf];show ms.length - (i+1 - i)<ms.length;omega
         ·dsimp only [bE];exact ⟨rfl,(oH.out.trans (Gr.of_grownBy pq uM)).trans pw,Or.inr ⟨pv,by rw [iB.out];simp [vL,hv'],rfl⟩⟩
        ·dsimp only [bE];exact ⟨rfl,oH.out.trans (Gr.of_grownBy pq uM),Or.inr ⟨p9,by rw [iB.out];simp [vL],rfl⟩⟩
      ·have hf:((k:Int) == (34:Int))=false:=by simp;omega
       generalize Lib.idxOfS ms x=ii at iB ⊢;go_wp2_with fail;refine (kK _ _ _ _ _).mono ?_;rintro e w7 ⟨rfl,fZ⟩;dsimp only [bE];exact ⟨rfl,gI.out.trans (Gr.ae fZ),Or.inr ⟨p,by rw [iB.out];simp [hk],rfl⟩⟩
    ·dsimp only [bE];exact ⟨rfl,Az.out.trans (Gr.of_grownBy hg3 uM),Or.inr ⟨p,by rw [FW.out,kM],rfl⟩⟩
open Go.RowKit
def kO (t last x:ByteArray) (e:En) (a:Nat):RS En:=eH (bO t) last x e a
def sO (bs bl be b:Nat) (last:ByteArray) (e:En) (w:World):Prop :=
 w.heap[bs]? = some (.cells #[.pointer (some ⟨b,0,none⟩)] 199 (0,0))/\w.heap[bl]? = some (.cells #[.string last] 9 (0,0))/\w.heap[be]? = some (.cells (aT e.name (rd e.dig) e.size) 193 (0,0))
theorem Qsp (n m:ByteArray) (ds:List Nat) (z:Int):(aT n ds z).setIfInBounds 0 (.string m)=aT m ds z:=by simp [aT]
theorem QpX (n:ByteArray) (ds:List Nat) (z z':Int) (h:ds.length=32):(aT n ds z).setIfInBounds 33 (.int .i64 z')=aT n ds z':=by
 have h2:(ah ds).toList.length=32:=by rw [Array.length_toList,aY,h]
 simp only [aT,List.setIfInBounds_toArray,List.set_cons_succ];rw [List.set_append_right _ _ (by omega),h2];rfl
theorem QpY (n:ByteArray) (ds:List Nat) (z:Int) (h:ds.length=32):(aT n ds z)[33]? = some (.int .i64 z):=by
 have h2:(ah ds).toList.length=32:=by rw [Array.length_toList,aY,h]
 simp only [aT,List.getElem?_toArray,List.getElem?_cons_succ];rw [List.getElem?_append_right (by omega),h2];rfl
theorem sO.later {bs bl be b:Nat} {last:ByteArray} {e:En} {w w':World} (h:sO bs bl be b last e w) (hne:b≠be/\bs≠be/\bl≠be/\bs≠b/\bl≠b) (hg:w.grownBy w' (some b)):sO bs bl be b last e w' :=
 ⟨(hg.block bs (ax h.1) (fun e=>by cases e;exact hne.2.2.2.1 rfl)).trans h.1,(hg.block bl (ax h.2.1) (fun e=>by cases e;exact hne.2.2.2.2 rfl)).trans h.2.1,(hg.block be (ax h.2.2) (fun e=>by cases e;exact hne.1 rfl)).trans h.2.2⟩
theorem QpZ {t last n:ByteArray} {a c:Nat} (ha:a<=t.size) (h:pd t last a = .ok n c):c<=t.size:=by
 unfold pd my at h
 cases hn:bO t a with
 | bad p=>rw [hn] at h;cases h
 | tok k p m l c' =>
  rw [hn] at h;dsimp only at h
  split at h
  ·cases h;exact (wR ha hn).1
  ·cases h
theorem Qkm {t n:ByteArray} {a c:Nat} (ha:a<=t.size) (h:Bv t a = .ok n c):c<=t.size:=by
 unfold Bv xU at h
 cases hn:bO t a with
 | bad p=>rw [hn] at h;cases h
 | tok k p m l c' =>
  rw [hn] at h;dsimp only at h
  split at h
  ·cases h;exact (wR ha hn).1
  ·cases h
theorem QnA {t:ByteArray} {n a c:Nat} (ha:a<=t.size) (h:DC t a = .ok n c):c<=t.size:=by
 unfold DC ye at h
 cases hn:bO t a with
 | bad p=>rw [hn] at h;cases h
 | tok k p m l c' =>
  rw [hn] at h;dsimp only at h
  split at h
  ·cases h;exact (wR ha hn).1
  ·cases h
theorem KO (g:Nat) (T:TypeId):∀ (vs:List Value) (o:Nat) (w:World) (cur:Array Value),w.heap[g]? = some (.cells cur T (0,0))->o+vs.length<=cur.size ->
  ∃ cur',(w.setCells g o vs).heap[g]? = some (.cells cur' T (0,0))/\cur'.size=cur.size/\(∀ j,j<o->cur'[j]? = cur[j]?)/\(∀ j,j<vs.length->cur'[o+j]? = vs[j]?)/\(∀ j,o+vs.length<=j->cur'[j]? = cur[j]?)
 | [],o,w,cur,h,_=>⟨cur,h,rfl,fun _ _=>rfl,fun j hj=>by simp at hj,fun _ _=>rfl⟩
 | v::vs,o,w,cur,h,hl=>by
  simp only [List.length_cons] at hl;obtain ⟨cur',h1,h2,h3,h4,h5⟩:=KO g T vs (o+1) (w.setCell ⟨g,o,none⟩ v) _ (yf v h) (by simp;omega);refine ⟨cur',h1,by simpa using h2,fun j hj=>?_,fun j hj=>?_,fun j hj=>?_⟩
  ·rw [h3 j (by omega)];simp [Array.getElem?_setIfInBounds];intro e;omega
  ·cases j with
   | zero =>
    rw [Nat.add_zero,h3 o (by omega)];simp [Array.getElem?_setIfInBounds];omega
   | succ j =>
    rw [show o+(j+1)=o+1+j by omega,h4 j (by simpa using hj)];simp
  ·simp only [List.length_cons] at hj;rw [h5 j (by omega)];simp [Array.getElem?_setIfInBounds];intro e;omega
theorem Qsq {S:Nat->Prop} {g:Nat} (vs:List Value) (o:Nat) (w:World) (hg:S g):Gr S w (w.setCells g o vs):=by
 have h:=Au (B:=0) (Nat.zero_le g) vs o w;exact ⟨h.os,h.tape,h.output,h.size,fun k _ hn=>yg _ _ _ (fun e=>by subst e;exact hn hg)⟩
theorem QnB {w:World} {be:Nat} {n:ByteArray} {ds:List Nat} {z:Int} (h:w.heap[be]? = some (.cells (aT n ds z) 193 (0,0))) (hd:ds.length=32) (BI:List Nat) (rR:BI.length=32):w.there be 1 (ah BI).size:=by
 intro j hj;rw [aY,rR] at hj;refine ⟨?_,frozen_of_row w be _ _ _ h⟩;rw [cell_of_row w be (1+j) _ _ _ h,Array.getElem?_eq_getElem (by rw [eh n ds z hd];omega)];rfl
theorem QnC {w:World} {be:Nat} {n:ByteArray} {ds:List Nat} {z:Int} (h:w.heap[be]? = some (.cells (aT n ds z) 193 (0,0))) (hd:ds.length=32) (BI:List Nat) (rR:BI.length=32):(w.setCells be 1 (ah BI).toList).heap[be]? = some (.cells (aT n BI z) 193 (0,0)):=by
 have hl:(ah BI).toList.length=32:=by rw [Array.length_toList,aY,rR]
 obtain ⟨cur',h1,h2,h3,h4,h5⟩:=KO be 193 (ah BI).toList 1 w _ h (by rw [eh n ds z hd];omega);rw [h1];have hc:cur'=aT n BI z:=by
  apply Array.ext_getElem?;intro j;have hl2:(ah ds).toList.length=32:=by rw [Array.length_toList,aY,hd]
  rcases Nat.lt_or_ge j 1 with hj|hj
  ·rw [h3 j hj];obtain rfl:j=0:=by omega
   rfl
  ·obtain ⟨i,rfl⟩ : ∃ i,j=i+1:=⟨j - 1,by omega⟩
   rcases Nat.lt_or_ge i 32 with hi|hi
   ·rw [Nat.add_comm i 1,h4 i (by omega),Nat.add_comm 1 i];simp only [aT,List.getElem?_toArray,List.getElem?_cons_succ];rw [List.getElem?_append_left (by omega)]
   ·rw [h5 (i+1) (by omega)];simp only [aT,List.getElem?_toArray,List.getElem?_cons_succ];rw [List.getElem?_append_right (by omega),List.getElem?_append_right (by omega),hl,hl2]
 rw [hc]
theorem Qmx (bs bl be b a:Nat) (t last x:ByteArray) (e0:En) (w:World) (hne:b≠be/\bs≠be/\bl≠be/\bs≠b/\bl≠b) (hs:aD w b t a) (ha:a<=t.size) (ht:t.size<=2000) (hE:sO bs bl be b last e0 w) :
  Calls Tryz.prog 221 #[.string x,.pointer (some ⟨bs,0,none⟩),.pointer (some ⟨bl,0,none⟩),.pointer (some ⟨be,0,none⟩)] w fun e w'=>Gr (fun k=>k=b∨k=be) w w' /\
   ((∃ e1 c,kO t last x e0 a = .ok e1 c/\e = .returned (.tuple #[])/\aD w' b t c/\c<=t.size/\sO bs bl be b last e1 w')∨(∃ p,kO t last x e0 a = .bad p/\e=bE p)):=by
 have HS:=aa hs;have HE:=aa hE;have c1:=cell_of_row w bs 0 _ _ _ hE.1;have c2:=cell_of_row w bl 0 _ _ _ hE.2.1;have hbl:=ax hs;clear hs hE
 by_cases h1:x=il
 ·subst h1;have bX:kO t last il e0 a=(match pd t last a with|.ok n c=>.ok { e0 with name:=n } c|.bad p=>.bad p):=by unfold kO eH;rw [if_pos rfl];unfold pd;cases my (bO t) last a<;>rfl
  unfold il at bX ⊢;have fj:=aa bX;clear bX;go_enter Tryz.func221,Tryz.ntmps221;go_wp2_with fail;refine (Qre b a t last w HS.out ha ht).mono ?_;rintro e w1 ⟨hg1,(⟨n1,c,et,rfl,dC⟩|⟨p,et,rfl⟩)⟩
  ·dsimp only;have yh:=HE.out.later hne hg1;have c3:w1.cell? ⟨be,0,none⟩=some (.string e0.name):=cell_of_row w1 be 0 _ _ _ yh.2.2;have f3:=frozen_of_row w1 be 0 _ _ yh.2.2;have wT:=aa yh;clear yh;go_wp2_with fail
   (try simp only [Exit.inBlock,Exit.then])
   go_end0
   have hrow:=yf (i:=0) (.string n1) wT.out.2.2;rw [Qsp] at hrow;refine ⟨(Gr.of_grownBy hg1 (Or.inl rfl)).trans (Gr.of_grownBy (nE w1 be 0 _) (Or.inr rfl)),Or.inl ⟨{ e0 with name:=n1 },c,by rw [fj.out,et],rfl,?_,?_,?_,?_,hrow⟩⟩
   ·exact (heap_setCell_other _ _ _ _ hne.1).trans dC
   ·exact QpZ ha et
   ·exact (heap_setCell_other _ _ _ _ hne.2.1).trans wT.out.1
   ·exact (heap_setCell_other _ _ _ _ hne.2.2.1).trans wT.out.2.1
  ·dsimp only [bE];exact ⟨rfl,Gr.of_grownBy hg1 (Or.inl rfl),Or.inr ⟨p,by rw [fj.out,et],rfl⟩⟩
 ·by_cases h2:x=rP
  ·subst h2;have bX:kO t last rP e0 a=(match Bv t a with|.ok s c=>.ok { e0 with dig:=s } c|.bad p=>.bad p):=by unfold kO eH;rw [if_neg (by decide),if_pos rfl];unfold Bv;cases xU (bO t) a<;>rfl
   unfold rP at bX ⊢;have fj:=aa bX;clear bX h1;go_enter Tryz.func221,Tryz.ntmps221;go_wp2_with fail;refine (Qki b a t w HS.out ha ht).mono ?_;rintro e w1 ⟨hg1,(⟨n1,c,et,rfl,dC⟩|⟨p,et,rfl⟩)⟩
   ·dsimp only;have wT:=aa (HE.out.later hne hg1);have a8:=jm n1;have hth:w1.there be 1 (ah (rd n1)).size:=QnB wT.out.2.2 (jm _) (rd n1) a8;go_wp2_with (refine wpList_store_mid rfl 117 _ _ rfl be 1 _ rfl rfl hth (bL _ a8) (dQ _) ?_)
    (try simp only [Exit.inBlock,Exit.then])
    go_end0
    have hrow:=QnC wT.out.2.2 (jm _) (rd n1) a8;have vA:Gr (fun k=>k=b∨k=be) w1 (w1.setCells be 1 (ah (rd n1)).toList):=Qsq _ _ _ (Or.inr rfl);refine ⟨(Gr.of_grownBy hg1 (Or.inl rfl)).trans vA,Or.inl ⟨{ e0 with dig:=n1 },c,by rw [fj.out,et],rfl,?_,?_,?_,?_,hrow⟩⟩
    ·exact (yg _ _ _ hne.1).trans dC
    ·exact Qkm ha et
    ·exact (yg _ _ _ hne.2.1).trans wT.out.1
    ·exact (yg _ _ _ hne.2.2.1).trans wT.out.2.1
   ·dsimp only [bE];exact ⟨rfl,Gr.of_grownBy hg1 (Or.inl rfl),Or.inr ⟨p,by rw [fj.out,et],rfl⟩⟩
  ·by_cases h3:x=rQ
   ·subst h3;have g1:=aa h1;clear h1 h2;have bX:kO t last rQ e0 a=(match DC t a with|.ok n c=>.ok { e0 with size:=n } c|.bad p=>.bad p):=by unfold kO eH;rw [if_neg (by decide),if_neg (by decide),if_pos rfl];unfold DC;cases ye (bO t) a<;>rfl
    unfold rQ at bX ⊢;have fj:=aa bX;clear bX;go_enter Tryz.func221,Tryz.ntmps221;go_wp2_with fail;refine (QoF b a t w HS.out ha ht).mono ?_;rintro e w1 ⟨hg1,(⟨n1,c,et,rfl,dC⟩|⟨p,et,rfl⟩)⟩
    ·dsimp only;have yh:=HE.out.later hne hg1;have c3:w1.cell? ⟨be,33,none⟩=some (.int .i64 ((e0.size:Nat):Int)):=(cell_of_row w1 be 33 _ _ _ yh.2.2).trans (QpY _ _ _ (jm _));have f3:=frozen_of_row w1 be 33 _ _ yh.2.2;have wT:=aa yh;clear yh;go_wp2_with fail
     (try simp only [Exit.inBlock,Exit.then])
     go_end0
     have hrow:=yf (i:=33) (.int .i64 ((n1:Nat):Int)) wT.out.2.2;rw [QpX _ _ _ _ (jm _)] at hrow;refine ⟨(Gr.of_grownBy hg1 (Or.inl rfl)).trans (Gr.of_grownBy (nE w1 be 33 _) (Or.inr rfl)),Or.inl ⟨{ e0 with size:=n1 },c,by rw [fj.out,et],rfl,?_,?_,?_,?_,hrow⟩⟩
     ·exact (heap_setCell_other _ _ _ _ hne.1).trans dC
     ·exact QnA ha et
     ·exact (heap_setCell_other _ _ _ _ hne.2.1).trans wT.out.1
     ·exact (heap_setCell_other _ _ _ _ hne.2.2.1).trans wT.out.2.1
    ·dsimp only [bE];exact ⟨rfl,Gr.of_grownBy hg1 (Or.inl rfl),Or.inr ⟨p,by rw [fj.out,et],rfl⟩⟩
   ·have bX:kO t last x e0 a = .ok e0 a:=by unfold kO eH;rw [if_neg h1,if_neg h2,if_neg h3]
    have fj:=aa bX;have q1:(x.toList == [116,97,103])=false:=by rw [beq_eq_false_iff_ne];intro e;exact h1 ((toList_inj x il).1 (e.trans (by decide +kernel)))
    have q2:(x.toList == [100,105,103,101,115,116])=false:=by rw [beq_eq_false_iff_ne];intro e;exact h2 ((toList_inj x rP).1 (e.trans (by decide +kernel)))
    have q3:(x.toList == [115,105,122,101])=false:=by rw [beq_eq_false_iff_ne];intro e;exact h3 ((toList_inj x rQ).1 (e.trans (by decide +kernel)))
    clear bX h1 h2 h3;go_enter Tryz.func221,Tryz.ntmps221;go_wp2_with fail
    (try simp only [Exit.inBlock,Exit.then])
    go_end0
    exact ⟨Gr.refl _ _,Or.inl ⟨e0,a,fj.out,rfl,HS.out,ha,HE.out⟩⟩
open Go.RowKit
def pT (t:ByteArray) (k p:Nat) (last:ByteArray) (a:Nat):RS En:=wS (bO t) k p last a
theorem Qt5 (w W:World) (o0 o1 o2 o3 o4 o5:Obj) (hW:W=(((((w.alloc o0).alloc o1).alloc o2).alloc o3).alloc o4).alloc o5) :
  W.heap.size=w.heap.size+6/\W.heap[w.heap.size]? = some o0/\W.heap[w.heap.size+1+1]? = some o2/\W.heap[w.heap.size+1+1+1]? = some o3/\W.heap[w.heap.size+1+1+1+1]? = some o4/\W.heap[w.heap.size+1+1+1+1+1]? = some o5/\Below w.heap.size w W:=by
 subst hW;refine ⟨by simp,?_,?_,?_,?_,?_,?_⟩
 ·exact (Below.heap_alloc _ _ _ (by simp;omega)).trans ((Below.heap_alloc _ _ _ (by simp;omega)).trans ((Below.heap_alloc _ _ _ (by simp;omega)).trans ((Below.heap_alloc _ _ _ (by simp;omega)).trans ((Below.heap_alloc _ _ _ (by simp)).trans (heap_alloc_new _ _)))))
 ·have h:=heap_alloc_new ((w.alloc o0).alloc o1) o2;simp only [size_alloc] at h;exact (Below.heap_alloc _ _ _ (by simp only [size_alloc];omega)).trans ((Below.heap_alloc _ _ _ (by simp only [size_alloc];omega)).trans ((Below.heap_alloc _ _ _ (by simp)).trans h))
 ·have h:=heap_alloc_new (((w.alloc o0).alloc o1).alloc o2) o3;simp only [size_alloc] at h;exact (Below.heap_alloc _ _ _ (by simp only [size_alloc];omega)).trans ((Below.heap_alloc _ _ _ (by simp)).trans h)
 ·have h:=heap_alloc_new ((((w.alloc o0).alloc o1).alloc o2).alloc o3) o4;simp only [size_alloc] at h;exact (Below.heap_alloc _ _ _ (by simp)).trans h
 ·have h:=heap_alloc_new (((((w.alloc o0).alloc o1).alloc o2).alloc o3).alloc o4) o5;simp only [size_alloc] at h;exact h
 ·exact ((((((Below.refl _ _).alloc (Nat.le_refl _) _).alloc (by simp) _).alloc (by simp;omega) _).alloc (by simp;omega) _).alloc (by simp;omega) _).alloc (by simp;omega) _
theorem Gr.eV {S S2:Nat->Prop} {w W W1:World} (h1:Below w.heap.size w W) (h2:Gr S2 W W1) (hS:∀ k,k<w.heap.size->S2 k->S k):Gr S w W1 :=
 ⟨h2.os.trans h1.os,h2.tape.trans h1.tape,h2.output.trans h1.output,Nat.le_trans h1.size h2.size,fun k hk hn=>(h2.block k (Nat.lt_of_lt_of_le hk h1.size) fun h=>hn (hS k hk h)).trans (h1.block k hk)⟩
theorem Qt6:rd ⟨#[]⟩=Sha.zeros 32:=by decide +kernel
theorem Qi8:aT ⟨#[]⟩ (rd ⟨#[]⟩) 0=aT ⟨#[]⟩ (Sha.zeros 32) 0:=by rw [Qt6]
theorem Qmw (b a k0 p0:Nat) (n0:Int) (s0 t last:ByteArray) (w:World) (hs:aD w b t a) (ha:a<=t.size) (ht:t.size<=2000) :
  Calls Tryz.prog 183 #[.pointer (some ⟨b,0,none⟩),bw k0 p0 n0 s0,.string last] w fun e w'=>Gr (fun k=>k=b) w w' /\
   ((∃ e1 c,pT t k0 p0 last a = .ok e1 c/\e = .returned (.agg (aT e1.name (rd e1.dig) e1.size))/\aD w' b t c/\c<=t.size)∨(∃ p,pT t k0 p0 last a = .bad p/\e=bE p)):=by
 have HS:=aa hs;have hbl:=ax hs;clear hs;have ji:=(zero_of_info Tryz.cY).1;unfold bw;go_enter Tryz.func183,Tryz.ntmps183;go_wp2_with fail;obtain ⟨W,hW⟩ : ∃ W,W=(((((w.alloc (.cells #[.pointer (some ⟨b,0,none⟩)] 199)).alloc (.cells #[.int .u8 ((k0:Nat):Int),.int .i64 ((p0:Nat):Int),.int .i64 n0,.string s0] 204)).alloc (.cells #[.string last] 9)).alloc (.cells (aT ⟨#[]⟩ (Sha.zeros 32) 0) 193)).alloc (.cells (aT ⟨#[]⟩ (Sha.zeros 32) 0) 193)).alloc (.cells #[.string ⟨#[116,97,103]⟩,.string ⟨#[100,105,103,101,115,116]⟩,.string ⟨#[115,105,122,101]⟩] 9):=⟨_,rfl⟩;rw [<- hW];obtain ⟨hz,h0,h2,h3,h4,h5,hB⟩:=Qt5 _ _ _ _ _ _ _ _ hW;clear hW;have OD:aD W b t a:=HS.out.later hB;have hR:sO w.heap.size (w.heap.size+1+1) (w.heap.size+1+1+1+1) b last I6 W:=⟨h0,h2,by rw [h4];unfold I6;rw [show ((0:Nat):Int)=0 from rfl,Qi8]⟩;have hn:∀ j,j < [il,rP,rQ].length->W.cell? ⟨w.heap.size+1+1+1+1+1,j,none⟩=some (.string ([il,rP,rQ].getD j ByteArray.empty)):=by
  intro j hj;rw [cell_of_row W _ j _ _ _ h5]
  match j,hj with
  | 0,_=>rfl
  | 1,_=>rfl
  | 2,_=>rfl
 have oz:=aa h3;have pV:=aa hB;have Fw:=aa OD;have gm:=aa hR;have xL:=aa hn;clear h0 h2 h3 h4 h5 hB OD hR hn
 by_cases hk:k0=123
 ·subst hk;have bX:pT t 123 p0 last a=cM (kO t last) t true 3 [il,rP,rQ] I6 a:=by
   unfold pT wS cM;rw [if_pos rfl];rfl
  have fj:=aa bX;clear bX;have bS:=YO (kO t last) b (w.heap.size+1+1+1+1+1) 221 [il,rP,rQ] #[.pointer (some ⟨w.heap.size,0,none⟩),.pointer (some ⟨w.heap.size+1+1,0,none⟩),.pointer (some ⟨w.heap.size+1+1+1+1,0,none⟩)] t a p0 n0 s0 W (fun k=>k=b∨k=w.heap.size+1+1+1+1) (sO w.heap.size (w.heap.size+1+1) (w.heap.size+1+1+1+1) b last) I6
   (enters_of Tryz.func221 (by kernel_rfl) rfl) Fw.out ha ht (Or.inl rfl) (by intro k hk;rcases hk with rfl|rfl<;>omega) gm.out (by decide) xL.out
   (fun st V V' hV hsz hg=>⟨(hg.block _ (by omega) (by intro h;rcases h with h|⟨h,_⟩<;>omega)).trans hV.1,(hg.block _ (by omega) (by intro h;rcases h with h|⟨h,_⟩<;>omega)).trans hV.2.1,(hg.block _ (by omega) (by intro h;rcases h with h|⟨h,_⟩<;>omega)).trans hV.2.2⟩)
   (fun x st c V hV hsz hsc hc=>Qmx _ _ _ b c t last x st V (by omega) hsc hc ht hV)
  simp only [bw,List.length_cons,List.length_nil,Nat.zero_add,Nat.reduceAdd] at bS;refine bS.mono ?_;rintro e w1 ⟨hg1,(⟨e1,c,ho,rfl,dC,hc1,YP⟩|⟨p,ho,rfl⟩)⟩
  ·dsimp only;have hr4:=YP.2.2;have hr3:w1.heap[w.heap.size+1+1+1]? = some (.cells (aT ⟨#[]⟩ (Sha.zeros 32) 0) 193 (0,0)):=(hg1.block _ (by omega) (by intro h;rcases h with h|h<;>omega)).trans oz.out;have KN:Gr (fun k=>k=b) w w1:=Gr.eV pV.out hg1 (by intro k hk h;rcases h with h|h<;>omega);have HGW:=aa KN;have gb:=aa dC;have HO:=aa ho;have hl:=jm e1.dig;clear KN dC ho hg1 YP bS;generalize aJ:rd e1.dig=ds at hr4 hl ⊢;have YG:=aa aJ;clear aJ;go_wp2_with (first|(refine wpList_load_row rfl 193 _ rfl (w.heap.size+1+1+1+1) rfl 193 _ _ _ hr4 Tryz.underlying193 rfl (gW _ _ _ hl) ?_)|(refine wpList_store_row rfl 193 _ _ rfl (w.heap.size+1+1+1) _ rfl rfl 193 _ hr3 (gW _ _ _ hl) (by rw [eh _ _ _ hl,eh _ _ _ (Sha.af 32)]) (by rw [Array.all_eq_true_iff_forall_mem];intro u hu;exact mj _ _ _ u (by simpa using hu)) ?_));have hb2:Below w.heap.size w1 (w1.setRow (w.heap.size+1+1+1) (aT e1.name ds e1.size)):=(Below.refl _ _).setRow (by omega) _;refine bodyPost_ret (results_cell_row Tryz.results183 _ _ (w.heap.size+1+1+1) 193 _ (0,0) _ rfl (setRow_heap _ _ _ _ _ _ hr3) Tryz.underlying193 rfl (gW _ _ _ hl)) rfl ⟨OC HGW.out hb2,Or.inl ⟨e1,c,?_,?_,?_,hc1⟩⟩
   ·rw [fj.out,HO.out]
   ·rw [YG.out]
   ·exact (hb2.block b hbl).trans gb.out
  ·dsimp only [bE];exact ⟨rfl,Gr.eV pV.out hg1 (by intro k hk h;rcases h with h|h<;>omega),Or.inr ⟨p,by rw [fj.out,ho],rfl⟩⟩
 ·have bX:pT t k0 p0 last a = .bad p0:=by
   unfold pT wS;rw [if_neg hk]
  have bS:=YQ b (w.heap.size+1+1+1+1+1) 221 3 3 #[.pointer (some ⟨w.heap.size,0,none⟩),.pointer (some ⟨w.heap.size+1+1,0,none⟩),.pointer (some ⟨w.heap.size+1+1+1+1,0,none⟩)] k0 p0 n0 s0 W (fun k=>k=b) hk;simp only [bw] at bS;refine bS.mono ?_;rintro e w1 ⟨hg1,rfl⟩;dsimp only [bE];exact ⟨rfl,Gr.eV pV.out hg1 (fun k _ h=>h),Or.inr ⟨p0,bX,rfl⟩⟩
open Go.RowKit
def En.aP (e:En):List Value:=(aT e.name (rd e.dig) e.size).toList
def pS (t:ByteArray) (n:Nat) (es:List En) (last:ByteArray) (k p c:Nat):RS (List En):=qq (bO t) n es last k p c
def xY (t:ByteArray) (a:Nat):RS (List En):=xZ (bO t) a
section
variable {t last:ByteArray} {n k p c:Nat} {es:List En}
theorem QpV {q:Nat} (h:pT t k p last c = .bad q):pS t n es last k p c = .bad q:=by
 unfold pS;rw [qq.eq_def];unfold pT at h;dsimp only;rw [h]
theorem Qnx {e:En} {c1 q:Nat} (h:pT t k p last c = .ok e c1) (h2:bO t c1 = .bad q):pS t n es last k p c = .bad q:=by
 unfold pS;rw [qq.eq_def];unfold pT at h;dsimp only;rw [h];dsimp only;rw [h2]
theorem QpW {e:En} {c1 p2 n2 c2:Nat} {l2:List UInt8} (h:pT t k p last c = .ok e c1) (h2:bO t c1 = .tok 93 p2 n2 l2 c2):pS t n es last k p c = .ok (es ++ [e]) c2:=by
 unfold pS;rw [qq.eq_def];unfold pT at h;dsimp only;rw [h];dsimp only;rw [h2];dsimp only;rw [if_pos rfl]
theorem YA {e:En} {c1 k2 p2 n2 c2:Nat} {l2:List UInt8} (h:pT t k p last c = .ok e c1) (h2:bO t c1 = .tok k2 p2 n2 l2 c2) (hk:k2≠93) (hn:n=0∨k2≠44):pS t n es last k p c = .bad p2:=by
 unfold pS;rw [qq.eq_def];unfold pT at h;dsimp only;rw [h];dsimp only;rw [h2];dsimp only;rw [if_neg hk]
 cases n with
 | zero=>rfl
 | succ m=>dsimp only;rw [if_neg (by rcases hn with h|h;omega;exact h)]
theorem Qnz {m:Nat} {e:En} {c1 p2 n2 c2 q:Nat} {l2:List UInt8} (hn:n=m+1) (h:pT t k p last c = .ok e c1) (h2:bO t c1 = .tok 44 p2 n2 l2 c2) (h3:bO t c2 = .bad q):pS t n es last k p c = .bad q:=by
 subst hn;unfold pS;rw [qq.eq_def];unfold pT at h;dsimp only;rw [h];dsimp only;rw [h2];dsimp only;rw [if_neg (by decide),if_pos rfl,h3]
theorem Qso {m:Nat} {e:En} {c1 p2 n2 c2 k3 p3 n3 c3:Nat} {l2 l3:List UInt8} (hn:n=m+1) (h:pT t k p last c = .ok e c1) (h2:bO t c1 = .tok 44 p2 n2 l2 c2) (h3:bO t c2 = .tok k3 p3 n3 l3 c3):pS t n es last k p c=pS t m (es ++ [e]) e.name k3 p3 c3:=by
 subst hn;unfold pS;rw [qq.eq_def];unfold pT at h;dsimp only;rw [h];dsimp only;rw [h2];dsimp only;rw [if_neg (by decide),if_pos rfl,h3]
end
theorem Oz {S:Nat->Prop} {base:Nat} {e:TypeId} {size n:Nat} {v:Value} {xs:List Value} {w w':World} (ho:w.ownsRow base e size v n xs) (hg:Gr S w w') (hS:∀ k,S k->k<base):w'.ownsRow base e size v n xs:=by
 refine ⟨ho.1,ho.2.imp id ?_⟩;rintro ⟨g,cap,cur,e1,e2,e3,e4⟩;exact ⟨g,cap,cur,e1,e2,(hg.block g (ax e3) (fun h=>by have:=hS g h;omega)).trans e3,e4⟩
theorem Gr.grown {S:Nat->Prop} {w w1 w2:World} {base:Nat} {e:TypeId} {size n:Nat} {v:Value} {xs:List Value} (h:Gr S w w1) (hg:w1.grownBy w2 v.ownBlock) (ho:w1.ownsRow base e size v n xs) (hB:w.heap.size<=base):Gr S w w2 :=
 ⟨hg.os.trans h.os,hg.tape.trans h.tape,hg.output.trans h.output,Nat.le_trans h.size hg.size,fun k hk hn=>(hg.block k (Nat.lt_of_lt_of_le hk h.size) (fun e=>by have:=(ho.lt k e.symm).1;omega)).trans (h.block k hk hn)⟩
theorem Ko {base:Nat} {e:TypeId} {size n:Nat} {v:Value} {xs:List Value} {w:World} {g:Nat} {cs:Array Value} {T:TypeId} {fr:Nat × Nat} (ho:w.ownsRow base e size v n xs) (h:w.heap[g]? = some (.cells cs T fr)) (hT:T≠e):v.ownBlock≠some g:=by
 intro he
 rcases ho.2 with ⟨rfl,_⟩|⟨g2,cap,cur,rfl,h2,h3,_⟩
 ·cases he
 ·have:g2=g:=by cases he;rfl
  subst this;rw [h] at h3
  cases h3
  exact hT rfl
theorem Kq {base:Nat} {e:TypeId} {size n:Nat} {v:Value} {xs:List Value} {w w':World} (ho:w.ownsRow base e size v n xs) (hb:∀ k,v.ownBlock=some k->w'.heap[k]? = w.heap[k]?):w'.ownsRow base e size v n xs:=by
 refine ⟨ho.1,ho.2.imp id ?_⟩;rintro ⟨g,cap,cur,e1,e2,e3,e4⟩;exact ⟨g,cap,cur,e1,e2,(hb g (by rw [e1];rfl)).trans e3,e4⟩
theorem I3 {base:Nat} {e:TypeId} {size n:Nat} {v:Value} {xs:List Value} {w:World} (ho:w.ownsRow base e size v n xs):∃ oa cap,v = .slice oa n cap:=by
 rcases ho.2 with ⟨rfl,rfl⟩|⟨g2,cap,cur,rfl,_⟩
 ·exact ⟨none,0,rfl⟩
 ·exact ⟨_,cap,rfl⟩
theorem Qi7 (b a:Nat) (t:ByteArray) (w:World) (hs:aD w b t a) (ha:a<=t.size) (ht:t.size<=2000) :
  Calls Tryz.prog 127 #[.pointer (some ⟨b,0,none⟩)] w fun e w'=>Gr (fun k=>k=b) w w' /\
   ((∃ es c v,xY t a = .ok es c/\e = .returned v/\w'.ownsRow w.heap.size 193 34 v es.length (es.flatMap En.aP)/\es.length<=8/\aD w' b t c/\c<=t.size)∨(∃ p,xY t a = .bad p/\e=bE p)):=by
 have HS:=aa hs;have hbl:=ax hs;clear hs;obtain ⟨i0,hi,hz0,hz1,hz2⟩:=info_parts Tryz.oZ;have ji:=(zero_of_info Tryz.cY).1;go_enter Tryz.func127,Tryz.ntmps127;go_wp2_with fail;refine (Kr b a 91 t w HS.out ha ht).mono ?_;rintro e w1 ⟨hg1,(⟨c1,et,rfl,dC⟩|⟨p,et,rfl⟩)⟩
 ·dsimp only;have hc1:=Ks ha et;have G1:=aa (Gr.of_grownBy (S:=fun k=>k=b) hg1 rfl);have YB:=aa dC;have BB:=aa et;clear hg1 dC et;go_wp2_with fail;refine (wP b c1 t w1 YB.out hc1 ht).mono ?_;rintro e w2 ⟨hg2,hc⟩
  cases cw:bO t c1 with
  | bad p =>
   rw [cw] at hc;have hc2:e=bE p:=hc;subst hc2;dsimp only [bE];refine ⟨rfl,G1.out.trans (Gr.of_grownBy hg2 rfl),Or.inr ⟨p,?_,rfl⟩⟩;have hm:=BB.out;unfold np at hm;unfold xY xZ;rw [hm];dsimp only;rw [cw]
  | tok k p n l c =>
   rw [cw] at hc;obtain ⟨rfl,jo⟩ : e = .returned (bw k p ((n:Nat):Int) ⟨l.toArray⟩)/\aD w2 b t c:=hc;dsimp only [bw];have hc2:=(wR hc1 cw).1;have G2:=aa (G1.out.trans (Gr.of_grownBy hg2 rfl));have Rv:=aa jo;have Rw:w.heap.size<=w2.heap.size:=(G1.out.trans (Gr.of_grownBy hg2 rfl)).size;have hes:xY t a=if k=93 then .ok [] c else pS t 7 [] ⟨#[]⟩ k p c:=by
    have hm:=BB.out;unfold np at hm;unfold xY xZ pS;rw [hm];dsimp only;rw [cw]
   have Rx:=aa hes;clear hg2 jo cw hes;generalize (⟨l.toArray⟩ : ByteArray)=txt
   by_cases hk:k=93
   ·subst hk;go_wp2_with fail;go_ret;refine ⟨G2.out.trans (Gr.ae ((Below.refl _ _).alloc (Nat.le_refl _) _)),Or.inl ⟨[],c,by rw [Rx.out];simp,.slice none 0 0,rfl,World.ownsRow_nil _ _ _ _,by decide,Rv.out.later ((Below.refl _ _).alloc (Nat.le_refl _) _),hc2⟩⟩
   ·have hf:((k:Int) == (93:Int))=false:=by simp;omega
    have Kt:Hid (xY t a=pS t 7 [] ⟨#[]⟩ k p c):=by have:=Rx.out;rwa [if_neg hk] at this
    clear Rx;go_wp2_with fail
    go_loopw [4,5] (fun v la wr=>∃ (es:List En) (last:ByteArray) (k p:Nat) (n:Int) (s:ByteArray) (c:Nat),v=v/\la = .string last/\wr.ownsRow w.heap.size 193 34 v es.length (es.flatMap En.aP)/\es.length<8/\lenOf v=es.length /\
      wr.heap[w2.heap.size]? = some (.cells #[.int .u8 ((k:Nat):Int),.int .i64 ((p:Nat):Int),.int .i64 n,.string s] 204 (0,0))/\aD wr b t c/\c<=t.size/\Gr (fun k=>k=b) w wr/\xY t a=pS t (7 - es.length) es last k p c)
     (fun v _ _=>8 - lenOf v)
    case atStart =>
     refine ⟨[],⟨#[]⟩,k,p,_,txt,c,rfl,rfl,World.ownsRow_nil _ _ _ _,by decide,rfl,heap_alloc_new _ _,Rv.out.later ((Below.refl _ _).alloc (Nat.le_refl _) _),hc2,G2.out.trans (Gr.ae ((Below.refl _ _).alloc (Nat.le_refl _) _)),Kt.out⟩
    case round =>
     clear hk hf Kt Rv G2 hc2 YB G1 BB hc1;obtain ⟨es,last,k,p,n,s,c, -,rfl,hown,hlt,hlen,cn,hsc,hc,hgr,he⟩:=hrel;have lA:=ax cn;have hzz:=hgr.size;have OWN:=aa hown;have YC:=aa cn;have SC:=aa hsc;have GR:=aa hgr;have HE:=aa he;have LEN:=aa hlen;have t0:wr.cell? ⟨w2.heap.size,0,none⟩=some (.int .u8 ((k:Nat):Int)):=cell_of_row wr _ 0 _ _ _ cn;have t1:wr.cell? ⟨w2.heap.size,1,none⟩=some (.int .i64 ((p:Nat):Int)):=cell_of_row wr _ 1 _ _ _ cn;have t2:wr.cell? ⟨w2.heap.size,2,none⟩=some (.int .i64 n):=cell_of_row wr _ 2 _ _ _ cn;have t3:wr.cell? ⟨w2.heap.size,3,none⟩=some (.string s):=cell_of_row wr _ 3 _ _ _ cn;clear hown cn hsc hgr he hlen;go_wp2_with fail;refine (Qmw b c k p n s t last wr SC.out hc ht).mono ?_;rintro e w3 ⟨hg3,(⟨e1,c3,I4,rfl,sN,hc3⟩|⟨q,I4,rfl⟩)⟩
     ·dsimp only;have a8:=jm e1.dig;have YD:=Oz OWN.out hg3 (fun k hk=>by subst hk;exact hbl);have Ku:=(hg3.block _ lA (fun h=>by omega)).trans YC.out;have YE:=aa (GR.out.trans hg3);have hz3:=hg3.size;have YF:=aa sN;have Fq:=aa I4;have ya:=aa YD;have Fs:=aa Ku;clear hg3 sN I4 YD Ku t0 t1 t2 t3 OWN YC SC GR;have Kv:En.aP e1=(aT e1.name (rd e1.dig) e1.size).toList:=rfl;have Kw:=aa Kv;clear Kv;generalize aJ:rd e1.dig=ds at a8 Kw;have YG:=aa aJ;clear aJ;have Ry:=heap_alloc_new w3 (.cells (aT e1.name ds e1.size) 193 (0,0));have Fu:=aa ((ya.out.alloc (.cells (aT e1.name ds e1.size) 193 (0,0))).alloc (.cells (aT e1.name ds e1.size) 193 (0,0)));have YH:=aa (Kb (heap_alloc_new (w3.alloc (.cells (aT e1.name ds e1.size) 193 (0,0))) (.cells (aT e1.name ds e1.size) 193 (0,0))));go_wp2_with (first|(refine wpList_store_row rfl 193 _ _ rfl w3.heap.size _ rfl rfl 193 _ (heap_alloc_new _ _) (gW _ _ _ a8) (by rw [eh _ _ _ a8,eh _ _ _ (Sha.af 32)]) (by rw [Array.all_eq_true_iff_forall_mem];intro u hu;exact mj _ _ _ u (by simpa using hu)) ?_;rw [World.setRow_alloc_new])|(refine wpList_load_row rfl 193 _ rfl w3.heap.size rfl 193 _ _ _ Ry Tryz.underlying193 rfl (gW _ _ _ a8) ?_)|(refine X9 rfl _ rfl e1.name ds e1.size a8 rfl ?_)|(refine wpList_append_own _ rfl _ _ 138 rfl w.heap.size 193 i0 _ 34 56 Tryz.underlying138 hi hz0 hz1 hz2 (eh _ _ _ (Sha.af _)) (by decide) _ es.length _ rfl Fu.out _ 1 1 (aT e1.name ds e1.size).toList rfl (by rw [Array.length_toList,eh _ _ _ a8]) YH.out (mj _ _ _) (by unfold maxLen;omega) (by omega) (by simp;omega) ?_;rintro v2 w5 hv2 dR _;have t4:w5.cell? ⟨w3.heap.size,0,none⟩=some (.string e1.name):=cell_of_row w5 w3.heap.size 0 _ _ _ (Rk dR ((Below.heap_alloc (w3.alloc (.cells (aT e1.name ds e1.size) 193 (0,0))) _ _ (by rw [size_alloc];omega)).trans Ry) (fun e=>by have:=(ya.out.lt _ e).2;omega));have Ky:=aa hv2;have Kz:=aa dR;clear hv2 dR));have YI:Gr (fun k=>k=b) w w5:=((YE.out.trans (Gr.ae ((Below.refl _ _).alloc (Nat.le_refl _) _))).trans (Gr.ae ((Below.refl _ _).alloc (Nat.le_refl _) _))).grown Kz.out Fu.out (Nat.le_refl _);have KA:∀ k,k<w.heap.size->Value.ownBlock u4≠some k:=fun k hk e=>by have:=(ya.out.lt _ e).1;omega
      have qu:aD w5 b t c3:=(Kz.out.block b (by simp only [size_alloc];omega) (fun e=>KA b hbl e.symm)).trans ((YF.out.later ((Below.refl _ _).alloc (Nat.le_refl _) _)).later ((Below.refl _ _).alloc (Nat.le_refl _) _));have KB:=(Kz.out.block w2.heap.size (by simp only [size_alloc];omega) (fun e=>Ko ya.out Fs.out (by decide) e.symm)).trans ((Below.heap_alloc _ _ _ (by simp only [size_alloc];omega)).trans ((Below.heap_alloc _ _ _ (by omega)).trans Fs.out));have KC:=Kz.out.size;simp only [size_alloc] at KC;have I5:=aa qu;have G5:=aa YI;have KD:=aa KB;have cU:w5.ownsRow w.heap.size 193 34 v2 (es ++ [e1]).length ((es ++ [e1]).flatMap En.aP):=by
       have h:=Ky.out;rw [List.flatMap_append,List.length_append,List.flatMap_cons,List.flatMap_nil,List.append_nil,Kw.out];exact h
      have pU:(es ++ [e1]).length=es.length+1:=by simp
      rw [pU] at cU;obtain ⟨oa,cap,rfl⟩:=I3 cU;have YJ:=aa cU;clear qu YI KB cU Ky Kz Fu YH Ry ya Fs YF YE t4 KA;refine (wP b c3 t w5 I5.out hc3 ht).mono ?_;rintro e w6 ⟨bQ,BC⟩
      cases cw:bO t c3 with
      | bad q =>
       rw [cw] at BC;have KE:e=bE q:=BC;subst KE;dsimp only [bE];exact ⟨rfl,G5.out.trans (Gr.of_grownBy bQ rfl),Or.inr ⟨q,by rw [HE.out];exact Qnx Fq.out cw,rfl⟩⟩
      | tok k2 p2 n2 l2 c2 =>
       rw [cw] at BC;obtain ⟨rfl,BF⟩ : e = .returned (bw k2 p2 ((n2:Nat):Int) ⟨l2.toArray⟩)/\aD w6 b t c2:=BC;dsimp only [bw];have hc2:=(wR hc3 cw).1;have G6:=aa (G5.out.trans (Gr.of_grownBy bQ rfl));have Rz:=aa BF;have fP:=aa cw;have RA:=aa (Oz YJ.out (Gr.of_grownBy (S:=fun k=>k=b) bQ rfl) (fun k hk=>by subst hk;exact hbl));have KF:=aa ((bQ.block _ (by omega) (fun e=>by cases e;omega)).trans KD.out);have OA:=bQ.size;clear bQ BF cw YJ KD G5 I5;generalize (⟨l2.toArray⟩ : ByteArray)=aaf;have Ar:=aa pU;clear pU
       by_cases hk2:k2=93
       ·subst hk2;go_wp2_with fail;go_ret;refine ⟨G6.out.trans (Gr.ae ((Below.refl _ _).alloc (Nat.le_refl _) _)),Or.inl ⟨es ++ [e1],c2,_,by rw [HE.out];exact QpW Fq.out fP.out,rfl,by rw [Ar.out];exact RA.out.alloc _,by have:=Ar.out;omega,Rz.out.later ((Below.refl _ _).alloc (Nat.le_refl _) _),hc2⟩⟩
       ·have hf2:((k2:Int) == (93:Int))=false:=by simp;omega
        by_cases hgo:k2=44/\es.length+1<8
        ·obtain ⟨rfl,Fv⟩:=hgo;have RB:decide ((es.length:Int)+1<8)=true:=by simp;omega
         go_wp2_with fail;refine (sJ _ _ _ _ _).mono ?_;rintro e w7 ⟨rfl,fZ⟩;dsimp only;have jT:Below w6.heap.size w6 w7:=((Below.refl _ _).alloc (Nat.le_refl _) _).trans (fZ.mono (by simp));have YK:=aa (Rz.out.later jT);have G7:=aa (G6.out.trans (Gr.ae jT));have YL:=aa (Oz RA.out (Gr.ae (S:=fun k=>k=b) jT) (fun k hk=>by subst hk;exact hbl));have KG:=aa ((jT.block _ (by omega)).trans KF.out);have hz7:=jT.size;clear jT fZ Rz G6 RA KF;go_wp2_with fail;refine (wP b c2 t w7 YK.out hc2 ht).mono ?_;rintro e w8 ⟨jL,OB⟩
         cases vz:bO t c2 with
         | bad q =>
          rw [vz] at OB;have KH:e=bE q:=OB;subst KH;dsimp only [bE];exact ⟨rfl,G7.out.trans (Gr.of_grownBy jL rfl),Or.inr ⟨q,by rw [HE.out];exact Qnz (m:=6 - es.length) (by omega) Fq.out fP.out vz,rfl⟩⟩
         | tok k3 p3 n3 l3 c4 =>
          rw [vz] at OB;obtain ⟨rfl,KI⟩ : e = .returned (bw k3 p3 ((n3:Nat):Int) ⟨l3.toArray⟩)/\aD w8 b t c4:=OB;dsimp only [bw];have rO:=(wR hc2 vz).1;have HE8:Hid (xY t a=pS t (7 - (es ++ [e1]).length) (es ++ [e1]) e1.name k3 p3 c4):=by
           have h:=HE.out;rw [Qso (m:=6 - es.length) (by omega) Fq.out fP.out vz] at h;rw [Ar.out,show 7 - (es.length+1)=6 - es.length by omega];exact h
          have G8:=aa (G7.out.trans (Gr.of_grownBy jL rfl));have SC8:=aa KI;have YM:=aa (Oz YL.out (Gr.of_grownBy (S:=fun k=>k=b) jL rfl) (fun k hk=>by subst hk;exact hbl));have jU:=(jL.block _ (by omega) (fun e=>by cases e;omega)).trans KG.out;have QZ:=jL.size;have f0:=fun j=>frozen_of_row w8 w2.heap.size j _ _ jU
          have q0:w8.cell? ⟨w2.heap.size,0,none⟩=some (.int .u8 ((k:Nat):Int)):=cell_of_row w8 _ 0 _ _ _ jU;have q1:w8.cell? ⟨w2.heap.size,1,none⟩=some (.int .i64 ((p:Nat):Int)):=cell_of_row w8 _ 1 _ _ _ jU;have q2:w8.cell? ⟨w2.heap.size,2,none⟩=some (.int .i64 n):=cell_of_row w8 _ 2 _ _ _ jU;have q3:w8.cell? ⟨w2.heap.size,3,none⟩=some (.string s):=cell_of_row w8 _ 3 _ _ _ jU;have KJ:=aa jU;clear jL KI vz fP HE Fq G7 YK YL KG jU;generalize (⟨l3.toArray⟩ : ByteArray)=KL;go_wp2_with fail
          go_roundw
          case rel =>
           have hB:=YN w8 Rw (.int .u8 ((k3:Nat):Int)) (.int .i64 ((p3:Nat):Int)) (.int .i64 ((n3:Nat):Int)) (.string KL);refine ⟨es ++ [e1],e1.name,k3,p3,_,KL,c4,trivial,rfl,?_,by have:=Ar.out;omega,by rw [Ar.out];rfl,KM _ _ _ _ KJ.out,(hB.block b hbl).trans SC8.out,rO,OC G8.out hB,HE8.out⟩;rw [Ar.out];refine Kq YM.out fun k hk=>?_
           have hne:k≠w2.heap.size:=fun e=>Ko YM.out KJ.out (by decide) (e ▸ hk)
           rw [heap_setCell_other _ _ _ _ hne,heap_setCell_other _ _ _ _ hne,heap_setCell_other _ _ _ _ hne,heap_setCell_other _ _ _ _ hne]
          case measure =>
           show 8 - (es.length+1)<8 - lenOf u4;rw [LEN.out];omega
        ·have yc:(k2=44/\decide ((es.length:Int)+1<8)=false)∨((k2:Int) == (44:Int))=false:=by
          by_cases h44:k2=44
          ·left;exact ⟨h44,by simp;omega⟩
          ·right;simp;omega
         have hno:7 - es.length=0∨k2≠44:=by omega
         have wM:=aa hno;clear hgo hno
         rcases yc with ⟨rfl,RB⟩|RD
         ·go_wp2_with fail;refine (kK _ _ _ _ _).mono ?_;rintro e w7 ⟨rfl,fZ⟩;dsimp only [bE];exact ⟨rfl,(G6.out.trans (Gr.ae ((Below.refl _ _).alloc (Nat.le_refl _) _))).trans (Gr.ae fZ),Or.inr ⟨p2,by rw [HE.out];exact YA Fq.out fP.out (by decide) wM.out,rfl⟩⟩
         ·have BH:=aa hk2;go_wp2_with fail;refine (kK _ _ _ _ _).mono ?_;rintro e w7 ⟨rfl,fZ⟩;dsimp only [bE];exact ⟨rfl,(G6.out.trans (Gr.ae ((Below.refl _ _).alloc (Nat.le_refl _) _))).trans (Gr.ae fZ),Or.inr ⟨p2,by rw [HE.out];exact YA Fq.out fP.out BH.out wM.out,rfl⟩⟩
     ·dsimp only [bE];exact ⟨rfl,GR.out.trans hg3,Or.inr ⟨q,by rw [HE.out];exact QpV I4,rfl⟩⟩
 ·dsimp only [bE];refine ⟨rfl,Gr.of_grownBy hg1 rfl,Or.inr ⟨p,?_,rfl⟩⟩;unfold np at et;unfold xY xZ;rw [et]
open Go.RowKit
def lj (t x:ByteArray) (es:List En) (a:Nat):RS (List En):=kQ (bO t) x es a
def iG (bs bn b B:Nat) (es:List En) (w:World):Prop :=
 w.heap[bs]? = some (.cells #[.pointer (some ⟨b,0,none⟩)] 199 (0,0))/\es.length<=8/\∃ v,w.heap[bn]? = some (.cells #[v] 138 (0,0))/\w.ownsRow B 193 34 v es.length (es.flatMap En.aP)
theorem OZ {B base:Nat} {e:TypeId} {size n:Nat} {v:Value} {xs:List Value} {w:World} (ho:w.ownsRow base e size v n xs) (hB:B<=base):w.ownsRow B e size v n xs :=
 ⟨ho.1,ho.2.imp id fun ⟨g,cap,cur,e1,e2,e3⟩=>⟨g,cap,cur,e1,Nat.le_trans hB e2,e3⟩⟩
theorem iG.later {bs bn b B:Nat} {es:List En} {w w':World} {S:Nat->Prop} (h:iG bs bn b B es w) (hg:Gr S w w') (h1:¬ S bs) (h2:¬ S bn) (h3:∀ k cur,S k->B<=k->w.heap[k]?≠some (.cells cur 193 (0,0))):iG bs bn b B es w':=by
 obtain ⟨a1,a2,v,a3,a4⟩:=h;refine ⟨(hg.block _ (ax a1) h1).trans a1,a2,v,(hg.block _ (ax a3) h2).trans a3,Kq a4 fun k hk=>?_⟩
 rcases a4.2 with ⟨rfl,_⟩|⟨g,cap,cur,rfl,e2,e3,_⟩
 ·cases hk
 ·cases hk
  exact hg.block g (ax e3) fun hS=>h3 g cur hS e2 e3
theorem Qrt (bs bn b a B:Nat) (t x:ByteArray) (es:List En) (w:World) (hne:b≠bn/\bs≠bn/\bs≠b) (xd:B<=w.heap.size) (hs:aD w b t a) (ha:a<=t.size) (ht:t.size<=2000) (hE:iG bs bn b B es w) :
  Calls Tryz.prog 125 #[.string x,.pointer (some ⟨bs,0,none⟩),.pointer (some ⟨bn,0,none⟩)] w fun e w'=>Gr (fun k=>k=b∨k=bn) w w' /\
   ((∃ J4 c,lj t x es a = .ok J4 c/\e = .returned (.tuple #[])/\aD w' b t c/\c<=t.size/\iG bs bn b B J4 w')∨(∃ p,lj t x es a = .bad p/\e=bE p)):=by
 have HS:=aa hs;have HE:=aa hE;have c1:=cell_of_row w bs 0 _ _ _ hE.1;have hbl:=ax hs;have jo:∀ k cur,k=b->w.heap[k]?≠some (.cells cur 193 (0,0)):=by
  intro k cur hk h;subst hk;rw [hs] at h
  cases h
 have nH:=aa jo;clear hs hE jo
 by_cases h1:x=sQ
 ·subst h1;have bX:lj t sQ es a=(match IJ t a with|.ok _ c=>.ok es c|.bad p=>.bad p):=by unfold lj kQ;rw [if_pos rfl];unfold IJ;cases yn (bO t) a<;>rfl
  unfold sQ at bX ⊢;have fj:=aa bX;clear bX;go_enter Tryz.func125,Tryz.ntmps125;go_wp2_with fail;refine (Qkc b a t w HS.out ha ht).mono ?_;rintro e w1 ⟨hg1,(⟨c,et,rfl,dC⟩|⟨p,et,rfl⟩)⟩
  ·dsimp only;have yh:iG bs bn b B es w1:=HE.out.later (S:=fun k=>k=b) (Gr.of_grownBy hg1 rfl) hne.2.2 (fun e=>hne.1 e.symm) (fun k cur hk _=>nH.out k cur hk);have WB:c<=t.size:=by
    unfold IJ yn at et
    cases hn:bO t a with
    | bad p=>rw [hn] at et;cases et
    | tok k p n l c' =>
     rw [hn] at et;dsimp only at et
     split at et
     ·cases et;exact (wR ha hn).1
     ·cases et
   have BB:=aa et;clear et;go_wp2_with fail
   (try simp only [Exit.inBlock,Exit.then])
   go_end0
   exact ⟨Gr.of_grownBy hg1 (Or.inl rfl),Or.inl ⟨es,c,by rw [fj.out,BB.out],rfl,dC,WB,yh⟩⟩
  ·dsimp only [bE];exact ⟨rfl,Gr.of_grownBy hg1 (Or.inl rfl),Or.inr ⟨p,by rw [fj.out,et],rfl⟩⟩
 ·by_cases h2:x=uF
  ·subst h2;have bX:lj t uF es a=xY t a:=by unfold lj kQ xY;rw [if_neg (by decide),if_pos rfl]
   unfold uF at bX ⊢;have fj:=aa bX;clear bX h1;go_enter Tryz.func125,Tryz.ntmps125;go_wp2_with fail;refine (Qi7 b a t w HS.out ha ht).mono ?_;rintro e w1 ⟨hg1,(⟨J4,c,v1,et,rfl,hown,Fv,dC,hc1⟩|⟨p,et,rfl⟩)⟩
   ·dsimp only;obtain ⟨oa,cap,rfl⟩:=I3 hown;obtain ⟨a1,a2,v0,a3,a4⟩:=HE.out;have nJ:w1.heap[bn]? = some (.cells #[v0] 138 (0,0)):=(hg1.block _ (ax a3) (fun e=>hne.1 e.symm)).trans a3;have kL:w1.heap[bs]? = some (.cells #[.pointer (some ⟨b,0,none⟩)] 199 (0,0)):=(hg1.block _ (ax a1) hne.2.2).trans a1;have c2:=cell_of_row w1 bn 0 _ _ _ nJ;have f2:=frozen_of_row w1 bn 0 _ _ nJ;have Lh:=aa nJ;have VB:=aa kL;have jk:=aa hown;have bT:=aa hg1;have gb:=aa dC;have BB:=aa et;clear nJ kL hown hg1 dC et a1 a2 a3 a4;go_wp2_with fail
    (try simp only [Exit.inBlock,Exit.then])
    go_end0
    have hrow:=yf (i:=0) (.slice oa J4.length cap) Lh.out;refine ⟨(bT.out.mono (fun k _ h=>Or.inl h)).trans (Gr.of_grownBy (nE w1 bn 0 _) (Or.inr rfl)),Or.inl ⟨J4,c,by rw [fj.out,BB.out],rfl,?_,hc1,?_,Fv,.slice oa J4.length cap,hrow,?_⟩⟩
    ·exact (heap_setCell_other _ _ _ _ hne.1).trans gb.out
    ·exact (heap_setCell_other _ _ _ _ hne.2.1).trans VB.out
    ·refine OZ (Kq jk.out fun k hk=>?_) xd;exact heap_setCell_other _ _ _ _ (fun e=>Ko jk.out Lh.out (by decide) (by rw [hk];exact congrArg some e))
   ·dsimp only [bE];exact ⟨rfl,hg1.mono (fun k _ h=>Or.inl h),Or.inr ⟨p,by rw [fj.out,et],rfl⟩⟩
  ·have bX:lj t x es a = .ok es a:=by unfold lj kQ;rw [if_neg h1,if_neg h2]
   have fj:=aa bX;have q1:(x.toList == [118,101,114,115,105,111,110])=false:=by rw [beq_eq_false_iff_ne];intro e;exact h1 ((toList_inj x sQ).1 (e.trans (by decide +kernel)))
   have q2:(x.toList == [116,97,103,115])=false:=by rw [beq_eq_false_iff_ne];intro e;exact h2 ((toList_inj x uF).1 (e.trans (by decide +kernel)))
   clear bX h1 h2;go_enter Tryz.func125,Tryz.ntmps125;go_wp2_with fail
   (try simp only [Exit.inBlock,Exit.then])
   go_end0
   exact ⟨Gr.refl _ _,Or.inl ⟨es,a,fj.out,rfl,HS.out,ha,HE.out⟩⟩
end Go.Proofs.YtncigfibncmioaaGreatDoor
