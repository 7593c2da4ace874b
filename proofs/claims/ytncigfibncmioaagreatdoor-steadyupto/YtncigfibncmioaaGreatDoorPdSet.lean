/-
  PROVED HERE: what the program's own functions apply, change and settle of changes of paths do.
-/
import Derived.Test.YtncigfibncmioaaGreatDoorPdSteps
import Derived.Test.YtncigfibncmioaaGreatDoorPdShelf
import Derived.Deep.RegionLaw
import Derived.Deep.AppendLies
import Derived.Deep.RegionWith
namespace Go.Proofs.YtncigfibncmioaaGreatDoor
set_option maxHeartbeats 2000000
set_option maxRecDepth 100000
open Go.RowKit
theorem turned_grown {w w' w0:World} {b:Nat} (hb:Below w.heap.size w w0) (h:w0.mapTurned w' b):w.grownBy w' (some b) :=
 grownBy_trans (grownBy_below hb _) h.grown
theorem papply_any (mb:Nat) (l:List DE) (frm too:ByteArray) (nb:Nat) (w:World) (h:PM Tryz.prog 9 w mb l) (hl:l.length≤100000000) (hf:frm.size≤maxLen) (ht:too.size≤maxLen) :
  Calls Tryz.prog 133 #[.agg #[.string frm,.string too,.pointer (some ⟨nb,0,none⟩)],.map (some mb)] w fun e w'=>e = .returned (.tuple #[])∧PM Tryz.prog 9 w' mb (applyE l ⟨frm,too,nb⟩)∧w.grownBy w' (some mb):=by
 have hlt:=h.lt
 have hb0:Below w.heap.size w (w.alloc (.cells #[.string frm,.string too,.pointer (some ⟨nb,0,none⟩)] 214)):=(Below.refl _ _).alloc (Nat.le_refl _) _
 have hc0:(w.alloc (.cells #[.string frm,.string too,.pointer (some ⟨nb,0,none⟩)] 214)).heap[w.heap.size]? = some (.cells #[.string frm,.string too,.pointer (some ⟨nb,0,none⟩)] 214 (0,0)):=heap_alloc_new _ _
 have HP:=hide (h.later (hb0.block mb hlt))
 have HB0:=hide hb0
 have HC0:=hide hc0
 have hl1:(withE frm none l true).length<maxLen:=by have:=withE_len frm none l true;unfold maxLen;omega
 have HF:=hide hf
 have HT:=hide ht
 clear h hb0 hc0 hf ht
 by_cases h2:too=⟨#[]⟩
 ·subst h2
  have ha:applyE l ⟨frm,⟨#[]⟩,nb⟩=withE frm none l true:=by simp [applyE]
  rw [ha]
  go_enter Tryz.func133,Tryz.ntmps133
  go_wp2_with (at_delete;refine wpList_del_pm _ rfl _ _ 147 9 rfl 152 Tryz.underlying9 Tryz.underlying147 mb l rfl HP.out frm rfl HF.out ?_;intro w1 hpm1 ht1;have hc1:=(ht1.grown.block w.heap.size (lt_heap HC0.out) (fun e=>by injection e;omega)).trans HC0.out;have b1:=cell_of_row w1 _ 1 _ _ _ hc1;have HPM1:=hide hpm1;have HT1:=hide ht1;clear hpm1 ht1 hc1)
  go_end0
  exact ⟨rfl,HPM1.out,turned_grown HB0.out HT1.out⟩
 ·have e2:=toList_empty too h2
  have ha:applyE l ⟨frm,too,nb⟩=withE too (some nb) (withE frm none l true) false:=by simp [applyE,h2]
  rw [ha]
  clear h2
  go_enter Tryz.func133,Tryz.ntmps133
  go_wp2_with (first|(at_delete;refine wpList_del_pm _ rfl _ _ 147 9 rfl 152 Tryz.underlying9 Tryz.underlying147 mb l rfl HP.out frm rfl HF.out ?_;intro w1 hpm1 ht1;have hc1:=(ht1.grown.block w.heap.size (lt_heap HC0.out) (fun e=>by injection e;omega)).trans HC0.out;have b1:=cell_of_row w1 _ 1 _ _ _ hc1;have b2:=cell_of_row w1 _ 2 _ _ _ hc1;have HPM1:=hide hpm1;have HT1:=hide ht1;clear hpm1 ht1 hc1)|(at_mapUpdate;refine wpList_put_pm _ rfl _ _ _ 147 rfl 9 152 Tryz.underlying9 Tryz.underlying147 mb _ rfl HPM1.out hl1 too nb rfl rfl HT.out ?_;intro w2 hpm2 ht2;have HPM2:=hide hpm2;have HT2:=hide ht2;clear hpm2 ht2))
  go_end0
  exact ⟨rfl,HPM2.out,grownBy_trans (turned_grown HB0.out HT1.out) HT2.out.grown⟩
theorem PDIs.ne {w:World} {b mb lb:Nat} {R:RDk} {cv:Value} (h:PDIs w b R mb lb cv):cv.ownBlock≠some b∧cv.ownBlock≠some mb∧cv.ownBlock≠some lb∧b≠mb∧b≠lb:=by
 obtain ⟨e1,c1,m1⟩:=h.now.isMap
 obtain ⟨e2,c2,m2⟩:=h.safe.isMap
 refine ⟨fun e=>?_,fun e=>?_,fun e=>?_,fun e=>?_,fun e=>?_⟩
 ·obtain ⟨cur,hc⟩:=own_obj h.chg b e;exact type_ne hc h.blk (by decide) rfl
 ·obtain ⟨cur,hc⟩:=own_obj h.chg mb e;rw [m1] at hc;cases hc
 ·obtain ⟨cur,hc⟩:=own_obj h.chg lb e;rw [m2] at hc;cases hc
 ·have:=h.blk;rw [e,m1] at this;cases this
 ·have:=h.blk;rw [e,m2] at this;cases this
theorem PDIs.pushed {w w3 w4:World} {b q cap mb lb:Nat} {R:RDk} {cv:Value} {c:CH} (h:PDIs w b R mb lb cv) (h3:Below w.heap.size w w3) (hg:w3.grownBy w4 cv.ownBlock)
  (ho:w4.ownsRow 0 214 3 (.slice (some ⟨q,0,none⟩) (R.chg.length+1) cap) (R.chg.length+1) (R.chg.flatMap CH.cells++c.cells)) (hq:cv.ownBlock=some q∨w.heap.size≤q) :
  PDIs (w4.setCell ⟨b,3,none⟩ (.slice (some ⟨q,0,none⟩) (R.chg.length+1) cap)) b { R with chg:=R.chg ++ [c] } mb lb (.slice (some ⟨q,0,none⟩) (R.chg.length+1) cap) ∧
   Gr (fun k=>k=b∨cv.ownBlock=some k) w (w4.setCell ⟨b,3,none⟩ (.slice (some ⟨q,0,none⟩) (R.chg.length+1) cap)):=by
 have hset:∀ k,k≠b→(w4.setCell ⟨b,3,none⟩ (.slice (some ⟨q,0,none⟩) (R.chg.length+1) cap)).heap[k]? = w4.heap[k]?:=fun k hk=>heap_setCell_other _ _ _ _ (by simpa using hk)
 have hold:∀ k,k<w.heap.size→cv.ownBlock≠some k→w4.heap[k]? = w.heap[k]?:=fun k hk hne=>(hg.block k (Nat.lt_of_lt_of_le hk h3.size) (fun e=>hne e.symm)).trans (h3.block k hk)
 have hb:=lt_of_row h.blk
 obtain ⟨n1,n2,n3,n4,n5⟩:=h.ne
 have hqb:q≠b:=by
  intro e
  rcases hq with hq|hq
  ·rw [e] at hq;exact n1 hq
  ·omega
 refine ⟨⟨?_,?_,?_,h.apart,?_⟩,?_⟩
 ·rw [heap_setCell_same _ b 3 _ _ _ ((hold b hb n1).trans h.blk)];rfl
 ·exact h.now.later ((hset mb (Ne.symm n4)).trans (hold mb h.now.lt n2))
 ·exact h.safe.later ((hset lb (Ne.symm n5)).trans (hold lb h.safe.lt n3))
 ·have e1:(R.chg ++ [c]).length=R.chg.length+1:=by simp
  have e2:(R.chg ++ [c]).flatMap CH.cells=R.chg.flatMap CH.cells++c.cells:=by simp
  dsimp only
  rw [e1,e2]
  exact own_same ho (fun k hk _=>hset k (by simp only [Value.ownBlock,Option.some.injEq] at hk;omega))
 ·exact ⟨hg.os.trans h3.os,hg.tape.trans h3.tape,hg.output.trans h3.output,by simpa using Nat.le_trans h3.size hg.size,fun k hk hs=>(hset k (fun e=>hs (.inl e))).trans (hold k hk (fun e=>hs (.inr e)))⟩
theorem PDIs.setMap {w w':World} {b mb lb:Nat} {R:RDk} {cv:Value} {l':List DE} (h:PDIs w b R mb lb cv) (hg:w.grownBy w' (some mb)) (hm:PM Tryz.prog 9 w' mb l'):PDIs w' b { R with now:=l' } mb lb cv:=by
 obtain ⟨n1,n2,n3,n4,n5⟩:=h.ne
 refine ⟨(hg.block b (lt_of_row h.blk) (fun e=>n4 (by injection e))).trans h.blk,hm,h.safe.later (hg.block lb h.safe.lt (fun e=>h.apart (by injection e with e;exact e.symm))),h.apart,own_same h.chg (fun k hk hk2=>hg.block k hk2 (fun e=>n2 (by injection e with e;rw [← e];exact hk)))⟩
theorem PDIs.setSafe {w w':World} {b mb lb:Nat} {R:RDk} {cv:Value} {l':List DE} (h:PDIs w b R mb lb cv) (hg:w.grownBy w' (some lb)) (hm:PM Tryz.prog 9 w' lb l'):PDIs w' b { R with safe:=l' } mb lb cv:=by
 obtain ⟨n1,n2,n3,n4,n5⟩:=h.ne
 refine ⟨(hg.block b (lt_of_row h.blk) (fun e=>n5 (by injection e))).trans h.blk,h.now.later (hg.block mb h.now.lt (fun e=>h.apart (by injection e))),hm,h.apart,own_same h.chg (fun k hk hk2=>hg.block k hk2 (fun e=>n3 (by injection e with e;rw [← e];exact hk)))⟩
theorem Tryz.infoPCH:(Tryz.prog.info? 214).map (fun i=>(i.zero,i.size,i.bytes))=some (some (.agg #[.string ⟨#[]⟩,.string ⟨#[]⟩,.pointer none]),3,40):=by kernel_rfl
theorem pchange_any (b nb:Nat) (R:RDk) (mb lb:Nat) (cv:Value) (frm too:ByteArray) (w:World) (h:PDIs w b R mb lb cv) (hl:R.now.length≤100000000) (hc:R.chg.length≤100000000) (hf:frm.size≤1000000000) (ht:too.size≤1000000000) :
  Calls Tryz.prog 168 #[.pointer (some ⟨b,0,none⟩),.agg #[.string frm,.string too,.pointer (some ⟨nb,0,none⟩)]] w fun e w'=>e = .returned (.tuple #[])∧Gr (fun k=>k=b∨k=mb∨cv.ownBlock=some k) w w' ∧
   ∃ cv',PDIs w' b { R with now:=applyE R.now ⟨frm,too,nb⟩,chg:=R.chg ++ [⟨frm,too,nb⟩] } mb lb cv'∧NewOr w cv cv':=by
 obtain ⟨i0,hi,hz0,hz1,hz2⟩:=info_parts Tryz.infoPCH
 have H:=hide h
 have HCL:=hide (fun w'=>sclone_any too w' (by omega))
 have HAP:=hide (fun w' (hp:PM Tryz.prog 9 w' mb R.now)=>papply_any mb R.now frm too nb w' hp hl (by unfold maxLen;omega) (by unfold maxLen;omega))
 have hb0:Below w.heap.size w (w.alloc (.cells #[.string frm,.string too,.pointer (some ⟨nb,0,none⟩)] 214)):=(Below.refl _ _).alloc (Nat.le_refl _) _
 have hc0:(w.alloc (.cells #[.string frm,.string too,.pointer (some ⟨nb,0,none⟩)] 214)).heap[w.heap.size]? = some (.cells #[.string frm,.string too,.pointer (some ⟨nb,0,none⟩)] 214 (0,0)):=heap_alloc_new _ _
 have HB0:=hide hb0
 have HC0:=hide hc0
 clear h hb0 hc0
 go_enter Tryz.func168,Tryz.ntmps168
 go_wp2_with fail
 refine (HCL.out _).mono ?_
 rintro _ w1 ⟨rfl,hb1⟩
 dsimp only
 have hc1:=(hb1.block w.heap.size (lt_heap HC0.out)).trans HC0.out
 have f1:=frozen_of_row w1 w.heap.size 1 _ _ hc1
 have g1:w1.cell? ⟨w.heap.size,1,none⟩=some (.string too):=cell_of_row _ _ 1 _ _ _ hc1
 have hB1:Below w.heap.size w (w1.setCell ⟨w.heap.size,1,none⟩ (.string too)):=(HB0.out.trans (hb1.mono HB0.out.size)).setCell (Nat.le_refl _) _
 have hc2:(w1.setCell ⟨w.heap.size,1,none⟩ (.string too)).heap[w.heap.size]? = some (.cells #[.string frm,.string too,.pointer (some ⟨nb,0,none⟩)] 214 (0,0)):=by
  rw [heap_setCell_same _ _ 1 _ _ _ hc1];rfl
 have HD2:=hide (H.out.later hB1)
 have HB1:=hide hB1
 have HC2:=hide hc2
 clear hb1 hc1 hB1 hc2
 go_upto_region 2 with fail
 clear HCL HB0 HC0 f1 g1
 generalize w1.setCell ⟨w.heap.size,1,none⟩ (.string too)=w2 at HD2 HB1 HC2 ⊢
 have b0:w2.cell? ⟨w.heap.size,0,none⟩=some (.string frm):=cell_of_row _ _ 0 _ _ _ HC2.out
 have b1:w2.cell? ⟨w.heap.size,1,none⟩=some (.string too):=cell_of_row _ _ 1 _ _ _ HC2.out
 have b2:w2.cell? ⟨w.heap.size,2,none⟩=some (.pointer (some ⟨nb,0,none⟩)):=cell_of_row _ _ 2 _ _ _ HC2.out
 have k1:w2.cell? ⟨b,1,none⟩=some (.map (some mb)):=cell_of_row _ _ 1 _ _ _ HD2.out.blk
 go_cut [] from 8 (fun wx=>PDIs wx b { R with now:=applyE R.now ⟨frm,too,nb⟩ } mb lb cv∧w.grownBy wx (some mb)∧wx.heap[w.heap.size]? = some (.cells #[.string frm,.string too,.pointer (some ⟨nb,0,none⟩)] 214 (0,0)))
 case first =>
  go_region_with (go_at_call 133;refine (HAP.out w2.drew (HD2.out.now.later rfl)).mono ?_;rintro _ w6 ⟨rfl,hm6,hg6⟩)
  all_goals
   have hg7:w2.grownBy w6 (some mb):=grownBy_trans (grownBy_below ((Below.refl _ _).drew) _) hg6
   have hfin:PDIs w6 b { R with now:=applyE R.now ⟨frm,too,nb⟩ } mb lb cv∧w.grownBy w6 (some mb)∧w6.heap[w.heap.size]? = some (.cells #[.string frm,.string too,.pointer (some ⟨nb,0,none⟩)] 214 (0,0)) :=
    ⟨HD2.out.setMap hg7 hm6,grownBy_trans (grownBy_below HB1.out _) hg7,(hg7.block _ (lt_heap HC2.out) (fun e=>by injection e with e;have:=H.out.now.lt;omega)).trans HC2.out⟩
   have HFIN:=hide hfin
   clear hm6 hg6 hg7 hfin
   go_wp2_with fail
   go_meet
   case rel=>exact HFIN.out
 case rest =>
  obtain ⟨hd,hg,hcb⟩:=hcut
  clear HAP b0 b1 b2 k1 HD2 HB1 HC2
  obtain ⟨ocv,ccv,hcv⟩:=own_sl hd.chg
  dsimp only at hcv
  subst hcv
  obtain ⟨M,hM⟩ : ∃ M,M=R.chg.length:=⟨_,rfl⟩
  have c3:wc.cell? ⟨b,3,none⟩=some (.slice ocv R.chg.length ccv):=cell_of_row _ _ 3 _ _ _ hd.blk
  have b0:wc.cell? ⟨w.heap.size,0,none⟩=some (.string frm):=cell_of_row _ _ 0 _ _ _ hcb
  have b1:wc.cell? ⟨w.heap.size,1,none⟩=some (.string too):=cell_of_row _ _ 1 _ _ _ hcb
  have b2:wc.cell? ⟨w.heap.size,2,none⟩=some (.pointer (some ⟨nb,0,none⟩)):=cell_of_row _ _ 2 _ _ _ hcb
  have hal:=ownsRow_later (hd.chg.alloc (.cells #[.string frm,.string too,.pointer (some ⟨nb,0,none⟩)] 214)) ((Below.refl _ _).drew)
  dsimp only at hal
  rw [← hM] at hal c3
  have hsm:M+1≤maxLen∧(M+1) * 40≤140737488355328:=by rw [hM];unfold maxLen;omega
  obtain ⟨hb63,hb40⟩:=hsm
  have HAL:=hide hal
  have HM:=hide hM
  have HD:=hide hd
  have HG:=hide hg
  have hbl:=lt_of_row hd.blk
  have HONE:=hide (ch_one ⟨frm,too,nb⟩)
  have hcn:=hd.ne.1
  rw [← hM] at hcn
  have HCN:=hide hcn
  have HBB:=hide hd.blk
  have hb1:Below wc.heap.size wc ((wc.alloc (.cells #[.string frm,.string too,.pointer (some ⟨nb,0,none⟩)] 214)).drew):=((Below.refl _ _).alloc (Nat.le_refl _) _).drew
  have HB1:=hide hb1
  have bf:=fun j=>frozen_of_row wc b j _ _ hd.blk
  clear hal hM hd hg hcb hcn hb1
  go_upto_region 3 with fail
  go_region_law (refine step_append_lies _ (by rfl) _ _ _ (by rfl) 0 214 i0 _ 3 40 Tryz.underlying148 hi hz0 hz1 hz2 (by rfl) (by decide) _ M _ (by rfl) HAL.out ⟨wc.heap.size,0,none⟩ 1 1 [.string frm,.string too,.pointer (some ⟨nb,0,none⟩)] (by rfl) (by rfl) (row_cells (heap_alloc_new _ _)) HONE.out (by decide) hb63 hb40 (Nat.zero_le _) _ rfl ?_;intro g2 cap2 w5 hown5 hgrow hat hlt5;have sb:w5.heap[b]? = _:=(hgrow.block b (by show b<(wc.alloc _).heap.size;rw [size_alloc];omega) (fun e=>HCN.out e.symm)).trans ((Below.heap_alloc wc _ b hbl).trans HBB.out);have s3:w5.cell? ⟨b,3,none⟩=_:=cell_of_row _ _ 3 _ _ _ sb;have sf:=frozen_of_row w5 b 3 _ _ sb)
  all_goals
   have hM:=HM.out
   subst hM
   have hp:=HD.out.pushed (c:=⟨frm,too,nb⟩) (q:=g2) (cap:=cap2) HB1.out hgrow hown5 (hat.imp id (fun e=>by rw [e];show wc.heap.size≤(wc.alloc _).heap.size;rw [size_alloc];omega))
   have hno:NewOr w (Value.slice ocv R.chg.length ccv) (.slice (some ⟨g2,0,none⟩) (R.chg.length+1) cap2):=by
    rcases hat with e|e
    ·exact .inl (by rw [e];rfl)
    ·refine .inr fun k hk=>?_
     simp only [Value.ownBlock,Option.some.injEq] at hk
     rw [← hk,e]
     have:=HG.out.size
     show w.heap.size≤(wc.alloc _).heap.size
     rw [size_alloc];omega
   have HP:=hide hp
   have HNO:=hide hno
   clear hgrow hown5 hat hlt5 sb s3 sf hp hno
   go_wp2_with fail
   go_end0
   exact ⟨rfl,(Gr.of_grownBy HG.out (.inr (.inl rfl))).trans (HP.out.2.mono fun k _ hk=>hk.imp id .inr),_,HP.out.1,HNO.out⟩
set_option maxHeartbeats 2000000
set_option maxRecDepth 100000
open Go.RowKit
theorem withE_le (p:ByteArray) (ob:Option Nat):∀ (l:List DE) (d:Bool),(withE p ob l d).length≤l.length+(if d then 0 else 1)
 | [],d=>by
  unfold withE
  cases d<;>cases ob<;>simp
 | e::es,d=>by
  have ih:=withE_le p ob es (d || lessB p e.path)
  unfold withE
  rw [List.length_append,List.length_append,List.length_cons]
  have h2:(if e.path=p then [] else [e]).length≤1:=by split<;>simp
  cases d with
  | true =>
   simp only [Bool.true_or,if_true,Bool.not_true,Bool.false_and,Bool.false_eq_true,if_false,List.length_nil] at ih ⊢
   omega
  | false =>
   cases hl:lessB p e.path with
   | true =>
    rw [hl] at ih
    cases ob with
    | none =>
     simp only [Bool.or_true,if_true,Bool.not_false,Bool.and_self,Bool.false_eq_true,if_false,List.length_nil] at ih ⊢
     omega
    | some b =>
     simp only [Bool.or_true,if_true,Bool.not_false,Bool.and_self,Bool.false_eq_true,if_false,List.length_cons,List.length_nil] at ih ⊢
     omega
   | false =>
    rw [hl] at ih
    simp only [Bool.or_self,Bool.and_false,Bool.false_eq_true,if_false,List.length_nil] at ih ⊢
    omega
theorem applyE_le (l:List DE) (c:CH):(applyE l c).length≤l.length+1:=by
 unfold applyE
 have h1:=withE_le c.frm none l true
 have h2:=withE_le c.too (some c.blk) (withE c.frm none l true) false
 simp only [if_true,Bool.false_eq_true,if_false] at h1 h2
 split<;>omega
theorem applies_le:∀ (cs:List CH) (l:List DE),(cs.foldl applyE l).length≤l.length+cs.length
 | [],l=>by simp
 | c::cs,l=>by
  have h1:=applies_le cs (applyE l c)
  have h2:=applyE_le l c
  simp only [List.foldl_cons,List.length_cons]
  omega
def CH0:CH:=⟨⟨#[]⟩,⟨#[]⟩,0⟩
theorem flat3:∀ (l:List CH) (j i:Nat),j<l.length→i<3→(l.flatMap CH.cells)[j * 3+i]? = (l.getD j CH0).cells[i]?
 | [],j,i,h,_=>by simp at h
 | x::l,0,i,_,hi=>by
  have h4:x.cells.length=3:=rfl
  rw [List.flatMap_cons,List.getElem?_append_left (by omega)]
  simp
 | x::l,j+1,i,h,hi=>by
  have h4:x.cells.length=3:=rfl
  rw [List.flatMap_cons,List.getElem?_append_right (by omega),h4,show (j+1) * 3+i - 3=j * 3+i by omega,flat3 l j i (by simpa using h) hi]
  simp
theorem ch_cell {w:World} {T:TypeId} {g:Nat} {cur:Array Value} {l:List CH} (hg:w.heap[g]? = some (.cells cur T (0,0))) (htk:cur.toList.take (l.length * 3)=l.flatMap CH.cells) (i j:Nat) (hi:i<l.length) (hj:j<3):w.cell? ⟨g,i * 3+j,none⟩=(l.getD i CH0).cells[j]?:=by
 rw [cell_of_row w g _ _ _ _ hg,← flat3 l i j hi hj,← htk,List.getElem?_take,if_pos (by omega)]
 simp
theorem take_snoc {l:List CH} {k:Nat} (hk:k<l.length):l.take (k+1)=l.take k ++ [l.getD k CH0]:=by
 rw [List.take_add_one,List.getElem?_eq_getElem hk]
 simp [List.getD_eq_getElem?_getD,List.getElem?_eq_getElem hk]
def ChFit (l:List CH):Prop:=∀ c∈l,c.frm.size≤1000000000∧c.too.size≤1000000000
theorem ChFit.at {l:List CH} (h:ChFit l) {k:Nat} (hk:k<l.length):(l.getD k CH0).frm.size≤maxLen∧(l.getD k CH0).too.size≤maxLen:=by
 have hm:l.getD k CH0∈l:=by
  rw [List.getD_eq_getElem?_getD,List.getElem?_eq_getElem hk];simp
 have:=h _ hm
 unfold maxLen
 omega
theorem PDIs.settled {w w':World} {b mb lb:Nat} {R:RDk} {cv:Value} {l':List DE} (h:PDIs w b R mb lb cv) (hg:w.grownBy w' (some lb)) (hm:PM Tryz.prog 9 w' lb l') :
  PDIs (w'.setCell ⟨b,3,none⟩ (.slice none 0 0)) b { R with safe:=l',chg:=[] } mb lb (.slice none 0 0)∧Gr (fun k=>k=b∨k=lb) w (w'.setCell ⟨b,3,none⟩ (.slice none 0 0)):=by
 have h2:=h.setSafe hg hm
 obtain ⟨n1,n2,n3,n4,n5⟩:=h.ne
 have hset:∀ k,k≠b→(w'.setCell ⟨b,3,none⟩ (.slice none 0 0)).heap[k]? = w'.heap[k]?:=fun k hk=>heap_setCell_other _ _ _ _ (by simpa using hk)
 refine ⟨⟨?_,h2.now.later (hset mb (Ne.symm n4)),h2.safe.later (hset lb (Ne.symm n5)),h.apart,World.ownsRow_nil _ _ _ _⟩,?_⟩
 ·rw [heap_setCell_same _ b 3 _ _ _ h2.blk];rfl
 ·exact (Gr.of_grownBy hg (.inr rfl)).trans (Gr.of_grownBy (grownBy_set _ _ _ _) (.inl rfl))
theorem psettle_any (b:Nat) (R:RDk) (mb lb:Nat) (cv:Value) (n:Nat) (w:World) (h:PDIs w b R mb lb cv) (hn:n≤R.chg.length) (hl:R.safe.length+R.chg.length≤100000000) (hcf:ChFit R.chg) :
  Calls Tryz.prog 85 #[.pointer (some ⟨b,0,none⟩),.int .i64 (n:Int)] w fun e w'=>e = .returned (.tuple #[])∧PDIs w' b { R with safe:=(R.chg.take n).foldl applyE R.safe,chg:=[] } mb lb (.slice none 0 0)∧Gr (fun k=>k=b∨k=lb) w w':=by
 have H:=hide h
 have hbl:=lt_of_row h.blk
 have c2:w.cell? ⟨b,2,none⟩=some (.map (some lb)):=cell_of_row _ _ 2 _ _ _ h.blk
 have c3:w.cell? ⟨b,3,none⟩=some cv:=cell_of_row _ _ 3 _ _ _ h.blk
 have bf:=fun j=>frozen_of_row w b j _ _ h.blk
 obtain ⟨n1,n2,n3,n4,n5⟩:=h.ne
 rcases h.chg.2 with ⟨hcv,h0⟩|⟨g,cap,cur,hcv,_,hg,hlc,hm,hcs,htk⟩
 ·subst hcv
  have hn0:n=0:=by omega
  subst hn0
  have hR:=H.out.settled (grownBy_refl w _) H.out.safe
  have HR:=hide hR
  clear hR n1 n2 n3 n4 n5 h
  go_enter Tryz.func85,Tryz.ntmps85
  go_wp2_with fail
  refine wp_loop_rounds 1 ?_
  rw [rounds_succ]
  go_wp2_with fail
  go_end0
  exact ⟨rfl,HR.out.1,HR.out.2⟩
 ·subst hcv
  have hmx:cap≤9223372036854775807:=by unfold maxLen at hm;omega
  have hncap:n≤cap:=by omega
  have hgb:g≠b:=fun e=>n1 (by rw [e];rfl)
  have hgl:g≠lb:=fun e=>n3 (by rw [e];rfl)
  have HG:=hide hg
  have HTK:=hide htk
  have HN:=hide hn
  have HCF:=hide hcf
  have hgs:=lt_heap hg
  have HLL:=hide (applies_le)
  clear hg htk h hcs hm n1 n2 n3 n4 hcf
  generalize hcl:R.chg.length=m at hlc c3
  have HCL:=hide hcl
  clear hcl
  go_enter Tryz.func85,Tryz.ntmps85
  go_wp2_with fail
  go_loopw [13] (fun iv wr=>∃ k:Nat,k≤n∧iv = .int .i64 ((k:Nat):Int)∧w.grownBy wr (some lb)∧PM Tryz.prog 9 wr lb ((R.chg.take k).foldl applyE R.safe)) (fun iv _=>n - (intOf iv).toNat)
  case atStart=>exact ⟨0,Nat.zero_le _,rfl,grownBy_refl _ _,H.out.safe⟩
  case round =>
   obtain ⟨k,hk,rfl,hgr,hpm⟩:=hrel
   have hbk:wr.heap[b]? = _:=(hgr.block b hbl (fun e=>n5 (by injection e))).trans H.out.blk
   have r2:wr.cell? ⟨b,2,none⟩=some (.map (some lb)):=cell_of_row _ _ 2 _ _ _ hbk
   have rf:=fun j=>frozen_of_row wr b j _ _ hbk
   have r3:wr.cell? ⟨b,3,none⟩=some (.slice (some ⟨g,0,none⟩) R.chg.length cap):=cell_of_row _ _ 3 _ _ _ hbk
   have HGR:=hide hgr
   have HPM:=hide hpm
   have hls:=hgr.size
   by_cases hlt:k<n
   ·have hgk:wr.heap[g]? = some (.cells cur 214 (0,0)):=(hgr.block g hgs (fun e=>hgl (by injection e))).trans HG.out
    have hkl:k<R.chg.length:=Nat.lt_of_lt_of_le hlt HN.out
    obtain ⟨c,hc⟩ : ∃ c,c=R.chg.getD k CH0:=⟨_,rfl⟩
    have t0:=ch_cell hgk HTK.out k 0 hkl (by omega)
    have t1:=ch_cell hgk HTK.out k 1 hkl (by omega)
    have t2:=ch_cell hgk HTK.out k 2 hkl (by omega)
    have hsz:=HCF.out.at hkl
    have hsn:=take_snoc hkl
    rw [← hc] at t0 t1 t2 hsz hsn
    obtain ⟨cf,ct,cb⟩:=c
    simp only [Nat.add_zero] at t0
    replace t0:wr.cell? ⟨g,k * 3,none⟩=some (.string cf):=t0
    replace t1:wr.cell? ⟨g,k * 3+1,none⟩=some (.string ct):=t1
    replace t2:wr.cell? ⟨g,k * 3+2,none⟩=some (.pointer (some ⟨cb,0,none⟩)):=t2
    have hlen:((R.chg.take k).foldl applyE R.safe).length≤100000000:=by
     have:=HLL.out (R.chg.take k) R.safe
     rw [List.length_take] at this
     omega
    have HAP:=hide (fun w' (hp:PM Tryz.prog 9 w' lb ((R.chg.take k).foldl applyE R.safe))=>papply_any lb _ cf ct cb w' hp hlen hsz.1 hsz.2)
    have HSN:=hide hsn
    have hglr:g<wr.heap.size:=Nat.lt_of_lt_of_le hgs hls
    have hblr:b<wr.heap.size:=Nat.lt_of_lt_of_le hbl hls
    have hlbr:=hpm.lt
    clear hgr hpm hbk hgk hc hsz hsn hlen
    go_wp2_with fail
    go_region_with (go_at_call 133;refine (HAP.out ((wr.alloc (.cells #[.string cf,.string ct,.pointer (some ⟨cb,0,none⟩)] 214)).drew) (HPM.out.later (Below.heap_alloc wr _ lb hlbr))).mono ?_;rintro _ w6 ⟨rfl,hm6,hg6⟩)
    all_goals
     have hfin:w.grownBy w6 (some lb)∧PM Tryz.prog 9 w6 lb ((R.chg.take (k+1)).foldl applyE R.safe):=by
      refine ⟨grownBy_trans HGR.out (grownBy_trans (grownBy_below (((Below.refl _ _).alloc (Nat.le_refl _) _).drew) _) hg6),?_⟩
      rw [HSN.out,List.foldl_append]
      exact hm6
     have HFIN:=hide hfin
     clear hm6 hg6 hfin
     go_wp2_with fail
     go_roundw
     case rel=>exact ⟨k+1,by omega,by go_num,HFIN.out.1,HFIN.out.2⟩
     case measure=>simp [intOf];omega
   ·have e1:decide (((k:Nat):Int)<((n:Nat):Int))=false:=by simp;omega
    have hkn:k=n:=by omega
    subst hkn
    have hR:=H.out.settled HGR.out HPM.out
    have HR:=hide hR
    clear hgr hpm hbk hR
    go_wp2_with fail
    go_end0
    exact ⟨rfl,HR.out.1,HR.out.2⟩
end Go.Proofs.YtncigfibncmioaaGreatDoor
