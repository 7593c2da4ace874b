/-
  PROVED HERE: what the program's own functions apply, change and settle of changes of paths do.
-/
import Derived.Test.YtncigfibncmioaaGreatDoorPdDisk
import Derived.Test.YtncigfibncmioaaGreatDoorPdShelf
set_option maxHeartbeats 2000000
set_option maxRecDepth 100000
namespace Go.Proofs.YtncigfibncmioaaGreatDoor
open Go.RowKit
theorem Zz {w w' w0:World} {b:Nat} (hb:Below w.heap.size w w0) (h:w0.mapTurned w' b):w.grownBy w' (some b) :=
 dF (jJ hb _) h.grown
theorem ZA (mb:Nat) (l:List DE) (bg too:ByteArray) (nb:Nat) (w:World) (h:PM Tryz.prog 9 w mb l) (hl:l.length<=100000000) (hf:bg.size<=maxLen) (ht:too.size<=maxLen) :
  Calls Tryz.prog 133 #[.agg #[.string bg,.string too,.pointer (some ⟨nb,0,none⟩)],.map (some mb)] w fun e w'=>e = .returned (.tuple #[])/\PM Tryz.prog 9 w' mb (cC l ⟨bg,too,nb⟩)/\w.grownBy w' (some mb):=by
 have hlt:=h.lt;have hb0:Below w.heap.size w (w.alloc (.cells #[.string bg,.string too,.pointer (some ⟨nb,0,none⟩)] 214)):=(Below.refl _ _).alloc (Nat.le_refl _) _;have hc0:(w.alloc (.cells #[.string bg,.string too,.pointer (some ⟨nb,0,none⟩)] 214)).heap[w.heap.size]? = some (.cells #[.string bg,.string too,.pointer (some ⟨nb,0,none⟩)] 214 (0,0)):=heap_alloc_new _ _;have HP:=aa (h.later (hb0.block mb hlt));have ir:=aa hb0;have qO:=aa hc0;have Fh:(dc bg none l true).length<maxLen:=by have:=Yt bg none l true;unfold maxLen;omega
 have HF:=aa hf;have HT:=aa ht;clear h hb0 hc0 hf ht
 by_cases h2:too=⟨#[]⟩
 ·subst h2;have ha:cC l ⟨bg,⟨#[]⟩,nb⟩=dc bg none l true:=by simp [cC]
  rw [ha];go_enter Tryz.func133,Tryz.ntmps133;go_wp2_with (at_delete;refine ZB _ rfl _ _ 147 9 rfl 152 Tryz.underlying9 Tryz.underlying147 mb l rfl HP.out bg rfl HF.out ?_;intro w1 yY AD;have hc1:=(AD.grown.block w.heap.size (ax qO.out) (fun e=>by injection e;omega)).trans qO.out;have b1:=cell_of_row w1 _ 1 _ _ _ hc1;have F9:=aa yY;have jb:=aa AD;clear yY AD hc1)
  go_end0
  exact ⟨rfl,F9.out,Zz ir.out jb.out⟩
 ·have e2:=toList_empty too h2;have ha:cC l ⟨bg,too,nb⟩=dc too (some nb) (dc bg none l true) false:=by simp [cC,h2]
  rw [ha];clear h2;go_enter Tryz.func133,Tryz.ntmps133;go_wp2_with (first|(at_delete;refine ZB _ rfl _ _ 147 9 rfl 152 Tryz.underlying9 Tryz.underlying147 mb l rfl HP.out bg rfl HF.out ?_;intro w1 yY AD;have hc1:=(AD.grown.block w.heap.size (ax qO.out) (fun e=>by injection e;omega)).trans qO.out;have b1:=cell_of_row w1 _ 1 _ _ _ hc1;have b2:=cell_of_row w1 _ 2 _ _ _ hc1;have F9:=aa yY;have jb:=aa AD;clear yY AD hc1)|(at_mapUpdate;refine Qii _ rfl _ _ _ 147 rfl 9 152 Tryz.underlying9 Tryz.underlying147 mb _ rfl F9.out Fh too nb rfl rfl HT.out ?_;intro w2 Lk fU;have SN:=aa Lk;have jM:=aa fU;clear Lk fU))
  go_end0
  exact ⟨rfl,SN.out,dF (Zz ir.out jb.out) jM.out.grown⟩
theorem bH.ne {w:World} {b mb lb:Nat} {R:dz} {cv:Value} (h:bH w b R mb lb cv):cv.ownBlock≠some b/\cv.ownBlock≠some mb/\cv.ownBlock≠some lb/\b≠mb/\b≠lb:=by
 obtain ⟨e1,c1,m1⟩:=h.now.isMap;obtain ⟨e2,c2,m2⟩:=h.safe.isMap;refine ⟨fun e=>?_,fun e=>?_,fun e=>?_,fun e=>?_,fun e=>?_⟩
 ·obtain ⟨cur,hc⟩:=eO h.aw b e;exact ja hc h.blk (by decide) rfl
 ·obtain ⟨cur,hc⟩:=eO h.aw mb e;rw [m1] at hc;cases hc
 ·obtain ⟨cur,hc⟩:=eO h.aw lb e;rw [m2] at hc;cases hc
 ·have:=h.blk;rw [e,m1] at this;cases this
 ·have:=h.blk;rw [e,m2] at this;cases this
theorem bH.mr {w w3 w4:World} {b q cap mb lb:Nat} {R:dz} {cv:Value} {c:CH} (h:bH w b R mb lb cv) (h3:Below w.heap.size w w3) (hg:w3.grownBy w4 cv.ownBlock)
  (ho:w4.ownsRow 0 214 3 (.slice (some ⟨q,0,none⟩) (R.aw.length+1) cap) (R.aw.length+1) (R.aw.flatMap CH.cells++c.cells)) (hq:cv.ownBlock=some q∨w.heap.size<=q) :
  bH (w4.setCell ⟨b,3,none⟩ (.slice (some ⟨q,0,none⟩) (R.aw.length+1) cap)) b { R with aw:=R.aw ++ [c] } mb lb (.slice (some ⟨q,0,none⟩) (R.aw.length+1) cap) /\
   Gr (fun k=>k=b∨cv.ownBlock=some k) w (w4.setCell ⟨b,3,none⟩ (.slice (some ⟨q,0,none⟩) (R.aw.length+1) cap)):=by
 have dh:∀ k,k≠b->(w4.setCell ⟨b,3,none⟩ (.slice (some ⟨q,0,none⟩) (R.aw.length+1) cap)).heap[k]? = w4.heap[k]?:=fun k hk=>heap_setCell_other _ _ _ _ (by simpa using hk)
 have hold:∀ k,k<w.heap.size->cv.ownBlock≠some k->w4.heap[k]? = w.heap[k]?:=fun k hk hne=>(hg.block k (Nat.lt_of_lt_of_le hk h3.size) (fun e=>hne e.symm)).trans (h3.block k hk)
 have hb:=eB h.blk;obtain ⟨n1,n2,n3,n4,n5⟩:=h.ne;have hqb:q≠b:=by
  intro e
  rcases hq with hq|hq
  ·rw [e] at hq;exact n1 hq
  ·omega
 refine ⟨⟨?_,?_,?_,h.apart,?_⟩,?_⟩
 ·rw [heap_setCell_same _ b 3 _ _ _ ((hold b hb n1).trans h.blk)];rfl
 ·exact h.now.later ((dh mb (Ne.symm n4)).trans (hold mb h.now.lt n2))
 ·exact h.safe.later ((dh lb (Ne.symm n5)).trans (hold lb h.safe.lt n3))
 ·have e1:(R.aw ++ [c]).length=R.aw.length+1:=by simp
  have e2:(R.aw ++ [c]).flatMap CH.cells=R.aw.flatMap CH.cells++c.cells:=by simp
  dsimp only;rw [e1,e2];exact jQ ho (fun k hk _=>dh k (by simp only [Value.ownBlock,Option.some.injEq] at hk;omega))
 ·exact ⟨hg.os.trans h3.os,hg.tape.trans h3.tape,hg.output.trans h3.output,by simpa using Nat.le_trans h3.size hg.size,fun k hk hs=>(dh k (fun e=>hs (.inl e))).trans (hold k hk (fun e=>hs (.inr e)))⟩
theorem bH.yZ {w w':World} {b mb lb:Nat} {R:dz} {cv:Value} {l':List DE} (h:bH w b R mb lb cv) (hg:w.grownBy w' (some mb)) (hm:PM Tryz.prog 9 w' mb l'):bH w' b { R with now:=l' } mb lb cv:=by
 obtain ⟨n1,n2,n3,n4,n5⟩:=h.ne;refine ⟨(hg.block b (eB h.blk) (fun e=>n4 (by injection e))).trans h.blk,hm,h.safe.later (hg.block lb h.safe.lt (fun e=>h.apart (by injection e with e;exact e.symm))),h.apart,jQ h.aw (fun k hk hk2=>hg.block k hk2 (fun e=>n2 (by injection e with e;rw [<- e];exact hk)))⟩
theorem bH.B2 {w w':World} {b mb lb:Nat} {R:dz} {cv:Value} {l':List DE} (h:bH w b R mb lb cv) (hg:w.grownBy w' (some lb)) (hm:PM Tryz.prog 9 w' lb l'):bH w' b { R with safe:=l' } mb lb cv:=by
 obtain ⟨n1,n2,n3,n4,n5⟩:=h.ne;refine ⟨(hg.block b (eB h.blk) (fun e=>n5 (by injection e))).trans h.blk,h.now.later (hg.block mb h.now.lt (fun e=>h.apart (by injection e))),hm,h.apart,jQ h.aw (fun k hk hk2=>hg.block k hk2 (fun e=>n3 (by injection e with e;rw [<- e];exact hk)))⟩
theorem Tryz.B3:(Tryz.prog.info? 214).map (fun i=>(i.zero,i.size,i.bytes))=some (some (.agg #[.string ⟨#[]⟩,.string ⟨#[]⟩,.pointer none]),3,40):=by kernel_rfl
theorem SH (b nb:Nat) (R:dz) (mb lb:Nat) (cv:Value) (bg too:ByteArray) (w:World) (h:bH w b R mb lb cv) (hl:R.now.length<=100000000) (hc:R.aw.length<=100000000) (hf:bg.size<=1000000000) (ht:too.size<=1000000000) :
  Calls Tryz.prog 168 #[.pointer (some ⟨b,0,none⟩),.agg #[.string bg,.string too,.pointer (some ⟨nb,0,none⟩)]] w fun e w'=>e = .returned (.tuple #[])/\Gr (fun k=>k=b∨k=mb∨cv.ownBlock=some k) w w' /\
   ∃ rU,bH w' b { R with now:=cC R.now ⟨bg,too,nb⟩,aw:=R.aw ++ [⟨bg,too,nb⟩] } mb lb rU/\BO w cv rU:=by
 obtain ⟨i0,hi,hz0,hz1,hz2⟩:=info_parts Tryz.B3;have H:=aa h;have qP:=aa (fun w'=>ZC too w' (by omega));have Ga:=aa (fun w' (hp:PM Tryz.prog 9 w' mb R.now)=>ZA mb R.now bg too nb w' hp hl (by unfold maxLen;omega) (by unfold maxLen;omega));have hb0:Below w.heap.size w (w.alloc (.cells #[.string bg,.string too,.pointer (some ⟨nb,0,none⟩)] 214)):=(Below.refl _ _).alloc (Nat.le_refl _) _;have hc0:(w.alloc (.cells #[.string bg,.string too,.pointer (some ⟨nb,0,none⟩)] 214)).heap[w.heap.size]? = some (.cells #[.string bg,.string too,.pointer (some ⟨nb,0,none⟩)] 214 (0,0)):=heap_alloc_new _ _;have ir:=aa hb0;have qO:=aa hc0;clear h hb0 hc0;go_enter Tryz.func168,Tryz.ntmps168;go_wp2_with fail;refine (qP.out _).mono ?_;rintro _ w1 ⟨rfl,hb1⟩;dsimp only;have hc1:=(hb1.block w.heap.size (ax qO.out)).trans qO.out;have f1:=frozen_of_row w1 w.heap.size 1 _ _ hc1;have g1:w1.cell? ⟨w.heap.size,1,none⟩=some (.string too):=cell_of_row _ _ 1 _ _ _ hc1;have Be:Below w.heap.size w (w1.setCell ⟨w.heap.size,1,none⟩ (.string too)):=(ir.out.trans (hb1.mono ir.out.size)).setCell (Nat.le_refl _) _;have hc2:(w1.setCell ⟨w.heap.size,1,none⟩ (.string too)).heap[w.heap.size]? = some (.cells #[.string bg,.string too,.pointer (some ⟨nb,0,none⟩)] 214 (0,0)):=by
  rw [heap_setCell_same _ _ 1 _ _ _ hc1];rfl
 have sT:=aa (H.out.later Be);have br:=aa Be;have iM:=aa hc2;clear hb1 hc1 Be hc2;go_upto_region 2 with fail
 clear qP ir qO f1 g1;generalize w1.setCell ⟨w.heap.size,1,none⟩ (.string too)=w2 at sT br iM ⊢;have b0:w2.cell? ⟨w.heap.size,0,none⟩=some (.string bg):=cell_of_row _ _ 0 _ _ _ iM.out;have b1:w2.cell? ⟨w.heap.size,1,none⟩=some (.string too):=cell_of_row _ _ 1 _ _ _ iM.out;have b2:w2.cell? ⟨w.heap.size,2,none⟩=some (.pointer (some ⟨nb,0,none⟩)):=cell_of_row _ _ 2 _ _ _ iM.out;have k1:w2.cell? ⟨b,1,none⟩=some (.map (some mb)):=cell_of_row _ _ 1 _ _ _ sT.out.blk
 go_cut [] from 8 (fun wx=>bH wx b { R with now:=cC R.now ⟨bg,too,nb⟩ } mb lb cv/\w.grownBy wx (some mb)/\wx.heap[w.heap.size]? = some (.cells #[.string bg,.string too,.pointer (some ⟨nb,0,none⟩)] 214 (0,0)))
 case first =>
  go_region_with (go_at_call 133;refine (Ga.out w2.drew (sT.out.now.later rfl)).mono ?_;rintro _ w6 ⟨rfl,jc,bQ⟩)
  all_goals
   have k6:w2.grownBy w6 (some mb):=dF (jJ ((Below.refl _ _).drew) _) bQ;have aV:bH w6 b { R with now:=cC R.now ⟨bg,too,nb⟩ } mb lb cv/\w.grownBy w6 (some mb)/\w6.heap[w.heap.size]? = some (.cells #[.string bg,.string too,.pointer (some ⟨nb,0,none⟩)] 214 (0,0)) :=
    ⟨sT.out.yZ k6 jc,dF (jJ br.out _) k6,(k6.block _ (ax iM.out) (fun e=>by injection e with e;have:=H.out.now.lt;omega)).trans iM.out⟩
   have bG:=aa aV;clear jc bQ k6 aV;go_wp2_with fail
   go_meet
   case rel=>exact bG.out
 case rest =>
  obtain ⟨hd,hg,hcb⟩:=hcut;clear Ga b0 b1 b2 k1 sT br iM;obtain ⟨ZE,ZF,hcv⟩:=jG hd.aw;dsimp only at hcv;subst hcv;obtain ⟨M,hM⟩ : ∃ M,M=R.aw.length:=⟨_,rfl⟩;have c3:wc.cell? ⟨b,3,none⟩=some (.slice ZE R.aw.length ZF):=cell_of_row _ _ 3 _ _ _ hd.blk;have b0:wc.cell? ⟨w.heap.size,0,none⟩=some (.string bg):=cell_of_row _ _ 0 _ _ _ hcb;have b1:wc.cell? ⟨w.heap.size,1,none⟩=some (.string too):=cell_of_row _ _ 1 _ _ _ hcb;have b2:wc.cell? ⟨w.heap.size,2,none⟩=some (.pointer (some ⟨nb,0,none⟩)):=cell_of_row _ _ 2 _ _ _ hcb;have Gb:=gA (hd.aw.alloc (.cells #[.string bg,.string too,.pointer (some ⟨nb,0,none⟩)] 214)) ((Below.refl _ _).drew);dsimp only at Gb;rw [<- hM] at Gb c3;have hsm:M+1<=maxLen/\(M+1) * 40<=140737488355328:=by rw [hM];unfold maxLen;omega
  obtain ⟨B4,SP⟩:=hsm;have Ll:=aa Gb;have HM:=aa hM;have HD:=aa hd;have HG:=aa hg;have hbl:=eB hd.blk;have B5:=aa (Qt4 ⟨bg,too,nb⟩);have Gc:=hd.ne.1;rw [<- hM] at Gc;have Lm:=aa Gc;have pV:=aa hd.blk;have hb1:Below wc.heap.size wc ((wc.alloc (.cells #[.string bg,.string too,.pointer (some ⟨nb,0,none⟩)] 214)).drew):=((Below.refl _ _).alloc (Nat.le_refl _) _).drew;have br:=aa hb1;have bf:=fun j=>frozen_of_row wc b j _ _ hd.blk
  clear Gb hM hd hg hcb Gc hb1;go_upto_region 3 with fail
  go_region_law (refine step_append_lies _ (by rfl) _ _ _ (by rfl) 0 214 i0 _ 3 40 Tryz.underlying148 hi hz0 hz1 hz2 (by rfl) (by decide) _ M _ (by rfl) Ll.out ⟨wc.heap.size,0,none⟩ 1 1 [.string bg,.string too,.pointer (some ⟨nb,0,none⟩)] (by rfl) (by rfl) (Kb (heap_alloc_new _ _)) B5.out (by decide) B4 SP (Nat.zero_le _) _ rfl ?_;intro g2 pk w5 cU hgrow hat Ln;have sb:w5.heap[b]? = _:=(hgrow.block b (by show b<(wc.alloc _).heap.size;rw [size_alloc];omega) (fun e=>Lm.out e.symm)).trans ((Below.heap_alloc wc _ b hbl).trans pV.out);have s3:w5.cell? ⟨b,3,none⟩=_:=cell_of_row _ _ 3 _ _ _ sb;have sf:=frozen_of_row w5 b 3 _ _ sb)
  all_goals
   have hM:=HM.out;subst hM;have hp:=HD.out.mr (c:=⟨bg,too,nb⟩) (q:=g2) (cap:=pk) br.out hgrow cU (hat.imp id (fun e=>by rw [e];show wc.heap.size<=(wc.alloc _).heap.size;rw [size_alloc];omega));have hno:BO w (Value.slice ZE R.aw.length ZF) (.slice (some ⟨g2,0,none⟩) (R.aw.length+1) pk):=by
    rcases hat with e|e
    ·exact .inl (by rw [e];rfl)
    ·refine .inr fun k hk=>?_
     simp only [Value.ownBlock,Option.some.injEq] at hk;rw [<- hk,e];have:=HG.out.size;show w.heap.size<=(wc.alloc _).heap.size;rw [size_alloc];omega
   have HP:=aa hp;have wM:=aa hno;clear hgrow cU hat Ln sb s3 sf hp hno;go_wp2_with fail
   go_end0
   exact ⟨rfl,(Gr.of_grownBy HG.out (.inr (.inl rfl))).trans (HP.out.2.mono fun k _ hk=>hk.imp id .inr),_,HP.out.1,wM.out⟩
open Go.RowKit
theorem Gm (p:ByteArray) (ob:Option Nat):∀ (l:List DE) (d:Bool),(dc p ob l d).length<=l.length+(if d then 0 else 1)
 | [],d=>by
  unfold dc
  cases d<;>cases ob<;>simp
 | e::es,d=>by
  have ih:=Gm p ob es (d || bJ p e.path);unfold dc;rw [List.length_append,List.length_append,List.length_cons];have h2:(if e.path=p then [] else [e]).length<=1:=by split<;>simp
  cases d with
  | true =>
   simp only [Bool.true_or,if_true,Bool.not_true,Bool.false_and,Bool.false_eq_true,if_false,List.length_nil] at ih ⊢;omega
  | false =>
   cases hl:bJ p e.path with
   | true =>
    rw [hl] at ih
    cases ob with
    | none =>
     simp only [Bool.or_true,if_true,Bool.not_false,Bool.and_self,Bool.false_eq_true,if_false,List.length_nil] at ih ⊢;omega
    | some b =>
     simp only [Bool.or_true,if_true,Bool.not_false,Bool.and_self,Bool.false_eq_true,if_false,List.length_cons,List.length_nil] at ih ⊢;omega
   | false =>
    rw [hl] at ih;simp only [Bool.or_self,Bool.and_false,Bool.false_eq_true,if_false,List.length_nil] at ih ⊢;omega
theorem Qn4 (l:List DE) (c:CH):(cC l c).length<=l.length+1:=by
 unfold cC;have h1:=Gm c.bg none l true;have h2:=Gm c.too (some c.blk) (dc c.bg none l true) false;simp only [if_true,Bool.false_eq_true,if_false] at h1 h2
 split<;>omega
theorem S0:∀ (cs:List CH) (l:List DE),(cs.foldl cC l).length<=l.length+cs.length
 | [],l=>by simp
 | c::cs,l=>by
  have h1:=S0 cs (cC l c);have h2:=Qn4 l c;simp only [List.foldl_cons,List.length_cons];omega
def GD:CH:=⟨⟨#[]⟩,⟨#[]⟩,0⟩
theorem Qul:∀ (l:List CH) (j i:Nat),j<l.length->i<3->(l.flatMap CH.cells)[j * 3+i]? = (l.getD j GD).cells[i]?
 | [],j,i,h,_=>by simp at h
 | x::l,0,i,_,hi=>by
  have h4:x.cells.length=3:=rfl;rw [List.flatMap_cons,List.getElem?_append_left (by omega)];simp
 | x::l,j+1,i,h,hi=>by
  have h4:x.cells.length=3:=rfl;rw [List.flatMap_cons,List.getElem?_append_right (by omega),h4,show (j+1) * 3+i - 3=j * 3+i by omega,Qul l j i (by simpa using h) hi];simp
theorem Ts {w:World} {T:TypeId} {g:Nat} {cur:Array Value} {l:List CH} (hg:w.heap[g]? = some (.cells cur T (0,0))) (cN:cur.toList.take (l.length * 3)=l.flatMap CH.cells) (i j:Nat) (hi:i<l.length) (hj:j<3):w.cell? ⟨g,i * 3+j,none⟩=(l.getD i GD).cells[j]?:=by
 rw [cell_of_row w g _ _ _ _ hg,<- Qul l i j hi hj,<- cN,List.getElem?_take,if_pos (by omega)];simp
theorem Qn5 {l:List CH} {k:Nat} (hk:k<l.length):l.take (k+1)=l.take k ++ [l.getD k GD]:=by
 rw [List.take_add_one,List.getElem?_eq_getElem hk];simp [List.getD_eq_getElem?_getD,List.getElem?_eq_getElem hk]
def kd (l:List CH):Prop:=∀ c∈l,c.bg.size<=1000000000/\c.too.size<=1000000000
theorem kd.at {l:List CH} (h:kd l) {k:Nat} (hk:k<l.length):(l.getD k GD).bg.size<=maxLen/\(l.getD k GD).too.size<=maxLen:=by
 have hm:l.getD k GD∈l:=by
  rw [List.getD_eq_getElem?_getD,List.getElem?_eq_getElem hk];simp
 have:=h _ hm;unfold maxLen;omega
theorem bH.settled {w w':World} {b mb lb:Nat} {R:dz} {cv:Value} {l':List DE} (h:bH w b R mb lb cv) (hg:w.grownBy w' (some lb)) (hm:PM Tryz.prog 9 w' lb l') :
  bH (w'.setCell ⟨b,3,none⟩ (.slice none 0 0)) b { R with safe:=l',aw:=[] } mb lb (.slice none 0 0)/\Gr (fun k=>k=b∨k=lb) w (w'.setCell ⟨b,3,none⟩ (.slice none 0 0)):=by
 have h2:=h.B2 hg hm;obtain ⟨n1,n2,n3,n4,n5⟩:=h.ne;have dh:∀ k,k≠b->(w'.setCell ⟨b,3,none⟩ (.slice none 0 0)).heap[k]? = w'.heap[k]?:=fun k hk=>heap_setCell_other _ _ _ _ (by simpa using hk)
 refine ⟨⟨?_,h2.now.later (dh mb (Ne.symm n4)),h2.safe.later (dh lb (Ne.symm n5)),h.apart,World.ownsRow_nil _ _ _ _⟩,?_⟩
 ·rw [heap_setCell_same _ b 3 _ _ _ h2.blk];rfl
 ·exact (Gr.of_grownBy hg (.inr rfl)).trans (Gr.of_grownBy (nE _ _ _ _) (.inl rfl))
theorem Z0 (b:Nat) (R:dz) (mb lb:Nat) (cv:Value) (n:Nat) (w:World) (h:bH w b R mb lb cv) (hn:n<=R.aw.length) (hl:R.safe.length+R.aw.length<=100000000) (oG:kd R.aw) :
  Calls Tryz.prog 85 #[.pointer (some ⟨b,0,none⟩),.int .i64 (n:Int)] w fun e w'=>e = .returned (.tuple #[])/\bH w' b { R with safe:=(R.aw.take n).foldl cC R.safe,aw:=[] } mb lb (.slice none 0 0)/\Gr (fun k=>k=b∨k=lb) w w':=by
 have H:=aa h;have hbl:=eB h.blk;have c2:w.cell? ⟨b,2,none⟩=some (.map (some lb)):=cell_of_row _ _ 2 _ _ _ h.blk;have c3:w.cell? ⟨b,3,none⟩=some cv:=cell_of_row _ _ 3 _ _ _ h.blk;have bf:=fun j=>frozen_of_row w b j _ _ h.blk
 obtain ⟨n1,n2,n3,n4,n5⟩:=h.ne
 rcases h.aw.2 with ⟨hcv,h0⟩|⟨g,cap,cur,hcv,_,hg,hlc,hm,hcs,cN⟩
 ·subst hcv;have yr:n=0:=by omega
  subst yr;have hR:=H.out.settled (R7 w _) H.out.safe;have HR:=aa hR;clear hR n1 n2 n3 n4 n5 h;go_enter Tryz.func85,Tryz.ntmps85;go_wp2_with fail;refine wp_loop_rounds 1 ?_;rw [rounds_succ];go_wp2_with fail
  go_end0
  exact ⟨rfl,HR.out.1,HR.out.2⟩
 ·subst hcv;have hmx:cap<=9223372036854775807:=by unfold maxLen at hm;omega
  have LP:n<=cap:=by omega
  have hgb:g≠b:=fun e=>n1 (by rw [e];rfl)
  have cX:g≠lb:=fun e=>n3 (by rw [e];rfl)
  have HG:=aa hg;have nu:=aa cN;have HN:=aa hn;have Ki:=aa oG;have vA:=ax hg;have HLL:=aa (S0);clear hg cN h hcs hm n1 n2 n3 n4 oG;generalize uO:R.aw.length=m at hlc c3;have qP:=aa uO;clear uO;go_enter Tryz.func85,Tryz.ntmps85;go_wp2_with fail
  go_loopw [13] (fun iv wr=>∃ k:Nat,k<=n/\iv = .int .i64 ((k:Nat):Int)/\w.grownBy wr (some lb)/\PM Tryz.prog 9 wr lb ((R.aw.take k).foldl cC R.safe)) (fun iv _=>n - (intOf iv).toNat)
  case atStart=>exact ⟨0,Nat.zero_le _,rfl,R7 _ _,H.out.safe⟩
  case round =>
   obtain ⟨k,hk,rfl,hgr,Jm⟩:=hrel;have tu:wr.heap[b]? = _:=(hgr.block b hbl (fun e=>n5 (by injection e))).trans H.out.blk;have r2:wr.cell? ⟨b,2,none⟩=some (.map (some lb)):=cell_of_row _ _ 2 _ _ _ tu;have rf:=fun j=>frozen_of_row wr b j _ _ tu
   have r3:wr.cell? ⟨b,3,none⟩=some (.slice (some ⟨g,0,none⟩) R.aw.length cap):=cell_of_row _ _ 3 _ _ _ tu;have Az:=aa hgr;have Gh:=aa Jm;have Jn:=hgr.size
   by_cases hlt:k<n
   ·have Pc:wr.heap[g]? = some (.cells cur 214 (0,0)):=(hgr.block g vA (fun e=>cX (by injection e))).trans HG.out;have zf:k<R.aw.length:=Nat.lt_of_lt_of_le hlt HN.out;obtain ⟨c,hc⟩ : ∃ c,c=R.aw.getD k GD:=⟨_,rfl⟩;have t0:=Ts Pc nu.out k 0 zf (by omega);have t1:=Ts Pc nu.out k 1 zf (by omega);have t2:=Ts Pc nu.out k 2 zf (by omega);have hsz:=Ki.out.at zf;have Tt:=Qn5 zf;rw [<- hc] at t0 t1 t2 hsz Tt;obtain ⟨cf,ct,cb⟩:=c;simp only [Nat.add_zero] at t0
    replace t0:wr.cell? ⟨g,k * 3,none⟩=some (.string cf):=t0
    replace t1:wr.cell? ⟨g,k * 3+1,none⟩=some (.string ct):=t1
    replace t2:wr.cell? ⟨g,k * 3+2,none⟩=some (.pointer (some ⟨cb,0,none⟩)):=t2
    have hlen:((R.aw.take k).foldl cC R.safe).length<=100000000:=by
     have:=HLL.out (R.aw.take k) R.safe;rw [List.length_take] at this;omega
    have Ga:=aa (fun w' (hp:PM Tryz.prog 9 w' lb ((R.aw.take k).foldl cC R.safe))=>ZA lb _ cf ct cb w' hp hlen hsz.1 hsz.2);have O8:=aa Tt;have aam:g<wr.heap.size:=Nat.lt_of_lt_of_le vA Jn;have Tc:b<wr.heap.size:=Nat.lt_of_lt_of_le hbl Jn;have Tu:=Jm.lt;clear hgr Jm tu Pc hc hsz Tt hlen;go_wp2_with fail
    go_region_with (go_at_call 133;refine (Ga.out ((wr.alloc (.cells #[.string cf,.string ct,.pointer (some ⟨cb,0,none⟩)] 214)).drew) (Gh.out.later (Below.heap_alloc wr _ lb Tu))).mono ?_;rintro _ w6 ⟨rfl,jc,bQ⟩)
    all_goals
     have aV:w.grownBy w6 (some lb)/\PM Tryz.prog 9 w6 lb ((R.aw.take (k+1)).foldl cC R.safe):=by
      refine ⟨dF Az.out (dF (jJ (((Below.refl _ _).alloc (Nat.le_refl _) _).drew) _) bQ),?_⟩;rw [O8.out,List.foldl_append];exact jc
     have bG:=aa aV;clear jc bQ aV;go_wp2_with fail
     go_roundw
     case rel=>exact ⟨k+1,by omega,by go_num,bG.out.1,bG.out.2⟩
     case measure=>simp [intOf];omega
   ·have e1:decide (((k:Nat):Int)<((n:Nat):Int))=false:=by simp;omega
    have wO:k=n:=by omega
    subst wO;have hR:=H.out.settled Az.out Gh.out;have HR:=aa hR;clear hgr Jm tu hR;go_wp2_with fail
    go_end0
    exact ⟨rfl,HR.out.1,HR.out.2⟩
end Go.Proofs.YtncigfibncmioaaGreatDoor
