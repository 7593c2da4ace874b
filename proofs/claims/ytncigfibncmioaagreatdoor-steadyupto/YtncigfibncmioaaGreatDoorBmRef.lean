/-
  PROVED HERE: Tag of package store.
-/
import Derived.Test.YtncigfibncmioaaGreatDoorSmDelC
import Derived.Test.YtncigfibncmioaaGreatDoorSmDig
namespace Go.Proofs.YtncigfibncmioaaGreatDoor
set_option maxHeartbeats 4000000
set_option maxRecDepth 100000
open Go.RowKit
def taT (D:DS) (ds:List Nat) (name:ByteArray) (l:List TE):List TE:=szT ds (((rdD D (cPath ds)).getD ⟨#[]⟩).size:Int) (insK TE.n ⟨name,ds,0⟩ l)
set_option linter.unusedSimpArgs false in
theorem tag_any (sb:Nat) (s:PSt) (cb tb nc:Nat) (Dc:DataW Value) (l:List TE) (name:ByteArray) (ds:List Nat) (w:World) {L C B:Nat} (h:StW w sb s cb tb nc l.length Dc (tD l))
  (hr300:∀ t,rdD s.ds (cPath ds)=some t→t.size≤300) (hok:∀ t∈l,t.Ok) (hn:name.size≤20) (h8:l.length≤8) (h8':(insK TE.n ⟨name,ds,0⟩ l).length≤8) (hds:ds.length=32) (hlt:∀ i,ds.getD i 0<256) (hf:DFit s.ds L C B) (hb:Bud (L+100) (C+100) (B+40000)) :
  Calls Tryz.prog 72 #[.pointer (some ⟨sb,0,none⟩),.string name,.agg (cells8 ds)] w fun e w'=>∃ ev k s',e = .returned ev∧ErrV w' ev k∧SGo (fun k=>k=sb) s s' w w'∧WrZ s.ds (chF [] l (taT s.ds ds name l)) k s'.ds ∧
   (k=0→∃ t2,w.heap.size≤t2∧StW w' sb s' cb t2 nc (taT s.ds ds name l).length Dc (tD (taT s.ds ds name l)))∧(k≠0→StW w' sb s' cb tb nc l.length Dc (tD l)):=by
 have hrise:RiseT l:=TL.rise h.tm
 have HTW:Hid (∀ W,StW W sb s cb tb nc l.length Dc (tD l)→Calls Tryz.prog 103 #[.pointer (some ⟨sb,0,none⟩),.string name,.agg (cells8 ds)] W fun e w'=>∃ b,e = .returned (.map (some b))∧W.heap.size≤b∧TL w' b (insK TE.n ⟨name,ds,0⟩ l)∧Below W.heap.size W w'):=hide (fun W hW=>(tagsWith_any sb s cb tb nc l.length Dc (tD l) name ds W hW hds (by omega) (by omega)).mono fun e w' ⟨b,h1,h2,h3,h4⟩=>⟨b,h1,h2,by
  have h5:TM w' b (l.length+1) ((tD l).put (kOf (⟨name,ds,0⟩ : TE).n) (.held (⟨name,ds,0⟩ : TE).v)):=h3
  rw [mD_put _ _ hrise] at h5
  exact tl_tight h5,h4⟩)
 have hok1:∀ t∈insK TE.n ⟨name,ds,0⟩ l,t.Ok:=fun t ht=>by
  rcases insK_mem ht with rfl|ht
  ·exact ⟨hn,hds,hlt,Int.le_refl _,by show (0:Int)≤300;decide⟩
  ·exact hok t ht
 have hbo:Below w.heap.size w (w.alloc (.cells (cells8 ds) 117)):=(Below.refl _ _).alloc (Nat.le_refl _) _
 have hrow:(w.alloc (.cells (cells8 ds) 117)).heap[w.heap.size]? = some (.cells (cells8 ds) 117 (0,0)):=heap_alloc_new _ _
 obtain ⟨W,hW⟩ : ∃ W,W=w.alloc (.cells (cells8 ds) 117):=⟨_,rfl⟩
 rw [← hW] at hbo hrow
 have hz300:(0:Int)≤(((rdD s.ds (cPath ds)).getD ⟨#[]⟩).size:Int)∧(((rdD s.ds (cPath ds)).getD ⟨#[]⟩).size:Int)≤300:=by
  cases hrr:rdD s.ds (cPath ds) with
  | none=>exact ⟨by decide,by decide⟩
  | some t=>have:=hr300 t hrr;simp only [Option.getD];omega
 obtain ⟨z,hzz⟩ : ∃ z:Int,z=(((rdD s.ds (cPath ds)).getD ⟨#[]⟩).size:Int):=⟨_,rfl⟩
 have HSZ:=hide (fun X hX=>size_any sb s ds X hX hds hlt)
 rw [← hzz] at HSZ hz300
 have HTA:=hide (show taT s.ds ds name l=szT ds z (insK TE.n ⟨name,ds,0⟩ l) by unfold taT;rw [hzz])
 rw [HTA.out]
 have hbd:Below W.heap.size W W.drew:=(Below.refl _ _).drew
 have hbw:Below w.heap.size w W.drew:=hbo.trans (hbd.mono hbo.size)
 have hst:=h.later hbw
 have hr0:=(hbd.block _ (lt_heap hrow)).trans hrow
 have H:=hide h
 have HST:=hide hst
 have HBW:=hide hbw
 have HR0:=hide hr0
 have HOK:=hide hok
 have HOK1:=hide hok1
 have HF:=hide hf
 have HB:=hide hb
 have HW:=hide hW
 have hl1:=insK_len (key:=TE.n) ⟨name,ds,0⟩ l
 have HL8:=hide h8'
 have hS0:=con_r hr0
 have u72:=Tryz.underlying117
 have i72:=size72 ds hds
 have hwW:W.drew.heap.size=w.heap.size+1:=by show W.heap.size=_;rw [hW,size_alloc]
 obtain ⟨xb,hxb⟩ : ∃ xb,xb=w.heap.size:=⟨_,rfl⟩
 rw [← hxb] at hS0 HR0
 have HXB:=hide hxb
 have HNS:=hide (show ∀ k,w.heap.size≤k→¬ (s.own k∨k=sb) from fun k hk e=>by
  rcases e with e|e
  ·have:=h.inn.lt e;omega
  ·have:=lt_heap h.blk;omega)
 clear h hok hok1 hf hb hbo hrow hbd hbw hst hr0 hr300 h8' hzz hrise hW hxb hwW
 go_enter Tryz.func72,Tryz.ntmps72
 go_upto_region 1 with fail
 rw [← HW.out,← HXB.out]
 refine wp_region_held_drew (S:=fun w'=>w'.rangeAt xb 0 (cells8 ds).toList) (by kernel_rfl) hS0 (fun hHeld=>?_)
 refine wpAnyH_take (i:=0) (v:=.pointer (some ⟨sb,0,none⟩)) rfl (by kernel_rfl) (by kernel_rfl) (by kernel_rfl) (fun _ _ _ h=>h) (Or.inl ⟨by rfl,fun _ _=>rfl⟩) (by assumption) ?_
 simp only [Act.put,List.setIfInBounds_toArray,List.set_cons_zero,List.set_cons_succ]
 refine wpAnyH_take (i:=1) (v:=.pointer (some ⟨sb,0,none⟩)) rfl (by kernel_rfl) (by kernel_rfl) (by kernel_rfl) (fun _ _ _ h=>h) (Or.inl ⟨by rfl,fun _ _=>rfl⟩) (by assumption) ?_
 simp only [Act.put,List.setIfInBounds_toArray,List.set_cons_zero,List.set_cons_succ]
 refine wpAnyH_take (i:=2) (v:=.string name) rfl (by kernel_rfl) (by kernel_rfl) (by kernel_rfl) (fun _ _ _ h=>h) (Or.inl ⟨by rfl,fun _ _=>rfl⟩) (by assumption) ?_
 simp only [Act.put,List.setIfInBounds_toArray,List.set_cons_zero,List.set_cons_succ]
 refine wpAnyH_take (i:=3) (v:=.agg (cells8 ds).toList.toArray) rfl (by kernel_rfl) (by kernel_rfl) (by kernel_rfl) (fun _ _ _ h=>h) (yieldsIf_load_mid (by rfl) _ _ rfl xb 0 rfl (cells8 ds).toList _ (fun w h=>h) u72 rfl i72) (by assumption) ?_
 simp only [Act.put,List.setIfInBounds_toArray,List.set_cons_zero,List.set_cons_succ]
 refine wpAnyH_take (i:=5) (v:=.agg (cells8 ds).toList.toArray) rfl (by kernel_rfl) (by kernel_rfl) (by kernel_rfl) (fun _ _ _ h=>h) (yieldsIf_load_mid (by rfl) _ _ rfl xb 0 rfl (cells8 ds).toList _ (fun w h=>h) u72 rfl i72) (by assumption) ?_
 simp only [Act.put,List.setIfInBounds_toArray,List.set_cons_zero,List.set_cons_succ]
 refine wpAnyH_take (i:=6) (v:=.pointer (some ⟨sb,0,none⟩)) rfl (by kernel_rfl) (by kernel_rfl) (by kernel_rfl) (fun _ _ _ h=>h) (Or.inl ⟨by rfl,fun _ _=>rfl⟩) (by assumption) ?_
 simp only [Act.put,List.setIfInBounds_toArray,List.set_cons_zero,List.set_cons_succ]
 refine wpAnyH_take (i:=7) (v:=.agg (cells8 ds).toList.toArray) rfl (by kernel_rfl) (by kernel_rfl) (by kernel_rfl) (fun _ _ _ h=>h) (yieldsIf_load_mid (by rfl) _ _ rfl xb 0 rfl (cells8 ds).toList _ (fun w h=>h) u72 rfl i72) (by assumption) ?_
 simp only [Act.put,List.setIfInBounds_toArray,List.set_cons_zero,List.set_cons_succ]
 rw [show (cells8 ds).toList.toArray=cells8 ds from rfl]
 refine wpAnyH_ready (rs:=[4]) (by kernel_rfl) (by simp) ?_
 refine AllReadyH.cons rfl (fun K hK=>?_) AllReadyH.nil
 go_simp
 (go_at_call 103;refine (HTW.out _ HST.out).mono ?_;rintro _ w2 ⟨t1,rfl,ht1,htm1,hb2⟩;have hr2:=(hb2.block _ (lt_heap HR0.out)).trans HR0.out;have h2:=HST.out.later hb2)
 refine hK _ _ (con_r hr2) (fun hHeld=>?_)
 refine wpAnyH_ready (rs:=[8]) (by kernel_rfl) (by simp) ?_
 refine AllReadyH.cons rfl (fun K hK=>?_) AllReadyH.nil
 go_simp
 (go_at_call 67;refine (HSZ.out _ h2.on).mono ?_;rintro _ w3 ⟨rfl,hg3⟩;have hr3:=(hg3.gr.block _ (lt_heap hr2) (fun e=>HNS.out xb (by have:=HXB.out;omega) (.inl e))).trans hr2;have h3:=h2.go hg3;have t3:=htm1.same (hg3.gr.block _ htm1.lt (fun e=>HNS.out t1 (by have:=HBW.out.size;omega) (.inl e))))
 refine hK _ _ (con_r hr3) (fun hHeld=>?_)
 refine wpAnyH_ready (rs:=[9]) (by kernel_rfl) (by simp) ?_
 refine AllReadyH.cons rfl (fun K hK=>?_) AllReadyH.nil
 go_simp
 (go_at_call 115;refine (sized_any t1 _ ds z w3 t3 HOK1.out hds hlt (by omega)).mono ?_;rintro _ w4 ⟨t2,rfl,ht2,htm2,hb4⟩;have hr4:=(hb4.block _ (lt_heap hr3)).trans hr3;have h4:=h3.later hb4)
 refine hK _ _ (con_r hr4) (fun hHeld=>?_)
 refine wpAnyH_ready (rs:=[10]) (by kernel_rfl) (by simp) ?_
 refine AllReadyH.cons rfl (fun K hK=>?_) AllReadyH.nil
 go_simp
 (go_at_call 114;refine (change_any sb s cb tb nc t2 w4.heap.size Dc (.slice none 0 0) [] l (szT ds z (insK TE.n ⟨name,ds,0⟩ l)) w4 h4 htm2 (fun e=>by have:=h3.inn.lt e;omega) (fun e=>by have:=h3.gl.lt e;omega) (fun e=>by have:=h3.cm.lt;omega) (World.ownsRow_nil _ _ _ _) (Nat.le_refl _) (fun k hk=>h4.gl.lt hk) (by simp) (fun f hf=>by cases hf) HOK.out (szT_ok HOK1.out hz300) (by simp only [szT,List.length_map];exact HL8.out) HF.out HB.out).mono ?_;rintro _ w5 ⟨ev,k,s',rfl,hev,hft,hwr,h50,h51⟩;have hr5:=(hft.gr.block _ (lt_heap hr4) (fun e=>by rcases e with e|e|e;exact HNS.out xb (by have:=HXB.out;omega) (.inl e);exact HNS.out xb (by have:=HXB.out;omega) (.inr e);have:=lt_heap hr4;omega)).trans hr4)
 refine hK _ _ (con_r hr5) (fun hHeld=>?_)
 refine wpAnyH_take (i:=11) (oi:={ dst:=some 6,op:=Op.assign (Operand.tmp 17),type:=94,pos := "change.go:25",after:=_,guard:=none }) (v:=ev) rfl (by kernel_rfl) (by kernel_rfl) (by kernel_rfl) (fun _ _ _ h=>h) (Or.inl ⟨by rfl,fun _ _=>rfl⟩) (by assumption) ?_
 simp only [Act.put,List.setIfInBounds_toArray,List.set_cons_zero,List.set_cons_succ]
 refine wpAnyH_done (by kernel_rfl) ?_ _
 have hsg:SGo (fun k=>k=sb) s s' w w5:=(((SGo.of_below HBW.out).trans (SGo.of_below hb2)).trans ((SGo.of_go hg3).trans ((SGo.of_below hb4).trans (hft.mono (S':=fun k=>k=sb∨w.heap.size≤k) (fun k hk hs=>hs.imp id (fun h=>by have:=HBW.out.size;have:=hb2.size;have:=hg3.gr.size;have:=hb4.size;omega)))))).mono (fun k hk hs=>by rcases hs with hs|hs;exact hs;omega)
 have HSG:=hide hsg
 have HT2:=hide (show w.heap.size≤t2 by have:=HBW.out.size;have:=hb2.size;have:=hg3.gr.size;omega)
 have HWR:=hide hwr
 have H50:=hide h50
 have H51:=hide h51
 have HEV:=hide hev
 clear hev hft hwr h50 h51 hsg hr5 hr4 hr3 hr2 h2 h3 h4 hHeld hS0 t3 htm1 htm2 hb2 hb4 hg3
 go_wp2_with fail
 go_ret
 exact ⟨_,k,s',rfl,HEV.out,HSG.out,HWR.out,fun hk=>⟨_,HT2.out,H50.out hk⟩,H51.out⟩
set_option maxHeartbeats 4000000
set_option maxRecDepth 100000
open Go.RowKit
set_option linter.unusedSimpArgs false in
theorem put_any (sb:Nat) (s:PSt) (cb tb nc:Nat) (Dc:DataW Value) (l:List TE) (b:ByteArray) (w:World) {L C B:Nat} (h:StW w sb s cb tb nc l.length Dc (tD l))
  (hb300:b.size≤300) (hc300:∀ t,conR s.ds (dOfB b)=some t→t.size≤300) (hnc:nc≤100000000) (hrd:∀ t,rdD s.ds (cPath (dOfB b))=some t→t.size≤140737488351232) (hok:∀ t∈l,t.Ok)
  (h8:l.length≤8) (hf:DFit s.ds L C B) (hb:Bud (L+100) (C+100) (B+40000)) :
  Calls Tryz.prog 64 #[.pointer (some ⟨sb,0,none⟩),.string b] w fun e w'=>∃ ev k s',e = .returned (.tuple #[.agg (cells8 (dOfB b)),ev])∧ErrV w' ev k∧SGo (fun k=>k=sb∨k=cb) s s' w w'∧WrZ s.ds (chF (kpF s.ds (dOfB b) b) l (szT (dOfB b) (kpB s.ds (dOfB b) b).size l)) k s'.ds ∧
   (k=0→∃ t2,w.heap.size≤t2∧StW w' sb s' cb t2 (nc+1) (szT (dOfB b) (kpB s.ds (dOfB b) b).size l).length (dPut Dc (dOfB b)) (tD (szT (dOfB b) (kpB s.ds (dOfB b) b).size l)))∧(k≠0→StW w' sb s' cb tb nc l.length Dc (tD l)):=by
 have hds:=dOfB_len b
 have hlt:=dOfB_lt b
 have HOF:=hide (fun W (hb:Below w.heap.size w W)=>of_any b W (by omega) (h.gl.later hb).hk)
 obtain ⟨ds,hd⟩ : ∃ ds,ds=dOfB b:=⟨_,rfl⟩
 have hd':Sha.digest (Sha.state b.data.toList)=ds:=hd.symm
 have HOF2:Hid (∀ W,Below w.heap.size w W→Calls Tryz.prog 71 #[.string b] W fun e w'=>e = .returned (.agg (cells8 ds))∧Below W.heap.size W w'):=hide (fun W hW=>by rw [← hd'];exact HOF.out W hW)
 clear HOF
 rw [← hd] at hc300 hrd hds hlt ⊢
 have HKP:=hide (fun W hW hno=>keep_any sb s cb tb nc tb Dc l l b ds W hW hW.tm hno hb300 hc300 hnc hrd hok hok h8 hds hlt hf hb)
 have H:=hide h
 have HD:=hide hd
 have HNS:=hide (show ∀ k,w.heap.size≤k→¬ (s.own k∨(k=sb∨k=cb)) from fun k hk e=>by
  rcases e with e|e|e
  ·have:=h.inn.lt e;omega
  ·have:=lt_heap h.blk;omega
  ·have:=h.cm.lt;omega)
 clear h hc300 hrd hf hb hd hd' hok
 have hz32:Sha.zeros 32=List.replicate 32 0:=rfl
 go_enter Tryz.func64,Tryz.ntmps64
 go_upto_region 2 with (first|(go_at_call 71;refine (HOF2.out _ (by exact (Below.refl _ _).alloc (Nat.le_refl _) _)).mono ?_;rintro _ w1 ⟨rfl,hb1⟩)|(refine wpList_store_row rfl 117 _ _ rfl w1.heap.size _ rfl rfl 117 _ (heap_alloc_new _ _) (size40 _ hds) (by rw [cells8_size,hds];rfl) (cells8_one _) ?_;rw [World.setRow_alloc_new]))
 have hz0:(w.alloc (.cells (cells8 (Sha.zeros 32)) 117)).heap[w.heap.size]? = some (.cells (cells8 (Sha.zeros 32)) 117 (0,0)):=heap_alloc_new _ _
 have hb0:Below w.heap.size w (w.alloc (.cells (cells8 (Sha.zeros 32)) 117)):=(Below.refl _ _).alloc (Nat.le_refl _) _
 have hr1:w1.heap[w.heap.size]? = some (.cells (cells8 (Sha.zeros 32)) 117 (0,0)):=(hb1.block _ (lt_heap hz0)).trans hz0
 have hbw1:Below w.heap.size w w1:=hb0.trans (hb1.mono hb0.size)
 obtain ⟨W,hW⟩ : ∃ W,W=(w1.alloc (.cells (cells8 ds) 117)).drew:=⟨_,rfl⟩
 have hBW:Below w1.heap.size w1 W:=by rw [hW];exact ((Below.refl _ _).alloc (Nat.le_refl _) _).drew
 have hrow:W.heap[w1.heap.size]? = some (.cells (cells8 ds) 117 (0,0)):=by rw [hW];exact heap_alloc_new _ _
 have hrr:=(hBW.block _ (lt_heap hr1)).trans hr1
 have hbW:Below w.heap.size w W:=hbw1.trans (hBW.mono hbw1.size)
 have HBW:=hide hbW
 have HROW:=hide hrow
 have HRR:=hide hrr
 have hlr:=lt_heap hr1
 have hst:=H.out.later hbW
 have HST:=hide hst
 have hS0:=And.intro (con_r hrow) (con_t hrr (Sha.zeros_len _) ds hds)
 have u72:=Tryz.underlying117
 have i72:=size72 ds hds
 obtain ⟨xb,hxb⟩ : ∃ xb,xb=w1.heap.size:=⟨_,rfl⟩
 obtain ⟨rb,hrb⟩ : ∃ rb,rb=w.heap.size:=⟨_,rfl⟩
 rw [hW] at hS0
 clear hbW hrow hrr hst hBW hz0 hb0 hr1 hbw1 hb1
 rw [← hrb] at hS0 HRR
 rw [← hxb] at hS0 HROW
 dsimp only [Act.put]
 rw [← hrb,← hxb]
 have HWH:=hide hW
 have HXB:=hide hxb
 have HRB:=hide hrb
 have hlr2:rb<xb:=by rw [hrb,hxb];omega
 clear hW hxb hrb hlr
 refine wp_region_held_drew (S:=fun w'=>w'.rangeAt xb 0 (cells8 ds).toList∧w'.there rb 0 (cells8 ds).toList.length) (by kernel_rfl) hS0 (fun hHeld=>?_)
 refine wpAnyH_take (i:=0) (v:=.agg (cells8 ds).toList.toArray) rfl (by kernel_rfl) (by kernel_rfl) (by kernel_rfl) (fun _ _ _ h=>h) (yieldsIf_load_mid (by rfl) _ _ rfl xb 0 rfl (cells8 ds).toList _ (fun w h=>h.1) u72 rfl i72) (by assumption) ?_
 simp only [Act.put,List.setIfInBounds_toArray,List.set_cons_zero,List.set_cons_succ]
 refine wpAnyH_take (i:=1) (v:=.pointer (some ⟨sb,0,none⟩)) rfl (by kernel_rfl) (by kernel_rfl) (by kernel_rfl) (fun _ _ _ h=>h) (Or.inl ⟨by rfl,fun _ _=>rfl⟩) (by assumption) ?_
 simp only [Act.put,List.setIfInBounds_toArray,List.set_cons_zero,List.set_cons_succ]
 refine wpAnyH_take (i:=2) (v:=.agg (cells8 ds).toList.toArray) rfl (by kernel_rfl) (by kernel_rfl) (by kernel_rfl) (fun _ _ _ h=>h) (yieldsIf_load_mid (by rfl) _ _ rfl xb 0 rfl (cells8 ds).toList _ (fun w h=>h.1) u72 rfl i72) (by assumption) ?_
 simp only [Act.put,List.setIfInBounds_toArray,List.set_cons_zero,List.set_cons_succ]
 refine wpAnyH_take (i:=3) (v:=.string b) rfl (by kernel_rfl) (by kernel_rfl) (by kernel_rfl) (fun _ _ _ h=>h) (Or.inl ⟨by rfl,fun _ _=>rfl⟩) (by assumption) ?_
 simp only [Act.put,List.setIfInBounds_toArray,List.set_cons_zero,List.set_cons_succ]
 refine wpAnyH_take (i:=4) (v:=.pointer (some ⟨sb,0,none⟩)) rfl (by kernel_rfl) (by kernel_rfl) (by kernel_rfl) (fun _ _ _ h=>h) (Or.inl ⟨by rfl,fun _ _=>rfl⟩) (by assumption) ?_
 simp only [Act.put,List.setIfInBounds_toArray,List.set_cons_zero,List.set_cons_succ]
 refine wpAnyH_take (i:=5) (v:=.pointer (some ⟨sb,0,none⟩)) rfl (by kernel_rfl) (by kernel_rfl) (by kernel_rfl) (fun _ _ _ h=>h) (Or.inl ⟨by rfl,fun _ _=>rfl⟩) (by assumption) ?_
 simp only [Act.put,List.setIfInBounds_toArray,List.set_cons_zero,List.set_cons_succ]
 refine wpAnyH_take (i:=6) (v:=.pointer (some ⟨sb,2,none⟩)) rfl (by kernel_rfl) (by kernel_rfl) (by kernel_rfl) (fun _ _ _ h=>h) (Or.inl ⟨by rfl,fun _ _=>rfl⟩) (by assumption) ?_
 simp only [Act.put,List.setIfInBounds_toArray,List.set_cons_zero,List.set_cons_succ]
 rw [show (cells8 ds).toList.toArray=cells8 ds from rfl]
 rw [← HWH.out]
 have c2:=cell_of_row _ _ 2 _ _ _ HST.out.blk
 refine wpAnyH_ready (rs:=[7]) (by kernel_rfl) (by simp) ?_
 refine AllReadyH.cons rfl (fun K hK=>?_) AllReadyH.nil
 go_simp
 refine hK _ _ (by rw [HWH.out];exact hS0) (fun hHeld=>?_)
 clear c2
 refine wpAnyH_ready (rs:=[8]) (by kernel_rfl) (by simp) ?_
 refine AllReadyH.cons rfl (fun K hK=>?_) AllReadyH.nil
 go_simp
 (go_at_call 102;refine (HKP.out _ HST.out HST.out.ntb).mono ?_;rintro _ w3 ⟨ev,k,s',rfl,hev,hft,hwr,h30,h31⟩;have hr3:=(hft.gr.block _ (lt_heap HROW.out) (HNS.out xb (by have:=HRB.out;omega))).trans HROW.out;have hq3:=(hft.gr.block _ (lt_heap HRR.out) (HNS.out rb (by have:=HRB.out;omega))).trans HRR.out;have hS3:=And.intro (con_r hr3) (con_t hq3 (Sha.zeros_len _) ds hds))
 refine hK _ _ hS3 (fun hHeld=>?_)
 refine wpAnyH_ready (rs:=[9]) (by kernel_rfl) (by simp) ?_
 refine AllReadyH.cons rfl (fun K hK=>?_) AllReadyH.nil
 rw [if_pos (by rfl)]
 refine wp_store_mid 117 _ _ rfl rb 0 (cells8 ds) rfl rfl hS3.2 (size40 _ hds) (cells8_one ds) ?_
 refine hK _ _ ⟨World.rangeAt_setCells_apart hS3.1 rb 0 _ (.inl (by omega)),World.there_setCells hS3.2 rb 0 _⟩ (fun hHeld=>?_)
 simp only [Act.put,List.setIfInBounds_toArray,List.set_cons_zero,List.set_cons_succ]
 refine wpAnyH_take (i:=10) (oi:={ dst:=some 5,op:=Op.assign (Operand.tmp 17),type:=94,pos := "change.go:14",after:=_,guard:=none }) (v:=ev) rfl (by kernel_rfl) (by kernel_rfl) (by kernel_rfl) (fun _ _ _ h=>h) (Or.inl ⟨by rfl,fun _ _=>rfl⟩) (by assumption) ?_
 simp only [Act.put,List.setIfInBounds_toArray,List.set_cons_zero,List.set_cons_succ]
 refine wpAnyH_done (by kernel_rfl) ?_ _
 obtain ⟨w4,hw4⟩ : ∃ w4,w4=w3.setCells rb 0 (cells8 ds).toList:=⟨_,rfl⟩
 have hs4:∀ k,k≠rb→w4.heap[k]? = w3.heap[k]?:=fun k hk=>by rw [hw4];exact heap_setCells_other _ _ _ hk
 have hz4:w3.heap.size≤w4.heap.size:=by rw [hw4];exact (below_sets (B:=0) (Nat.zero_le rb) (cells8 ds).toList 0 w3).size
 have hq4:w4.heap[rb]? = some (.cells (cells8 ds) 117 (0,0)):=by rw [hw4];exact dig_set hq3 (Sha.zeros_len _) ds hds
 have HQ4:=hide hq4
 have hr4:w4.rangeAt rb 0 (cells8 ds).toList:=by rw [hw4];exact World.rangeAt_setCells_same w3 rb 0 _ hS3.2
 have hbb:=below_sets (B:=0) (Nat.zero_le rb) (cells8 ds).toList 0 w3
 rw [← hw4] at hbb ⊢
 have HS4:=hide hs4
 have HZ4:=hide hz4
 have HR4:=hide hr4
 have HBB:=hide hbb
 have HEV:=hide hev
 have HFT:=hide ((SGo.of_below HBW.out).trans hft)
 have HQ3:=hide hq3
 have HWR:=hide hwr
 have H30:=hide h30
 have H31:=hide h31
 have hGr:¬ isG rb:=fun e=>by have:=H.out.gl.lt e;have:=HRB.out;omega
 clear hq4 hw4 hs4 hz4 hr4 hbb hev hft hwr h30 h31 hS3 hS0 hr3 hq3 hHeld
 go_wp2_with (refine wpList_load_mid rfl 117 _ rfl rb 0 rfl (cells8 ds).toList _ HR4.out Tryz.underlying117 rfl (size72 ds hds) ?_)
 refine bodyPost_ret (results_cell_tmp Tryz.results64 _ _ rb 117 _ (0,0) _ ev rfl rfl HQ4.out Tryz.underlying117 rfl (size40 _ hds)) rfl ?_
 refine ⟨ev,rfl,k,HEV.out.far HQ3.out HS4.out,s',?_,HWR.out,fun hk=>?_,fun hk=>(H31.out hk).far HZ4.out HQ3.out hGr HS4.out⟩
 ·exact ⟨⟨HBB.out.os.trans HFT.out.gr.os,HBB.out.tape.trans HFT.out.gr.tape,HBB.out.output.trans HFT.out.gr.output,Nat.le_trans HFT.out.gr.size HZ4.out,fun k hk hn=>(HS4.out k (fun e=>by have:=HRB.out;omega)).trans (HFT.out.gr.block k hk hn)⟩,HFT.out.own,HFT.out.b⟩
 ·obtain ⟨t2,ht2,hst⟩:=H30.out hk
  exact ⟨t2,Nat.le_trans HBW.out.size ht2,hst.far HZ4.out HQ3.out hGr HS4.out⟩
set_option maxHeartbeats 4000000
set_option maxRecDepth 100000
open Go.RowKit Go.MuLone
def sS (xb sb cb:Nat) (k:Nat):Prop:=k=xb∨k=sb∨k=cb
theorem BLk.sgo {W W':World} {xb sb:Nat} {n:Int} {s s':PSt} {cb tb nc nt:Nat} {Dc Dt:DataW Value} {S:Nat→Prop} (hx:BLk W xb sb n) (h:StW W sb s cb tb nc nt Dc Dt) (hg:SGo S s s' W W') (hS:∀ k,S k→k=sb∨k=cb):BLk W' xb sb n:=by
 refine (hg.gr.block xb (lt_heap hx) (fun e=>?_)).trans hx
 rcases e with e|e
 ·rcases h.inn.typed e hx with h3|h3|h3|h3<;>exact absurd h3 (by decide)
 ·rcases hS _ e with e|e
  ·subst e
   have h1:=h.blk
   rw [hx] at h1
   injection h1 with h1
   injection h1 with _ h1
   exact absurd h1 (by decide)
  ·subst e
   obtain ⟨es,clock,h1,_⟩:=h.cm
   rw [hx] at h1
   cases h1
theorem SGo.lock {W:World} {xb sb cb i:Nat} {s:PSt} {v:Value}:SGo (sS xb sb cb) s s W (W.setCell ⟨xb,i,none⟩ v):=SGo.of_set (.inl rfl)
theorem SGo.st {xb sb cb:Nat} {s s':PSt} {w w':World} {S:Nat→Prop} (h:SGo S s s' w w') (hS:∀ k,S k→k=sb∨k=cb):SGo (sS xb sb cb) s s' w w':=h.mono (fun k _ hk=>.inr (hS k hk))
theorem bPut_any (xb sb:Nat) (s:PSt) (cb tb nc:Nat) (Dc:DataW Value) (l:List TE) (b:ByteArray) (w:World) {L C B:Nat} (hx:BSt w xb sb) (hG:¬ isG xb) (h:StW w sb s cb tb nc l.length Dc (tD l))
  (hb300:b.size≤300) (hc300:∀ t,conR s.ds (dOfB b)=some t→t.size≤300) (hnc:nc≤100000000) (hrd:∀ t,rdD s.ds (cPath (dOfB b))=some t→t.size≤140737488351232) (hok:∀ t∈l,t.Ok)
  (h8:l.length≤8) (hf:DFit s.ds L C B) (hb:Bud (L+100) (C+100) (B+40000)) :
  Calls Tryz.prog 30 #[.pointer (some ⟨xb,0,none⟩),.string b] w fun e w'=>∃ k s',e = .returned (.tuple #[.string (if k=0 then dtx (dOfB b) else ⟨#[]⟩),.int .i64 k])∧SGo (sS xb sb cb) s s' w w'∧BSt w' xb sb∧WrZ s.ds (chF (kpF s.ds (dOfB b) b) l (szT (dOfB b) (kpB s.ds (dOfB b) b).size l)) k s'.ds ∧
   (k=0→∃ t2,w.heap.size≤t2∧StW w' sb s' cb t2 (nc+1) (szT (dOfB b) (kpB s.ds (dOfB b) b).size l).length (dPut Dc (dOfB b)) (tD (szT (dOfB b) (kpB s.ds (dOfB b) b).size l)))∧(k≠0→StW w' sb s' cb tb nc l.length Dc (tD l)):=by
 have hx:BLk w xb sb 0:=hx
 have c0:w.cell? ⟨xb,0,none⟩=some (.int .i32 0):=cell_of_row _ _ 0 _ _ _ hx
 have f0:w.frozen? ⟨xb,0,none⟩=false:=frozen_of_row _ _ 0 _ _ hx
 obtain ⟨W,hW⟩ : ∃ W,W=w.setCell ⟨xb,0,none⟩ (.int .i32 1):=⟨_,rfl⟩
 have hst:StW W sb s cb tb nc l.length Dc (tD l):=by rw [hW];exact h.lock hx hG
 have hxw:BLk W xb sb 1:=by rw [hW];exact hx.set 1
 have hfw:SGo (sS xb sb cb) s s w W:=by rw [hW];exact SGo.lock
 have HPB:=hide (put_any sb s cb tb nc Dc l b W hst hb300 hc300 hnc hrd hok h8 hf hb)
 have HLK:=hide (lock_free Tryz.muLib ⟨xb,0,none⟩ w c0 f0)
 have HW:=hide hW
 have HST:=hide hst
 have HXW:=hide hxw
 have HFW:=hide hfw
 have c2:W.cell? ⟨xb,2,none⟩=some (.pointer (some ⟨sb,0,none⟩)):=cell_of_row _ _ 2 _ _ _ hxw
 have d1:decide (300<(b.size:Int))=false:=decide_eq_false (by omega)
 have hds:=dOfB_len b
 have hlt:=dOfB_lt b
 generalize dOfB b=ds at *
 clear hx c0 f0 hst hxw hfw hW h hc300 hrd hf hb hok
 go_enter_defers Tryz.func30,Tryz.ntmps30
 go_wp2_with fail
 refine (HLK.out).mono ?_
 rintro _ W1 ⟨rfl,hW1⟩
 have hW1:W1=W:=hW1.trans HW.out.symm
 rw [hW1]
 dsimp only
 clear hW1 HLK HW
 go_wp2_with fail
 refine (HPB.out).mono ?_
 rintro _ w4 ⟨ev,k,s',rfl,hev,hft,hwr,h40,h41⟩
 dsimp only
 have hg4:Gl w4:=by
  by_cases hk:k=0
  ·obtain ⟨t2, -,h4⟩:=h40 hk
   exact h4.gl
  ·exact (h41 hk).gl
 have HKP:=hide (kept_any ds ev k w4 hev hg4 hds hlt)
 have HX4:=hide (HXW.out.sgo HST.out hft (fun k hk=>hk))
 have HF4:=hide (HFW.out.trans (hft.st (xb:=xb) (fun k hk=>hk)))
 have HWR:=hide hwr
 have H40:=hide h40
 have H41:=hide h41
 clear hev hft hwr h40 h41 hg4 HPB c2
 go_wp2_with fail
 refine (HKP.out).mono ?_
 rintro _ w5 ⟨rfl,hb5⟩
 dsimp only
 have HX5:=hide (HX4.out.later hb5)
 have HF5:=hide (HF4.out.trans (SGo.of_below hb5))
 have HB5:=hide hb5
 generalize hT:(if k=0 then dtx ds else ⟨#[]⟩)=T
 have HT:=hide hT
 clear hT hb5 HKP HX4 HF4
 go_wp2_with fail
 refine leaves_cons (f:=58) (args:=#[.pointer (some ⟨xb,0,none⟩)]) (by simp) (by simp [go_sem]) ?_
 refine (unlock_deferred Tryz.muLib ⟨xb,0,none⟩ .returning _ (cell_of_row _ _ 0 _ _ _ HX5.out) (frozen_of_row _ _ 0 _ _ HX5.out)).mono ?_
 rintro e u' w6 ⟨rfl,rfl,rfl⟩
 exact ⟨_,results_tmp2 rfl _ _ _,k,s',by rw [HT.out];rfl,HF5.out.trans SGo.lock,HX5.out.set 0,HWR.out,fun hk=>by
  obtain ⟨t2,ht2,h4⟩:=H40.out hk
  exact ⟨t2,Nat.le_trans HFW.out.gr.size ht2,(h4.later HB5.out).lock HX5.out hG⟩,fun hk=>((H41.out hk).later HB5.out).lock HX5.out hG⟩
set_option maxHeartbeats 4000000
set_option maxRecDepth 100000
open Go.RowKit Go.MuLone
theorem bPub_long (xb sb:Nat) (s:PSt) (cb tb nc:Nat) (Dc:DataW Value) (l:List TE) (name b:ByteArray) (w:World) (hx:BSt w xb sb) (hG:¬ isG xb) (h:StW w sb s cb tb nc l.length Dc (tD l)) (hn:name.size≤1000000) (htag:isTagB name=true) (hb300:300<b.size) (hbm:b.size≤9223372036854775807) :
  Calls Tryz.prog 25 #[.pointer (some ⟨xb,0,none⟩),.string name,.string b] w fun e w'=>e = .returned (.tuple #[.string ⟨#[]⟩,.int .i64 6])∧SGo (sS xb sb cb) s s w w'∧BSt w' xb sb∧StW w' sb s cb tb nc l.length Dc (tD l):=by
 have hx:BLk w xb sb 0:=hx
 have c0:w.cell? ⟨xb,0,none⟩=some (.int .i32 0):=cell_of_row _ _ 0 _ _ _ hx
 have f0:w.frozen? ⟨xb,0,none⟩=false:=frozen_of_row _ _ 0 _ _ hx
 obtain ⟨W,hW⟩ : ∃ W,W=w.setCell ⟨xb,0,none⟩ (.int .i32 1):=⟨_,rfl⟩
 have hst:StW W sb s cb tb nc l.length Dc (tD l):=by rw [hW];exact h.lock hx hG
 have hxw:BLk W xb sb 1:=by rw [hW];exact hx.set 1
 have hfw:SGo (sS xb sb cb) s s w W:=by rw [hW];exact SGo.lock
 have HIT:=hide (ownTag_any name W (by omega))
 rw [htag] at HIT
 have d1:decide (300<(b.size:Int))=true:=decide_eq_true (by omega)
 have HLK:=hide (lock_free Tryz.muLib ⟨xb,0,none⟩ w c0 f0)
 have HW:=hide hW
 have HST:=hide hst
 have HXW:=hide hxw
 have HFW:=hide hfw
 have c2:W.cell? ⟨xb,2,none⟩=some (.pointer (some ⟨sb,0,none⟩)):=cell_of_row _ _ 2 _ _ _ hxw
 clear hx c0 f0 hst hxw hfw hW h htag
 go_enter_defers Tryz.func25,Tryz.ntmps25
 go_wp2_with fail
 refine (HLK.out).mono ?_
 rintro _ W1 ⟨rfl,hW1⟩
 have hW1:W1=W:=hW1.trans HW.out.symm
 rw [hW1]
 dsimp only
 clear hW1 HLK HW
 go_wp2_with fail
 refine (HIT.out).mono ?_
 rintro _ W2 ⟨rfl,hW2⟩
 rw [hW2]
 dsimp only
 clear hW2 HIT
 go_wp2_with fail
 refine leaves_cons (f:=58) (args:=#[.pointer (some ⟨xb,0,none⟩)]) (by simp) (by simp [go_sem]) ?_
 refine (unlock_deferred Tryz.muLib ⟨xb,0,none⟩ .returning _ (cell_of_row _ _ 0 _ _ _ HXW.out) (frozen_of_row _ _ 0 _ _ HXW.out)).mono ?_
 rintro e u' w6 ⟨rfl,rfl,rfl⟩
 exact ⟨_,results_tmp2 rfl _ _ _,rfl,HFW.out.trans SGo.lock,HXW.out.set 0,HST.out.lock HXW.out hG⟩
theorem bPub_many (xb sb:Nat) (s:PSt) (cb tb nc:Nat) (Dc:DataW Value) (l:List TE) (name b:ByteArray) (w:World) (hx:BSt w xb sb) (hG:¬ isG xb) (h:StW w sb s cb tb nc l.length Dc (tD l)) (hok:∀ t∈l,t.Ok) (hn:name.size≤1000000) (htag:isTagB name=true) (hb300:b.size≤300) (hmay:((findK TE.n name l).isSome || decide (l.length<8))=false) :
  Calls Tryz.prog 25 #[.pointer (some ⟨xb,0,none⟩),.string name,.string b] w fun e w'=>e = .returned (.tuple #[.string ⟨#[]⟩,.int .i64 12])∧SGo (sS xb sb cb) s s w w'∧BSt w' xb sb∧StW w' sb s cb tb nc l.length Dc (tD l):=by
 have hx:BLk w xb sb 0:=hx
 have c0:w.cell? ⟨xb,0,none⟩=some (.int .i32 0):=cell_of_row _ _ 0 _ _ _ hx
 have f0:w.frozen? ⟨xb,0,none⟩=false:=frozen_of_row _ _ 0 _ _ hx
 obtain ⟨W,hW⟩ : ∃ W,W=w.setCell ⟨xb,0,none⟩ (.int .i32 1):=⟨_,rfl⟩
 have hst:StW W sb s cb tb nc l.length Dc (tD l):=by rw [hW];exact h.lock hx hG
 have hxw:BLk W xb sb 1:=by rw [hW];exact hx.set 1
 have hfw:SGo (sS xb sb cb) s s w W:=by rw [hW];exact SGo.lock
 have HIT:=hide (ownTag_any name W (by omega))
 rw [htag] at HIT
 have HMT:=hide (mayTag_any sb s cb tb nc Dc l name W hst hok (by omega))
 rw [hmay] at HMT
 have d1:decide (300<(b.size:Int))=false:=decide_eq_false (by omega)
 have HLK:=hide (lock_free Tryz.muLib ⟨xb,0,none⟩ w c0 f0)
 have HW:=hide hW
 have HST:=hide hst
 have HXW:=hide hxw
 have HFW:=hide hfw
 have c2:W.cell? ⟨xb,2,none⟩=some (.pointer (some ⟨sb,0,none⟩)):=cell_of_row _ _ 2 _ _ _ hxw
 clear hx c0 f0 hst hxw hfw hW h htag hok hmay
 go_enter_defers Tryz.func25,Tryz.ntmps25
 go_wp2_with fail
 refine (HLK.out).mono ?_
 rintro _ W1 ⟨rfl,hW1⟩
 have hW1:W1=W:=hW1.trans HW.out.symm
 rw [hW1]
 dsimp only
 clear hW1 HLK HW
 go_wp2_with fail
 refine (HIT.out).mono ?_
 rintro _ W2 ⟨rfl,hW2⟩
 rw [hW2]
 dsimp only
 clear hW2 HIT
 go_wp2_with fail
 refine (HMT.out).mono ?_
 rintro _ w3 ⟨rfl,hb3⟩
 dsimp only
 have c3:=cell_later hb3 c2
 have HX3:=hide (HXW.out.later hb3)
 have HF3:=hide (HFW.out.trans (SGo.of_below hb3))
 have HS3:=hide (HST.out.later hb3)
 clear hb3 HMT c2 c3
 go_wp2_with fail
 refine leaves_cons (f:=58) (args:=#[.pointer (some ⟨xb,0,none⟩)]) (by simp) (by simp [go_sem]) ?_
 refine (unlock_deferred Tryz.muLib ⟨xb,0,none⟩ .returning _ (cell_of_row _ _ 0 _ _ _ HX3.out) (frozen_of_row _ _ 0 _ _ HX3.out)).mono ?_
 rintro e u' w6 ⟨rfl,rfl,rfl⟩
 exact ⟨_,results_tmp2 rfl _ _ _,rfl,HF3.out.trans SGo.lock,HX3.out.set 0,HS3.out.lock HX3.out hG⟩
theorem bPub_any (xb sb:Nat) (s:PSt) (cb tb nc:Nat) (Dc:DataW Value) (l:List TE) (name b:ByteArray) (w:World) (hx:BSt w xb sb) (hG:¬ isG xb) (h:StW w sb s cb tb nc l.length Dc (tD l)) {L C B:Nat} (hok:∀ t∈l,t.Ok) (htag:isTagB name=true) (hmay:((findK TE.n name l).isSome || decide (l.length<8))=true) (hb300:b.size≤300) (hc300:∀ t,conR s.ds (dOfB b)=some t→t.size≤300) (hnc:nc≤100000000) (hrd:∀ t,rdD s.ds (cPath (dOfB b))=some t→t.size≤140737488351232) (hn:name.size≤20) (h8:l.length≤8) (h8':(insK TE.n ⟨name,dOfB b,0⟩ l).length≤8) (hf:DFit s.ds L C B) (hb:Bud (L+100) (C+100) (B+40000)) :
  Calls Tryz.prog 25 #[.pointer (some ⟨xb,0,none⟩),.string name,.string b] w fun e w'=>∃ k s',e = .returned (.tuple #[.string (if k=0 then dtx (dOfB b) else ⟨#[]⟩),.int .i64 k])∧SGo (sS xb sb cb) s s' w w'∧BSt w' xb sb∧WrZ s.ds (chF (kpF s.ds (dOfB b) b) l (puT s.ds (dOfB b) name b l)) k s'.ds ∧
   (k=0→∃ t2,w.heap.size≤t2∧StW w' sb s' cb t2 (nc+1) (puT s.ds (dOfB b) name b l).length (dPut Dc (dOfB b)) (tD (puT s.ds (dOfB b) name b l)))∧(k≠0→StW w' sb s' cb tb nc l.length Dc (tD l)):=by
 have hx:BLk w xb sb 0:=hx
 have c0:w.cell? ⟨xb,0,none⟩=some (.int .i32 0):=cell_of_row _ _ 0 _ _ _ hx
 have f0:w.frozen? ⟨xb,0,none⟩=false:=frozen_of_row _ _ 0 _ _ hx
 obtain ⟨W,hW⟩ : ∃ W,W=w.setCell ⟨xb,0,none⟩ (.int .i32 1):=⟨_,rfl⟩
 have hst:StW W sb s cb tb nc l.length Dc (tD l):=by rw [hW];exact h.lock hx hG
 have hxw:BLk W xb sb 1:=by rw [hW];exact hx.set 1
 have hfw:SGo (sS xb sb cb) s s w W:=by rw [hW];exact SGo.lock
 have HIT:=hide (ownTag_any name W (by omega))
 rw [htag] at HIT
 have HMT:=hide (mayTag_any sb s cb tb nc Dc l name W hst hok (by omega))
 rw [hmay] at HMT
 have d1:decide (300<(b.size:Int))=false:=decide_eq_false (by omega)
 have HPB:=hide (fun W' (hb':Below W.heap.size W W')=>pub_any sb s cb tb nc Dc l name b W' (hst.later hb') hb300 hc300 hnc hrd hok hn h8 h8' hf hb)
 have hds:=dOfB_len b
 have hlt:=dOfB_lt b
 generalize dOfB b=ds at *
 have HLK:=hide (lock_free Tryz.muLib ⟨xb,0,none⟩ w c0 f0)
 have HW:=hide hW
 have HST:=hide hst
 have HXW:=hide hxw
 have HFW:=hide hfw
 have c2:W.cell? ⟨xb,2,none⟩=some (.pointer (some ⟨sb,0,none⟩)):=cell_of_row _ _ 2 _ _ _ hxw
 clear hx c0 f0 hst hxw hfw hW h htag hok hmay hc300 hrd hf hb
 go_enter_defers Tryz.func25,Tryz.ntmps25
 go_wp2_with fail
 refine (HLK.out).mono ?_
 rintro _ W1 ⟨rfl,hW1⟩
 have hW1:W1=W:=hW1.trans HW.out.symm
 rw [hW1]
 dsimp only
 clear hW1 HLK HW
 go_wp2_with fail
 refine (HIT.out).mono ?_
 rintro _ W2 ⟨rfl,hW2⟩
 rw [hW2]
 dsimp only
 clear hW2 HIT
 go_wp2_with fail
 refine (HMT.out).mono ?_
 rintro _ w3 ⟨rfl,hb3⟩
 dsimp only
 have c3:=cell_later hb3 c2
 have HX3:=hide (HXW.out.later hb3)
 have HF3:=hide (HFW.out.trans (SGo.of_below hb3))
 have HS3:=hide (HST.out.later hb3)
 have HPB3:=hide (HPB.out _ hb3)
 clear hb3 HMT c2 HPB
 go_wp2_with fail
 refine (HPB3.out).mono ?_
 rintro _ w4 ⟨ev,k,s',rfl,hev,hft,hwr,h40,h41⟩
 dsimp only
 have hg4:Gl w4:=by
  by_cases hk:k=0
  ·obtain ⟨t2, -,h4⟩:=h40 hk
   exact h4.gl
  ·exact (h41 hk).gl
 have HKP:=hide (kept_any ds ev k w4 hev hg4 hds hlt)
 have HX4:=hide (HX3.out.sgo HS3.out hft (fun k hk=>hk))
 have HF4:=hide (HF3.out.trans (hft.st (xb:=xb) (fun k hk=>hk)))
 have HWR:=hide hwr
 have H40:=hide h40
 have H41:=hide h41
 clear hev hft hwr h40 h41 hg4 HPB3 c3
 go_wp2_with fail
 refine (HKP.out).mono ?_
 rintro _ w5 ⟨rfl,hb5⟩
 dsimp only
 have HX5:=hide (HX4.out.later hb5)
 have HF5:=hide (HF4.out.trans (SGo.of_below hb5))
 have HB5:=hide hb5
 generalize hT:(if k=0 then dtx ds else ⟨#[]⟩)=T
 have HT:=hide hT
 clear hT hb5 HKP HX4 HF4
 go_wp2_with fail
 refine leaves_cons (f:=58) (args:=#[.pointer (some ⟨xb,0,none⟩)]) (by simp) (by simp [go_sem]) ?_
 refine (unlock_deferred Tryz.muLib ⟨xb,0,none⟩ .returning _ (cell_of_row _ _ 0 _ _ _ HX5.out) (frozen_of_row _ _ 0 _ _ HX5.out)).mono ?_
 rintro e u' w6 ⟨rfl,rfl,rfl⟩
 exact ⟨_,results_tmp2 rfl _ _ _,k,s',by rw [HT.out];rfl,HF5.out.trans SGo.lock,HX5.out.set 0,HWR.out,fun hk=>by
  obtain ⟨t2,ht2,h4⟩:=H40.out hk
  exact ⟨t2,Nat.le_trans HF3.out.gr.size ht2,(h4.later HB5.out).lock HX5.out hG⟩,fun hk=>((H41.out hk).later HB5.out).lock HX5.out hG⟩
set_option maxHeartbeats 4000000
set_option maxRecDepth 100000
open Go.RowKit Go.MuLone
theorem bUntag_tag (xb sb:Nat) (s:PSt) (cb tb nc:Nat) (Dc:DataW Value) (l:List TE) (name:ByteArray) (w:World) (hx:BSt w xb sb) (hG:¬ isG xb) (h:StW w sb s cb tb nc l.length Dc (tD l)) (hn:name.size≤1000000) (htag:isTagB name=false) :
  Calls Tryz.prog 38 #[.pointer (some ⟨xb,0,none⟩),.string name] w fun e w'=>e = .returned (.int .i64 9)∧SGo (sS xb sb cb) s s w w'∧BSt w' xb sb∧StW w' sb s cb tb nc l.length Dc (tD l):=by
 have hx:BLk w xb sb 0:=hx
 have c0:w.cell? ⟨xb,0,none⟩=some (.int .i32 0):=cell_of_row _ _ 0 _ _ _ hx
 have f0:w.frozen? ⟨xb,0,none⟩=false:=frozen_of_row _ _ 0 _ _ hx
 obtain ⟨W,hW⟩ : ∃ W,W=w.setCell ⟨xb,0,none⟩ (.int .i32 1):=⟨_,rfl⟩
 have hst:StW W sb s cb tb nc l.length Dc (tD l):=by rw [hW];exact h.lock hx hG
 have hxw:BLk W xb sb 1:=by rw [hW];exact hx.set 1
 have hfw:SGo (sS xb sb cb) s s w W:=by rw [hW];exact SGo.lock
 have HIT:=hide (ownTag_any name W (by omega))
 rw [htag] at HIT
 have HLK:=hide (lock_free Tryz.muLib ⟨xb,0,none⟩ w c0 f0)
 have HW:=hide hW
 have HST:=hide hst
 have HXW:=hide hxw
 have HFW:=hide hfw
 have c2:W.cell? ⟨xb,2,none⟩=some (.pointer (some ⟨sb,0,none⟩)):=cell_of_row _ _ 2 _ _ _ hxw
 clear hx c0 f0 hst hxw hfw hW h htag
 go_enter_defers Tryz.func38,Tryz.ntmps38
 go_wp2_with fail
 refine (HLK.out).mono ?_
 rintro _ W1 ⟨rfl,hW1⟩
 have hW1:W1=W:=hW1.trans HW.out.symm
 rw [hW1]
 dsimp only
 clear hW1 HLK HW
 go_wp2_with fail
 refine (HIT.out).mono ?_
 rintro _ W2 ⟨rfl,hW2⟩
 rw [hW2]
 dsimp only
 clear hW2 HIT
 go_wp2_with fail
 refine leaves_cons (f:=58) (args:=#[.pointer (some ⟨xb,0,none⟩)]) (by simp) (by simp [go_sem]) ?_
 refine (unlock_deferred Tryz.muLib ⟨xb,0,none⟩ .returning _ (cell_of_row _ _ 0 _ _ _ HXW.out) (frozen_of_row _ _ 0 _ _ HXW.out)).mono ?_
 rintro e u' w6 ⟨rfl,rfl,rfl⟩
 exact ⟨_,results_tmp rfl _ _ _,rfl,HFW.out.trans SGo.lock,HXW.out.set 0,HST.out.lock HXW.out hG⟩
theorem bUntag_none (xb sb:Nat) (s:PSt) (cb tb nc:Nat) (Dc:DataW Value) (l:List TE) (name:ByteArray) (w:World) (hx:BSt w xb sb) (hG:¬ isG xb) (h:StW w sb s cb tb nc l.length Dc (tD l)) (hok:∀ t∈l,t.Ok) (hn:name.size≤1000000) (htag:isTagB name=true) (hmay:(findK TE.n name l).isSome=false) :
  Calls Tryz.prog 38 #[.pointer (some ⟨xb,0,none⟩),.string name] w fun e w'=>e = .returned (.int .i64 10)∧SGo (sS xb sb cb) s s w w'∧BSt w' xb sb∧StW w' sb s cb tb nc l.length Dc (tD l):=by
 have hx:BLk w xb sb 0:=hx
 have c0:w.cell? ⟨xb,0,none⟩=some (.int .i32 0):=cell_of_row _ _ 0 _ _ _ hx
 have f0:w.frozen? ⟨xb,0,none⟩=false:=frozen_of_row _ _ 0 _ _ hx
 obtain ⟨W,hW⟩ : ∃ W,W=w.setCell ⟨xb,0,none⟩ (.int .i32 1):=⟨_,rfl⟩
 have hst:StW W sb s cb tb nc l.length Dc (tD l):=by rw [hW];exact h.lock hx hG
 have hxw:BLk W xb sb 1:=by rw [hW];exact hx.set 1
 have hfw:SGo (sS xb sb cb) s s w W:=by rw [hW];exact SGo.lock
 have HIT:=hide (ownTag_any name W (by omega))
 rw [htag] at HIT
 have HMT:=hide (hasTag_any sb s cb tb nc Dc l name W hst hok (by omega))
 rw [hmay] at HMT
 have HLK:=hide (lock_free Tryz.muLib ⟨xb,0,none⟩ w c0 f0)
 have HW:=hide hW
 have HST:=hide hst
 have HXW:=hide hxw
 have HFW:=hide hfw
 have c2:W.cell? ⟨xb,2,none⟩=some (.pointer (some ⟨sb,0,none⟩)):=cell_of_row _ _ 2 _ _ _ hxw
 clear hx c0 f0 hst hxw hfw hW h htag hok hmay
 go_enter_defers Tryz.func38,Tryz.ntmps38
 go_wp2_with fail
 refine (HLK.out).mono ?_
 rintro _ W1 ⟨rfl,hW1⟩
 have hW1:W1=W:=hW1.trans HW.out.symm
 rw [hW1]
 dsimp only
 clear hW1 HLK HW
 go_wp2_with fail
 refine (HIT.out).mono ?_
 rintro _ W2 ⟨rfl,hW2⟩
 rw [hW2]
 dsimp only
 clear hW2 HIT
 go_wp2_with fail
 refine (HMT.out).mono ?_
 rintro _ w3 ⟨rfl,hb3⟩
 dsimp only
 have c3:=cell_later hb3 c2
 have HX3:=hide (HXW.out.later hb3)
 have HF3:=hide (HFW.out.trans (SGo.of_below hb3))
 have HS3:=hide (HST.out.later hb3)
 clear hb3 HMT c2 c3
 go_wp2_with fail
 refine leaves_cons (f:=58) (args:=#[.pointer (some ⟨xb,0,none⟩)]) (by simp) (by simp [go_sem]) ?_
 refine (unlock_deferred Tryz.muLib ⟨xb,0,none⟩ .returning _ (cell_of_row _ _ 0 _ _ _ HX3.out) (frozen_of_row _ _ 0 _ _ HX3.out)).mono ?_
 rintro e u' w6 ⟨rfl,rfl,rfl⟩
 exact ⟨_,results_tmp rfl _ _ _,rfl,HF3.out.trans SGo.lock,HX3.out.set 0,HS3.out.lock HX3.out hG⟩
theorem bUntag_any (xb sb:Nat) (s:PSt) (cb tb nc:Nat) (Dc:DataW Value) (l:List TE) (name:ByteArray) (w:World) (hx:BSt w xb sb) (hG:¬ isG xb) (h:StW w sb s cb tb nc l.length Dc (tD l)) {L C B:Nat} (hok:∀ t∈l,t.Ok) (hn:name.size≤1000000) (htag:isTagB name=true) (hmay:(findK TE.n name l).isSome=true) (h8:l.length≤8) (hf:DFit s.ds L C B) (hb:Bud (L+100) (C+100) (B+40000)) :
  Calls Tryz.prog 38 #[.pointer (some ⟨xb,0,none⟩),.string name] w fun e w'=>∃ k s',e = .returned (.int .i64 k)∧SGo (sS xb sb cb) s s' w w'∧BSt w' xb sb∧WrZ s.ds (chF [] l (delK TE.n name l)) k s'.ds ∧
   (k=0→∃ t2,w.heap.size≤t2∧StW w' sb s' cb t2 nc (delK TE.n name l).length Dc (tD (delK TE.n name l)))∧(k≠0→StW w' sb s' cb tb nc l.length Dc (tD l)):=by
 have hx:BLk w xb sb 0:=hx
 have c0:w.cell? ⟨xb,0,none⟩=some (.int .i32 0):=cell_of_row _ _ 0 _ _ _ hx
 have f0:w.frozen? ⟨xb,0,none⟩=false:=frozen_of_row _ _ 0 _ _ hx
 obtain ⟨W,hW⟩ : ∃ W,W=w.setCell ⟨xb,0,none⟩ (.int .i32 1):=⟨_,rfl⟩
 have hst:StW W sb s cb tb nc l.length Dc (tD l):=by rw [hW];exact h.lock hx hG
 have hxw:BLk W xb sb 1:=by rw [hW];exact hx.set 1
 have hfw:SGo (sS xb sb cb) s s w W:=by rw [hW];exact SGo.lock
 have HIT:=hide (ownTag_any name W (by omega))
 rw [htag] at HIT
 have HMT:=hide (hasTag_any sb s cb tb nc Dc l name W hst hok (by omega))
 rw [hmay] at HMT
 have HPB:=hide (fun W' (hb':Below W.heap.size W W')=>untag_any sb s cb tb nc Dc l name W' (hst.later hb') hok h8 hn hf hb)
 have HLK:=hide (lock_free Tryz.muLib ⟨xb,0,none⟩ w c0 f0)
 have HW:=hide hW
 have HST:=hide hst
 have HXW:=hide hxw
 have HFW:=hide hfw
 have c2:W.cell? ⟨xb,2,none⟩=some (.pointer (some ⟨sb,0,none⟩)):=cell_of_row _ _ 2 _ _ _ hxw
 clear hx c0 f0 hst hxw hfw hW h htag hok hmay hf hb
 go_enter_defers Tryz.func38,Tryz.ntmps38
 go_wp2_with fail
 refine (HLK.out).mono ?_
 rintro _ W1 ⟨rfl,hW1⟩
 have hW1:W1=W:=hW1.trans HW.out.symm
 rw [hW1]
 dsimp only
 clear hW1 HLK HW
 go_wp2_with fail
 refine (HIT.out).mono ?_
 rintro _ W2 ⟨rfl,hW2⟩
 rw [hW2]
 dsimp only
 clear hW2 HIT
 go_wp2_with fail
 refine (HMT.out).mono ?_
 rintro _ w3 ⟨rfl,hb3⟩
 dsimp only
 have c3:=cell_later hb3 c2
 have HX3:=hide (HXW.out.later hb3)
 have HF3:=hide (HFW.out.trans (SGo.of_below hb3))
 have HS3:=hide (HST.out.later hb3)
 have HPB3:=hide (HPB.out _ hb3)
 clear hb3 HMT c2 HPB
 go_wp2_with fail
 refine (HPB3.out).mono ?_
 rintro _ w4 ⟨ev,k,s',rfl,hev,hft,hwr,h40,h41⟩
 dsimp only
 have hg4:Gl w4:=by
  by_cases hk:k=0
  ·obtain ⟨t2, -,h4⟩:=h40 hk
   exact h4.gl
  ·exact (h41 hk).gl
 have HKP:=hide (errno_ev hev hg4.err)
 have HX4:=hide (HX3.out.sgo HS3.out hft (fun k hk=>.inl hk))
 have HF4:=hide (HF3.out.trans (hft.st (xb:=xb) (cb:=cb) (fun k hk=>.inl hk)))
 have HWR:=hide hwr
 have H40:=hide h40
 have H41:=hide h41
 clear hev hft hwr h40 h41 hg4 HPB3 c3
 go_wp2_with fail
 refine (HKP.out).mono ?_
 rintro _ w5 ⟨rfl,hb5⟩
 dsimp only
 have HX5:=hide (HX4.out.later hb5)
 have HF5:=hide (HF4.out.trans (SGo.of_below hb5))
 have HB5:=hide hb5
 clear hb5 HKP HX4 HF4
 go_wp2_with fail
 refine leaves_cons (f:=58) (args:=#[.pointer (some ⟨xb,0,none⟩)]) (by simp) (by simp [go_sem]) ?_
 refine (unlock_deferred Tryz.muLib ⟨xb,0,none⟩ .returning _ (cell_of_row _ _ 0 _ _ _ HX5.out) (frozen_of_row _ _ 0 _ _ HX5.out)).mono ?_
 rintro e u' w6 ⟨rfl,rfl,rfl⟩
 exact ⟨_,results_tmp rfl _ _ _,k,s',rfl,HF5.out.trans SGo.lock,HX5.out.set 0,HWR.out,fun hk=>by
  obtain ⟨t2,ht2,h4⟩:=H40.out hk
  exact ⟨t2,Nat.le_trans HF3.out.gr.size ht2,(h4.later HB5.out).lock HX5.out hG⟩,fun hk=>((H41.out hk).later HB5.out).lock HX5.out hG⟩
set_option maxHeartbeats 4000000
set_option maxRecDepth 100000
open Go.RowKit Go.MuLone
theorem bTag_tag (xb sb:Nat) (s:PSt) (cb tb nc:Nat) (Dc:DataW Value) (l:List TE) (name text:ByteArray) (w:World) (hx:BSt w xb sb) (hG:¬ isG xb) (h:StW w sb s cb tb nc l.length Dc (tD l)) (hn:name.size≤1000000) (htag:isTagB name=false) :
  Calls Tryz.prog 36 #[.pointer (some ⟨xb,0,none⟩),.string name,.string text] w fun e w'=>e = .returned (.int .i64 9)∧SGo (sS xb sb cb) s s w w'∧BSt w' xb sb∧StW w' sb s cb tb nc l.length Dc (tD l):=by
 have hx:BLk w xb sb 0:=hx
 have c0:w.cell? ⟨xb,0,none⟩=some (.int .i32 0):=cell_of_row _ _ 0 _ _ _ hx
 have f0:w.frozen? ⟨xb,0,none⟩=false:=frozen_of_row _ _ 0 _ _ hx
 obtain ⟨W,hW⟩ : ∃ W,W=w.setCell ⟨xb,0,none⟩ (.int .i32 1):=⟨_,rfl⟩
 have hst:StW W sb s cb tb nc l.length Dc (tD l):=by rw [hW];exact h.lock hx hG
 have hxw:BLk W xb sb 1:=by rw [hW];exact hx.set 1
 have hfw:SGo (sS xb sb cb) s s w W:=by rw [hW];exact SGo.lock
 have HIT:=hide (ownTag_any name W (by omega))
 rw [htag] at HIT
 have HLK:=hide (lock_free Tryz.muLib ⟨xb,0,none⟩ w c0 f0)
 have HW:=hide hW
 have HST:=hide hst
 have HXW:=hide hxw
 have HFW:=hide hfw
 have c2:W.cell? ⟨xb,2,none⟩=some (.pointer (some ⟨sb,0,none⟩)):=cell_of_row _ _ 2 _ _ _ hxw
 clear hx c0 f0 hst hxw hfw hW h htag
 go_enter_defers Tryz.func36,Tryz.ntmps36
 go_wp2_with fail
 refine (HLK.out).mono ?_
 rintro _ W1 ⟨rfl,hW1⟩
 have hW1:W1=W:=hW1.trans HW.out.symm
 rw [hW1]
 dsimp only
 clear hW1 HLK HW
 go_wp2_with fail
 refine (HIT.out).mono ?_
 rintro _ W2 ⟨rfl,hW2⟩
 rw [hW2]
 dsimp only
 clear hW2 HIT
 go_wp2_with fail
 refine leaves_cons (f:=58) (args:=#[.pointer (some ⟨xb,0,none⟩)]) (by simp) (by simp [go_sem]) ?_
 refine (unlock_deferred Tryz.muLib ⟨xb,0,none⟩ .returning _ (cell_of_row _ _ 0 _ _ _ HXW.out) (frozen_of_row _ _ 0 _ _ HXW.out)).mono ?_
 rintro e u' w6 ⟨rfl,rfl,rfl⟩
 exact ⟨_,results_tmp rfl _ _ _,rfl,HFW.out.trans SGo.lock,HXW.out.set 0,HST.out.lock HXW.out hG⟩
theorem bTag_none (xb sb:Nat) (s:PSt) (cb tb nc:Nat) (Dc:DataW Value) (l:List TE) (name text:ByteArray) (w:World) (hx:BSt w xb sb) (hG:¬ isG xb) (h:StW w sb s cb tb nc l.length Dc (tD l)) (hn:name.size≤1000000) (htag:isTagB name=true) (hu:UnitC Dc) (hdig:isDigB text=true) (hh:Maps.has Dc (dKey (rd text))=false) :
  Calls Tryz.prog 36 #[.pointer (some ⟨xb,0,none⟩),.string name,.string text] w fun e w'=>e = .returned (.int .i64 10)∧SGo (sS xb sb cb) s s w w'∧BSt w' xb sb∧StW w' sb s cb tb nc l.length Dc (tD l):=by
 have hx:BLk w xb sb 0:=hx
 have c0:w.cell? ⟨xb,0,none⟩=some (.int .i32 0):=cell_of_row _ _ 0 _ _ _ hx
 have f0:w.frozen? ⟨xb,0,none⟩=false:=frozen_of_row _ _ 0 _ _ hx
 obtain ⟨W,hW⟩ : ∃ W,W=w.setCell ⟨xb,0,none⟩ (.int .i32 1):=⟨_,rfl⟩
 have hst:StW W sb s cb tb nc l.length Dc (tD l):=by rw [hW];exact h.lock hx hG
 have hxw:BLk W xb sb 1:=by rw [hW];exact hx.set 1
 have hfw:SGo (sS xb sb cb) s s w W:=by rw [hW];exact SGo.lock
 have HIT:=hide (ownTag_any name W (by omega))
 rw [htag] at HIT
 have HFD:=hide (find_none xb sb s cb tb nc l.length Dc (tD l) text 1 W hxw hst hu hdig hh)
 have HLK:=hide (lock_free Tryz.muLib ⟨xb,0,none⟩ w c0 f0)
 have HW:=hide hW
 have HST:=hide hst
 have HXW:=hide hxw
 have HFW:=hide hfw
 have c2:W.cell? ⟨xb,2,none⟩=some (.pointer (some ⟨sb,0,none⟩)):=cell_of_row _ _ 2 _ _ _ hxw
 clear hx c0 f0 hst hxw hfw hW h htag hu hdig hh
 go_enter_defers Tryz.func36,Tryz.ntmps36
 go_wp2_with fail
 refine (HLK.out).mono ?_
 rintro _ W1 ⟨rfl,hW1⟩
 have hW1:W1=W:=hW1.trans HW.out.symm
 rw [hW1]
 dsimp only
 clear hW1 HLK HW
 go_wp2_with fail
 refine (HIT.out).mono ?_
 rintro _ W2 ⟨rfl,hW2⟩
 rw [hW2]
 dsimp only
 clear hW2 HIT
 go_wp2_with fail
 refine (HFD.out).mono ?_
 rintro _ w3 ⟨rfl,hb3⟩
 dsimp only
 obtain ⟨X,hX⟩ : ∃ X,X=w3.alloc (.cells (cells8 (Sha.zeros 32)) 117):=⟨_,rfl⟩
 have hbX:Below w3.heap.size w3 X:=by rw [hX];exact (Below.refl _ _).alloc (Nat.le_refl _) _
 have hXr:X.heap[w3.heap.size]? = some (.cells (cells8 (Sha.zeros 32)) 117 (0,0)):=by rw [hX];exact heap_alloc_new _ _
 have hb4:Below W.heap.size W X:=hb3.trans (hbX.mono hb3.size)
 have c3:=cell_later hb4 c2
 have HX3:=hide (HXW.out.later hb4)
 have HF3:=hide (HFW.out.trans (SGo.of_below hb4))
 have HS3:=hide (HST.out.later hb4)
 have HXR:=hide hXr
 have HXX:=hide hX
 have HW3:=hide hb3.size
 clear hX hbX hXr hb3
 go_wp2_with (first|(refine wpList_store_row rfl 117 _ _ rfl w3.heap.size (cells8 (Sha.zeros 32)) rfl rfl 117 _ (heap_alloc_new _ _) (size40 _ (Sha.zeros_len _)) (by first|rfl|(rw [cells8_size,(Sha.zeros_len _)];rfl)|(rw [cells8_size,cells8_size,(Sha.zeros_len _)];rfl)) (cells8_one _) ?_;rw [World.setRow_alloc_new,← HXX.out])|(refine wpList_load_row rfl 117 _ rfl w3.heap.size rfl 117 _ _ _ HXR.out Tryz.underlying117 rfl (size40 _ (Sha.zeros_len _)) ?_))
 refine leaves_cons (f:=58) (args:=#[.pointer (some ⟨xb,0,none⟩)]) (by simp) (by simp [go_sem]) ?_
 refine (unlock_deferred Tryz.muLib ⟨xb,0,none⟩ .returning _ (cell_of_row _ _ 0 _ _ _ HX3.out) (frozen_of_row _ _ 0 _ _ HX3.out)).mono ?_
 rintro e u' w6 ⟨rfl,rfl,rfl⟩
 exact ⟨_,results_tmp rfl _ _ _,rfl,HF3.out.trans SGo.lock,HX3.out.set 0,HS3.out.lock HX3.out hG⟩
theorem bDel_none (xb sb:Nat) (s:PSt) (cb tb nc:Nat) (Dc:DataW Value) (l:List TE) (text:ByteArray) (w:World) (hx:BSt w xb sb) (hG:¬ isG xb) (h:StW w sb s cb tb nc l.length Dc (tD l)) (hu:UnitC Dc) (hdig:isDigB text=true) (hh:Maps.has Dc (dKey (rd text))=false) :
  Calls Tryz.prog 39 #[.pointer (some ⟨xb,0,none⟩),.string text] w fun e w'=>e = .returned (.int .i64 10)∧SGo (sS xb sb cb) s s w w'∧BSt w' xb sb∧StW w' sb s cb tb nc l.length Dc (tD l):=by
 have hx:BLk w xb sb 0:=hx
 have c0:w.cell? ⟨xb,0,none⟩=some (.int .i32 0):=cell_of_row _ _ 0 _ _ _ hx
 have f0:w.frozen? ⟨xb,0,none⟩=false:=frozen_of_row _ _ 0 _ _ hx
 obtain ⟨W,hW⟩ : ∃ W,W=w.setCell ⟨xb,0,none⟩ (.int .i32 1):=⟨_,rfl⟩
 have hst:StW W sb s cb tb nc l.length Dc (tD l):=by rw [hW];exact h.lock hx hG
 have hxw:BLk W xb sb 1:=by rw [hW];exact hx.set 1
 have hfw:SGo (sS xb sb cb) s s w W:=by rw [hW];exact SGo.lock
 have HFD:=hide (find_none xb sb s cb tb nc l.length Dc (tD l) text 1 W hxw hst hu hdig hh)
 have HLK:=hide (lock_free Tryz.muLib ⟨xb,0,none⟩ w c0 f0)
 have HW:=hide hW
 have HST:=hide hst
 have HXW:=hide hxw
 have HFW:=hide hfw
 have c2:W.cell? ⟨xb,2,none⟩=some (.pointer (some ⟨sb,0,none⟩)):=cell_of_row _ _ 2 _ _ _ hxw
 clear hx c0 f0 hst hxw hfw hW h hu hdig hh
 go_enter_defers Tryz.func39,Tryz.ntmps39
 go_wp2_with fail
 refine (HLK.out).mono ?_
 rintro _ W1 ⟨rfl,hW1⟩
 have hW1:W1=W:=hW1.trans HW.out.symm
 rw [hW1]
 dsimp only
 clear hW1 HLK HW
 go_wp2_with fail
 refine (HFD.out).mono ?_
 rintro _ w3 ⟨rfl,hb3⟩
 dsimp only
 obtain ⟨X,hX⟩ : ∃ X,X=w3.alloc (.cells (cells8 (Sha.zeros 32)) 117):=⟨_,rfl⟩
 have hbX:Below w3.heap.size w3 X:=by rw [hX];exact (Below.refl _ _).alloc (Nat.le_refl _) _
 have hXr:X.heap[w3.heap.size]? = some (.cells (cells8 (Sha.zeros 32)) 117 (0,0)):=by rw [hX];exact heap_alloc_new _ _
 have hb4:Below W.heap.size W X:=hb3.trans (hbX.mono hb3.size)
 have c3:=cell_later hb4 c2
 have HX3:=hide (HXW.out.later hb4)
 have HF3:=hide (HFW.out.trans (SGo.of_below hb4))
 have HS3:=hide (HST.out.later hb4)
 have HXR:=hide hXr
 have HXX:=hide hX
 have HW3:=hide hb3.size
 clear hX hbX hXr hb3
 go_wp2_with (first|(refine wpList_store_row rfl 117 _ _ rfl w3.heap.size (cells8 (Sha.zeros 32)) rfl rfl 117 _ (heap_alloc_new _ _) (size40 _ (Sha.zeros_len _)) (by first|rfl|(rw [cells8_size,(Sha.zeros_len _)];rfl)|(rw [cells8_size,cells8_size,(Sha.zeros_len _)];rfl)) (cells8_one _) ?_;rw [World.setRow_alloc_new,← HXX.out])|(refine wpList_load_row rfl 117 _ rfl w3.heap.size rfl 117 _ _ _ HXR.out Tryz.underlying117 rfl (size40 _ (Sha.zeros_len _)) ?_))
 refine leaves_cons (f:=58) (args:=#[.pointer (some ⟨xb,0,none⟩)]) (by simp) (by simp [go_sem]) ?_
 refine (unlock_deferred Tryz.muLib ⟨xb,0,none⟩ .returning _ (cell_of_row _ _ 0 _ _ _ HX3.out) (frozen_of_row _ _ 0 _ _ HX3.out)).mono ?_
 rintro e u' w6 ⟨rfl,rfl,rfl⟩
 exact ⟨_,results_tmp rfl _ _ _,rfl,HF3.out.trans SGo.lock,HX3.out.set 0,HS3.out.lock HX3.out hG⟩
end Go.Proofs.YtncigfibncmioaaGreatDoor
