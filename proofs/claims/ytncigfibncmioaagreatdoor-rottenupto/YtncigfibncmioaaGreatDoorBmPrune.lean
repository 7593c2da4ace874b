/-
  PROVED HERE: endPruning of package store.
-/
import Derived.Test.YtncigfibncmioaaGreatDoorBmUntag
import Derived.Test.YtncigfibncmioaaGreatDoorSmUntd
import Derived.Test.YtncigfibncmioaaGreatDoorErHeld
import Derived.Test.YtncigfibncmioaaGreatDoorErPub
namespace Go.Proofs.YtncigfibncmioaaGreatDoor
set_option maxHeartbeats 4000000
set_option maxRecDepth 100000
open Go.RowKit
def delsD (Dc:DataW Value) (ul:List DV):DataW Value:=ul.foldl (fun D d=>D.del (dKey d.1)) Dc
theorem delsD_snoc (Dc:DataW Value) (ul:List DV) (d:DV):delsD Dc (ul ++ [d]) = (delsD Dc ul).del (dKey d.1):=by simp [delsD,List.foldl_append]
def rmC (ul:List DV):List Stp:=ul.map fun d=>sRm (cPath d.1)
def epS (ul:List DV):List Stp:=rmC ul ++ [sRn pruningP journalP,sSd]
theorem rmC_sz (ul:List DV) (j:Nat):szs ((rmC ul).take j) = 0:=by
 have:=szs_le (M:=0) ((rmC ul).take j) (fun t ht=>by
  obtain ⟨d,_,rfl⟩:=List.mem_map.1 (List.mem_of_mem_take ht)
  exact Nat.le_refl _)
 omega
theorem rmC_take (ul:List DV) (j:Nat) (hj:j < ul.length):(rmC ul).take (j + 1) = (rmC ul).take j ++ [sRm (cPath (ul[j]'hj).1)]:=by
 unfold rmC
 rw [List.take_add_one,List.getElem?_map,List.getElem?_eq_getElem hj]
 rfl
theorem ran_stop {D D1 D':DS} {ul:List DV} {j:Nat} {k:Int} (hr:Ran D ((rmC ul).take j) 0 j D1) (hj:j < ul.length) (hs:stR D1 (sRm (cPath (ul[j]'hj).1)) k D') (hk:k ≠ 0):Ran D (epS ul) k j D':=by
 have h1:=Ran.one hs
 rw [if_neg hk] at h1
 have h2:=hr.app h1
 rw [Nat.add_zero,← rmC_take ul j hj] at h2
 have h3:=h2.stop ((rmC ul).drop (j + 1) ++ [sRn pruningP journalP,sSd]) hk
 rw [← List.append_assoc,List.take_append_drop] at h3
 exact h3
theorem endPrune_any (sb:Nat) (s:PSt) (cb tb nc nt:Nat) (Dc Dt:DataW Value) (B0:Nat) (so:Option Addr) (sc:Nat) (ul:List DV) (w:World) {L C B:Nat} (h:StW w sb s cb tb nc nt Dc Dt) (hown:∀ k,(Value.slice so ul.length sc).ownBlock = some k → ¬ (s.own k ∨ k = cb)) (hrow:w.ownsRow B0 117 32 (.slice so ul.length sc) ul.length (ul.flatMap DV.enc)) (hsz:ul.length ≤ 100000000) (hf:DFit s.ds L C B) (hb:Bud (L + ul.length + 10) (C + ul.length + 10) B) :
  Calls Tryz.prog 121 #[.pointer (some ⟨sb,0,none⟩),.slice so ul.length sc] w fun e w'=>∃ ev k s' m,e = .returned ev ∧ ErrV w' ev k ∧ SGo (fun k=>k = cb) s s' w w' ∧ Ran s.ds (epS ul) k m s'.ds ∧ StW w' sb s' cb tb nc nt (delsD Dc (ul.take m)) Dt:=by
 have H:=hide h
 have HOWN:=hide hown
 have HROW:=hide hrow
 have HF:=hide hf
 have HBU:=hide hb
 have hgt:0 < ul.length → ∃ g,so = some ⟨g,0,none⟩:=fun hp=>by
  obtain ⟨_,⟨h1,h2⟩ | ⟨g,cap,cur,h1,_⟩⟩:=hrow
  ·omega
  ·injection h1 with h1
   exact ⟨g,h1⟩
 have HGT:=hide hgt
 have hz71:=(zero_of_info Tryz.info117).1
 clear h hown hrow hf hb hgt
 go_enter Tryz.func121,Tryz.ntmps121
 go_wp2_with fail
 go_loopw [11] (fun iv wr=>∃ (j:Nat) (s1:PSt),j ≤ ul.length ∧ iv = .int .i64 ((j:Nat):Int) ∧ SGo (fun k=>k = cb) s s1 w wr ∧ Ran s.ds ((rmC ul).take j) 0 j s1.ds ∧ StW wr sb s1 cb tb nc nt (delsD Dc (ul.take j)) Dt) (fun iv _=>ul.length - (intOf iv).toNat)
 case atStart=>exact ⟨0,s,Nat.zero_le _,rfl,SGo.of_below (Below.refl _ _),⟨rfl,rfl,rfl⟩,H.out⟩
 case round =>
  obtain ⟨j,s1,hj,rfl,hgo,hr,hst⟩:=hrel
  have HGO:=hide hgo
  have HR:=hide hr
  have HST:=hide hst
  have HF1:=hide (((HF.out.ran hr).mono (L':=L + ul.length) (C':=C + ul.length) (B':=B) (by rw [List.length_take];omega) (by rw [List.length_take];omega) (by rw [rmC_sz];omega)))
  have hrow1:wr.ownsRow B0 117 32 (.slice so ul.length sc) ul.length (ul.flatMap DV.enc):=own_same HROW.out (fun k hk _=>by
   obtain ⟨c,hc⟩:=own_obj HROW.out k hk
   exact hgo.gr.block k (lt_heap hc) (HOWN.out k hk))
  have HROW1:=hide hrow1
  clear hgo hr hst hrow1
  by_cases hlt:j < ul.length
  ·obtain ⟨g,hg⟩:=HGT.out (by omega)
   subst hg
   have hrr:=rowD_at HROW1.out hlt
   obtain ⟨d,hd⟩ : ∃ d,d = (ul[j]'hlt):=⟨_,rfl⟩
   rw [← hd] at hrr
   have HRR:=hide hrr
   have HD:=hide hd
   have hds:=d.2.1
   have hltd:=d.2.2
   have d1:decide (((j:Nat):Int) < ((ul.length:Nat):Int)) = true:=decide_eq_true (by omega)
   obtain ⟨W,hW⟩ : ∃ W,W = wr.alloc (.cells (cells8 d.1) 117):=⟨_,rfl⟩
   have hbo:Below wr.heap.size wr W:=by rw [hW];exact (Below.refl _ _).alloc (Nat.le_refl _) _
   have hrow:W.heap[wr.heap.size]? = some (.cells (cells8 d.1) 117 (0,0)):=by rw [hW];exact heap_alloc_new _ _
   have hon:=(HST.out.later hbo).on
   have HCP:=hide (contentPath_any d.1 W.drew hds hltd)
   have HRM:=hide (fun (w':World) (hb':Below W.heap.size W w')=>dkRemove s1 (cPath d.1) w' (hon.inn.later hb') HF1.out (HBU.out.mono (by omega) (by omega) (Nat.le_refl _)) (Nat.le_trans (cPath_size d.1) (by decide)))
   have HON:=hide hon
   have HSTW:=hide (HST.out.later hbo)
   have HW:=hide hW
   have HBO:=hide hbo
   have HRW:=hide hrow
   have HN:=hide (fun (k:Nat) (hk:s1.own k)=>HST.out.inn.lt hk)
   clear hrr hd hW hbo hrow hon
   go_wp2_with (first | (refine wpList_load_mid rfl 117 _ rfl g (j * 32) rfl (cells8 d.1).toList _ HRR.out Tryz.underlying117 rfl (size72 d.1 hds) ?_) | (refine wpList_store_row rfl 117 _ _ rfl wr.heap.size _ rfl rfl 117 _ (heap_alloc_new _ _) (size40 _ hds) (by rw [cells8_size,cells8_size,hds];rfl) (cells8_one _) ?_;rw [World.setRow_alloc_new,← HW.out]))
   obtain ⟨xb,hxb⟩ : ∃ xb,xb = wr.heap.size:=⟨_,rfl⟩
   rw [← hxb] at HRW HN ⊢
   have HXB:=hide hxb
   clear hxb
   have hS0:=con_s (HON.out.later (Below.refl W.heap.size W).drew) ((((Below.refl W.heap.size W).drew).block _ (lt_heap HRW.out)).trans HRW.out)
   have u72:=Tryz.underlying117
   have i72:=size72 d.1 hds
   go_region_held3 (fun w'=>w'.cell? ⟨sb,0,none⟩ = some (.pointer (some ⟨s1.b,0,none⟩)) ∧ w'.rangeAt xb 0 (cells8 d.1).toList) (first | exact hS3 | exact hS2 | exact hS0 | go_keep) ((first | (go_at_call 107;refine (HCP.out).mono ?_;rintro _ w1 ⟨rfl,hb1⟩;have hb3:Below W.heap.size W w1:=((Below.refl W.heap.size W).drew).trans hb1;have hr2:=(hb3.block _ (lt_heap HRW.out)).trans HRW.out;have hS2:=con_s (HON.out.later hb3) hr2) | (go_at_call 117;refine (HRM.out _ hb3).mono ?_;rintro _ w2 ⟨v,k,s2,rfl,hv,hg,hst⟩;have hr3:=(hg.gr.block _ (lt_heap hr2) (fun e=>by have:=HN.out _ e;omega)).trans hr2;have hS3:=(show w2.cell? ⟨sb,0,none⟩ = some (.pointer (some ⟨s1.b,0,none⟩)) ∧ w2.rangeAt xb 0 (cells8 d.1).toList by rw [← hg.b];exact con_s ((HON.out.later hb3).go hg) hr3))))
   have HSW:=hide ((HSTW.out.later hb3).go hg)
   have HG2:=hide (HGO.out.trans (((SGo.of_below HBO.out).trans (SGo.of_below hb3)).trans (SGo.of_go (S:=fun k=>k = cb) hg)))
   have HR3:=hide hr3
   have hstr:stR s1.ds (sRm (cPath (ul[j]'hlt).1)) k s2.ds:=by rw [← HD.out];exact hst
   have HSR:=hide hstr
   clear hst hstr HRM hS0 hS2 hS3 hr2 hr3 hb1 hb3 HCP u72 i72 hg
   rcases hv with ⟨h0,rfl⟩ | ⟨h0,sv,nm,rfl,hse⟩
   ·have hdr:Below w2.heap.size w2 w2.drew:=(Below.refl _ _).drew
    have h6:=HSW.out.later hdr
    have hr6:=(hdr.block _ (lt_heap HR3.out)).trans HR3.out
    have hS0:w2.drew.cell? ⟨sb,1,none⟩ = some (.map (some cb)) ∧ w2.drew.rangeAt xb 0 (cells8 d.1).toList:=⟨cell_of_row _ _ 1 _ _ _ h6.blk,con_r hr6⟩
    obtain ⟨w6,hrun,hm6,ht6⟩:=World.ownsMap.drop h6.cm dig_keyed Tryz.underlying156 (key_dig d.1 hds hltd) 0
    have hg6:=ht6.grown
    have hS6:w6.cell? ⟨sb,1,none⟩ = some (.map (some cb)) ∧ w6.rangeAt xb 0 (cells8 d.1).toList:=⟨cell_of_row _ _ 1 _ _ _ (h6.putC hg6 hm6).blk,con_r ((hg6.block _ (lt_heap hr6) (fun e=>by
     injection e with e
     obtain ⟨es,clock,h1,_⟩:=h6.cm
     rw [← e,hr6] at h1
     cases h1)).trans hr6)⟩
    have H7:=hide (h6.putC hg6 hm6)
    have HG7:=hide (HG2.out.trans ((SGo.of_below hdr).trans (SGo.of_grown hg6 (fun r e=>by injection e with e;exact e.symm))))
    have u72:=Tryz.underlying117
    have i72:=size72 d.1 hds
    have HK0:=hide h0
    clear h6 hm6 hg6 ht6 hdr h0
    go_wp2_with fail
    go_region_held3 (fun w'=>w'.cell? ⟨sb,1,none⟩ = some (.map (some cb)) ∧ w'.rangeAt xb 0 (cells8 d.1).toList) (first | exact hS0 | exact hS6 | go_keep) (fail)
    clear hrun u72 i72 hS0 hS6 hr6
    go_wp2_with fail
    refine ⟨⟨j + 1,s2,hlt,by simp,HG7.out,?_,?_⟩,by simp only [intOf];omega⟩
    ·rw [rmC_take ul j hlt]
     have h1:=Ran.one HSR.out
     rw [HK0.out,if_pos rfl] at h1
     exact HR.out.app h1
    ·have:ul.take (j + 1) = ul.take j ++ [d]:=by
      rw [List.take_add_one,List.getElem?_eq_getElem hlt,HD.out]
      rfl
     rw [this,delsD_snoc]
     exact H7.out
   ·have HSE:=hide hse
    clear hse
    go_wp2_with fail
    go_ret
    exact ⟨_,k,s2,j,rfl,.inr ⟨h0,sv,nm,rfl,HSE.out⟩,HG2.out,ran_stop HR.out hlt HSR.out h0,HSW.out⟩
  ·have d1:decide (((j:Nat):Int) < ((ul.length:Nat):Int)) = false:=decide_eq_false (by omega)
   have hjn:j = ul.length:=by omega
   subst hjn
   have c0:=cell_of_row _ _ 0 _ _ _ HST.out.blk
   have HRN:=hide (dkRename s1 pruningP journalP wr HST.out.inn HF1.out (HBU.out.mono (by omega) (by omega) (Nat.le_refl _)) (by decide) (by decide))
   have hrall:Ran s.ds (rmC ul) 0 ul.length s1.ds:=by
    have:=HR.out
    rwa [List.take_of_length_le (by simp [rmC])] at this
   have HRA:=hide hrall
   have hst0:StW wr sb s1 cb tb nc nt (delsD Dc ul) Dt:=by
    have:=HST.out
    rwa [List.take_length] at this
   have HST0:=hide hst0
   clear hrall hst0 HST HR
   go_wp2_with fail
   refine (HRN.out).mono ?_
   rintro _ w2 ⟨v,k,s2,rfl,hv,hg,hst⟩
   dsimp only
   have HS2:=hide (HST0.out.go hg)
   have HG2:=hide (HGO.out.trans (SGo.of_go (S:=fun k=>k = cb) hg))
   have hstr:stR s1.ds (sRn pruningP journalP) k s2.ds:=hst
   have HSR:=hide hstr
   have HF2:=hide (HF1.out.st hstr)
   have hb2:=hg.b
   have HTN:=hide (show ∀ m,ul.length ≤ m → ul.take m = ul from fun m hm=>List.take_of_length_le hm)
   clear hg hst hstr HRN c0
   rcases hv with ⟨h0,rfl⟩ | ⟨h0,sv,nm,rfl,hse⟩
   ·have c2:=cell_of_row _ _ 0 _ _ _ HS2.out.blk
    have HSD:=hide (dkSyncDir s2 w2 HS2.out.inn HF2.out (HBU.out.mono (by omega) (by omega) (by show B + 0 ≤ B;omega)))
    have HK0:=hide h0
    clear h0
    go_wp2_with fail
    first | (refine (HSD.out).mono ?_) | (rw [hb2] at HSD;refine (HSD.out).mono ?_)
    rintro _ w8 ⟨v8,k8,s8,rfl,hv8,hg8,hst8⟩
    dsimp only
    have H8:=hide (HS2.out.go hg8)
    have HG8:=hide (HG2.out.trans (SGo.of_go hg8))
    have HV8:=hide hv8
    have HS8:=hide hst8
    clear hv8 hg8 hst8 HSD
    go_wp2_with fail
    go_ret
    have hr0:stR s1.ds (sRn pruningP journalP) 0 s2.ds:=by rw [← HK0.out];exact HSR.out
    refine ⟨_,k8,s8,ul.length + ((if k8 = 0 then 1 else 0) + 1),rfl,HV8.out,HG8.out,HRA.out.app ⟨0,s2.ds,hr0,.inr ⟨rfl,_,rfl,Ran.one HS8.out⟩⟩,?_⟩
    rw [HTN.out _ (Nat.le_add_right _ _)]
    exact H8.out
   ·have HSE:=hide hse
    clear hse
    go_wp2_with fail
    go_ret
    refine ⟨_,k,s2,ul.length + 0,rfl,.inr ⟨h0,sv,nm,rfl,HSE.out⟩,HG2.out,HRA.out.app ⟨k,s2.ds,HSR.out,.inl ⟨h0,rfl,rfl,rfl⟩⟩,?_⟩
    rw [HTN.out _ (Nat.le_add_right _ _)]
    exact HS2.out
set_option maxHeartbeats 4000000
set_option maxRecDepth 100000
open Go.RowKit
def prS (ul:List DV):List Stp:=sRn journalP pruningP :: epS ul
def PrR (s:PSt) (sb cb tb nc:Nat) (Dc Dt:DataW Value) (nt:Nat) (ul:List DV) (w:World) (e:Ending) (w':World):Prop :=
 (ul = [] ∧ e = .returned (.tuple #[.int .i64 0,.nilIface]) ∧ Below w.heap.size w w') ∨
 (ul ≠ [] ∧ ∃ ev k s' m z,e = .returned (.tuple #[.int .i64 z,ev]) ∧ ErrV w' ev k ∧ (k = 0 → z = (ul.length:Int)) ∧ SGo (fun k=>k = cb) s s' w w' ∧ Ran s.ds (prS ul) k m s'.ds ∧ StW w' sb s' cb tb nc nt (delsD Dc (ul.take (m - 1))) Dt)
theorem prune_any (sb:Nat) (s:PSt) (cb tb nc:Nat) (l:List TE) (cl:List (List Nat)) (dl:List DV) (w:World) {L C B:Nat} (h:StW w sb s cb tb nc l.length (cD cl) (tD l)) (hokt:∀ t ∈ l,t.Ok) (hok:∀ d ∈ cl,DigOk d) (hr:RiseK DV.key dl) (hmem:∀ x,x ∈ dl ↔ x.1 ∈ cl) (hsz:cl.length ≤ 100000000) (hsd:dl.length ≤ 100000000) (hf:DFit s.ds L C B) (hb:Bud (L + dl.length + 20) (C + dl.length + 20) B) :
  Calls Tryz.prog 77 #[.pointer (some ⟨sb,0,none⟩)] w (PrR s sb cb tb nc (cD cl) (tD l) l.length (unT l dl) w):=by
 have HU:=hide (untagged_any sb s cb tb nc l cl dl w h hokt hok hr hmem hsz hsd)
 have hul:(unT l dl).length ≤ dl.length:=List.length_filter_le _ _
 generalize unT l dl = ul at HU hul ⊢
 have H:=hide h
 have HF:=hide hf
 have HBU:=hide hb
 clear h hokt hok hr hmem hf hb
 go_enter Tryz.func77,Tryz.ntmps77
 go_wp2_with fail
 refine (HU.out).mono ?_
 rintro _ w1 ⟨v,rfl,hrow,hb1⟩
 dsimp only
 obtain ⟨so,sc,rfl⟩:=own_sl hrow
 have HROW:=hide hrow
 have HB1:=hide hb1
 have H1:=hide (H.out.later hb1)
 clear hrow hb1 HU
 by_cases hul0:ul.length = 0
 ·have hn:ul = []:=List.length_eq_zero_iff.1 hul0
  subst hn
  go_wp2_with fail
  refine bodyPost_ret (results_tmp2 rfl _ _ _) rfl ?_
  exact .inl ⟨rfl,rfl,HB1.out⟩
 ·have hz:(((ul.length:Nat):Int) == 0) = false:=by simpa using hul0
  have hz2:¬ ((ul.length:Nat):Int) = 0:=by omega
  have c0:=cell_of_row _ _ 0 _ _ _ H1.out.blk
  have HRN:=hide (dkRename s journalP pruningP w1 H1.out.inn HF.out (HBU.out.mono (by omega) (by omega) (Nat.le_refl _)) (by decide) (by decide))
  go_wp2_with fail
  refine (HRN.out).mono ?_
  rintro _ w2 ⟨v,k,s2,rfl,hv,hg,hst⟩
  dsimp only
  have HS2:=hide (H1.out.go hg)
  have HG2:=hide ((SGo.of_below HB1.out).trans (SGo.of_go (S:=fun k=>k = cb) hg))
  have hstr:stR s.ds (sRn journalP pruningP) k s2.ds:=hst
  have HSR:=hide hstr
  have HF2:=hide (HF.out.st hstr)
  have hrow2:w2.ownsRow w.heap.size 117 32 (.slice so ul.length sc) ul.length (ul.flatMap DV.enc):=own_same HROW.out (fun q hk _=>by
   obtain ⟨c,hc⟩:=own_obj HROW.out q hk
   exact hg.gr.block q (lt_heap hc) (fun e=>by have:=H.out.inn.lt e;have:=own_ge HROW.out q hk;omega))
  have hown2:∀ q,(Value.slice so ul.length sc).ownBlock = some q → ¬ (s2.own q ∨ q = cb):=fun q hq e=>by
   obtain ⟨c,hc⟩:=own_obj HROW.out q hq
   have h1:=own_ge HROW.out q hq
   have h2:=lt_heap hc
   rcases e with e | e
   ·rcases hg.own q e with e | e
    ·have:=H.out.inn.lt e;omega
    ·omega
   ·have:=H.out.cm.lt;omega
  clear hst hstr HRN c0
  rcases hv with ⟨h0,rfl⟩ | ⟨h0,sv,nm,rfl,hse⟩
  ·have HEP:=hide (endPrune_any sb s2 cb tb nc l.length (cD cl) (tD l) w.heap.size so sc ul w2 HS2.out hown2 hrow2 (by omega) HF2.out (HBU.out.mono (by omega) (by omega) (by show B + 0 ≤ B;omega)))
   have HK0:=hide h0
   clear h0 hrow2 hown2 hg
   go_wp2_with fail
   refine (HEP.out).mono ?_
   rintro _ w8 ⟨v8,k8,s8,m8,rfl,hv8,hg8,hr8,hst8⟩
   dsimp only
   have HV8:=hide hv8
   have HG8:=hide (HG2.out.trans hg8)
   have HR8:=hide hr8
   have HS8:=hide hst8
   clear hv8 hg8 hr8 hst8 HEP
   go_wp2_with fail
   refine bodyPost_ret (results_tmp2 rfl _ _ _) rfl ?_
   have hr0:stR s.ds (sRn journalP pruningP) 0 s2.ds:=by rw [← HK0.out];exact HSR.out
   exact .inr ⟨fun e=>hul0 (by rw [e];rfl),_,k8,s8,m8 + 1,_,rfl,HV8.out,fun _=>rfl,HG8.out,⟨0,s2.ds,hr0,.inr ⟨rfl,m8,rfl,HR8.out⟩⟩,HS8.out⟩
  ·have HSE:=hide hse
   clear hse
   go_wp2_with fail
   refine bodyPost_ret (results_tmp2 rfl _ _ _) rfl ?_
   exact .inr ⟨fun e=>hul0 (by rw [e];rfl),_,k,s2,0,_,rfl,.inr ⟨h0,sv,nm,rfl,HSE.out⟩,fun e=>absurd e h0,HG2.out,⟨k,s2.ds,HSR.out,.inl ⟨h0,rfl,rfl,rfl⟩⟩,HS2.out⟩
end Go.Proofs.YtncigfibncmioaaGreatDoor
namespace Go.Proofs.YtncigfibncmioaaGreatDoor
open Go.RowKit
theorem del_rest {D D':DS} {F:List FF} {r:Int} {B:Nat} {k:Int} {m:Nat} {x:FF} (h:Rst D F r B) (hx:x ∈ F) (hp:isPathB x.p = true) (hr:Ran D [sRm x.p,sSd] k m D'):k = 0 ∧ m = 2 ∧ Rst D' (delK FF.p x.p F) r B:=by
 obtain ⟨E,m1,hE,rfl,hr1⟩:=hr.step2 (fun X=>Wh X (delK FF.p x.p F) r B) (fun k1 X hs=>h.wh.rm hs hp hx)
 obtain ⟨G,m2,hG,rfl,hr2⟩:=hr1.step2 (fun X=>Wh X (delK FF.p x.p F) r B ∧ X.R.safe = X.R.now ∧ X.R.chg = []) (fun k1 X hs=>hE.sd hs)
 obtain ⟨rfl,rfl,rfl⟩:=hr2
 exact ⟨rfl,rfl,hG.1,hG.2.1,hG.2.2,fun y hy=>h.syn y (delK_mem.1 hy).1⟩
def delsF (ul:List DV) (F:List FF):List FF:=ul.foldl (fun F d=>delK FF.p (cPath d.1) F) F
theorem delsF_rise:∀ (ul:List DV) {F:List FF},RiseK FF.p F → RiseK FF.p (delsF ul F)
 | [],_,h=>h
 | d :: ul,_,h=>delsF_rise ul (riseK_del (cPath d.1) h)
theorem delsF_mem:∀ (ul:List DV) {F:List FF} {x:FF},x ∈ delsF ul F ↔ x ∈ F ∧ ∀ d ∈ ul,x.p ≠ cPath d.1
 | [],_,_=>by simp [delsF]
 | d :: ul,F,x=>by
  show x ∈ delsF ul (delK FF.p (cPath d.1) F) ↔ _
  rw [delsF_mem ul,delK_mem]
  constructor
  ·rintro ⟨⟨h1,h2⟩,h3⟩
   exact ⟨h1,fun e he=>by
    rcases List.mem_cons.1 he with rfl | he
    ·exact h2
    ·exact h3 e he⟩
  ·rintro ⟨h1,h2⟩
   exact ⟨⟨h1,h2 d (by simp)⟩,fun e he=>h2 e (by simp [he])⟩
theorem rm_many:∀ (ul:List DV) (rest:List Stp) {D D':DS} {F:List FF} {r:Int} {B:Nat} {k:Int} {m:Nat},Wh D F r B → ul.Nodup → (∀ d ∈ ul,∃ x ∈ F,x.p = cPath d.1) → Ran D (rmC ul ++ rest) k m D' → ∃ D1 m',Wh D1 (delsF ul F) r B ∧ m = ul.length + m' ∧ Ran D1 rest k m' D'
 | [],rest,D,D',F,r,B,k,m,h,_,_,hr=>⟨D,m,h,by simp,hr⟩
 | d :: ul,rest,D,D',F,r,B,k,m,h,hn,hin,hr=>by
  obtain ⟨x,hx,hp⟩:=hin d (by simp)
  obtain ⟨n1,n2⟩:=List.nodup_cons.1 hn
  obtain ⟨E,m1,hE,rfl,hr1⟩:=Ran.step2 (fun X=>Wh X (delK FF.p (cPath d.1) F) r B) hr (fun k1 X hs=>by
   have:=h.rm (x:=x) (by rw [hp];exact hs) (by rw [hp];exact cP_path _) hx
   rwa [hp] at this)
  obtain ⟨D1,m',h1,rfl,h3⟩:=rm_many ul rest hE n2 (fun e he=>by
   obtain ⟨y,hy,hq⟩:=hin e (by simp [he])
   exact ⟨y,delK_mem.2 ⟨hy,fun h4=>n1 (by
    have:e = d:=Subtype.ext (cP_inj e.2 d.2 (hq.symm.trans h4))
    rw [← this]
    exact he)⟩,hq⟩) hr1
  exact ⟨D1,m',h1,by simp only [List.length_cons];omega,h3⟩
theorem prune_rest {D D':DS} {F:List FF} {r:Int} {B:Nat} {k:Int} {m:Nat} {t:ByteArray} {y:Int} {ul:List DV} (h:Rst D F r B) (hj:(⟨journalP,t,y⟩ : FF) ∈ F) (hpr:findK FF.p pruningP F = none) (hn:ul.Nodup) (hin:∀ d ∈ ul,∃ x ∈ F,x.p = cPath d.1) (hr:Ran D (prS ul) k m D') :
  k = 0 ∧ m = ul.length + 3 ∧ Rst D' (delsF ul F) r B:=by
 have hjp:isPathB journalP = true:=by decide
 have hpp:isPathB pruningP = true:=by decide
 have hne:journalP ≠ pruningP:=by decide
 have hcj:∀ d:DV,journalP ≠ cPath d.1:=fun d=>Ne.symm (less_ne (cP_journal d.1))
 have hcp:∀ d:DV,pruningP ≠ cPath d.1:=fun d=>Ne.symm (less_ne (by rw [less_eq,cP_data];rfl))
 have hrF:=h.wh.riseF
 obtain ⟨E,m1,hE,rfl,hr1⟩:=Ran.step2 (fun X=>Wh X (insK FF.p ⟨pruningP,t,y⟩ (delK FF.p journalP F)) r B) hr (fun k1 X hs=>h.wh.rn hs hjp hpp hne hj)
 have r1:=riseK_ins (key:=FF.p) ⟨pruningP,t,y⟩ (riseK_del journalP hrF)
 obtain ⟨G,m2,hG,rfl,hr2⟩:=rm_many ul [sRn pruningP journalP,sSd] hE hn (fun d hd=>by
  obtain ⟨x,hx,hp⟩:=hin d hd
  exact ⟨x,mem_ins_old (riseK_del _ hrF) (mem_del hx (by rw [hp];exact Ne.symm (hcj d))) (by rw [hp];exact Ne.symm (hcp d)),hp⟩) hr1
 have hpm:(⟨pruningP,t,y⟩ : FF) ∈ delsF ul (insK FF.p ⟨pruningP,t,y⟩ (delK FF.p journalP F)):=(delsF_mem ul).2 ⟨mem_ins (riseK_del _ hrF) _,fun d _=>hcp d⟩
 obtain ⟨I,m3,hI,rfl,hr3⟩:=hr2.step2 (fun X=>Wh X (insK FF.p ⟨journalP,t,y⟩ (delK FF.p pruningP (delsF ul (insK FF.p ⟨pruningP,t,y⟩ (delK FF.p journalP F))))) r B) (fun k1 X hs=>hG.rn hs hpp hjp (Ne.symm hne) hpm)
 have he:insK FF.p ⟨journalP,t,y⟩ (delK FF.p pruningP (delsF ul (insK FF.p ⟨pruningP,t,y⟩ (delK FF.p journalP F)))) = delsF ul F:=by
  have r2:=delsF_rise ul r1
  refine riseK_same (riseK_ins _ (riseK_del _ r2)) (delsF_rise ul hrF) (fun x=>?_)
  rw [insK_mem_iff (fun a ha e=>?_) (riseK_del _ r2),delK_mem,delsF_mem,delsF_mem,insK_mem_iff (fun a ha e=>?_) (riseK_del _ hrF),delK_mem]
  ·constructor
   ·rintro (rfl | ⟨⟨h1 | h1,h2⟩,h3⟩)
    ·exact ⟨hj,fun d _=>hcj d⟩
    ·rw [h1] at h3
     exact absurd rfl h3
    ·exact ⟨h1.1,h2⟩
   ·rintro ⟨h1,h2⟩
    by_cases hxj:x.p = journalP
    ·left
     exact riseK_inj hrF h1 hj hxj
    ·right
     refine ⟨⟨.inr ⟨h1,hxj⟩,h2⟩,fun hxp=>?_⟩
     exact findK_none hpr x h1 hxp
  ·exact absurd e (findK_none hpr a (delK_mem.1 ha).1)
  ·have h1:=((delsF_mem ul).1 (delK_mem.1 ha).1).1
   rcases insK_mem h1 with h2 | h2
   ·rw [h2] at e
    exact absurd e.symm hne
   ·exact absurd e (delK_mem.1 h2).2
 rw [he] at hI
 obtain ⟨K,m4,hK,rfl,hr4⟩:=hr3.step2 (fun X=>Wh X (delsF ul F) r B ∧ X.R.safe = X.R.now ∧ X.R.chg = []) (fun k1 X hs=>hI.sd hs)
 obtain ⟨rfl,rfl,rfl⟩:=hr4
 exact ⟨rfl,by omega,hK.1,hK.2.1,hK.2.2,fun z hz=>h.syn z ((delsF_mem ul).1 hz).1⟩
def putF (fl:List (ByteArray × ByteArray)) (F:List FF):List FF:=fl.foldl (fun F f=>insK FF.p (ff f.1 f.2) F) F
def totF (fl:List (ByteArray × ByteArray)):Nat:=(fl.map fun f=>f.2.size).sum
theorem wrz_rest {D D':DS} {F:List FF} {r:Int} {B:Nat} {k:Int} {fl:List (ByteArray × ByteArray)} (h:Rst D F r B) (h0:findK FF.p p0 F = none) (h1:findK FF.p p1 F = none) (hfl:fl.length ≤ 2) (hok:∀ f ∈ fl,isPathB f.1 = true ∧ p0 ≠ f.1 ∧ p1 ≠ f.1 ∧ f.2.size ≤ B) (hw:WrZ D fl k D') :
  (k = 0 ∧ Rst D' (putF fl F) r B ∧ (fl ≠ [] → (sumF F:Int) + (totF fl:Int) ≤ r)) ∨ (fl ≠ [] ∧ r < (sumF F:Int) + (totF fl:Int) ∧ k = 4 ∧ Rst D' F r B):=by
 unfold WrZ at hw
 match fl,hfl,hok,hw with
 | [],_,_,hw =>
  rw [if_pos rfl] at hw
  obtain ⟨rfl,rfl⟩:=hw
  exact .inl ⟨rfl,h,fun h=>absurd rfl h⟩
 | [(c,b)],_,hok,hw =>
  rw [if_neg (by simp)] at hw
  obtain ⟨a1,a2,a3,a4⟩:=hok (c,b) (by simp)
  have e:totF [(c,b)] = b.size:=by simp [totF]
  rw [e]
  rcases wr_one h h0 a1 a2 a4 hw with ⟨x1,x2,x3⟩ | ⟨x1,x2,x3⟩
  ·exact .inl ⟨x2,x3,fun _=>x1⟩
  ·exact .inr ⟨by simp,x1,x2,x3⟩
 | [(c,b),(q,X)],_,hok,hw =>
  rw [if_neg (by simp)] at hw
  obtain ⟨a1,a2,a3,a4⟩:=hok (c,b) (by simp)
  obtain ⟨b1,b2,b3,b4⟩:=hok (q,X) (by simp)
  have e:totF [(c,b),(q,X)] = b.size + X.size:=by simp [totF]
  rw [e]
  rcases wr_two h h0 h1 a1 b1 a2 a3 b2 b3 a4 b4 hw with ⟨x1,x2,x3⟩ | ⟨x1,x2,x3⟩
  ·have x4:(sumF F:Int) + (b.size:Int) + (X.size:Int) ≤ r:=x1
   exact .inl ⟨x2,x3,fun _=>by rw [Int.natCast_add];omega⟩
  ·have x4:r < (sumF F:Int) + (b.size:Int) + (X.size:Int):=x1
   exact .inr ⟨by simp,by rw [Int.natCast_add];omega,x2,x3⟩
 | _ :: _ :: _ :: _,hfl,_,_=>simp at hfl
end Go.Proofs.YtncigfibncmioaaGreatDoor
namespace Go.Proofs.YtncigfibncmioaaGreatDoor
set_option maxHeartbeats 4000000
set_option maxRecDepth 100000
open Go.RowKit Go.MuLone
theorem bDel_any (xb sb:Nat) (s:PSt) (cb tb nc:Nat) (Dc:DataW Value) (l:List TE) (text:ByteArray) (w:World) (hx:BSt w xb sb) (hG:¬ isG xb) (h:StW w sb s cb tb nc l.length Dc (tD l)) {L C B:Nat} (hok:∀ t ∈ l,t.Ok) (hu:UnitC Dc) (hdig:isDigB text = true) (hh:Maps.has Dc (dKey (rd text)) = true) (hmay:tagd (rd text) l = false) (hf:DFit s.ds L C B) (hb:Bud (L + 10) (C + 10) B) :
  Calls Tryz.prog 39 #[.pointer (some ⟨xb,0,none⟩),.string text] w fun e w'=>∃ k s' m,e = .returned (.int .i64 k) ∧ SGo (sS xb sb cb) s s' w w' ∧ BSt w' xb sb ∧ Ran s.ds [sRm (cPath (rd text)),sSd] k m s'.ds ∧ ((m = 0 ∧ k ≠ 0 ∧ StW w' sb s' cb tb nc l.length Dc (tD l)) ∨ (0 < m ∧ StW w' sb s' cb tb nc l.length (Dc.del (dKey (rd text))) (tD l))):=by
 have hx:BLk w xb sb 0:=hx
 have c0:w.cell? ⟨xb,0,none⟩ = some (.int .i32 0):=cell_of_row _ _ 0 _ _ _ hx
 have f0:w.frozen? ⟨xb,0,none⟩ = false:=frozen_of_row _ _ 0 _ _ hx
 obtain ⟨W,hW⟩ : ∃ W,W = w.setCell ⟨xb,0,none⟩ (.int .i32 1):=⟨_,rfl⟩
 have hst:StW W sb s cb tb nc l.length Dc (tD l):=by rw [hW];exact h.lock hx hG
 have hxw:BLk W xb sb 1:=by rw [hW];exact hx.set 1
 have hfw:SGo (sS xb sb cb) s s w W:=by rw [hW];exact SGo.lock
 have HFD:=hide (find_there xb sb s cb tb nc l.length Dc (tD l) text 1 W hxw hst hu hdig hh)
 have HMT:=hide (fun W' (hb':Below W.heap.size W W')=>isTagged_any sb s cb tb nc Dc l (rd text) W' (hst.later hb') hok (rd_len text) (rd_lt text))
 rw [hmay] at HMT
 have HPB:=hide (fun W' (hb':Below W.heap.size W W')=>delete_any sb s cb tb nc l.length Dc (tD l) (rd text) W' (hst.later hb') (rd_len text) (rd_lt text) hf hb)
 have hds:=rd_len text
 have hlt:=rd_lt text
 generalize rd text = ds at *
 have HLK:=hide (lock_free Tryz.muLib ⟨xb,0,none⟩ w c0 f0)
 have HW:=hide hW
 have HST:=hide hst
 have HXW:=hide hxw
 have HFW:=hide hfw
 have c2:W.cell? ⟨xb,2,none⟩ = some (.pointer (some ⟨sb,0,none⟩)):=cell_of_row _ _ 2 _ _ _ hxw
 clear hx c0 f0 hst hxw hfw hW h hu hdig hh hok hmay hf hb
 go_enter_defers Tryz.func39,Tryz.ntmps39
 go_wp2_with fail
 refine (HLK.out).mono ?_
 rintro _ W1 ⟨rfl,hW1⟩
 have hW1:W1 = W:=hW1.trans HW.out.symm
 rw [hW1]
 dsimp only
 clear hW1 HLK HW
 go_wp2_with fail
 refine (HFD.out).mono ?_
 rintro _ w3 ⟨rfl,hb3⟩
 dsimp only
 obtain ⟨X,hX⟩ : ∃ X,X = w3.alloc (.cells (cells8 ds) 117):=⟨_,rfl⟩
 have hbX:Below w3.heap.size w3 X:=by rw [hX];exact (Below.refl _ _).alloc (Nat.le_refl _) _
 have hXr:X.heap[w3.heap.size]? = some (.cells (cells8 ds) 117 (0,0)):=by rw [hX];exact heap_alloc_new _ _
 have hb4:Below W.heap.size W X:=hb3.trans (hbX.mono hb3.size)
 have c3:=cell_later hb4 c2
 have HX3:=hide (HXW.out.later hb4)
 have HF3:=hide (HFW.out.trans (SGo.of_below hb4))
 have HS3:=hide (HST.out.later hb4)
 have HXR:=hide hXr
 have HXX:=hide hX
 have HW3:=hide hb3.size
 clear hX hbX hXr hb3
 go_wp2_with (first | (refine wpList_store_row rfl 117 _ _ rfl w3.heap.size (cells8 ds) rfl rfl 117 _ (heap_alloc_new _ _) (size40 _ hds) (by first | rfl | (rw [cells8_size,hds];rfl) | (rw [cells8_size,cells8_size,hds];rfl)) (cells8_one _) ?_;rw [World.setRow_alloc_new,← HXX.out]) | (refine wpList_load_row rfl 117 _ rfl w3.heap.size rfl 117 _ _ _ HXR.out Tryz.underlying117 rfl (size40 _ hds) ?_))
 have hdr:Below X.heap.size X X.drew:=(Below.refl _ _).drew
 have hrd0:=(hdr.block _ (lt_heap HXR.out)).trans HXR.out
 obtain ⟨yb,hyb⟩ : ∃ yb,yb = w3.heap.size:=⟨_,rfl⟩
 rw [← hyb] at HXR hrd0 ⊢
 have hS0:X.drew.cell? ⟨xb,2,none⟩ = some (.pointer (some ⟨sb,0,none⟩)) ∧ X.drew.rangeAt yb 0 (cells8 ds).toList:=⟨cell_later hdr c3,con_r hrd0⟩
 have u72:=Tryz.underlying117
 have i72:=size72 ds hds
 have hb4d:=hb4.trans (hdr.mono hb4.size)
 have HYB:=hide hyb
 clear hyb
 go_region_held3 (fun w'=>w'.cell? ⟨xb,2,none⟩ = some (.pointer (some ⟨sb,0,none⟩)) ∧ w'.rangeAt yb 0 (cells8 ds).toList) (first | exact hS0 | exact hS1 | go_keep) ((first | (go_at_call 75;refine (HMT.out _ hb4d).mono ?_;rintro _ w5 ⟨rfl,hb5⟩;have hS1:w5.cell? ⟨xb,2,none⟩ = some (.pointer (some ⟨sb,0,none⟩)) ∧ w5.rangeAt yb 0 (cells8 ds).toList:=⟨cell_later hb5 (cell_later hdr c3),con_r ((hb5.block _ (lt_heap hrd0)).trans hrd0)⟩)))
 have hb5x:Below X.heap.size X w5:=hdr.trans hb5
 have HXR5:=hide ((hb5.block _ (lt_heap hrd0)).trans hrd0)
 have HX5:=hide (HX3.out.later hb5x)
 have HF5:=hide (HF3.out.trans (SGo.of_below hb5x))
 have HS5:=hide (HS3.out.later hb5x)
 have HB6:=hide (hb4.trans (hb5x.mono hb4.size))
 clear hS0 hS1 hb5 hb5x hb4 hb4d hdr hrd0 u72 i72 HMT HFD c2 c3
 have c5:w5.cell? ⟨xb,2,none⟩ = some (.pointer (some ⟨sb,0,none⟩)):=cell_of_row _ _ 2 _ _ _ HX5.out
 go_wp2_with fail
 have hdr:Below w5.heap.size w5 w5.drew:=(Below.refl _ _).drew
 have hrd0:=(hdr.block _ (lt_heap HXR5.out)).trans HXR5.out
 have hyb0:W.heap.size ≤ yb:=by rw [HYB.out];exact HW3.out
 have hS0:w5.drew.cell? ⟨xb,2,none⟩ = some (.pointer (some ⟨sb,0,none⟩)) ∧ w5.drew.rangeAt yb 0 (cells8 ds).toList:=⟨cell_later hdr c5,con_r hrd0⟩
 have u72:=Tryz.underlying117
 have i72:=size72 ds hds
 have hb6d:=HB6.out.trans (hdr.mono HB6.out.size)
 have HX6:=hide (HX5.out.later hdr)
 have HS6:=hide (HS5.out.later hdr)
 have HF6:=hide (HF5.out.trans (SGo.of_below hdr))
 have hnown:¬ (s.own yb ∨ yb = cb):=fun e=>by
  rcases e with e | e
  ·have:=HST.out.inn.lt e;omega
  ·have:=HST.out.cm.lt;omega
 go_region_held3 (fun w'=>w'.cell? ⟨xb,2,none⟩ = some (.pointer (some ⟨sb,0,none⟩)) ∧ w'.rangeAt yb 0 (cells8 ds).toList) (first | exact hS0 | exact hS1 | exact hS2 | go_keep) ((first | (go_at_call 76;refine (HPB.out _ hb6d).mono ?_;rintro _ w4 ⟨ev,k,s',m,rfl,hev,hft,hwr,h40⟩;have hx7:=HX6.out.sgo HS6.out hft (fun k hk=>.inr hk);have hr7:=(hft.gr.block _ (lt_heap hrd0) hnown).trans hrd0;have hS1:w4.cell? ⟨xb,2,none⟩ = some (.pointer (some ⟨sb,0,none⟩)) ∧ w4.rangeAt yb 0 (cells8 ds).toList:=⟨cell_of_row _ _ 2 _ _ _ hx7,con_r hr7⟩;have hg4:Gl w4:=h40.elim (fun h=>h.2.2.gl) (fun h=>h.2.gl)) | (go_at_call 51;refine (errno_ev hev hg4.err).mono ?_;rintro _ w8 ⟨rfl,hb8⟩;have hS2:w8.cell? ⟨xb,2,none⟩ = some (.pointer (some ⟨sb,0,none⟩)) ∧ w8.rangeAt yb 0 (cells8 ds).toList:=⟨cell_later hb8 hS1.1,con_r ((hb8.block _ (lt_heap hr7)).trans hr7)⟩)))
 have HX8:=hide (hx7.later hb8)
 have HF8:=hide ((HF6.out.trans (hft.st (xb:=xb) (cb:=cb) (fun k hk=>.inr hk))).trans (SGo.of_below hb8))
 have HB8:=hide hb8
 have HWR:=hide hwr
 have H40:=hide h40
 clear hS0 hS1 hS2 hx7 hr7 hb8 hev hft hwr h40 hg4 hb6d hdr hrd0 u72 i72 HPB c5
 go_wp2_with fail
 refine leaves_cons (f:=58) (args:=#[.pointer (some ⟨xb,0,none⟩)]) (by simp) (by simp [go_sem]) ?_
 refine (unlock_deferred Tryz.muLib ⟨xb,0,none⟩ .returning _ (cell_of_row _ _ 0 _ _ _ HX8.out) (frozen_of_row _ _ 0 _ _ HX8.out)).mono ?_
 rintro e u' w6 ⟨rfl,rfl,rfl⟩
 exact ⟨_,results_tmp rfl _ _ _,k,s',m,rfl,HF8.out.trans SGo.lock,HX8.out.set 0,HWR.out,H40.out.imp (fun h=>⟨h.1,h.2.1,(h.2.2.later HB8.out).lock HX8.out hG⟩) (fun h=>⟨h.1,(h.2.later HB8.out).lock HX8.out hG⟩)⟩
set_option maxHeartbeats 4000000
set_option maxRecDepth 100000
open Go.RowKit Go.MuLone
theorem bPrune_any (xb sb:Nat) (s:PSt) (cb tb nc:Nat) (l:List TE) (cl:List (List Nat)) (dl:List DV) (w:World) (hx:BSt w xb sb) (hG:¬ isG xb) (h:StW w sb s cb tb nc l.length (cD cl) (tD l)) {L C B:Nat} (hokt:∀ t ∈ l,t.Ok) (hok:∀ d ∈ cl,DigOk d) (hr:RiseK DV.key dl) (hmem:∀ x,x ∈ dl ↔ x.1 ∈ cl) (hsz:cl.length ≤ 100000000) (hsd:dl.length ≤ 100000000) (hf:DFit s.ds L C B) (hb:Bud (L + dl.length + 20) (C + dl.length + 20) B) :
  Calls Tryz.prog 40 #[.pointer (some ⟨xb,0,none⟩)] w fun e w'=>∃ k s',e = .returned (.tuple #[.int .i64 (if k = 0 then ((unT l dl).length:Int) else 0),.int .i64 k]) ∧ SGo (sS xb sb cb) s s' w w' ∧ BSt w' xb sb ∧
   ((unT l dl = [] ∧ k = 0 ∧ s' = s ∧ StW w' sb s cb tb nc l.length (cD cl) (tD l)) ∨ (unT l dl ≠ [] ∧ ∃ m,Ran s.ds (prS (unT l dl)) k m s'.ds ∧ StW w' sb s' cb tb nc l.length (delsD (cD cl) ((unT l dl).take (m - 1))) (tD l))):=by
 have hx:BLk w xb sb 0:=hx
 have c0:w.cell? ⟨xb,0,none⟩ = some (.int .i32 0):=cell_of_row _ _ 0 _ _ _ hx
 have f0:w.frozen? ⟨xb,0,none⟩ = false:=frozen_of_row _ _ 0 _ _ hx
 obtain ⟨W,hW⟩ : ∃ W,W = w.setCell ⟨xb,0,none⟩ (.int .i32 1):=⟨_,rfl⟩
 have hst:StW W sb s cb tb nc l.length (cD cl) (tD l):=by rw [hW];exact h.lock hx hG
 have hxw:BLk W xb sb 1:=by rw [hW];exact hx.set 1
 have hfw:SGo (sS xb sb cb) s s w W:=by rw [hW];exact SGo.lock
 have HPB:=hide (prune_any sb s cb tb nc l cl dl W hst hokt hok hr hmem hsz hsd hf hb)
 generalize unT l dl = ul at HPB ⊢
 have HLK:=hide (lock_free Tryz.muLib ⟨xb,0,none⟩ w c0 f0)
 have HW:=hide hW
 have HST:=hide hst
 have HXW:=hide hxw
 have HFW:=hide hfw
 have c2:W.cell? ⟨xb,2,none⟩ = some (.pointer (some ⟨sb,0,none⟩)):=cell_of_row _ _ 2 _ _ _ hxw
 clear hx c0 f0 hst hxw hfw hW h hokt hok hr hmem hf hb
 go_enter_defers Tryz.func40,Tryz.ntmps40
 go_wp2_with fail
 refine (HLK.out).mono ?_
 rintro _ W1 ⟨rfl,hW1⟩
 have hW1:W1 = W:=hW1.trans HW.out.symm
 rw [hW1]
 dsimp only
 clear hW1 HLK HW
 go_wp2_with fail
 refine (HPB.out).mono ?_
 rintro e w4 hpr
 rcases hpr with ⟨hn,rfl,hb4⟩ | ⟨hn,ev,k,s',m,z,rfl,hev,hz,hft,hran,hstw⟩
 ·dsimp only
  have HX4:=hide (HXW.out.later hb4)
  have HF4:=hide (HFW.out.trans (SGo.of_below hb4))
  have HS4:=hide (HST.out.later hb4)
  have HNN:=hide hn
  clear hb4 HPB hn c2
  go_wp2_with fail
  refine leaves_cons (f:=58) (args:=#[.pointer (some ⟨xb,0,none⟩)]) (by simp) (by simp [go_sem]) ?_
  refine (unlock_deferred Tryz.muLib ⟨xb,0,none⟩ .returning _ (cell_of_row _ _ 0 _ _ _ HX4.out) (frozen_of_row _ _ 0 _ _ HX4.out)).mono ?_
  rintro e u' w6 ⟨rfl,rfl,rfl⟩
  exact ⟨_,results_tmp2 rfl _ _ _,0,s,by rw [HNN.out];rfl,HF4.out.trans SGo.lock,HX4.out.set 0,.inl ⟨HNN.out,rfl,rfl,HS4.out.lock HX4.out hG⟩⟩
 ·dsimp only
  have HX4:=hide (HXW.out.sgo HST.out hft (fun k hk=>.inr hk))
  have HF4:=hide (HFW.out.trans (hft.st (xb:=xb) (cb:=cb) (fun k hk=>.inr hk)))
  have HS4:=hide hstw
  have HRN:=hide hran
  have HZ:=hide hz
  have HNN:=hide hn
  have hg4:=hstw.gl
  clear hft hstw hran hz hn HPB c2
  rcases hev with ⟨rfl,rfl⟩ | ⟨hk0,sv,nm,rfl,hse⟩
  ·clear hg4
   go_wp2_with fail
   refine leaves_cons (f:=58) (args:=#[.pointer (some ⟨xb,0,none⟩)]) (by simp) (by simp [go_sem]) ?_
   refine (unlock_deferred Tryz.muLib ⟨xb,0,none⟩ .returning _ (cell_of_row _ _ 0 _ _ _ HX4.out) (frozen_of_row _ _ 0 _ _ HX4.out)).mono ?_
   rintro e u' w6 ⟨rfl,rfl,rfl⟩
   exact ⟨_,results_tmp2 rfl _ _ _,0,by rw [HZ.out trivial];rfl,s',HF4.out.trans SGo.lock,HX4.out.set 0,.inr ⟨HNN.out,m,HRN.out,HS4.out.lock HX4.out hG⟩⟩
  ·have HER:=hide (errno_ev (.inr ⟨hk0,sv,nm,rfl,hse⟩) hg4.err)
   have HK0:=hide hk0
   clear hse hg4 hk0
   go_wp2_with fail
   refine (HER.out).mono ?_
   rintro _ w5 ⟨rfl,hb5⟩
   dsimp only
   have HX5:=hide (HX4.out.later hb5)
   have HF5:=hide (HF4.out.trans (SGo.of_below hb5))
   have HS5:=hide (HS4.out.later hb5)
   clear hb5 HER HX4 HF4 HS4
   go_wp2_with fail
   refine leaves_cons (f:=58) (args:=#[.pointer (some ⟨xb,0,none⟩)]) (by simp) (by simp [go_sem]) ?_
   refine (unlock_deferred Tryz.muLib ⟨xb,0,none⟩ .returning _ (cell_of_row _ _ 0 _ _ _ HX5.out) (frozen_of_row _ _ 0 _ _ HX5.out)).mono ?_
   rintro e u' w6 ⟨rfl,rfl,rfl⟩
   exact ⟨_,results_tmp2 rfl _ _ _,k,s',by rw [if_neg HK0.out];rfl,HF5.out.trans SGo.lock,HX5.out.set 0,.inr ⟨HNN.out,m,HRN.out,HS5.out.lock HX5.out hG⟩⟩
end Go.Proofs.YtncigfibncmioaaGreatDoor
