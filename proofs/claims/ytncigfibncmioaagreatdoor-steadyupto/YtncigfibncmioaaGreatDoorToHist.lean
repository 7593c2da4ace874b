/-
  PROVED HERE: endPruning of package store.
-/
import Derived.Test.YtncigfibncmioaaGreatDoorSmDelC
import Derived.Test.YtncigfibncmioaaGreatDoorSoLoad
import Derived.Test.YtncigfibncmioaaGreatDoorStGoOn
import Derived.Test.YtncigfibncmioaaGreatDoorStDig
import Derived.Test.YtncigfibncmioaaGreatDoorSmDApp
import Derived.Test.YtncigfibncmioaaGreatDoorBmRef
import Derived.Test.YtncigfibncmioaaGreatDoorSmDig
namespace Go.Proofs.YtncigfibncmioaaGreatDoor
set_option maxHeartbeats 4000000
set_option maxRecDepth 100000
open Go.RowKit
def delsD (Dc:DataW Value) (ul:List DV):DataW Value:=ul.foldl (fun D d=>D.del (dKey d.1)) Dc
theorem delsD_snoc (Dc:DataW Value) (ul:List DV) (d:DV):delsD Dc (ul ++ [d])=(delsD Dc ul).del (dKey d.1):=by simp [delsD,List.foldl_append]
def rmC (ul:List DV):List Stp:=ul.map fun d=>sRm (cPath d.1)
def epS (ul:List DV):List Stp:=rmC ul ++ [sRn pruningP journalP,sSd]
theorem rmC_sz (ul:List DV) (j:Nat):szs ((rmC ul).take j)=0:=by
 have:=szs_le (M:=0) ((rmC ul).take j) (fun t ht=>by
  obtain ⟨d,_,rfl⟩:=List.mem_map.1 (List.mem_of_mem_take ht)
  exact Nat.le_refl _)
 omega
theorem rmC_take (ul:List DV) (j:Nat) (hj:j<ul.length):(rmC ul).take (j+1)=(rmC ul).take j ++ [sRm (cPath (ul[j]'hj).1)]:=by
 unfold rmC
 rw [List.take_add_one,List.getElem?_map,List.getElem?_eq_getElem hj]
 rfl
theorem ran_stop {D D1 D':DS} {ul:List DV} {j:Nat} {k:Int} (hr:Ran D ((rmC ul).take j) 0 j D1) (hj:j<ul.length) (hs:stR D1 (sRm (cPath (ul[j]'hj).1)) k D') (hk:k≠0):Ran D (epS ul) k j D':=by
 have h1:=Ran.one hs
 rw [if_neg hk] at h1
 have h2:=hr.app h1
 rw [Nat.add_zero,← rmC_take ul j hj] at h2
 have h3:=h2.stop ((rmC ul).drop (j+1) ++ [sRn pruningP journalP,sSd]) hk
 rw [← List.append_assoc,List.take_append_drop] at h3
 exact h3
theorem endPrune_any (sb:Nat) (s:PSt) (cb tb nc nt:Nat) (Dc Dt:DataW Value) (B0:Nat) (so:Option Addr) (sc:Nat) (ul:List DV) (w:World) {L C B:Nat} (h:StW w sb s cb tb nc nt Dc Dt) (hown:∀ k,(Value.slice so ul.length sc).ownBlock=some k→¬ (s.own k∨k=cb)) (hrow:w.ownsRow B0 117 32 (.slice so ul.length sc) ul.length (ul.flatMap DV.enc)) (hsz:ul.length≤100000000) (hf:DFit s.ds L C B) (hb:Bud (L+ul.length+10) (C+ul.length+10) B) :
  Calls Tryz.prog 121 #[.pointer (some ⟨sb,0,none⟩),.slice so ul.length sc] w fun e w'=>∃ ev k s' m,e = .returned ev∧ErrV w' ev k∧SGo (fun k=>k=cb) s s' w w'∧Ran s.ds (epS ul) k m s'.ds∧StW w' sb s' cb tb nc nt (delsD Dc (ul.take m)) Dt:=by
 have H:=hide h
 have HOWN:=hide hown
 have HROW:=hide hrow
 have HF:=hide hf
 have HBU:=hide hb
 have hgt:0<ul.length→∃ g,so=some ⟨g,0,none⟩:=fun hp=>by
  obtain ⟨_,⟨h1,h2⟩|⟨g,cap,cur,h1,_⟩⟩:=hrow
  ·omega
  ·injection h1 with h1
   exact ⟨g,h1⟩
 have HGT:=hide hgt
 have hz71:=(zero_of_info Tryz.info117).1
 clear h hown hrow hf hb hgt
 go_enter Tryz.func121,Tryz.ntmps121
 go_wp2_with fail
 go_loopw [11] (fun iv wr=>∃ (j:Nat) (s1:PSt),j≤ul.length∧iv = .int .i64 ((j:Nat):Int)∧SGo (fun k=>k=cb) s s1 w wr∧Ran s.ds ((rmC ul).take j) 0 j s1.ds∧StW wr sb s1 cb tb nc nt (delsD Dc (ul.take j)) Dt) (fun iv _=>ul.length - (intOf iv).toNat)
 case atStart=>exact ⟨0,s,Nat.zero_le _,rfl,SGo.of_below (Below.refl _ _),⟨rfl,rfl,rfl⟩,H.out⟩
 case round =>
  obtain ⟨j,s1,hj,rfl,hgo,hr,hst⟩:=hrel
  have HGO:=hide hgo
  have HR:=hide hr
  have HST:=hide hst
  have HF1:=hide (((HF.out.ran hr).mono (L':=L+ul.length) (C':=C+ul.length) (B':=B) (by rw [List.length_take];omega) (by rw [List.length_take];omega) (by rw [rmC_sz];omega)))
  have hrow1:wr.ownsRow B0 117 32 (.slice so ul.length sc) ul.length (ul.flatMap DV.enc):=own_same HROW.out (fun k hk _=>by
   obtain ⟨c,hc⟩:=own_obj HROW.out k hk
   exact hgo.gr.block k (lt_heap hc) (HOWN.out k hk))
  have HROW1:=hide hrow1
  clear hgo hr hst hrow1
  by_cases hlt:j<ul.length
  ·obtain ⟨g,hg⟩:=HGT.out (by omega)
   subst hg
   have hrr:=rowD_at HROW1.out hlt
   obtain ⟨d,hd⟩ : ∃ d,d=(ul[j]'hlt):=⟨_,rfl⟩
   rw [← hd] at hrr
   have HRR:=hide hrr
   have HD:=hide hd
   have hds:=d.2.1
   have hltd:=d.2.2
   have d1:decide (((j:Nat):Int)<((ul.length:Nat):Int))=true:=decide_eq_true (by omega)
   obtain ⟨W,hW⟩ : ∃ W,W=wr.alloc (.cells (cells8 d.1) 117):=⟨_,rfl⟩
   have hbo:Below wr.heap.size wr W:=by rw [hW];exact (Below.refl _ _).alloc (Nat.le_refl _) _
   have hrow:W.heap[wr.heap.size]? = some (.cells (cells8 d.1) 117 (0,0)):=by rw [hW];exact heap_alloc_new _ _
   have hon:=(HST.out.later hbo).on
   have HCP:=hide (contentPath_any d.1 W.drew hds hltd)
   have HRM:=hide (fun (w':World) (hb':Below W.heap.size W w')=>dkRemove s1 (cPath d.1) w' (hon.inn.later hb') HF1.out (HBU.out.mono (by omega) (by omega) (Nat.le_refl _)) (Nat.le_trans (cPath_size d.1) (by decide)))
   have HON:=hide hon
   have HSTW:=hide (HST.out.later hbo)
   have HW:=hide hW
   have HBO:=hide hbo
   have HRW:=hide hrow
   have HN:=hide (fun (k:Nat) (hk:s1.own k)=>HST.out.inn.lt hk)
   clear hrr hd hW hbo hrow hon
   go_wp2_with (first|(refine wpList_load_mid rfl 117 _ rfl g (j * 32) rfl (cells8 d.1).toList _ HRR.out Tryz.underlying117 rfl (size72 d.1 hds) ?_)|(refine wpList_store_row rfl 117 _ _ rfl wr.heap.size _ rfl rfl 117 _ (heap_alloc_new _ _) (size40 _ hds) (by rw [cells8_size,cells8_size,hds];rfl) (cells8_one _) ?_;rw [World.setRow_alloc_new,← HW.out]))
   obtain ⟨xb,hxb⟩ : ∃ xb,xb=wr.heap.size:=⟨_,rfl⟩
   rw [← hxb] at HRW HN ⊢
   have HXB:=hide hxb
   clear hxb
   have hS0:=con_s (HON.out.later (Below.refl W.heap.size W).drew) ((((Below.refl W.heap.size W).drew).block _ (lt_heap HRW.out)).trans HRW.out)
   have u72:=Tryz.underlying117
   have i72:=size72 d.1 hds
   go_region_held3 (fun w'=>w'.cell? ⟨sb,0,none⟩=some (.pointer (some ⟨s1.b,0,none⟩))∧w'.rangeAt xb 0 (cells8 d.1).toList) (first|exact hS3|exact hS2|exact hS0|go_keep) ((first|(go_at_call 107;refine (HCP.out).mono ?_;rintro _ w1 ⟨rfl,hb1⟩;have hb3:Below W.heap.size W w1:=((Below.refl W.heap.size W).drew).trans hb1;have hr2:=(hb3.block _ (lt_heap HRW.out)).trans HRW.out;have hS2:=con_s (HON.out.later hb3) hr2)|(go_at_call 117;refine (HRM.out _ hb3).mono ?_;rintro _ w2 ⟨v,k,s2,rfl,hv,hg,hst⟩;have hr3:=(hg.gr.block _ (lt_heap hr2) (fun e=>by have:=HN.out _ e;omega)).trans hr2;have hS3:=(show w2.cell? ⟨sb,0,none⟩=some (.pointer (some ⟨s1.b,0,none⟩))∧w2.rangeAt xb 0 (cells8 d.1).toList by rw [← hg.b];exact con_s ((HON.out.later hb3).go hg) hr3))))
   have HSW:=hide ((HSTW.out.later hb3).go hg)
   have HG2:=hide (HGO.out.trans (((SGo.of_below HBO.out).trans (SGo.of_below hb3)).trans (SGo.of_go (S:=fun k=>k=cb) hg)))
   have HR3:=hide hr3
   have hstr:stR s1.ds (sRm (cPath (ul[j]'hlt).1)) k s2.ds:=by rw [← HD.out];exact hst
   have HSR:=hide hstr
   clear hst hstr HRM hS0 hS2 hS3 hr2 hr3 hb1 hb3 HCP u72 i72 hg
   rcases hv with ⟨h0,rfl⟩|⟨h0,sv,nm,rfl,hse⟩
   ·have hdr:Below w2.heap.size w2 w2.drew:=(Below.refl _ _).drew
    have h6:=HSW.out.later hdr
    have hr6:=(hdr.block _ (lt_heap HR3.out)).trans HR3.out
    have hS0:w2.drew.cell? ⟨sb,1,none⟩=some (.map (some cb))∧w2.drew.rangeAt xb 0 (cells8 d.1).toList:=⟨cell_of_row _ _ 1 _ _ _ h6.blk,con_r hr6⟩
    obtain ⟨w6,hrun,hm6,ht6⟩:=World.ownsMap.drop h6.cm dig_keyed Tryz.underlying156 (key_dig d.1 hds hltd) 0
    have hg6:=ht6.grown
    have hS6:w6.cell? ⟨sb,1,none⟩=some (.map (some cb))∧w6.rangeAt xb 0 (cells8 d.1).toList:=⟨cell_of_row _ _ 1 _ _ _ (h6.putC hg6 hm6).blk,con_r ((hg6.block _ (lt_heap hr6) (fun e=>by
     injection e with e
     obtain ⟨es,clock,h1,_⟩:=h6.cm
     rw [← e,hr6] at h1
     cases h1)).trans hr6)⟩
    have H7:=hide (h6.putC hg6 hm6)
    have HG7:=hide (HG2.out.trans ((SGo.of_below hdr).trans (SGo.of_grown hg6 (fun r e=>by injection e with e;exact e.symm))))
    have u72:=Tryz.underlying117
    have i72:=size72 d.1 hds
    have HK0:=hide h0
    clear h6 hm6 hg6 ht6 hdr h0
    go_wp2_with fail
    go_region_held3 (fun w'=>w'.cell? ⟨sb,1,none⟩=some (.map (some cb))∧w'.rangeAt xb 0 (cells8 d.1).toList) (first|exact hS0|exact hS6|go_keep) (fail)
    clear hrun u72 i72 hS0 hS6 hr6
    go_wp2_with fail
    refine ⟨⟨j+1,s2,hlt,by simp,HG7.out,?_,?_⟩,by simp only [intOf];omega⟩
    ·rw [rmC_take ul j hlt]
     have h1:=Ran.one HSR.out
     rw [HK0.out,if_pos rfl] at h1
     exact HR.out.app h1
    ·have:ul.take (j+1)=ul.take j ++ [d]:=by
      rw [List.take_add_one,List.getElem?_eq_getElem hlt,HD.out]
      rfl
     rw [this,delsD_snoc]
     exact H7.out
   ·have HSE:=hide hse
    clear hse
    go_wp2_with fail
    go_ret
    exact ⟨_,k,s2,j,rfl,.inr ⟨h0,sv,nm,rfl,HSE.out⟩,HG2.out,ran_stop HR.out hlt HSR.out h0,HSW.out⟩
  ·have d1:decide (((j:Nat):Int)<((ul.length:Nat):Int))=false:=decide_eq_false (by omega)
   have hjn:j=ul.length:=by omega
   subst hjn
   have c0:=cell_of_row _ _ 0 _ _ _ HST.out.blk
   have HRN:=hide (dkRename s1 pruningP journalP wr HST.out.inn HF1.out (HBU.out.mono (by omega) (by omega) (Nat.le_refl _)) (by decide) (by decide))
   have hrall:Ran s.ds (rmC ul) 0 ul.length s1.ds:=by
    have:=HR.out
    rwa [List.take_of_length_le (by simp [rmC])] at this
   have HRA:=hide hrall
   have hst0:StW wr sb s1 cb tb nc nt (delsD Dc ul) Dt:=by
    have:=HST.out
    rwa [List.take_length] at this
   have HST0:=hide hst0
   clear hrall hst0 HST HR
   go_wp2_with fail
   refine (HRN.out).mono ?_
   rintro _ w2 ⟨v,k,s2,rfl,hv,hg,hst⟩
   dsimp only
   have HS2:=hide (HST0.out.go hg)
   have HG2:=hide (HGO.out.trans (SGo.of_go (S:=fun k=>k=cb) hg))
   have hstr:stR s1.ds (sRn pruningP journalP) k s2.ds:=hst
   have HSR:=hide hstr
   have HF2:=hide (HF1.out.st hstr)
   have hb2:=hg.b
   have HTN:=hide (show ∀ m,ul.length≤m→ul.take m=ul from fun m hm=>List.take_of_length_le hm)
   clear hg hst hstr HRN c0
   rcases hv with ⟨h0,rfl⟩|⟨h0,sv,nm,rfl,hse⟩
   ·have c2:=cell_of_row _ _ 0 _ _ _ HS2.out.blk
    have HSD:=hide (dkSyncDir s2 w2 HS2.out.inn HF2.out (HBU.out.mono (by omega) (by omega) (by show B+0≤B;omega)))
    have HK0:=hide h0
    clear h0
    go_wp2_with fail
    first|(refine (HSD.out).mono ?_)|(rw [hb2] at HSD;refine (HSD.out).mono ?_)
    rintro _ w8 ⟨v8,k8,s8,rfl,hv8,hg8,hst8⟩
    dsimp only
    have H8:=hide (HS2.out.go hg8)
    have HG8:=hide (HG2.out.trans (SGo.of_go hg8))
    have HV8:=hide hv8
    have HS8:=hide hst8
    clear hv8 hg8 hst8 HSD
    go_wp2_with fail
    go_ret
    have hr0:stR s1.ds (sRn pruningP journalP) 0 s2.ds:=by rw [← HK0.out];exact HSR.out
    refine ⟨_,k8,s8,ul.length+((if k8=0 then 1 else 0)+1),rfl,HV8.out,HG8.out,HRA.out.app ⟨0,s2.ds,hr0,.inr ⟨rfl,_,rfl,Ran.one HS8.out⟩⟩,?_⟩
    rw [HTN.out _ (Nat.le_add_right _ _)]
    exact H8.out
   ·have HSE:=hide hse
    clear hse
    go_wp2_with fail
    go_ret
    refine ⟨_,k,s2,ul.length+0,rfl,.inr ⟨h0,sv,nm,rfl,HSE.out⟩,HG2.out,HRA.out.app ⟨k,s2.ds,HSR.out,.inl ⟨h0,rfl,rfl,rfl⟩⟩,?_⟩
    rw [HTN.out _ (Nat.le_add_right _ _)]
    exact HS2.out
set_option maxHeartbeats 4000000
set_option maxRecDepth 100000
open Go.RowKit
structure QuI (D:DS) (l:List TE):Prop where
 rd:∃ t c,rdD D indexP=some t∧t.size≤2000∧readS t = .ok (l.map TE.en) c
 ok:∀ x∈l,x.Ok
 rise:RiseT l
 l8:l.length≤8
 p1:rdD D (bPath 1)=none
 pr:rdD D pruningP=none
 lay:(rdD D layoutP).isSome=true
theorem goOn_many (sb:Nat) (s:PSt) (cb tb:Nat) (l:List TE) (w:World) {L C B:Nat} (h:StW w sb s cb tb 0 0 (.map []) (.map [])) (hq:QuI s.ds l) (hf:DFit s.ds L C B) (hb:Bud (L+s.R.now.length+20) (C+s.R.now.length+20) (B+36)) (hps:∀ e∈s.R.now,e.path.size≤9223372036854775807) :
  Calls Tryz.prog 94 #[.pointer (some ⟨sb,0,none⟩)] w fun e w'=>∃ ev k s',e = .returned ev∧ErrV w' ev k∧SGo (fun k=>k=cb∨k=tb) s s' w w'∧GoR s.ds k s'.ds∧∃ nc,nc≤1000000∧StW w' sb s' cb tb nc l.length (cD (ctF s.R.now)) (tD l):=by
 obtain ⟨⟨t,c,hrd,ht,hr⟩,hok,hrise,h8,h1,h2,_⟩:=hq
 have hn:s.R.now.length≤1000000:=by have:=hf.nowLen;have:=hb.1;exact Nat.le_trans hf.nowLen (by omega)
 have HBP:=hide (besidePath_any 1 (by decide) w h.gl.tab)
 have HT1:=hide (fun (W:World) (hg:StW W sb s cb tb 0 0 (.map []) (.map []))=>isThere_any sb s (bPath 1) W hg.on.sb hg.inn (Nat.le_trans (bPath_size 1 (by decide)) (by decide)))
 have HT2:=hide (fun (W:World) (hg:On W sb s)=>isThere_any sb s pruningP W hg.sb hg.inn (by decide))
 rw [h1] at HT1
 rw [h2] at HT2
 dsimp only [Option.isSome] at HT1 HT2
 have HLD:=hide (fun (W:World) (hg:StW W sb s cb tb 0 0 (.map []) (.map []))=>load_many sb s cb tb indexP t c l W hg (by decide) hrd ht hr hok hrise h8 hn)
 have HRM:=hide (fun (W:World) (hg:On W sb s)=>removeAll_any sb s 141 foreignB W hg hf (hb.mono (by omega) (by omega) (by omega)) (enters_of Tryz.func141 (by kernel_rfl) rfl) hps (fun p W=>(isForeign_any p W).mono (by rintro _ _ ⟨rfl,h⟩;exact ⟨rfl,h⟩)))
 have H:=hide h
 have HF:=hide hf
 have HB:=hide hb
 clear h hf hb hps hrd hr h1 h2 hn hok hrise
 go_enter Tryz.func94,Tryz.ntmps94
 go_wp2_with fail
 refine (HBP.out).mono ?_
 rintro _ w1 ⟨rfl,hb1⟩
 dsimp only
 have HG1:=hide (SGo.of_below (S:=fun k=>k=cb∨k=tb) (s:=s) hb1)
 have HS1:=hide (H.out.later hb1)
 clear hb1 HBP
 go_wp2_with fail
 refine (HT1.out _ HS1.out).mono ?_
 rintro _ w2 ⟨rfl,hg2⟩
 dsimp only
 have HG2:=hide (HG1.out.trans (SGo.of_go hg2))
 have HS2:=hide (HS1.out.go hg2)
 clear hg2 HG1 HS1 HT1
 go_wp2_with fail
 refine (HLD.out _ HS2.out).mono ?_
 rintro _ w3 ⟨rfl,hg3,nc,hnc,hs3⟩
 dsimp only
 have HG3:=hide (HG2.out.trans hg3)
 have HS3:=hide hs3
 clear hg3 hs3 HG2 HS2 HLD
 go_wp2_with fail
 refine (HT2.out _ HS3.out.on).mono ?_
 rintro _ w4 ⟨rfl,hg4⟩
 dsimp only
 have HG4:=hide (HG3.out.trans (SGo.of_go hg4))
 have HS4:=hide (HS3.out.go hg4)
 clear hg4 HG3 HS3 HT2
 go_wp2_with fail
 refine (HRM.out _ HS4.out.on).mono ?_
 rintro _ w5 ⟨ev,k1,m,s1,rfl,hev,hg5,hr5⟩
 dsimp only
 have HG5:=hide (HG4.out.trans (SGo.of_go hg5))
 have HS5:=hide (HS4.out.go hg5)
 have HR5:=hide hr5
 clear hg5 hr5 HG4 HS4 HRM
 rcases hev with ⟨rfl,rfl⟩|⟨hk0,sv,nm,rfl,hsv⟩
 ·have c5:=cell_of_row _ _ 0 _ _ _ HS5.out.blk
  have hrl:=rmS_len foreignB s.R.now
  have HSD:=hide (dkSyncDir s1 w5 HS5.out.inn (HF.out.ran HR5.out) (HB.out.mono (by omega) (by omega) (by have:=szs_le (M:=0) (rmS foreignB s.R.now) (fun t ht=>by obtain ⟨x,_,rfl⟩:=List.mem_map.1 ht;exact Nat.le_refl _);omega)))
  go_wp2_with fail
  refine (HSD.out).mono ?_
  rintro _ w6 ⟨v,k,s2,rfl,hv,hg6,hst⟩
  dsimp only
  have HG6:=hide (HG5.out.trans (SGo.of_go hg6))
  have HS6:=hide (HS5.out.go hg6)
  have HV:=hide hv
  have HST:=hide hst
  clear hg6 hv hst HSD c5
  go_wp2_with fail
  go_ret
  exact ⟨_,k,s2,rfl,HV.out,HG6.out,⟨0,m,s1.ds,HR5.out,.inr ⟨rfl,HST.out⟩⟩,nc,hnc,HS6.out⟩
 ·have HSV:=hide hsv
  clear hsv
  go_wp2_with fail
  go_ret
  exact ⟨_,k1,s1,rfl,.inr ⟨hk0,sv,nm,rfl,HSV.out⟩,HG5.out,⟨k1,m,s1.ds,HR5.out,.inl ⟨hk0,rfl,rfl⟩⟩,nc,hnc,HS5.out⟩
theorem openS_rest (s:PSt) (l:List TE) (w:World) {L C B:Nat} (h:s.In w) (hgl:Gl w) (hlow:LowS s) (hf:DFit s.ds L C B) (hb:Bud (L+s.R.now.length+20) (C+s.R.now.length+20) (B+36)) (hps:∀ e∈s.R.now,e.path.size≤9223372036854775807) (hq:QuI s.ds l) :
  Calls Tryz.prog 50 #[.pointer (some ⟨s.b,0,none⟩)] w fun e w'=>∃ k s' sv ev,e = .returned (.tuple #[sv,ev])∧ErrV w' ev k∧PGo s s' w w'∧GoR s.ds k s'.ds ∧
   (k=0→∃ sb cb tb,sv = .pointer (some ⟨sb,0,none⟩)∧(w.heap.size≤sb∧w.heap.size≤cb∧w.heap.size≤tb)∧StW w' sb s' cb tb (ctF s.R.now).length l.length (cD (ctF s.R.now)) (tD l))∧(k≠0→sv = .pointer none):=by
 obtain ⟨W,hW,hB,hsz,hcm,htm,hblk⟩:=three_maps w s.b
 have hmk1:=fun w=>run_makeMap (P:=Tryz.prog) 156 w
 have hmk2:=fun w=>run_makeMap (P:=Tryz.prog) 157 w
 have hst:StW W (w.heap.size+1+1) s w.heap.size (w.heap.size+1) 0 0 (.map []) (.map []):=⟨h.later hB,hgl.later hB,hlow,hblk,hcm,htm,fun e=>by have:=h.lt e;omega,fun e=>by have:=h.lt e;omega,fun e=>by have:=hgl.lt e;omega,fun e=>by have:=hgl.lt e;omega,fun e=>by have:=hgl.lt e;omega,by omega⟩
 have HB:=hide hB
 have HW:=hide hW
 have HTH:=hide (isThere_any (w.heap.size+1+1) s layoutP W hst.on.sb hst.inn (by decide))
 rw [hq.lay] at HTH
 have HGN:=hide (fun (W':World) (hg:PGo s s W W')=>goOn_many (w.heap.size+1+1) s w.heap.size (w.heap.size+1) l W' (hst.go hg) hq hf hb hps)
 have e1:∀ (args:Array Value) (w:World),(callFunc 92 args).run Tryz.prog w = .ok (.enter 92 args) w:=enters_of Tryz.func92 (by kernel_rfl) rfl
 have e2:∀ (args:Array Value) (w:World),(callFunc 94 args).run Tryz.prog w = .ok (.enter 94 args) w:=enters_of Tryz.func94 (by kernel_rfl) rfl
 clear hst hB hcm htm hblk h hgl hlow hf hb hps hW hq
 go_enter Tryz.func50,Tryz.ntmps50
 go_wp2_with fail
 rw [← HW.out]
 refine (HTH.out).mono ?_
 rintro _ w1 ⟨rfl,hg1⟩
 dsimp only
 have HG1:=hide hg1
 clear hg1 HTH HW hmk1 hmk2
 go_wp2_with fail
 refine (HGN.out _ HG1.out).mono ?_
 rintro _ w2 ⟨ev,k,s',rfl,hev,hg2,hr,nc,hnc,hs2⟩
 dsimp only
 have hpg:PGo s s' w w2:=by
  have g1:=((SGo.of_below (S:=fun k=>k=w.heap.size∨k=w.heap.size+1) (s:=s) HB.out).trans (SGo.of_go HG1.out)).trans hg2
  refine ⟨g1.b,hs2.inn,g1.gr.mono (fun k hk hs=>?_),g1.own⟩
  rcases hs with hs|hs|hs
  ·exact hs
  ·omega
  ·omega
 have HPG:=hide hpg
 have HR:=hide hr
 have HS2:=hide (show StW w2 (w.heap.size+1+1) s' w.heap.size (w.heap.size+1) (ctF s.R.now).length l.length (cD (ctF s.R.now)) (tD l) from ⟨hs2.inn,hs2.gl,hs2.low,hs2.blk,mD_tight hs2.cm,hs2.tm,hs2.ncb,hs2.ntb,hs2.gcb,hs2.gtb,hs2.gsb,hs2.ne⟩)
 clear hg2 hr hs2 hpg
 rcases hev with ⟨rfl,rfl⟩|⟨hk0,sv,nm,rfl,hsv⟩
 ·go_wp2_with fail
  refine bodyPost_ret (results_tmp2 rfl _ _ _) rfl ?_
  exact ⟨0,s',_,_,rfl,.inl ⟨rfl,rfl⟩,HPG.out,HR.out,fun _=>⟨_,_,_,rfl,by omega,HS2.out⟩,fun hk=>absurd rfl hk⟩
 ·have HSV:=hide hsv
  clear hsv
  go_wp2_with fail
  refine bodyPost_ret (results_tmp2 rfl _ _ _) rfl ?_
  exact ⟨k,s',_,_,rfl,.inr ⟨hk0,sv,nm,rfl,HSV.out⟩,HPG.out,HR.out,fun hk=>absurd hk hk0,fun _=>rfl⟩
theorem bOpen_rest (s:PSt) (l:List TE) (w:World) (d:Nat) {L C B:Nat} (h:s.In w) (hgl:Gl w) (hlow:LowS s) (hf:DFit s.ds L C B) (hb:Bud (L+s.R.now.length+20) (C+s.R.now.length+20) (B+36)) (hps:∀ e∈s.R.now,e.path.size≤9223372036854775807) (hq:QuI s.ds l) (hbd:BD w d s.b) :
  Calls Tryz.prog 17 #[.pointer (some ⟨d,0,none⟩)] w fun e w'=>∃ k s' sv,e = .returned (.tuple #[sv,.int .i64 k])∧PGo s s' w w'∧GoR s.ds k s'.ds ∧
   (k=0→∃ xb sb cb tb,sv = .pointer (some ⟨xb,0,none⟩)∧BSt w' xb sb∧(w.heap.size≤sb∧w.heap.size≤cb∧w.heap.size≤tb)∧w.heap.size≤xb∧StW w' sb s' cb tb (ctF s.R.now).length l.length (cD (ctF s.R.now)) (tD l))∧(k≠0→sv = .pointer none) :=
 bOpen_many (RO:=GoR) s w d h hgl hlow (fun W hW=>openS_rest s l W (h.later hW) (hgl.later hW) hlow hf hb hps hq) hbd
set_option maxHeartbeats 4000000
set_option maxRecDepth 100000
open Go.RowKit
def prS (ul:List DV):List Stp:=sRn journalP pruningP::epS ul
def PrR (s:PSt) (sb cb tb nc:Nat) (Dc Dt:DataW Value) (nt:Nat) (ul:List DV) (w:World) (e:Ending) (w':World):Prop :=
 (ul = []∧e = .returned (.tuple #[.int .i64 0,.nilIface])∧Below w.heap.size w w') ∨
 (ul≠[]∧∃ ev k s' m z,e = .returned (.tuple #[.int .i64 z,ev])∧ErrV w' ev k∧(k=0→z=(ul.length:Int))∧SGo (fun k=>k=cb) s s' w w'∧Ran s.ds (prS ul) k m s'.ds∧StW w' sb s' cb tb nc nt (delsD Dc (ul.take (m - 1))) Dt)
theorem prune_any (sb:Nat) (s:PSt) (cb tb nc:Nat) (l:List TE) (cl:List (List Nat)) (dl:List DV) (w:World) {L C B:Nat} (h:StW w sb s cb tb nc l.length (cD cl) (tD l)) (hokt:∀ t∈l,t.Ok) (hok:∀ d∈cl,DigOk d) (hr:RiseK DV.key dl) (hmem:∀ x,x∈dl ↔ x.1∈cl) (hsz:cl.length≤100000000) (hsd:dl.length≤100000000) (hf:DFit s.ds L C B) (hb:Bud (L+dl.length+20) (C+dl.length+20) B) :
  Calls Tryz.prog 77 #[.pointer (some ⟨sb,0,none⟩)] w (PrR s sb cb tb nc (cD cl) (tD l) l.length (unT l dl) w):=by
 have HU:=hide (untagged_any sb s cb tb nc l cl dl w h hokt hok hr hmem hsz hsd)
 have hul:(unT l dl).length≤dl.length:=List.length_filter_le _ _
 generalize unT l dl=ul at HU hul ⊢
 have H:=hide h
 have HF:=hide hf
 have HBU:=hide hb
 clear h hokt hok hr hmem hf hb
 go_enter Tryz.func77,Tryz.ntmps77
 go_wp2_with fail
 refine (HU.out).mono ?_
 rintro _ w1 ⟨v,rfl,hrow,hb1⟩
 dsimp only
 obtain ⟨so,sc,rfl⟩:=own_sl hrow
 have HROW:=hide hrow
 have HB1:=hide hb1
 have H1:=hide (H.out.later hb1)
 clear hrow hb1 HU
 by_cases hul0:ul.length=0
 ·have hn:ul = []:=List.length_eq_zero_iff.1 hul0
  subst hn
  go_wp2_with fail
  refine bodyPost_ret (results_tmp2 rfl _ _ _) rfl ?_
  exact .inl ⟨rfl,rfl,HB1.out⟩
 ·have hz:(((ul.length:Nat):Int) == 0)=false:=by simpa using hul0
  have hz2:¬ ((ul.length:Nat):Int)=0:=by omega
  have c0:=cell_of_row _ _ 0 _ _ _ H1.out.blk
  have HRN:=hide (dkRename s journalP pruningP w1 H1.out.inn HF.out (HBU.out.mono (by omega) (by omega) (Nat.le_refl _)) (by decide) (by decide))
  go_wp2_with fail
  refine (HRN.out).mono ?_
  rintro _ w2 ⟨v,k,s2,rfl,hv,hg,hst⟩
  dsimp only
  have HS2:=hide (H1.out.go hg)
  have HG2:=hide ((SGo.of_below HB1.out).trans (SGo.of_go (S:=fun k=>k=cb) hg))
  have hstr:stR s.ds (sRn journalP pruningP) k s2.ds:=hst
  have HSR:=hide hstr
  have HF2:=hide (HF.out.st hstr)
  have hrow2:w2.ownsRow w.heap.size 117 32 (.slice so ul.length sc) ul.length (ul.flatMap DV.enc):=own_same HROW.out (fun q hk _=>by
   obtain ⟨c,hc⟩:=own_obj HROW.out q hk
   exact hg.gr.block q (lt_heap hc) (fun e=>by have:=H.out.inn.lt e;have:=own_ge HROW.out q hk;omega))
  have hown2:∀ q,(Value.slice so ul.length sc).ownBlock=some q→¬ (s2.own q∨q=cb):=fun q hq e=>by
   obtain ⟨c,hc⟩:=own_obj HROW.out q hq
   have h1:=own_ge HROW.out q hq
   have h2:=lt_heap hc
   rcases e with e|e
   ·rcases hg.own q e with e|e
    ·have:=H.out.inn.lt e;omega
    ·omega
   ·have:=H.out.cm.lt;omega
  clear hst hstr HRN c0
  rcases hv with ⟨h0,rfl⟩|⟨h0,sv,nm,rfl,hse⟩
  ·have HEP:=hide (endPrune_any sb s2 cb tb nc l.length (cD cl) (tD l) w.heap.size so sc ul w2 HS2.out hown2 hrow2 (by omega) HF2.out (HBU.out.mono (by omega) (by omega) (by show B+0≤B;omega)))
   have HK0:=hide h0
   clear h0 hrow2 hown2 hg
   go_wp2_with fail
   refine (HEP.out).mono ?_
   rintro _ w8 ⟨v8,k8,s8,m8,rfl,hv8,hg8,hr8,hst8⟩
   dsimp only
   have HV8:=hide hv8
   have HG8:=hide (HG2.out.trans hg8)
   have HR8:=hide hr8
   have HS8:=hide hst8
   clear hv8 hg8 hr8 hst8 HEP
   go_wp2_with fail
   refine bodyPost_ret (results_tmp2 rfl _ _ _) rfl ?_
   have hr0:stR s.ds (sRn journalP pruningP) 0 s2.ds:=by rw [← HK0.out];exact HSR.out
   exact .inr ⟨fun e=>hul0 (by rw [e];rfl),_,k8,s8,m8+1,_,rfl,HV8.out,fun _=>rfl,HG8.out,⟨0,s2.ds,hr0,.inr ⟨rfl,m8,rfl,HR8.out⟩⟩,HS8.out⟩
  ·have HSE:=hide hse
   clear hse
   go_wp2_with fail
   refine bodyPost_ret (results_tmp2 rfl _ _ _) rfl ?_
   exact .inr ⟨fun e=>hul0 (by rw [e];rfl),_,k,s2,0,_,rfl,.inr ⟨h0,sv,nm,rfl,HSE.out⟩,fun e=>absurd e h0,HG2.out,⟨k,s2.ds,HSR.out,.inl ⟨h0,rfl,rfl,rfl⟩⟩,HS2.out⟩
end Go.Proofs.YtncigfibncmioaaGreatDoor
namespace Go.Proofs.YtncigfibncmioaaGreatDoor
open Go.RowKit
theorem del_rest {D D':DS} {F:List FF} {r:Int} {B:Nat} {k:Int} {m:Nat} {x:FF} (h:Rst D F r B) (hx:x∈F) (hp:isPathB x.p=true) (hr:Ran D [sRm x.p,sSd] k m D'):k=0∧m=2∧Rst D' (delK FF.p x.p F) r B:=by
 obtain ⟨E,m1,hE,rfl,hr1⟩:=hr.step2 (fun X=>Wh X (delK FF.p x.p F) r B) (fun k1 X hs=>h.wh.rm hs hp hx)
 obtain ⟨G,m2,hG,rfl,hr2⟩:=hr1.step2 (fun X=>Wh X (delK FF.p x.p F) r B∧X.R.safe=X.R.now∧X.R.chg = []) (fun k1 X hs=>hE.sd hs)
 obtain ⟨rfl,rfl,rfl⟩:=hr2
 exact ⟨rfl,rfl,hG.1,hG.2.1,hG.2.2,fun y hy=>h.syn y (delK_mem.1 hy).1⟩
def delsF (ul:List DV) (F:List FF):List FF:=ul.foldl (fun F d=>delK FF.p (cPath d.1) F) F
theorem delsF_rise:∀ (ul:List DV) {F:List FF},RiseK FF.p F→RiseK FF.p (delsF ul F)
 | [],_,h=>h
 | d::ul,_,h=>delsF_rise ul (riseK_del (cPath d.1) h)
theorem delsF_mem:∀ (ul:List DV) {F:List FF} {x:FF},x∈delsF ul F ↔ x∈F∧∀ d∈ul,x.p≠cPath d.1
 | [],_,_=>by simp [delsF]
 | d::ul,F,x=>by
  show x∈delsF ul (delK FF.p (cPath d.1) F) ↔ _
  rw [delsF_mem ul,delK_mem]
  constructor
  ·rintro ⟨⟨h1,h2⟩,h3⟩
   exact ⟨h1,fun e he=>by
    rcases List.mem_cons.1 he with rfl|he
    ·exact h2
    ·exact h3 e he⟩
  ·rintro ⟨h1,h2⟩
   exact ⟨⟨h1,h2 d (by simp)⟩,fun e he=>h2 e (by simp [he])⟩
theorem rm_many:∀ (ul:List DV) (rest:List Stp) {D D':DS} {F:List FF} {r:Int} {B:Nat} {k:Int} {m:Nat},Wh D F r B→ul.Nodup→(∀ d∈ul,∃ x∈F,x.p=cPath d.1)→Ran D (rmC ul++rest) k m D'→∃ D1 m',Wh D1 (delsF ul F) r B∧m=ul.length+m'∧Ran D1 rest k m' D'
 | [],rest,D,D',F,r,B,k,m,h,_,_,hr=>⟨D,m,h,by simp,hr⟩
 | d::ul,rest,D,D',F,r,B,k,m,h,hn,hin,hr=>by
  obtain ⟨x,hx,hp⟩:=hin d (by simp)
  obtain ⟨n1,n2⟩:=List.nodup_cons.1 hn
  obtain ⟨E,m1,hE,rfl,hr1⟩:=Ran.step2 (fun X=>Wh X (delK FF.p (cPath d.1) F) r B) hr (fun k1 X hs=>by
   have:=h.rm (x:=x) (by rw [hp];exact hs) (by rw [hp];exact cP_path _) hx
   rwa [hp] at this)
  obtain ⟨D1,m',h1,rfl,h3⟩:=rm_many ul rest hE n2 (fun e he=>by
   obtain ⟨y,hy,hq⟩:=hin e (by simp [he])
   exact ⟨y,delK_mem.2 ⟨hy,fun h4=>n1 (by
    have:e=d:=Subtype.ext (cP_inj e.2 d.2 (hq.symm.trans h4))
    rw [← this]
    exact he)⟩,hq⟩) hr1
  exact ⟨D1,m',h1,by simp only [List.length_cons];omega,h3⟩
theorem prune_rest {D D':DS} {F:List FF} {r:Int} {B:Nat} {k:Int} {m:Nat} {t:ByteArray} {y:Int} {ul:List DV} (h:Rst D F r B) (hj:(⟨journalP,t,y⟩ : FF)∈F) (hpr:findK FF.p pruningP F=none) (hn:ul.Nodup) (hin:∀ d∈ul,∃ x∈F,x.p=cPath d.1) (hr:Ran D (prS ul) k m D') :
  k=0∧m=ul.length+3∧Rst D' (delsF ul F) r B:=by
 have hjp:isPathB journalP=true:=by decide
 have hpp:isPathB pruningP=true:=by decide
 have hne:journalP≠pruningP:=by decide
 have hcj:∀ d:DV,journalP≠cPath d.1:=fun d=>Ne.symm (less_ne (cP_journal d.1))
 have hcp:∀ d:DV,pruningP≠cPath d.1:=fun d=>Ne.symm (less_ne (by rw [less_eq,cP_data];rfl))
 have hrF:=h.wh.riseF
 obtain ⟨E,m1,hE,rfl,hr1⟩:=Ran.step2 (fun X=>Wh X (insK FF.p ⟨pruningP,t,y⟩ (delK FF.p journalP F)) r B) hr (fun k1 X hs=>h.wh.rn hs hjp hpp hne hj)
 have r1:=riseK_ins (key:=FF.p) ⟨pruningP,t,y⟩ (riseK_del journalP hrF)
 obtain ⟨G,m2,hG,rfl,hr2⟩:=rm_many ul [sRn pruningP journalP,sSd] hE hn (fun d hd=>by
  obtain ⟨x,hx,hp⟩:=hin d hd
  exact ⟨x,mem_ins_old (riseK_del _ hrF) (mem_del hx (by rw [hp];exact Ne.symm (hcj d))) (by rw [hp];exact Ne.symm (hcp d)),hp⟩) hr1
 have hpm:(⟨pruningP,t,y⟩ : FF)∈delsF ul (insK FF.p ⟨pruningP,t,y⟩ (delK FF.p journalP F)):=(delsF_mem ul).2 ⟨mem_ins (riseK_del _ hrF) _,fun d _=>hcp d⟩
 obtain ⟨I,m3,hI,rfl,hr3⟩:=hr2.step2 (fun X=>Wh X (insK FF.p ⟨journalP,t,y⟩ (delK FF.p pruningP (delsF ul (insK FF.p ⟨pruningP,t,y⟩ (delK FF.p journalP F))))) r B) (fun k1 X hs=>hG.rn hs hpp hjp (Ne.symm hne) hpm)
 have he:insK FF.p ⟨journalP,t,y⟩ (delK FF.p pruningP (delsF ul (insK FF.p ⟨pruningP,t,y⟩ (delK FF.p journalP F))))=delsF ul F:=by
  have r2:=delsF_rise ul r1
  refine riseK_same (riseK_ins _ (riseK_del _ r2)) (delsF_rise ul hrF) (fun x=>?_)
  rw [insK_mem_iff (fun a ha e=>?_) (riseK_del _ r2),delK_mem,delsF_mem,delsF_mem,insK_mem_iff (fun a ha e=>?_) (riseK_del _ hrF),delK_mem]
  ·constructor
   ·rintro (rfl|⟨⟨h1|h1,h2⟩,h3⟩)
    ·exact ⟨hj,fun d _=>hcj d⟩
    ·rw [h1] at h3
     exact absurd rfl h3
    ·exact ⟨h1.1,h2⟩
   ·rintro ⟨h1,h2⟩
    by_cases hxj:x.p=journalP
    ·left
     exact riseK_inj hrF h1 hj hxj
    ·right
     refine ⟨⟨.inr ⟨h1,hxj⟩,h2⟩,fun hxp=>?_⟩
     exact findK_none hpr x h1 hxp
  ·exact absurd e (findK_none hpr a (delK_mem.1 ha).1)
  ·have h1:=((delsF_mem ul).1 (delK_mem.1 ha).1).1
   rcases insK_mem h1 with h2|h2
   ·rw [h2] at e
    exact absurd e.symm hne
   ·exact absurd e (delK_mem.1 h2).2
 rw [he] at hI
 obtain ⟨K,m4,hK,rfl,hr4⟩:=hr3.step2 (fun X=>Wh X (delsF ul F) r B∧X.R.safe=X.R.now∧X.R.chg = []) (fun k1 X hs=>hI.sd hs)
 obtain ⟨rfl,rfl,rfl⟩:=hr4
 exact ⟨rfl,by omega,hK.1,hK.2.1,hK.2.2,fun z hz=>h.syn z ((delsF_mem ul).1 hz).1⟩
def putF (fl:List (ByteArray × ByteArray)) (F:List FF):List FF:=fl.foldl (fun F f=>insK FF.p (ff f.1 f.2) F) F
def totF (fl:List (ByteArray × ByteArray)):Nat:=(fl.map fun f=>f.2.size).sum
theorem wrz_rest {D D':DS} {F:List FF} {r:Int} {B:Nat} {k:Int} {fl:List (ByteArray × ByteArray)} (h:Rst D F r B) (h0:findK FF.p p0 F=none) (h1:findK FF.p p1 F=none) (hfl:fl.length≤2) (hok:∀ f∈fl,isPathB f.1=true∧p0≠f.1∧p1≠f.1∧f.2.size≤B) (hw:WrZ D fl k D') :
  (k=0∧Rst D' (putF fl F) r B∧(fl≠[]→(sumF F:Int)+(totF fl:Int)≤r))∨(fl≠[]∧r<(sumF F:Int)+(totF fl:Int)∧k=4∧Rst D' F r B):=by
 unfold WrZ at hw
 match fl,hfl,hok,hw with
 | [],_,_,hw =>
  rw [if_pos rfl] at hw
  obtain ⟨rfl,rfl⟩:=hw
  exact .inl ⟨rfl,h,fun h=>absurd rfl h⟩
 | [(c,b)],_,hok,hw =>
  rw [if_neg (by simp)] at hw
  obtain ⟨a1,a2,a3,a4⟩:=hok (c,b) (by simp)
  have e:totF [(c,b)]=b.size:=by simp [totF]
  rw [e]
  rcases wr_one h h0 a1 a2 a4 hw with ⟨x1,x2,x3⟩|⟨x1,x2,x3⟩
  ·exact .inl ⟨x2,x3,fun _=>x1⟩
  ·exact .inr ⟨by simp,x1,x2,x3⟩
 | [(c,b),(q,X)],_,hok,hw =>
  rw [if_neg (by simp)] at hw
  obtain ⟨a1,a2,a3,a4⟩:=hok (c,b) (by simp)
  obtain ⟨b1,b2,b3,b4⟩:=hok (q,X) (by simp)
  have e:totF [(c,b),(q,X)]=b.size+X.size:=by simp [totF]
  rw [e]
  rcases wr_two h h0 h1 a1 b1 a2 a3 b2 b3 a4 b4 hw with ⟨x1,x2,x3⟩|⟨x1,x2,x3⟩
  ·have x4:(sumF F:Int)+(b.size:Int)+(X.size:Int)≤r:=x1
   exact .inl ⟨x2,x3,fun _=>by rw [Int.natCast_add];omega⟩
  ·have x4:r<(sumF F:Int)+(b.size:Int)+(X.size:Int):=x1
   exact .inr ⟨by simp,by rw [Int.natCast_add];omega,x2,x3⟩
 | _::_::_::_,hfl,_,_=>simp at hfl
end Go.Proofs.YtncigfibncmioaaGreatDoor
namespace Go.Proofs.YtncigfibncmioaaGreatDoor
set_option maxHeartbeats 4000000
set_option maxRecDepth 100000
open Go.RowKit Go.MuLone
theorem bDel_any (xb sb:Nat) (s:PSt) (cb tb nc:Nat) (Dc:DataW Value) (l:List TE) (text:ByteArray) (w:World) (hx:BSt w xb sb) (hG:¬ isG xb) (h:StW w sb s cb tb nc l.length Dc (tD l)) {L C B:Nat} (hok:∀ t∈l,t.Ok) (hu:UnitC Dc) (hdig:isDigB text=true) (hh:Maps.has Dc (dKey (rd text))=true) (hmay:tagd (rd text) l=false) (hf:DFit s.ds L C B) (hb:Bud (L+10) (C+10) B) :
  Calls Tryz.prog 39 #[.pointer (some ⟨xb,0,none⟩),.string text] w fun e w'=>∃ k s' m,e = .returned (.int .i64 k)∧SGo (sS xb sb cb) s s' w w'∧BSt w' xb sb∧Ran s.ds [sRm (cPath (rd text)),sSd] k m s'.ds∧((m=0∧k≠0∧StW w' sb s' cb tb nc l.length Dc (tD l))∨(0<m∧StW w' sb s' cb tb nc l.length (Dc.del (dKey (rd text))) (tD l))):=by
 have hx:BLk w xb sb 0:=hx
 have c0:w.cell? ⟨xb,0,none⟩=some (.int .i32 0):=cell_of_row _ _ 0 _ _ _ hx
 have f0:w.frozen? ⟨xb,0,none⟩=false:=frozen_of_row _ _ 0 _ _ hx
 obtain ⟨W,hW⟩ : ∃ W,W=w.setCell ⟨xb,0,none⟩ (.int .i32 1):=⟨_,rfl⟩
 have hst:StW W sb s cb tb nc l.length Dc (tD l):=by rw [hW];exact h.lock hx hG
 have hxw:BLk W xb sb 1:=by rw [hW];exact hx.set 1
 have hfw:SGo (sS xb sb cb) s s w W:=by rw [hW];exact SGo.lock
 have HFD:=hide (find_there xb sb s cb tb nc l.length Dc (tD l) text 1 W hxw hst hu hdig hh)
 have HMT:=hide (fun W' (hb':Below W.heap.size W W')=>isTagged_any sb s cb tb nc Dc l (rd text) W' (hst.later hb') hok (rd_len text) (rd_lt text))
 rw [hmay] at HMT
 have HPB:=hide (fun W' (hb':Below W.heap.size W W')=>delete_any sb s cb tb nc l.length Dc (tD l) (rd text) W' (hst.later hb') (rd_len text) (rd_lt text) hf hb)
 have hds:=rd_len text
 have hlt:=rd_lt text
 generalize rd text=ds at *
 have HLK:=hide (lock_free Tryz.muLib ⟨xb,0,none⟩ w c0 f0)
 have HW:=hide hW
 have HST:=hide hst
 have HXW:=hide hxw
 have HFW:=hide hfw
 have c2:W.cell? ⟨xb,2,none⟩=some (.pointer (some ⟨sb,0,none⟩)):=cell_of_row _ _ 2 _ _ _ hxw
 clear hx c0 f0 hst hxw hfw hW h hu hdig hh hok hmay hf hb
 go_enter_defers Tryz.func39,Tryz.ntmps39
 go_wp2_with fail
 refine (HLK.out).mono ?_
 rintro _ W1 ⟨rfl,hW1⟩
 have hW1:W1=W:=hW1.trans HW.out.symm
 rw [hW1]
 dsimp only
 clear hW1 HLK HW
 go_wp2_with fail
 refine (HFD.out).mono ?_
 rintro _ w3 ⟨rfl,hb3⟩
 dsimp only
 obtain ⟨X,hX⟩ : ∃ X,X=w3.alloc (.cells (cells8 ds) 117):=⟨_,rfl⟩
 have hbX:Below w3.heap.size w3 X:=by rw [hX];exact (Below.refl _ _).alloc (Nat.le_refl _) _
 have hXr:X.heap[w3.heap.size]? = some (.cells (cells8 ds) 117 (0,0)):=by rw [hX];exact heap_alloc_new _ _
 have hb4:Below W.heap.size W X:=hb3.trans (hbX.mono hb3.size)
 have c3:=cell_later hb4 c2
 have HX3:=hide (HXW.out.later hb4)
 have HF3:=hide (HFW.out.trans (SGo.of_below hb4))
 have HS3:=hide (HST.out.later hb4)
 have HXR:=hide hXr
 have HXX:=hide hX
 have HW3:=hide hb3.size
 clear hX hbX hXr hb3
 go_wp2_with (first|(refine wpList_store_row rfl 117 _ _ rfl w3.heap.size (cells8 ds) rfl rfl 117 _ (heap_alloc_new _ _) (size40 _ hds) (by first|rfl|(rw [cells8_size,hds];rfl)|(rw [cells8_size,cells8_size,hds];rfl)) (cells8_one _) ?_;rw [World.setRow_alloc_new,← HXX.out])|(refine wpList_load_row rfl 117 _ rfl w3.heap.size rfl 117 _ _ _ HXR.out Tryz.underlying117 rfl (size40 _ hds) ?_))
 have hdr:Below X.heap.size X X.drew:=(Below.refl _ _).drew
 have hrd0:=(hdr.block _ (lt_heap HXR.out)).trans HXR.out
 obtain ⟨yb,hyb⟩ : ∃ yb,yb=w3.heap.size:=⟨_,rfl⟩
 rw [← hyb] at HXR hrd0 ⊢
 have hS0:X.drew.cell? ⟨xb,2,none⟩=some (.pointer (some ⟨sb,0,none⟩))∧X.drew.rangeAt yb 0 (cells8 ds).toList:=⟨cell_later hdr c3,con_r hrd0⟩
 have u72:=Tryz.underlying117
 have i72:=size72 ds hds
 have hb4d:=hb4.trans (hdr.mono hb4.size)
 have HYB:=hide hyb
 clear hyb
 go_region_held3 (fun w'=>w'.cell? ⟨xb,2,none⟩=some (.pointer (some ⟨sb,0,none⟩))∧w'.rangeAt yb 0 (cells8 ds).toList) (first|exact hS0|exact hS1|go_keep) ((first|(go_at_call 75;refine (HMT.out _ hb4d).mono ?_;rintro _ w5 ⟨rfl,hb5⟩;have hS1:w5.cell? ⟨xb,2,none⟩=some (.pointer (some ⟨sb,0,none⟩))∧w5.rangeAt yb 0 (cells8 ds).toList:=⟨cell_later hb5 (cell_later hdr c3),con_r ((hb5.block _ (lt_heap hrd0)).trans hrd0)⟩)))
 have hb5x:Below X.heap.size X w5:=hdr.trans hb5
 have HXR5:=hide ((hb5.block _ (lt_heap hrd0)).trans hrd0)
 have HX5:=hide (HX3.out.later hb5x)
 have HF5:=hide (HF3.out.trans (SGo.of_below hb5x))
 have HS5:=hide (HS3.out.later hb5x)
 have HB6:=hide (hb4.trans (hb5x.mono hb4.size))
 clear hS0 hS1 hb5 hb5x hb4 hb4d hdr hrd0 u72 i72 HMT HFD c2 c3
 have c5:w5.cell? ⟨xb,2,none⟩=some (.pointer (some ⟨sb,0,none⟩)):=cell_of_row _ _ 2 _ _ _ HX5.out
 go_wp2_with fail
 have hdr:Below w5.heap.size w5 w5.drew:=(Below.refl _ _).drew
 have hrd0:=(hdr.block _ (lt_heap HXR5.out)).trans HXR5.out
 have hyb0:W.heap.size≤yb:=by rw [HYB.out];exact HW3.out
 have hS0:w5.drew.cell? ⟨xb,2,none⟩=some (.pointer (some ⟨sb,0,none⟩))∧w5.drew.rangeAt yb 0 (cells8 ds).toList:=⟨cell_later hdr c5,con_r hrd0⟩
 have u72:=Tryz.underlying117
 have i72:=size72 ds hds
 have hb6d:=HB6.out.trans (hdr.mono HB6.out.size)
 have HX6:=hide (HX5.out.later hdr)
 have HS6:=hide (HS5.out.later hdr)
 have HF6:=hide (HF5.out.trans (SGo.of_below hdr))
 have hnown:¬ (s.own yb∨yb=cb):=fun e=>by
  rcases e with e|e
  ·have:=HST.out.inn.lt e;omega
  ·have:=HST.out.cm.lt;omega
 go_region_held3 (fun w'=>w'.cell? ⟨xb,2,none⟩=some (.pointer (some ⟨sb,0,none⟩))∧w'.rangeAt yb 0 (cells8 ds).toList) (first|exact hS0|exact hS1|exact hS2|go_keep) ((first|(go_at_call 76;refine (HPB.out _ hb6d).mono ?_;rintro _ w4 ⟨ev,k,s',m,rfl,hev,hft,hwr,h40⟩;have hx7:=HX6.out.sgo HS6.out hft (fun k hk=>.inr hk);have hr7:=(hft.gr.block _ (lt_heap hrd0) hnown).trans hrd0;have hS1:w4.cell? ⟨xb,2,none⟩=some (.pointer (some ⟨sb,0,none⟩))∧w4.rangeAt yb 0 (cells8 ds).toList:=⟨cell_of_row _ _ 2 _ _ _ hx7,con_r hr7⟩;have hg4:Gl w4:=h40.elim (fun h=>h.2.2.gl) (fun h=>h.2.gl))|(go_at_call 51;refine (errno_ev hev hg4.err).mono ?_;rintro _ w8 ⟨rfl,hb8⟩;have hS2:w8.cell? ⟨xb,2,none⟩=some (.pointer (some ⟨sb,0,none⟩))∧w8.rangeAt yb 0 (cells8 ds).toList:=⟨cell_later hb8 hS1.1,con_r ((hb8.block _ (lt_heap hr7)).trans hr7)⟩)))
 have HX8:=hide (hx7.later hb8)
 have HF8:=hide ((HF6.out.trans (hft.st (xb:=xb) (cb:=cb) (fun k hk=>.inr hk))).trans (SGo.of_below hb8))
 have HB8:=hide hb8
 have HWR:=hide hwr
 have H40:=hide h40
 clear hS0 hS1 hS2 hx7 hr7 hb8 hev hft hwr h40 hg4 hb6d hdr hrd0 u72 i72 HPB c5
 go_wp2_with fail
 refine leaves_cons (f:=58) (args:=#[.pointer (some ⟨xb,0,none⟩)]) (by simp) (by simp [go_sem]) ?_
 refine (unlock_deferred Tryz.muLib ⟨xb,0,none⟩ .returning _ (cell_of_row _ _ 0 _ _ _ HX8.out) (frozen_of_row _ _ 0 _ _ HX8.out)).mono ?_
 rintro e u' w6 ⟨rfl,rfl,rfl⟩
 exact ⟨_,results_tmp rfl _ _ _,k,s',m,rfl,HF8.out.trans SGo.lock,HX8.out.set 0,HWR.out,H40.out.imp (fun h=>⟨h.1,h.2.1,(h.2.2.later HB8.out).lock HX8.out hG⟩) (fun h=>⟨h.1,(h.2.later HB8.out).lock HX8.out hG⟩)⟩
set_option maxHeartbeats 4000000
set_option maxRecDepth 100000
open Go.RowKit Go.MuLone
theorem bPrune_any (xb sb:Nat) (s:PSt) (cb tb nc:Nat) (l:List TE) (cl:List (List Nat)) (dl:List DV) (w:World) (hx:BSt w xb sb) (hG:¬ isG xb) (h:StW w sb s cb tb nc l.length (cD cl) (tD l)) {L C B:Nat} (hokt:∀ t∈l,t.Ok) (hok:∀ d∈cl,DigOk d) (hr:RiseK DV.key dl) (hmem:∀ x,x∈dl ↔ x.1∈cl) (hsz:cl.length≤100000000) (hsd:dl.length≤100000000) (hf:DFit s.ds L C B) (hb:Bud (L+dl.length+20) (C+dl.length+20) B) :
  Calls Tryz.prog 40 #[.pointer (some ⟨xb,0,none⟩)] w fun e w'=>∃ k s',e = .returned (.tuple #[.int .i64 (if k=0 then ((unT l dl).length:Int) else 0),.int .i64 k])∧SGo (sS xb sb cb) s s' w w'∧BSt w' xb sb ∧
   ((unT l dl = []∧k=0∧s'=s∧StW w' sb s cb tb nc l.length (cD cl) (tD l))∨(unT l dl≠[]∧∃ m,Ran s.ds (prS (unT l dl)) k m s'.ds∧StW w' sb s' cb tb nc l.length (delsD (cD cl) ((unT l dl).take (m - 1))) (tD l))):=by
 have hx:BLk w xb sb 0:=hx
 have c0:w.cell? ⟨xb,0,none⟩=some (.int .i32 0):=cell_of_row _ _ 0 _ _ _ hx
 have f0:w.frozen? ⟨xb,0,none⟩=false:=frozen_of_row _ _ 0 _ _ hx
 obtain ⟨W,hW⟩ : ∃ W,W=w.setCell ⟨xb,0,none⟩ (.int .i32 1):=⟨_,rfl⟩
 have hst:StW W sb s cb tb nc l.length (cD cl) (tD l):=by rw [hW];exact h.lock hx hG
 have hxw:BLk W xb sb 1:=by rw [hW];exact hx.set 1
 have hfw:SGo (sS xb sb cb) s s w W:=by rw [hW];exact SGo.lock
 have HPB:=hide (prune_any sb s cb tb nc l cl dl W hst hokt hok hr hmem hsz hsd hf hb)
 generalize unT l dl=ul at HPB ⊢
 have HLK:=hide (lock_free Tryz.muLib ⟨xb,0,none⟩ w c0 f0)
 have HW:=hide hW
 have HST:=hide hst
 have HXW:=hide hxw
 have HFW:=hide hfw
 have c2:W.cell? ⟨xb,2,none⟩=some (.pointer (some ⟨sb,0,none⟩)):=cell_of_row _ _ 2 _ _ _ hxw
 clear hx c0 f0 hst hxw hfw hW h hokt hok hr hmem hf hb
 go_enter_defers Tryz.func40,Tryz.ntmps40
 go_wp2_with fail
 refine (HLK.out).mono ?_
 rintro _ W1 ⟨rfl,hW1⟩
 have hW1:W1=W:=hW1.trans HW.out.symm
 rw [hW1]
 dsimp only
 clear hW1 HLK HW
 go_wp2_with fail
 refine (HPB.out).mono ?_
 rintro e w4 hpr
 rcases hpr with ⟨hn,rfl,hb4⟩|⟨hn,ev,k,s',m,z,rfl,hev,hz,hft,hran,hstw⟩
 ·dsimp only
  have HX4:=hide (HXW.out.later hb4)
  have HF4:=hide (HFW.out.trans (SGo.of_below hb4))
  have HS4:=hide (HST.out.later hb4)
  have HNN:=hide hn
  clear hb4 HPB hn c2
  go_wp2_with fail
  refine leaves_cons (f:=58) (args:=#[.pointer (some ⟨xb,0,none⟩)]) (by simp) (by simp [go_sem]) ?_
  refine (unlock_deferred Tryz.muLib ⟨xb,0,none⟩ .returning _ (cell_of_row _ _ 0 _ _ _ HX4.out) (frozen_of_row _ _ 0 _ _ HX4.out)).mono ?_
  rintro e u' w6 ⟨rfl,rfl,rfl⟩
  exact ⟨_,results_tmp2 rfl _ _ _,0,s,by rw [HNN.out];rfl,HF4.out.trans SGo.lock,HX4.out.set 0,.inl ⟨HNN.out,rfl,rfl,HS4.out.lock HX4.out hG⟩⟩
 ·dsimp only
  have HX4:=hide (HXW.out.sgo HST.out hft (fun k hk=>.inr hk))
  have HF4:=hide (HFW.out.trans (hft.st (xb:=xb) (cb:=cb) (fun k hk=>.inr hk)))
  have HS4:=hide hstw
  have HRN:=hide hran
  have HZ:=hide hz
  have HNN:=hide hn
  have hg4:=hstw.gl
  clear hft hstw hran hz hn HPB c2
  rcases hev with ⟨rfl,rfl⟩|⟨hk0,sv,nm,rfl,hse⟩
  ·clear hg4
   go_wp2_with fail
   refine leaves_cons (f:=58) (args:=#[.pointer (some ⟨xb,0,none⟩)]) (by simp) (by simp [go_sem]) ?_
   refine (unlock_deferred Tryz.muLib ⟨xb,0,none⟩ .returning _ (cell_of_row _ _ 0 _ _ _ HX4.out) (frozen_of_row _ _ 0 _ _ HX4.out)).mono ?_
   rintro e u' w6 ⟨rfl,rfl,rfl⟩
   exact ⟨_,results_tmp2 rfl _ _ _,0,by rw [HZ.out trivial];rfl,s',HF4.out.trans SGo.lock,HX4.out.set 0,.inr ⟨HNN.out,m,HRN.out,HS4.out.lock HX4.out hG⟩⟩
  ·have HER:=hide (errno_ev (.inr ⟨hk0,sv,nm,rfl,hse⟩) hg4.err)
   have HK0:=hide hk0
   clear hse hg4 hk0
   go_wp2_with fail
   refine (HER.out).mono ?_
   rintro _ w5 ⟨rfl,hb5⟩
   dsimp only
   have HX5:=hide (HX4.out.later hb5)
   have HF5:=hide (HF4.out.trans (SGo.of_below hb5))
   have HS5:=hide (HS4.out.later hb5)
   clear hb5 HER HX4 HF4 HS4
   go_wp2_with fail
   refine leaves_cons (f:=58) (args:=#[.pointer (some ⟨xb,0,none⟩)]) (by simp) (by simp [go_sem]) ?_
   refine (unlock_deferred Tryz.muLib ⟨xb,0,none⟩ .returning _ (cell_of_row _ _ 0 _ _ _ HX5.out) (frozen_of_row _ _ 0 _ _ HX5.out)).mono ?_
   rintro e u' w6 ⟨rfl,rfl,rfl⟩
   exact ⟨_,results_tmp2 rfl _ _ _,k,s',by rw [if_neg HK0.out];rfl,HF5.out.trans SGo.lock,HX5.out.set 0,.inr ⟨HNN.out,m,HRN.out,HS5.out.lock HX5.out hG⟩⟩
end Go.Proofs.YtncigfibncmioaaGreatDoor
namespace Go.Proofs.YtncigfibncmioaaGreatDoor
open Go.RowKit
theorem dOfB_ok (b:ByteArray):DigOk (dOfB b):=⟨dOfB_len b,dOfB_lt b⟩
def kC (b:ByteArray):ByteArray:=cPath (dOfB b)
structure Sto where
 cs:List ByteArray
 tg:List TE
def fC (b:ByteArray):FF:=ff (kC b) b
def tailF (l:List TE):List FF:=[ff indexP (idxX l),ff journalP ⟨#[]⟩,ff layoutP layoutT]
def fA (A:Sto):List FF:=A.cs.map fC++tailF A.tg
def szA (A:Sto):Nat:=sumF (fA A)
structure GoodA (A:Sto):Prop where
 rise:RiseK kC A.cs
 sz:∀ b∈A.cs,b.size≤300
 tr:RiseT A.tg
 tok:∀ t∈A.tg,t.Ok
 t8:A.tg.length≤8
 tin:∀ t∈A.tg,∃ b∈A.cs,t.d=dOfB b∧t.z=(b.size:Int)
 ttag:∀ t∈A.tg,isTagB t.n=true
theorem kC_index (b:ByteArray):kC b≠indexP:=less_ne (cP_index _)
theorem kC_journal (b:ByteArray):kC b≠journalP:=less_ne (cP_journal _)
theorem kC_layout (b:ByteArray):kC b≠layoutP:=less_ne (cP_layout _)
theorem kC_pruning (b:ByteArray):kC b≠pruningP:=less_ne (by unfold kC;rw [less_eq,cP_data];rfl)
theorem kC_p0 (b:ByteArray):p0≠kC b:=less_ne (by unfold kC;rw [less_eq,cP_data];rfl)
theorem kC_p1 (b:ByteArray):p1≠kC b:=less_ne (by unfold kC;rw [less_eq,cP_data];rfl)
theorem kC_inj {a b:ByteArray} (h:kC a=kC b):dOfB a=dOfB b:=cP_inj (dOfB_ok a) (dOfB_ok b) h
theorem tailF_rise (l:List TE):RiseK FF.p (tailF l):=by
 have h1:lessB indexP journalP=true:=by rw [less_eq];rfl
 have h2:lessB indexP layoutP=true:=by rw [less_eq];rfl
 have h3:lessB journalP layoutP=true:=by rw [less_eq];rfl
 unfold tailF RiseK
 refine List.pairwise_cons.2 ⟨fun x hx=>?_,List.pairwise_cons.2 ⟨fun x hx=>?_,List.pairwise_cons.2 ⟨fun x hx=>(by cases hx),List.Pairwise.nil⟩⟩⟩
 ·simp only [List.mem_cons,List.not_mem_nil,or_false] at hx
  rcases hx with rfl|rfl
  ·exact h1
  ·exact h2
 ·simp only [List.mem_cons,List.not_mem_nil,or_false] at hx
  subst hx
  exact h3
theorem tail_mem {l:List TE} {x:FF} (h:x∈tailF l):x=ff indexP (idxX l)∨x=ff journalP ⟨#[]⟩∨x=ff layoutP layoutT:=by
 simpa [tailF] using h
theorem fA_rise {A:Sto} (h:RiseK kC A.cs):RiseK FF.p (fA A):=by
 unfold fA RiseK
 rw [List.pairwise_append]
 refine ⟨?_,tailF_rise _,fun x hx y hy=>?_⟩
 ·rw [List.pairwise_map]
  exact h
 ·obtain ⟨b,_,rfl⟩:=List.mem_map.1 hx
  rcases tail_mem hy with rfl|rfl|rfl
  ·exact cP_index _
  ·exact cP_journal _
  ·exact cP_layout _
theorem findK_app {α:Type} {key:α→ByteArray} (n:ByteArray):∀ l m:List α,findK key n (l++m)=(findK key n l).or (findK key n m)
 | [],m=>rfl
 | e::l,m=>by
  rw [List.cons_append,findK_cons,findK_cons,findK_app n l m]
  by_cases h:key e=n
  ·simp [h]
  ·simp [h]
theorem findK_fC (n:ByteArray):∀ l:List ByteArray,findK FF.p n (l.map fC)=(findK kC n l).map fC
 | []=>rfl
 | b::l=>by
  rw [List.map_cons,findK_cons,findK_cons,findK_fC n l]
  show (if kC b=n then _ else _)=_
  by_cases h:kC b=n
  ·simp [h]
  ·simp [h]
theorem find_fA (A:Sto) (n:ByteArray):findK FF.p n (fA A)=((findK kC n A.cs).map fC).or (findK FF.p n (tailF A.tg)):=by
 unfold fA
 rw [findK_app,findK_fC]
theorem find_kC_out {l:List ByteArray} {n:ByteArray} (h:∀ b,kC b≠n):findK kC n l=none:=findK_out fun b _=>h b
theorem tail_out {l:List TE} {n:ByteArray} (h1:indexP≠n) (h2:journalP≠n) (h3:layoutP≠n):findK FF.p n (tailF l)=none:=findK_out fun x hx=>by
 rcases tail_mem hx with rfl|rfl|rfl
 ·exact h1
 ·exact h2
 ·exact h3
theorem find_content (A:Sto) (d:List Nat):findK FF.p (cPath d) (fA A)=(findK kC (cPath d) A.cs).map fC:=by
 rw [find_fA,tail_out (Ne.symm (less_ne (cP_index _))) (Ne.symm (less_ne (cP_journal _))) (Ne.symm (less_ne (cP_layout _)))]
 simp
theorem find_p0 (A:Sto):findK FF.p p0 (fA A)=none:=by
 rw [find_fA,find_kC_out (fun b=>Ne.symm (kC_p0 b)),tail_out (by decide) (by decide) (by decide)]
 rfl
theorem find_p1 (A:Sto):findK FF.p p1 (fA A)=none:=by
 rw [find_fA,find_kC_out (fun b=>Ne.symm (kC_p1 b)),tail_out (by decide) (by decide) (by decide)]
 rfl
theorem find_pruning (A:Sto):findK FF.p pruningP (fA A)=none:=by
 rw [find_fA,find_kC_out (fun b=>kC_pruning b),tail_out (by decide) (by decide) (by decide)]
 rfl
theorem fA_ins {A:Sto} (h:RiseK kC A.cs) (b:ByteArray):insK FF.p (fC b) (fA A)=fA ⟨insK kC b A.cs,A.tg⟩:=by
 refine riseK_ext (riseK_ins _ (fA_rise h)) (fA_rise (A:=⟨insK kC b A.cs,A.tg⟩) (riseK_ins b h)) (fun n=>?_)
 rw [findK_ins _ _ (fA_rise h),find_fA,find_fA,findK_ins _ _ h]
 show (if n=kC b then _ else _)=_
 by_cases hn:n=kC b
 ·simp [hn]
 ·simp only [if_neg hn]
theorem fA_tags {A:Sto} (h:RiseK kC A.cs) (l:List TE):insK FF.p (ff indexP (idxX l)) (fA A)=fA ⟨A.cs,l⟩:=by
 refine riseK_ext (riseK_ins _ (fA_rise h)) (fA_rise (A:=⟨A.cs,l⟩) h) (fun n=>?_)
 rw [findK_ins _ _ (fA_rise h),find_fA,find_fA]
 show (if n=indexP then _ else _)=_
 by_cases hn:n=indexP
 ·subst hn
  rw [if_pos rfl,find_kC_out (fun b=>kC_index b)]
  unfold tailF
  rw [findK_cons,if_pos (show (ff indexP (idxX l)).p=indexP from rfl)]
  rfl
 ·rw [if_neg hn]
  unfold tailF
  rw [findK_cons,if_neg (show ¬ (ff indexP (idxX A.tg)).p=n from Ne.symm hn),findK_cons (e:=ff indexP (idxX l)),if_neg (show ¬ (ff indexP (idxX l)).p=n from Ne.symm hn)]
theorem fA_del {A:Sto} (h:RiseK kC A.cs) (b:ByteArray):delK FF.p (kC b) (fA A)=fA ⟨delK kC (kC b) A.cs,A.tg⟩:=by
 refine riseK_ext (riseK_del _ (fA_rise h)) (fA_rise (A:=⟨delK kC (kC b) A.cs,A.tg⟩) (riseK_del _ h)) (fun n=>?_)
 rw [findK_del,find_fA,find_fA,findK_del]
 by_cases hn:n=kC b
 ·subst hn
  simp only [if_true]
  rw [tail_out (Ne.symm (kC_index b)) (Ne.symm (kC_journal b)) (Ne.symm (kC_layout b))]
  rfl
 ·simp only [if_neg hn]
def dvC (b:ByteArray):DV:=⟨dOfB b,dOfB_ok b⟩
theorem sub_val {d:List Nat} (h:DigOk d):(⟨d,h⟩ : DV).1=d:=rfl
theorem dvC_val (b:ByteArray):(dvC b).1=dOfB b:=by unfold dvC;exact sub_val _
theorem dv_key (x:DV) {d:List Nat} (h:x.1=d):DV.key x=dB d:=by subst h;rfl
theorem dvC_key (b:ByteArray):DV.key (dvC b)=dB (dOfB b):=dv_key (dvC b) (dvC_val b)
def dlA (A:Sto):List DV:=A.cs.map dvC
theorem dl_rise {A:Sto} (h:RiseK kC A.cs):RiseK DV.key (dlA A):=by
 unfold dlA RiseK
 rw [List.pairwise_map]
 refine List.Pairwise.imp (fun {a b} hab=>?_) h
 rw [dvC_key,dvC_key,← cP_less (dOfB_ok a) (dOfB_ok b)]
 exact hab
theorem dl_mem {A:Sto} {x:DV}:x∈dlA A ↔ ∃ b∈A.cs,x.1=dOfB b:=by
 unfold dlA
 rw [List.mem_map]
 constructor
 ·rintro ⟨b,hb,rfl⟩
  exact ⟨b,hb,dvC_val b⟩
 ·rintro ⟨b,hb,h⟩
  exact ⟨b,hb,Subtype.ext ((dvC_val b).trans h.symm)⟩
def taggedC (A:Sto):List ByteArray:=A.cs.filter fun b=>tagd (dOfB b) A.tg
theorem fA_prune {A:Sto} (h:RiseK kC A.cs):delsF (unT A.tg (dlA A)) (fA A)=fA ⟨taggedC A,A.tg⟩:=by
 have hr2:RiseK kC (taggedC A):=List.Pairwise.sublist List.filter_sublist h
 refine riseK_same (delsF_rise _ (fA_rise h)) (fA_rise (A:=⟨taggedC A,A.tg⟩) hr2) (fun x=>?_)
 rw [delsF_mem]
 unfold fA
 rw [List.mem_append,List.mem_append,List.mem_map,List.mem_map]
 have key:∀ b,(∀ d∈unT A.tg (dlA A),kC b≠cPath d.1)∧b∈A.cs ↔ b∈taggedC A:=by
  intro b
  unfold taggedC
  rw [List.mem_filter]
  constructor
  ·rintro ⟨h1,h2⟩
   refine ⟨h2,?_⟩
   cases ht:tagd (dOfB b) A.tg with
   | true=>rfl
   | false =>
    refine absurd (by unfold kC;rw [dvC_val]) (h1 (dvC b) ?_)
    unfold unT
    rw [List.mem_filter]
    refine ⟨dl_mem.2 ⟨b,h2,dvC_val b⟩,?_⟩
    rw [dvC_val,ht]
    rfl
  ·rintro ⟨h1,h2⟩
   refine ⟨fun d hd e=>?_,h1⟩
   unfold unT at hd
   rw [List.mem_filter] at hd
   have:dOfB b=d.1:=cP_inj (dOfB_ok b) d.2 e
   rw [← this,h2] at hd
   simp at hd
 have htail:∀ x∈tailF A.tg,∀ d:DV,x.p≠cPath d.1:=fun x hx d=>by
  rcases tail_mem hx with rfl|rfl|rfl
  ·exact Ne.symm (less_ne (cP_index _))
  ·exact Ne.symm (less_ne (cP_journal _))
  ·exact Ne.symm (less_ne (cP_layout _))
 constructor
 ·rintro ⟨⟨b,hb,rfl⟩|hx,h2⟩
  ·exact .inl ⟨b,(key b).1 ⟨h2,hb⟩,rfl⟩
  ·exact .inr hx
 ·rintro (⟨b,hb,rfl⟩|hx)
  ·have h3:=(key b).2 hb
   exact ⟨.inl ⟨b,h3.2,rfl⟩,h3.1⟩
  ·exact ⟨.inr hx,fun d _=>htail x hx d⟩
theorem rd_wh {D:DS} {F:List FF} {r:Int} {B:Nat} (h:Wh D F r B) {p:ByteArray} (hp:isPathB p=true):rdD D p=(findK FF.p p F).map FF.t:=by
 unfold rdD
 rw [if_neg (by rw [hp];decide),h.look p]
 cases findE p D.R.now with
 | none=>rfl
 | some g=>rfl
theorem rd_con {D:DS} {A:Sto} {r:Int} {B:Nat} (h:Wh D (fA A) r B) (d:List Nat):rdD D (cPath d)=findK kC (cPath d) A.cs:=by
 rw [rd_wh h (cP_path d),find_content]
 cases findK kC (cPath d) A.cs with
 | none=>rfl
 | some b=>rfl
theorem con_con {D:DS} {A:Sto} {r:Int} {B:Nat} (h:Wh D (fA A) r B) {d:List Nat} (hd:DigOk d):conR D d=findK kC (cPath d) A.cs:=by
 unfold conR
 rw [rd_con h]
 cases hf:findK kC (cPath d) A.cs with
 | none=>rfl
 | some b =>
  have h1:kC b=cPath d:=(findK_some hf).2
  have h2:dOfB b=d:=cP_inj (dOfB_ok b) hd h1
  simp only [Option.filter]
  rw [if_pos]
  simp only [decide_eq_true_eq]
  exact h2
theorem find_kC_some {l:List ByteArray} {b c:ByteArray} (h:findK kC (kC b) l=some c):c∈l∧dOfB c=dOfB b:=⟨(findK_some h).1,kC_inj (findK_some h).2⟩
theorem szA_eq (A:Sto):szA A=(A.cs.map ByteArray.size).sum+(idxX A.tg).size+13:=by
 unfold szA sumF fA
 rw [List.map_append,List.sum_append,List.map_map]
 have h1:((fun x:FF=>x.t.size) ∘ fC)=ByteArray.size:=rfl
 rw [h1]
 have h2:((tailF A.tg).map fun x=>x.t.size).sum=(idxX A.tg).size+13:=by
  show (idxX A.tg).size+((⟨#[]⟩ : ByteArray).size+(layoutT.size+0))=_
  have h3:(⟨#[]⟩ : ByteArray).size=0:=rfl
  have h4:layoutT.size=13:=rfl
  omega
 rw [h2]
 omega
def tgNeed (l l':List TE):Nat:=if l'=l then 0 else (idxX l').size
def nbF:Option ByteArray→List (ByteArray × ByteArray)
 | none=>[]
 | some b=>[(kC b,b)]
def nbC (cs:List ByteArray):Option ByteArray→List ByteArray
 | none=>cs
 | some b=>insK kC b cs
def nbN:Option ByteArray→Nat
 | none=>0
 | some b=>b.size
theorem sum_ins {cs:List ByteArray} (h:RiseK kC cs) {b:ByteArray} (hb:findK kC (kC b) cs=none):((insK kC b cs).map ByteArray.size).sum=(cs.map ByteArray.size).sum+b.size:=by
 rw [sumK_ins ByteArray.size b h,delK_all (findK_none hb)]
 omega
theorem szA_next {A:Sto} (h:RiseK kC A.cs) (nb:Option ByteArray) (hnb:∀ b,nb=some b→findK kC (kC b) A.cs=none) (l':List TE):szA ⟨nbC A.cs nb,l'⟩≤szA A+(nbN nb+tgNeed A.tg l'):=by
 rw [szA_eq,szA_eq]
 have h1:((nbC A.cs nb).map ByteArray.size).sum=(A.cs.map ByteArray.size).sum+nbN nb:=by
  cases nb with
  | none=>rfl
  | some b=>exact sum_ins h (hnb b rfl)
 dsimp only
 rw [h1]
 unfold tgNeed
 by_cases hl:l'=A.tg
 ·rw [if_pos hl,hl]
  omega
 ·rw [if_neg hl]
  omega
theorem index_path:isPathB indexP=true:=by decide
theorem chg_rest {D D':DS} {A:Sto} {r k:Int} (h:Rst D (fA A) r 2000) (g:GoodA A) (hs:(szA A:Int)≤r) (nb:Option ByteArray) (hnb:∀ b,nb=some b→findK kC (kC b) A.cs=none∧b.size≤300) (l':List TE) (hok:∀ t∈l',t.Ok) (h8:l'.length≤8) (hw:WrZ D (chF (nbF nb) A.tg l') k D') :
  ((szA A:Int)+((nbN nb+tgNeed A.tg l':Nat):Int)≤r∧k=0∧Rst D' (fA ⟨nbC A.cs nb,l'⟩) r 2000)∨(r<(szA A:Int)+((nbN nb+tgNeed A.tg l':Nat):Int)∧k=4∧Rst D' (fA A) r 2000):=by
 have hX:=idxX_size hok h8
 have e1:∀ b,isPathB (kC b)=true:=fun b=>cP_path _
 have n0:p0≠indexP:=by decide
 have n1:p1≠indexP:=by decide
 unfold chF at hw
 unfold tgNeed
 have hrs:r<(szA A:Int)→False:=fun h=>by omega
 cases nb with
 | none =>
  by_cases hl:l'=A.tg
  ·rw [if_pos hl] at hw ⊢
   rcases wrz_rest (fl:=[]) h (find_p0 A) (find_p1 A) (by simp) (fun f hf=>by cases hf) hw with ⟨x1,x2,_⟩|⟨x1,_⟩
   ·left
    subst hl
    exact ⟨by show (szA A:Int)+((0+0:Nat):Int)≤r;omega,x1,x2⟩
   ·exact absurd rfl x1
  ·rw [if_neg hl] at hw ⊢
   rcases wrz_rest (fl:=[(indexP,idxX l')]) h (find_p0 A) (find_p1 A) (by simp) (fun f hf=>by
    simp only [List.mem_singleton] at hf
    subst hf
    exact ⟨index_path,n0,n1,hX⟩) hw with ⟨x1,x2,x3⟩|⟨_,x1,x2,x3⟩
   ·left
    have x4:=x3 (by simp)
    have e:totF [(indexP,idxX l')]=(idxX l').size:=by simp [totF]
    rw [e] at x4
    have e2:putF [(indexP,idxX l')] (fA A)=fA ⟨A.cs,l'⟩:=fA_tags g.rise l'
    rw [e2] at x2
    exact ⟨by show (szA A:Int)+((0+(idxX l').size:Nat):Int)≤r;unfold szA;omega,x1,x2⟩
   ·right
    have e:totF [(indexP,idxX l')]=(idxX l').size:=by simp [totF]
    rw [e] at x1
    exact ⟨by show r<(szA A:Int)+((0+(idxX l').size:Nat):Int);unfold szA;omega,x2,x3⟩
 | some b =>
  obtain ⟨hb0,hb3⟩:=hnb b rfl
  by_cases hl:l'=A.tg
  ·rw [if_pos hl] at hw ⊢
   rcases wrz_rest (fl:=[(kC b,b)]) h (find_p0 A) (find_p1 A) (by simp) (fun f hf=>by
    simp only [List.mem_singleton] at hf
    subst hf
    exact ⟨e1 b,kC_p0 b,kC_p1 b,by show b.size≤2000;omega⟩) hw with ⟨x1,x2,x3⟩|⟨_,x1,x2,x3⟩
   ·left
    have x4:=x3 (by simp)
    have e:totF [(kC b,b)]=b.size:=by simp [totF]
    rw [e] at x4
    have e2:putF [(kC b,b)] (fA A)=fA ⟨insK kC b A.cs,A.tg⟩:=fA_ins g.rise b
    rw [e2] at x2
    rw [hl]
    exact ⟨by show (szA A:Int)+((b.size+0:Nat):Int)≤r;unfold szA;omega,x1,x2⟩
   ·right
    have e:totF [(kC b,b)]=b.size:=by simp [totF]
    rw [e] at x1
    exact ⟨by show r<(szA A:Int)+((b.size+0:Nat):Int);unfold szA;omega,x2,x3⟩
  ·rw [if_neg hl] at hw ⊢
   rcases wrz_rest (fl:=[(kC b,b),(indexP,idxX l')]) h (find_p0 A) (find_p1 A) (by simp) (fun f hf=>by
    simp only [List.mem_cons,List.not_mem_nil,or_false] at hf
    rcases hf with rfl|rfl
    ·exact ⟨e1 b,kC_p0 b,kC_p1 b,by show b.size≤2000;omega⟩
    ·exact ⟨index_path,n0,n1,hX⟩) hw with ⟨x1,x2,x3⟩|⟨_,x1,x2,x3⟩
   ·left
    have x4:=x3 (by simp)
    have e:totF [(kC b,b),(indexP,idxX l')]=b.size+(idxX l').size:=by simp [totF]
    rw [e] at x4
    have e2:putF [(kC b,b),(indexP,idxX l')] (fA A)=fA ⟨insK kC b A.cs,l'⟩:=by
     show insK FF.p (ff indexP (idxX l')) (insK FF.p (fC b) (fA A))=_
     rw [fA_ins g.rise b]
     exact fA_tags (A:=⟨insK kC b A.cs,A.tg⟩) (riseK_ins b g.rise) l'
    rw [e2] at x2
    exact ⟨by show (szA A:Int)+((b.size+(idxX l').size:Nat):Int)≤r;unfold szA;omega,x1,x2⟩
   ·right
    have e:totF [(kC b,b),(indexP,idxX l')]=b.size+(idxX l').size:=by simp [totF]
    rw [e] at x1
    exact ⟨by show r<(szA A:Int)+((b.size+(idxX l').size:Nat):Int);unfold szA;omega,x2,x3⟩
theorem szT_same {ds:List Nat} {z:Int}:∀ {l:List TE},(∀ t∈l,t.d=ds→t.z=z)→szT ds z l=l
 | [],_=>rfl
 | t::l,h=>by
  show szE ds z t::szT ds z l=_
  rw [szT_same (fun x hx=>h x (by simp [hx]))]
  congr 1
  unfold szE
  by_cases hd:t.d=ds
  ·rw [if_pos hd,← h t (by simp) hd]
  ·rw [if_neg hd]
theorem szT_ins {ds:List Nat} {z:Int} {n:ByteArray}:∀ {l:List TE},(∀ t∈l,t.d=ds→t.z=z)→szT ds z (insK TE.n ⟨n,ds,0⟩ l)=insK TE.n ⟨n,ds,z⟩ l
 | [],_=>by simp [insK,szT,szE]
 | t::l,h=>by
  have hl:=szT_same (l:=l) (fun x hx=>h x (by simp [hx]))
  have ht:=szT_same (l:=t::l) h
  have h1:szE ds z ⟨n,ds,0⟩=⟨n,ds,z⟩:=by simp [szE]
  unfold insK
  by_cases he:t.n=n
  ·rw [if_pos (show TE.n t=TE.n ⟨n,ds,0⟩ from he),if_pos (show TE.n t=TE.n ⟨n,ds,z⟩ from he)]
   show szE ds z ⟨n,ds,0⟩::szT ds z l=_
   rw [h1,hl]
  ·rw [if_neg (show ¬ TE.n t=TE.n ⟨n,ds,0⟩ from he),if_neg (show ¬ TE.n t=TE.n ⟨n,ds,z⟩ from he)]
   by_cases hb:lessB n t.n=true
   ·rw [if_pos (show lessB (TE.n ⟨n,ds,0⟩) (TE.n t)=true from hb),if_pos (show lessB (TE.n ⟨n,ds,z⟩) (TE.n t)=true from hb)]
    show szE ds z ⟨n,ds,0⟩::szT ds z (t::l)=_
    rw [h1,ht]
   ·rw [if_neg (show ¬ lessB (TE.n ⟨n,ds,0⟩) (TE.n t)=true from hb),if_neg (show ¬ lessB (TE.n ⟨n,ds,z⟩) (TE.n t)=true from hb)]
    show szE ds z t::szT ds z (insK TE.n ⟨n,ds,0⟩ l)=_
    rw [szT_ins (fun x hx=>h x (by simp [hx]))]
    congr 1
    unfold szE
    by_cases hd:t.d=ds
    ·rw [if_pos hd,← h t (by simp) hd]
    ·rw [if_neg hd]
theorem GoodA.told {A:Sto} (g:GoodA A) {b c:ByteArray} (hc:findK kC (kC b) A.cs=some c):∀ t∈A.tg,t.d=dOfB b→t.z=(c.size:Int):=fun t ht hd=>by
 obtain ⟨x,hx,h1,h2⟩:=g.tin t ht
 obtain ⟨h3,h4⟩:=find_kC_some hc
 have:x=c:=riseK_inj g.rise hx h3 (by unfold kC;rw [← h1,hd,h4])
 rw [h2,this]
theorem GoodA.untold {A:Sto} (g:GoodA A) {b:ByteArray} (hc:findK kC (kC b) A.cs=none) {z:Int}:∀ t∈A.tg,t.d=dOfB b→t.z=z:=fun t ht hd=>by
 obtain ⟨x,hx,h1,_⟩:=g.tin t ht
 exact absurd (show kC x=kC b by unfold kC;rw [← h1,hd]) (findK_none hc x hx)
theorem GoodA.ins {A:Sto} (g:GoodA A) {b:ByteArray} (hb:b.size≤300) (hc:findK kC (kC b) A.cs=none):GoodA ⟨insK kC b A.cs,A.tg⟩:=by
 have hm:∀ x,x∈insK kC b A.cs ↔ x=b∨x∈A.cs:=fun x=>insK_mem_iff (fun a ha e=>absurd e (findK_none hc a ha)) g.rise
 refine ⟨riseK_ins b g.rise,fun x hx=>?_,g.tr,g.tok,g.t8,fun t ht=>?_,g.ttag⟩
 ·rcases (hm x).1 hx with rfl|hx
  ·exact hb
  ·exact g.sz x hx
 ·obtain ⟨x,hx,h1,h2⟩:=g.tin t ht
  exact ⟨x,(hm x).2 (.inr hx),h1,h2⟩
theorem te_ok {n:ByteArray} {d:List Nat} {z:Int} (h1:n.size≤20) (h2:d.length=32) (h3:∀ i,d.getD i 0<256) (h4:0≤z) (h5:z≤300):TE.Ok ⟨n,d,z⟩:=⟨h1,h2,h3,h4,h5⟩
theorem te_d (n:ByteArray) (d:List Nat) (z:Int):(⟨n,d,z⟩ : TE).d=d:=rfl
theorem te_z (n:ByteArray) (d:List Nat) (z:Int):(⟨n,d,z⟩ : TE).z=z:=rfl
theorem GoodA.tag {A:Sto} (g:GoodA A) {n b:ByteArray} (hb:b∈A.cs) (hn:n.size≤20) (htag:isTagB n=true) (h8:(insK TE.n ⟨n,dOfB b,(b.size:Int)⟩ A.tg).length≤8):GoodA ⟨A.cs,insK TE.n ⟨n,dOfB b,(b.size:Int)⟩ A.tg⟩:=by
 have hs:=g.sz b hb
 refine ⟨g.rise,g.sz,riseK_ins _ g.tr,fun t ht=>?_,h8,fun t ht=>?_,fun t ht=>?_⟩
 ·rcases insK_mem ht with rfl|ht
  ·exact te_ok hn (dOfB_len b) (dOfB_lt b) (by omega) (by omega)
  ·exact g.tok t ht
 ·rcases insK_mem ht with rfl|ht
  ·exact ⟨b,hb,te_d _ _ _,te_z _ _ _⟩
  ·exact g.tin t ht
 ·rcases insK_mem ht with rfl|ht
  ·exact htag
  ·exact g.ttag t ht
theorem GoodA.untag {A:Sto} (g:GoodA A) (n:ByteArray):GoodA ⟨A.cs,delK TE.n n A.tg⟩ :=
 ⟨g.rise,g.sz,riseK_del _ g.tr,fun t ht=>g.tok t (delK_mem.1 ht).1,Nat.le_trans (delK_len _ _) g.t8,fun t ht=>g.tin t (delK_mem.1 ht).1,fun t ht=>g.ttag t (delK_mem.1 ht).1⟩
theorem tagd_false {d:List Nat} {l:List TE} (h:tagd d l=false):∀ t∈l,t.d≠d:=fun t ht e=>by
 unfold tagd at h
 have:=List.any_eq_false.1 h t ht
 simp [e] at this
theorem tagd_mem {d:List Nat} {l:List TE} {t:TE} (ht:t∈l) (e:t.d=d):tagd d l=true:=List.any_eq_true.2 ⟨t,ht,by simp [e]⟩
theorem GoodA.del {A:Sto} (g:GoodA A) {b:ByteArray} (hu:tagd (dOfB b) A.tg=false):GoodA ⟨delK kC (kC b) A.cs,A.tg⟩:=by
 refine ⟨riseK_del _ g.rise,fun x hx=>g.sz x (delK_mem.1 hx).1,g.tr,g.tok,g.t8,fun t ht=>?_,g.ttag⟩
 obtain ⟨x,hx,h1,h2⟩:=g.tin t ht
 exact ⟨x,delK_mem.2 ⟨hx,fun e=>tagd_false hu t ht (h1.trans (kC_inj e))⟩,h1,h2⟩
theorem GoodA.prune {A:Sto} (g:GoodA A):GoodA ⟨taggedC A,A.tg⟩:=by
 refine ⟨List.Pairwise.sublist List.filter_sublist g.rise,fun x hx=>g.sz x (List.mem_filter.1 hx).1,g.tr,g.tok,g.t8,fun t ht=>?_,g.ttag⟩
 obtain ⟨x,hx,h1,h2⟩:=g.tin t ht
 exact ⟨x,List.mem_filter.2 ⟨hx,tagd_mem ht h1⟩,h1,h2⟩
theorem sum_filter_le (p:ByteArray→Bool):∀ l:List ByteArray,((l.filter p).map ByteArray.size).sum≤(l.map ByteArray.size).sum
 | []=>Nat.le_refl _
 | x::l=>by
  have:=sum_filter_le p l
  rw [List.filter_cons]
  split
  ·simp only [List.map_cons,List.sum_cons];omega
  ·simp only [List.map_cons,List.sum_cons];omega
theorem szA_del (A:Sto) (b:ByteArray):szA ⟨delK kC (kC b) A.cs,A.tg⟩≤szA A:=by
 rw [szA_eq,szA_eq]
 have:=sum_filter_le (fun e=>!decide (kC e=kC b)) A.cs
 show ((A.cs.filter fun e=>!decide (kC e=kC b)).map ByteArray.size).sum+_+_≤_
 dsimp only
 omega
theorem szA_prune (A:Sto):szA ⟨taggedC A,A.tg⟩≤szA A:=by
 rw [szA_eq,szA_eq]
 have:=sum_filter_le (fun b=>tagd (dOfB b) A.tg) A.cs
 show ((A.cs.filter fun b=>tagd (dOfB b) A.tg).map ByteArray.size).sum+_+_≤_
 dsimp only
 omega
def enN (D:DS) (n:Nat):List DE:=goE D.R.safe (D.R.chg.take n)
def vwN (D:DS) (n:Nat):List FF:=(enN D n).map (vwE D.fd)
def GeF:List FF→List FF→Prop
 | [],[]=>True
 | a::l,b::m=>(a.p=b.p∧a.t=b.t∧b.y≤a.y)∧GeF l m
 | _,_=>False
theorem GeF.refl:∀ F,GeF F F
 | []=>trivial
 | _::F=>⟨⟨rfl,rfl,Int.le_refl _⟩,GeF.refl F⟩
theorem GeF.trans:∀ {F G H:List FF},GeF F G→GeF G H→GeF F H
 | [],[],[],_,_=>trivial
 | _::_,_::_,_::_,⟨⟨a1,a2,a3⟩,a4⟩,⟨⟨b1,b2,b3⟩,b4⟩=>⟨⟨a1.trans b1,a2.trans b2,Int.le_trans b3 a3⟩,a4.trans b4⟩
 | [],_::_,_,h,_=>h.elim
 | _::_,[],_,h,_=>h.elim
 | [],[],_::_,_,h=>h.elim
 | _::_,_::_,[],_,h=>h.elim
theorem GeF.fd {fd fd':Nat→ByteArray × Int}:∀ (l:List DE),(∀ e∈l,(fd' e.blk).1=(fd e.blk).1∧(fd e.blk).2≤(fd' e.blk).2)→GeF (l.map (vwE fd')) (l.map (vwE fd))
 | [],_=>trivial
 | e::l,h=>⟨⟨rfl,(h e (by simp)).1,(h e (by simp)).2⟩,GeF.fd l (fun x hx=>h x (by simp [hx]))⟩
structure Hi (D:DS) (P:List FF→Prop):Prop where
 hi:∀ n,∃ F,P F∧GeF (vwN D n) F
 inj:∀ n,∀ e∈enN D n,∀ e'∈enN D n,e.blk=e'.blk→e=e'
section
variable {D D':DS} {F F':List FF} {r:Int} {B:Nat} {P:List FF→Prop}
theorem enN_in (h:Wh D F r B) (n:Nat):∀ e∈enN D n,e.blk∈D.fs:=fun e he=>by
 rcases goE_mem _ he with he|⟨c,hc,e1⟩
 ·exact h.isafe e he
 ·rw [e1]
  exact h.ichg c (List.mem_of_mem_take hc)
theorem Rst.hi (h:Rst D F r B) (hP:P F):Hi D P:=by
 have e:∀ n,enN D n=D.R.now:=fun n=>by unfold enN;rw [h.chg,List.take_nil,h.safe];rfl
 exact ⟨fun n=>⟨F,hP,by unfold vwN;rw [e n];rw [show D.R.now.map (vwE D.fd)=F from h.wh.vw];exact GeF.refl F⟩,fun n=>by rw [e n];exact h.wh.inj⟩
theorem enN_more {c:CH} {S:List DE} {C:List CH} (n:Nat) (hn:¬ n≤C.length):goE S ((C ++ [c]).take n)=goE S (C ++ [c]):=by
 rw [List.take_of_length_le (by simp;omega)]
theorem Hi.push {c:CH} (h:Hi D P) (hw:Wh (pushD D c) F' r B) (hP:P F'):Hi (pushD D c) P:=by
 have e:∀ n,n≤D.R.chg.length→enN (pushD D c) n=enN D n:=fun n hn=>by
  show goE D.R.safe ((D.R.chg ++ [c]).take n)=_
  rw [List.take_append_of_le_length hn]
  rfl
 have e2:∀ n,¬ n≤D.R.chg.length→enN (pushD D c) n=(pushD D c).R.now:=fun n hn=>by
  rw [hw.inv.go]
  exact enN_more n hn
 refine ⟨fun n=>?_,fun n=>?_⟩
 ·by_cases hn:n≤D.R.chg.length
  ·obtain ⟨G,h1,h2⟩:=h.hi n
   exact ⟨G,h1,by unfold vwN;rw [e n hn];exact h2⟩
  ·exact ⟨F',hP,by unfold vwN;rw [e2 n hn,show (pushD D c).R.now.map (vwE (pushD D c).fd)=F' from hw.vw];exact GeF.refl F'⟩
 ·by_cases hn:n≤D.R.chg.length
  ·rw [e n hn];exact h.inj n
  ·rw [e2 n hn];exact hw.inj
theorem Hi.add {p dt:ByteArray} {f:Nat} (h:Hi D P) (h0:Wh D F r B) (hf:f ∉ D.fs) (hw:Wh (addD D p dt f) F' r B) (hP:P F'):Hi (addD D p dt f) P:=by
 have e:∀ n,n≤D.R.chg.length→enN (addD D p dt f) n=enN D n:=fun n hn=>by
  show goE D.R.safe ((D.R.chg ++ [(⟨⟨#[]⟩,p,f⟩ : CH)]).take n)=_
  rw [List.take_append_of_le_length hn]
  rfl
 have e2:∀ n,¬ n≤D.R.chg.length→enN (addD D p dt f) n=(addD D p dt f).R.now:=fun n hn=>by
  rw [hw.inv.go]
  exact enN_more n hn
 refine ⟨fun n=>?_,fun n=>?_⟩
 ·by_cases hn:n≤D.R.chg.length
  ·obtain ⟨G,h1,h2⟩:=h.hi n
   refine ⟨G,h1,GeF.trans ?_ h2⟩
   unfold vwN
   rw [e n hn]
   refine GeF.fd _ (fun x hx=>?_)
   have hne:x.blk≠f:=fun e=>hf (by rw [← e];exact enN_in h0 n x hx)
   show (setNd D.fd f (dt,0) x.blk).1=_∧_≤(setNd D.fd f (dt,0) x.blk).2
   rw [setNd_ne _ _ hne]
   exact ⟨rfl,Int.le_refl _⟩
  ·exact ⟨F',hP,by unfold vwN;rw [e2 n hn,show (addD D p dt f).R.now.map (vwE (addD D p dt f).fd)=F' from hw.vw];exact GeF.refl F'⟩
 ·by_cases hn:n≤D.R.chg.length
  ·rw [e n hn];exact h.inj n
  ·rw [e2 n hn];exact hw.inj
theorem Hi.set {g:Nat} {x:ByteArray × Int} (h:Hi D P) (h1:x.1=(D.fd g).1) (h2:(D.fd g).2≤x.2):Hi (wroteD D g x) P:=by
 refine ⟨fun n=>?_,fun n=>h.inj n⟩
 obtain ⟨G,a,b⟩:=h.hi n
 refine ⟨G,a,GeF.trans ?_ b⟩
 refine GeF.fd (enN D n) (fun e he=>?_)
 show (setNd D.fd g x e.blk).1=_∧_≤(setNd D.fd g x e.blk).2
 by_cases hg:e.blk=g
 ·rw [hg,setNd_same]
  exact ⟨h1,h2⟩
 ·rw [setNd_ne _ _ hg]
  exact ⟨rfl,Int.le_refl _⟩
theorem Hi.sync (hw:Wh D' F' r B) (hs:D'.R.safe=D'.R.now) (hc:D'.R.chg = []) (hP:P F'):Hi D' P:=by
 have e:∀ n,enN D' n=D'.R.now:=fun n=>by unfold enN;rw [hc,List.take_nil,hs];rfl
 exact ⟨fun n=>⟨F',hP,by unfold vwN;rw [e n];rw [show D'.R.now.map (vwE D'.fd)=F' from hw.vw];exact GeF.refl F'⟩,fun n=>by rw [e n];exact hw.inj⟩
end
def Mv (r:Int) (B:Nat) (F:List FF) (t:Stp) (F':List FF):Prop:=∀ (D D':DS) (k:Int),Wh D F r B→stR D t k D'→(k=0∧Wh D' F' r B∧∀ P,Hi D P→P F'→Hi D' P)∨(t.k=0∧k=4∧D'=D)
theorem Mv.ap {r:Int} {B:Nat} {F:List FF} {p dt:ByteArray} (hp:isPathB p=true) (hf:findK FF.p p F=none) (hB:dt.size≤B):Mv r B F (sAp p dt) (insK FF.p ⟨p,dt,0⟩ F):=fun D D' k h hs=>by
 rcases h.ap hs hp hf hB with ⟨h1,h2,h3⟩|⟨_,h2,h3⟩
 ·obtain ⟨f,hfn,_,rfl⟩:=st_ap hs hp (by rw [h.left];decide) (by rw [h.used,h.room];exact h1) (h.out hf)
  exact .inl ⟨h2,h3,fun P hi hP=>hi.add h hfn h3 hP⟩
 ·exact .inr ⟨rfl,h2,h3⟩
theorem Mv.sy {r:Int} {B:Nat} {F:List FF} {p t:ByteArray} {y:Int} (hp:isPathB p=true) (hx:(⟨p,t,y⟩ : FF)∈F):Mv r B F (sSy p) (insK FF.p ⟨p,t,(t.size:Int)⟩ F):=fun D D' k h hs=>by
 obtain ⟨h1,h2⟩:=h.sy hs hp hx
 obtain ⟨g,hg,ht,hy⟩:=h.find hx
 obtain ⟨_,rfl⟩:=st_sy hs hp (by rw [h.left];decide) hg
 exact .inl ⟨h1,h2,fun P hi _=>hi.set rfl (h.dat g (h.inn _ (findE_in hg))).2.2⟩
theorem Mv.rn {r:Int} {B:Nat} {F:List FF} {p q t:ByteArray} {y:Int} (hp:isPathB p=true) (hq:isPathB q=true) (hpq:p≠q) (hx:(⟨p,t,y⟩ : FF)∈F):Mv r B F (sRn p q) (insK FF.p ⟨q,t,y⟩ (delK FF.p p F)):=fun D D' k h hs=>by
 obtain ⟨h1,h2⟩:=h.rn hs hp hq hpq hx
 obtain ⟨g,hg,ht,hy⟩:=h.find hx
 obtain ⟨_,rfl⟩:=st_rn hs hp hq hpq (by rw [h.left];decide) hg
 exact .inl ⟨h1,h2,fun P hi hP=>hi.push h2 hP⟩
theorem Mv.rm {r:Int} {B:Nat} {F:List FF} {x:FF} (hp:isPathB x.p=true) (hx:x∈F):Mv r B F (sRm x.p) (delK FF.p x.p F):=fun D D' k h hs=>by
 obtain ⟨h1,h2⟩:=h.rm hs hp hx
 obtain ⟨g,hg,ht,hy⟩:=h.find hx
 obtain ⟨_,rfl⟩:=st_rm hs hp (by rw [h.left];decide) hg
 exact .inl ⟨h1,h2,fun P hi hP=>hi.push h2 hP⟩
theorem Mv.sd {r:Int} {B:Nat} {F:List FF}:Mv r B F sSd F:=fun D D' k h hs=>by
 obtain ⟨h1,h2,h3,h4⟩:=h.sd hs
 exact .inl ⟨h1,h2,fun P _ hP=>Hi.sync h2 h3 h4 hP⟩
theorem Mv.eq {r:Int} {B:Nat} {F F' F2:List FF} {t:Stp} (h:Mv r B F t F') (e:F'=F2):Mv r B F t F2:=e ▸ h
def Chn (P:List FF→Prop) (r:Int) (B:Nat):List FF→List Stp→Prop
 | F,[]=>P F
 | F,t::l=>P F∧∃ F',Mv r B F t F'∧Chn P r B F' l
def Chw (P:List FF→Prop) (r:Int) (B:Nat) (tb:Nat→List Stp):Nat→List FF→List Stp→Prop
 | _,F,[]=>P F
 | i,F,t::l=>P F∧(t.k=0→Chn P r B F (tb i))∧∃ F',Mv r B F t F'∧Chw P r B tb (i+1) F' l
def Gd (P:List FF→Prop) (r:Int) (B:Nat) (D:DS):Prop:=Hi D P∧∃ F,Wh D F r B∧P F
section
variable {P:List FF→Prop} {r:Int} {B:Nat} {tb:Nat→List Stp}
theorem Chn.p:∀ {l:List Stp} {F:List FF},Chn P r B F l→P F
 | [],_,h=>h
 | _::_,_,h=>h.1
theorem Chw.p:∀ {l:List Stp} {i:Nat} {F:List FF},Chw P r B tb i F l→P F
 | [],_,_,h=>h
 | _::_,_,_,h=>h.1
theorem Chn.take:∀ {l:List Stp} {F:List FF} (j:Nat),Chn P r B F l→Chn P r B F (l.take j)
 | [],_,j,h=>by rw [List.take_nil];exact h
 | t::l,F,0,h=>h.1
 | t::l,F,j+1,⟨h1,F',h2,h3⟩=>⟨h1,F',h2,h3.take j⟩
theorem Chw.take:∀ {l:List Stp} {i:Nat} {F:List FF} (j:Nat),Chw P r B tb i F l→Chw P r B tb i F (l.take j)
 | [],_,_,j,h=>by rw [List.take_nil];exact h
 | t::l,_,F,0,h=>h.1
 | t::l,_,F,j+1,⟨h1,h0,F',h2,h3⟩=>⟨h1,h0,F',h2,h3.take j⟩
theorem chn_ranI:∀ {l:List Stp} {F:List FF} {D D':DS},(∀ t∈l,t.k≠0)→Wh D F r B→Hi D P→Chn P r B F l→RanI D l D'→Gd P r B D'
 | [],F,D,D',_,hw,hi,hc,hr=>by
  rw [show D'=D from hr]
  exact ⟨hi,F,hw,hc⟩
 | t::l,F,D,D',hk,hw,hi,⟨_,F',h2,h3⟩,⟨k1,D1,h4,h5⟩=>by
  rcases h2 D D1 k1 hw h4 with ⟨_,a2,a3⟩|⟨a1,_⟩
  ·exact chn_ranI (fun x hx=>hk x (by simp [hx])) a2 (a3 P hi h3.p) h3 h5
  ·exact absurd a1 (hk t (by simp))
theorem chn_ran:∀ {l:List Stp} {F:List FF} {D D':DS} {k:Int} {m:Nat},(∀ t∈l,t.k≠0)→Wh D F r B→Hi D P→Chn P r B F l→Ran D l k m D'→k=0∧Gd P r B D'
 | [],F,D,D',k,m,_,hw,hi,hc,hr=>by
  rw [hr.2.2]
  exact ⟨hr.1,hi,F,hw,hc⟩
 | t::l,F,D,D',k,m,hk,hw,hi,⟨_,F',h2,h3⟩,⟨k1,D1,h4,h5⟩=>by
  rcases h2 D D1 k1 hw h4 with ⟨a1,a2,a3⟩|⟨a1,_⟩
  ·rcases h5 with ⟨h5,_⟩|⟨_,m',_,h6⟩
   ·exact absurd a1 h5
   ·exact chn_ran (fun x hx=>hk x (by simp [hx])) a2 (a3 P hi h3.p) h3 h6
  ·exact absurd a1 (hk t (by simp))
theorem chw_ran:∀ {l:List Stp} {i:Nat} {F:List FF} {D D':DS} {k:Int} {m:Nat},Wh D F r B→Hi D P→Chw P r B tb i F l→Ran D l k m D'→(k=0∧Gd P r B D')∨(k=4∧∃ F',Wh D' F' r B∧Hi D' P∧Chn P r B F' (tb (i+m)))
 | [],_,F,D,D',k,m,hw,hi,hc,hr=>by
  rw [hr.2.2]
  exact .inl ⟨hr.1,hi,F,hw,hc⟩
 | t::l,i,F,D,D',k,m,hw,hi,⟨_,h0,F',h2,h3⟩,⟨k1,D1,h4,h5⟩=>by
  rcases h2 D D1 k1 hw h4 with ⟨a1,a2,a3⟩|⟨a1,a2,a3⟩
  ·rcases h5 with ⟨h5,_⟩|⟨_,m',hm,h6⟩
   ·exact absurd a1 h5
   ·have:=chw_ran a2 (a3 P hi h3.p) h3 h6
    rw [show i+1+m'=i+m by omega] at this
    exact this
  ·rcases h5 with ⟨_,h6,h7,h8⟩|⟨h5,_⟩
   ·refine .inr ⟨h6.trans a2,F,?_⟩
    rw [h8,a3,h7]
    exact ⟨hw,hi,h0 a1⟩
   ·rw [a2] at h5
    cases h5
end
def CutE (a b:FF):Prop:=b.p=a.p∧∃ n:Nat,a.y≤(n:Int)∧n≤a.t.size∧b.t=a.t.extract 0 n∧b.y=(b.t.size:Int)
def CutF:List FF→List FF→Prop
 | [],[]=>True
 | a::l,b::m=>CutE a b∧CutF l m
 | _,_=>False
theorem CutF.ge:∀ {F G H:List FF},GeF F G→CutF F H→CutF G H
 | [],[],[],_,_=>trivial
 | _::_,_::_,_::_,⟨⟨a1,a2,a3⟩,a4⟩,⟨⟨b1,n,b2,b3,b4,b5⟩,b6⟩=>⟨⟨b1.trans a1,n,Int.le_trans a3 b2,by rw [← a2];exact b3,by rw [← a2];exact b4,b5⟩,CutF.ge a4 b6⟩
 | [],_::_,_,h,_=>h.elim
 | _::_,[],_,h,_=>h.elim
 | [],[],_::_,_,h=>h.elim
 | _::_,_::_,[],_,h=>h.elim
theorem cut_whole2 {a b:FF} (h:CutE a b) (hy:a.y=(a.t.size:Int)):b=a:=by
 obtain ⟨h1,n,h2,h3,h4,h5⟩:=h
 have hn:n=a.t.size:=by omega
 obtain ⟨p,t,y⟩:=a
 obtain ⟨p',t',y'⟩:=b
 simp only at h1 h2 h3 h4 h5 hn hy
 have ht:t'=t:=by rw [h4,hn,ByteArray.extract_zero_size]
 subst ht
 rw [h1,h5,hy]
theorem CutF.same:∀ {F G:List FF},CutF F G→(∀ x∈F,x.y=(x.t.size:Int))→G=F
 | [],[],_,_=>rfl
 | a::l,b::m,⟨h1,h2⟩,h=>by rw [cut_whole2 h1 (h a (by simp)),h2.same (fun x hx=>h x (by simp [hx]))]
 | [],_::_,h,_=>h.elim
 | _::_,[],h,_=>h.elim
theorem cut_self {a:FF} (h:a.y≤(a.t.size:Int)):CutE a ⟨a.p,a.t,(a.t.size:Int)⟩:=⟨rfl,a.t.size,h,Nat.le_refl _,by rw [ByteArray.extract_zero_size],rfl⟩
theorem CutF.ins {x:FF}:∀ {F G:List FF},CutF (insK FF.p x F) G→(∀ e∈F,e.y≤(e.t.size:Int))→∃ x' F',CutE x x'∧CutF F F'∧G=insK FF.p x' F'
 | [],[],h,_=>h.elim
 | [],[b],h,_=>⟨b,[],h.1,trivial,rfl⟩
 | [],_::_::_,h,_=>h.2.elim
 | e::F,G,h,hy=>by
  by_cases h1:e.p=x.p
  ·rw [show insK FF.p x (e::F)=x::F from if_pos h1] at h
   match G,h with
   | b::G,⟨h2,h3⟩ =>
    refine ⟨b,⟨e.p,e.t,(e.t.size:Int)⟩::G,h2,⟨cut_self (hy e (by simp)),h3⟩,?_⟩
    exact (if_pos (show (⟨e.p,e.t,(e.t.size:Int)⟩ : FF).p=b.p from h1.trans h2.1.symm)).symm
  ·by_cases h4:lessB x.p e.p=true
   ·rw [show insK FF.p x (e::F)=x::e::F from (if_neg h1).trans (if_pos h4)] at h
    match G,h with
    | b::c::G,⟨h2,h3,h5⟩ =>
     refine ⟨b,c::G,h2,⟨h3,h5⟩,?_⟩
     exact ((if_neg (show ¬ c.p=b.p by rw [h3.1,h2.1];exact h1)).trans (if_pos (show lessB b.p c.p=true by rw [h3.1,h2.1];exact h4))).symm
    | [_],⟨_,h2⟩=>exact h2.elim
   ·rw [show insK FF.p x (e::F)=e::insK FF.p x F from (if_neg h1).trans (if_neg h4)] at h
    match G,h with
    | b::G,⟨h2,h3⟩ =>
     obtain ⟨x',F',a1,a2,a3⟩:=CutF.ins h3 (fun y hy2=>hy y (by simp [hy2]))
     refine ⟨x',b::F',a1,⟨h2,a2⟩,?_⟩
     rw [a3]
     exact ((if_neg (show ¬ b.p=x'.p by rw [h2.1,a1.1];exact h1)).trans (if_neg (show ¬ lessB x'.p b.p=true by rw [h2.1,a1.1];exact h4))).symm
end Go.Proofs.YtncigfibncmioaaGreatDoor
