/-
  PROVED HERE: what goOn does where something was under way: two files beside the store, an index that is on its way.
-/
import Derived.Test.YtncigfibncmioaaGreatDoorDsGen
import Derived.Test.YtncigfibncmioaaGreatDoorToHist
import Derived.Test.YtncigfibncmioaaGreatDoorBmTags
import Derived.Test.YtncigfibncmioaaGreatDoorSoLoad
import Derived.Test.YtncigfibncmioaaGreatDoorSmDelC
import Derived.Test.YtncigfibncmioaaGreatDoorBmRef
import Derived.Test.YtncigfibncmioaaGreatDoorSmDig
namespace Go.Proofs.YtncigfibncmioaaGreatDoor
set_option maxHeartbeats 4000000
set_option maxRecDepth 100000
open Go.RowKit
structure QuT (D:DS) (l:List TE):Prop where
 rd:∃ t c,rdD D indexP=some t∧t.size≤2000∧readS t = .ok (l.map TE.en) c
 ok:∀ x∈l,x.Ok
 rise:RiseT l
 l8:l.length≤8
 p1:(rdD D (bPath 1)).isSome=true
 p0:(rdD D (bPath 0)).isSome=true
 pr:rdD D pruningP=none
 lay:(rdD D layoutP).isSome=true
theorem goOn_two (sb:Nat) (s:PSt) (cb tb:Nat) (l:List TE) (w:World) {L C B:Nat} (h:StW w sb s cb tb 0 0 (.map []) (.map [])) (hq:QuT s.ds l) (hf:DFit s.ds L C B) (hb:Bud (L+s.R.now.length+20) (C+s.R.now.length+20) (B+36)) (hps:∀ e∈s.R.now,e.path.size≤9223372036854775807) :
  Calls Tryz.prog 94 #[.pointer (some ⟨sb,0,none⟩)] w fun e w'=>∃ ev k s',e = .returned ev∧ErrV w' ev k∧SGo (fun k=>k=cb∨k=tb) s s' w w'∧GoR s.ds k s'.ds∧∃ nc,nc≤1000000∧StW w' sb s' cb tb nc l.length (cD (ctF s.R.now)) (tD l):=by
 obtain ⟨⟨t,c,hrd,ht,hr⟩,hok,hrise,h8,h1,h0,h2,_⟩:=hq
 have hn:s.R.now.length≤1000000:=by have:=hf.nowLen;have:=hb.1;exact Nat.le_trans hf.nowLen (by omega)
 have HBP:=hide (besidePath_any 1 (by decide) w h.gl.tab)
 have HT1:=hide (fun (W:World) (hg:StW W sb s cb tb 0 0 (.map []) (.map []))=>isThere_any sb s (bPath 1) W hg.on.sb hg.inn (Nat.le_trans (bPath_size 1 (by decide)) (by decide)))
 have HT2:=hide (fun (W:World) (hg:On W sb s)=>isThere_any sb s pruningP W hg.sb hg.inn (by decide))
 have HBP0:=hide (fun (W:World) (hg:Gl W)=>besidePath_any 0 (by decide) W hg.tab)
 have HT0:=hide (fun (W:World) (hg:StW W sb s cb tb 0 0 (.map []) (.map []))=>isThere_any sb s (bPath 0) W hg.on.sb hg.inn (Nat.le_trans (bPath_size 0 (by decide)) (by decide)))
 rw [h1] at HT1
 rw [h0] at HT0
 rw [h2] at HT2
 dsimp only [Option.isSome] at HT1 HT2
 have HLD:=hide (fun (W:World) (hg:StW W sb s cb tb 0 0 (.map []) (.map []))=>load_many sb s cb tb indexP t c l W hg (by decide) hrd ht hr hok hrise h8 hn)
 have HRM:=hide (fun (W:World) (hg:On W sb s)=>removeAll_any sb s 141 foreignB W hg hf (hb.mono (by omega) (by omega) (by omega)) (enters_of Tryz.func141 (by kernel_rfl) rfl) hps (fun p W=>(isForeign_any p W).mono (by rintro _ _ ⟨rfl,h⟩;exact ⟨rfl,h⟩)))
 have H:=hide h
 have HF:=hide hf
 have HB:=hide hb
 clear h hf hb hps hrd hr h1 h0 h2 hn hok hrise
 go_enter Tryz.func94,Tryz.ntmps94
 go_wp2_with fail
 refine (HBP.out).mono ?_
 rintro _ w1 ⟨rfl,hb1⟩
 dsimp only
 have HG1:=hide (SGo.of_below (S:=fun k=>k=cb∨k=tb) (s:=s) hb1)
 have HS1:=hide (H.out.later hb1)
 clear hb1 HBP
 go_wp2_with fail
 refine (HT1.out _ HS1.out).mono ?_
 rintro _ w2 ⟨rfl,hg2⟩
 dsimp only
 have HG2:=hide (HG1.out.trans (SGo.of_go hg2))
 have HS2:=hide (HS1.out.go hg2)
 clear hg2 HG1 HS1 HT1
 go_wp2_with fail
 refine (HBP0.out _ HS2.out.gl).mono ?_
 rintro _ wx ⟨rfl,hbx⟩
 dsimp only
 have HGx:=hide (HG2.out.trans (SGo.of_below hbx))
 have HSx:=hide (HS2.out.later hbx)
 clear hbx HBP0 HG2 HS2
 go_wp2_with fail
 refine (HT0.out _ HSx.out).mono ?_
 rintro _ wy ⟨rfl,hgy⟩
 dsimp only
 have HG2:=hide (HGx.out.trans (SGo.of_go hgy))
 have HS2:=hide (HSx.out.go hgy)
 clear hgy HGx HSx HT0
 go_wp2_with fail
 refine (HLD.out _ HS2.out).mono ?_
 rintro _ w3 ⟨rfl,hg3,nc,hnc,hs3⟩
 dsimp only
 have HG3:=hide (HG2.out.trans hg3)
 have HS3:=hide hs3
 clear hg3 hs3 HG2 HS2 HLD
 go_wp2_with fail
 refine (HT2.out _ HS3.out.on).mono ?_
 rintro _ w4 ⟨rfl,hg4⟩
 dsimp only
 have HG4:=hide (HG3.out.trans (SGo.of_go hg4))
 have HS4:=hide (HS3.out.go hg4)
 clear hg4 HG3 HS3 HT2
 go_wp2_with fail
 refine (HRM.out _ HS4.out.on).mono ?_
 rintro _ w5 ⟨ev,k1,m,s1,rfl,hev,hg5,hr5⟩
 dsimp only
 have HG5:=hide (HG4.out.trans (SGo.of_go hg5))
 have HS5:=hide (HS4.out.go hg5)
 have HR5:=hide hr5
 clear hg5 hr5 HG4 HS4 HRM
 rcases hev with ⟨rfl,rfl⟩|⟨hk0,sv,nm,rfl,hsv⟩
 ·have c5:=cell_of_row _ _ 0 _ _ _ HS5.out.blk
  have hrl:=rmS_len foreignB s.R.now
  have HSD:=hide (dkSyncDir s1 w5 HS5.out.inn (HF.out.ran HR5.out) (HB.out.mono (by omega) (by omega) (by have:=szs_le (M:=0) (rmS foreignB s.R.now) (fun t ht=>by obtain ⟨x,_,rfl⟩:=List.mem_map.1 ht;exact Nat.le_refl _);omega)))
  go_wp2_with fail
  refine (HSD.out).mono ?_
  rintro _ w6 ⟨v,k,s2,rfl,hv,hg6,hst⟩
  dsimp only
  have HG6:=hide (HG5.out.trans (SGo.of_go hg6))
  have HS6:=hide (HS5.out.go hg6)
  have HV:=hide hv
  have HST:=hide hst
  clear hg6 hv hst HSD c5
  go_wp2_with fail
  go_ret
  exact ⟨_,k,s2,rfl,HV.out,HG6.out,⟨0,m,s1.ds,HR5.out,.inr ⟨rfl,HST.out⟩⟩,nc,hnc,HS6.out⟩
 ·have HSV:=hide hsv
  clear hsv
  go_wp2_with fail
  go_ret
  exact ⟨_,k1,s1,rfl,.inr ⟨hk0,sv,nm,rfl,HSV.out⟩,HG5.out,⟨k1,m,s1.ds,HR5.out,.inl ⟨hk0,rfl,rfl⟩⟩,nc,hnc,HS5.out⟩
structure QuC (D:DS) (l:List TE):Prop where
 rd:∃ t c,rdD D (bPath 1)=some t∧t.size≤2000∧readS t = .ok (l.map TE.en) c
 ok:∀ x∈l,x.Ok
 rise:RiseT l
 l8:l.length≤8
 p0:rdD D (bPath 0)=none
 pr:rdD D pruningP=none
 lay:(rdD D layoutP).isSome=true
def GoX (hd:List Stp) (D:DS) (k:Int) (D':DS):Prop:=∃ k1 m1 D1,Ran D hd k1 m1 D1∧((k1≠0∧k=k1∧D'=D1)∨(k1=0∧GoR D1 k D'))
theorem goOn_com (sb:Nat) (s:PSt) (cb tb:Nat) (l:List TE) (w:World) {L C B:Nat} (h:StW w sb s cb tb 0 0 (.map []) (.map [])) (hq:QuC s.ds l) (hp1:∀ k D1,(k,D1)=rnD s.ds (bPath 1) indexP→rdD D1 pruningP=none∧(∀ e∈D1.R.now,e.path.size≤9223372036854775807)∧D1.R.now.length≤s.R.now.length) (hf:DFit s.ds L C B) (hb:Bud (L+s.R.now.length+30) (C+s.R.now.length+30) (B+36)) :
  Calls Tryz.prog 94 #[.pointer (some ⟨sb,0,none⟩)] w fun e w'=>∃ ev k s',e = .returned ev∧ErrV w' ev k∧SGo (fun k=>k=cb∨k=tb) s s' w w'∧GoX [sRn (bPath 1) indexP] s.ds k s'.ds∧∃ nc,nc≤1000000∧StW w' sb s' cb tb nc l.length (cD (ctF s.R.now)) (tD l):=by
 obtain ⟨⟨t,c,hrd,ht,hr⟩,hok,hrise,h8,h0,h2,_⟩:=hq
 have h1:(rdD s.ds (bPath 1)).isSome=true:=by rw [hrd];rfl
 have hn:s.R.now.length≤1000000:=by have:=hf.nowLen;have:=hb.1;exact Nat.le_trans hf.nowLen (by omega)
 have HBP:=hide (besidePath_any 1 (by decide) w h.gl.tab)
 have HT1:=hide (fun (W:World) (hg:StW W sb s cb tb 0 0 (.map []) (.map []))=>isThere_any sb s (bPath 1) W hg.on.sb hg.inn (Nat.le_trans (bPath_size 1 (by decide)) (by decide)))
 have HT2:=hide (fun (s1:PSt) (W:World) (hg:On W sb s1)=>isThere_any sb s1 pruningP W hg.sb hg.inn (by decide))
 have HBP0:=hide (fun (W:World) (hg:Gl W)=>besidePath_any 0 (by decide) W hg.tab)
 have HT0:=hide (fun (W:World) (hg:StW W sb s cb tb 0 0 (.map []) (.map []))=>isThere_any sb s (bPath 0) W hg.on.sb hg.inn (Nat.le_trans (bPath_size 0 (by decide)) (by decide)))
 rw [h1] at HT1
 rw [h0] at HT0
 dsimp only [Option.isSome] at HT0
 have HLD:=hide (fun (W:World) (hg:StW W sb s cb tb 0 0 (.map []) (.map []))=>load_many sb s cb tb (bPath 1) t c l W hg (Nat.le_trans (bPath_size 1 (by decide)) (by decide)) hrd ht hr hok hrise h8 hn)
 have HRM:=hide (fun (s1:PSt) (L1 C1 B1:Nat) (hf1:DFit s1.ds L1 C1 B1) (hb1:Bud (L1+s1.R.now.length+10) (C1+s1.R.now.length+10) B1) (hps1:∀ e∈s1.R.now,e.path.size≤9223372036854775807) (W:World) (hg:On W sb s1)=>removeAll_any sb s1 141 foreignB W hg hf1 (hb1.mono (by omega) (by omega) (by omega)) (enters_of Tryz.func141 (by kernel_rfl) rfl) hps1 (fun p W=>(isForeign_any p W).mono (by rintro _ _ ⟨rfl,h⟩;exact ⟨rfl,h⟩)))
 have H:=hide h
 have HF:=hide hf
 have HB:=hide hb
 have HP1:=hide hp1
 clear h hf hb hrd hr h1 h0 h2 hn hok hrise hp1
 go_enter Tryz.func94,Tryz.ntmps94
 go_wp2_with fail
 refine (HBP.out).mono ?_
 rintro _ w1 ⟨rfl,hb1⟩
 dsimp only
 have HG1:=hide (SGo.of_below (S:=fun k=>k=cb∨k=tb) (s:=s) hb1)
 have HS1:=hide (H.out.later hb1)
 clear hb1 HBP
 go_wp2_with fail
 refine (HT1.out _ HS1.out).mono ?_
 rintro _ w2 ⟨rfl,hg2⟩
 dsimp only
 have HG2:=hide (HG1.out.trans (SGo.of_go hg2))
 have HS2:=hide (HS1.out.go hg2)
 clear hg2 HG1 HS1 HT1
 go_wp2_with fail
 refine (HBP0.out _ HS2.out.gl).mono ?_
 rintro _ wx ⟨rfl,hbx⟩
 dsimp only
 have HGx:=hide (HG2.out.trans (SGo.of_below hbx))
 have HSx:=hide (HS2.out.later hbx)
 clear hbx HBP0 HG2 HS2
 go_wp2_with fail
 refine (HT0.out _ HSx.out).mono ?_
 rintro _ wy ⟨rfl,hgy⟩
 dsimp only
 have HG2:=hide (HGx.out.trans (SGo.of_go hgy))
 have HS2:=hide (HSx.out.go hgy)
 clear hgy HGx HSx HT0
 go_wp2_with fail
 refine (HLD.out _ HS2.out).mono ?_
 rintro _ w3 ⟨rfl,hg3,nc,hnc,hs3⟩
 dsimp only
 have HG3:=hide (HG2.out.trans hg3)
 have HS3:=hide hs3
 clear hg3 hs3 HG2 HS2 HLD
 have c3:=cell_of_row _ _ 0 _ _ _ HS3.out.blk
 have HRN:=hide (dkRename s (bPath 1) indexP w3 HS3.out.inn HF.out (HB.out.mono (by omega) (by omega) (by omega)) (Nat.le_trans (bPath_size 1 (by decide)) (by decide)) (by decide))
 go_wp2_with fail
 refine (HRN.out).mono ?_
 rintro _ w4 ⟨v,k1,s1,rfl,hv,hg4,hst⟩
 dsimp only
 have HG4:=hide (HG3.out.trans (SGo.of_go hg4))
 have HS4:=hide (HS3.out.go hg4)
 have hst:stR s.ds (sRn (bPath 1) indexP) k1 s1.ds:=hst
 have HF4:=hide (HF.out.st hst)
 have HST:=hide hst
 clear hg4 hst HG3 HS3 HRN c3
 rcases hv with ⟨rfl,rfl⟩|⟨hk0,sv,nm,rfl,hsv⟩
 ·obtain ⟨hq1,hq2,hq3⟩:=HP1.out 0 s1.ds HST.out
  have HT3:=hide (HT2.out s1 w4 HS4.out.on)
  rw [hq1] at HT3
  dsimp only [Option.isSome] at HT3
  have hq3:s1.R.now.length≤s.R.now.length:=hq3
  have hsz0:(sRn (bPath 1) indexP).sz=0:=rfl
  rw [hsz0] at HF4
  have HRM2:=hide (fun W hW=>HRM.out s1 (L+1) (C+1) (B+0) HF4.out (HB.out.mono (by omega) (by omega) (by omega)) hq2 W hW)
  clear hq1 hq2 HT2 HRM HP1
  go_wp2_with fail
  refine (HT3.out).mono ?_
  rintro _ w5 ⟨rfl,hg5⟩
  dsimp only
  have HG5:=hide (HG4.out.trans (SGo.of_go hg5))
  have HS5:=hide (HS4.out.go hg5)
  clear hg5 HG4 HS4 HT3
  go_wp2_with fail
  refine (HRM2.out _ HS5.out.on).mono ?_
  rintro _ w6 ⟨ev,k2,m2,s2,rfl,hev,hg6,hr6⟩
  dsimp only
  have HG6:=hide (HG5.out.trans (SGo.of_go hg6))
  have HS6:=hide (HS5.out.go hg6)
  have HR6:=hide hr6
  clear hg6 hr6 HG5 HS5 HRM2
  rcases hev with ⟨rfl,rfl⟩|⟨hk0,sv,nm,rfl,hsv⟩
  ·have c6:=cell_of_row _ _ 0 _ _ _ HS6.out.blk
   have hrl:=rmS_len foreignB s1.R.now
   have HSD:=hide (dkSyncDir s2 w6 HS6.out.inn (HF4.out.ran HR6.out) (HB.out.mono (by omega) (by omega) (by have:=szs_le (M:=0) (rmS foreignB s1.R.now) (fun t ht=>by obtain ⟨x,_,rfl⟩:=List.mem_map.1 ht;exact Nat.le_refl _);omega)))
   go_wp2_with fail
   refine (HSD.out).mono ?_
   rintro _ w7 ⟨v,k,s3,rfl,hv,hg7,hst⟩
   dsimp only
   have HG7:=hide (HG6.out.trans (SGo.of_go hg7))
   have HS7:=hide (HS6.out.go hg7)
   have HV:=hide hv
   have HSE:=hide hst
   clear hg7 hv hst HSD c6
   go_wp2_with fail
   go_ret
   exact ⟨_,k,s3,rfl,HV.out,HG7.out,⟨0,_,s1.ds,Ran.one HST.out,.inr ⟨rfl,0,m2,s2.ds,HR6.out,.inr ⟨rfl,HSE.out⟩⟩⟩,nc,hnc,HS7.out⟩
  ·have HSV:=hide hsv
   clear hsv
   go_wp2_with fail
   go_ret
   exact ⟨_,k2,s2,rfl,.inr ⟨hk0,sv,nm,rfl,HSV.out⟩,HG6.out,⟨0,_,s1.ds,Ran.one HST.out,.inr ⟨rfl,k2,m2,s2.ds,HR6.out,.inl ⟨hk0,rfl,rfl⟩⟩⟩,nc,hnc,HS6.out⟩
 ·have HSV:=hide hsv
  clear hsv
  go_wp2_with fail
  go_ret
  exact ⟨_,k1,s1,rfl,.inr ⟨hk0,sv,nm,rfl,HSV.out⟩,HG4.out,⟨k1,_,s1.ds,Ran.one HST.out,.inl ⟨hk0,rfl,rfl⟩⟩,nc,hnc,HS4.out⟩
structure QuP (D:DS) (l:List TE):Prop where
 rd:∃ t c,rdD D indexP=some t∧t.size≤2000∧readS t = .ok (l.map TE.en) c
 ok:∀ x∈l,x.Ok
 rise:RiseT l
 l8:l.length≤8
 p1:rdD D (bPath 1)=none
 pr:(rdD D pruningP).isSome=true
 lay:(rdD D layoutP).isSome=true
theorem goOn_pru (sb:Nat) (s:PSt) (cb tb:Nat) (l:List TE) (w:World) {L C B:Nat} (h:StW w sb s cb tb 0 0 (.map []) (.map [])) (dl:List DV) (hq:QuP s.ds l) (hdr:RiseK DV.key dl) (hdm:∀ x,x∈dl ↔ x.1∈ctF s.R.now) (hdl:dl.length≤s.R.now.length) (hctl:(ctF s.R.now).length≤100000000) (hp1:∀ k m D1,Ran s.ds (epS (unT l dl)) k m D1→(∀ e∈D1.R.now,e.path.size≤9223372036854775807)∧D1.R.now.length≤s.R.now.length) (hf:DFit s.ds L C B) (hb:Bud (L+s.R.now.length+s.R.now.length+50) (C+s.R.now.length+s.R.now.length+50) (B+36)) :
  Calls Tryz.prog 94 #[.pointer (some ⟨sb,0,none⟩)] w fun e w'=>∃ ev k s',e = .returned ev∧ErrV w' ev k∧SGo (fun k=>k=cb∨k=tb) s s' w w'∧GoX (epS (unT l dl)) s.ds k s'.ds∧∃ nc m,nc≤1000000∧(k=0→(unT l dl).length≤m)∧StW w' sb s' cb tb nc l.length (delsD (cD (ctF s.R.now)) ((unT l dl).take m)) (tD l):=by
 obtain ⟨⟨t,c,hrd,ht,hr⟩,hok,hrise,h8,h1,h2,_⟩:=hq
 have hn:s.R.now.length≤1000000:=by have:=hf.nowLen;have:=hb.1;exact Nat.le_trans hf.nowLen (by omega)
 have HBP:=hide (besidePath_any 1 (by decide) w h.gl.tab)
 have HT1:=hide (fun (W:World) (hg:StW W sb s cb tb 0 0 (.map []) (.map []))=>isThere_any sb s (bPath 1) W hg.on.sb hg.inn (Nat.le_trans (bPath_size 1 (by decide)) (by decide)))
 have HT2:=hide (fun (W:World) (hg:On W sb s)=>isThere_any sb s pruningP W hg.sb hg.inn (by decide))
 rw [h1] at HT1
 rw [h2] at HT2
 dsimp only [Option.isSome] at HT1
 have HLD:=hide (fun (W:World) (hg:StW W sb s cb tb 0 0 (.map []) (.map []))=>load_many sb s cb tb indexP t c l W hg (by decide) hrd ht hr hok hrise h8 hn)
 have HRM:=hide (fun (s1:PSt) (L1 C1 B1:Nat) (hf1:DFit s1.ds L1 C1 B1) (hb1:Bud (L1+s1.R.now.length+10) (C1+s1.R.now.length+10) B1) (hps1:∀ e∈s1.R.now,e.path.size≤9223372036854775807) (W:World) (hg:On W sb s1)=>removeAll_any sb s1 141 foreignB W hg hf1 (hb1.mono (by omega) (by omega) (by omega)) (enters_of Tryz.func141 (by kernel_rfl) rfl) hps1 (fun p W=>(isForeign_any p W).mono (by rintro _ _ ⟨rfl,h⟩;exact ⟨rfl,h⟩)))
 have HUN:=hide (fun (W:World) (nc:Nat) (hg:StW W sb s cb tb nc l.length (cD (ctF s.R.now)) (tD l)) (hl:(ctF s.R.now).length≤100000000)=>untagged_any sb s cb tb nc l (ctF s.R.now) dl W hg hok ctF_ok hdr hdm hl (by omega))
 have H:=hide h
 have HF:=hide hf
 have HB:=hide hb
 have HP1:=hide hp1
 have hul:(unT l dl).length≤dl.length:=List.length_filter_le _ _
 have hcl:(ctF s.R.now).length≤100000000:=hctl
 clear h hf hb hrd hr h1 h2 hok hrise hp1 hdr hdm
 generalize unT l dl=ul at HUN HP1 hul ⊢
 go_enter Tryz.func94,Tryz.ntmps94
 go_wp2_with fail
 refine (HBP.out).mono ?_
 rintro _ w1 ⟨rfl,hb1⟩
 dsimp only
 have HG1:=hide (SGo.of_below (S:=fun k=>k=cb∨k=tb) (s:=s) hb1)
 have HS1:=hide (H.out.later hb1)
 clear hb1 HBP
 go_wp2_with fail
 refine (HT1.out _ HS1.out).mono ?_
 rintro _ w2 ⟨rfl,hg2⟩
 dsimp only
 have HG2:=hide (HG1.out.trans (SGo.of_go hg2))
 have HS2:=hide (HS1.out.go hg2)
 clear hg2 HG1 HS1 HT1
 go_wp2_with fail
 refine (HLD.out _ HS2.out).mono ?_
 rintro _ w3 ⟨rfl,hg3,nc,hnc,hs3⟩
 dsimp only
 have HG3:=hide (HG2.out.trans hg3)
 have HS3:=hide hs3
 clear hg3 hs3 HG2 HS2 HLD
 go_wp2_with fail
 refine (HT2.out _ HS3.out.on).mono ?_
 rintro _ w4 ⟨rfl,hg4⟩
 dsimp only
 have HG4:=hide (HG3.out.trans (SGo.of_go hg4))
 have HS4:=hide (HS3.out.go hg4)
 clear hg4 HG3 HS3 HT2
 have HU4:=hide (HUN.out w4 nc HS4.out hcl)
 go_wp2_with fail
 refine (HU4.out).mono ?_
 rintro _ w5 ⟨v5,rfl,hrow,hb5⟩
 dsimp only
 obtain ⟨so,sc,rfl⟩:=own_sl hrow
 have HG5:=hide (HG4.out.trans (SGo.of_below hb5))
 have HS5:=hide (HS4.out.later hb5)
 have HEP:=hide (endPrune_any sb s cb tb nc l.length (cD (ctF s.R.now)) (tD l) w4.heap.size so sc ul w5 HS5.out (fun k hk e=>by
  have h1:=own_ge hrow k hk
  rcases e with e|e
  ·have:=HS4.out.inn.lt e
   omega
  ·have:=HS4.out.cm.lt
   omega) hrow (by omega) HF.out (HB.out.mono (by omega) (by omega) (by omega)))
 clear hrow hb5 HU4 HUN HG4 HS4
 go_wp2_with fail
 refine (HEP.out).mono ?_
 rintro _ w6 ⟨ev,k1,s1,m1,rfl,hev,hg6,hr6,hs6⟩
 dsimp only
 have HG6:=hide (HG5.out.trans (hg6.mono (fun k _ hk=>.inl hk)))
 have HS6:=hide hs6
 have HR6:=hide hr6
 have HF6:=hide (HF.out.ran hr6)
 have hel:(epS ul).length=ul.length+2:=by unfold epS rmC;rw [List.length_append,List.length_map];rfl
 have hez:szs (epS ul)≤0:=by
  have:=szs_le (M:=0) (epS ul) (fun t ht=>by
   unfold epS rmC at ht
   rcases List.mem_append.1 ht with ht|ht
   ·obtain ⟨x,_,rfl⟩:=List.mem_map.1 ht
    exact Nat.le_refl _
   ·simp only [List.mem_cons,List.not_mem_nil,or_false] at ht
    rcases ht with rfl|rfl<;>exact Nat.le_refl _)
  omega
 clear hg6 hs6 hr6 HEP HG5 HS5
 rcases hev with ⟨rfl,rfl⟩|⟨hk0,sv,nm,rfl,hsv⟩
 ·obtain ⟨hq2,hq3⟩:=HP1.out 0 m1 s1.ds HR6.out
  have hm1:ul.length≤m1:=by have:=HR6.out.len;omega
  have hq3:s1.R.now.length≤s.R.now.length:=hq3
  have HRM2:=hide (fun W hW=>HRM.out s1 (L+(epS ul).length) (C+(epS ul).length) (B+szs (epS ul)) HF6.out (HB.out.mono (by omega) (by omega) (by omega)) hq2 W hW)
  clear hq2 HRM HP1
  go_wp2_with fail
  refine (HRM2.out _ HS6.out.on).mono ?_
  rintro _ w7 ⟨ev,k2,m2,s2,rfl,hev,hg7,hr7⟩
  dsimp only
  have HG7:=hide (HG6.out.trans (SGo.of_go hg7))
  have HS7:=hide (HS6.out.go hg7)
  have HR7:=hide hr7
  clear hg7 hr7 HG6 HS6 HRM2
  rcases hev with ⟨rfl,rfl⟩|⟨hk0,sv,nm,rfl,hsv⟩
  ·have c6:=cell_of_row _ _ 0 _ _ _ HS7.out.blk
   have hrl:=rmS_len foreignB s1.R.now
   have HSD:=hide (dkSyncDir s2 w7 HS7.out.inn (HF6.out.ran HR7.out) (HB.out.mono (by omega) (by omega) (by have:=szs_le (M:=0) (rmS foreignB s1.R.now) (fun t ht=>by obtain ⟨x,_,rfl⟩:=List.mem_map.1 ht;exact Nat.le_refl _);omega)))
   go_wp2_with fail
   refine (HSD.out).mono ?_
   rintro _ w8 ⟨v,k,s3,rfl,hv,hg8,hst⟩
   dsimp only
   have HG8:=hide (HG7.out.trans (SGo.of_go hg8))
   have HS8:=hide (HS7.out.go hg8)
   have HV:=hide hv
   have HSE:=hide hst
   clear hg8 hv hst HSD c6
   go_wp2_with fail
   go_ret
   exact ⟨_,k,s3,rfl,HV.out,HG8.out,⟨0,m1,s1.ds,HR6.out,.inr ⟨rfl,0,m2,s2.ds,HR7.out,.inr ⟨rfl,HSE.out⟩⟩⟩,nc,m1,hnc,fun _=>hm1,HS8.out⟩
  ·have HSV:=hide hsv
   clear hsv
   go_wp2_with fail
   go_ret
   exact ⟨_,k2,s2,rfl,.inr ⟨hk0,sv,nm,rfl,HSV.out⟩,HG7.out,⟨0,m1,s1.ds,HR6.out,.inr ⟨rfl,k2,m2,s2.ds,HR7.out,.inl ⟨hk0,rfl,rfl⟩⟩⟩,nc,m1,hnc,fun e=>absurd e hk0,HS7.out⟩
 ·have HSV:=hide hsv
  clear hsv
  go_wp2_with fail
  go_ret
  exact ⟨_,k1,s1,rfl,.inr ⟨hk0,sv,nm,rfl,HSV.out⟩,HG6.out,⟨k1,m1,s1.ds,HR6.out,.inl ⟨hk0,rfl,rfl⟩⟩,nc,m1,hnc,fun e=>absurd e hk0,HS6.out⟩
end Go.Proofs.YtncigfibncmioaaGreatDoor
namespace Go.Proofs.YtncigfibncmioaaGreatDoor
open Go.RowKit
theorem off_left (D:DS):¬ (offL D).R.left=0:=by show ¬ (-1:Int)=0;decide
theorem ap_off {D:DS} (hl:D.R.left≠0) (p q:ByteArray) (f:Nat):apD (offL D) p q f=((apD D p q f).1,offL (apD D p q f).2):=by
 unfold apD
 rw [if_neg (off_left D),if_neg hl]
 by_cases h1:isPathB p=false
 ·rw [if_pos h1,if_pos h1]
 ·rw [if_neg h1,if_neg h1]
  by_cases h2:D.R.room - (usedE D.fd D.R.now:Int)<(q.size:Int)
  ·rw [if_pos h2,if_pos (show (offL D).R.room - (usedE (offL D).fd (offL D).R.now:Int)<(q.size:Int) from h2)]
  ·rw [if_neg h2,if_neg (show ¬ (offL D).R.room - (usedE (offL D).fd (offL D).R.now:Int)<(q.size:Int) from h2),show (offL D).R.now=D.R.now from rfl]
   cases findE p D.R.now<;>rfl
theorem sy_off {D:DS} (hl:D.R.left≠0) (p:ByteArray):syD (offL D) p=((syD D p).1,offL (syD D p).2):=by
 unfold syD
 rw [if_neg (off_left D),if_neg hl]
 by_cases h1:isPathB p=false
 ·rw [if_pos h1,if_pos h1]
 ·rw [if_neg h1,if_neg h1,show (offL D).R.now=D.R.now from rfl]
  cases findE p D.R.now<;>rfl
theorem rm_off {D:DS} (hl:D.R.left≠0) (p:ByteArray):rmD (offL D) p=((rmD D p).1,offL (rmD D p).2):=by
 unfold rmD
 rw [if_neg (off_left D),if_neg hl]
 by_cases h1:isPathB p=false
 ·rw [if_pos h1,if_pos h1]
 ·rw [if_neg h1,if_neg h1,show (offL D).R.now=D.R.now from rfl]
  cases findE p D.R.now<;>rfl
theorem rn_off {D:DS} (hl:D.R.left≠0) (p q:ByteArray):rnD (offL D) p q=((rnD D p q).1,offL (rnD D p q).2):=by
 unfold rnD
 rw [if_neg (off_left D),if_neg hl]
 by_cases h1:(isPathB p && isPathB q)=false
 ·rw [if_pos h1,if_pos h1]
 ·rw [if_neg h1,if_neg h1,show (offL D).R.now=D.R.now from rfl]
  by_cases hpq:p=q
  ·cases findE p D.R.now<;>simp only [hpq,if_true]<;>rfl
  ·cases findE p D.R.now<;>simp only [hpq,if_false]<;>rfl
theorem sd_off {D:DS} (hl:D.R.left≠0):sdD (offL D)=((sdD D).1,offL (sdD D).2):=by
 unfold sdD
 rw [if_neg (off_left D),if_neg hl]
 rfl
theorem st_off {D D':DS} {t:Stp} {k:Int} (hs:stR D t k D') (hl:D.R.left≠0):stR (offL D) t k (offL D'):=by
 obtain ⟨tk,p,q⟩:=t
 unfold stR at hs ⊢
 match tk with
 | 0 =>
  obtain ⟨f,hf,he⟩:=hs
  exact ⟨f,hf,by rw [ap_off hl,← he]⟩
 | 1=>show (k,offL D')=syD (offL D) p;rw [sy_off hl,← show (k,D')=syD D p from hs]
 | 2=>show (k,offL D')=rmD (offL D) p;rw [rm_off hl,← show (k,D')=rmD D p from hs]
 | 3=>show (k,offL D')=rnD (offL D) p q;rw [rn_off hl,← show (k,D')=rnD D p q from hs]
 | n+4=>show (k,offL D')=sdD (offL D);rw [sd_off hl,← show (k,D')=sdD D from hs]
theorem ran_cut:∀ {l:List Stp} {D D':DS} {k:Int} {m:Nat},(∀ t∈l,okS t=true)→Ran D l k m D'→(k≠0∧Ran (offL D) l k m (offL D'))∨(k=0∧∃ j,Ran (offL D) (l.take j) 0 (l.take j).length (offL D'))
 | [],D,D',k,m,_,h=>.inr ⟨h.1,0,rfl,rfl,by rw [h.2.2]⟩
 | t::l,D,D',k,m,ho,h=>by
  by_cases hl:D.R.left=0
  ·obtain ⟨h1,h2⟩:=ran_zero ho hl h
   exact .inr ⟨h1,0,rfl,rfl,by rw [h2]⟩
  ·obtain ⟨k1,D1,h1,h2⟩:=h
   have h3:=st_off h1 hl
   rcases h2 with ⟨a1,a2,a3,a4⟩|⟨a1,m',a2,a3⟩
   ·exact .inl ⟨by rw [a2];exact a1,k1,offL D1,h3,.inl ⟨a1,a2,a3,by rw [a4]⟩⟩
   ·rcases ran_cut (fun x hx=>ho x (by simp [hx])) a3 with ⟨b1,b2⟩|⟨b1,j,b2⟩
    ·exact .inl ⟨b1,k1,offL D1,h3,.inr ⟨a1,m',a2,b2⟩⟩
    ·exact .inr ⟨b1,j+1,k1,offL D1,h3,.inr ⟨a1,(l.take j).length,by simp,b2⟩⟩
theorem ranI_zero:∀ {l:List Stp} {D D':DS},(∀ t∈l,okS t=true)→D.R.left=0→RanI D l D'→D'=D
 | [],_,_,_,_,h=>h
 | t::l,D,D',ho,hl,⟨k1,D1,h1,h2⟩=>by
  obtain ⟨_,rfl⟩:=st_zero h1 (ho t (by simp)) hl
  exact ranI_zero (fun x hx=>ho x (by simp [hx])) hl h2
theorem ranI_cut:∀ {l:List Stp} {D D':DS},(∀ t∈l,okS t=true)→RanI D l D'→∃ j,RanI (offL D) (l.take j) (offL D')
 | [],D,D',_,h=>⟨0,by rw [show D'=D from h];rfl⟩
 | t::l,D,D',ho,h=>by
  by_cases hl:D.R.left=0
  ·have h2:=ranI_zero ho hl h
   exact ⟨0,by rw [h2];rfl⟩
  ·obtain ⟨k1,D1,h1,h2⟩:=h
   obtain ⟨j,h3⟩:=ranI_cut (fun x hx=>ho x (by simp [hx])) h2
   exact ⟨j+1,k1,offL D1,st_off h1 hl,h3⟩
section
variable {P:List FF→Prop} {r:Int} {B:Nat}
theorem okS_take {l:List Stp} (h:∀ t∈l,t.k≠0) (j:Nat):∀ t∈l.take j,t.k≠0:=fun t ht=>h t (List.mem_of_mem_take ht)
theorem torn_ran {l:List Stp} {F:List FF} {D D':DS} {k:Int} {m:Nat} (hk:∀ t∈l,t.k≠0) (ho:∀ t∈l,okS t=true) (h:Wh (offL D) F r B) (hi:Hi (offL D) P) (hc:Chn P r B F l) (hr:Ran D l k m D'):k=0∧Gd P r B (offL D'):=by
 rcases ran_cut ho hr with ⟨h1,h2⟩|⟨h1,j,h2⟩
 ·exact absurd (chn_ran hk h hi hc h2).1 h1
 ·exact ⟨h1,(chn_ran (okS_take hk j) h hi (hc.take j) h2).2⟩
theorem tbS_okS (n:Nat) (hn:n≤2):(∀ t∈tbS n,okS t=true)∧∀ t∈tbS n,t.k≠0:=by
 match n,hn with
 | 0,_=>exact ⟨fun t ht=>(by cases ht),fun t ht=>(by cases ht)⟩
 | 1,_ =>
  rw [tbS_one]
  exact ⟨by decide,by decide⟩
 | 2,_ =>
  have e:tbS 2 = [sRm p1,sRm p0,sSd]:=by rw [← bPath0,← bPath1];rfl
  rw [e]
  exact ⟨by decide,by decide⟩
theorem torn_write {fl:List (ByteArray × ByteArray)} {F:List FF} {D D':DS} {k:Int} (hl:fl.length≤2) (ho:∀ t∈wrS fl,okS t=true) (h:Rst (offL D) F r B) (hP:P F) (hc:Chw P r B (fun i=>tbS (min i fl.length)) 0 F (wrS fl)) (hw:WrZ D fl k D'):Gd P r B (offL D'):=by
 unfold WrZ at hw
 by_cases h0:fl = []
 ·rw [if_pos h0] at hw
  rw [hw.2]
  exact ⟨h.hi hP,F,h.wh,hP⟩
 ·rw [if_neg h0] at hw
  obtain ⟨m,D1,h1,h2⟩:=hw
  rcases ran_cut ho h1 with ⟨a1,a2⟩|⟨a1,j,a2⟩
  ·rcases chw_ran h.wh (h.hi hP) hc a2 with ⟨b1,_⟩|⟨b1,F',b2,b3,b4⟩
   ·exact absurd b1 a1
   ·rcases h2 with ⟨c1,_⟩|⟨_,c2⟩
    ·exact absurd c1 a1
    ·rw [Nat.zero_add] at b4
     have hb:=tbS_okS (min m fl.length) (by omega)
     obtain ⟨j,c3⟩:=ranI_cut hb.1 c2
     exact chn_ranI (okS_take hb.2 j) b2 b3 (b4.take j) c3
  ·rcases h2 with ⟨_,c2⟩|⟨c1,_⟩
   ·rw [c2]
    rcases chw_ran h.wh (h.hi hP) (hc.take j) a2 with ⟨_,b2⟩|⟨b1,_⟩
    ·exact b2
    ·cases b1
   ·exact absurd a1 c1
end
theorem crashN_ne:∀ (l:List DE) (fd:Nat→ByteArray × Int) (ks:List Int) (f:Nat),(∀ e∈l,e.blk≠f)→crashN fd l ks f=fd f
 | [],_,_,_,_=>rfl
 | e::l,fd,ks,f,h=>by
  show crashN (setNd fd e.blk (cutK (fd e.blk) (ks.headD 0))) l ks.tail f=_
  rw [crashN_ne l _ _ f (fun x hx=>h x (by simp [hx])),setNd_ne _ _ (Ne.symm (h e (by simp)))]
theorem cutK_cut (p:ByteArray) (x:ByteArray × Int) (k:Int) (h0:0≤x.2) (h1:x.2≤(x.1.size:Int)):CutE ⟨p,x.1,x.2⟩ ⟨p,(cutK x k).1,(cutK x k).2⟩:=by
 obtain ⟨n,hn⟩ : ∃ n,n=(x.2+min (max k 0) ((x.1.size:Int) - x.2)).toNat:=⟨_,rfl⟩
 have e:cutK x k=(x.1.extract 0 n,(n:Int)):=by unfold cutK;rw [hn]
 have hns:n≤x.1.size:=by omega
 have hz:(x.1.extract 0 n).size=n:=by rw [ByteArray.size_extract];omega
 refine ⟨rfl,n,?_,hns,by rw [e],?_⟩
 ·show x.2≤(n:Int)
  omega
 ·rw [e]
  show (n:Int)=((x.1.extract 0 n).size:Int)
  rw [hz]
theorem crash_list:∀ (l:List DE) (fd:Nat→ByteArray × Int) (ks:List Int),l.Nodup→(∀ e∈l,∀ e'∈l,e.blk=e'.blk→e=e')→(∀ e∈l,0≤(fd e.blk).2∧(fd e.blk).2≤((fd e.blk).1.size:Int))→CutF (l.map (vwE fd)) (l.map (vwE (crashN fd l ks)))
 | [],_,_,_,_,_=>trivial
 | e::l,fd,ks,hn,hi,hy=>by
  obtain ⟨n1,n2⟩:=List.nodup_cons.1 hn
  have hne:∀ x∈l,x.blk≠e.blk:=fun x hx e1=>n1 (by
   have:=hi x (by simp [hx]) e (by simp) e1
   rw [← this]
   exact hx)
  have ih:=crash_list l (setNd fd e.blk (cutK (fd e.blk) (ks.headD 0))) ks.tail n2 (fun a ha b hb=>hi a (by simp [ha]) b (by simp [hb])) (fun x hx=>by
   rw [setNd_ne _ _ (hne x hx)]
   exact hy x (by simp [hx]))
  have e1:l.map (vwE (setNd fd e.blk (cutK (fd e.blk) (ks.headD 0))))=l.map (vwE fd):=List.map_congr_left fun x hx=>by
   unfold vwE
   rw [setNd_ne _ _ (hne x hx)]
  rw [e1] at ih
  refine ⟨?_,ih⟩
  have e2:crashN fd (e::l) ks e.blk=cutK (fd e.blk) (ks.headD 0):=by
   show crashN (setNd fd e.blk (cutK (fd e.blk) (ks.headD 0))) l ks.tail e.blk=_
   rw [crashN_ne _ _ _ _ hne,setNd_same]
  show CutE (vwE fd e) (vwE (crashN fd (e::l) ks) e)
  unfold vwE
  rw [e2]
  exact cutK_cut e.path (fd e.blk) _ (hy e (by simp)).1 (hy e (by simp)).2
theorem CutF.syn:∀ {F G:List FF},CutF F G→∀ x∈G,x.y=(x.t.size:Int)
 | [],[],_,x,hx=>by cases hx
 | a::l,b::m,⟨h1,h2⟩,x,hx=>by
  rcases List.mem_cons.1 hx with rfl|hx
  ·obtain ⟨_,_,_,_,_,h⟩:=h1
   exact h
  ·exact h2.syn x hx
 | [],_::_,h,_,_=>h.elim
 | _::_,[],h,_,_=>h.elim
theorem rise_nodup {l:List DE} (h:Rise l):l.Nodup:=List.Pairwise.imp (fun {a b} hab e=>by rw [e,less_irrefl] at hab;cases hab) h
theorem crash_mid {P:List FF→Prop} {r:Int} {B:Nat} {D:DS} (hg:Gd P r B (offL D)) (n:Nat) (ks:List Int):∃ G F',P G∧CutF G F'∧Rst (crD D n ks) F' r B:=by
 obtain ⟨hi,F,hw,_⟩:=hg
 obtain ⟨G,h1,h2⟩:=hi.hi n
 have hin:∀ e∈goE D.R.safe (D.R.chg.take n),e.blk∈D.fs:=enN_in hw n
 have hrise:Rise (goE D.R.safe (D.R.chg.take n)):=go_rise _ hw.rise
 have hinj:∀ e∈goE D.R.safe (D.R.chg.take n),∀ e'∈goE D.R.safe (D.R.chg.take n),e.blk=e'.blk→e=e':=hi.inj n
 have hcut:=crash_list (goE D.R.safe (D.R.chg.take n)) D.fd ks (rise_nodup hrise) hinj (fun e he=>(hw.dat _ (hin e he)).2)
 refine ⟨G,_,h1,CutF.ge h2 hcut,⟨⟨rfl,rfl,hw.room,hinj,hin,hin,(fun c hc=>by cases hc),⟨rfl,goE_noEmp _ hw.inv.ne⟩,hrise,?_,(fun c hc=>by cases hc)⟩,rfl,rfl,hcut.syn⟩⟩
 exact fun f hf'=>crashN_fit _ _ _ (fun e he=>hw.dat _ (hin e he)) f (hw.dat f hf')
def Chz (P:List FF→Prop) (r:Int) (B:Nat):List FF→List Stp→List FF→Prop
 | F,[],G=>P F∧F=G
 | F,t::l,G=>P F∧∃ F',Mv r B F t F'∧Chz P r B F' l G
theorem ran_cut2:∀ {l:List Stp} {D D':DS} {k:Int} {m:Nat},(∀ t∈l,okS t=true)→Ran D l k m D'→(k≠0∧Ran (offL D) l k m (offL D'))∨(k=0∧D'.R.left=0∧∃ j,Ran (offL D) (l.take j) 0 (l.take j).length (offL D'))∨(k=0∧Ran (offL D) l 0 l.length (offL D'))
 | [],D,D',k,m,_,h=>.inr (.inr ⟨h.1,rfl,rfl,by rw [h.2.2]⟩)
 | t::l,D,D',k,m,ho,h=>by
  by_cases hl:D.R.left=0
  ·obtain ⟨h1,h2⟩:=ran_zero ho hl h
   exact .inr (.inl ⟨h1,by rw [h2];exact hl,0,rfl,rfl,by rw [h2]⟩)
  ·obtain ⟨k1,D1,h1,h2⟩:=h
   have h3:=st_off h1 hl
   rcases h2 with ⟨a1,a2,a3,a4⟩|⟨a1,m',a2,a3⟩
   ·exact .inl ⟨by rw [a2];exact a1,k1,offL D1,h3,.inl ⟨a1,a2,a3,by rw [a4]⟩⟩
   ·rcases ran_cut2 (fun x hx=>ho x (by simp [hx])) a3 with ⟨b1,b2⟩|⟨b1,b0,j,b2⟩|⟨b1,b2⟩
    ·exact .inl ⟨b1,k1,offL D1,h3,.inr ⟨a1,m',a2,b2⟩⟩
    ·exact .inr (.inl ⟨b1,b0,j+1,k1,offL D1,h3,.inr ⟨a1,(l.take j).length,by simp,b2⟩⟩)
    ·exact .inr (.inr ⟨b1,k1,offL D1,h3,.inr ⟨a1,l.length,by simp,b2⟩⟩)
section
variable {P:List FF→Prop} {r:Int} {B:Nat}
theorem Chz.p:∀ {l:List Stp} {F G:List FF},Chz P r B F l G→P F
 | [],_,_,h=>h.1
 | _::_,_,_,h=>h.1
theorem Chz.chn:∀ {l:List Stp} {F G:List FF},Chz P r B F l G→Chn P r B F l
 | [],_,_,h=>h.1
 | _::_,_,_,⟨h1,F',h2,h3⟩=>⟨h1,F',h2,h3.chn⟩
theorem chz_ran:∀ {l:List Stp} {F G:List FF} {D D':DS} {k:Int} {m:Nat},(∀ t∈l,t.k≠0)→Wh D F r B→Hi D P→Chz P r B F l G→Ran D l k m D'→k=0∧Wh D' G r B∧Hi D' P∧P G
 | [],F,G,D,D',k,m,_,hw,hi,hc,hr=>by
  obtain ⟨hc1,rfl⟩:=hc
  rw [hr.2.2]
  exact ⟨hr.1,hw,hi,hc1⟩
 | t::l,F,G,D,D',k,m,hk,hw,hi,⟨_,F',h2,h3⟩,⟨k1,D1,h4,h5⟩=>by
  rcases h2 D D1 k1 hw h4 with ⟨a1,a2,a3⟩|⟨a1,_⟩
  ·rcases h5 with ⟨h5,_⟩|⟨_,m',_,h6⟩
   ·exact absurd a1 h5
   ·exact chz_ran (fun x hx=>hk x (by simp [hx])) a2 (a3 P hi h3.p) h3 h6
  ·exact absurd a1 (hk t (by simp))
theorem torn_all {l:List Stp} {F G:List FF} {D D':DS} {k:Int} {m:Nat} (hk:∀ t∈l,t.k≠0) (ho:∀ t∈l,okS t=true) (h:Wh (offL D) F r B) (hi:Hi (offL D) P) (hc:Chz P r B F l G) (hr:Ran D l k m D'):k=0∧((D'.R.left=0∧Gd P r B (offL D'))∨(Wh (offL D') G r B∧Hi (offL D') P∧P G)):=by
 rcases ran_cut2 ho hr with ⟨h1,h2⟩|⟨h1,h0,j,h2⟩|⟨h1,h2⟩
 ·exact absurd (chz_ran hk h hi hc h2).1 h1
 ·exact ⟨h1,.inl ⟨h0,(chn_ran (okS_take hk j) h hi (hc.chn.take j) h2).2⟩⟩
 ·exact ⟨h1,.inr (chz_ran hk h hi hc h2).2⟩
end
section
variable {w:World} {db xb sb cb:Nat} {s:PSt} {tb:Nat} {cl:List (List Nat)} {A:Sto} {r:Int} {n cu:Nat}
theorem SA.later {w':World} (h:SA w db xb sb cb s tb cl A r n cu) (hb:Below w.heap.size w w'):SA w' db xb sb cb s tb cl A r n cu:=h.same (SGo.of_below hb) ((hb.block _ (lt_heap h.st)).trans h.st) (h.sw.later hb)
theorem SaN.pre {w1 w':World} {A':Sto} {m cv:Nat} (h:SaN w1 w' db xb sb cb s tb A' r m cv) (hb:Below w.heap.size w w1):SaN w w' db xb sb cb s tb A' r m cv:=by
 obtain ⟨s',tb',cl',h1,h2,h3⟩:=h
 exact ⟨s',tb',cl',(SGo.of_below hb).trans h1,h2.imp id (fun h=>Nat.le_trans hb.size h),h3⟩
theorem SaN.post {w1 w':World} {A':Sto} {m cv:Nat} (h:SaN w w1 db xb sb cb s tb A' r m cv) (hb:Below w1.heap.size w1 w'):SaN w w' db xb sb cb s tb A' r m cv:=by
 obtain ⟨s',tb',cl',h1,h2,h3⟩:=h
 exact ⟨s',tb',cl',h1.trans (SGo.of_below hb),h2,h3.later hb⟩
def dsPl (A:Sto) (K N B:Int):Pl:=match pickN K 8 with
 | 0=>putPl A (conT B)
 | 1=>putPl A (conT B)
 | 2=>tagPl A (nmT N) (conT B)
 | 3=>untPl A (nmT N)
 | 4=>pubPl A (nmT N) (conT B)
 | 5=>pubPl A (nmT N) (conT B)
 | 6=>delPl A (conT B)
 | _=>pruPl A
theorem SA.apart (h:SA w db xb sb cb s tb cl A r n cu) {W w':World} {s':PSt} (hg:SGo (sS xb sb cb) s s' W w') (k:Nat) (h1:w.heap.size≤k) (h2:k<W.heap.size):w'.heap[k]? = W.heap[k]?:=hg.gr.block k h2 (fun e=>by
 rcases e with e|e|e|e
 ·have:=h.sw.inn.lt e;omega
 ·have:=lt_heap h.st;omega
 ·have:=lt_heap h.sw.blk;omega
 ·have:=h.sw.cm.lt;omega)
theorem SA.doc (h:SA w db xb sb cb s tb cl A r n cu) (X:ByteArray × Int × Sto):DoC w (fun W=>SA W db xb sb cb s tb cl A r n cu) (fun t k W w'=>t=X.1∧k=X.2.1∧SaN W w' db xb sb cb s tb X.2.2 r (n+1) (cu+n+20)) :=
 ⟨h,fun _ _ hW hb=>hW.later hb,fun _ hW=>hW.sw.gl,fun _ _ _ _ _ hb hq=>⟨hq.1,hq.2.1,hq.2.2.pre hb⟩,fun _ _ _ _ _ hq hb=>⟨hq.1,hq.2.1,hq.2.2.post hb⟩,fun _ _ _ _ hq k h1 h2=>by
  obtain ⟨_,_,s',_,_,hg,_⟩:=hq
  exact h.apart hg k h1 h2⟩
theorem does_any (h:SA w db xb sb cb s tb cl A r n cu) (hn:n≤300000) (hcu:cu≤90000000000) (K N B:Int) (hK:i64r K) (hN:i64r N) (hB:i64r B) :
  Calls Tryz.prog 11 #[.pointer (some ⟨xb,0,none⟩),.agg #[.int .i64 K,.int .i64 N,.int .i64 B]] w fun e w'=>e = .returned (.tuple #[.string ((dsPl A K N B).run r A).1,.int .i64 ((dsPl A K N B).run r A).2.1])∧SaN w w' db xb sb cb s tb ((dsPl A K N B).run r A).2.2 r (n+1) (cu+n+20):=by
 have h8:=pickN_lt K 8 (by decide)
 have hbs:=conT_size B
 have hns:=nmT_size N
 have hnt:=nmT_tag N
 have hfin:∀ X:ByteArray × Int × Sto,(Calls Tryz.prog 11 #[.pointer (some ⟨xb,0,none⟩),.agg #[.int .i64 K,.int .i64 N,.int .i64 B]] w fun e w'=>∃ t k,e = .returned (.tuple #[.string t,.int .i64 k])∧t=X.1∧k=X.2.1∧SaN w w' db xb sb cb s tb X.2.2 r (n+1) (cu+n+20)) →
   Calls Tryz.prog 11 #[.pointer (some ⟨xb,0,none⟩),.agg #[.int .i64 K,.int .i64 N,.int .i64 B]] w fun e w'=>e = .returned (.tuple #[.string X.1,.int .i64 X.2.1])∧SaN w w' db xb sb cb s tb X.2.2 r (n+1) (cu+n+20):=fun X hc=>hc.mono (by
  rintro e w' ⟨t,k,rfl,rfl,rfl,hs⟩
  exact ⟨rfl,hs⟩)
 have hput:=fun hk=>hfin _ (dsg_put (h.doc ((putPl A (conT B)).run r A)) K N B hK hN hB hk (fun W hW=>(saPut hW hn hcu (conT B) (by omega)).mono (by
  rintro e w' ⟨rfl,hs⟩
  exact ⟨_,_,rfl,rfl,rfl,hs⟩)))
 have hpub:=fun hk=>hfin _ (dsg_pub (h.doc ((pubPl A (nmT N) (conT B)).run r A)) K N B hK hN hB hk (fun W hW=>(saPub hW hn hcu (nmT N) (conT B) (by omega) hnt (by omega)).mono (by
  rintro e w' ⟨rfl,hs⟩
  exact ⟨_,_,rfl,rfl,rfl,hs⟩)))
 unfold dsPl
 match hk:pickN K 8,h8 with
 | 0,_=>exact hput (.inl hk)
 | 1,_=>exact hput (.inr hk)
 | 2,_=>exact hfin _ (dsg_tag (h.doc ((tagPl A (nmT N) (conT B)).run r A)) K N B hK hN hB hk (fun W hW=>(saTag hW hn hcu (nmT N) (conT B) (by omega) hnt (by omega)).mono (by
   rintro e w' ⟨h1,rfl,hs⟩
   exact ⟨_,rfl,h1.symm,rfl,hs⟩)))
 | 3,_=>exact hfin _ (dsg_unt (h.doc ((untPl A (nmT N)).run r A)) K N B hK hN hB hk (fun W hW=>(saUntag hW hn hcu (nmT N) (by omega) hnt).mono (by
   rintro e w' ⟨h1,rfl,hs⟩
   exact ⟨_,rfl,h1.symm,rfl,hs⟩)))
 | 4,_=>exact hpub (.inl hk)
 | 5,_=>exact hpub (.inr hk)
 | 6,_=>exact hfin _ (dsg_del (h.doc ((delPl A (conT B)).run r A)) K N B hK hN hB hk (fun W hW=>(saDel hW hn hcu (conT B)).mono (by
   rintro e w' ⟨h1,rfl,hs⟩
   exact ⟨_,rfl,h1.symm,rfl,hs⟩)))
 | 7,_ =>
  have hun:untN A≤1000000:=by
   have h1:(unT A.tg (dlA A)).length≤(dlA A).length:=List.length_filter_le _ _
   have h2:(dlA A).length=A.cs.length:=List.length_map _
   have:=h.len
   unfold untN
   omega
  exact hfin _ (dsg_pru (h.doc ((pruPl A).run r A)) K N B hK hN hB hk (fun W hW=>(saPrune hW hn hcu).mono (by
   rintro e w' ⟨h1,rfl,hs⟩
   exact ⟨untN A,0,hun,rfl,by rw [h1],by rw [h1],hs⟩)))
end
end Go.Proofs.YtncigfibncmioaaGreatDoor
namespace Go.Proofs.YtncigfibncmioaaGreatDoor
set_option maxHeartbeats 2000000
set_option maxRecDepth 100000
open Go.RowKit
def GoC (RO:DS→Int→DS→Prop) (s:PSt) (l:List TE) (cl:List (List Nat)):Prop:=∀ (sb cb tb:Nat) (W:World),StW W sb s cb tb 0 0 (.map []) (.map []) →
 Calls Tryz.prog 94 #[.pointer (some ⟨sb,0,none⟩)] W fun e w'=>∃ ev k s',e = .returned ev∧ErrV w' ev k∧SGo (fun k=>k=cb∨k=tb) s s' W w'∧RO s.ds k s'.ds∧s'.In w'∧(k=0→∃ nc,StW w' sb s' cb tb nc l.length (cD cl) (tD l))
theorem openS_gen {RO:DS→Int→DS→Prop} (s:PSt) (l:List TE) (cl:List (List Nat)) (w:World) (h:s.In w) (hgl:Gl w) (hlow:LowS s) (hlay:(rdD s.ds layoutP).isSome=true) (hgo:GoC RO s l cl) :
  Calls Tryz.prog 50 #[.pointer (some ⟨s.b,0,none⟩)] w fun e w'=>∃ k s' sv ev,e = .returned (.tuple #[sv,ev])∧ErrV w' ev k∧PGo s s' w w'∧RO s.ds k s'.ds ∧
   (k=0→∃ sb cb tb,sv = .pointer (some ⟨sb,0,none⟩)∧(w.heap.size≤sb∧w.heap.size≤cb∧w.heap.size≤tb)∧StW w' sb s' cb tb cl.length l.length (cD cl) (tD l))∧(k≠0→sv = .pointer none):=by
 obtain ⟨W,hW,hB,hsz,hcm,htm,hblk⟩:=three_maps w s.b
 have hmk1:=fun w=>run_makeMap (P:=Tryz.prog) 156 w
 have hmk2:=fun w=>run_makeMap (P:=Tryz.prog) 157 w
 have hst:StW W (w.heap.size+1+1) s w.heap.size (w.heap.size+1) 0 0 (.map []) (.map []):=⟨h.later hB,hgl.later hB,hlow,hblk,hcm,htm,fun e=>by have:=h.lt e;omega,fun e=>by have:=h.lt e;omega,fun e=>by have:=hgl.lt e;omega,fun e=>by have:=hgl.lt e;omega,fun e=>by have:=hgl.lt e;omega,by omega⟩
 have HB:=hide hB
 have HW:=hide hW
 have HTH:=hide (isThere_any (w.heap.size+1+1) s layoutP W hst.on.sb hst.inn (by decide))
 rw [hlay] at HTH
 have HGN:=hide (fun (W':World) (hg:PGo s s W W')=>hgo (w.heap.size+1+1) w.heap.size (w.heap.size+1) W' (hst.go hg))
 have e1:∀ (args:Array Value) (w:World),(callFunc 92 args).run Tryz.prog w = .ok (.enter 92 args) w:=enters_of Tryz.func92 (by kernel_rfl) rfl
 have e2:∀ (args:Array Value) (w:World),(callFunc 94 args).run Tryz.prog w = .ok (.enter 94 args) w:=enters_of Tryz.func94 (by kernel_rfl) rfl
 clear hst hB hcm htm hblk h hgl hlow hW hlay hgo
 go_enter Tryz.func50,Tryz.ntmps50
 go_wp2_with fail
 rw [← HW.out]
 refine (HTH.out).mono ?_
 rintro _ w1 ⟨rfl,hg1⟩
 dsimp only
 have HG1:=hide hg1
 clear hg1 HTH HW hmk1 hmk2
 go_wp2_with fail
 refine (HGN.out _ HG1.out).mono ?_
 rintro _ w2 ⟨ev,k,s',rfl,hev,hg2,hr,hin2,hs2⟩
 dsimp only
 have hpg:PGo s s' w w2:=by
  have g1:=((SGo.of_below (S:=fun k=>k=w.heap.size∨k=w.heap.size+1) (s:=s) HB.out).trans (SGo.of_go HG1.out)).trans hg2
  refine ⟨g1.b,hin2,g1.gr.mono (fun k hk hs=>?_),g1.own⟩
  rcases hs with hs|hs|hs
  ·exact hs
  ·omega
  ·omega
 have HPG:=hide hpg
 have HR:=hide hr
 have HS2:=hide (show k=0→StW w2 (w.heap.size+1+1) s' w.heap.size (w.heap.size+1) cl.length l.length (cD cl) (tD l) from fun hk=>by
  obtain ⟨nc,h9⟩:=hs2 hk
  exact ⟨h9.inn,h9.gl,h9.low,h9.blk,mD_tight h9.cm,h9.tm,h9.ncb,h9.ntb,h9.gcb,h9.gtb,h9.gsb,h9.ne⟩)
 clear hg2 hr hs2 hpg hin2
 rcases hev with ⟨rfl,rfl⟩|⟨hk0,sv,nm,rfl,hsv⟩
 ·have HS3:=hide (HS2.out rfl)
  clear HS2
  go_wp2_with fail
  refine bodyPost_ret (results_tmp2 rfl _ _ _) rfl ?_
  exact ⟨0,s',_,_,rfl,.inl ⟨rfl,rfl⟩,HPG.out,HR.out,fun _=>⟨_,_,_,rfl,by omega,HS3.out⟩,fun hk=>absurd rfl hk⟩
 ·have HSV:=hide hsv
  clear hsv
  go_wp2_with fail
  refine bodyPost_ret (results_tmp2 rfl _ _ _) rfl ?_
  exact ⟨k,s',_,_,rfl,.inr ⟨hk0,sv,nm,rfl,HSV.out⟩,HPG.out,HR.out,fun hk=>absurd hk hk0,fun _=>rfl⟩
theorem bOpen_gen {RO:DS→Int→DS→Prop} (s:PSt) (l:List TE) (cl:List (List Nat)) (w:World) (d:Nat) (h:s.In w) (hgl:Gl w) (hlow:LowS s) (hlay:(rdD s.ds layoutP).isSome=true) (hgo:GoC RO s l cl) (hbd:BD w d s.b) :
  Calls Tryz.prog 17 #[.pointer (some ⟨d,0,none⟩)] w fun e w'=>∃ k s' sv,e = .returned (.tuple #[sv,.int .i64 k])∧PGo s s' w w'∧RO s.ds k s'.ds ∧
   (k=0→∃ xb sb cb tb,sv = .pointer (some ⟨xb,0,none⟩)∧BSt w' xb sb∧(w.heap.size≤sb∧w.heap.size≤cb∧w.heap.size≤tb)∧w.heap.size≤xb∧StW w' sb s' cb tb cl.length l.length (cD cl) (tD l))∧(k≠0→sv = .pointer none) :=
 bOpen_many (RO:=RO) s w d h hgl hlow (fun W hW=>openS_gen s l cl W (h.later hW) (hgl.later hW) hlow hlay hgo) hbd
theorem goC_rest {s:PSt} {l:List TE} {L C B:Nat} (hq:QuI s.ds l) (hf:DFit s.ds L C B) (hb:Bud (L+s.R.now.length+20) (C+s.R.now.length+20) (B+36)) (hps:∀ e∈s.R.now,e.path.size≤9223372036854775807):GoC GoR s l (ctF s.R.now):=fun sb cb tb W h=>by
 refine (goOn_many sb s cb tb l W h hq hf hb hps).mono ?_
 rintro e w' ⟨ev,k,s',he,hev,hg,hr,nc,_,hst⟩
 exact ⟨ev,k,s',he,hev,hg,hr,hst.inn,fun _=>⟨nc,hst⟩⟩
theorem goC_two {s:PSt} {l:List TE} {L C B:Nat} (hq:QuT s.ds l) (hf:DFit s.ds L C B) (hb:Bud (L+s.R.now.length+20) (C+s.R.now.length+20) (B+36)) (hps:∀ e∈s.R.now,e.path.size≤9223372036854775807):GoC GoR s l (ctF s.R.now):=fun sb cb tb W h=>by
 refine (goOn_two sb s cb tb l W h hq hf hb hps).mono ?_
 rintro e w' ⟨ev,k,s',he,hev,hg,hr,nc,_,hst⟩
 exact ⟨ev,k,s',he,hev,hg,hr,hst.inn,fun _=>⟨nc,hst⟩⟩
theorem goC_com {s:PSt} {l:List TE} {L C B:Nat} (hq:QuC s.ds l) (hp1:∀ k D1,(k,D1)=rnD s.ds (bPath 1) indexP→rdD D1 pruningP=none∧(∀ e∈D1.R.now,e.path.size≤9223372036854775807)∧D1.R.now.length≤s.R.now.length) (hf:DFit s.ds L C B) (hb:Bud (L+s.R.now.length+30) (C+s.R.now.length+30) (B+36)):GoC (GoX [sRn (bPath 1) indexP]) s l (ctF s.R.now):=fun sb cb tb W h=>by
 refine (goOn_com sb s cb tb l W h hq hp1 hf hb).mono ?_
 rintro e w' ⟨ev,k,s',he,hev,hg,hr,nc,_,hst⟩
 exact ⟨ev,k,s',he,hev,hg,hr,hst.inn,fun _=>⟨nc,hst⟩⟩
theorem goC_pru {s:PSt} {l:List TE} {L C B:Nat} (dl:List DV) (hq:QuP s.ds l) (hdr:RiseK DV.key dl) (hdm:∀ x,x∈dl ↔ x.1∈ctF s.R.now) (hdl:dl.length≤s.R.now.length) (hctl:(ctF s.R.now).length≤100000000) (hp1:∀ k m D1,Ran s.ds (epS (unT l dl)) k m D1→(∀ e∈D1.R.now,e.path.size≤9223372036854775807)∧D1.R.now.length≤s.R.now.length)
  (hf:DFit s.ds L C B) (hb:Bud (L+s.R.now.length+s.R.now.length+50) (C+s.R.now.length+s.R.now.length+50) (B+36)) (cl:List (List Nat)) (hcl:delsD (cD (ctF s.R.now)) (unT l dl)=cD cl):GoC (GoX (epS (unT l dl))) s l cl:=fun sb cb tb W h=>by
 refine (goOn_pru sb s cb tb l W h dl hq hdr hdm hdl hctl hp1 hf hb).mono ?_
 rintro e w' ⟨ev,k,s',he,hev,hg,hr,nc,m,_,hm,hst⟩
 refine ⟨ev,k,s',he,hev,hg,hr,hst.inn,fun hk=>⟨nc,?_⟩⟩
 rw [List.take_of_length_le (hm hk),hcl] at hst
 exact hst
end Go.Proofs.YtncigfibncmioaaGreatDoor
namespace Go.Proofs.YtncigfibncmioaaGreatDoor
open Go.RowKit
inductive Sh (n:Nat) (A:Sto):List FF→Prop
 | rest:Sh n A (fA A)
 | one (t:ByteArray):Sh n A (insK FF.p (ff p0 t) (fA A))
 | two (t u:ByteArray):Sh n A (insK FF.p (ff p1 u) (insK FF.p (ff p0 t) (fA A)))
 | com (l:List TE):Sh n A (insK FF.p (ff p1 (idxX A.tg)) (fA ⟨A.cs,l⟩))
 | pru (cs:List ByteArray):RiseK kC cs→cs.length≤n→A.cs=cs.filter (fun b=>tagd (dOfB b) A.tg)→Sh n A (insK FF.p (ff pruningP ⟨#[]⟩) (delK FF.p journalP (fA ⟨cs,A.tg⟩)))
def ShP (n:Nat) (A A':Sto) (F:List FF):Prop:=∀ F',CutF F F'→Sh n A F'∨Sh n A' F'
theorem ff_cut {x x':FF} (h:CutE x x'):x'=ff x.p x'.t:=by
 obtain ⟨h1,n,_,_,_,h5⟩:=h
 obtain ⟨p,t,y⟩:=x'
 simp only at h1 h5
 unfold ff
 rw [h1,h5]
theorem fA_syn (A:Sto):∀ x∈fA A,x.y=(x.t.size:Int):=fun x hx=>by
 unfold fA at hx
 rcases List.mem_append.1 hx with hx|hx
 ·obtain ⟨b,_,rfl⟩:=List.mem_map.1 hx
  rfl
 ·rcases tail_mem hx with rfl|rfl|rfl<;>rfl
theorem le_of_syn {F:List FF} (h:∀ x∈F,x.y=(x.t.size:Int)):∀ x∈F,x.y≤(x.t.size:Int):=fun x hx=>by rw [h x hx];exact Int.le_refl _
section
variable {n:Nat} {A A':Sto} {F:List FF}
theorem ShP.rest:ShP n A A' (fA A):=fun F' h=>by rw [h.same (fA_syn A)];exact .inl .rest
theorem ShP.rest2:ShP n A A' (fA A'):=fun F' h=>by rw [h.same (fA_syn A')];exact .inr .rest
theorem ShP.one {t:ByteArray} {y:Int}:ShP n A A' (insK FF.p ⟨p0,t,y⟩ (fA A)):=fun F' h=>by
 obtain ⟨x',G,h1,h2,rfl⟩:=CutF.ins h (le_of_syn (fA_syn A))
 rw [ff_cut h1,h2.same (fA_syn A)]
 exact .inl (.one _)
theorem ShP.two {t u:ByteArray} {y z:Int} (hz:z≤(t.size:Int)):ShP n A A' (insK FF.p ⟨p1,u,y⟩ (insK FF.p ⟨p0,t,z⟩ (fA A))):=fun F' h=>by
 obtain ⟨x',G,h1,h2,rfl⟩:=CutF.ins h (fun e he=>by
  rcases insK_mem he with rfl|he
  ·exact hz
  ·exact le_of_syn (fA_syn A) e he)
 obtain ⟨x2,G2,h3,h4,rfl⟩:=CutF.ins h2 (le_of_syn (fA_syn A))
 rw [ff_cut h1,ff_cut h3,h4.same (fA_syn A)]
 exact .inl (.two _ _)
theorem ShP.com {l:List TE} (hl:A'.tg=l):ShP n A A' (insK FF.p (ff p1 (idxX l)) (fA ⟨A'.cs,A.tg⟩)):=fun F' h=>by
 rw [h.same (fun x hx=>by
  rcases insK_mem hx with rfl|hx
  ·rfl
  ·exact fA_syn _ x hx),← hl]
 exact .inr (.com _)
theorem ShP.pru {cs:List ByteArray} (hr:RiseK kC cs) (hn:cs.length≤n) (h1:A'.tg=A.tg) (h2:A'.cs=cs.filter (fun b=>tagd (dOfB b) A'.tg)):ShP n A A' (insK FF.p (ff pruningP ⟨#[]⟩) (delK FF.p journalP (fA ⟨cs,A.tg⟩))):=fun F' h=>by
 rw [h.same (fun x hx=>by
  rcases insK_mem hx with rfl|hx
  ·rfl
  ·exact fA_syn _ x (delK_mem.1 hx).1),← h1]
 exact .inr (.pru cs hr hn h2)
end
theorem ins_ins {F:List FF} (hr:RiseK FF.p F) {x y:FF} (h:x.p=y.p):insK FF.p x (insK FF.p y F)=insK FF.p x F:=by
 refine riseK_ext (riseK_ins _ (riseK_ins _ hr)) (riseK_ins _ hr) (fun n=>?_)
 rw [findK_ins _ _ (riseK_ins _ hr),findK_ins _ _ hr,findK_ins _ _ hr,h]
 by_cases hn:n=y.p
 ·simp [hn]
 ·simp [hn]
theorem ins_swap {F:List FF} (hr:RiseK FF.p F) {x y:FF} (h:x.p≠y.p):insK FF.p x (insK FF.p y F)=insK FF.p y (insK FF.p x F):=by
 refine riseK_ext (riseK_ins _ (riseK_ins _ hr)) (riseK_ins _ (riseK_ins _ hr)) (fun n=>?_)
 rw [findK_ins _ _ (riseK_ins _ hr),findK_ins _ _ hr,findK_ins _ _ (riseK_ins _ hr),findK_ins _ _ hr]
 by_cases hn:n=x.p
 ·simp [hn,h]
 ·simp [hn]
theorem del_ins {F:List FF} (hr:RiseK FF.p F) {x:FF} (h:findK FF.p x.p F=none):delK FF.p x.p (insK FF.p x F)=F:=by
 refine riseK_ext (riseK_del _ (riseK_ins _ hr)) hr (fun n=>?_)
 rw [findK_del,findK_ins _ _ hr]
 by_cases hn:n=x.p
 ·subst hn
  simp [h]
 ·simp [hn]
theorem del_insO {F:List FF} (hr:RiseK FF.p F) {x:FF} {p:ByteArray} (h:x.p≠p):delK FF.p p (insK FF.p x F)=insK FF.p x (delK FF.p p F):=by
 refine riseK_ext (riseK_del _ (riseK_ins _ hr)) (riseK_ins _ (riseK_del _ hr)) (fun n=>?_)
 rw [findK_del,findK_ins _ _ hr,findK_ins _ _ (riseK_del _ hr),findK_del]
 by_cases hn:n=p
 ·subst hn
  simp [Ne.symm h]
 ·simp [hn]
section
variable {P:List FF→Prop} {r:Int} {B:Nat} {F:List FF} {c b q X:ByteArray}
theorem chw_one (hr:RiseK FF.p F) (h0:findK FF.p p0 F=none) (hc:isPathB c=true) (hcp:p0≠c) (hB:b.size≤B) (P0:P F) (P1:P (insK FF.p ⟨p0,b,0⟩ F)) (P2:P (insK FF.p ⟨p0,b,(b.size:Int)⟩ F)) (P3:P (insK FF.p (ff c b) F)) :
  Chw P r B (fun i=>tbS (min i [(c,b)].length)) 0 F (wrS [(c,b)]):=by
 rw [wrS_one]
 refine ⟨P0,fun _=>P0,_,Mv.ap p0_path h0 hB,P1,fun h=>(by cases h),_,(Mv.sy p0_path (mem_ins hr ⟨p0,b,0⟩)).eq (ins_ins hr rfl),P2,fun h=>(by cases h),insK FF.p (ff c b) F,(Mv.rn p0_path hc hcp (mem_ins hr ⟨p0,b,(b.size:Int)⟩)).eq ?_,P3,fun h=>(by cases h),_,Mv.sd,P3⟩
 show insK FF.p (ff c b) (delK FF.p p0 _)=_
 rw [show delK FF.p p0 (insK FF.p ⟨p0,b,(b.size:Int)⟩ F)=F from del_ins (x:=⟨p0,b,(b.size:Int)⟩) hr h0]
theorem chw_two (hr:RiseK FF.p F) (h0:findK FF.p p0 F=none) (h1:findK FF.p p1 F=none) (hc:isPathB c=true) (hq:isPathB q=true) (hc0:p0≠c) (hc1:p1≠c) (hq1:p1≠q) (hB:b.size≤B) (hX:X.size≤B)
  (P0:P F) (P1:P (insK FF.p ⟨p0,b,0⟩ F)) (P2:∀ y z,(z=0∨z=(b.size:Int))→P (insK FF.p ⟨p1,X,y⟩ (insK FF.p ⟨p0,b,z⟩ F))) (P5:P (insK FF.p (ff p1 X) (insK FF.p (ff c b) F))) (P6:P (insK FF.p (ff q X) (insK FF.p (ff c b) F))) :
  Chw P r B (fun i=>tbS (min i [(c,b),(q,X)].length)) 0 F (wrS [(c,b),(q,X)]):=by
 have hws:wrS [(c,b),(q,X)] = [sAp p0 b,sAp p1 X,sSy p0,sSy p1,sRn p0 c,sRn p1 q,sSd]:=by
  rw [← bPath0,← bPath1]
  rfl
 have n01:p0≠p1:=by decide
 have r1:=riseK_ins (key:=FF.p) ⟨p0,b,0⟩ hr
 have r2:=riseK_ins (key:=FF.p) ⟨p0,b,(b.size:Int)⟩ hr
 have rc:=riseK_ins (key:=FF.p) (ff c b) hr
 have hp1:∀ z,findK FF.p p1 (insK FF.p ⟨p0,b,z⟩ F)=none:=fun z=>by
  rw [findK_ins _ _ hr,if_neg (fun e=>n01 e.symm)]
  exact h1
 have hpc:findK FF.p p1 (insK FF.p (ff c b) F)=none:=by
  rw [findK_ins _ _ hr,if_neg (show ¬ p1=(ff c b).p from hc1)]
  exact h1
 rw [hws]
 refine ⟨P0,fun _=>P0,_,Mv.ap p0_path h0 hB,P1,fun _=>?_,_,Mv.ap p1_path (hp1 0) hX,P2 _ _ (.inl rfl),fun h=>(by cases h),insK FF.p ⟨p1,X,0⟩ (insK FF.p ⟨p0,b,(b.size:Int)⟩ F),(Mv.sy p0_path (mem_ins_old r1 (mem_ins hr ⟨p0,b,0⟩) n01)).eq ?_,P2 _ _ (.inr rfl),fun h=>(by cases h),insK FF.p ⟨p1,X,(X.size:Int)⟩ (insK FF.p ⟨p0,b,(b.size:Int)⟩ F),(Mv.sy p1_path (mem_ins r2 ⟨p1,X,0⟩)).eq (ins_ins r2 rfl),P2 _ _ (.inr rfl),fun h=>(by cases h),insK FF.p (ff p1 X) (insK FF.p (ff c b) F),(Mv.rn p0_path hc hc0 (mem_ins_old r2 (mem_ins hr ⟨p0,b,(b.size:Int)⟩) n01)).eq ?_,P5,fun h=>(by cases h),insK FF.p (ff q X) (insK FF.p (ff c b) F),(Mv.rn p1_path hq hq1 (mem_ins rc (ff p1 X))).eq ?_,P6,fun h=>(by cases h),_,Mv.sd,P6⟩
 ·show Chn P r B _ (tbS 1)
  rw [tbS_one]
  refine ⟨P1,F,(Mv.rm (x:=⟨p0,b,0⟩) p0_path (mem_ins hr _)).eq (del_ins (x:=⟨p0,b,0⟩) hr h0),P0,_,Mv.sd,P0⟩
 ·rw [ins_swap (x:=⟨p0,b,(b.size:Int)⟩) (y:=⟨p1,X,0⟩) r1 n01,ins_ins (x:=⟨p0,b,(b.size:Int)⟩) (y:=⟨p0,b,0⟩) hr rfl]
 ·show insK FF.p (ff c b) (delK FF.p p0 _)=_
  rw [show delK FF.p p0 (insK FF.p ⟨p1,X,(X.size:Int)⟩ (insK FF.p ⟨p0,b,(b.size:Int)⟩ F))=insK FF.p ⟨p1,X,(X.size:Int)⟩ (delK FF.p p0 (insK FF.p ⟨p0,b,(b.size:Int)⟩ F)) from del_insO r2 (Ne.symm n01),show delK FF.p p0 (insK FF.p ⟨p0,b,(b.size:Int)⟩ F)=F from del_ins (x:=⟨p0,b,(b.size:Int)⟩) hr h0]
  exact ins_swap (x:=ff c b) (y:=ff p1 X) hr (Ne.symm hc1)
 ·show insK FF.p (ff q X) (delK FF.p p1 _)=_
  rw [show delK FF.p p1 (insK FF.p (ff p1 X) (insK FF.p (ff c b) F))=insK FF.p (ff c b) F from del_ins (x:=ff p1 X) rc hpc]
end
theorem Sh.syn {n:Nat} {A:Sto} {F:List FF} (h:Sh n A F):∀ x∈F,x.y=(x.t.size:Int):=fun x hx=>by
 cases h with
 | rest=>exact fA_syn A x hx
 | one t =>
  rcases insK_mem hx with rfl|hx
  ·rfl
  ·exact fA_syn _ x hx
 | two t u =>
  rcases insK_mem hx with rfl|hx
  ·rfl
  ·rcases insK_mem hx with rfl|hx
   ·rfl
   ·exact fA_syn _ x hx
 | com l =>
  rcases insK_mem hx with rfl|hx
  ·rfl
  ·exact fA_syn _ x hx
 | pru cs h1 h2 h3 =>
  rcases insK_mem hx with rfl|hx
  ·rfl
  ·exact fA_syn _ x (delK_mem.1 hx).1
theorem Sh.shp {n:Nat} {A:Sto} {F:List FF} (h:Sh n A F):ShP n A A F:=fun F' hc=>by rw [hc.same h.syn];exact .inl h
structure DQ (w:World) (d:Nat) (s:PSt) (A:Sto) (r:Int) (n cu:Nat):Prop where
 dk:DkW w d s
 rq:Rq s.ds A r
 c0:0≤s.ds.R.count
 c1:s.ds.R.count≤(cu:Int)
 len:A.cs.length≤n
 good:GoodA A
 use:(szA A:Int)≤r
 r0:0≤r
 r1:r≤9223372036854775807
theorem DFit.ofOff {D:DS} {L C B:Nat} (h:DFit (offL D) L C B) (l0 : -1≤D.R.left) (l1:D.R.left≤9223372036854775807):DFit D L C B :=
 ⟨h.len,h.c0,h.c1,l0,l1,h.r0,h.r1,h.dat,h.chf,⟨h.inv.go,h.inv.ne⟩,h.inow,h.isafe,h.ichg,h.rise⟩
theorem offL_self {D:DS} (h:D.R.left = -1):offL D=D:=by
 obtain ⟨⟨room,now,safe,chg,count,left⟩,fs,fd⟩:=D
 simp only at h
 subst h
 rfl
section
variable {w:World} {d:Nat} {s:PSt} {A:Sto} {r:Int} {n cu:Nat}
theorem DQ.fit (h:DQ w d s A r n cu):DFit s.ds (n+3) cu 2000 :=
 DFit.ofOff ((h.rq.rst.fit (C:=cu) h.c0 h.c1 h.r0 h.r1).mono (by rw [fA_len];have:=h.len;omega) (Nat.le_refl _) (Nat.le_refl _)) h.rq.l0 h.rq.l1
theorem DQ.small (h:DQ w d s A r n cu):∀ e∈s.R.now,e.path.size≤80:=fun e he=>by
 have hv:s.ds.R.now.map (vwE s.ds.fd)=fA A:=h.rq.vw
 have hm:vwE s.fd e∈fA A:=by rw [← hv];exact List.mem_map_of_mem he
 have:=fA_path hm
 exact path_size this
theorem SA.dq {db xb sb cb tb:Nat} {cl:List (List Nat)} (h:SA w db xb sb cb s tb cl A r n cu):DQ w db s A r n cu :=
 ⟨h.dk,⟨by rw [offL_self h.rst.wh.left];exact h.rst,by rw [h.rst.wh.left];decide,by rw [h.rst.wh.left];decide⟩,h.c0,h.c1,h.len,h.good,h.use,h.r0,h.r1⟩
theorem bCrash_inv (s:PSt) (d:Nat) (paths:Int) (kv:Value) (ks:List Int) (w:World) {L C B:Nat} (h:DkW w d s) (hk:KAt s.own w kv ks) (hf:DFit s.ds L C B) (hL:L≤1000000) (hB:B≤1000000) :
  Calls Tryz.prog 16 #[.pointer (some ⟨d,0,none⟩),.int .i64 paths,kv] w fun e w'=>e = .returned (.int .i64 0)∧∃ s',PGo s s' w w'∧s'.ds=crD s.ds (nCr paths s.R.chg.length) ks:=by
 have hLe:(s.R.chg.take (nCr paths s.R.chg.length)).foldl applyE s.R.safe=goE s.R.safe (s.R.chg.take (nCr paths s.R.chg.length)):=goE_apply _ hf.inv.ne
 refine wCrash d s.b paths kv (fun w'=>∃ s',PGo s s' w w'∧s'.ds=crD s.ds (nCr paths s.R.chg.length) ks) w h.bd ((pdCrash s paths kv ks w h.inn hk ⟨?_,hf.chf,fun f hf'=>?_⟩ _ hLe.symm ?_).mono ?_)
 ·have:=hf.len
  show s.R.safe.length+s.R.chg.length≤100000000
  have:s.R.safe.length+s.R.chg.length≤L:=this
  omega
 ·obtain ⟨a,b,c⟩:=hf.dat f hf'
  exact ⟨by have:(s.fd f).1.size≤B:=a;omega,b,c⟩
 ·intro e he'
  rcases goE_mem _ he' with he'|⟨c,hc,e1⟩
  ·exact hf.isafe e he'
  ·rw [e1]
   exact hf.ichg c (List.mem_of_mem_take hc)
 ·rintro e w' ⟨rfl,s',hg,h1,h2,h3⟩
  refine ⟨rfl,s',hg,?_⟩
  unfold PSt.ds crD
  rw [h1,h2,h3]
theorem dqOpen (h:DQ w d s A r n cu) (hn:n≤300000) (hcu:cu≤90000000000) :
  Calls Tryz.prog 17 #[.pointer (some ⟨d,0,none⟩)] w fun e w'=>∃ s' xb sb cb tb cl,e = .returned (.tuple #[.pointer (some ⟨xb,0,none⟩),.int .i64 0])∧PGo s s' w w'∧DQ w' d s' A r n (cu+1)∧(s.ds.R.left = -1→SA w' d xb sb cb s' tb cl A r n (cu+1))∧(w.heap.size≤xb∧w.heap.size≤sb∧w.heap.size≤cb∧w.heap.size≤tb):=by
 have hnl:s.R.now.length≤n+3:=h.fit.nowLen
 refine (bOpen_rest s A.tg w d h.dk.inn h.dk.gl h.dk.low h.fit (show Bud _ _ _ from ⟨by omega,by omega,by omega⟩) (fun e he=>Nat.le_trans (h.small e he) (by decide)) (h.rq.qui h.good) h.dk.bd).mono ?_
 rintro e w' ⟨k,s',sv,rfl,hg,hr,hok, -⟩
 obtain ⟨rfl,hq,hl,h1,h2⟩:=h.rq.open hr
 obtain ⟨xb,sb,cb,tb,rfl,hbst,hlb,hlx,hst⟩:=hok rfl
 have hc0:=h.c0
 have hc1:=h.c1
 have hdq:DQ w' d s' A r n (cu+1):=⟨h.dk.go hg,hq,by omega,by omega,h.len,h.good,h.use,h.r0,h.r1⟩
 refine ⟨s',xb,sb,cb,tb,ctF s.R.now,rfl,hg,hdq,fun e=>?_,hlx,hlb.1,hlb.2.1,hlb.2.2⟩
 have hl':=hl e
 have hrst:Rst s'.ds (fA A) r 2000:=by
  have:=hq.rst
  rwa [offL_self hl'] at this
 exact ⟨hbst,fun e=>by have:=h.dk.gl.lt e;omega,hst,(h.dk.go hg).bd,ctF_ok,h.rq.cont,h.len,hrst,by omega,by omega,h.good,h.use,h.r0,h.r1⟩
end
def tC (t:TE):List Value:=[.string t.n,.string (dtx t.d),.int .i64 t.z]
theorem told_tg:∀ {l:List TE},(∀ t∈l,t.Ok)→((l.map TE.tg).map Tg.told).flatMap Tg.cells=l.flatMap tC
 | [],_=>rfl
 | t::l,h=>by
  have ih:=told_tg (l:=l) (fun x hx=>h x (by simp [hx]))
  have ht:=h t (by simp)
  have e:Tg.told t.tg=t.tg:=by
   unfold Tg.told TE.tg
   dsimp only
   rw [rd_dtx t.d ht.len ht.lt]
   rfl
  rw [List.map_cons,List.map_cons,List.flatMap_cons,List.flatMap_cons,ih,e]
  rfl
section
variable {w:World} {db xb sb cb:Nat} {s:PSt} {tb:Nat} {cl:List (List Nat)} {A:Sto} {r:Int} {n cu:Nat}
theorem saGet (h:SA w db xb sb cb s tb cl A r n cu) {b c:ByteArray} (hc:conC A b=some c) :
  Calls Tryz.prog 34 #[.pointer (some ⟨xb,0,none⟩),.string (hxB b)] w fun e w'=>e = .returned (.tuple #[.string c,.int .i64 0])∧SGo (sS xb sb cb) s s w w'∧SA w' db xb sb cb s tb cl A r n cu:=by
 have hh:=h.has b
 rw [show findK kC (kC b) A.cs=some c from hc] at hh
 refine (bGet_any xb sb s cb tb cl.length (cD cl) A.tg (hxB b) w h.st h.hG h.sw (unitC_cD cl) (hx_dig b) (by rw [hx_rd];exact hh) (fun t ht=>by rw [hx_rd,h.rd b] at ht;have:=h.con300 ht;omega)).mono ?_
 rintro e w' ⟨rfl,hg,hx,hst⟩
 refine ⟨?_,hg,h.same hg hx hst⟩
 rw [hx_rd,h.con b,hc]
 rfl
theorem saTags (h:SA w db xb sb cb s tb cl A r n cu) :
  Calls Tryz.prog 42 #[.pointer (some ⟨xb,0,none⟩)] w fun e w'=>∃ v,e = .returned (.tuple #[v,.int .i64 0])∧w'.ownsRow w.heap.size 83 3 v A.tg.length (A.tg.flatMap tC)∧SGo (sS xb sb cb) s s w w'∧SA w' db xb sb cb s tb cl A r n cu:=by
 refine (bTags_many xb sb s cb tb cl.length (cD cl) A.tg w h.st h.hG h.sw h.good.tok h.good.t8).mono ?_
 rintro e w' ⟨v,rfl,hrow,hg,hx,hst⟩
 rw [told_tg h.good.tok] at hrow
 exact ⟨v,rfl,hrow,hg,h.same hg hx hst⟩
theorem SGo.lowN {w':World} {s':PSt} {N:Nat} (hg:SGo (sS xb sb cb) s s' w w') (hN:∀ k,s.own k∨sS xb sb cb k→N≤k) (hw:N≤w.heap.size):Below N w w' :=
 ⟨hg.gr.os,hg.gr.tape,hg.gr.output,hg.gr.size,fun k hk=>hg.gr.block k (by omega) (fun e=>by have:=hN k e;omega)⟩
end
end Go.Proofs.YtncigfibncmioaaGreatDoor
