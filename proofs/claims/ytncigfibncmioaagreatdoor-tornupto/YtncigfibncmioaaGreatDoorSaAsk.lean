/-
  PROVED HERE: what goOn does where something was under way: two files beside the store, an index that is on its way.
-/
import Derived.Test.YtncigfibncmioaaGreatDoorDsGen
set_option maxHeartbeats 4000000
set_option maxRecDepth 100000
namespace Go.Proofs.YtncigfibncmioaaGreatDoor
open Go.RowKit
structure We (D:DS) (l:List TE):Prop where
 rd:∃ t c,cr D bB=some t/\t.size<=2000/\kT t = .ok (l.map TE.en) c
 ok:∀ x∈l,x.Ok
 rise:lF l
 l8:l.length<=8
 p1:(cr D (fk 1)).isSome=true
 p0:(cr D (fk 0)).isSome=true
 pr:cr D cS=none
 lay:(cr D bK).isSome=true
theorem Qrn (sb:Nat) (s:ai) (cb tb:Nat) (l:List TE) (w:World) {L C B:Nat} (h:aI w sb s cb tb 0 0 (.map []) (.map [])) (hq:We s.ds l) (hf:au s.ds L C B) (hb:cZ (L+s.R.now.length+20) (C+s.R.now.length+20) (B+36)) (fJ:∀ e∈s.R.now,e.path.size<=9223372036854775807) :
  Calls Tryz.prog 94 #[.pointer (some ⟨sb,0,none⟩)] w fun e w'=>∃ ev k s',e = .returned ev/\bR w' ev k/\ar (fun k=>k=cb∨k=tb) s s' w w'/\vC s.ds k s'.ds/\∃ nc,nc<=1000000/\aI w' sb s' cb tb nc l.length (cD (eK s.R.now)) (tD l):=by
 obtain ⟨⟨t,c,eo,ht,hr⟩,aF,ba,h8,h1,h0,h2,_⟩:=hq;have hn:s.R.now.length<=1000000:=by have:=hf.cz;have:=hb.1;exact Nat.le_trans hf.cz (by omega)
 have oP:=aa (A7 1 (by decide) w h.gl.tab);have jb:=aa (fun (W:World) (hg:aI W sb s cb tb 0 0 (.map []) (.map []))=>ve sb s (fk 1) W hg.on.sb hg.ay (Nat.le_trans (xt 1 (by decide)) (by decide)));have jM:=aa (fun (W:World) (hg:On W sb s)=>ve sb s cS W hg.sb hg.ay (by decide));have Ac:=aa (fun (W:World) (hg:Gl W)=>A7 0 (by decide) W hg.tab);have Am:=aa (fun (W:World) (hg:aI W sb s cb tb 0 0 (.map []) (.map []))=>ve sb s (fk 0) W hg.on.sb hg.ay (Nat.le_trans (xt 0 (by decide)) (by decide)));rw [h1] at jb;rw [h0] at Am;rw [h2] at jM;dsimp only [Option.isSome] at jb jM;have zW:=aa (fun (W:World) (hg:aI W sb s cb tb 0 0 (.map []) (.map []))=>Qd sb s cb tb bB t c l W hg (by decide) eo ht hr aF ba h8 hn);have lp:=aa (fun (W:World) (hg:On W sb s)=>Nr sb s 141 eW W hg hf (hb.mono (by omega) (by omega) (by omega)) (enters_of Tryz.func141 (by kernel_rfl) rfl) fJ (fun p W=>(Qg p W).mono (by rintro _ _ ⟨rfl,h⟩;exact ⟨rfl,h⟩)));have H:=aa h;have HF:=aa hf;have HB:=aa hb;clear h hf hb fJ eo hr h1 h0 h2 hn aF ba;go_enter Tryz.func94,Tryz.ntmps94;go_wp2_with fail;refine (oP.out).mono ?_;rintro _ w1 ⟨rfl,hb1⟩;dsimp only;have bT:=aa (ar.ae (S:=fun k=>k=cb∨k=tb) (s:=s) hb1);have ij:=aa (H.out.later hb1);clear hb1 oP;go_wp2_with fail;refine (jb.out _ ij.out).mono ?_;rintro _ w2 ⟨rfl,hg2⟩;dsimp only;have bP:=aa (bT.out.trans (ar.aZ hg2));have fg:=aa (ij.out.go hg2);clear hg2 bT ij jb;go_wp2_with fail;refine (Ac.out _ fg.out.gl).mono ?_;rintro _ wx ⟨rfl,fI⟩;dsimp only;have NV:=aa (bP.out.trans (ar.ae fI));have Ix:=aa (fg.out.later fI);clear fI Ac bP fg;go_wp2_with fail;refine (Am.out _ Ix.out).mono ?_;rintro _ wy ⟨rfl,Iy⟩;dsimp only;have bP:=aa (NV.out.trans (ar.aZ Iy));have fg:=aa (Ix.out.go Iy);clear Iy NV Ix Am;go_wp2_with fail;refine (zW.out _ fg.out).mono ?_;rintro _ w3 ⟨rfl,hg3,nc,iZ,hs3⟩;dsimp only;have gq:=aa (bP.out.trans hg3);have eT:=aa hs3;clear hg3 hs3 bP fg zW;go_wp2_with fail;refine (jM.out _ eT.out.on).mono ?_;rintro _ w4 ⟨rfl,hg4⟩;dsimp only;have jW:=aa (gq.out.trans (ar.aZ hg4));have gS:=aa (eT.out.go hg4);clear hg4 gq eT jM;go_wp2_with fail;refine (lp.out _ gS.out.on).mono ?_;rintro _ w5 ⟨ev,k1,m,s1,rfl,cj,dR,vr⟩;dsimp only;have gI:=aa (jW.out.trans (ar.aZ dR));have gP:=aa (gS.out.go dR);have mG:=aa vr;clear dR vr jW gS lp
 rcases cj with ⟨rfl,rfl⟩|⟨bu,sv,nm,rfl,dw⟩
 ·have c5:=cell_of_row _ _ 0 _ _ _ gP.out.blk;have oD:=DJ eW s.R.now;have j1:=aa (Dx s1 w5 gP.out.ay (HF.out.ran mG.out) (HB.out.mono (by omega) (by omega) (by have:=EE (M:=0) (nK eW s.R.now) (fun t ht=>by obtain ⟨x,_,rfl⟩:=List.mem_map.1 ht;exact Nat.le_refl _);omega)));go_wp2_with fail;refine (j1.out).mono ?_;rintro _ w6 ⟨v,k,s2,rfl,hv,bQ,hst⟩;dsimp only;have lG:=aa (gI.out.trans (ar.aZ bQ));have jR:=aa (gP.out.go bQ);have HV:=aa hv;have HST:=aa hst;clear bQ hv hst j1 c5;go_wp2_with fail;go_ret;exact ⟨_,k,s2,rfl,HV.out,lG.out,⟨0,m,s1.ds,mG.out,.inr ⟨rfl,HST.out⟩⟩,nc,iZ,jR.out⟩
 ·have gB:=aa dw;clear dw;go_wp2_with fail;go_ret;exact ⟨_,k1,s1,rfl,.inr ⟨bu,sv,nm,rfl,gB.out⟩,gI.out,⟨k1,m,s1.ds,mG.out,.inl ⟨bu,rfl,rfl⟩⟩,nc,iZ,gP.out⟩
structure Wf (D:DS) (l:List TE):Prop where
 rd:∃ t c,cr D (fk 1)=some t/\t.size<=2000/\kT t = .ok (l.map TE.en) c
 ok:∀ x∈l,x.Ok
 rise:lF l
 l8:l.length<=8
 p0:cr D (fk 0)=none
 pr:cr D cS=none
 lay:(cr D bK).isSome=true
def EZ (hd:List bU) (D:DS) (k:Int) (D':DS):Prop:=∃ k1 m1 D1,bM D hd k1 m1 D1/\((k1≠0/\k=k1/\D'=D1)∨(k1=0/\vC D1 k D'))
theorem Qro (sb:Nat) (s:ai) (cb tb:Nat) (l:List TE) (w:World) {L C B:Nat} (h:aI w sb s cb tb 0 0 (.map []) (.map [])) (hq:Wf s.ds l) (jF:∀ k D1,(k,D1)=o9 s.ds (fk 1) bB->cr D1 cS=none/\(∀ e∈D1.R.now,e.path.size<=9223372036854775807)/\D1.R.now.length<=s.R.now.length) (hf:au s.ds L C B) (hb:cZ (L+s.R.now.length+30) (C+s.R.now.length+30) (B+36)) :
  Calls Tryz.prog 94 #[.pointer (some ⟨sb,0,none⟩)] w fun e w'=>∃ ev k s',e = .returned ev/\bR w' ev k/\ar (fun k=>k=cb∨k=tb) s s' w w'/\EZ [gv (fk 1) bB] s.ds k s'.ds/\∃ nc,nc<=1000000/\aI w' sb s' cb tb nc l.length (cD (eK s.R.now)) (tD l):=by
 obtain ⟨⟨t,c,eo,ht,hr⟩,aF,ba,h8,h0,h2,_⟩:=hq;have h1:(cr s.ds (fk 1)).isSome=true:=by rw [eo];rfl
 have hn:s.R.now.length<=1000000:=by have:=hf.cz;have:=hb.1;exact Nat.le_trans hf.cz (by omega)
 have oP:=aa (A7 1 (by decide) w h.gl.tab);have jb:=aa (fun (W:World) (hg:aI W sb s cb tb 0 0 (.map []) (.map []))=>ve sb s (fk 1) W hg.on.sb hg.ay (Nat.le_trans (xt 1 (by decide)) (by decide)));have jM:=aa (fun (s1:ai) (W:World) (hg:On W sb s1)=>ve sb s1 cS W hg.sb hg.ay (by decide));have Ac:=aa (fun (W:World) (hg:Gl W)=>A7 0 (by decide) W hg.tab);have Am:=aa (fun (W:World) (hg:aI W sb s cb tb 0 0 (.map []) (.map []))=>ve sb s (fk 0) W hg.on.sb hg.ay (Nat.le_trans (xt 0 (by decide)) (by decide)));rw [h1] at jb;rw [h0] at Am;dsimp only [Option.isSome] at Am;have zW:=aa (fun (W:World) (hg:aI W sb s cb tb 0 0 (.map []) (.map []))=>Qd sb s cb tb (fk 1) t c l W hg (Nat.le_trans (xt 1 (by decide)) (by decide)) eo ht hr aF ba h8 hn);have lp:=aa (fun (s1:ai) (L1 C1 B1:Nat) (rE:au s1.ds L1 C1 B1) (hb1:cZ (L1+s1.R.now.length+10) (C1+s1.R.now.length+10) B1) (Iz:∀ e∈s1.R.now,e.path.size<=9223372036854775807) (W:World) (hg:On W sb s1)=>Nr sb s1 141 eW W hg rE (hb1.mono (by omega) (by omega) (by omega)) (enters_of Tryz.func141 (by kernel_rfl) rfl) Iz (fun p W=>(Qg p W).mono (by rintro _ _ ⟨rfl,h⟩;exact ⟨rfl,h⟩)));have H:=aa h;have HF:=aa hf;have HB:=aa hb;have J0:=aa jF;clear h hf hb eo hr h1 h0 h2 hn aF ba jF;go_enter Tryz.func94,Tryz.ntmps94;go_wp2_with fail;refine (oP.out).mono ?_;rintro _ w1 ⟨rfl,hb1⟩;dsimp only;have bT:=aa (ar.ae (S:=fun k=>k=cb∨k=tb) (s:=s) hb1);have ij:=aa (H.out.later hb1);clear hb1 oP;go_wp2_with fail;refine (jb.out _ ij.out).mono ?_;rintro _ w2 ⟨rfl,hg2⟩;dsimp only;have bP:=aa (bT.out.trans (ar.aZ hg2));have fg:=aa (ij.out.go hg2);clear hg2 bT ij jb;go_wp2_with fail;refine (Ac.out _ fg.out.gl).mono ?_;rintro _ wx ⟨rfl,fI⟩;dsimp only;have NV:=aa (bP.out.trans (ar.ae fI));have Ix:=aa (fg.out.later fI);clear fI Ac bP fg;go_wp2_with fail;refine (Am.out _ Ix.out).mono ?_;rintro _ wy ⟨rfl,Iy⟩;dsimp only;have bP:=aa (NV.out.trans (ar.aZ Iy));have fg:=aa (Ix.out.go Iy);clear Iy NV Ix Am;go_wp2_with fail;refine (zW.out _ fg.out).mono ?_;rintro _ w3 ⟨rfl,hg3,nc,iZ,hs3⟩;dsimp only;have gq:=aa (bP.out.trans hg3);have eT:=aa hs3;clear hg3 hs3 bP fg zW;have c3:=cell_of_row _ _ 0 _ _ _ eT.out.blk;have rN:=aa (Oq s (fk 1) bB w3 eT.out.ay HF.out (HB.out.mono (by omega) (by omega) (by omega)) (Nat.le_trans (xt 1 (by decide)) (by decide)) (by decide));go_wp2_with fail;refine (rN.out).mono ?_;rintro _ w4 ⟨v,k1,s1,rfl,hv,hg4,hst⟩;dsimp only;have jW:=aa (gq.out.trans (ar.aZ hg4));have gS:=aa (eT.out.go hg4);have hst:fK s.ds (gv (fk 1) bB) k1 s1.ds:=hst;have jS:=aa (HF.out.st hst);have HST:=aa hst;clear hg4 hst gq eT rN c3
 rcases hv with ⟨rfl,rfl⟩|⟨bu,sv,nm,rfl,dw⟩
 ·obtain ⟨Hy,A6,nD⟩:=J0.out 0 s1.ds HST.out;have Iw:=aa (jM.out s1 w4 gS.out.on);rw [Hy] at Iw;dsimp only [Option.isSome] at Iw;have nD:s1.R.now.length<=s.R.now.length:=nD;have Wi:(gv (fk 1) bB).sz=0:=rfl;rw [Wi] at jS;have Ad:=aa (fun W hW=>lp.out s1 (L+1) (C+1) (B+0) jS.out (HB.out.mono (by omega) (by omega) (by omega)) A6 W hW);clear Hy A6 jM lp J0;go_wp2_with fail;refine (Iw.out).mono ?_;rintro _ w5 ⟨rfl,dR⟩;dsimp only;have gI:=aa (jW.out.trans (ar.aZ dR));have gP:=aa (gS.out.go dR);clear dR jW gS Iw;go_wp2_with fail;refine (Ad.out _ gP.out.on).mono ?_;rintro _ w6 ⟨ev,k2,m2,s2,rfl,cj,bQ,eZ⟩;dsimp only;have lG:=aa (gI.out.trans (ar.aZ bQ));have jR:=aa (gP.out.go bQ);have xf:=aa eZ;clear bQ eZ gI gP Ad
  rcases cj with ⟨rfl,rfl⟩|⟨bu,sv,nm,rfl,dw⟩
  ·have c6:=cell_of_row _ _ 0 _ _ _ jR.out.blk;have oD:=DJ eW s1.R.now;have j1:=aa (Dx s2 w6 jR.out.ay (jS.out.ran xf.out) (HB.out.mono (by omega) (by omega) (by have:=EE (M:=0) (nK eW s1.R.now) (fun t ht=>by obtain ⟨x,_,rfl⟩:=List.mem_map.1 ht;exact Nat.le_refl _);omega)));go_wp2_with fail;refine (j1.out).mono ?_;rintro _ w7 ⟨v,k,s3,rfl,hv,k6,hst⟩;dsimp only;have kn:=aa (lG.out.trans (ar.aZ k6));have J1:=aa (jR.out.go k6);have HV:=aa hv;have rv:=aa hst;clear k6 hv hst j1 c6;go_wp2_with fail;go_ret;exact ⟨_,k,s3,rfl,HV.out,kn.out,⟨0,_,s1.ds,bM.one HST.out,.inr ⟨rfl,0,m2,s2.ds,xf.out,.inr ⟨rfl,rv.out⟩⟩⟩,nc,iZ,J1.out⟩
  ·have gB:=aa dw;clear dw;go_wp2_with fail;go_ret;exact ⟨_,k2,s2,rfl,.inr ⟨bu,sv,nm,rfl,gB.out⟩,lG.out,⟨0,_,s1.ds,bM.one HST.out,.inr ⟨rfl,k2,m2,s2.ds,xf.out,.inl ⟨bu,rfl,rfl⟩⟩⟩,nc,iZ,jR.out⟩
 ·have gB:=aa dw;clear dw;go_wp2_with fail;go_ret;exact ⟨_,k1,s1,rfl,.inr ⟨bu,sv,nm,rfl,gB.out⟩,jW.out,⟨k1,_,s1.ds,bM.one HST.out,.inl ⟨bu,rfl,rfl⟩⟩,nc,iZ,gS.out⟩
structure Wj (D:DS) (l:List TE):Prop where
 rd:∃ t c,cr D bB=some t/\t.size<=2000/\kT t = .ok (l.map TE.en) c
 ok:∀ x∈l,x.Ok
 rise:lF l
 l8:l.length<=8
 p1:cr D (fk 1)=none
 pr:(cr D cS).isSome=true
 lay:(cr D bK).isSome=true
theorem Qrp (sb:Nat) (s:ai) (cb tb:Nat) (l:List TE) (w:World) {L C B:Nat} (h:aI w sb s cb tb 0 0 (.map []) (.map [])) (dl:List DV) (hq:Wj s.ds l) (hdr:aq DV.key dl) (QV:∀ x,x∈dl ↔ x.1∈eK s.R.now) (a8:dl.length<=s.R.now.length) (IA:(eK s.R.now).length<=100000000) (jF:∀ k m D1,bM s.ds (mQ (dp l dl)) k m D1->(∀ e∈D1.R.now,e.path.size<=9223372036854775807)/\D1.R.now.length<=s.R.now.length) (hf:au s.ds L C B) (hb:cZ (L+s.R.now.length+s.R.now.length+50) (C+s.R.now.length+s.R.now.length+50) (B+36)) :
  Calls Tryz.prog 94 #[.pointer (some ⟨sb,0,none⟩)] w fun e w'=>∃ ev k s',e = .returned ev/\bR w' ev k/\ar (fun k=>k=cb∨k=tb) s s' w w'/\EZ (mQ (dp l dl)) s.ds k s'.ds/\∃ nc m,nc<=1000000/\(k=0->(dp l dl).length<=m)/\aI w' sb s' cb tb nc l.length (wI (cD (eK s.R.now)) ((dp l dl).take m)) (tD l):=by
 obtain ⟨⟨t,c,eo,ht,hr⟩,aF,ba,h8,h1,h2,_⟩:=hq;have hn:s.R.now.length<=1000000:=by have:=hf.cz;have:=hb.1;exact Nat.le_trans hf.cz (by omega)
 have oP:=aa (A7 1 (by decide) w h.gl.tab);have jb:=aa (fun (W:World) (hg:aI W sb s cb tb 0 0 (.map []) (.map []))=>ve sb s (fk 1) W hg.on.sb hg.ay (Nat.le_trans (xt 1 (by decide)) (by decide)));have jM:=aa (fun (W:World) (hg:On W sb s)=>ve sb s cS W hg.sb hg.ay (by decide));rw [h1] at jb;rw [h2] at jM;dsimp only [Option.isSome] at jb;have zW:=aa (fun (W:World) (hg:aI W sb s cb tb 0 0 (.map []) (.map []))=>Qd sb s cb tb bB t c l W hg (by decide) eo ht hr aF ba h8 hn);have lp:=aa (fun (s1:ai) (L1 C1 B1:Nat) (rE:au s1.ds L1 C1 B1) (hb1:cZ (L1+s1.R.now.length+10) (C1+s1.R.now.length+10) B1) (Iz:∀ e∈s1.R.now,e.path.size<=9223372036854775807) (W:World) (hg:On W sb s1)=>Nr sb s1 141 eW W hg rE (hb1.mono (by omega) (by omega) (by omega)) (enters_of Tryz.func141 (by kernel_rfl) rfl) Iz (fun p W=>(Qg p W).mono (by rintro _ _ ⟨rfl,h⟩;exact ⟨rfl,h⟩)));have Wk:=aa (fun (W:World) (nc:Nat) (hg:aI W sb s cb tb nc l.length (cD (eK s.R.now)) (tD l)) (hl:(eK s.R.now).length<=100000000)=>QfP sb s cb tb nc l (eK s.R.now) dl W hg aF Hz hdr QV hl (by omega));have H:=aa h;have HF:=aa hf;have HB:=aa hb;have J0:=aa jF;have JM:(dp l dl).length<=dl.length:=List.length_filter_le _ _;have uO:(eK s.R.now).length<=100000000:=IA;clear h hf hb eo hr h1 h2 aF ba jF hdr QV;generalize dp l dl=ul at Wk J0 JM ⊢;go_enter Tryz.func94,Tryz.ntmps94;go_wp2_with fail;refine (oP.out).mono ?_;rintro _ w1 ⟨rfl,hb1⟩;dsimp only;have bT:=aa (ar.ae (S:=fun k=>k=cb∨k=tb) (s:=s) hb1);have ij:=aa (H.out.later hb1);clear hb1 oP;go_wp2_with fail;refine (jb.out _ ij.out).mono ?_;rintro _ w2 ⟨rfl,hg2⟩;dsimp only;have bP:=aa (bT.out.trans (ar.aZ hg2));have fg:=aa (ij.out.go hg2);clear hg2 bT ij jb;go_wp2_with fail;refine (zW.out _ fg.out).mono ?_;rintro _ w3 ⟨rfl,hg3,nc,iZ,hs3⟩;dsimp only;have gq:=aa (bP.out.trans hg3);have eT:=aa hs3;clear hg3 hs3 bP fg zW;go_wp2_with fail;refine (jM.out _ eT.out.on).mono ?_;rintro _ w4 ⟨rfl,hg4⟩;dsimp only;have jW:=aa (gq.out.trans (ar.aZ hg4));have gS:=aa (eT.out.go hg4);clear hg4 gq eT jM;have HU4:=aa (Wk.out w4 nc gS.out uO);go_wp2_with fail;refine (HU4.out).mono ?_;rintro _ w5 ⟨v5,rfl,hrow,bI⟩;dsimp only;obtain ⟨so,sc,rfl⟩:=jG hrow;have gI:=aa (jW.out.trans (ar.ae bI));have gP:=aa (gS.out.later bI);have M6:=aa (QfO sb s cb tb nc l.length (cD (eK s.R.now)) (tD l) w4.heap.size so sc ul w5 gP.out (fun k hk e=>by
  have h1:=su hrow k hk
  rcases e with e|e
  ·have:=gS.out.ay.lt e;omega
  ·have:=gS.out.cm.lt;omega) hrow (by omega) HF.out (HB.out.mono (by omega) (by omega) (by omega)))
 clear hrow bI HU4 Wk jW gS;go_wp2_with fail;refine (M6.out).mono ?_;rintro _ w6 ⟨ev,k1,s1,m1,rfl,cj,bQ,eZ,B7⟩;dsimp only;have lG:=aa (gI.out.trans (bQ.mono (fun k _ hk=>.inl hk)));have jR:=aa B7;have xf:=aa eZ;have vt:=aa (HF.out.ran eZ);have pU:(mQ ul).length=ul.length+2:=by unfold mQ oN;rw [List.length_append,List.length_map];rfl
 have hez:eM (mQ ul)<=0:=by
  have:=EE (M:=0) (mQ ul) (fun t ht=>by
   unfold mQ oN at ht
   rcases List.mem_append.1 ht with ht|ht
   ·obtain ⟨x,_,rfl⟩:=List.mem_map.1 ht;exact Nat.le_refl _
   ·simp only [List.mem_cons,List.not_mem_nil,or_false] at ht
    rcases ht with rfl|rfl<;>exact Nat.le_refl _)
  omega
 clear bQ B7 eZ M6 gI gP
 rcases cj with ⟨rfl,rfl⟩|⟨bu,sv,nm,rfl,dw⟩
 ·obtain ⟨A6,nD⟩:=J0.out 0 m1 s1.ds xf.out;have et:ul.length<=m1:=by have:=xf.out.len;omega
  have nD:s1.R.now.length<=s.R.now.length:=nD;have Ad:=aa (fun W hW=>lp.out s1 (L+(mQ ul).length) (C+(mQ ul).length) (B+eM (mQ ul)) vt.out (HB.out.mono (by omega) (by omega) (by omega)) A6 W hW);clear A6 lp J0;go_wp2_with fail;refine (Ad.out _ jR.out.on).mono ?_;rintro _ w7 ⟨ev,k2,m2,s2,rfl,cj,k6,kH⟩;dsimp only;have kn:=aa (lG.out.trans (ar.aZ k6));have J1:=aa (jR.out.go k6);have BR:=aa kH;clear k6 kH lG jR Ad
  rcases cj with ⟨rfl,rfl⟩|⟨bu,sv,nm,rfl,dw⟩
  ·have c6:=cell_of_row _ _ 0 _ _ _ J1.out.blk;have oD:=DJ eW s1.R.now;have j1:=aa (Dx s2 w7 J1.out.ay (vt.out.ran BR.out) (HB.out.mono (by omega) (by omega) (by have:=EE (M:=0) (nK eW s1.R.now) (fun t ht=>by obtain ⟨x,_,rfl⟩:=List.mem_map.1 ht;exact Nat.le_refl _);omega)));go_wp2_with fail;refine (j1.out).mono ?_;rintro _ w8 ⟨v,k,s3,rfl,hv,jL,hst⟩;dsimp only;have oH:=aa (kn.out.trans (ar.aZ jL));have Hl:=aa (J1.out.go jL);have HV:=aa hv;have rv:=aa hst;clear jL hv hst j1 c6;go_wp2_with fail;go_ret;exact ⟨_,k,s3,rfl,HV.out,oH.out,⟨0,m1,s1.ds,xf.out,.inr ⟨rfl,0,m2,s2.ds,BR.out,.inr ⟨rfl,rv.out⟩⟩⟩,nc,m1,iZ,fun _=>et,Hl.out⟩
  ·have gB:=aa dw;clear dw;go_wp2_with fail;go_ret;exact ⟨_,k2,s2,rfl,.inr ⟨bu,sv,nm,rfl,gB.out⟩,kn.out,⟨0,m1,s1.ds,xf.out,.inr ⟨rfl,k2,m2,s2.ds,BR.out,.inl ⟨bu,rfl,rfl⟩⟩⟩,nc,m1,iZ,fun e=>absurd e bu,J1.out⟩
 ·have gB:=aa dw;clear dw;go_wp2_with fail;go_ret;exact ⟨_,k1,s1,rfl,.inr ⟨bu,sv,nm,rfl,gB.out⟩,lG.out,⟨k1,m1,s1.ds,xf.out,.inl ⟨bu,rfl,rfl⟩⟩,nc,m1,iZ,fun e=>absurd e bu,jR.out⟩
end Go.Proofs.YtncigfibncmioaaGreatDoor
namespace Go.Proofs.YtncigfibncmioaaGreatDoor
open Go.RowKit
theorem NQ (D:DS):¬ (aH D).R.left=0:=by show ¬ (-1:Int)=0;decide
theorem Qu9 {D:DS} (hl:D.R.left≠0) (p q:ByteArray) (f:Nat):pQ (aH D) p q f=((pQ D p q f).1,aH (pQ D p q f).2):=by
 unfold pQ;rw [if_neg (NQ D),if_neg hl]
 by_cases h1:aK p=false
 ·rw [if_pos h1,if_pos h1]
 ·rw [if_neg h1,if_neg h1]
  by_cases h2:D.R.room - (gH D.fd D.R.now:Int)<(q.size:Int)
  ·rw [if_pos h2,if_pos (show (aH D).R.room - (gH (aH D).fd (aH D).R.now:Int)<(q.size:Int) from h2)]
  ·rw [if_neg h2,if_neg (show ¬ (aH D).R.room - (gH (aH D).fd (aH D).R.now:Int)<(q.size:Int) from h2),show (aH D).R.now=D.R.now from rfl]
   cases aO p D.R.now<;>rfl
theorem Qva {D:DS} (hl:D.R.left≠0) (p:ByteArray):qo (aH D) p=((qo D p).1,aH (qo D p).2):=by
 unfold qo;rw [if_neg (NQ D),if_neg hl]
 by_cases h1:aK p=false
 ·rw [if_pos h1,if_pos h1]
 ·rw [if_neg h1,if_neg h1,show (aH D).R.now=D.R.now from rfl]
  cases aO p D.R.now<;>rfl
theorem Qvb {D:DS} (hl:D.R.left≠0) (p:ByteArray):ni (aH D) p=((ni D p).1,aH (ni D p).2):=by
 unfold ni;rw [if_neg (NQ D),if_neg hl]
 by_cases h1:aK p=false
 ·rw [if_pos h1,if_pos h1]
 ·rw [if_neg h1,if_neg h1,show (aH D).R.now=D.R.now from rfl]
  cases aO p D.R.now<;>rfl
theorem Qvc {D:DS} (hl:D.R.left≠0) (p q:ByteArray):o9 (aH D) p q=((o9 D p q).1,aH (o9 D p q).2):=by
 unfold o9;rw [if_neg (NQ D),if_neg hl]
 by_cases h1:(aK p && aK q)=false
 ·rw [if_pos h1,if_pos h1]
 ·rw [if_neg h1,if_neg h1,show (aH D).R.now=D.R.now from rfl]
  by_cases oA:p=q
  ·cases aO p D.R.now<;>simp only [oA,if_true]<;>rfl
  ·cases aO p D.R.now<;>simp only [oA,if_false]<;>rfl
theorem Qvd {D:DS} (hl:D.R.left≠0):pc (aH D)=((pc D).1,aH (pc D).2):=by
 unfold pc;rw [if_neg (NQ D),if_neg hl];rfl
theorem V9 {D D':DS} {t:bU} {k:Int} (hs:fK D t k D') (hl:D.R.left≠0):fK (aH D) t k (aH D'):=by
 obtain ⟨tk,p,q⟩:=t;unfold fK at hs ⊢
 match tk with
 | 0 =>
  obtain ⟨f,hf,he⟩:=hs;exact ⟨f,hf,by rw [Qu9 hl,<- he]⟩
 | 1=>show (k,aH D')=qo (aH D) p;rw [Qva hl,<- show (k,D')=qo D p from hs]
 | 2=>show (k,aH D')=ni (aH D) p;rw [Qvb hl,<- show (k,D')=ni D p from hs]
 | 3=>show (k,aH D')=o9 (aH D) p q;rw [Qvc hl,<- show (k,D')=o9 D p q from hs]
 | n+4=>show (k,aH D')=pc (aH D);rw [Qvd hl,<- show (k,D')=pc D from hs]
theorem Wa:∀ {l:List bU} {D D':DS} {k:Int} {m:Nat},(∀ t∈l,pj t=true)->bM D l k m D'->(k≠0/\bM (aH D) l k m (aH D'))∨(k=0/\∃ j,bM (aH D) (l.take j) 0 (l.take j).length (aH D'))
 | [],D,D',k,m,_,h=>.inr ⟨h.1,0,rfl,rfl,by rw [h.2.2]⟩
 | t::l,D,D',k,m,ho,h=>by
  by_cases hl:D.R.left=0
  ·obtain ⟨h1,h2⟩:=Fz ho hl h;exact .inr ⟨h1,0,rfl,rfl,by rw [h2]⟩
  ·obtain ⟨k1,D1,h1,h2⟩:=h;have h3:=V9 h1 hl
   rcases h2 with ⟨a1,a2,a3,a4⟩|⟨a1,m',a2,a3⟩
   ·exact .inl ⟨by rw [a2];exact a1,k1,aH D1,h3,.inl ⟨a1,a2,a3,by rw [a4]⟩⟩
   ·rcases Wa (fun x hx=>ho x (by simp [hx])) a3 with ⟨b1,b2⟩|⟨b1,j,b2⟩
    ·exact .inl ⟨b1,k1,aH D1,h3,.inr ⟨a1,m',a2,b2⟩⟩
    ·exact .inr ⟨b1,j+1,k1,aH D1,h3,.inr ⟨a1,(l.take j).length,by simp,b2⟩⟩
theorem Qka:∀ {l:List bU} {D D':DS},(∀ t∈l,pj t=true)->D.R.left=0->j4 D l D'->D'=D
 | [],_,_,_,_,h=>h
 | t::l,D,D',ho,hl,⟨k1,D1,h1,h2⟩=>by
  obtain ⟨_,rfl⟩:=RJ h1 (ho t (by simp)) hl;exact Qka (fun x hx=>ho x (by simp [hx])) hl h2
theorem Ql6:∀ {l:List bU} {D D':DS},(∀ t∈l,pj t=true)->j4 D l D'->∃ j,j4 (aH D) (l.take j) (aH D')
 | [],D,D',_,h=>⟨0,by rw [show D'=D from h];rfl⟩
 | t::l,D,D',ho,h=>by
  by_cases hl:D.R.left=0
  ·have h2:=Qka ho hl h;exact ⟨0,by rw [h2];rfl⟩
  ·obtain ⟨k1,D1,h1,h2⟩:=h;obtain ⟨j,h3⟩:=Ql6 (fun x hx=>ho x (by simp [hx])) h2;exact ⟨j+1,k1,aH D1,V9 h1 hl,h3⟩
section
variable {P:List FF->Prop} {r:Int} {B:Nat}
theorem Wb {l:List bU} (h:∀ t∈l,t.k≠0) (j:Nat):∀ t∈l.take j,t.k≠0:=fun t ht=>h t (List.mem_of_mem_take ht)
theorem Ql7 {l:List bU} {F:List FF} {D D':DS} {k:Int} {m:Nat} (hk:∀ t∈l,t.k≠0) (ho:∀ t∈l,pj t=true) (h:Wh (aH D) F r B) (hi:Hi (aH D) P) (hc:uj P r B F l) (hr:bM D l k m D'):k=0/\Gd P r B (aH D'):=by
 rcases Wa ho hr with ⟨h1,h2⟩|⟨h1,j,h2⟩
 ·exact absurd (QR hk h hi hc h2).1 h1
 ·exact ⟨h1,(QR (Wb hk j) h hi (hc.take j) h2).2⟩
theorem QtA (n:Nat) (hn:n<=2):(∀ t∈tV n,pj t=true)/\∀ t∈tV n,t.k≠0:=by
 match n,hn with
 | 0,_=>exact ⟨fun t ht=>(by cases ht),fun t ht=>(by cases ht)⟩
 | 1,_ =>
  rw [Qa];exact ⟨by decide,by decide⟩
 | 2,_ =>
  have e:tV 2 = [fM p1,fM p0,gQ]:=by rw [<- BJ,<- vB];rfl
  rw [e];exact ⟨by decide,by decide⟩
theorem QO {fl:List (ByteArray × ByteArray)} {F:List FF} {D D':DS} {k:Int} (hl:fl.length<=2) (ho:∀ t∈jq fl,pj t=true) (h:dY (aH D) F r B) (hP:P F) (hc:z8 P r B (fun i=>tV (min i fl.length)) 0 F (jq fl)) (hw:gK D fl k D'):Gd P r B (aH D'):=by
 unfold gK at hw
 by_cases h0:fl = []
 ·rw [if_pos h0] at hw;rw [hw.2];exact ⟨h.hi hP,F,h.wh,hP⟩
 ·rw [if_neg h0] at hw;obtain ⟨m,D1,h1,h2⟩:=hw
  rcases Wa ho h1 with ⟨a1,a2⟩|⟨a1,j,a2⟩
  ·rcases Wc h.wh (h.hi hP) hc a2 with ⟨b1,_⟩|⟨b1,F',b2,b3,b4⟩
   ·exact absurd b1 a1
   ·rcases h2 with ⟨c1,_⟩|⟨_,c2⟩
    ·exact absurd c1 a1
    ·rw [Nat.zero_add] at b4;have hb:=QtA (min m fl.length) (by omega);obtain ⟨j,c3⟩:=Ql6 hb.1 c2;exact Qmb (Wb hb.2 j) b2 b3 (b4.take j) c3
  ·rcases h2 with ⟨_,c2⟩|⟨c1,_⟩
   ·rw [c2]
    rcases Wc h.wh (h.hi hP) (hc.take j) a2 with ⟨_,b2⟩|⟨b1,_⟩
    ·exact b2
    ·cases b1
   ·exact absurd a1 c1
end
theorem Qkb:∀ (l:List DE) (fd:Nat->ByteArray × Int) (ks:List Int) (f:Nat),(∀ e∈l,e.blk≠f)->nr fd l ks f=fd f
 | [],_,_,_,_=>rfl
 | e::l,fd,ks,f,h=>by
  show nr (cB fd e.blk (cF (fd e.blk) (ks.headD 0))) l ks.tail f=_;rw [Qkb l _ _ f (fun x hx=>h x (by simp [hx])),BV _ _ (Ne.symm (h e (by simp)))]
theorem Qrl (p:ByteArray) (x:ByteArray × Int) (k:Int) (h0:0<=x.2) (h1:x.2<=(x.1.size:Int)):uk ⟨p,x.1,x.2⟩ ⟨p,(cF x k).1,(cF x k).2⟩:=by
 obtain ⟨n,hn⟩ : ∃ n,n=(x.2+min (max k 0) ((x.1.size:Int) - x.2)).toNat:=⟨_,rfl⟩;have e:cF x k=(x.1.extract 0 n,(n:Int)):=by unfold cF;rw [hn]
 have Pq:n<=x.1.size:=by omega
 have hz:(x.1.extract 0 n).size=n:=by rw [ByteArray.size_extract];omega
 refine ⟨rfl,n,?_,Pq,by rw [e],?_⟩
 ·show x.2<=(n:Int);omega
 ·rw [e];show (n:Int)=((x.1.extract 0 n).size:Int);rw [hz]
theorem Qh0:∀ (l:List DE) (fd:Nat->ByteArray × Int) (ks:List Int),l.Nodup->(∀ e∈l,∀ e'∈l,e.blk=e'.blk->e=e')->(∀ e∈l,0<=(fd e.blk).2/\(fd e.blk).2<=((fd e.blk).1.size:Int))->fD (l.map (eu fd)) (l.map (eu (nr fd l ks)))
 | [],_,_,_,_,_=>trivial
 | e::l,fd,ks,hn,hi,hy=>by
  obtain ⟨n1,n2⟩:=List.nodup_cons.1 hn;have hne:∀ x∈l,x.blk≠e.blk:=fun x hx e1=>n1 (by
   have:=hi x (by simp [hx]) e (by simp) e1;rw [<- this];exact hx)
  have ih:=Qh0 l (cB fd e.blk (cF (fd e.blk) (ks.headD 0))) ks.tail n2 (fun a ha b hb=>hi a (by simp [ha]) b (by simp [hb])) (fun x hx=>by
   rw [BV _ _ (hne x hx)];exact hy x (by simp [hx]))
  have e1:l.map (eu (cB fd e.blk (cF (fd e.blk) (ks.headD 0))))=l.map (eu fd):=List.map_congr_left fun x hx=>by
   unfold eu;rw [BV _ _ (hne x hx)]
  rw [e1] at ih;refine ⟨?_,ih⟩;have e2:nr fd (e::l) ks e.blk=cF (fd e.blk) (ks.headD 0):=by
   show nr (cB fd e.blk (cF (fd e.blk) (ks.headD 0))) l ks.tail e.blk=_;rw [Qkb _ _ _ _ hne,BU]
  show uk (eu fd e) (eu (nr fd (e::l) ks) e);unfold eu;rw [e2];exact Qrl e.path (fd e.blk) _ (hy e (by simp)).1 (hy e (by simp)).2
theorem fD.vh:∀ {F G:List FF},fD F G->∀ x∈G,x.y=(x.t.size:Int)
 | [],[],_,x,hx=>by cases hx
 | a::l,b::m,⟨h1,h2⟩,x,hx=>by
  rcases List.mem_cons.1 hx with rfl|hx
  ·obtain ⟨_,_,_,_,_,h⟩:=h1;exact h
  ·exact h2.vh x hx
 | [],_::_,h,_,_=>h.elim
 | _::_,[],h,_,_=>h.elim
theorem Qnc {l:List DE} (h:bZ l):l.Nodup:=List.Pairwise.imp (fun {a b} hab e=>by rw [e,mo] at hab;cases hab) h
theorem QpB {P:List FF->Prop} {r:Int} {B:Nat} {D:DS} (hg:Gd P r B (aH D)) (n:Nat) (ks:List Int):∃ G F',P G/\fD G F'/\dY (I9 D n ks) F' r B:=by
 obtain ⟨hi,F,hw,_⟩:=hg;obtain ⟨G,h1,h2⟩:=hi.hi n;have cJ:∀ e∈fh D.R.safe (D.R.aw.take n),e.blk∈D.fs:=Qr0 hw n;have ba:bZ (fh D.R.safe (D.R.aw.take n)):=Fl _ hw.rise;have NR:∀ e∈fh D.R.safe (D.R.aw.take n),∀ e'∈fh D.R.safe (D.R.aw.take n),e.blk=e'.blk->e=e':=hi.inj n;have hcut:=Qh0 (fh D.R.safe (D.R.aw.take n)) D.fd ks (Qnc ba) NR (fun e he=>(hw.dS _ (cJ e he)).2);refine ⟨G,_,h1,fD.ge h2 hcut,⟨⟨rfl,rfl,hw.room,NR,cJ,cJ,(fun c hc=>by cases hc),⟨rfl,Tp _ hw.inv.ne⟩,ba,?_,(fun c hc=>by cases hc)⟩,rfl,rfl,hcut.vh⟩⟩;exact fun f hf'=>QhB _ _ _ (fun e he=>hw.dS _ (cJ e he)) f (hw.dS f hf')
def xv (P:List FF->Prop) (r:Int) (B:Nat):List FF->List bU->List FF->Prop
 | F,[],G=>P F/\F=G
 | F,t::l,G=>P F/\∃ F',Mv r B F t F'/\xv P r B F' l G
theorem Ql8:∀ {l:List bU} {D D':DS} {k:Int} {m:Nat},(∀ t∈l,pj t=true)->bM D l k m D'->(k≠0/\bM (aH D) l k m (aH D'))∨(k=0/\D'.R.left=0/\∃ j,bM (aH D) (l.take j) 0 (l.take j).length (aH D'))∨(k=0/\bM (aH D) l 0 l.length (aH D'))
 | [],D,D',k,m,_,h=>.inr (.inr ⟨h.1,rfl,rfl,by rw [h.2.2]⟩)
 | t::l,D,D',k,m,ho,h=>by
  by_cases hl:D.R.left=0
  ·obtain ⟨h1,h2⟩:=Fz ho hl h;exact .inr (.inl ⟨h1,by rw [h2];exact hl,0,rfl,rfl,by rw [h2]⟩)
  ·obtain ⟨k1,D1,h1,h2⟩:=h;have h3:=V9 h1 hl
   rcases h2 with ⟨a1,a2,a3,a4⟩|⟨a1,m',a2,a3⟩
   ·exact .inl ⟨by rw [a2];exact a1,k1,aH D1,h3,.inl ⟨a1,a2,a3,by rw [a4]⟩⟩
   ·rcases Ql8 (fun x hx=>ho x (by simp [hx])) a3 with ⟨b1,b2⟩|⟨b1,b0,j,b2⟩|⟨b1,b2⟩
    ·exact .inl ⟨b1,k1,aH D1,h3,.inr ⟨a1,m',a2,b2⟩⟩
    ·exact .inr (.inl ⟨b1,b0,j+1,k1,aH D1,h3,.inr ⟨a1,(l.take j).length,by simp,b2⟩⟩)
    ·exact .inr (.inr ⟨b1,k1,aH D1,h3,.inr ⟨a1,l.length,by simp,b2⟩⟩)
section
variable {P:List FF->Prop} {r:Int} {B:Nat}
theorem xv.p:∀ {l:List bU} {F G:List FF},xv P r B F l G->P F
 | [],_,_,h=>h.1
 | _::_,_,_,h=>h.1
theorem xv.V8:∀ {l:List bU} {F G:List FF},xv P r B F l G->uj P r B F l
 | [],_,_,h=>h.1
 | _::_,_,_,⟨h1,F',h2,h3⟩=>⟨h1,F',h2,h3.V8⟩
theorem JZ:∀ {l:List bU} {F G:List FF} {D D':DS} {k:Int} {m:Nat},(∀ t∈l,t.k≠0)->Wh D F r B->Hi D P->xv P r B F l G->bM D l k m D'->k=0/\Wh D' G r B/\Hi D' P/\P G
 | [],F,G,D,D',k,m,_,hw,hi,hc,hr=>by
  obtain ⟨hc1,rfl⟩:=hc;rw [hr.2.2];exact ⟨hr.1,hw,hi,hc1⟩
 | t::l,F,G,D,D',k,m,hk,hw,hi,⟨_,F',h2,h3⟩,⟨k1,D1,h4,h5⟩=>by
  rcases h2 D D1 k1 hw h4 with ⟨a1,a2,a3⟩|⟨a1,_⟩
  ·rcases h5 with ⟨h5,_⟩|⟨_,m',_,h6⟩
   ·exact absurd a1 h5
   ·exact JZ (fun x hx=>hk x (by simp [hx])) a2 (a3 P hi h3.p) h3 h6
  ·exact absurd a1 (hk t (by simp))
theorem QS {l:List bU} {F G:List FF} {D D':DS} {k:Int} {m:Nat} (hk:∀ t∈l,t.k≠0) (ho:∀ t∈l,pj t=true) (h:Wh (aH D) F r B) (hi:Hi (aH D) P) (hc:xv P r B F l G) (hr:bM D l k m D'):k=0/\((D'.R.left=0/\Gd P r B (aH D'))∨(Wh (aH D') G r B/\Hi (aH D') P/\P G)):=by
 rcases Ql8 ho hr with ⟨h1,h2⟩|⟨h1,h0,j,h2⟩|⟨h1,h2⟩
 ·exact absurd (JZ hk h hi hc h2).1 h1
 ·exact ⟨h1,.inl ⟨h0,(QR (Wb hk j) h hi (hc.V8.take j) h2).2⟩⟩
 ·exact ⟨h1,.inr (JZ hk h hi hc h2).2⟩
end
section
variable {w:World} {db xb sb cb:Nat} {s:ai} {tb:Nat} {cl:List (List Nat)} {A:aN} {r:Int} {n cu:Nat}
theorem SA.later {w':World} (h:SA w db xb sb cb s tb cl A r n cu) (hb:Below w.heap.size w w'):SA w' db xb sb cb s tb cl A r n cu:=h.same (ar.ae hb) ((hb.block _ (ax h.st)).trans h.st) (h.sw.later hb)
theorem mP.pre {w1 w':World} {A':aN} {m cv:Nat} (h:mP w1 w' db xb sb cb s tb A' r m cv) (hb:Below w.heap.size w w1):mP w w' db xb sb cb s tb A' r m cv:=by
 obtain ⟨s',zx,cl',h1,h2,h3⟩:=h;exact ⟨s',zx,cl',(ar.ae hb).trans h1,h2.imp id (fun h=>Nat.le_trans hb.size h),h3⟩
theorem mP.post {w1 w':World} {A':aN} {m cv:Nat} (h:mP w w1 db xb sb cb s tb A' r m cv) (hb:Below w1.heap.size w1 w'):mP w w' db xb sb cb s tb A' r m cv:=by
 obtain ⟨s',zx,cl',h1,h2,h3⟩:=h;exact ⟨s',zx,cl',h1.trans (ar.ae hb),h2,h3.later hb⟩
def nY (A:aN) (K N B:Int):Pl:=match fY K 8 with
 | 0=>El A (bN B)
 | 1=>El A (bN B)
 | 2=>Cr A (gu N) (bN B)
 | 3=>Cs A (gu N)
 | 4=>pF A (gu N) (bN B)
 | 5=>pF A (gu N) (bN B)
 | 6=>Ct A (bN B)
 | _=>GV A
theorem SA.apart (h:SA w db xb sb cb s tb cl A r n cu) {W w':World} {s':ai} (hg:ar (sS xb sb cb) s s' W w') (k:Nat) (h1:w.heap.size<=k) (h2:k<W.heap.size):w'.heap[k]? = W.heap[k]?:=hg.gr.block k h2 (fun e=>by
 rcases e with e|e|e|e
 ·have:=h.sw.ay.lt e;omega
 ·have:=ax h.st;omega
 ·have:=ax h.sw.blk;omega
 ·have:=h.sw.cm.lt;omega)
theorem SA.doc (h:SA w db xb sb cb s tb cl A r n cu) (X:ByteArray × Int × aN):DB w (fun W=>SA W db xb sb cb s tb cl A r n cu) (fun t k W w'=>t=X.1/\k=X.2.1/\mP W w' db xb sb cb s tb X.2.2 r (n+1) (cu+n+20)) :=
 ⟨h,fun _ _ hW hb=>hW.later hb,fun _ hW=>hW.sw.gl,fun _ _ _ _ _ hb hq=>⟨hq.1,hq.2.1,hq.2.2.pre hb⟩,fun _ _ _ _ _ hq hb=>⟨hq.1,hq.2.1,hq.2.2.post hb⟩,fun _ _ _ _ hq k h1 h2=>by
  obtain ⟨_,_,s',_,_,hg,_⟩:=hq;exact h.apart hg k h1 h2⟩
theorem QlD (h:SA w db xb sb cb s tb cl A r n cu) (hn:n<=300000) (gi:cu<=90000000000) (K N B:Int) (hK:cE K) (hN:cE N) (hB:cE B) :
  Calls Tryz.prog 11 #[.pointer (some ⟨xb,0,none⟩),.agg #[.int .i64 K,.int .i64 N,.int .i64 B]] w fun e w'=>e = .returned (.tuple #[.string ((nY A K N B).run r A).1,.int .i64 ((nY A K N B).run r A).2.1])/\mP w w' db xb sb cb s tb ((nY A K N B).run r A).2.2 r (n+1) (cu+n+20):=by
 have h8:=yq K 8 (by decide);have kL:=Km B;have Pq:=FH N;have tP:=Sd N;have aV:∀ X:ByteArray × Int × aN,(Calls Tryz.prog 11 #[.pointer (some ⟨xb,0,none⟩),.agg #[.int .i64 K,.int .i64 N,.int .i64 B]] w fun e w'=>∃ t k,e = .returned (.tuple #[.string t,.int .i64 k])/\t=X.1/\k=X.2.1/\mP w w' db xb sb cb s tb X.2.2 r (n+1) (cu+n+20)) ->
   Calls Tryz.prog 11 #[.pointer (some ⟨xb,0,none⟩),.agg #[.int .i64 K,.int .i64 N,.int .i64 B]] w fun e w'=>e = .returned (.tuple #[.string X.1,.int .i64 X.2.1])/\mP w w' db xb sb cb s tb X.2.2 r (n+1) (cu+n+20):=fun X hc=>hc.mono (by
  rintro e w' ⟨t,k,rfl,rfl,rfl,hs⟩;exact ⟨rfl,hs⟩)
 have hput:=fun hk=>aV _ (Rt (h.doc ((El A (bN B)).run r A)) K N B hK hN hB hk (fun W hW=>(Qvz hW hn gi (bN B) (by omega)).mono (by
  rintro e w' ⟨rfl,hs⟩;exact ⟨_,_,rfl,rfl,rfl,hs⟩)))
 have zB:=fun hk=>aV _ (Ru (h.doc ((pF A (gu N) (bN B)).run r A)) K N B hK hN hB hk (fun W hW=>(Quz hW hn gi (gu N) (bN B) (by omega) tP (by omega)).mono (by
  rintro e w' ⟨rfl,hs⟩;exact ⟨_,_,rfl,rfl,rfl,hs⟩)))
 unfold nY
 match hk:fY K 8,h8 with
 | 0,_=>exact hput (.inl hk)
 | 1,_=>exact hput (.inr hk)
 | 2,_=>exact aV _ (Yw (h.doc ((Cr A (gu N) (bN B)).run r A)) K N B hK hN hB hk (fun W hW=>(QvA hW hn gi (gu N) (bN B) (by omega) tP (by omega)).mono (by
   rintro e w' ⟨h1,rfl,hs⟩;exact ⟨_,rfl,h1.symm,rfl,hs⟩)))
 | 3,_=>exact aV _ (Yx (h.doc ((Cs A (gu N)).run r A)) K N B hK hN hB hk (fun W hW=>(QsS hW hn gi (gu N) (by omega) tP).mono (by
   rintro e w' ⟨h1,rfl,hs⟩;exact ⟨_,rfl,h1.symm,rfl,hs⟩)))
 | 4,_=>exact zB (.inl hk)
 | 5,_=>exact zB (.inr hk)
 | 6,_=>exact aV _ (Yy (h.doc ((Ct A (bN B)).run r A)) K N B hK hN hB hk (fun W hW=>(QvB hW hn gi (bN B)).mono (by
   rintro e w' ⟨h1,rfl,hs⟩;exact ⟨_,rfl,h1.symm,rfl,hs⟩)))
 | 7,_ =>
  have JA:tN A<=1000000:=by
   have h1:(dp A.tg (iw A)).length<=(iw A).length:=List.length_filter_le _ _;have h2:(iw A).length=A.cs.length:=List.length_map _;have:=h.len;unfold tN;omega
  exact aV _ (Yz (h.doc ((GV A).run r A)) K N B hK hN hB hk (fun W hW=>(QsT hW hn gi).mono (by
   rintro e w' ⟨h1,rfl,hs⟩;exact ⟨tN A,0,JA,rfl,by rw [h1],by rw [h1],hs⟩)))
end
end Go.Proofs.YtncigfibncmioaaGreatDoor
namespace Go.Proofs.YtncigfibncmioaaGreatDoor
open Go.RowKit
def Bc (RO:DS->Int->DS->Prop) (s:ai) (l:List TE) (cl:List (List Nat)):Prop:=∀ (sb cb tb:Nat) (W:World),aI W sb s cb tb 0 0 (.map []) (.map []) ->
 Calls Tryz.prog 94 #[.pointer (some ⟨sb,0,none⟩)] W fun e w'=>∃ ev k s',e = .returned ev/\bR w' ev k/\ar (fun k=>k=cb∨k=tb) s s' W w'/\RO s.ds k s'.ds/\s'.In w'/\(k=0->∃ nc,aI w' sb s' cb tb nc l.length (cD cl) (tD l))
theorem QpF {RO:DS->Int->DS->Prop} (s:ai) (l:List TE) (cl:List (List Nat)) (w:World) (h:s.In w) (cX:Gl w) (dI:fN s) (Dg:(cr s.ds bK).isSome=true) (hgo:Bc RO s l cl) :
  Calls Tryz.prog 50 #[.pointer (some ⟨s.b,0,none⟩)] w fun e w'=>∃ k s' sv ev,e = .returned (.tuple #[sv,ev])/\bR w' ev k/\aC s s' w w'/\RO s.ds k s'.ds /\
   (k=0->∃ sb cb tb,sv = .pointer (some ⟨sb,0,none⟩)/\(w.heap.size<=sb/\w.heap.size<=cb/\w.heap.size<=tb)/\aI w' sb s' cb tb cl.length l.length (cD cl) (tD l))/\(k≠0->sv = .pointer none):=by
 obtain ⟨W,hW,hB,hsz,hcm,kz,hblk⟩:=PG w s.b;have tX:=fun w=>run_makeMap (P:=Tryz.prog) 156 w
 have tY:=fun w=>run_makeMap (P:=Tryz.prog) 157 w
 have hst:aI W (w.heap.size+1+1) s w.heap.size (w.heap.size+1) 0 0 (.map []) (.map []):=⟨h.later hB,cX.later hB,dI,hblk,hcm,kz,fun e=>by have:=h.lt e;omega,fun e=>by have:=h.lt e;omega,fun e=>by have:=cX.lt e;omega,fun e=>by have:=cX.lt e;omega,fun e=>by have:=cX.lt e;omega,by omega⟩;have HB:=aa hB;have HW:=aa hW;have wm:=aa (ve (w.heap.size+1+1) s bK W hst.on.sb hst.ay (by decide));rw [Dg] at wm;have Vk:=aa (fun (W':World) (hg:aC s s W W')=>hgo (w.heap.size+1+1) w.heap.size (w.heap.size+1) W' (hst.go hg));have e1:∀ (args:Array Value) (w:World),(callFunc 92 args).run Tryz.prog w = .ok (.enter 92 args) w:=enters_of Tryz.func92 (by kernel_rfl) rfl;have e2:∀ (args:Array Value) (w:World),(callFunc 94 args).run Tryz.prog w = .ok (.enter 94 args) w:=enters_of Tryz.func94 (by kernel_rfl) rfl;clear hst hB hcm kz hblk h cX dI hW Dg hgo;go_enter Tryz.func50,Tryz.ntmps50;go_wp2_with fail;rw [<- HW.out];refine (wm.out).mono ?_;rintro _ w1 ⟨rfl,hg1⟩;dsimp only;have bT:=aa hg1;clear hg1 wm HW tX tY;go_wp2_with fail;refine (Vk.out _ bT.out).mono ?_;rintro _ w2 ⟨ev,k,s',rfl,cj,hg2,hr,jw,hs2⟩;dsimp only;have xe:aC s s' w w2:=by
  have g1:=((ar.ae (S:=fun k=>k=w.heap.size∨k=w.heap.size+1) (s:=s) HB.out).trans (ar.aZ bT.out)).trans hg2;refine ⟨g1.b,jw,g1.gr.mono (fun k hk hs=>?_),g1.own⟩
  rcases hs with hs|hs|hs
  ·exact hs
  ·omega
  ·omega
 have Ns:=aa xe;have HR:=aa hr;have fg:=aa (show k=0->aI w2 (w.heap.size+1+1) s' w.heap.size (w.heap.size+1) cl.length l.length (cD cl) (tD l) from fun hk=>by
  obtain ⟨nc,h9⟩:=hs2 hk;exact ⟨h9.ay,h9.gl,h9.low,h9.blk,PB h9.cm,h9.tm,h9.sk,h9.sq,h9.rJ,h9.vq,h9.rK,h9.ne⟩)
 clear hg2 hr hs2 xe jw
 rcases cj with ⟨rfl,rfl⟩|⟨bu,sv,nm,rfl,dw⟩
 ·have eT:=aa (fg.out rfl);clear fg;go_wp2_with fail;refine bodyPost_ret (results_tmp2 rfl _ _ _) rfl ?_;exact ⟨0,s',_,_,rfl,.inl ⟨rfl,rfl⟩,Ns.out,HR.out,fun _=>⟨_,_,_,rfl,by omega,eT.out⟩,fun hk=>absurd rfl hk⟩
 ·have gB:=aa dw;clear dw;go_wp2_with fail;refine bodyPost_ret (results_tmp2 rfl _ _ _) rfl ?_;exact ⟨k,s',_,_,rfl,.inr ⟨bu,sv,nm,rfl,gB.out⟩,Ns.out,HR.out,fun hk=>absurd hk bu,fun _=>rfl⟩
theorem QpG {RO:DS->Int->DS->Prop} (s:ai) (l:List TE) (cl:List (List Nat)) (w:World) (d:Nat) (h:s.In w) (cX:Gl w) (dI:fN s) (Dg:(cr s.ds bK).isSome=true) (hgo:Bc RO s l cl) (jI:BD w d s.b) :
  Calls Tryz.prog 17 #[.pointer (some ⟨d,0,none⟩)] w fun e w'=>∃ k s' sv,e = .returned (.tuple #[sv,.int .i64 k])/\aC s s' w w'/\RO s.ds k s'.ds /\
   (k=0->∃ xb sb cb tb,sv = .pointer (some ⟨xb,0,none⟩)/\ej w' xb sb/\(w.heap.size<=sb/\w.heap.size<=cb/\w.heap.size<=tb)/\w.heap.size<=xb/\aI w' sb s' cb tb cl.length l.length (cD cl) (tD l))/\(k≠0->sv = .pointer none) :=
 Ol (RO:=RO) s w d h cX dI (fun W hW=>QpF s l cl W (h.later hW) (cX.later hW) dI Dg hgo) jI
theorem Qmd {s:ai} {l:List TE} {L C B:Nat} (hq:JS s.ds l) (hf:au s.ds L C B) (hb:cZ (L+s.R.now.length+20) (C+s.R.now.length+20) (B+36)) (fJ:∀ e∈s.R.now,e.path.size<=9223372036854775807):Bc vC s l (eK s.R.now):=fun sb cb tb W h=>by
 refine (Qj6 sb s cb tb l W h hq hf hb fJ).mono ?_;rintro e w' ⟨ev,k,s',he,cj,hg,hr,nc,_,hst⟩;exact ⟨ev,k,s',he,cj,hg,hr,hst.ay,fun _=>⟨nc,hst⟩⟩
theorem QtH {s:ai} {l:List TE} {L C B:Nat} (hq:We s.ds l) (hf:au s.ds L C B) (hb:cZ (L+s.R.now.length+20) (C+s.R.now.length+20) (B+36)) (fJ:∀ e∈s.R.now,e.path.size<=9223372036854775807):Bc vC s l (eK s.R.now):=fun sb cb tb W h=>by
 refine (Qrn sb s cb tb l W h hq hf hb fJ).mono ?_;rintro e w' ⟨ev,k,s',he,cj,hg,hr,nc,_,hst⟩;exact ⟨ev,k,s',he,cj,hg,hr,hst.ay,fun _=>⟨nc,hst⟩⟩
theorem QtI {s:ai} {l:List TE} {L C B:Nat} (hq:Wf s.ds l) (jF:∀ k D1,(k,D1)=o9 s.ds (fk 1) bB->cr D1 cS=none/\(∀ e∈D1.R.now,e.path.size<=9223372036854775807)/\D1.R.now.length<=s.R.now.length) (hf:au s.ds L C B) (hb:cZ (L+s.R.now.length+30) (C+s.R.now.length+30) (B+36)):Bc (EZ [gv (fk 1) bB]) s l (eK s.R.now):=fun sb cb tb W h=>by
 refine (Qro sb s cb tb l W h hq jF hf hb).mono ?_;rintro e w' ⟨ev,k,s',he,cj,hg,hr,nc,_,hst⟩;exact ⟨ev,k,s',he,cj,hg,hr,hst.ay,fun _=>⟨nc,hst⟩⟩
theorem QtJ {s:ai} {l:List TE} {L C B:Nat} (dl:List DV) (hq:Wj s.ds l) (hdr:aq DV.key dl) (QV:∀ x,x∈dl ↔ x.1∈eK s.R.now) (a8:dl.length<=s.R.now.length) (IA:(eK s.R.now).length<=100000000) (jF:∀ k m D1,bM s.ds (mQ (dp l dl)) k m D1->(∀ e∈D1.R.now,e.path.size<=9223372036854775807)/\D1.R.now.length<=s.R.now.length)
  (hf:au s.ds L C B) (hb:cZ (L+s.R.now.length+s.R.now.length+50) (C+s.R.now.length+s.R.now.length+50) (B+36)) (cl:List (List Nat)) (uO:wI (cD (eK s.R.now)) (dp l dl)=cD cl):Bc (EZ (mQ (dp l dl))) s l cl:=fun sb cb tb W h=>by
 refine (Qrp sb s cb tb l W h dl hq hdr QV a8 IA jF hf hb).mono ?_;rintro e w' ⟨ev,k,s',he,cj,hg,hr,nc,m,_,hm,hst⟩;refine ⟨ev,k,s',he,cj,hg,hr,hst.ay,fun hk=>⟨nc,?_⟩⟩;rw [List.take_of_length_le (hm hk),uO] at hst;exact hst
end Go.Proofs.YtncigfibncmioaaGreatDoor
namespace Go.Proofs.YtncigfibncmioaaGreatDoor
open Go.RowKit
inductive Sh (n:Nat) (A:aN):List FF->Prop
 | rest:Sh n A (fA A)
 | one (t:ByteArray):Sh n A (ag FF.p (ff p0 t) (fA A))
 | two (t u:ByteArray):Sh n A (ag FF.p (ff p1 u) (ag FF.p (ff p0 t) (fA A)))
 | Aa (l:List TE):Sh n A (ag FF.p (ff p1 (aL A.tg)) (fA ⟨A.cs,l⟩))
 | Bb (cs:List ByteArray):aq kC cs->cs.length<=n->A.cs=cs.filter (fun b=>bD (ak b) A.tg)->Sh n A (ag FF.p (ff cS ⟨#[]⟩) (aB FF.p bo (fA ⟨cs,A.tg⟩)))
def cA (n:Nat) (A A':aN) (F:List FF):Prop:=∀ F',fD F F'->Sh n A F'∨Sh n A' F'
theorem Wv {x x':FF} (h:uk x x'):x'=ff x.p x'.t:=by
 obtain ⟨h1,n,_,_,_,h5⟩:=h;obtain ⟨p,t,y⟩:=x';simp only at h1 h5;unfold ff;rw [h1,h5]
theorem uq (A:aN):∀ x∈fA A,x.y=(x.t.size:Int):=fun x hx=>by
 unfold fA at hx
 rcases List.mem_append.1 hx with hx|hx
 ·obtain ⟨b,_,rfl⟩:=List.mem_map.1 hx;rfl
 ·rcases xg hx with rfl|rfl|rfl<;>rfl
theorem Ww {F:List FF} (h:∀ x∈F,x.y=(x.t.size:Int)):∀ x∈F,x.y<=(x.t.size:Int):=fun x hx=>by rw [h x hx];exact Int.le_refl _
section
variable {n:Nat} {A A':aN} {F:List FF}
theorem cA.rest:cA n A A' (fA A):=fun F' h=>by rw [h.same (uq A)];exact .inl .rest
theorem cA.rG:cA n A A' (fA A'):=fun F' h=>by rw [h.same (uq A')];exact .inr .rest
theorem cA.one {t:ByteArray} {y:Int}:cA n A A' (ag FF.p ⟨p0,t,y⟩ (fA A)):=fun F' h=>by
 obtain ⟨x',G,h1,h2,rfl⟩:=fD.ins h (Ww (uq A));rw [Wv h1,h2.same (uq A)];exact .inl (.one _)
theorem cA.two {t u:ByteArray} {y z:Int} (hz:z<=(t.size:Int)):cA n A A' (ag FF.p ⟨p1,u,y⟩ (ag FF.p ⟨p0,t,z⟩ (fA A))):=fun F' h=>by
 obtain ⟨x',G,h1,h2,rfl⟩:=fD.ins h (fun e he=>by
  rcases ln he with rfl|he
  ·exact hz
  ·exact Ww (uq A) e he)
 obtain ⟨x2,G2,h3,h4,rfl⟩:=fD.ins h2 (Ww (uq A));rw [Wv h1,Wv h3,h4.same (uq A)];exact .inl (.two _ _)
theorem cA.Aa {l:List TE} (hl:A'.tg=l):cA n A A' (ag FF.p (ff p1 (aL l)) (fA ⟨A'.cs,A.tg⟩)):=fun F' h=>by
 rw [h.same (fun x hx=>by
  rcases ln hx with rfl|hx
  ·rfl
  ·exact uq _ x hx),<- hl]
 exact .inr (.Aa _)
theorem cA.Bb {cs:List ByteArray} (hr:aq kC cs) (hn:cs.length<=n) (h1:A'.tg=A.tg) (h2:A'.cs=cs.filter (fun b=>bD (ak b) A'.tg)):cA n A A' (ag FF.p (ff cS ⟨#[]⟩) (aB FF.p bo (fA ⟨cs,A.tg⟩))):=fun F' h=>by
 rw [h.same (fun x hx=>by
  rcases ln hx with rfl|hx
  ·rfl
  ·exact uq _ x (jA.1 hx).1),<- h1]
 exact .inr (.Bb cs hr hn h2)
end
theorem Wx {F:List FF} (hr:aq FF.p F) {x y:FF} (h:x.p=y.p):ag FF.p x (ag FF.p y F)=ag FF.p x F:=by
 refine rZ (eA _ (eA _ hr)) (eA _ hr) (fun n=>?_);rw [fw _ _ (eA _ hr),fw _ _ hr,fw _ _ hr,h]
 by_cases hn:n=y.p
 ·simp [hn]
 ·simp [hn]
theorem Qmh {F:List FF} (hr:aq FF.p F) {x y:FF} (h:x.p≠y.p):ag FF.p x (ag FF.p y F)=ag FF.p y (ag FF.p x F):=by
 refine rZ (eA _ (eA _ hr)) (eA _ (eA _ hr)) (fun n=>?_);rw [fw _ _ (eA _ hr),fw _ _ hr,fw _ _ (eA _ hr),fw _ _ hr]
 by_cases hn:n=x.p
 ·simp [hn,h]
 ·simp [hn]
theorem Ba {F:List FF} (hr:aq FF.p F) {x:FF} (h:aQ FF.p x.p F=none):aB FF.p x.p (ag FF.p x F)=F:=by
 refine rZ (iT _ (eA _ hr)) hr (fun n=>?_);rw [qX,fw _ _ hr]
 by_cases hn:n=x.p
 ·subst hn;simp [h]
 ·simp [hn]
theorem Qmi {F:List FF} (hr:aq FF.p F) {x:FF} {p:ByteArray} (h:x.p≠p):aB FF.p p (ag FF.p x F)=ag FF.p x (aB FF.p p F):=by
 refine rZ (iT _ (eA _ hr)) (eA _ (iT _ hr)) (fun n=>?_);rw [qX,fw _ _ hr,fw _ _ (iT _ hr),qX]
 by_cases hn:n=p
 ·subst hn;simp [Ne.symm h]
 ·simp [hn]
section
variable {P:List FF->Prop} {r:Int} {B:Nat} {F:List FF} {c b q X:ByteArray}
theorem QtP (hr:aq FF.p F) (h0:aQ FF.p p0 F=none) (hc:aK c=true) (zb:p0≠c) (hB:b.size<=B) (P0:P F) (P1:P (ag FF.p ⟨p0,b,0⟩ F)) (P2:P (ag FF.p ⟨p0,b,(b.size:Int)⟩ F)) (P3:P (ag FF.p (ff c b) F)) :
  z8 P r B (fun i=>tV (min i [(c,b)].length)) 0 F (jq [(c,b)]):=by
 rw [P9];refine ⟨P0,fun _=>P0,_,Mv.ap kA h0 hB,P1,fun h=>(by cases h),_,(Mv.sy kA (ot hr ⟨p0,b,0⟩)).eq (Wx hr rfl),P2,fun h=>(by cases h),ag FF.p (ff c b) F,(Mv.rn kA hc zb (ot hr ⟨p0,b,(b.size:Int)⟩)).eq ?_,P3,fun h=>(by cases h),_,Mv.sd,P3⟩;show ag FF.p (ff c b) (aB FF.p p0 _)=_;rw [show aB FF.p p0 (ag FF.p ⟨p0,b,(b.size:Int)⟩ F)=F from Ba (x:=⟨p0,b,(b.size:Int)⟩) hr h0]
theorem QtQ (hr:aq FF.p F) (h0:aQ FF.p p0 F=none) (h1:aQ FF.p p1 F=none) (hc:aK c=true) (hq:aK q=true) (hc0:p0≠c) (hc1:p1≠c) (Hy:p1≠q) (hB:b.size<=B) (hX:X.size<=B)
  (P0:P F) (P1:P (ag FF.p ⟨p0,b,0⟩ F)) (P2:∀ y z,(z=0∨z=(b.size:Int))->P (ag FF.p ⟨p1,X,y⟩ (ag FF.p ⟨p0,b,z⟩ F))) (P5:P (ag FF.p (ff p1 X) (ag FF.p (ff c b) F))) (P6:P (ag FF.p (ff q X) (ag FF.p (ff c b) F))) :
  z8 P r B (fun i=>tV (min i [(c,b),(q,X)].length)) 0 F (jq [(c,b),(q,X)]):=by
 have Va:jq [(c,b),(q,X)] = [oB p0 b,oB p1 X,oC p0,oC p1,gv p0 c,gv p1 q,gQ]:=by
  rw [<- BJ,<- vB];rfl
 have r9:p0≠p1:=by decide
 have r1:=eA (key:=FF.p) ⟨p0,b,0⟩ hr;have r2:=eA (key:=FF.p) ⟨p0,b,(b.size:Int)⟩ hr;have rc:=eA (key:=FF.p) (ff c b) hr;have jF:∀ z,aQ FF.p p1 (ag FF.p ⟨p0,b,z⟩ F)=none:=fun z=>by
  rw [fw _ _ hr,if_neg (fun e=>r9 e.symm)];exact h1
 have O6:aQ FF.p p1 (ag FF.p (ff c b) F)=none:=by
  rw [fw _ _ hr,if_neg (show ¬ p1=(ff c b).p from hc1)];exact h1
 rw [Va];refine ⟨P0,fun _=>P0,_,Mv.ap kA h0 hB,P1,fun _=>?_,_,Mv.ap pM (jF 0) hX,P2 _ _ (.inl rfl),fun h=>(by cases h),ag FF.p ⟨p1,X,0⟩ (ag FF.p ⟨p0,b,(b.size:Int)⟩ F),(Mv.sy kA (CY r1 (ot hr ⟨p0,b,0⟩) r9)).eq ?_,P2 _ _ (.inr rfl),fun h=>(by cases h),ag FF.p ⟨p1,X,(X.size:Int)⟩ (ag FF.p ⟨p0,b,(b.size:Int)⟩ F),(Mv.sy pM (ot r2 ⟨p1,X,0⟩)).eq (Wx r2 rfl),P2 _ _ (.inr rfl),fun h=>(by cases h),ag FF.p (ff p1 X) (ag FF.p (ff c b) F),(Mv.rn kA hc hc0 (CY r2 (ot hr ⟨p0,b,(b.size:Int)⟩) r9)).eq ?_,P5,fun h=>(by cases h),ag FF.p (ff q X) (ag FF.p (ff c b) F),(Mv.rn pM hq Hy (ot rc (ff p1 X))).eq ?_,P6,fun h=>(by cases h),_,Mv.sd,P6⟩
 ·show uj P r B _ (tV 1);rw [Qa];refine ⟨P1,F,(Mv.rm (x:=⟨p0,b,0⟩) kA (ot hr _)).eq (Ba (x:=⟨p0,b,0⟩) hr h0),P0,_,Mv.sd,P0⟩
 ·rw [Qmh (x:=⟨p0,b,(b.size:Int)⟩) (y:=⟨p1,X,0⟩) r1 r9,Wx (x:=⟨p0,b,(b.size:Int)⟩) (y:=⟨p0,b,0⟩) hr rfl]
 ·show ag FF.p (ff c b) (aB FF.p p0 _)=_;rw [show aB FF.p p0 (ag FF.p ⟨p1,X,(X.size:Int)⟩ (ag FF.p ⟨p0,b,(b.size:Int)⟩ F))=ag FF.p ⟨p1,X,(X.size:Int)⟩ (aB FF.p p0 (ag FF.p ⟨p0,b,(b.size:Int)⟩ F)) from Qmi r2 (Ne.symm r9),show aB FF.p p0 (ag FF.p ⟨p0,b,(b.size:Int)⟩ F)=F from Ba (x:=⟨p0,b,(b.size:Int)⟩) hr h0];exact Qmh (x:=ff c b) (y:=ff p1 X) hr (Ne.symm hc1)
 ·show ag FF.p (ff q X) (aB FF.p p1 _)=_;rw [show aB FF.p p1 (ag FF.p (ff p1 X) (ag FF.p (ff c b) F))=ag FF.p (ff c b) F from Ba (x:=ff p1 X) rc O6]
end
theorem Sh.vh {n:Nat} {A:aN} {F:List FF} (h:Sh n A F):∀ x∈F,x.y=(x.t.size:Int):=fun x hx=>by
 cases h with
 | rest=>exact uq A x hx
 | one t =>
  rcases ln hx with rfl|hx
  ·rfl
  ·exact uq _ x hx
 | two t u =>
  rcases ln hx with rfl|hx
  ·rfl
  ·rcases ln hx with rfl|hx
   ·rfl
   ·exact uq _ x hx
 | Aa l =>
  rcases ln hx with rfl|hx
  ·rfl
  ·exact uq _ x hx
 | Bb cs h1 h2 h3 =>
  rcases ln hx with rfl|hx
  ·rfl
  ·exact uq _ x (jA.1 hx).1
theorem Sh.E1 {n:Nat} {A:aN} {F:List FF} (h:Sh n A F):cA n A A F:=fun F' hc=>by rw [hc.same h.vh];exact .inl h
structure DQ (w:World) (d:Nat) (s:ai) (A:aN) (r:Int) (n cu:Nat):Prop where
 dk:rS w d s
 rq:Rq s.ds A r
 c0:0<=s.ds.R.count
 c1:s.ds.R.count<=(cu:Int)
 len:A.cs.length<=n
 good:aG A
 use:(dD A:Int)<=r
 r0:0<=r
 r1:r<=9223372036854775807
theorem au.zV {D:DS} {L C B:Nat} (h:au (aH D) L C B) (l0 : -1<=D.R.left) (l1:D.R.left<=9223372036854775807):au D L C B :=
 ⟨h.len,h.c0,h.c1,l0,l1,h.r0,h.r1,h.dS,h.ql,⟨h.inv.go,h.inv.ne⟩,h.cK,h.cH,h.er,h.rise⟩
theorem JQ {D:DS} (h:D.R.left = -1):aH D=D:=by
 obtain ⟨⟨room,now,safe,aw,count,left⟩,fs,fd⟩:=D;simp only at h;subst h;rfl
section
variable {w:World} {d:Nat} {s:ai} {A:aN} {r:Int} {n cu:Nat}
theorem DQ.fit (h:DQ w d s A r n cu):au s.ds (n+3) cu 2000 :=
 au.zV ((h.rq.ft.fit (C:=cu) h.c0 h.c1 h.r0 h.r1).mono (by rw [xn];have:=h.len;omega) (Nat.le_refl _) (Nat.le_refl _)) h.rq.l0 h.rq.l1
theorem DQ.small (h:DQ w d s A r n cu):∀ e∈s.R.now,e.path.size<=80:=fun e he=>by
 have hv:s.ds.R.now.map (eu s.ds.fd)=fA A:=h.rq.vw;have hm:eu s.fd e∈fA A:=by rw [<- hv];exact List.mem_map_of_mem he
 have:=Qov hm;exact JO this
theorem SA.dq {db xb sb cb tb:Nat} {cl:List (List Nat)} (h:SA w db xb sb cb s tb cl A r n cu):DQ w db s A r n cu :=
 ⟨h.dk,⟨by rw [JQ h.ft.wh.left];exact h.ft,by rw [h.ft.wh.left];decide,by rw [h.ft.wh.left];decide⟩,h.c0,h.c1,h.len,h.good,h.use,h.r0,h.r1⟩
theorem DQ.go {w':World} (h:DQ w d s A r n cu) (hg:aC s s w w'):DQ w' d s A r n cu:=⟨h.dk.go hg,h.rq,h.c0,h.c1,h.len,h.good,h.use,h.r0,h.r1⟩
theorem QhW (s:ai) (d:Nat) (paths:Int) (kv:Value) (ks:List Int) (w:World) {L C B:Nat} (h:rS w d s) (hk:kh s.own w kv ks) (hf:au s.ds L C B) (hL:L<=1000000) (hB:B<=1000000) :
  Calls Tryz.prog 16 #[.pointer (some ⟨d,0,none⟩),.int .i64 paths,kv] w fun e w'=>e = .returned (.int .i64 0)/\∃ s',aC s s' w w'/\s'.ds=I9 s.ds (vT paths s.R.aw.length) ks:=by
 have hLe:(s.R.aw.take (vT paths s.R.aw.length)).foldl cC s.R.safe=fh s.R.safe (s.R.aw.take (vT paths s.R.aw.length)):=Rn _ hf.inv.ne;refine QtY d s.b paths kv (fun w'=>∃ s',aC s s' w w'/\s'.ds=I9 s.ds (vT paths s.R.aw.length) ks) w h.bd ((QsB s paths kv ks w h.ay hk ⟨?_,hf.ql,fun f hf'=>?_⟩ _ hLe.symm ?_).mono ?_)
 ·have:=hf.len;show s.R.safe.length+s.R.aw.length<=100000000;have:s.R.safe.length+s.R.aw.length<=L:=this;omega
 ·obtain ⟨a,b,c⟩:=hf.dS f hf';exact ⟨by have:(s.fd f).1.size<=B:=a;omega,b,c⟩
 ·intro e vE
  rcases Tq _ vE with vE|⟨c,hc,e1⟩
  ·exact hf.cH e vE
  ·rw [e1];exact hf.er c (List.mem_of_mem_take hc)
 ·rintro e w' ⟨rfl,s',hg,h1,h2,h3⟩;refine ⟨rfl,s',hg,?_⟩;unfold ai.ds I9;rw [h1,h2,h3]
theorem Qtb (h:DQ w d s A r n cu) (hn:n<=300000) (paths:Int) (kv:Value) (ks:List Int) (hk:kh s.own w kv ks) :
  Calls Tryz.prog 16 #[.pointer (some ⟨d,0,none⟩),.int .i64 paths,kv] w fun e w'=>e = .returned (.int .i64 0)/\∃ s',aC s s' w w'/\DQ w' d s' A r n cu/\s'.ds.R.left = -1:=by
 refine (QhW s d paths kv ks w h.dk hk h.fit (by omega) (by omega)).mono ?_;rintro e w' ⟨rfl,s',hg,hd⟩;rw [h.rq.crash] at hd;refine ⟨rfl,s',hg,⟨h.dk.go hg,?_,?_,?_,h.len,h.good,h.use,h.r0,h.r1⟩,?_⟩
 ·rw [hd];exact h.rq.off
 ·rw [hd];exact h.c0
 ·rw [hd];exact h.c1
 ·rw [hd];rfl
theorem QuO (h:DQ w d s A r n cu) (hn:n<=300000) :
  Calls Tryz.prog 18 #[.pointer (some ⟨d,0,none⟩)] w fun e w'=>∃ d' so,e = .returned (.tuple #[.pointer (some ⟨d',0,none⟩),.int .i64 0])/\Below w.heap.size w w'/\w.heap.size<=d'/\(∀ k,so.own k->w.heap.size<=k)/\DQ w' d' so A r n 0/\so.ds.R.left = -1:=by
 have kP:s.R.now.length<=n+3:=h.fit.cz;refine (WY d s.b (fun g w'=>∃ so:ai,so.b=g/\Below w.heap.size w w'/\so.In w'/\(∀ k,so.own k->w.heap.size<=k)/\dY so.ds (fA A) r 2000/\so.R.count=0) w h.dk.bd ((ZI s w h.dk.ay h.fit.r0 (by omega) (fun f hf'=>by have:(s.fd f).1.size<=2000:=(h.fit.dS f hf').1;omega)).mono ?_)).mono ?_
 ·rintro e w' ⟨so,ψ,rfl,hb,cJ,hown,hR,hc⟩;obtain ⟨a1,a2⟩:=Qtd h.rq (fun x hx=>QlE h.good hx) cJ hR hc;exact ⟨so.b,rfl,so.cut,rfl,hb,cJ.cut (by rw [hR]) (by rw [hR]),fun k hk=>hown k (cJ.yi hk),a1,a2⟩
 ·rintro e w' ⟨g,w1,rfl,rfl,so,rfl,hb,cJ,hown,e1,e2⟩;have nB:=hb.alloc hb.size (.cells #[.pointer (some ⟨so.b,0,none⟩)] 90);refine ⟨w1.heap.size,so,rfl,nB,hb.size,hown,⟨⟨cJ.later ((Below.refl _ _).alloc (Nat.le_refl _) _),heap_alloc_new _ _,h.dk.gl.later nB,fun k hk hG=>by have:=hown k hk;have:=h.dk.gl.lt hG;omega⟩,⟨by rw [JQ e1.wh.left];exact e1,by rw [e1.wh.left];decide,by rw [e1.wh.left];decide⟩,by show 0<=so.R.count;omega,by show so.R.count<=_;omega,h.len,h.good,h.use,h.r0,h.r1⟩,e1.wh.left⟩
theorem QuQ (h:DQ w d s A r n cu) (hn:n<=300000) (gi:cu<=90000000000) :
  Calls Tryz.prog 17 #[.pointer (some ⟨d,0,none⟩)] w fun e w'=>∃ s' xb sb cb tb cl,e = .returned (.tuple #[.pointer (some ⟨xb,0,none⟩),.int .i64 0])/\aC s s' w w'/\DQ w' d s' A r n (cu+1)/\(s.ds.R.left = -1->SA w' d xb sb cb s' tb cl A r n (cu+1))/\(w.heap.size<=xb/\w.heap.size<=sb/\w.heap.size<=cb/\w.heap.size<=tb):=by
 have kP:s.R.now.length<=n+3:=h.fit.cz;refine (Qm3 s A.tg w d h.dk.ay h.dk.gl h.dk.low h.fit (show cZ _ _ _ from ⟨by omega,by omega,by omega⟩) (fun e he=>Nat.le_trans (h.small e he) (by decide)) (h.rq.qui h.good) h.dk.bd).mono ?_;rintro e w' ⟨k,s',sv,rfl,hg,hr,aF, -⟩;obtain ⟨rfl,hq,hl,h1,h2⟩:=h.rq.open hr;obtain ⟨xb,sb,cb,tb,rfl,wC,EK,hlx,hst⟩:=aF rfl;have hc0:=h.c0;have hc1:=h.c1;have Qb:DQ w' d s' A r n (cu+1):=⟨h.dk.go hg,hq,by omega,by omega,h.len,h.good,h.use,h.r0,h.r1⟩;refine ⟨s',xb,sb,cb,tb,eK s.R.now,rfl,hg,Qb,fun e=>?_,hlx,EK.1,EK.2.1,EK.2.2⟩;have hl':=hl e;have Vb:dY s'.ds (fA A) r 2000:=by
  have:=hq.ft;rwa [JQ hl'] at this
 exact ⟨wC,fun e=>by have:=h.dk.gl.lt e;omega,hst,(h.dk.go hg).bd,Hz,h.rq.cont,h.len,Vb,by omega,by omega,h.good,h.use,h.r0,h.r1⟩
end
def tC (t:TE):List Value:=[.string t.n,.string (fV t.d),.int .i64 t.z]
def bC (b:ByteArray):List Value:=[.string (dr b),.int .i64 (b.size:Int)]
theorem Qop:∀ {l:List TE},(∀ t∈l,t.Ok)->((l.map TE.tg).map Tg.told).flatMap Tg.cells=l.flatMap tC
 | [],_=>rfl
 | t::l,h=>by
  have ih:=Qop (l:=l) (fun x hx=>h x (by simp [hx]));have ht:=h t (by simp);have e:Tg.told t.tg=t.tg:=by
   unfold Tg.told TE.tg;dsimp only;rw [Eg t.d ht.len ht.lt];rfl
  rw [List.map_cons,List.map_cons,List.flatMap_cons,List.flatMap_cons,ih,e];rfl
theorem QhS {α β γ:Type} (f:α->β) (g:β->List γ) (k:α->List γ):∀ l:List α,(∀ x∈l,g (f x)=k x)->(l.map f).flatMap g=l.flatMap k
 | [],_=>rfl
 | x::l,h=>by
  rw [List.map_cons,List.flatMap_cons,List.flatMap_cons,h x (by simp),QhS f g k l (fun y hy=>h y (by simp [hy]))]
section
variable {w:World} {db xb sb cb:Nat} {s:ai} {tb:Nat} {cl:List (List Nat)} {A:aN} {r:Int} {n cu:Nat}
theorem Quu (h:SA w db xb sb cb s tb cl A r n cu) {b c:ByteArray} (hc:dn A b=some c) :
  Calls Tryz.prog 34 #[.pointer (some ⟨xb,0,none⟩),.string (dr b)] w fun e w'=>e = .returned (.tuple #[.string c,.int .i64 0])/\ar (sS xb sb cb) s s w w'/\SA w' db xb sb cb s tb cl A r n cu:=by
 have hh:=h.has b;rw [show aQ kC (kC b) A.cs=some c from hc] at hh;refine (QpS xb sb s cb tb cl.length (cD cl) A.tg (dr b) w h.st h.hG h.sw (Md cl) (vY b) (by rw [ll];exact hh) (fun t ht=>by rw [ll,h.rd b] at ht;have:=h.dX ht;omega)).mono ?_;rintro e w' ⟨rfl,hg,hx,hst⟩;refine ⟨?_,hg,h.same hg hx hst⟩;rw [ll,h.AK b,hc];rfl
theorem QrO (h:SA w db xb sb cb s tb cl A r n cu) :
  Calls Tryz.prog 42 #[.pointer (some ⟨xb,0,none⟩)] w fun e w'=>∃ v,e = .returned (.tuple #[v,.int .i64 0])/\w'.ownsRow w.heap.size 83 3 v A.tg.length (A.tg.flatMap tC)/\ar (sS xb sb cb) s s w w'/\SA w' db xb sb cb s tb cl A r n cu:=by
 refine (Qml xb sb s cb tb cl.length (cD cl) A.tg w h.st h.hG h.sw h.good.tok h.good.t8).mono ?_;rintro e w' ⟨v,rfl,hrow,hg,hx,hst⟩;rw [Qop h.good.tok] at hrow;exact ⟨v,rfl,hrow,hg,h.same hg hx hst⟩
theorem Quv (h:SA w db xb sb cb s tb cl A r n cu) {b:ByteArray} (hb:b∈A.cs):xA s.ds (nz b)=bC b:=by
 have hc:dn A b=some b:=lD h.good.rise hb;unfold xA bC;rw [tJ,h.rd b,hc];rfl
theorem Quw (h:SA w db xb sb cb s tb cl A r n cu):(iw A).flatMap (xA s.ds)=A.cs.flatMap bC:=QhS nz (xA s.ds) bC A.cs (fun _ hb=>Quv h hb)
theorem QsM (h:SA w db xb sb cb s tb cl A r n cu) (hn:n<=300000) :
  Calls Tryz.prog 32 #[.pointer (some ⟨xb,0,none⟩)] w fun e w'=>∃ v,e = .returned (.tuple #[v,.int .i64 0])/\w'.ownsRow w.heap.size 73 2 v A.cs.length (A.cs.flatMap bC)/\ar (sS xb sb cb) s s w w'/\SA w' db xb sb cb s tb cl A r n cu:=by
 have a8:(iw A).length=A.cs.length:=List.length_map _;have hlen:=h.len;refine (Qke xb sb s cb tb cl.length A.tg cl (iw A) w h.st h.hG h.sw h.ok (Me h.good.rise) (fun x=>by rw [AL,h.mem]) (by have:=h.qW;omega) (by omega)).mono ?_;rintro e w' ⟨v,rfl,hrow,hg,hx,hst⟩;rw [Quw h,a8] at hrow;exact ⟨v,rfl,hrow,hg,h.same hg hx hst⟩
theorem ar.jO {w':World} {s':ai} {N:Nat} (hg:ar (sS xb sb cb) s s' w w') (hN:∀ k,s.own k∨sS xb sb cb k->N<=k) (hw:N<=w.heap.size):Below N w w' :=
 ⟨hg.gr.os,hg.gr.tape,hg.gr.output,hg.gr.size,fun k hk=>hg.gr.block k (by omega) (fun e=>by have:=hN k e;omega)⟩
theorem SA.lt (h:SA w db xb sb cb s tb cl A r n cu):∀ k,oJ s xb sb cb tb k->k<w.heap.size:=fun k hk=>by
 rcases hk with e|e|e
 ·exact h.sw.ay.lt e
 ·rcases e with e|e|e
  ·rw [e];exact ax h.st
  ·rw [e];exact ax h.sw.blk
  ·rw [e];exact h.sw.cm.lt
 ·rw [e];exact h.sw.tm.lt
end
end Go.Proofs.YtncigfibncmioaaGreatDoor
