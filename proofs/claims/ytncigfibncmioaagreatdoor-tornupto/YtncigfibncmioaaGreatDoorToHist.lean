/-
  PROVED HERE: endPruning of package store.
-/
import Derived.Test.YtncigfibncmioaaGreatDoorSoLoad
set_option maxHeartbeats 4000000
set_option maxRecDepth 100000
namespace Go.Proofs.YtncigfibncmioaaGreatDoor
open Go.RowKit
def wI (Dc:DataW Value) (ul:List DV):DataW Value:=ul.foldl (fun D d=>D.del (dy d.1)) Dc
theorem QmY (Dc:DataW Value) (ul:List DV) (d:DV):wI Dc (ul ++ [d])=(wI Dc ul).del (dy d.1):=by simp [wI,List.foldl_append]
def oN (ul:List DV):List bU:=ul.map fun d=>fM (bW d.1)
def mQ (ul:List DV):List bU:=oN ul ++ [gv cS bo,gQ]
theorem QuL (ul:List DV) (j:Nat):eM ((oN ul).take j)=0:=by
 have:=EE (M:=0) ((oN ul).take j) (fun t ht=>by
  obtain ⟨d,_,rfl⟩:=List.mem_map.1 (List.mem_of_mem_take ht);exact Nat.le_refl _)
 omega
theorem QlO (ul:List DV) (j:Nat) (hj:j<ul.length):(oN ul).take (j+1)=(oN ul).take j ++ [fM (bW (ul[j]'hj).1)]:=by
 unfold oN;rw [List.take_add_one,List.getElem?_map,List.getElem?_eq_getElem hj];rfl
theorem QqL {D D1 D':DS} {ul:List DV} {j:Nat} {k:Int} (hr:bM D ((oN ul).take j) 0 j D1) (hj:j<ul.length) (hs:fK D1 (fM (bW (ul[j]'hj).1)) k D') (hk:k≠0):bM D (mQ ul) k j D':=by
 have h1:=bM.one hs;rw [if_neg hk] at h1;have h2:=hr.app h1;rw [Nat.add_zero,<- QlO ul j hj] at h2;have h3:=h2.stop ((oN ul).drop (j+1) ++ [gv cS bo,gQ]) hk;rw [<- List.append_assoc,List.take_append_drop] at h3;exact h3
theorem QfO (sb:Nat) (s:ai) (cb tb nc nt:Nat) (Dc Dt:DataW Value) (B0:Nat) (so:Option Addr) (sc:Nat) (ul:List DV) (w:World) {L C B:Nat} (h:aI w sb s cb tb nc nt Dc Dt) (hown:∀ k,(Value.slice so ul.length sc).ownBlock=some k->¬ (s.own k∨k=cb)) (hrow:w.ownsRow B0 117 32 (.slice so ul.length sc) ul.length (ul.flatMap DV.enc)) (hsz:ul.length<=100000000) (hf:au s.ds L C B) (hb:cZ (L+ul.length+10) (C+ul.length+10) B) :
  Calls Tryz.prog 121 #[.pointer (some ⟨sb,0,none⟩),.slice so ul.length sc] w fun e w'=>∃ ev k s' m,e = .returned ev/\bR w' ev k/\ar (fun k=>k=cb) s s' w w'/\bM s.ds (mQ ul) k m s'.ds/\aI w' sb s' cb tb nc nt (wI Dc (ul.take m)) Dt:=by
 have H:=aa h;have jk:=aa hown;have aA:=aa hrow;have HF:=aa hf;have uY:=aa hb;have Dm:0<ul.length->∃ g,so=some ⟨g,0,none⟩:=fun hp=>by
  obtain ⟨_,⟨h1,h2⟩|⟨g,cap,cur,h1,_⟩⟩:=hrow
  ·omega
  ·injection h1 with h1
   exact ⟨g,h1⟩
 have wG:=aa Dm;have ji:=(zero_of_info Tryz.bY).1;clear h hown hrow hf hb Dm;go_enter Tryz.func121,Tryz.ntmps121;go_wp2_with fail
 go_loopw [11] (fun iv wr=>∃ (j:Nat) (s1:ai),j<=ul.length/\iv = .int .i64 ((j:Nat):Int)/\ar (fun k=>k=cb) s s1 w wr/\bM s.ds ((oN ul).take j) 0 j s1.ds/\aI wr sb s1 cb tb nc nt (wI Dc (ul.take j)) Dt) (fun iv _=>ul.length - (intOf iv).toNat)
 case atStart=>exact ⟨0,s,Nat.zero_le _,rfl,ar.ae (Below.refl _ _),⟨rfl,rfl,rfl⟩,H.out⟩
 case round =>
  obtain ⟨j,s1,hj,rfl,hgo,hr,hst⟩:=hrel;have cQ:=aa hgo;have HR:=aa hr;have HST:=aa hst;have rA:=aa (((HF.out.ran hr).mono (L':=L+ul.length) (C':=C+ul.length) (B':=B) (by rw [List.length_take];omega) (by rw [List.length_take];omega) (by rw [QuL];omega)));have eX:wr.ownsRow B0 117 32 (.slice so ul.length sc) ul.length (ul.flatMap DV.enc):=jQ aA.out (fun k hk _=>by
   obtain ⟨c,hc⟩:=eO aA.out k hk;exact hgo.gr.block k (ax hc) (jk.out k hk))
  have uX:=aa eX;clear hgo hr hst eX
  by_cases hlt:j<ul.length
  ·obtain ⟨g,hg⟩:=wG.out (by omega);subst hg;have iI:=Od uX.out hlt;obtain ⟨d,hd⟩ : ∃ d,d=(ul[j]'hlt):=⟨_,rfl⟩;rw [<- hd] at iI;have gm:=aa iI;have HD:=aa hd;have aJ:=d.2.1;have xD:=d.2.2;have d1:decide (((j:Nat):Int)<((ul.length:Nat):Int))=true:=decide_eq_true (by omega);obtain ⟨W,hW⟩ : ∃ W,W=wr.alloc (.cells (ah d.1) 117):=⟨_,rfl⟩;have bh:Below wr.heap.size wr W:=by rw [hW];exact (Below.refl _ _).alloc (Nat.le_refl _) _
   have hrow:W.heap[wr.heap.size]? = some (.cells (ah d.1) 117 (0,0)):=by rw [hW];exact heap_alloc_new _ _
   have iA:=(HST.out.later bh).on;have mL:=aa (MQ d.1 W.drew aJ xD);have lp:=aa (fun (w':World) (hb':Below W.heap.size W w')=>Rm s1 (bW d.1) w' (iA.ay.later hb') rA.out (uY.out.mono (by omega) (by omega) (Nat.le_refl _)) (Nat.le_trans (MR d.1) (by decide)));have eY:=aa iA;have UQ:=aa (HST.out.later bh);have HW:=aa hW;have cI:=aa bh;have eE:=aa hrow;have HN:=aa (fun (k:Nat) (hk:s1.own k)=>HST.out.ay.lt hk);clear iI hd hW bh hrow iA;go_wp2_with (first|(refine wpList_load_mid rfl 117 _ rfl g (j * 32) rfl (ah d.1).toList _ gm.out Tryz.underlying117 rfl (jl d.1 aJ) ?_)|(refine wpList_store_row rfl 117 _ _ rfl wr.heap.size _ rfl rfl 117 _ (heap_alloc_new _ _) (bL _ aJ) (by rw [aY,aY,aJ];rfl) (dQ _) ?_;rw [World.setRow_alloc_new,<- HW.out]));obtain ⟨xb,gF⟩ : ∃ xb,xb=wr.heap.size:=⟨_,rfl⟩;rw [<- gF] at eE HN ⊢;have A4:=aa gF;clear gF;have bA:=xr (eY.out.later (Below.refl W.heap.size W).drew) ((((Below.refl W.heap.size W).drew).block _ (ax eE.out)).trans eE.out);have u72:=Tryz.underlying117;have i72:=jl d.1 aJ
   go_region_held3 (fun w'=>w'.cell? ⟨sb,0,none⟩=some (.pointer (some ⟨s1.b,0,none⟩))/\w'.rangeAt xb 0 (ah d.1).toList) (first|exact eb|exact ie|exact bA|go_keep) ((first|(go_at_call 107;refine (mL.out).mono ?_;rintro _ w1 ⟨rfl,hb1⟩;have hb3:Below W.heap.size W w1:=((Below.refl W.heap.size W).drew).trans hb1;have hr2:=(hb3.block _ (ax eE.out)).trans eE.out;have ie:=xr (eY.out.later hb3) hr2)|(go_at_call 117;refine (lp.out _ hb3).mono ?_;rintro _ w2 ⟨v,k,s2,rfl,hv,hg,hst⟩;have hr3:=(hg.gr.block _ (ax hr2) (fun e=>by have:=HN.out _ e;omega)).trans hr2;have eb:=(show w2.cell? ⟨sb,0,none⟩=some (.pointer (some ⟨s1.b,0,none⟩))/\w2.rangeAt xb 0 (ah d.1).toList by rw [<- hg.b];exact xr ((eY.out.later hb3).go hg) hr3))))
   have Fw:=aa ((UQ.out.later hb3).go hg);have bP:=aa (cQ.out.trans (((ar.ae cI.out).trans (ar.ae hb3)).trans (ar.aZ (S:=fun k=>k=cb) hg)));have oz:=aa hr3;have dP:fK s1.ds (fM (bW (ul[j]'hlt).1)) k s2.ds:=by rw [<- HD.out];exact hst
   have EF:=aa dP;clear hst dP lp bA ie eb hr2 hr3 hb1 hb3 mL u72 i72 hg
   rcases hv with ⟨h0,rfl⟩|⟨h0,sv,nm,rfl,iY⟩
   ·have hdr:Below w2.heap.size w2 w2.drew:=(Below.refl _ _).drew;have h6:=Fw.out.later hdr;have eZ:=(hdr.block _ (ax oz.out)).trans oz.out;have bA:w2.drew.cell? ⟨sb,1,none⟩=some (.map (some cb))/\w2.drew.rangeAt xb 0 (ah d.1).toList:=⟨cell_of_row _ _ 1 _ _ _ h6.blk,eF eZ⟩;obtain ⟨w6,hrun,jc,MS⟩:=World.ownsMap.drop h6.cm rY Tryz.underlying156 (EB d.1 aJ xD) 0;have bQ:=MS.grown;have nV:w6.cell? ⟨sb,1,none⟩=some (.map (some cb))/\w6.rangeAt xb 0 (ah d.1).toList:=⟨cell_of_row _ _ 1 _ _ _ (h6.pJ bQ jc).blk,eF ((bQ.block _ (ax eZ) (fun e=>by
     injection e with e
     obtain ⟨es,clock,h1,_⟩:=h6.cm;rw [<- e,eZ] at h1
     cases h1)).trans eZ)⟩
    have H7:=aa (h6.pJ bQ jc);have kn:=aa (bP.out.trans ((ar.ae hdr).trans (ar.cW bQ (fun r e=>by injection e with e;exact e.symm))));have u72:=Tryz.underlying117;have i72:=jl d.1 aJ;have uy:=aa h0;clear h6 jc bQ MS hdr h0;go_wp2_with fail
    go_region_held3 (fun w'=>w'.cell? ⟨sb,1,none⟩=some (.map (some cb))/\w'.rangeAt xb 0 (ah d.1).toList) (first|exact bA|exact nV|go_keep) (fail)
    clear hrun u72 i72 bA nV eZ;go_wp2_with fail;refine ⟨⟨j+1,s2,hlt,by simp,kn.out,?_,?_⟩,by simp only [intOf];omega⟩
    ·rw [QlO ul j hlt];have h1:=bM.one EF.out;rw [uy.out,if_pos rfl] at h1;exact HR.out.app h1
    ·have:ul.take (j+1)=ul.take j ++ [d]:=by
      rw [List.take_add_one,List.getElem?_eq_getElem hlt,HD.out];rfl
     rw [this,QmY];exact H7.out
   ·have rv:=aa iY;clear iY;go_wp2_with fail;go_ret;exact ⟨_,k,s2,j,rfl,.inr ⟨h0,sv,nm,rfl,rv.out⟩,bP.out,QqL HR.out hlt EF.out h0,Fw.out⟩
  ·have d1:decide (((j:Nat):Int)<((ul.length:Nat):Int))=false:=decide_eq_false (by omega);have ly:j=ul.length:=by omega
   subst ly;have c0:=cell_of_row _ _ 0 _ _ _ HST.out.blk;have rN:=aa (Oq s1 cS bo wr HST.out.ay rA.out (uY.out.mono (by omega) (by omega) (Nat.le_refl _)) (by decide) (by decide));have EG:bM s.ds (oN ul) 0 ul.length s1.ds:=by
    have:=HR.out;rwa [List.take_of_length_le (by simp [oN])] at this
   have vI:=aa EG;have M5:aI wr sb s1 cb tb nc nt (wI Dc ul) Dt:=by
    have:=HST.out;rwa [List.take_length] at this
   have UR:=aa M5;clear EG M5 HST HR;go_wp2_with fail;refine (rN.out).mono ?_;rintro _ w2 ⟨v,k,s2,rfl,hv,hg,hst⟩;dsimp only;have fg:=aa (UR.out.go hg);have bP:=aa (cQ.out.trans (ar.aZ (S:=fun k=>k=cb) hg));have dP:fK s1.ds (gv cS bo) k s2.ds:=hst;have EF:=aa dP;have UT:=aa (rA.out.st dP);have hb2:=hg.b;have HTN:=aa (show ∀ m,ul.length<=m->ul.take m=ul from fun m hm=>List.take_of_length_le hm);clear hg hst dP rN c0
   rcases hv with ⟨h0,rfl⟩|⟨h0,sv,nm,rfl,iY⟩
   ·have c2:=cell_of_row _ _ 0 _ _ _ fg.out.blk;have j1:=aa (Dx s2 w2 fg.out.ay UT.out (uY.out.mono (by omega) (by omega) (by show B+0<=B;omega)));have uy:=aa h0;clear h0;go_wp2_with fail
    first|(refine (j1.out).mono ?_)|(rw [hb2] at j1;refine (j1.out).mono ?_)
    rintro _ w8 ⟨v8,k8,s8,rfl,EC,jL,ru⟩;dsimp only;have H8:=aa (fg.out.go jL);have oH:=aa (bP.out.trans (ar.aZ jL));have MT:=aa EC;have Hl:=aa ru;clear EC jL ru j1;go_wp2_with fail;go_ret;have gL:fK s1.ds (gv cS bo) 0 s2.ds:=by rw [<- uy.out];exact EF.out
    refine ⟨_,k8,s8,ul.length+((if k8=0 then 1 else 0)+1),rfl,MT.out,oH.out,vI.out.app ⟨0,s2.ds,gL,.inr ⟨rfl,_,rfl,bM.one Hl.out⟩⟩,?_⟩;rw [HTN.out _ (Nat.le_add_right _ _)];exact H8.out
   ·have rv:=aa iY;clear iY;go_wp2_with fail;go_ret;refine ⟨_,k,s2,ul.length+0,rfl,.inr ⟨h0,sv,nm,rfl,rv.out⟩,bP.out,vI.out.app ⟨k,s2.ds,EF.out,.inl ⟨h0,rfl,rfl,rfl⟩⟩,?_⟩;rw [HTN.out _ (Nat.le_add_right _ _)];exact fg.out
open Go.RowKit
structure JS (D:DS) (l:List TE):Prop where
 rd:∃ t c,cr D bB=some t/\t.size<=2000/\kT t = .ok (l.map TE.en) c
 ok:∀ x∈l,x.Ok
 rise:lF l
 l8:l.length<=8
 p1:cr D (fk 1)=none
 pr:cr D cS=none
 lay:(cr D bK).isSome=true
theorem Qj6 (sb:Nat) (s:ai) (cb tb:Nat) (l:List TE) (w:World) {L C B:Nat} (h:aI w sb s cb tb 0 0 (.map []) (.map [])) (hq:JS s.ds l) (hf:au s.ds L C B) (hb:cZ (L+s.R.now.length+20) (C+s.R.now.length+20) (B+36)) (fJ:∀ e∈s.R.now,e.path.size<=9223372036854775807) :
  Calls Tryz.prog 94 #[.pointer (some ⟨sb,0,none⟩)] w fun e w'=>∃ ev k s',e = .returned ev/\bR w' ev k/\ar (fun k=>k=cb∨k=tb) s s' w w'/\vC s.ds k s'.ds/\∃ nc,nc<=1000000/\aI w' sb s' cb tb nc l.length (cD (eK s.R.now)) (tD l):=by
 obtain ⟨⟨t,c,eo,ht,hr⟩,aF,ba,h8,h1,h2,_⟩:=hq;have hn:s.R.now.length<=1000000:=by have:=hf.cz;have:=hb.1;exact Nat.le_trans hf.cz (by omega)
 have oP:=aa (A7 1 (by decide) w h.gl.tab);have jb:=aa (fun (W:World) (hg:aI W sb s cb tb 0 0 (.map []) (.map []))=>ve sb s (fk 1) W hg.on.sb hg.ay (Nat.le_trans (xt 1 (by decide)) (by decide)));have jM:=aa (fun (W:World) (hg:On W sb s)=>ve sb s cS W hg.sb hg.ay (by decide));rw [h1] at jb;rw [h2] at jM;dsimp only [Option.isSome] at jb jM;have zW:=aa (fun (W:World) (hg:aI W sb s cb tb 0 0 (.map []) (.map []))=>Qd sb s cb tb bB t c l W hg (by decide) eo ht hr aF ba h8 hn);have lp:=aa (fun (W:World) (hg:On W sb s)=>Nr sb s 141 eW W hg hf (hb.mono (by omega) (by omega) (by omega)) (enters_of Tryz.func141 (by kernel_rfl) rfl) fJ (fun p W=>(Qg p W).mono (by rintro _ _ ⟨rfl,h⟩;exact ⟨rfl,h⟩)));have H:=aa h;have HF:=aa hf;have HB:=aa hb;clear h hf hb fJ eo hr h1 h2 hn aF ba;go_enter Tryz.func94,Tryz.ntmps94;go_wp2_with fail;refine (oP.out).mono ?_;rintro _ w1 ⟨rfl,hb1⟩;dsimp only;have bT:=aa (ar.ae (S:=fun k=>k=cb∨k=tb) (s:=s) hb1);have ij:=aa (H.out.later hb1);clear hb1 oP;go_wp2_with fail;refine (jb.out _ ij.out).mono ?_;rintro _ w2 ⟨rfl,hg2⟩;dsimp only;have bP:=aa (bT.out.trans (ar.aZ hg2));have fg:=aa (ij.out.go hg2);clear hg2 bT ij jb;go_wp2_with fail;refine (zW.out _ fg.out).mono ?_;rintro _ w3 ⟨rfl,hg3,nc,iZ,hs3⟩;dsimp only;have gq:=aa (bP.out.trans hg3);have eT:=aa hs3;clear hg3 hs3 bP fg zW;go_wp2_with fail;refine (jM.out _ eT.out.on).mono ?_;rintro _ w4 ⟨rfl,hg4⟩;dsimp only;have jW:=aa (gq.out.trans (ar.aZ hg4));have gS:=aa (eT.out.go hg4);clear hg4 gq eT jM;go_wp2_with fail;refine (lp.out _ gS.out.on).mono ?_;rintro _ w5 ⟨ev,k1,m,s1,rfl,cj,dR,vr⟩;dsimp only;have gI:=aa (jW.out.trans (ar.aZ dR));have gP:=aa (gS.out.go dR);have mG:=aa vr;clear dR vr jW gS lp
 rcases cj with ⟨rfl,rfl⟩|⟨bu,sv,nm,rfl,dw⟩
 ·have c5:=cell_of_row _ _ 0 _ _ _ gP.out.blk;have oD:=DJ eW s.R.now;have j1:=aa (Dx s1 w5 gP.out.ay (HF.out.ran mG.out) (HB.out.mono (by omega) (by omega) (by have:=EE (M:=0) (nK eW s.R.now) (fun t ht=>by obtain ⟨x,_,rfl⟩:=List.mem_map.1 ht;exact Nat.le_refl _);omega)));go_wp2_with fail;refine (j1.out).mono ?_;rintro _ w6 ⟨v,k,s2,rfl,hv,bQ,hst⟩;dsimp only;have lG:=aa (gI.out.trans (ar.aZ bQ));have jR:=aa (gP.out.go bQ);have HV:=aa hv;have HST:=aa hst;clear bQ hv hst j1 c5;go_wp2_with fail;go_ret;exact ⟨_,k,s2,rfl,HV.out,lG.out,⟨0,m,s1.ds,mG.out,.inr ⟨rfl,HST.out⟩⟩,nc,iZ,jR.out⟩
 ·have gB:=aa dw;clear dw;go_wp2_with fail;go_ret;exact ⟨_,k1,s1,rfl,.inr ⟨bu,sv,nm,rfl,gB.out⟩,gI.out,⟨k1,m,s1.ds,mG.out,.inl ⟨bu,rfl,rfl⟩⟩,nc,iZ,gP.out⟩
theorem Qm2 (s:ai) (l:List TE) (w:World) {L C B:Nat} (h:s.In w) (cX:Gl w) (dI:fN s) (hf:au s.ds L C B) (hb:cZ (L+s.R.now.length+20) (C+s.R.now.length+20) (B+36)) (fJ:∀ e∈s.R.now,e.path.size<=9223372036854775807) (hq:JS s.ds l) :
  Calls Tryz.prog 50 #[.pointer (some ⟨s.b,0,none⟩)] w fun e w'=>∃ k s' sv ev,e = .returned (.tuple #[sv,ev])/\bR w' ev k/\aC s s' w w'/\vC s.ds k s'.ds /\
   (k=0->∃ sb cb tb,sv = .pointer (some ⟨sb,0,none⟩)/\(w.heap.size<=sb/\w.heap.size<=cb/\w.heap.size<=tb)/\aI w' sb s' cb tb (eK s.R.now).length l.length (cD (eK s.R.now)) (tD l))/\(k≠0->sv = .pointer none):=by
 obtain ⟨W,hW,hB,hsz,hcm,kz,hblk⟩:=PG w s.b;have tX:=fun w=>run_makeMap (P:=Tryz.prog) 156 w
 have tY:=fun w=>run_makeMap (P:=Tryz.prog) 157 w
 have hst:aI W (w.heap.size+1+1) s w.heap.size (w.heap.size+1) 0 0 (.map []) (.map []):=⟨h.later hB,cX.later hB,dI,hblk,hcm,kz,fun e=>by have:=h.lt e;omega,fun e=>by have:=h.lt e;omega,fun e=>by have:=cX.lt e;omega,fun e=>by have:=cX.lt e;omega,fun e=>by have:=cX.lt e;omega,by omega⟩;have HB:=aa hB;have HW:=aa hW;have wm:=aa (ve (w.heap.size+1+1) s bK W hst.on.sb hst.ay (by decide));rw [hq.lay] at wm;have Vk:=aa (fun (W':World) (hg:aC s s W W')=>Qj6 (w.heap.size+1+1) s w.heap.size (w.heap.size+1) l W' (hst.go hg) hq hf hb fJ);have e1:∀ (args:Array Value) (w:World),(callFunc 92 args).run Tryz.prog w = .ok (.enter 92 args) w:=enters_of Tryz.func92 (by kernel_rfl) rfl;have e2:∀ (args:Array Value) (w:World),(callFunc 94 args).run Tryz.prog w = .ok (.enter 94 args) w:=enters_of Tryz.func94 (by kernel_rfl) rfl;clear hst hB hcm kz hblk h cX dI hf hb fJ hW hq;go_enter Tryz.func50,Tryz.ntmps50;go_wp2_with fail;rw [<- HW.out];refine (wm.out).mono ?_;rintro _ w1 ⟨rfl,hg1⟩;dsimp only;have bT:=aa hg1;clear hg1 wm HW tX tY;go_wp2_with fail;refine (Vk.out _ bT.out).mono ?_;rintro _ w2 ⟨ev,k,s',rfl,cj,hg2,hr,nc,iZ,hs2⟩;dsimp only;have xe:aC s s' w w2:=by
  have g1:=((ar.ae (S:=fun k=>k=w.heap.size∨k=w.heap.size+1) (s:=s) HB.out).trans (ar.aZ bT.out)).trans hg2;refine ⟨g1.b,hs2.ay,g1.gr.mono (fun k hk hs=>?_),g1.own⟩
  rcases hs with hs|hs|hs
  ·exact hs
  ·omega
  ·omega
 have Ns:=aa xe;have HR:=aa hr;have fg:=aa (show aI w2 (w.heap.size+1+1) s' w.heap.size (w.heap.size+1) (eK s.R.now).length l.length (cD (eK s.R.now)) (tD l) from ⟨hs2.ay,hs2.gl,hs2.low,hs2.blk,PB hs2.cm,hs2.tm,hs2.sk,hs2.sq,hs2.rJ,hs2.vq,hs2.rK,hs2.ne⟩);clear hg2 hr hs2 xe
 rcases cj with ⟨rfl,rfl⟩|⟨bu,sv,nm,rfl,dw⟩
 ·go_wp2_with fail;refine bodyPost_ret (results_tmp2 rfl _ _ _) rfl ?_;exact ⟨0,s',_,_,rfl,.inl ⟨rfl,rfl⟩,Ns.out,HR.out,fun _=>⟨_,_,_,rfl,by omega,fg.out⟩,fun hk=>absurd rfl hk⟩
 ·have gB:=aa dw;clear dw;go_wp2_with fail;refine bodyPost_ret (results_tmp2 rfl _ _ _) rfl ?_;exact ⟨k,s',_,_,rfl,.inr ⟨bu,sv,nm,rfl,gB.out⟩,Ns.out,HR.out,fun hk=>absurd hk bu,fun _=>rfl⟩
theorem Qm3 (s:ai) (l:List TE) (w:World) (d:Nat) {L C B:Nat} (h:s.In w) (cX:Gl w) (dI:fN s) (hf:au s.ds L C B) (hb:cZ (L+s.R.now.length+20) (C+s.R.now.length+20) (B+36)) (fJ:∀ e∈s.R.now,e.path.size<=9223372036854775807) (hq:JS s.ds l) (jI:BD w d s.b) :
  Calls Tryz.prog 17 #[.pointer (some ⟨d,0,none⟩)] w fun e w'=>∃ k s' sv,e = .returned (.tuple #[sv,.int .i64 k])/\aC s s' w w'/\vC s.ds k s'.ds /\
   (k=0->∃ xb sb cb tb,sv = .pointer (some ⟨xb,0,none⟩)/\ej w' xb sb/\(w.heap.size<=sb/\w.heap.size<=cb/\w.heap.size<=tb)/\w.heap.size<=xb/\aI w' sb s' cb tb (eK s.R.now).length l.length (cD (eK s.R.now)) (tD l))/\(k≠0->sv = .pointer none) :=
 Ol (RO:=vC) s w d h cX dI (fun W hW=>Qm2 s l W (h.later hW) (cX.later hW) dI hf hb fJ hq) jI
open Go.RowKit
def Dp (ul:List DV):List bU:=gv bo cS::mQ ul
def PrR (s:ai) (sb cb tb nc:Nat) (Dc Dt:DataW Value) (nt:Nat) (ul:List DV) (w:World) (e:Ending) (w':World):Prop :=
 (ul = []/\e = .returned (.tuple #[.int .i64 0,.nilIface])/\Below w.heap.size w w') ∨
 (ul≠[]/\∃ ev k s' m z,e = .returned (.tuple #[.int .i64 z,ev])/\bR w' ev k/\(k=0->z=(ul.length:Int))/\ar (fun k=>k=cb) s s' w w'/\bM s.ds (Dp ul) k m s'.ds/\aI w' sb s' cb tb nc nt (wI Dc (ul.take (m - 1))) Dt)
theorem QoU (sb:Nat) (s:ai) (cb tb nc:Nat) (l:List TE) (cl:List (List Nat)) (dl:List DV) (w:World) {L C B:Nat} (h:aI w sb s cb tb nc l.length (cD cl) (tD l)) (qd:∀ t∈l,t.Ok) (aF:∀ d∈cl,gz d) (hr:aq DV.key dl) (bc:∀ x,x∈dl ↔ x.1∈cl) (hsz:cl.length<=100000000) (xC:dl.length<=100000000) (hf:au s.ds L C B) (hb:cZ (L+dl.length+20) (C+dl.length+20) B) :
  Calls Tryz.prog 77 #[.pointer (some ⟨sb,0,none⟩)] w (PrR s sb cb tb nc (cD cl) (tD l) l.length (dp l dl) w):=by
 have HU:=aa (QfP sb s cb tb nc l cl dl w h qd aF hr bc hsz xC);have JM:(dp l dl).length<=dl.length:=List.length_filter_le _ _;generalize dp l dl=ul at HU JM ⊢;have H:=aa h;have HF:=aa hf;have uY:=aa hb;clear h qd aF hr bc hf hb;go_enter Tryz.func77,Tryz.ntmps77;go_wp2_with fail;refine (HU.out).mono ?_;rintro _ w1 ⟨v,rfl,hrow,hb1⟩;dsimp only;obtain ⟨so,sc,rfl⟩:=jG hrow;have aA:=aa hrow;have br:=aa hb1;have H1:=aa (H.out.later hb1);clear hrow hb1 HU
 by_cases CW:ul.length=0
 ·have hn:ul = []:=List.length_eq_zero_iff.1 CW;subst hn;go_wp2_with fail;refine bodyPost_ret (results_tmp2 rfl _ _ _) rfl ?_;exact .inl ⟨rfl,rfl,br.out⟩
 ·have hz:(((ul.length:Nat):Int) == 0)=false:=by simpa using CW
  have hz2:¬ ((ul.length:Nat):Int)=0:=by omega
  have c0:=cell_of_row _ _ 0 _ _ _ H1.out.blk;have rN:=aa (Oq s bo cS w1 H1.out.ay HF.out (uY.out.mono (by omega) (by omega) (Nat.le_refl _)) (by decide) (by decide));go_wp2_with fail;refine (rN.out).mono ?_;rintro _ w2 ⟨v,k,s2,rfl,hv,hg,hst⟩;dsimp only;have fg:=aa (H1.out.go hg);have bP:=aa ((ar.ae br.out).trans (ar.aZ (S:=fun k=>k=cb) hg));have dP:fK s.ds (gv bo cS) k s2.ds:=hst;have EF:=aa dP;have UT:=aa (HF.out.st dP);have hrow2:w2.ownsRow w.heap.size 117 32 (.slice so ul.length sc) ul.length (ul.flatMap DV.enc):=jQ aA.out (fun q hk _=>by
   obtain ⟨c,hc⟩:=eO aA.out q hk;exact hg.gr.block q (ax hc) (fun e=>by have:=H.out.ay.lt e;have:=su aA.out q hk;omega))
  have hown2:∀ q,(Value.slice so ul.length sc).ownBlock=some q->¬ (s2.own q∨q=cb):=fun q hq e=>by
   obtain ⟨c,hc⟩:=eO aA.out q hq;have h1:=su aA.out q hq;have h2:=ax hc
   rcases e with e|e
   ·rcases hg.own q e with e|e
    ·have:=H.out.ay.lt e;omega
    ·omega
   ·have:=H.out.cm.lt;omega
  clear hst dP rN c0
  rcases hv with ⟨h0,rfl⟩|⟨h0,sv,nm,rfl,iY⟩
  ·have M6:=aa (QfO sb s2 cb tb nc l.length (cD cl) (tD l) w.heap.size so sc ul w2 fg.out hown2 hrow2 (by omega) UT.out (uY.out.mono (by omega) (by omega) (by show B+0<=B;omega)));have uy:=aa h0;clear h0 hrow2 hown2 hg;go_wp2_with fail;refine (M6.out).mono ?_;rintro _ w8 ⟨v8,k8,s8,m8,rfl,EC,jL,wZ,ru⟩;dsimp only;have MT:=aa EC;have oH:=aa (bP.out.trans jL);have FP:=aa wZ;have Hl:=aa ru;clear EC jL wZ ru M6;go_wp2_with fail;refine bodyPost_ret (results_tmp2 rfl _ _ _) rfl ?_;have gL:fK s.ds (gv bo cS) 0 s2.ds:=by rw [<- uy.out];exact EF.out
   exact .inr ⟨fun e=>CW (by rw [e];rfl),_,k8,s8,m8+1,_,rfl,MT.out,fun _=>rfl,oH.out,⟨0,s2.ds,gL,.inr ⟨rfl,m8,rfl,FP.out⟩⟩,Hl.out⟩
  ·have rv:=aa iY;clear iY;go_wp2_with fail;refine bodyPost_ret (results_tmp2 rfl _ _ _) rfl ?_;exact .inr ⟨fun e=>CW (by rw [e];rfl),_,k,s2,0,_,rfl,.inr ⟨h0,sv,nm,rfl,rv.out⟩,fun e=>absurd e h0,bP.out,⟨k,s2.ds,EF.out,.inl ⟨h0,rfl,rfl,rfl⟩⟩,fg.out⟩
end Go.Proofs.YtncigfibncmioaaGreatDoor
namespace Go.Proofs.YtncigfibncmioaaGreatDoor
open Go.RowKit
theorem QqN {D D':DS} {F:List FF} {r:Int} {B:Nat} {k:Int} {m:Nat} {x:FF} (h:dY D F r B) (hx:x∈F) (hp:aK x.p=true) (hr:bM D [fM x.p,gQ] k m D'):k=0/\m=2/\dY D' (aB FF.p x.p F) r B:=by
 obtain ⟨E,m1,hE,rfl,hr1⟩:=hr.step2 (fun X=>Wh X (aB FF.p x.p F) r B) (fun k1 X hs=>h.wh.rm hs hp hx);obtain ⟨G,m2,hG,rfl,hr2⟩:=hr1.step2 (fun X=>Wh X (aB FF.p x.p F) r B/\X.R.safe=X.R.now/\X.R.aw = []) (fun k1 X hs=>hE.sd hs);obtain ⟨rfl,rfl,rfl⟩:=hr2;exact ⟨rfl,rfl,hG.1,hG.2.1,hG.2.2,fun y hy=>h.vh y (jA.1 hy).1⟩
def xl (ul:List DV) (F:List FF):List FF:=ul.foldl (fun F d=>aB FF.p (bW d.1) F) F
theorem Pw:∀ (ul:List DV) {F:List FF},aq FF.p F->aq FF.p (xl ul F)
 | [],_,h=>h
 | d::ul,_,h=>Pw ul (iT (bW d.1) h)
theorem GX:∀ (ul:List DV) {F:List FF} {x:FF},x∈xl ul F ↔ x∈F/\∀ d∈ul,x.p≠bW d.1
 | [],_,_=>by simp [xl]
 | d::ul,F,x=>by
  show x∈xl ul (aB FF.p (bW d.1) F) ↔ _;rw [GX ul,jA]
  constructor
  ·rintro ⟨⟨h1,h2⟩,h3⟩;exact ⟨h1,fun e he=>by
    rcases List.mem_cons.1 he with rfl|he
    ·exact h2
    ·exact h3 e he⟩
  ·rintro ⟨h1,h2⟩;exact ⟨⟨h1,h2 d (by simp)⟩,fun e he=>h2 e (by simp [he])⟩
theorem QoV:∀ (ul:List DV) (rest:List bU) {D D':DS} {F:List FF} {r:Int} {B:Nat} {k:Int} {m:Nat},Wh D F r B->ul.Nodup->(∀ d∈ul,∃ x∈F,x.p=bW d.1)->bM D (oN ul++rest) k m D'->∃ D1 m',Wh D1 (xl ul F) r B/\m=ul.length+m'/\bM D1 rest k m' D'
 | [],rest,D,D',F,r,B,k,m,h,_,_,hr=>⟨D,m,h,by simp,hr⟩
 | d::ul,rest,D,D',F,r,B,k,m,h,hn,cJ,hr=>by
  obtain ⟨x,hx,hp⟩:=cJ d (by simp);obtain ⟨n1,n2⟩:=List.nodup_cons.1 hn;obtain ⟨E,m1,hE,rfl,hr1⟩:=bM.step2 (fun X=>Wh X (aB FF.p (bW d.1) F) r B) hr (fun k1 X hs=>by
   have:=h.rm (x:=x) (by rw [hp];exact hs) (by rw [hp];exact yl _) hx;rwa [hp] at this)
  obtain ⟨D1,m',h1,rfl,h3⟩:=QoV ul rest hE n2 (fun e he=>by
   obtain ⟨y,hy,hq⟩:=cJ e (by simp [he]);exact ⟨y,jA.2 ⟨hy,fun h4=>n1 (by
    have:e=d:=Subtype.ext (Pt e.2 d.2 (hq.symm.trans h4));rw [<- this];exact he)⟩,hq⟩) hr1
  exact ⟨D1,m',h1,by simp only [List.length_cons];omega,h3⟩
theorem QmZ {D D':DS} {F:List FF} {r:Int} {B:Nat} {k:Int} {m:Nat} {t:ByteArray} {y:Int} {ul:List DV} (h:dY D F r B) (hj:(⟨bo,t,y⟩ : FF)∈F) (Oh:aQ FF.p cS F=none) (hn:ul.Nodup) (cJ:∀ d∈ul,∃ x∈F,x.p=bW d.1) (hr:bM D (Dp ul) k m D') :
  k=0/\m=ul.length+3/\dY D' (xl ul F) r B:=by
 have Hu:aK bo=true:=by decide
 have dV:aK cS=true:=by decide
 have hne:bo≠cS:=by decide
 have P8:∀ d:DV,bo≠bW d.1:=fun d=>Ne.symm (pg (KT d.1))
 have zb:∀ d:DV,cS≠bW d.1:=fun d=>Ne.symm (pg (by rw [gX,DG];rfl))
 have lq:=h.wh.ei;obtain ⟨E,m1,hE,rfl,hr1⟩:=bM.step2 (fun X=>Wh X (ag FF.p ⟨cS,t,y⟩ (aB FF.p bo F)) r B) hr (fun k1 X hs=>h.wh.rn hs Hu dV hne hj);have r1:=eA (key:=FF.p) ⟨cS,t,y⟩ (iT bo lq);obtain ⟨G,m2,hG,rfl,hr2⟩:=QoV ul [gv cS bo,gQ] hE hn (fun d hd=>by
  obtain ⟨x,hx,hp⟩:=cJ d hd;exact ⟨x,CY (iT _ lq) (U2 hx (by rw [hp];exact Ne.symm (P8 d))) (by rw [hp];exact Ne.symm (zb d)),hp⟩) hr1
 have Jm:(⟨cS,t,y⟩ : FF)∈xl ul (ag FF.p ⟨cS,t,y⟩ (aB FF.p bo F)):=(GX ul).2 ⟨ot (iT _ lq) _,fun d _=>zb d⟩;obtain ⟨I,m3,hI,rfl,hr3⟩:=hr2.step2 (fun X=>Wh X (ag FF.p ⟨bo,t,y⟩ (aB FF.p cS (xl ul (ag FF.p ⟨cS,t,y⟩ (aB FF.p bo F))))) r B) (fun k1 X hs=>hG.rn hs dV Hu (Ne.symm hne) Jm);have he:ag FF.p ⟨bo,t,y⟩ (aB FF.p cS (xl ul (ag FF.p ⟨cS,t,y⟩ (aB FF.p bo F))))=xl ul F:=by
  have r2:=Pw ul r1;refine TZ (eA _ (iT _ r2)) (Pw ul lq) (fun x=>?_);rw [Ek (fun a ha e=>?_) (iT _ r2),jA,GX,GX,Ek (fun a ha e=>?_) (iT _ lq),jA]
  ·constructor
   ·rintro (rfl|⟨⟨h1|h1,h2⟩,h3⟩)
    ·exact ⟨hj,fun d _=>P8 d⟩
    ·rw [h1] at h3;exact absurd rfl h3
    ·exact ⟨h1.1,h2⟩
   ·rintro ⟨h1,h2⟩
    by_cases hxj:x.p=bo
    ·left
     exact Eu lq h1 hj hxj
    ·right
     refine ⟨⟨.inr ⟨h1,hxj⟩,h2⟩,fun pK=>?_⟩;exact tL Oh x h1 pK
  ·exact absurd e (tL Oh a (jA.1 ha).1)
  ·have h1:=((GX ul).1 (jA.1 ha).1).1
   rcases ln h1 with h2|h2
   ·rw [h2] at e;exact absurd e.symm hne
   ·exact absurd e (jA.1 h2).2
 rw [he] at hI;obtain ⟨K,m4,hK,rfl,hr4⟩:=hr3.step2 (fun X=>Wh X (xl ul F) r B/\X.R.safe=X.R.now/\X.R.aw = []) (fun k1 X hs=>hI.sd hs);obtain ⟨rfl,rfl,rfl⟩:=hr4;exact ⟨rfl,by omega,hK.1,hK.2.1,hK.2.2,fun z hz=>h.vh z ((GX ul).1 hz).1⟩
def Cx (fl:List (ByteArray × ByteArray)) (F:List FF):List FF:=fl.foldl (fun F f=>ag FF.p (ff f.1 f.2) F) F
def gD (fl:List (ByteArray × ByteArray)):Nat:=(fl.map fun f=>f.2.size).sum
theorem Px {D D':DS} {F:List FF} {r:Int} {B:Nat} {k:Int} {fl:List (ByteArray × ByteArray)} (h:dY D F r B) (h0:aQ FF.p p0 F=none) (h1:aQ FF.p p1 F=none) (gZ:fl.length<=2) (aF:∀ f∈fl,aK f.1=true/\p0≠f.1/\p1≠f.1/\f.2.size<=B) (hw:gK D fl k D') :
  (k=0/\dY D' (Cx fl F) r B/\(fl≠[]->(dZ F:Int)+(gD fl:Int)<=r))∨(fl≠[]/\r<(dZ F:Int)+(gD fl:Int)/\k=4/\dY D' F r B):=by
 unfold gK at hw
 match fl,gZ,aF,hw with
 | [],_,_,hw =>
  rw [if_pos rfl] at hw;obtain ⟨rfl,rfl⟩:=hw;exact .inl ⟨rfl,h,fun h=>absurd rfl h⟩
 | [(c,b)],_,aF,hw =>
  rw [if_neg (by simp)] at hw;obtain ⟨a1,a2,a3,a4⟩:=aF (c,b) (by simp);have e:gD [(c,b)]=b.size:=by simp [gD]
  rw [e]
  rcases QuM h h0 a1 a2 a4 hw with ⟨x1,x2,x3⟩|⟨x1,x2,x3⟩
  ·exact .inl ⟨x2,x3,fun _=>x1⟩
  ·exact .inr ⟨by simp,x1,x2,x3⟩
 | [(c,b),(q,X)],_,aF,hw =>
  rw [if_neg (by simp)] at hw;obtain ⟨a1,a2,a3,a4⟩:=aF (c,b) (by simp);obtain ⟨b1,b2,b3,b4⟩:=aF (q,X) (by simp);have e:gD [(c,b),(q,X)]=b.size+X.size:=by simp [gD]
  rw [e]
  rcases QuN h h0 h1 a1 b1 a2 a3 b2 b3 a4 b4 hw with ⟨x1,x2,x3⟩|⟨x1,x2,x3⟩
  ·have x4:(dZ F:Int)+(b.size:Int)+(X.size:Int)<=r:=x1;exact .inl ⟨x2,x3,fun _=>by rw [Int.natCast_add];omega⟩
  ·have x4:r<(dZ F:Int)+(b.size:Int)+(X.size:Int):=x1;exact .inr ⟨by simp,by rw [Int.natCast_add];omega,x2,x3⟩
 | _::_::_::_,gZ,_,_=>simp at gZ
end Go.Proofs.YtncigfibncmioaaGreatDoor
namespace Go.Proofs.YtncigfibncmioaaGreatDoor
open Go.RowKit Go.MuLone
theorem Xh (xb sb:Nat) (s:ai) (cb tb nc:Nat) (Dc:DataW Value) (l:List TE) (text:ByteArray) (w:World) (hx:ej w xb sb) (hG:¬ gj xb) (h:aI w sb s cb tb nc l.length Dc (tD l)) {L C B:Nat} (aF:∀ t∈l,t.Ok) (hu:xE Dc) (dH:fE text=true) (hh:Maps.has Dc (dy (rd text))=true) (bF:bD (rd text) l=false) (hf:au s.ds L C B) (hb:cZ (L+10) (C+10) B) :
  Calls Tryz.prog 39 #[.pointer (some ⟨xb,0,none⟩),.string text] w fun e w'=>∃ k s' m,e = .returned (.int .i64 k)/\ar (sS xb sb cb) s s' w w'/\ej w' xb sb/\bM s.ds [fM (bW (rd text)),gQ] k m s'.ds/\((m=0/\k≠0/\aI w' sb s' cb tb nc l.length Dc (tD l))∨(0<m/\aI w' sb s' cb tb nc l.length (Dc.del (dy (rd text))) (tD l))):=by
 have hx:dx w xb sb 0:=hx;have c0:w.cell? ⟨xb,0,none⟩=some (.int .i32 0):=cell_of_row _ _ 0 _ _ _ hx;have f0:w.frozen? ⟨xb,0,none⟩=false:=frozen_of_row _ _ 0 _ _ hx;obtain ⟨W,hW⟩ : ∃ W,W=w.setCell ⟨xb,0,none⟩ (.int .i32 1):=⟨_,rfl⟩;have hst:aI W sb s cb tb nc l.length Dc (tD l):=by rw [hW];exact h.lock hx hG
 have bV:dx W xb sb 1:=by rw [hW];exact hx.set 1
 have hfw:ar (sS xb sb cb) s s w W:=by rw [hW];exact ar.lock
 have nC:=aa (Kf xb sb s cb tb nc l.length Dc (tD l) text 1 W bV hst hu dH hh);have iJ:=aa (fun W' (hb':Below W.heap.size W W')=>Og sb s cb tb nc Dc l (rd text) W' (hst.later hb') aF (jm text) (sA text));rw [bF] at iJ;have j5:=aa (fun W' (hb':Below W.heap.size W W')=>QmV sb s cb tb nc l.length Dc (tD l) (rd text) W' (hst.later hb') (jm text) (sA text) hf hb);have aJ:=jm text;have hlt:=sA text;generalize rd text=ds at *;have di:=aa (lock_free Tryz.aX ⟨xb,0,none⟩ w c0 f0);have HW:=aa hW;have HST:=aa hst;have eD:=aa bV;have fW:=aa hfw;have c2:W.cell? ⟨xb,2,none⟩=some (.pointer (some ⟨sb,0,none⟩)):=cell_of_row _ _ 2 _ _ _ bV;clear hx c0 f0 hst bV hfw hW h hu dH hh aF bF hf hb
 go_enter_defers Tryz.func39,Tryz.ntmps39
 go_wp2_with fail;refine (di.out).mono ?_;rintro _ W1 ⟨rfl,hW1⟩;have hW1:W1=W:=hW1.trans HW.out.symm;rw [hW1];dsimp only;clear hW1 di HW;go_wp2_with fail;refine (nC.out).mono ?_;rintro _ w3 ⟨rfl,hb3⟩;dsimp only;obtain ⟨X,hX⟩ : ∃ X,X=w3.alloc (.cells (ah ds) 117):=⟨_,rfl⟩;have jH:Below w3.heap.size w3 X:=by rw [hX];exact (Below.refl _ _).alloc (Nat.le_refl _) _
 have iC:X.heap[w3.heap.size]? = some (.cells (ah ds) 117 (0,0)):=by rw [hX];exact heap_alloc_new _ _
 have hb4:Below W.heap.size W X:=hb3.trans (jH.mono hb3.size);have c3:=cell_later hb4 c2;have fF:=aa (eD.out.later hb4);have iW:=aa (fW.out.trans (ar.ae hb4));have eT:=aa (HST.out.later hb4);have e8:=aa iC;have oU:=aa hX;have xF:=aa hb3.size;clear hX jH iC hb3;go_wp2_with (first|(refine wpList_store_row rfl 117 _ _ rfl w3.heap.size (ah ds) rfl rfl 117 _ (heap_alloc_new _ _) (bL _ aJ) (by first|rfl|(rw [aY,aJ];rfl)|(rw [aY,aY,aJ];rfl)) (dQ _) ?_;rw [World.setRow_alloc_new,<- oU.out])|(refine wpList_load_row rfl 117 _ rfl w3.heap.size rfl 117 _ _ _ e8.out Tryz.underlying117 rfl (bL _ aJ) ?_));have hdr:Below X.heap.size X X.drew:=(Below.refl _ _).drew;have cT:=(hdr.block _ (ax e8.out)).trans e8.out;obtain ⟨yb,lK⟩ : ∃ yb,yb=w3.heap.size:=⟨_,rfl⟩;rw [<- lK] at e8 cT ⊢;have bA:X.drew.cell? ⟨xb,2,none⟩=some (.pointer (some ⟨sb,0,none⟩))/\X.drew.rangeAt yb 0 (ah ds).toList:=⟨cell_later hdr c3,eF cT⟩;have u72:=Tryz.underlying117;have i72:=jl ds aJ;have xG:=hb4.trans (hdr.mono hb4.size);have Oe:=aa lK;clear lK
 go_region_held3 (fun w'=>w'.cell? ⟨xb,2,none⟩=some (.pointer (some ⟨sb,0,none⟩))/\w'.rangeAt yb 0 (ah ds).toList) (first|exact bA|exact hS1|go_keep) ((first|(go_at_call 75;refine (iJ.out _ xG).mono ?_;rintro _ w5 ⟨rfl,bI⟩;have hS1:w5.cell? ⟨xb,2,none⟩=some (.pointer (some ⟨sb,0,none⟩))/\w5.rangeAt yb 0 (ah ds).toList:=⟨cell_later bI (cell_later hdr c3),eF ((bI.block _ (ax cT)).trans cT)⟩)))
 have lL:Below X.heap.size X w5:=hdr.trans bI;have qb:=aa ((bI.block _ (ax cT)).trans cT);have ey:=aa (fF.out.later lL);have pP:=aa (iW.out.trans (ar.ae lL));have gP:=aa (eT.out.later lL);have oV:=aa (hb4.trans (lL.mono hb4.size));clear bA hS1 bI lL hb4 xG hdr cT u72 i72 iJ nC c2 c3;have c5:w5.cell? ⟨xb,2,none⟩=some (.pointer (some ⟨sb,0,none⟩)):=cell_of_row _ _ 2 _ _ _ ey.out;go_wp2_with fail;have hdr:Below w5.heap.size w5 w5.drew:=(Below.refl _ _).drew;have cT:=(hdr.block _ (ax qb.out)).trans qb.out;have Bj:W.heap.size<=yb:=by rw [Oe.out];exact xF.out
 have bA:w5.drew.cell? ⟨xb,2,none⟩=some (.pointer (some ⟨sb,0,none⟩))/\w5.drew.rangeAt yb 0 (ah ds).toList:=⟨cell_later hdr c5,eF cT⟩;have u72:=Tryz.underlying117;have i72:=jl ds aJ;have xH:=oV.out.trans (hdr.mono oV.out.size);have Kg:=aa (ey.out.later hdr);have jR:=aa (gP.out.later hdr);have vt:=aa (pP.out.trans (ar.ae hdr));have qc:¬ (s.own yb∨yb=cb):=fun e=>by
  rcases e with e|e
  ·have:=HST.out.ay.lt e;omega
  ·have:=HST.out.cm.lt;omega
 go_region_held3 (fun w'=>w'.cell? ⟨xb,2,none⟩=some (.pointer (some ⟨sb,0,none⟩))/\w'.rangeAt yb 0 (ah ds).toList) (first|exact bA|exact hS1|exact ie|go_keep) ((first|(go_at_call 76;refine (j5.out _ xH).mono ?_;rintro _ w4 ⟨ev,k,s',m,rfl,cj,cP,hwr,oW⟩;have xI:=Kg.out.Bh jR.out cP (fun k hk=>.inr hk);have kH:=(cP.gr.block _ (ax cT) qc).trans cT;have hS1:w4.cell? ⟨xb,2,none⟩=some (.pointer (some ⟨sb,0,none⟩))/\w4.rangeAt yb 0 (ah ds).toList:=⟨cell_of_row _ _ 2 _ _ _ xI,eF kH⟩;have hg4:Gl w4:=oW.elim (fun h=>h.2.2.gl) (fun h=>h.2.gl))|(go_at_call 51;refine (IW cj hg4.err).mono ?_;rintro _ w8 ⟨rfl,gR⟩;have ie:w8.cell? ⟨xb,2,none⟩=some (.pointer (some ⟨sb,0,none⟩))/\w8.rangeAt yb 0 (ah ds).toList:=⟨cell_later gR hS1.1,eF ((gR.block _ (ax kH)).trans kH)⟩)))
 have xJ:=aa (xI.later gR);have Ra:=aa ((vt.out.trans (cP.st (xb:=xb) (cb:=cb) (fun k hk=>.inr hk))).trans (ar.ae gR));have Bk:=aa gR;have iK:=aa hwr;have Bn:=aa oW;clear bA hS1 ie xI kH gR cj cP hwr oW hg4 xH hdr cT u72 i72 j5 c5;go_wp2_with fail;refine leaves_cons (f:=58) (args:=#[.pointer (some ⟨xb,0,none⟩)]) (by simp) (by simp [go_sem]) ?_;refine (unlock_deferred Tryz.aX ⟨xb,0,none⟩ .returning _ (cell_of_row _ _ 0 _ _ _ xJ.out) (frozen_of_row _ _ 0 _ _ xJ.out)).mono ?_;rintro e u' w6 ⟨rfl,rfl,rfl⟩;exact ⟨_,results_tmp rfl _ _ _,k,s',m,rfl,Ra.out.trans ar.lock,xJ.out.set 0,iK.out,Bn.out.imp (fun h=>⟨h.1,h.2.1,(h.2.2.later Bk.out).lock xJ.out hG⟩) (fun h=>⟨h.1,(h.2.later Bk.out).lock xJ.out hG⟩)⟩
open Go.RowKit Go.MuLone
theorem Xl (xb sb:Nat) (s:ai) (cb tb nc:Nat) (l:List TE) (cl:List (List Nat)) (dl:List DV) (w:World) (hx:ej w xb sb) (hG:¬ gj xb) (h:aI w sb s cb tb nc l.length (cD cl) (tD l)) {L C B:Nat} (qd:∀ t∈l,t.Ok) (aF:∀ d∈cl,gz d) (hr:aq DV.key dl) (bc:∀ x,x∈dl ↔ x.1∈cl) (hsz:cl.length<=100000000) (xC:dl.length<=100000000) (hf:au s.ds L C B) (hb:cZ (L+dl.length+20) (C+dl.length+20) B) :
  Calls Tryz.prog 40 #[.pointer (some ⟨xb,0,none⟩)] w fun e w'=>∃ k s',e = .returned (.tuple #[.int .i64 (if k=0 then ((dp l dl).length:Int) else 0),.int .i64 k])/\ar (sS xb sb cb) s s' w w'/\ej w' xb sb /\
   ((dp l dl = []/\k=0/\s'=s/\aI w' sb s cb tb nc l.length (cD cl) (tD l))∨(dp l dl≠[]/\∃ m,bM s.ds (Dp (dp l dl)) k m s'.ds/\aI w' sb s' cb tb nc l.length (wI (cD cl) ((dp l dl).take (m - 1))) (tD l))):=by
 have hx:dx w xb sb 0:=hx;have c0:w.cell? ⟨xb,0,none⟩=some (.int .i32 0):=cell_of_row _ _ 0 _ _ _ hx;have f0:w.frozen? ⟨xb,0,none⟩=false:=frozen_of_row _ _ 0 _ _ hx;obtain ⟨W,hW⟩ : ∃ W,W=w.setCell ⟨xb,0,none⟩ (.int .i32 1):=⟨_,rfl⟩;have hst:aI W sb s cb tb nc l.length (cD cl) (tD l):=by rw [hW];exact h.lock hx hG
 have bV:dx W xb sb 1:=by rw [hW];exact hx.set 1
 have hfw:ar (sS xb sb cb) s s w W:=by rw [hW];exact ar.lock
 have j5:=aa (QoU sb s cb tb nc l cl dl W hst qd aF hr bc hsz xC hf hb);generalize dp l dl=ul at j5 ⊢;have di:=aa (lock_free Tryz.aX ⟨xb,0,none⟩ w c0 f0);have HW:=aa hW;have HST:=aa hst;have eD:=aa bV;have fW:=aa hfw;have c2:W.cell? ⟨xb,2,none⟩=some (.pointer (some ⟨sb,0,none⟩)):=cell_of_row _ _ 2 _ _ _ bV;clear hx c0 f0 hst bV hfw hW h qd aF hr bc hf hb
 go_enter_defers Tryz.func40,Tryz.ntmps40
 go_wp2_with fail;refine (di.out).mono ?_;rintro _ W1 ⟨rfl,hW1⟩;have hW1:W1=W:=hW1.trans HW.out.symm;rw [hW1];dsimp only;clear hW1 di HW;go_wp2_with fail;refine (j5.out).mono ?_;rintro e w4 Oh
 rcases Oh with ⟨hn,rfl,hb4⟩|⟨hn,ev,k,s',m,z,rfl,cj,hz,cP,oX,E7⟩
 ·dsimp only;have lM:=aa (eD.out.later hb4);have jS:=aa (fW.out.trans (ar.ae hb4));have gS:=aa (HST.out.later hb4);have xL:=aa hn;clear hb4 j5 hn c2;go_wp2_with fail;refine leaves_cons (f:=58) (args:=#[.pointer (some ⟨xb,0,none⟩)]) (by simp) (by simp [go_sem]) ?_;refine (unlock_deferred Tryz.aX ⟨xb,0,none⟩ .returning _ (cell_of_row _ _ 0 _ _ _ lM.out) (frozen_of_row _ _ 0 _ _ lM.out)).mono ?_;rintro e u' w6 ⟨rfl,rfl,rfl⟩;exact ⟨_,results_tmp2 rfl _ _ _,0,s,by rw [xL.out];rfl,jS.out.trans ar.lock,lM.out.set 0,.inl ⟨xL.out,rfl,rfl,gS.out.lock lM.out hG⟩⟩
 ·dsimp only;have lM:=aa (eD.out.Bh HST.out cP (fun k hk=>.inr hk));have jS:=aa (fW.out.trans (cP.st (xb:=xb) (cb:=cb) (fun k hk=>.inr hk)));have gS:=aa E7;have rN:=aa oX;have HZ:=aa hz;have xL:=aa hn;have hg4:=E7.gl;clear cP E7 oX hz hn j5 c2
  rcases cj with ⟨rfl,rfl⟩|⟨bu,sv,nm,rfl,iY⟩
  ·clear hg4;go_wp2_with fail;refine leaves_cons (f:=58) (args:=#[.pointer (some ⟨xb,0,none⟩)]) (by simp) (by simp [go_sem]) ?_;refine (unlock_deferred Tryz.aX ⟨xb,0,none⟩ .returning _ (cell_of_row _ _ 0 _ _ _ lM.out) (frozen_of_row _ _ 0 _ _ lM.out)).mono ?_;rintro e u' w6 ⟨rfl,rfl,rfl⟩;exact ⟨_,results_tmp2 rfl _ _ _,0,by rw [HZ.out trivial];rfl,s',jS.out.trans ar.lock,lM.out.set 0,.inr ⟨xL.out,m,rN.out,gS.out.lock lM.out hG⟩⟩
  ·have wJ:=aa (IW (.inr ⟨bu,sv,nm,rfl,iY⟩) hg4.err);have uy:=aa bu;clear iY hg4 bu;go_wp2_with fail;refine (wJ.out).mono ?_;rintro _ w5 ⟨rfl,bI⟩;dsimp only;have ey:=aa (lM.out.later bI);have pP:=aa (jS.out.trans (ar.ae bI));have gP:=aa (gS.out.later bI);clear bI wJ lM jS gS;go_wp2_with fail;refine leaves_cons (f:=58) (args:=#[.pointer (some ⟨xb,0,none⟩)]) (by simp) (by simp [go_sem]) ?_;refine (unlock_deferred Tryz.aX ⟨xb,0,none⟩ .returning _ (cell_of_row _ _ 0 _ _ _ ey.out) (frozen_of_row _ _ 0 _ _ ey.out)).mono ?_;rintro e u' w6 ⟨rfl,rfl,rfl⟩;exact ⟨_,results_tmp2 rfl _ _ _,k,s',by rw [if_neg uy.out];rfl,pP.out.trans ar.lock,ey.out.set 0,.inr ⟨xL.out,m,rN.out,gP.out.lock ey.out hG⟩⟩
end Go.Proofs.YtncigfibncmioaaGreatDoor
namespace Go.Proofs.YtncigfibncmioaaGreatDoor
open Go.RowKit
theorem jN (b:ByteArray):gz (ak b):=⟨E8 b,Dr b⟩
def kC (b:ByteArray):ByteArray:=bW (ak b)
structure aN where
 cs:List ByteArray
 tg:List TE
def fC (b:ByteArray):FF:=ff (kC b) b
def oL (l:List TE):List FF:=[ff bB (aL l),ff bo ⟨#[]⟩,ff bK pX]
def fA (A:aN):List FF:=A.cs.map fC++oL A.tg
def dD (A:aN):Nat:=dZ (fA A)
structure aG (A:aN):Prop where
 rise:aq kC A.cs
 sz:∀ b∈A.cs,b.size<=300
 tr:lF A.tg
 tok:∀ t∈A.tg,t.Ok
 t8:A.tg.length<=8
 Cw:∀ t∈A.tg,∃ b∈A.cs,t.d=ak b/\t.z=(b.size:Int)
 tS:∀ t∈A.tg,eP t.n=true
theorem TX (b:ByteArray):kC b≠bB:=pg (OH _)
theorem Pr (b:ByteArray):kC b≠bo:=pg (KT _)
theorem QjI (b:ByteArray):kC b≠bK:=pg (OI _)
theorem TY (b:ByteArray):kC b≠cS:=pg (by unfold kC;rw [gX,DG];rfl)
theorem Mn (b:ByteArray):p0≠kC b:=pg (by unfold kC;rw [gX,DG];rfl)
theorem Ps (b:ByteArray):p1≠kC b:=pg (by unfold kC;rw [gX,DG];rfl)
theorem Mj {a b:ByteArray} (h:kC a=kC b):ak a=ak b:=Pt (jN a) (jN b) h
theorem QmP (l:List TE):aq FF.p (oL l):=by
 have h1:bJ bB bo=true:=by rw [gX];rfl
 have h2:bJ bB bK=true:=by rw [gX];rfl
 have h3:bJ bo bK=true:=by rw [gX];rfl
 unfold oL aq;refine List.pairwise_cons.2 ⟨fun x hx=>?_,List.pairwise_cons.2 ⟨fun x hx=>?_,List.pairwise_cons.2 ⟨fun x hx=>(by cases hx),List.Pairwise.nil⟩⟩⟩
 ·simp only [List.mem_cons,List.not_mem_nil,or_false] at hx
  rcases hx with rfl|rfl
  ·exact h1
  ·exact h2
 ·simp only [List.mem_cons,List.not_mem_nil,or_false] at hx;subst hx;exact h3
theorem xg {l:List TE} {x:FF} (h:x∈oL l):x=ff bB (aL l)∨x=ff bo ⟨#[]⟩∨x=ff bK pX:=by
 simpa [oL] using h
theorem pG {A:aN} (h:aq kC A.cs):aq FF.p (fA A):=by
 unfold fA aq;rw [List.pairwise_append];refine ⟨?_,QmP _,fun x hx y hy=>?_⟩
 ·rw [List.pairwise_map];exact h
 ·obtain ⟨b,_,rfl⟩:=List.mem_map.1 hx
  rcases xg hy with rfl|rfl|rfl
  ·exact OH _
  ·exact KT _
  ·exact OI _
theorem QjK {α:Type} {key:α->ByteArray} (n:ByteArray):∀ l m:List α,aQ key n (l++m)=(aQ key n l).or (aQ key n m)
 | [],m=>rfl
 | e::l,m=>by
  rw [List.cons_append,ib,ib,QjK n l m]
  by_cases h:key e=n
  ·simp [h]
  ·simp [h]
theorem QlF (n:ByteArray):∀ l:List ByteArray,aQ FF.p n (l.map fC)=(aQ kC n l).map fC
 | []=>rfl
 | b::l=>by
  rw [List.map_cons,ib,ib,QlF n l];show (if kC b=n then _ else _)=_
  by_cases h:kC b=n
  ·simp [h]
  ·simp [h]
theorem uU (A:aN) (n:ByteArray):aQ FF.p n (fA A)=((aQ kC n A.cs).map fC).or (aQ FF.p n (oL A.tg)):=by
 unfold fA;rw [QjK,QlF]
theorem GW {l:List ByteArray} {n:ByteArray} (h:∀ b,kC b≠n):aQ kC n l=none:=Et fun b _=>h b
theorem Mo {l:List TE} {n:ByteArray} (h1:bB≠n) (h2:bo≠n) (h3:bK≠n):aQ FF.p n (oL l)=none:=Et fun x hx=>by
 rcases xg hx with rfl|rfl|rfl
 ·exact h1
 ·exact h2
 ·exact h3
theorem QjL (A:aN) (d:List Nat):aQ FF.p (bW d) (fA A)=(aQ kC (bW d) A.cs).map fC:=by
 rw [uU,Mo (Ne.symm (pg (OH _))) (Ne.symm (pg (KT _))) (Ne.symm (pg (OI _)))];simp
theorem uV (A:aN):aQ FF.p p0 (fA A)=none:=by
 rw [uU,GW (fun b=>Ne.symm (Mn b)),Mo (by decide) (by decide) (by decide)];rfl
theorem xj (A:aN):aQ FF.p p1 (fA A)=none:=by
 rw [uU,GW (fun b=>Ne.symm (Ps b)),Mo (by decide) (by decide) (by decide)];rfl
theorem AQ (A:aN):aQ FF.p cS (fA A)=none:=by
 rw [uU,GW (fun b=>TY b),Mo (by decide) (by decide) (by decide)];rfl
theorem Pv {A:aN} (h:aq kC A.cs) (b:ByteArray):ag FF.p (fC b) (fA A)=fA ⟨ag kC b A.cs,A.tg⟩:=by
 refine rZ (eA _ (pG h)) (pG (A:=⟨ag kC b A.cs,A.tg⟩) (eA b h)) (fun n=>?_);rw [fw _ _ (pG h),uU,uU,fw _ _ h];show (if n=kC b then _ else _)=_
 by_cases hn:n=kC b
 ·simp [hn]
 ·simp only [if_neg hn]
theorem Mq {A:aN} (h:aq kC A.cs) (l:List TE):ag FF.p (ff bB (aL l)) (fA A)=fA ⟨A.cs,l⟩:=by
 refine rZ (eA _ (pG h)) (pG (A:=⟨A.cs,l⟩) h) (fun n=>?_);rw [fw _ _ (pG h),uU,uU];show (if n=bB then _ else _)=_
 by_cases hn:n=bB
 ·subst hn;rw [if_pos rfl,GW (fun b=>TX b)];unfold oL;rw [ib,if_pos (show (ff bB (aL l)).p=bB from rfl)];rfl
 ·rw [if_neg hn];unfold oL;rw [ib,if_neg (show ¬ (ff bB (aL A.tg)).p=n from Ne.symm hn),ib (e:=ff bB (aL l)),if_neg (show ¬ (ff bB (aL l)).p=n from Ne.symm hn)]
theorem TU {A:aN} (h:aq kC A.cs) (b:ByteArray):aB FF.p (kC b) (fA A)=fA ⟨aB kC (kC b) A.cs,A.tg⟩:=by
 refine rZ (iT _ (pG h)) (pG (A:=⟨aB kC (kC b) A.cs,A.tg⟩) (iT _ h)) (fun n=>?_);rw [qX,uU,uU,qX]
 by_cases hn:n=kC b
 ·subst hn;simp only [if_true];rw [Mo (Ne.symm (TX b)) (Ne.symm (Pr b)) (Ne.symm (QjI b))];rfl
 ·simp only [if_neg hn]
def nz (b:ByteArray):DV:=⟨ak b,jN b⟩
theorem QsU {d:List Nat} (h:gz d):(⟨d,h⟩ : DV).1=d:=rfl
theorem tJ (b:ByteArray):(nz b).1=ak b:=by unfold nz;exact QsU _
theorem QuA (x:DV) {d:List Nat} (h:x.1=d):DV.key x=dB d:=by subst h;rfl
theorem Qoy (b:ByteArray):DV.key (nz b)=dB (ak b):=QuA (nz b) (tJ b)
def iw (A:aN):List DV:=A.cs.map nz
theorem Me {A:aN} (h:aq kC A.cs):aq DV.key (iw A):=by
 unfold iw aq;rw [List.pairwise_map];refine List.Pairwise.imp (fun {a b} hab=>?_) h;rw [Qoy,Qoy,<- Qs1 (jN a) (jN b)];exact hab
theorem AL {A:aN} {x:DV}:x∈iw A ↔ ∃ b∈A.cs,x.1=ak b:=by
 unfold iw;rw [List.mem_map]
 constructor
 ·rintro ⟨b,hb,rfl⟩;exact ⟨b,hb,tJ b⟩
 ·rintro ⟨b,hb,h⟩;exact ⟨b,hb,Subtype.ext ((tJ b).trans h.symm)⟩
def nX (A:aN):List ByteArray:=A.cs.filter fun b=>bD (ak b) A.tg
theorem Qqt {A:aN} (h:aq kC A.cs):xl (dp A.tg (iw A)) (fA A)=fA ⟨nX A,A.tg⟩:=by
 have hr2:aq kC (nX A):=List.Pairwise.sublist List.filter_sublist h;refine TZ (Pw _ (pG h)) (pG (A:=⟨nX A,A.tg⟩) hr2) (fun x=>?_);rw [GX];unfold fA;rw [List.mem_append,List.mem_append,List.mem_map,List.mem_map];have key:∀ b,(∀ d∈dp A.tg (iw A),kC b≠bW d.1)/\b∈A.cs ↔ b∈nX A:=by
  intro b;unfold nX;rw [List.mem_filter]
  constructor
  ·rintro ⟨h1,h2⟩;refine ⟨h2,?_⟩
   cases ht:bD (ak b) A.tg with
   | true=>rfl
   | false =>
    refine absurd (by unfold kC;rw [tJ]) (h1 (nz b) ?_);unfold dp;rw [List.mem_filter];refine ⟨AL.2 ⟨b,h2,tJ b⟩,?_⟩;rw [tJ,ht];rfl
  ·rintro ⟨h1,h2⟩;refine ⟨fun d hd e=>?_,h1⟩;unfold dp at hd;rw [List.mem_filter] at hd;have:ak b=d.1:=Pt (jN b) d.2 e;rw [<- this,h2] at hd;simp at hd
 have Mr:∀ x∈oL A.tg,∀ d:DV,x.p≠bW d.1:=fun x hx d=>by
  rcases xg hx with rfl|rfl|rfl
  ·exact Ne.symm (pg (OH _))
  ·exact Ne.symm (pg (KT _))
  ·exact Ne.symm (pg (OI _))
 constructor
 ·rintro ⟨⟨b,hb,rfl⟩|hx,h2⟩
  ·exact .inl ⟨b,(key b).1 ⟨h2,hb⟩,rfl⟩
  ·exact .inr hx
 ·rintro (⟨b,hb,rfl⟩|hx)
  ·have h3:=(key b).2 hb;exact ⟨.inl ⟨b,h3.2,rfl⟩,h3.1⟩
  ·exact ⟨.inr hx,fun d _=>Mr x hx d⟩
theorem QvD {D:DS} {F:List FF} {r:Int} {B:Nat} (h:Wh D F r B) {p:ByteArray} (hp:aK p=true):cr D p=(aQ FF.p p F).map FF.t:=by
 unfold cr;rw [if_neg (by rw [hp];decide),h.look p]
 cases aO p D.R.now with
 | none=>rfl
 | some g=>rfl
theorem TT {D:DS} {A:aN} {r:Int} {B:Nat} (h:Wh D (fA A) r B) (d:List Nat):cr D (bW d)=aQ kC (bW d) A.cs:=by
 rw [QvD h (yl d),QjL]
 cases aQ kC (bW d) A.cs with
 | none=>rfl
 | some b=>rfl
theorem QoA {D:DS} {A:aN} {r:Int} {B:Nat} (h:Wh D (fA A) r B) {d:List Nat} (hd:gz d):eG D d=aQ kC (bW d) A.cs:=by
 unfold eG;rw [TT h]
 cases hf:aQ kC (bW d) A.cs with
 | none=>rfl
 | some b =>
  have h1:kC b=bW d:=(tT hf).2;have h2:ak b=d:=Pt (jN b) hd h1;simp only [Option.filter];rw [if_pos];simp only [decide_eq_true_eq];exact h2
theorem Eh {l:List ByteArray} {b c:ByteArray} (h:aQ kC (kC b) l=some c):c∈l/\ak c=ak b:=⟨(tT h).1,Mj (tT h).2⟩
theorem GP (A:aN):dD A=(A.cs.map ByteArray.size).sum+(aL A.tg).size+13:=by
 unfold dD dZ fA;rw [List.map_append,List.sum_append,List.map_map];have h1:((fun x:FF=>x.t.size) ∘ fC)=ByteArray.size:=rfl;rw [h1];have h2:((oL A.tg).map fun x=>x.t.size).sum=(aL A.tg).size+13:=by
  show (aL A.tg).size+((⟨#[]⟩ : ByteArray).size+(pX.size+0))=_;have h3:(⟨#[]⟩ : ByteArray).size=0:=rfl;have h4:pX.size=13:=rfl;omega
 rw [h2];omega
def iy (l l':List TE):Nat:=if l'=l then 0 else (aL l').size
def AO:Option ByteArray->List (ByteArray × ByteArray)
 | none=>[]
 | some b=>[(kC b,b)]
def ia (cs:List ByteArray):Option ByteArray->List ByteArray
 | none=>cs
 | some b=>ag kC b cs
def jz:Option ByteArray->Nat
 | none=>0
 | some b=>b.size
theorem QsV {cs:List ByteArray} (h:aq kC cs) {b:ByteArray} (hb:aQ kC (kC b) cs=none):((ag kC b cs).map ByteArray.size).sum=(cs.map ByteArray.size).sum+b.size:=by
 rw [T3 ByteArray.size b h,JB (tL hb)];omega
theorem QlH {A:aN} (h:aq kC A.cs) (nb:Option ByteArray) (tM:∀ b,nb=some b->aQ kC (kC b) A.cs=none) (l':List TE):dD ⟨ia A.cs nb,l'⟩<=dD A+(jz nb+iy A.tg l'):=by
 rw [GP,GP];have h1:((ia A.cs nb).map ByteArray.size).sum=(A.cs.map ByteArray.size).sum+jz nb:=by
  cases nb with
  | none=>rfl
  | some b=>exact QsV h (tM b rfl)
 dsimp only;rw [h1];unfold iy
 by_cases hl:l'=A.tg
 ·rw [if_pos hl,hl];omega
 ·rw [if_neg hl];omega
theorem uW:aK bB=true:=by decide
theorem Qqu {D D':DS} {A:aN} {r k:Int} (h:dY D (fA A) r 2000) (g:aG A) (hs:(dD A:Int)<=r) (nb:Option ByteArray) (tM:∀ b,nb=some b->aQ kC (kC b) A.cs=none/\b.size<=300) (l':List TE) (aF:∀ t∈l',t.Ok) (h8:l'.length<=8) (hw:gK D (ng (AO nb) A.tg l') k D') :
  ((dD A:Int)+((jz nb+iy A.tg l':Nat):Int)<=r/\k=0/\dY D' (fA ⟨ia A.cs nb,l'⟩) r 2000)∨(r<(dD A:Int)+((jz nb+iy A.tg l':Nat):Int)/\k=4/\dY D' (fA A) r 2000):=by
 have hX:=vZ aF h8;have e1:∀ b,aK (kC b)=true:=fun b=>yl _
 have n0:p0≠bB:=by decide
 have n1:p1≠bB:=by decide
 unfold ng at hw;unfold iy;have wW:r<(dD A:Int)->False:=fun h=>by omega
 cases nb with
 | none =>
  by_cases hl:l'=A.tg
  ·rw [if_pos hl] at hw ⊢
   rcases Px (fl:=[]) h (uV A) (xj A) (by simp) (fun f hf=>by cases hf) hw with ⟨x1,x2,_⟩|⟨x1,_⟩
   ·left
    subst hl;exact ⟨by show (dD A:Int)+((0+0:Nat):Int)<=r;omega,x1,x2⟩
   ·exact absurd rfl x1
  ·rw [if_neg hl] at hw ⊢
   rcases Px (fl:=[(bB,aL l')]) h (uV A) (xj A) (by simp) (fun f hf=>by
    simp only [List.mem_singleton] at hf;subst hf;exact ⟨uW,n0,n1,hX⟩) hw with ⟨x1,x2,x3⟩|⟨_,x1,x2,x3⟩
   ·left
    have x4:=x3 (by simp);have e:gD [(bB,aL l')]=(aL l').size:=by simp [gD]
    rw [e] at x4;have e2:Cx [(bB,aL l')] (fA A)=fA ⟨A.cs,l'⟩:=Mq g.rise l';rw [e2] at x2;exact ⟨by show (dD A:Int)+((0+(aL l').size:Nat):Int)<=r;unfold dD;omega,x1,x2⟩
   ·right
    have e:gD [(bB,aL l')]=(aL l').size:=by simp [gD]
    rw [e] at x1;exact ⟨by show r<(dD A:Int)+((0+(aL l').size:Nat):Int);unfold dD;omega,x2,x3⟩
 | some b =>
  obtain ⟨hb0,hb3⟩:=tM b rfl
  by_cases hl:l'=A.tg
  ·rw [if_pos hl] at hw ⊢
   rcases Px (fl:=[(kC b,b)]) h (uV A) (xj A) (by simp) (fun f hf=>by
    simp only [List.mem_singleton] at hf;subst hf;exact ⟨e1 b,Mn b,Ps b,by show b.size<=2000;omega⟩) hw with ⟨x1,x2,x3⟩|⟨_,x1,x2,x3⟩
   ·left
    have x4:=x3 (by simp);have e:gD [(kC b,b)]=b.size:=by simp [gD]
    rw [e] at x4;have e2:Cx [(kC b,b)] (fA A)=fA ⟨ag kC b A.cs,A.tg⟩:=Pv g.rise b;rw [e2] at x2;rw [hl];exact ⟨by show (dD A:Int)+((b.size+0:Nat):Int)<=r;unfold dD;omega,x1,x2⟩
   ·right
    have e:gD [(kC b,b)]=b.size:=by simp [gD]
    rw [e] at x1;exact ⟨by show r<(dD A:Int)+((b.size+0:Nat):Int);unfold dD;omega,x2,x3⟩
  ·rw [if_neg hl] at hw ⊢
   rcases Px (fl:=[(kC b,b),(bB,aL l')]) h (uV A) (xj A) (by simp) (fun f hf=>by
    simp only [List.mem_cons,List.not_mem_nil,or_false] at hf
    rcases hf with rfl|rfl
    ·exact ⟨e1 b,Mn b,Ps b,by show b.size<=2000;omega⟩
    ·exact ⟨uW,n0,n1,hX⟩) hw with ⟨x1,x2,x3⟩|⟨_,x1,x2,x3⟩
   ·left
    have x4:=x3 (by simp);have e:gD [(kC b,b),(bB,aL l')]=b.size+(aL l').size:=by simp [gD]
    rw [e] at x4;have e2:Cx [(kC b,b),(bB,aL l')] (fA A)=fA ⟨ag kC b A.cs,l'⟩:=by
     show ag FF.p (ff bB (aL l')) (ag FF.p (fC b) (fA A))=_;rw [Pv g.rise b];exact Mq (A:=⟨ag kC b A.cs,A.tg⟩) (eA b g.rise) l'
    rw [e2] at x2;exact ⟨by show (dD A:Int)+((b.size+(aL l').size:Nat):Int)<=r;unfold dD;omega,x1,x2⟩
   ·right
    have e:gD [(kC b,b),(bB,aL l')]=b.size+(aL l').size:=by simp [gD]
    rw [e] at x1;exact ⟨by show r<(dD A:Int)+((b.size+(aL l').size:Nat):Int);unfold dD;omega,x2,x3⟩
theorem Mf {ds:List Nat} {z:Int}:∀ {l:List TE},(∀ t∈l,t.d=ds->t.z=z)->gT ds z l=l
 | [],_=>rfl
 | t::l,h=>by
  show mR ds z t::gT ds z l=_;rw [Mf (fun x hx=>h x (by simp [hx]))];congr 1;unfold mR
  by_cases hd:t.d=ds
  ·rw [if_pos hd,<- h t (by simp) hd]
  ·rw [if_neg hd]
theorem Mg {ds:List Nat} {z:Int} {n:ByteArray}:∀ {l:List TE},(∀ t∈l,t.d=ds->t.z=z)->gT ds z (ag TE.n ⟨n,ds,0⟩ l)=ag TE.n ⟨n,ds,z⟩ l
 | [],_=>by simp [ag,gT,mR]
 | t::l,h=>by
  have hl:=Mf (l:=l) (fun x hx=>h x (by simp [hx]));have ht:=Mf (l:=t::l) h;have h1:mR ds z ⟨n,ds,0⟩=⟨n,ds,z⟩:=by simp [mR]
  unfold ag
  by_cases he:t.n=n
  ·rw [if_pos (show TE.n t=TE.n ⟨n,ds,0⟩ from he),if_pos (show TE.n t=TE.n ⟨n,ds,z⟩ from he)];show mR ds z ⟨n,ds,0⟩::gT ds z l=_;rw [h1,hl]
  ·rw [if_neg (show ¬ TE.n t=TE.n ⟨n,ds,0⟩ from he),if_neg (show ¬ TE.n t=TE.n ⟨n,ds,z⟩ from he)]
   by_cases hb:bJ n t.n=true
   ·rw [if_pos (show bJ (TE.n ⟨n,ds,0⟩) (TE.n t)=true from hb),if_pos (show bJ (TE.n ⟨n,ds,z⟩) (TE.n t)=true from hb)];show mR ds z ⟨n,ds,0⟩::gT ds z (t::l)=_;rw [h1,ht]
   ·rw [if_neg (show ¬ bJ (TE.n ⟨n,ds,0⟩) (TE.n t)=true from hb),if_neg (show ¬ bJ (TE.n ⟨n,ds,z⟩) (TE.n t)=true from hb)];show mR ds z t::gT ds z (ag TE.n ⟨n,ds,0⟩ l)=_;rw [Mg (fun x hx=>h x (by simp [hx]))];congr 1;unfold mR
    by_cases hd:t.d=ds
    ·rw [if_pos hd,<- h t (by simp) hd]
    ·rw [if_neg hd]
theorem aG.told {A:aN} (g:aG A) {b c:ByteArray} (hc:aQ kC (kC b) A.cs=some c):∀ t∈A.tg,t.d=ak b->t.z=(c.size:Int):=fun t ht hd=>by
 obtain ⟨x,hx,h1,h2⟩:=g.Cw t ht;obtain ⟨h3,h4⟩:=Eh hc;have:x=c:=Eu g.rise hx h3 (by unfold kC;rw [<- h1,hd,h4]);rw [h2,this]
theorem aG.untold {A:aN} (g:aG A) {b:ByteArray} (hc:aQ kC (kC b) A.cs=none) {z:Int}:∀ t∈A.tg,t.d=ak b->t.z=z:=fun t ht hd=>by
 obtain ⟨x,hx,h1,_⟩:=g.Cw t ht;exact absurd (show kC x=kC b by unfold kC;rw [<- h1,hd]) (tL hc x hx)
theorem aG.ins {A:aN} (g:aG A) {b:ByteArray} (hb:b.size<=300) (hc:aQ kC (kC b) A.cs=none):aG ⟨ag kC b A.cs,A.tg⟩:=by
 have hm:∀ x,x∈ag kC b A.cs ↔ x=b∨x∈A.cs:=fun x=>Ek (fun a ha e=>absurd e (tL hc a ha)) g.rise
 refine ⟨eA b g.rise,fun x hx=>?_,g.tr,g.tok,g.t8,fun t ht=>?_,g.tS⟩
 ·rcases (hm x).1 hx with rfl|hx
  ·exact hb
  ·exact g.sz x hx
 ·obtain ⟨x,hx,h1,h2⟩:=g.Cw t ht;exact ⟨x,(hm x).2 (.inr hx),h1,h2⟩
theorem QuB {n:ByteArray} {d:List Nat} {z:Int} (h1:n.size<=20) (h2:d.length=32) (h3:∀ i,d.getD i 0<256) (h4:0<=z) (h5:z<=300):TE.Ok ⟨n,d,z⟩:=⟨h1,h2,h3,h4,h5⟩
theorem T4 (n:ByteArray) (d:List Nat) (z:Int):(⟨n,d,z⟩ : TE).d=d:=rfl
theorem T6 (n:ByteArray) (d:List Nat) (z:Int):(⟨n,d,z⟩ : TE).z=z:=rfl
theorem aG.tag {A:aN} (g:aG A) {n b:ByteArray} (hb:b∈A.cs) (hn:n.size<=20) (aW:eP n=true) (h8:(ag TE.n ⟨n,ak b,(b.size:Int)⟩ A.tg).length<=8):aG ⟨A.cs,ag TE.n ⟨n,ak b,(b.size:Int)⟩ A.tg⟩:=by
 have hs:=g.sz b hb;refine ⟨g.rise,g.sz,eA _ g.tr,fun t ht=>?_,h8,fun t ht=>?_,fun t ht=>?_⟩
 ·rcases ln ht with rfl|ht
  ·exact QuB hn (E8 b) (Dr b) (by omega) (by omega)
  ·exact g.tok t ht
 ·rcases ln ht with rfl|ht
  ·exact ⟨b,hb,T4 _ _ _,T6 _ _ _⟩
  ·exact g.Cw t ht
 ·rcases ln ht with rfl|ht
  ·exact aW
  ·exact g.tS t ht
theorem aG.zA {A:aN} (g:aG A) (n:ByteArray):aG ⟨A.cs,aB TE.n n A.tg⟩ :=
 ⟨g.rise,g.sz,iT _ g.tr,fun t ht=>g.tok t (jA.1 ht).1,Nat.le_trans (Jz _ _) g.t8,fun t ht=>g.Cw t (jA.1 ht).1,fun t ht=>g.tS t (jA.1 ht).1⟩
theorem QmQ {d:List Nat} {l:List TE} (h:bD d l=false):∀ t∈l,t.d≠d:=fun t ht e=>by
 unfold bD at h;have:=List.any_eq_false.1 h t ht;simp [e] at this
theorem Qqv {d:List Nat} {l:List TE} {t:TE} (ht:t∈l) (e:t.d=d):bD d l=true:=List.any_eq_true.2 ⟨t,ht,by simp [e]⟩
theorem aG.del {A:aN} (g:aG A) {b:ByteArray} (hu:bD (ak b) A.tg=false):aG ⟨aB kC (kC b) A.cs,A.tg⟩:=by
 refine ⟨iT _ g.rise,fun x hx=>g.sz x (jA.1 hx).1,g.tr,g.tok,g.t8,fun t ht=>?_,g.tS⟩;obtain ⟨x,hx,h1,h2⟩:=g.Cw t ht;exact ⟨x,jA.2 ⟨hx,fun e=>QmQ hu t ht (h1.trans (Mj e))⟩,h1,h2⟩
theorem aG.prune {A:aN} (g:aG A):aG ⟨nX A,A.tg⟩:=by
 refine ⟨List.Pairwise.sublist List.filter_sublist g.rise,fun x hx=>g.sz x (List.mem_filter.1 hx).1,g.tr,g.tok,g.t8,fun t ht=>?_,g.tS⟩;obtain ⟨x,hx,h1,h2⟩:=g.Cw t ht;exact ⟨x,List.mem_filter.2 ⟨hx,Qqv ht h1⟩,h1,h2⟩
theorem T7 (p:ByteArray->Bool):∀ l:List ByteArray,((l.filter p).map ByteArray.size).sum<=(l.map ByteArray.size).sum
 | []=>Nat.le_refl _
 | x::l=>by
  have:=T7 p l;rw [List.filter_cons]
  split
  ·simp only [List.map_cons,List.sum_cons];omega
  ·simp only [List.map_cons,List.sum_cons];omega
theorem QoB (A:aN) (b:ByteArray):dD ⟨aB kC (kC b) A.cs,A.tg⟩<=dD A:=by
 rw [GP,GP];have:=T7 (fun e=>!decide (kC e=kC b)) A.cs;show ((A.cs.filter fun e=>!decide (kC e=kC b)).map ByteArray.size).sum+_+_<=_;dsimp only;omega
theorem QjM (A:aN):dD ⟨nX A,A.tg⟩<=dD A:=by
 rw [GP,GP];have:=T7 (fun b=>bD (ak b) A.tg) A.cs;show ((A.cs.filter fun b=>bD (ak b) A.tg).map ByteArray.size).sum+_+_<=_;dsimp only;omega
def um (D:DS) (n:Nat):List DE:=fh D.R.safe (D.R.aw.take n)
def IB (D:DS) (n:Nat):List FF:=(um D n).map (eu D.fd)
def ox:List FF->List FF->Prop
 | [],[]=>True
 | a::l,b::m=>(a.p=b.p/\a.t=b.t/\b.y<=a.y)/\ox l m
 | _,_=>False
theorem ox.refl:∀ F,ox F F
 | []=>trivial
 | _::F=>⟨⟨rfl,rfl,Int.le_refl _⟩,ox.refl F⟩
theorem ox.trans:∀ {F G H:List FF},ox F G->ox G H->ox F H
 | [],[],[],_,_=>trivial
 | _::_,_::_,_::_,⟨⟨a1,a2,a3⟩,a4⟩,⟨⟨b1,b2,b3⟩,b4⟩=>⟨⟨a1.trans b1,a2.trans b2,Int.le_trans b3 a3⟩,a4.trans b4⟩
 | [],_::_,_,h,_=>h.elim
 | _::_,[],_,h,_=>h.elim
 | [],[],_::_,_,h=>h.elim
 | _::_,_::_,[],_,h=>h.elim
theorem ox.fd {fd uB:Nat->ByteArray × Int}:∀ (l:List DE),(∀ e∈l,(uB e.blk).1=(fd e.blk).1/\(fd e.blk).2<=(uB e.blk).2)->ox (l.map (eu uB)) (l.map (eu fd))
 | [],_=>trivial
 | e::l,h=>⟨⟨rfl,(h e (by simp)).1,(h e (by simp)).2⟩,ox.fd l (fun x hx=>h x (by simp [hx]))⟩
structure Hi (D:DS) (P:List FF->Prop):Prop where
 hi:∀ n,∃ F,P F/\ox (IB D n) F
 inj:∀ n,∀ e∈um D n,∀ e'∈um D n,e.blk=e'.blk->e=e'
section
variable {D D':DS} {F F':List FF} {r:Int} {B:Nat} {P:List FF->Prop}
theorem Qr0 (h:Wh D F r B) (n:Nat):∀ e∈um D n,e.blk∈D.fs:=fun e he=>by
 rcases Tq _ he with he|⟨c,hc,e1⟩
 ·exact h.cH e he
 ·rw [e1];exact h.er c (List.mem_of_mem_take hc)
theorem dY.hi (h:dY D F r B) (hP:P F):Hi D P:=by
 have e:∀ n,um D n=D.R.now:=fun n=>by unfold um;rw [h.aw,List.take_nil,h.safe];rfl
 exact ⟨fun n=>⟨F,hP,by unfold IB;rw [e n];rw [show D.R.now.map (eu D.fd)=F from h.wh.vw];exact ox.refl F⟩,fun n=>by rw [e n];exact h.wh.inj⟩
theorem Qma {c:CH} {S:List DE} {C:List CH} (n:Nat) (hn:¬ n<=C.length):fh S ((C ++ [c]).take n)=fh S (C ++ [c]):=by
 rw [List.take_of_length_le (by simp;omega)]
theorem Hi.push {c:CH} (h:Hi D P) (hw:Wh (jr D c) F' r B) (hP:P F'):Hi (jr D c) P:=by
 have e:∀ n,n<=D.R.aw.length->um (jr D c) n=um D n:=fun n hn=>by
  show fh D.R.safe ((D.R.aw ++ [c]).take n)=_;rw [List.take_append_of_le_length hn];rfl
 have e2:∀ n,¬ n<=D.R.aw.length->um (jr D c) n=(jr D c).R.now:=fun n hn=>by
  rw [hw.inv.go];exact Qma n hn
 refine ⟨fun n=>?_,fun n=>?_⟩
 ·by_cases hn:n<=D.R.aw.length
  ·obtain ⟨G,h1,h2⟩:=h.hi n;exact ⟨G,h1,by unfold IB;rw [e n hn];exact h2⟩
  ·exact ⟨F',hP,by unfold IB;rw [e2 n hn,show (jr D c).R.now.map (eu (jr D c).fd)=F' from hw.vw];exact ox.refl F'⟩
 ·by_cases hn:n<=D.R.aw.length
  ·rw [e n hn];exact h.inj n
  ·rw [e2 n hn];exact hw.inj
theorem Hi.add {p dt:ByteArray} {f:Nat} (h:Hi D P) (h0:Wh D F r B) (hf:f ∉ D.fs) (hw:Wh (fQ D p dt f) F' r B) (hP:P F'):Hi (fQ D p dt f) P:=by
 have e:∀ n,n<=D.R.aw.length->um (fQ D p dt f) n=um D n:=fun n hn=>by
  show fh D.R.safe ((D.R.aw ++ [(⟨⟨#[]⟩,p,f⟩ : CH)]).take n)=_;rw [List.take_append_of_le_length hn];rfl
 have e2:∀ n,¬ n<=D.R.aw.length->um (fQ D p dt f) n=(fQ D p dt f).R.now:=fun n hn=>by
  rw [hw.inv.go];exact Qma n hn
 refine ⟨fun n=>?_,fun n=>?_⟩
 ·by_cases hn:n<=D.R.aw.length
  ·obtain ⟨G,h1,h2⟩:=h.hi n;refine ⟨G,h1,ox.trans ?_ h2⟩;unfold IB;rw [e n hn];refine ox.fd _ (fun x hx=>?_);have hne:x.blk≠f:=fun e=>hf (by rw [<- e];exact Qr0 h0 n x hx)
   show (cB D.fd f (dt,0) x.blk).1=_/\_<=(cB D.fd f (dt,0) x.blk).2;rw [BV _ _ hne];exact ⟨rfl,Int.le_refl _⟩
  ·exact ⟨F',hP,by unfold IB;rw [e2 n hn,show (fQ D p dt f).R.now.map (eu (fQ D p dt f).fd)=F' from hw.vw];exact ox.refl F'⟩
 ·by_cases hn:n<=D.R.aw.length
  ·rw [e n hn];exact h.inj n
  ·rw [e2 n hn];exact hw.inj
theorem Hi.set {g:Nat} {x:ByteArray × Int} (h:Hi D P) (h1:x.1=(D.fd g).1) (h2:(D.fd g).2<=x.2):Hi (uD D g x) P:=by
 refine ⟨fun n=>?_,fun n=>h.inj n⟩;obtain ⟨G,a,b⟩:=h.hi n;refine ⟨G,a,ox.trans ?_ b⟩;refine ox.fd (um D n) (fun e he=>?_);show (cB D.fd g x e.blk).1=_/\_<=(cB D.fd g x e.blk).2
 by_cases hg:e.blk=g
 ·rw [hg,BU];exact ⟨h1,h2⟩
 ·rw [BV _ _ hg];exact ⟨rfl,Int.le_refl _⟩
theorem Hi.sync (hw:Wh D' F' r B) (hs:D'.R.safe=D'.R.now) (hc:D'.R.aw = []) (hP:P F'):Hi D' P:=by
 have e:∀ n,um D' n=D'.R.now:=fun n=>by unfold um;rw [hc,List.take_nil,hs];rfl
 exact ⟨fun n=>⟨F',hP,by unfold IB;rw [e n];rw [show D'.R.now.map (eu D'.fd)=F' from hw.vw];exact ox.refl F'⟩,fun n=>by rw [e n];exact hw.inj⟩
end
def Mv (r:Int) (B:Nat) (F:List FF) (t:bU) (F':List FF):Prop:=∀ (D D':DS) (k:Int),Wh D F r B->fK D t k D'->(k=0/\Wh D' F' r B/\∀ P,Hi D P->P F'->Hi D' P)∨(t.k=0/\k=4/\D'=D)
theorem Mv.ap {r:Int} {B:Nat} {F:List FF} {p dt:ByteArray} (hp:aK p=true) (hf:aQ FF.p p F=none) (hB:dt.size<=B):Mv r B F (oB p dt) (ag FF.p ⟨p,dt,0⟩ F):=fun D D' k h hs=>by
 rcases h.ap hs hp hf hB with ⟨h1,h2,h3⟩|⟨_,h2,h3⟩
 ·obtain ⟨f,hfn,_,rfl⟩:=KU hs hp (by rw [h.left];decide) (by rw [h.used,h.room];exact h1) (h.out hf);exact .inl ⟨h2,h3,fun P hi hP=>hi.add h hfn h3 hP⟩
 ·exact .inr ⟨rfl,h2,h3⟩
theorem Mv.sy {r:Int} {B:Nat} {F:List FF} {p t:ByteArray} {y:Int} (hp:aK p=true) (hx:(⟨p,t,y⟩ : FF)∈F):Mv r B F (oC p) (ag FF.p ⟨p,t,(t.size:Int)⟩ F):=fun D D' k h hs=>by
 obtain ⟨h1,h2⟩:=h.sy hs hp hx;obtain ⟨g,hg,ht,hy⟩:=h.find hx;obtain ⟨_,rfl⟩:=KV hs hp (by rw [h.left];decide) hg;exact .inl ⟨h1,h2,fun P hi _=>hi.set rfl (h.dS g (h.ay _ (r6 hg))).2.2⟩
theorem Mv.rn {r:Int} {B:Nat} {F:List FF} {p q t:ByteArray} {y:Int} (hp:aK p=true) (hq:aK q=true) (oA:p≠q) (hx:(⟨p,t,y⟩ : FF)∈F):Mv r B F (gv p q) (ag FF.p ⟨q,t,y⟩ (aB FF.p p F)):=fun D D' k h hs=>by
 obtain ⟨h1,h2⟩:=h.rn hs hp hq oA hx;obtain ⟨g,hg,ht,hy⟩:=h.find hx;obtain ⟨_,rfl⟩:=KW hs hp hq oA (by rw [h.left];decide) hg;exact .inl ⟨h1,h2,fun P hi hP=>hi.push h2 hP⟩
theorem Mv.rm {r:Int} {B:Nat} {F:List FF} {x:FF} (hp:aK x.p=true) (hx:x∈F):Mv r B F (fM x.p) (aB FF.p x.p F):=fun D D' k h hs=>by
 obtain ⟨h1,h2⟩:=h.rm hs hp hx;obtain ⟨g,hg,ht,hy⟩:=h.find hx;obtain ⟨_,rfl⟩:=RQ hs hp (by rw [h.left];decide) hg;exact .inl ⟨h1,h2,fun P hi hP=>hi.push h2 hP⟩
theorem Mv.sd {r:Int} {B:Nat} {F:List FF}:Mv r B F gQ F:=fun D D' k h hs=>by
 obtain ⟨h1,h2,h3,h4⟩:=h.sd hs;exact .inl ⟨h1,h2,fun P _ hP=>Hi.sync h2 h3 h4 hP⟩
theorem Mv.eq {r:Int} {B:Nat} {F F' F2:List FF} {t:bU} (h:Mv r B F t F') (e:F'=F2):Mv r B F t F2:=e ▸ h
def uj (P:List FF->Prop) (r:Int) (B:Nat):List FF->List bU->Prop
 | F,[]=>P F
 | F,t::l=>P F/\∃ F',Mv r B F t F'/\uj P r B F' l
def z8 (P:List FF->Prop) (r:Int) (B:Nat) (tb:Nat->List bU):Nat->List FF->List bU->Prop
 | _,F,[]=>P F
 | i,F,t::l=>P F/\(t.k=0->uj P r B F (tb i))/\∃ F',Mv r B F t F'/\z8 P r B tb (i+1) F' l
def Gd (P:List FF->Prop) (r:Int) (B:Nat) (D:DS):Prop:=Hi D P/\∃ F,Wh D F r B/\P F
section
variable {P:List FF->Prop} {r:Int} {B:Nat} {tb:Nat->List bU}
theorem uj.p:∀ {l:List bU} {F:List FF},uj P r B F l->P F
 | [],_,h=>h
 | _::_,_,h=>h.1
theorem z8.p:∀ {l:List bU} {i:Nat} {F:List FF},z8 P r B tb i F l->P F
 | [],_,_,h=>h
 | _::_,_,_,h=>h.1
theorem uj.take:∀ {l:List bU} {F:List FF} (j:Nat),uj P r B F l->uj P r B F (l.take j)
 | [],_,j,h=>by rw [List.take_nil];exact h
 | t::l,F,0,h=>h.1
 | t::l,F,j+1,⟨h1,F',h2,h3⟩=>⟨h1,F',h2,h3.take j⟩
theorem z8.take:∀ {l:List bU} {i:Nat} {F:List FF} (j:Nat),z8 P r B tb i F l->z8 P r B tb i F (l.take j)
 | [],_,_,j,h=>by rw [List.take_nil];exact h
 | t::l,_,F,0,h=>h.1
 | t::l,_,F,j+1,⟨h1,h0,F',h2,h3⟩=>⟨h1,h0,F',h2,h3.take j⟩
theorem Qmb:∀ {l:List bU} {F:List FF} {D D':DS},(∀ t∈l,t.k≠0)->Wh D F r B->Hi D P->uj P r B F l->j4 D l D'->Gd P r B D'
 | [],F,D,D',_,hw,hi,hc,hr=>by
  rw [show D'=D from hr];exact ⟨hi,F,hw,hc⟩
 | t::l,F,D,D',hk,hw,hi,⟨_,F',h2,h3⟩,⟨k1,D1,h4,h5⟩=>by
  rcases h2 D D1 k1 hw h4 with ⟨_,a2,a3⟩|⟨a1,_⟩
  ·exact Qmb (fun x hx=>hk x (by simp [hx])) a2 (a3 P hi h3.p) h3 h5
  ·exact absurd a1 (hk t (by simp))
theorem QR:∀ {l:List bU} {F:List FF} {D D':DS} {k:Int} {m:Nat},(∀ t∈l,t.k≠0)->Wh D F r B->Hi D P->uj P r B F l->bM D l k m D'->k=0/\Gd P r B D'
 | [],F,D,D',k,m,_,hw,hi,hc,hr=>by
  rw [hr.2.2];exact ⟨hr.1,hi,F,hw,hc⟩
 | t::l,F,D,D',k,m,hk,hw,hi,⟨_,F',h2,h3⟩,⟨k1,D1,h4,h5⟩=>by
  rcases h2 D D1 k1 hw h4 with ⟨a1,a2,a3⟩|⟨a1,_⟩
  ·rcases h5 with ⟨h5,_⟩|⟨_,m',_,h6⟩
   ·exact absurd a1 h5
   ·exact QR (fun x hx=>hk x (by simp [hx])) a2 (a3 P hi h3.p) h3 h6
  ·exact absurd a1 (hk t (by simp))
theorem Wc:∀ {l:List bU} {i:Nat} {F:List FF} {D D':DS} {k:Int} {m:Nat},Wh D F r B->Hi D P->z8 P r B tb i F l->bM D l k m D'->(k=0/\Gd P r B D')∨(k=4/\∃ F',Wh D' F' r B/\Hi D' P/\uj P r B F' (tb (i+m)))
 | [],_,F,D,D',k,m,hw,hi,hc,hr=>by
  rw [hr.2.2];exact .inl ⟨hr.1,hi,F,hw,hc⟩
 | t::l,i,F,D,D',k,m,hw,hi,⟨_,h0,F',h2,h3⟩,⟨k1,D1,h4,h5⟩=>by
  rcases h2 D D1 k1 hw h4 with ⟨a1,a2,a3⟩|⟨a1,a2,a3⟩
  ·rcases h5 with ⟨h5,_⟩|⟨_,m',hm,h6⟩
   ·exact absurd a1 h5
   ·have:=Wc a2 (a3 P hi h3.p) h3 h6;rw [show i+1+m'=i+m by omega] at this;exact this
  ·rcases h5 with ⟨_,h6,h7,h8⟩|⟨h5,_⟩
   ·refine .inr ⟨h6.trans a2,F,?_⟩;rw [h8,a3,h7];exact ⟨hw,hi,h0 a1⟩
   ·rw [a2] at h5
    cases h5
end
def uk (a b:FF):Prop:=b.p=a.p/\∃ n:Nat,a.y<=(n:Int)/\n<=a.t.size/\b.t=a.t.extract 0 n/\b.y=(b.t.size:Int)
def fD:List FF->List FF->Prop
 | [],[]=>True
 | a::l,b::m=>uk a b/\fD l m
 | _,_=>False
theorem fD.ge:∀ {F G H:List FF},ox F G->fD F H->fD G H
 | [],[],[],_,_=>trivial
 | _::_,_::_,_::_,⟨⟨a1,a2,a3⟩,a4⟩,⟨⟨b1,n,b2,b3,b4,b5⟩,b6⟩=>⟨⟨b1.trans a1,n,Int.le_trans a3 b2,by rw [<- a2];exact b3,by rw [<- a2];exact b4,b5⟩,fD.ge a4 b6⟩
 | [],_::_,_,h,_=>h.elim
 | _::_,[],_,h,_=>h.elim
 | [],[],_::_,_,h=>h.elim
 | _::_,_::_,[],_,h=>h.elim
theorem Qnd {a b:FF} (h:uk a b) (hy:a.y=(a.t.size:Int)):b=a:=by
 obtain ⟨h1,n,h2,h3,h4,h5⟩:=h;have hn:n=a.t.size:=by omega
 obtain ⟨p,t,y⟩:=a;obtain ⟨p',t',y'⟩:=b;simp only at h1 h2 h3 h4 h5 hn hy;have ht:t'=t:=by rw [h4,hn,ByteArray.extract_zero_size]
 subst ht;rw [h1,h5,hy]
theorem fD.same:∀ {F G:List FF},fD F G->(∀ x∈F,x.y=(x.t.size:Int))->G=F
 | [],[],_,_=>rfl
 | a::l,b::m,⟨h1,h2⟩,h=>by rw [Qnd h1 (h a (by simp)),h2.same (fun x hx=>h x (by simp [hx]))]
 | [],_::_,h,_=>h.elim
 | _::_,[],h,_=>h.elim
theorem Qmc {a:FF} (h:a.y<=(a.t.size:Int)):uk a ⟨a.p,a.t,(a.t.size:Int)⟩:=⟨rfl,a.t.size,h,Nat.le_refl _,by rw [ByteArray.extract_zero_size],rfl⟩
theorem fD.ins {x:FF}:∀ {F G:List FF},fD (ag FF.p x F) G->(∀ e∈F,e.y<=(e.t.size:Int))->∃ x' F',uk x x'/\fD F F'/\G=ag FF.p x' F'
 | [],[],h,_=>h.elim
 | [],[b],h,_=>⟨b,[],h.1,trivial,rfl⟩
 | [],_::_::_,h,_=>h.2.elim
 | e::F,G,h,hy=>by
  by_cases h1:e.p=x.p
  ·rw [show ag FF.p x (e::F)=x::F from if_pos h1] at h
   match G,h with
   | b::G,⟨h2,h3⟩ =>
    refine ⟨b,⟨e.p,e.t,(e.t.size:Int)⟩::G,h2,⟨Qmc (hy e (by simp)),h3⟩,?_⟩;exact (if_pos (show (⟨e.p,e.t,(e.t.size:Int)⟩ : FF).p=b.p from h1.trans h2.1.symm)).symm
  ·by_cases h4:bJ x.p e.p=true
   ·rw [show ag FF.p x (e::F)=x::e::F from (if_neg h1).trans (if_pos h4)] at h
    match G,h with
    | b::c::G,⟨h2,h3,h5⟩ =>
     refine ⟨b,c::G,h2,⟨h3,h5⟩,?_⟩;exact ((if_neg (show ¬ c.p=b.p by rw [h3.1,h2.1];exact h1)).trans (if_pos (show bJ b.p c.p=true by rw [h3.1,h2.1];exact h4))).symm
    | [_],⟨_,h2⟩=>exact h2.elim
   ·rw [show ag FF.p x (e::F)=e::ag FF.p x F from (if_neg h1).trans (if_neg h4)] at h
    match G,h with
    | b::G,⟨h2,h3⟩ =>
     obtain ⟨x',F',a1,a2,a3⟩:=fD.ins h3 (fun y Ed=>hy y (by simp [Ed]));refine ⟨x',b::F',a1,⟨h2,a2⟩,?_⟩;rw [a3];exact ((if_neg (show ¬ b.p=x'.p by rw [h2.1,a1.1];exact h1)).trans (if_neg (show ¬ bJ x'.p b.p=true by rw [h2.1,a1.1];exact h4))).symm
end Go.Proofs.YtncigfibncmioaaGreatDoor
