/-
  PROVED HERE: what the program's own Append of disks does.
-/
import Derived.Test.YtncigfibncmioaaGreatDoorPdRead
import Derived.Deep.CutRange
import Derived.Laws.AppendOwn
import Derived.Lib.BufferMore
namespace Go.Proofs.YtncigfibncmioaaGreatDoor
set_option maxHeartbeats 2000000
set_option maxRecDepth 100000
open Go.RowKit
theorem PGo.newFile {s:PSt} {w:World} (h:s.In w) :
  PGo s { s with fs:=w.heap.size::s.fs,fd:=setNd s.fd w.heap.size (⟨#[]⟩,0),fv:=setV s.fv w.heap.size (.slice none 0 0) } w (w.alloc (.cells #[.slice none 0 0,.int .i64 0] 154)):=by
 have hb:Below w.heap.size w (w.alloc (.cells #[.slice none 0 0,.int .i64 0] 154)):=(Below.refl _ _).alloc (Nat.le_refl _) _
 have h2:=h.later hb
 have hne:∀ f∈s.fs,f≠w.heap.size:=fun f hf=>Nat.ne_of_lt (lt_of_row (h.fds f hf).blk)
 refine ⟨rfl,⟨h2.is,?_,?_,fun e he=>by simp [h.inow e he],fun e he=>by simp [h.isafe e he],fun e he=>by simp [h.ichg e he]⟩,Gr.of_below hb,?_⟩
 ·intro f hf
  dsimp only at hf ⊢
  rcases List.mem_cons.1 hf with e|hf
  ·subst e
   rw [setNd_same,setV_same]
   exact ⟨heap_alloc_new _ _,World.ownsRow_nil _ _ _ _⟩
  ·rw [setNd_ne _ _ (hne f hf),setV_ne _ _ (hne f hf)]
   exact h2.fds f hf
 ·intro f hf g hg hfg k hk
  dsimp only at hf hg hk ⊢
  rcases List.mem_cons.1 hf with e|hf
  ·subst e
   rw [setV_same] at hk
   cases hk
  ·rw [setV_ne _ _ (hne f hf)] at hk
   rcases List.mem_cons.1 hg with e|hg
   ·subst e
    rw [setV_same]
    intro e
    cases e
   ·rw [setV_ne _ _ (hne g hg)]
    exact h.sep f hf g hg hfg k hk
 ·intro k hk
  rcases hk with e|e|e|e|e|⟨f,hf,e⟩
  ·exact .inl (.inl e)
  ·exact .inl (.inr (.inl e))
  ·exact .inl (.inr (.inr (.inl e)))
  ·exact .inl (.inr (.inr (.inr (.inl e))))
  ·dsimp only at e
   rcases List.mem_cons.1 e with e|e
   ·exact .inr (by rw [e];exact Nat.le_refl _)
   ·exact .inl (.inr (.inr (.inr (.inr (.inl e)))))
  ·dsimp only at hf e
   rcases List.mem_cons.1 hf with e2|hf
   ·subst e2
    rw [setV_same] at e
    cases e
   ·rw [setV_ne _ _ (hne f hf)] at e
    exact .inl (.inr (.inr (.inr (.inr (.inr ⟨f,hf,e⟩)))))
theorem wrap64 {x:Int} (h1 : -9223372036854775808≤x) (h2:x≤9223372036854775807):IntKind.i64.wrap x=x:=by
 unfold IntKind.wrap
 simp only [IntKind.bits,IntKind.signed]
 simp
 omega
theorem Tryz.infoU8:(Tryz.prog.info? 5).map (fun i=>(i.zero,i.size,i.bytes))=some (some (.int .u8 0),1,1):=by kernel_rfl
theorem PGo.append {s:PSt} {w w5:World} (h:s.In w) {f:Nat} (hf:f∈s.fs) {x:ByteArray × Int} (hx:s.fd f=x) {n:Nat} (hn:x.1.size=n) {dt:ByteArray} {oa:Option Addr} {cap:Nat}
  (hown:w5.ownsRow 0 5 1 (.slice oa (n+dt.size) cap) (n+dt.size) (Lib.strCells x.1++Lib.strCells dt)) (hg:w.grownBy w5 (s.fv f).ownBlock) (hno:NewOr w (s.fv f) (.slice oa (n+dt.size) cap)) :
  PGo s { s with fd:=setNd s.fd f (x.1++dt,x.2),fv:=setV s.fv f (.slice oa (n+dt.size) cap) } w (w5.setCell ⟨f,0,none⟩ (.slice oa (n+dt.size) cap)):=by
 subst hx
 subst hn
 have hfd:=h.fds f hf
 have hblk:w5.heap[f]? = some (.cells #[s.fv f,.int .i64 (s.fd f).2] 154 (0,0)):=(hg.block f (lt_of_row hfd.blk) (fun e=>hfd.rowNe e.symm)).trans hfd.blk
 refine PGo.file h hf ?_ (FD.set0 hblk rfl (by dsimp only;rw [strCells_app,show ((s.fd f).1++dt).size=(s.fd f).1.size+dt.size by simp];exact hown)) hno
 refine ⟨hg.os,hg.tape,hg.output,by simpa using hg.size,fun k hk hn=>?_⟩
 rw [heap_setCell_other _ _ _ _ (fun e=>hn (.inl e))]
 exact hg.block k hk (fun e=>hn (.inr e.symm))
theorem pappC (s:PSt) (g0 g1 g2:Nat) (p dt:ByteArray) (w:World) (h:s.In w) (q0:w.heap[g0]? = some (.cells #[.string dt] 9 (0,0))) (q1:w.heap[g1]? = some (.cells #[.pointer (some ⟨s.b,0,none⟩)] 88 (0,0))) (q2:w.heap[g2]? = some (.cells #[.string p] 9 (0,0))) (hp:p.size≤9223372036854775807) (hpp:isPathB p=true) (hft:PFit s.R)
  (hu:usedE s.fd s.R.now≤1000000000000) (hr0:0≤s.R.room) (hr1:s.R.room≤9223372036854775807) (hdt:dt.size≤1000000000000) (hsz:∀ f∈s.fs,(s.fd f).1.size≤1000000000000) :
  Calls Tryz.prog 228 #[.pointer (some ⟨g0,0,none⟩),.pointer (some ⟨g1,0,none⟩),.pointer (some ⟨g2,0,none⟩)] w fun e w1 =>
   (e = .returned (refV 4)∧s.R.room - (usedE s.fd s.R.now:Int)<(dt.size:Int)∧Below w.heap.size w w1) ∨
   (e = .returned .nilIface∧¬ s.R.room - (usedE s.fd s.R.now:Int)<(dt.size:Int)∧∃ s1,PGo s s1 w w1 ∧
    ((∃ f,findE p s.R.now=some f∧s1.R=s.R∧s1.fs=s.fs∧s1.fd=setNd s.fd f ((s.fd f).1++dt,(s.fd f).2)) ∨
     (findE p s.R.now=none∧∃ f,w.heap.size≤f∧s1.R = { s.R with now:=applyE s.R.now ⟨⟨#[]⟩,p,f⟩,chg:=s.R.chg ++ [⟨⟨#[]⟩,p,f⟩] }∧s1.fs=f::s.fs∧s1.fd=setNd s.fd f (dt,0)))):=by
 obtain ⟨i0,hi,hz0,hz1,hz2⟩:=info_parts Tryz.infoU8
 have c0:w.cell? ⟨g0,0,none⟩=some (.string dt):=cell_of_row _ _ 0 _ _ _ q0
 have c1:w.cell? ⟨g1,0,none⟩=some (.pointer (some ⟨s.b,0,none⟩)):=cell_of_row _ _ 0 _ _ _ q1
 have c2:w.cell? ⟨g2,0,none⟩=some (.string p):=cell_of_row _ _ 0 _ _ _ q2
 have Q0:=hide q0
 clear q2
 have hl0:=lt_heap q0
 have hl1:=lt_heap q1
 have H:=hide h
 have HU:=hide (fun (w':World) (hb:Below w.heap.size w w')=>pused_any s w' (h.later hb) hu)
 have b0:w.cell? ⟨s.b,0,none⟩=some (.int .i64 s.R.room):=cell_of_row _ _ 0 _ _ _ h.is.blk
 have hbl:=lt_of_row h.is.blk
 clear h
 obtain ⟨U,hU⟩ : ∃ U:Nat,U=usedE s.fd s.R.now:=⟨_,rfl⟩
 rw [← hU] at hu HU ⊢
 have hw1 : -9223372036854775808≤s.R.room - (U:Int):=by omega
 have hw2:s.R.room - (U:Int)≤9223372036854775807:=by omega
 have HWR:=hide (wrap64 hw1 hw2)
 obtain ⟨BG,hBG⟩ : ∃ BG:Prop,BG=(s.R.room - (U:Int)<(dt.size:Int)):=⟨_,rfl⟩
 rw [← hBG]
 have HBG:=hide hBG
 obtain ⟨fo,hfo⟩ : ∃ fo,fo=findE p s.R.now:=⟨_,rfl⟩
 have HFO:=hide hfo
 clear hU hBG hfo
 go_enter Tryz.func228,Tryz.ntmps228
 go_upto_region 1 with fail
 go_cut [14] from 5 (fun bv wx=>bv = .bool (decide (s.R.room - (U:Int)<(dt.size:Int)))∧Below w.heap.size w wx)
 case first =>
  go_region_held3 (fun w'=>w'.cell? ⟨g0,0,none⟩=some (.string dt)∧w'.cell? ⟨g1,0,none⟩=some (.pointer (some ⟨s.b,0,none⟩))∧w'.cell? ⟨s.b,0,none⟩=some (.int .i64 s.R.room)∧Below w.heap.size w w') (first|exact ⟨c0,c1,b0,(Below.refl w.heap.size w).drew⟩|exact ⟨cell_later hb6 c0,cell_later hb6 c1,cell_later hb6 b0,(Below.refl w.heap.size w).drew.trans hb6⟩|go_keep) (first|(go_at_call 63;refine (HU.out w.drew ((Below.refl _ _).drew)).mono ?_;rintro _ w6 ⟨rfl,hb6⟩))
  go_wp2_with fail
  go_meet
  case rel=>exact ⟨by rw [HWR.out],(Below.refl w.heap.size w).drew.trans hb6⟩
 case rest =>
  obtain ⟨rfl,hbc⟩:=hcut
  have k0:=cell_later hbc c0
  have k1:=cell_later hbc c1
  have k2:=cell_later hbc c2
  have hin:=H.out.later hbc
  have kb1:wc.cell? ⟨s.b,1,none⟩=some (.map (some s.mb)):=cell_of_row _ _ 1 _ _ _ hin.is.blk
  have HBC:=hide hbc
  have HIN:=hide hin
  have hlk:∀ nq,(Instr.lookup 147 (.map (some s.mb)) (.string p) false).run Tryz.prog (wc.drewN nq) = .ok (ptrOf fo) (wc.drewN nq):=fun nq=>by
   rw [HFO.out]
   exact (hin.is.now.later (((Below.refl wc.heap.size wc).drewN nq).block _ hin.is.now.lt)).look (t:=147) Tryz.underlying9 Tryz.underlying147 (Tryz.zeroPF _) p hp
  have hlc0:g0<wc.heap.size:=Nat.lt_of_lt_of_le hl0 hbc.size
  have hlc1:g1<wc.heap.size:=Nat.lt_of_lt_of_le hl1 hbc.size
  have hlc2:g2<wc.heap.size:=World.block_lt_of_cell? wc ⟨g2,0,none⟩ k2
  have QC:=hide ((hbc.block g0 hl0).trans q0)
  clear hbc hin HU q0 q1
  by_cases hbig:s.R.room - (U:Int)<(dt.size:Int)
  ·clear hlk
   have ht:decide (s.R.room - (U:Int)<(dt.size:Int))=true:=decide_eq_true hbig
   rw [ht]
   have HBIG:=hide hbig
   clear hbig ht
   go_wp2_with fail
   go_ret
   exact .inl ⟨rfl,by rw [HBG.out];exact HBIG.out,HBC.out⟩
  ·have ht:decide (s.R.room - (U:Int)<(dt.size:Int))=false:=decide_eq_false hbig
   rw [ht]
   have HBIG:=hide hbig
   clear hbig ht
   cases fo with
   | none =>
    dsimp only [ptrOf] at hlk
    go_wp2_with fail
    go_quiet (fail)
    obtain ⟨wq,hwq⟩ : ∃ wq,wq=wc.drewN nq:=⟨_,rfl⟩
    rw [← hwq]
    have hbq:Below wc.heap.size wc wq:=by rw [hwq];exact (Below.refl _ _).drewN nq
    have r0:=cell_later hbq k0
    have r1:=cell_later hbq k1
    have r2:=cell_later hbq k2
    have hlq0:g0<wq.heap.size:=Nat.lt_of_lt_of_le hlc0 hbq.size
    have hlq1:g1<wq.heap.size:=Nat.lt_of_lt_of_le hlc1 hbq.size
    have hlq2:g2<wq.heap.size:=Nat.lt_of_lt_of_le hlc2 hbq.size
    have QQ:=hide ((hbq.block g0 hlc0).trans QC.out)
    have HBQ:=hide (HBC.out.trans (hbq.mono HBC.out.size))
    have hin2:=HIN.out.later hbq
    clear hwq hlk k0 k1 k2 kb1 QC hlc0 hlc1 hlc2
    have hnf:=PGo.newFile hin2
    have hin3:=hnf.inn
    have HS:=hide (pchange_any s.b wq.heap.size s.R s.mb s.lb s.cv ⟨#[]⟩ p _ hin3.is hft.1 hft.2 (by decide) (path_small hpp))
    have q3:(wq.alloc (.cells #[.slice none 0 0,.int .i64 0] 154)).heap[g0]? = some (.cells #[.string dt] 9 (0,0)):=(Below.heap_alloc _ _ g0 hlq0).trans QQ.out
    have Q3:=hide q3
    have HNF:=hide hnf
    have HIN2:=hide hin2
    clear hin2 hnf hin3 q3 hbq
    go_wp2_with fail
    refine (HS.out).mono ?_
    rintro _ w2 ⟨rfl,hg2,cv',hd2,hn2⟩
    dsimp only
    have hch:=PGo.change HNF.out.inn (f:=wq.heap.size) (by simp) hg2 hd2 hn2
    have hall:=HNF.out.trans hch
    obtain ⟨e1,m1,em⟩:=HNF.out.inn.is.now.isMap
    have q4:w2.heap[g0]? = some (.cells #[.string dt] 9 (0,0)):=by
     refine (hg2.block g0 (lt_heap Q3.out) (fun e=>?_)).trans Q3.out
     rcases e with e|e|e
     ·exact type_ne Q3.out HNF.out.inn.is.blk (by decide) e
     ·have:=Q3.out
      rw [e] at this
      rw [em] at this
      cases this
     ·obtain ⟨cur,hc⟩:=own_obj HNF.out.inn.is.chg g0 e
      exact type_ne hc Q3.out (by decide) rfl
    have l0:w2.cell? ⟨g0,0,none⟩=some (.string dt):=cell_of_row _ _ 0 _ _ _ q4
    have hin4:=hch.inn
    have hfd:=hin4.fds wq.heap.size (by simp)
    dsimp only at hfd
    rw [setNd_same,setV_same] at hfd
    have f0:w2.cell? ⟨wq.heap.size,0,none⟩=some (.slice none 0 0):=cell_of_row _ _ 0 _ _ _ hfd.blk
    have ff:=fun j=>frozen_of_row w2 wq.heap.size j _ _ hfd.blk
    have HROW:=hide (World.ownsRow_nil w2.drew 0 5 1)
    have HALL:=hide hall
    have HCH:=hide hch
    have HFB:=hide hfd.blk
    have hfl:=lt_of_row hfd.blk
    have hdb:0+dt.size≤140737488355328:=by omega
    clear hg2 hd2 hn2 hch hall q4 hin4 hfd em
    go_wp2_with fail
    go_region_law (refine step_append_str _ (by rfl) _ _ _ _ (by rfl) 5 i0 Tryz.underlying136 Tryz.underlying9 hi hz0 hz1 hz2 _ 0 _ (by rfl) HROW.out dt (by rfl) hdb ?_;intro oa cap2 w5 hown5 hgrow hno;have sb:w5.heap[wq.heap.size]? = _:=(hgrow.block wq.heap.size hfl (fun e=>by cases e)).trans HFB.out;have s0:w5.cell? ⟨wq.heap.size,0,none⟩=_:=cell_of_row _ _ 0 _ _ _ sb;have sf:=frozen_of_row w5 wq.heap.size 0 _ _ sb)
    all_goals
     have hap:=PGo.append HCH.out.inn (f:=wq.heap.size) (by simp) (x:=(⟨#[]⟩,0)) (by dsimp only;rw [setNd_same]) (n:=0) rfl hown5 (by dsimp only;rw [setV_same];exact grownBy_trans (grownBy_below ((Below.refl _ _).drew) _) hgrow) (by dsimp only;rw [setV_same];exact hno)
     have hfin:=(PGo.refl H.out HBQ.out).trans (HALL.out.trans hap)
     rw [Nat.zero_add] at hfin
     have HFIN:=hide hfin
     clear hap hfin hown5 hgrow hno sb s0 sf
     go_wp2_with fail
     go_ret
     refine .inr ⟨rfl,by rw [HBG.out];have:=HBIG.out;omega,_,HFIN.out,?_⟩
     refine .inr ⟨HFO.out.symm,wq.heap.size,HBQ.out.size,rfl,rfl,?_⟩
     dsimp only
     rw [setNd_twice,empty_app]
   | some f =>
    dsimp only [ptrOf] at hlk
    go_wp2_with fail
    go_quiet (fail)
    obtain ⟨wq,hwq⟩ : ∃ wq,wq=wc.drewN nq:=⟨_,rfl⟩
    rw [← hwq]
    have hbq:Below wc.heap.size wc wq:=by rw [hwq];exact (Below.refl _ _).drewN nq
    have r0:=cell_later hbq k0
    have r1:=cell_later hbq k1
    have r2:=cell_later hbq k2
    have hlq0:g0<wq.heap.size:=Nat.lt_of_lt_of_le hlc0 hbq.size
    have hlq1:g1<wq.heap.size:=Nat.lt_of_lt_of_le hlc1 hbq.size
    have hlq2:g2<wq.heap.size:=Nat.lt_of_lt_of_le hlc2 hbq.size
    have QQ:=hide ((hbq.block g0 hlc0).trans QC.out)
    have HBQ:=hide (HBC.out.trans (hbq.mono HBC.out.size))
    have hin2:=HIN.out.later hbq
    clear hwq hlk k0 k1 k2 kb1 QC hlc0 hlc1 hlc2
    have hm:f∈s.fs:=by
     obtain ⟨e,he,hb⟩:=findE_mem HFO.out.symm
     rw [← hb];exact H.out.inow e he
    have hfd:=hin2.fds f hm
    obtain ⟨o,cap,hfv,hca,hcb⟩:=hfd.shape
    have f0:wq.cell? ⟨f,0,none⟩=some (s.fv f):=cell_of_row _ _ 0 _ _ _ hfd.blk
    rw [hfv] at f0
    have ff:=fun j=>frozen_of_row wq f j _ _ hfd.blk
    have hrow:=hfd.row
    rw [hfv] at hrow
    have HROW:=hide (ownsRow_later hrow ((Below.refl _ _).drew))
    have HIN2:=hide hin2
    have HFB:=hide hfd.blk
    have hfl:=lt_of_row hfd.blk
    have HNE:=hide hfd.rowNe
    have hdb:(s.fd f).1.size+dt.size≤140737488355328:=by have:=hsz f hm;omega
    have HFV:=hide hfv
    clear hin2 hfd hrow hbq hfv
    generalize hszf:(s.fd f).1.size=sz at f0 HROW hdb hca HFV
    have HSZF:=hide hszf
    clear hszf
    go_wp2_with fail
    go_region_law (refine step_append_str _ (by rfl) _ _ _ _ (by rfl) 5 i0 Tryz.underlying136 Tryz.underlying9 hi hz0 hz1 hz2 _ sz _ (by rfl) HROW.out dt (by rfl) hdb ?_;intro oa cap2 w5 hown5 hgrow hno;have sb:w5.heap[f]? = _:=(hgrow.block f hfl (fun e=>HNE.out (by rw [HFV.out];exact e.symm))).trans HFB.out;have s0:w5.cell? ⟨f,0,none⟩=_:=cell_of_row _ _ 0 _ _ _ sb;have sf:=frozen_of_row w5 f 0 _ _ sb)
    all_goals
     have hap:=PGo.append HIN2.out hm rfl HSZF.out hown5 (by rw [HFV.out];exact grownBy_trans (grownBy_below ((Below.refl _ _).drew) _) hgrow) (by rw [HFV.out];exact hno)
     have hfin:=(PGo.refl H.out HBQ.out).trans hap
     have HFIN:=hide hfin
     clear hap hfin hown5 hgrow hno sb s0 sf
     go_wp2_with fail
     go_ret
     refine .inr ⟨rfl,by rw [HBG.out];have:=HBIG.out;omega,_,HFIN.out,?_⟩
     exact .inl ⟨f,HFO.out.symm,rfl,rfl,rfl⟩
theorem pdAppend_fwd (b:Nat) (p dt:ByteArray) (w:World) (Q:Value→World→Prop)
  (h:Calls Tryz.prog 166 #[.pointer (some ⟨b,0,none⟩),.string ⟨#[65,112,112,101,110,100]⟩,.slice (some ⟨w.heap.size+1+1+1,0,none⟩) 1 1,.func (.func 228) #[] #[.pointer (some ⟨w.heap.size+1+1,0,none⟩),.pointer (some ⟨w.heap.size,0,none⟩),.pointer (some ⟨w.heap.size+1,0,none⟩)]] ((((w.alloc (.cells #[.pointer (some ⟨b,0,none⟩)] 88)).alloc (.cells #[.string p] 9)).alloc (.cells #[.string dt] 9)).alloc (.cells #[.string p] 9)) fun e w'=>∃ v,e = .returned v∧Q v w') :
  Calls Tryz.prog 189 #[.pointer (some ⟨b,0,none⟩),.string p,.string dt] w fun e w'=>∃ v,e = .returned v∧Q v w':=by
 have HST:=hide h
 clear h
 go_enter Tryz.func189,Tryz.ntmps189
 go_wp2_with fail
 refine (HST.out).mono ?_
 rintro _ w' ⟨v,rfl,h1⟩
 dsimp only
 have H1:=hide h1
 clear h1
 go_wp2_with fail
 go_ret
 exact ⟨_,rfl,H1.out⟩
theorem pdAppend (s:PSt) (p dt:ByteArray) (w:World) (h:s.In w) (hp:p.size≤9223372036854775807) (hf:Cnt4 s.R) (hft:PFit s.R)
  (hu:usedE s.fd s.R.now≤1000000000000) (hr0:0≤s.R.room) (hr1:s.R.room≤9223372036854775807) (hdt:dt.size≤1000000000000) (hsz:∀ f∈s.fs,(s.fd f).1.size≤1000000000000) :
  Calls Tryz.prog 189 #[.pointer (some ⟨s.b,0,none⟩),.string p,.string dt] w fun e w'=>∃ v,e = .returned v ∧
   (isPathB p=false→PRet s w 2 (fun _=>True) v w') ∧
   (isPathB p=true→s.R.left=0→PRet s w 0 (fun s1=>s1=s) v w') ∧
   (isPathB p=true→s.R.left≠0→s.R.room - (usedE s.fd s.R.now:Int)<(dt.size:Int)→PRet s w 4 (fun _=>True) v w') ∧
   (∀ f,isPathB p=true→s.R.left≠0→¬ s.R.room - (usedE s.fd s.R.now:Int)<(dt.size:Int)→findE p s.R.now=some f→PRet s w 0 (fun s1=>s1.R=s.R.wrote∧s1.fs=s.fs∧s1.fd=setNd s.fd f ((s.fd f).1++dt,(s.fd f).2)) v w') ∧
   (isPathB p=true→s.R.left≠0→¬ s.R.room - (usedE s.fd s.R.now:Int)<(dt.size:Int)→findE p s.R.now=none→PRet s w 0 (fun s1=>∃ f,w.heap.size≤f∧s1.R=RDk.wrote { s.R with now:=applyE s.R.now ⟨⟨#[]⟩,p,f⟩,chg:=s.R.chg ++ [⟨⟨#[]⟩,p,f⟩] }∧s1.fs=f::s.fs∧s1.fd=setNd s.fd f (dt,0)) v w'):=by
 have hb3:=four_below w (.cells #[.pointer (some ⟨s.b,0,none⟩)] 88) (.cells #[.string p] 9) (.cells #[.string dt] 9) (.cells #[.string p] 9)
 have h3:=h.later hb3
 have hs:StrsAt ((((w.alloc (.cells #[.pointer (some ⟨s.b,0,none⟩)] 88)).alloc (.cells #[.string p] 9)).alloc (.cells #[.string dt] 9)).alloc (.cells #[.string p] 9)) (.slice (some ⟨w.heap.size+1+1+1,0,none⟩) 1 1) [p]:=by
  refine ⟨_,1,rfl,fun i hi=>⟨_,rfl,?_⟩⟩
  have:i=0:=by simpa using hi
  subst this
  exact cell_of_row _ _ 0 _ _ _ (four3 _ _ _ _ _ _)
 have hst:=pstep_one s ⟨#[65,112,112,101,110,100]⟩ _ p 228 #[.pointer (some ⟨w.heap.size+1+1,0,none⟩),.pointer (some ⟨w.heap.size,0,none⟩),.pointer (some ⟨w.heap.size+1,0,none⟩)] _ (fun k=>k=4∧s.R.room - (usedE s.fd s.R.now:Int)<(dt.size:Int))
  (fun s1=>¬ s.R.room - (usedE s.fd s.R.now:Int)<(dt.size:Int)∧((∃ f,findE p s.R.now=some f∧s1.R=s.R∧s1.fs=s.fs∧s1.fd=setNd s.fd f ((s.fd f).1++dt,(s.fd f).2)) ∨
       (findE p s.R.now=none∧∃ f,w.heap.size≤f∧s1.R = { s.R with now:=applyE s.R.now ⟨⟨#[]⟩,p,f⟩,chg:=s.R.chg ++ [⟨⟨#[]⟩,p,f⟩] }∧s1.fs=f::s.fs∧s1.fd=setNd s.fd f (dt,0))))
  h3 hs hp hf (Tryz.enter _ _ Tryz.func228 (by kernel_rfl) _ rfl) (fun hpp=>(pappC s _ _ _ p dt _ h3 (four2 _ _ _ _ _ _) (four0 _ _ _ _ _ _) (four1 _ _ _ _ _ _) hp hpp hft hu hr0 hr1 hdt hsz).mono (by
   rintro e w1 (⟨rfl,h1,h2⟩|⟨rfl,h1,s1,hgo,hP⟩)
   ·exact .inl ⟨4,⟨rfl,h1⟩,rfl,h2⟩
   ·refine .inr ⟨rfl,s1,hgo,?_,?_,h1,?_⟩
    ·rcases hP with ⟨f,_,hR,_⟩|⟨_,f,_,hR,_⟩<;>rw [hR]
    ·rcases hP with ⟨f,_,hR,_⟩|⟨_,f,_,hR,_⟩<;>rw [hR]
    ·rcases hP with hP|⟨hn,f,hf,hP⟩
     ·exact .inl hP
     ·exact .inr ⟨hn,f,Nat.le_trans hb3.size hf,hP⟩))
 refine (pdAppend_fwd s.b p dt w _ hst).mono ?_
 rintro _ w' ⟨v,rfl,h1,h2,h3'⟩
 refine ⟨_,rfl,fun hb=>(h1 hb).below h hb3,fun hb h0=>(h2 hb h0).below h hb3,fun hb h0 hn=>?_,fun f hb h0 hn hfo=>?_,fun hb h0 hn hfo=>?_⟩
 ·rcases h3' hb h0 with ⟨k,⟨rfl,_⟩,h4,h5⟩|⟨rfl,s1,h4,h5,_⟩
  ·exact (PRet.bad (by decide) h4 h5).below h hb3
  ·exact absurd hn h5
 ·rcases h3' hb h0 with ⟨k,⟨rfl,h6⟩,h4,h5⟩|⟨rfl,s1,h4,_,⟨f',h5,h6,h7,h8⟩|⟨h5,_⟩⟩
  ·exact absurd h6 hn
  ·rw [hfo] at h5
   injection h5 with h5
   subst h5
   exact (PRet.ok h4 ⟨by dsimp only;rw [h6],h7,h8⟩).below h hb3
  ·rw [hfo] at h5;cases h5
 ·rcases h3' hb h0 with ⟨k,⟨rfl,h6⟩,h4,h5⟩|⟨rfl,s1,h4,_,⟨f',h5,h6,h7,h8⟩|⟨_,f,h5,h6,h7,h8⟩⟩
  ·exact absurd h6 hn
  ·rw [hfo] at h5;cases h5
  ·exact (PRet.ok h4 ⟨f,h5,by dsimp only;rw [h6],h7,h8⟩).below h hb3
set_option maxHeartbeats 4000000
set_option maxRecDepth 100000
open Go.RowKit
theorem crashN_snoc:∀ (l:List DE) (fd:Nat→ByteArray × Int) (ks:List Int) (i:Nat),i<l.length→crashN fd (l.take (i+1)) ks=setNd (crashN fd (l.take i) ks) (l.getD i DE0).blk (cutK (crashN fd (l.take i) ks (l.getD i DE0).blk) (ks.getD i 0))
 | [],_,_,i,h=>by simp at h
 | e::es,fd,ks,0,_=>by
  cases ks with
  | nil=>rfl
  | cons k ks=>rfl
 | e::es,fd,ks,i+1,h=>by
  rw [List.take_succ_cons,List.take_succ_cons]
  unfold crashN
  rw [crashN_snoc es _ _ i (by simpa using h)]
  have e1:(e::es).getD (i+1) DE0=es.getD i DE0:=rfl
  have e2:ks.tail.getD i 0=ks.getD (i+1) 0:=by cases ks<;>rfl
  rw [e1,e2]
theorem findE_at {l:List DE} (hr:Rise l):∀ {i:Nat},i<l.length→findE (l.getD i DE0).path l=some (l.getD i DE0).blk:=by
 induction l with
 | nil=>intro i h;simp at h
 | cons e es ih =>
  obtain ⟨h1,h2⟩:=List.pairwise_cons.1 hr
  intro i h
  cases i with
  | zero=>simp [findE]
  | succ i =>
   have hi:i<es.length:=by simpa using h
   have e1:(e::es).getD (i+1) DE0=es.getD i DE0:=rfl
   rw [e1]
   unfold findE
   have hm:es.getD i DE0∈es:=by rw [List.getD_eq_getElem?_getD,List.getElem?_eq_getElem hi];simp
   have hne:¬ e.path=(es.getD i DE0).path:=fun he=>by have:=h1 _ hm;rw [he,less_irrefl] at this;cases this
   rw [if_neg hne]
   exact ih h2 hi
def KAt (S:Nat→Prop) (w:World) (v:Value) (ks:List Int):Prop:=∃ oa c,v = .slice oa ks.length c∧∀ i,i<ks.length→∃ g o,oa=some ⟨g,o,none⟩∧¬ S g∧w.cell? ⟨g,o+i,none⟩=some (.int .i64 (ks.getD i 0))
structure CFit (s:PSt):Prop where
 len:s.R.safe.length+s.R.chg.length≤100000000
 chf:ChFit s.R.chg
 data:∀ f∈s.fs,(s.fd f).1.size≤1000000000000∧0≤(s.fd f).2∧(s.fd f).2≤((s.fd f).1.size:Int)
def nCr (paths:Int) (n:Nat):Nat:=(withinI paths (n:Int)).toNat
theorem nCr_le (paths:Int) (n:Nat):nCr paths n≤n:=by unfold nCr withinI;omega
theorem nCr_eq (paths:Int) (n:Nat):withinI paths (n:Int)=((nCr paths n:Nat):Int):=by unfold nCr withinI;omega
theorem own_str {w:World} {base:Nat} {v:Value} {l:List DE} (h:w.ownsRow base 9 1 v l.length (pathVs l)):∃ o cap,v = .slice o l.length cap∧∀ i,i<l.length→∃ g,o=some ⟨g,0,none⟩∧w.cell? ⟨g,i,none⟩=some (.string (l.getD i DE0).path):=by
 rcases h.2 with ⟨rfl,h0⟩|⟨g,cap,cur,rfl,hb,hg,hc,hm,hcs,htk⟩
 ·exact ⟨none,0,by rw [h0],fun i hi=>by omega⟩
 ·refine ⟨_,cap,rfl,fun i hi=>⟨g,rfl,?_⟩⟩
  rw [cell_of_row w g _ _ _ _ hg]
  have:(cur.toList.take (l.length * 1))[i]? = (pathVs l)[i]?:=by rw [htk]
  rw [List.getElem?_take,if_pos (by omega)] at this
  rw [← Array.getElem?_toList,this]
  simp [pathVs,List.getD_eq_getElem?_getD,List.getElem?_eq_getElem hi]

theorem pcut_sync (s:PSt) (f:Nat) (more:Int) (w:World) (h:s.In w) (hf:f∈s.fs) (hd:(s.fd f).1.size≤1000000000000∧0≤(s.fd f).2∧(s.fd f).2≤((s.fd f).1.size:Int)) :
  Calls Tryz.prog 88 #[.pointer (some ⟨f,0,none⟩),.int .i64 ((s.fd f).2+withinI more (((s.fd f).1.size:Int) - (s.fd f).2))] w fun e w'=>e = .returned (.tuple #[])∧∃ v,PGo s { s with fd:=setNd s.fd f ((cutK (s.fd f) more).1,min (s.fd f).2 (cutK (s.fd f) more).2),fv:=setV s.fv f v } w w':=by
 have e1:(s.fd f).2+withinI more (((s.fd f).1.size:Int) - (s.fd f).2)=((((s.fd f).2+min (max more 0) (((s.fd f).1.size:Int) - (s.fd f).2)).toNat:Nat):Int):=by unfold withinI;omega
 rw [e1]
 refine (pcut_any f (s.fd f) (s.fv f) _ w (h.fds f hf) (by omega)).mono ?_
 rintro e w' ⟨rfl,hg,v,hfd,hov⟩
 exact ⟨rfl,v,PGo.file h hf (Gr.of_grownBy hg (.inl rfl)) hfd (.inl hov)⟩
theorem PM.keySize {k:TypeId} {w:World} {b:Nat} {l:List DE} (h:PM Tryz.prog k w b l) (hk:Tryz.prog.underlying k=some .string):∀ e∈l,e.path.size≤maxLen:=by
 intro e he
 obtain ⟨es,hD,hks⟩:=World.ownsMap.keysOf h
 injection hD with hD
 obtain ⟨v,hv⟩:=hks (dE e) (by rw [← hD];exact List.mem_map.2 ⟨e,he,rfl⟩)
 obtain ⟨s,_,e2,hs⟩:=WideMaps.string_of_keyOf hk hv
 have e3:e.path.data.toList=s.data.toList:=by injection e2
 rw [WideShapes.bytes_inj e3]
 exact hs
def GoodX (x:ByteArray × Int):Prop:=x.1.size≤1000000000000∧0≤x.2∧x.2≤(x.1.size:Int)
theorem cutK_good {x:ByteArray × Int} (h:GoodX x) (k:Int):GoodX (cutK x k):=by
 obtain ⟨h1,h2,h3⟩:=h
 unfold GoodX cutK
 dsimp only
 rw [size_ext _ (by omega)]
 omega
theorem crashN_good:∀ (l:List DE) (fd:Nat→ByteArray × Int) (ks:List Int),(∀ e∈l,GoodX (fd e.blk))→∀ f,GoodX (fd f)→GoodX (crashN fd l ks f)
 | [],_,_,_,_,h=>h
 | e::es,fd,ks,hl,f,h=>by
  have he:=hl e (by simp)
  have key:∀ g,GoodX (fd g)→GoodX (setNd fd e.blk (cutK (fd e.blk) (ks.headD 0)) g):=by
   intro g hg
   unfold setNd
   split
   ·exact cutK_good he _
   ·exact hg
  unfold crashN
  exact crashN_good es _ _ (fun x hx=>key _ (hl x (by simp [hx]))) f (key f h)
theorem pclone_any (lb:Nat) (l:List DE) (w:World) (h:PM Tryz.prog 9 w lb l):Calls Tryz.prog 87 #[.map (some lb)] w fun e w'=>e = .returned (.map (some w.heap.size))∧PM Tryz.prog 9 w' w.heap.size l∧Below w.heap.size w w' :=
 (AnyW.maps_Clone_owns Tryz.laysW5 9 ptrRd lb l.length (dOf l) w h).mono fun _ _ ⟨h1,h2,_,h3⟩=>⟨h1,h2,h3⟩
theorem PSt.In.notOwn {s:PSt} {w:World} (h:s.In w) {k:Nat} {cur:Array Value} {T:TypeId} {fr:Nat × Nat} (hk:w.heap[k]? = some (.cells cur T fr)) (h1:T≠150) (h2:T≠214) (h3:T≠154) (h4:T≠5):¬ s.own k:=by
 intro ho
 rcases ho with e|e|e|e|e|⟨f,hf,e⟩
 ·exact type_ne hk h.is.blk h1 e
 ·obtain ⟨e1,c1,m1⟩:=h.is.now.isMap
  rw [e,m1] at hk;cases hk
 ·obtain ⟨e1,c1,m1⟩:=h.is.safe.isMap
  rw [e,m1] at hk;cases hk
 ·obtain ⟨c,hc⟩:=own_obj h.is.chg k e;exact type_ne hc hk (Ne.symm h2) rfl
 ·exact type_ne hk (h.fds k e).blk h3 rfl
 ·obtain ⟨c,hc⟩:=own_obj (h.fds f hf).row k e;exact type_ne hc hk (Ne.symm h4) rfl
theorem PDIs.setMb {w:World} {b mb lb mb':Nat} {R:RDk} {cv:Value} {l:List DE} (h:PDIs w b R mb lb cv) (hm:PM Tryz.prog 9 w mb' l) (hne:mb'≠lb):PDIs (w.setCell ⟨b,1,none⟩ (.map (some mb'))) b { R with now:=l } mb' lb cv:=by
 obtain ⟨n1,n2,n3,n4,n5⟩:=h.ne
 have hset:∀ k,k≠b→(w.setCell ⟨b,1,none⟩ (.map (some mb'))).heap[k]? = w.heap[k]?:=fun k hk=>heap_setCell_other _ _ _ _ (by simpa using hk)
 have hb:mb'≠b:=by
  intro e
  obtain ⟨e1,c1,m1⟩:=hm.isMap
  have:=h.blk
  rw [← e,m1] at this;cases this
 exact ⟨by rw [heap_setCell_same _ b 1 _ _ _ h.blk];rfl,hm.later (hset _ hb),h.safe.later (hset _ (Ne.symm n5)),hne,own_same h.chg (fun k hk _=>hset k (fun e=>n1 (by rw [← e];exact hk)))⟩
theorem cutK_size {x:ByteArray × Int} (h:0≤x.2∧x.2≤(x.1.size:Int)) (k:Int):(cutK x k).1.size=(cutK x k).2.toNat∧0≤(cutK x k).2:=by
 unfold cutK
 dsimp only
 constructor
 ·rw [size_ext _ (by omega)]
  omega
 ·omega
theorem cutK_eq {x:ByteArray × Int} (h:0≤x.2∧x.2≤(x.1.size:Int)) (k:Int):((cutK x k).1,((cutK x k).1.size:Int))=cutK x k:=by
 obtain ⟨h1,h2⟩:=cutK_size h k
 refine Prod.ext rfl ?_
 dsimp only
 omega
theorem pdCrash (s:PSt) (paths:Int) (kv:Value) (ks:List Int) (w:World) (h:s.In w) (hk:KAt s.own w kv ks) (hf:CFit s) (L:List DE) (hL:L=(s.R.chg.take (nCr paths s.R.chg.length)).foldl applyE s.R.safe) (hin:∀ e∈L,e.blk∈s.fs) :
  Calls Tryz.prog 47 #[.pointer (some ⟨s.b,0,none⟩),.int .i64 paths,kv] w fun e w'=>e = .returned (.tuple #[])∧∃ s',PGo s s' w w'∧s'.R = { s.R with now:=L,safe:=L,chg:=[],left := -1 }∧s'.fs=s.fs∧s'.fd=crashN s.fd L ks:=by
 obtain ⟨oa,ck,rfl,hkc⟩:=hk
 have HKC:=hide hkc
 have H:=hide h
 have hLl:L.length≤100000000:=by
  have h1:=applies_le (s.R.chg.take (nCr paths s.R.chg.length)) s.R.safe
  have h2:=hf.len
  rw [List.length_take] at h1
  rw [hL]
  omega
 obtain ⟨oc,cc,hcv⟩:=own_sl h.is.chg
 have c3:w.cell? ⟨s.b,3,none⟩=some s.cv:=cell_of_row _ _ 3 _ _ _ h.is.blk
 rw [hcv] at c3
 have HW:=hide (within_any paths (s.R.chg.length:Int) w)
 rw [nCr_eq] at HW
 have hst:=psettle_any s.b s.R s.mb s.lb s.cv (nCr paths s.R.chg.length) w h.is (nCr_le _ _) hf.len hf.chf
 rw [← hL] at hst
 have HST:=hide hst
 have HF:=hide hf
 have HIN:=hide hin
 obtain ⟨m,hm⟩ : ∃ m,m=ks.length:=⟨_,rfl⟩
 have HM:=hide hm
 clear h hkc hst hf hin hL hcv
 generalize hN:nCr paths s.R.chg.length=N at HW HST
 clear hN
 generalize s.R.chg.length=cl at c3 HW
 rw [← hm]
 clear hm
 go_enter Tryz.func47,Tryz.ntmps47
 go_wp2_with fail
 refine (HW.out).mono ?_
 rintro _ w0 ⟨hw,rfl⟩
 subst hw
 dsimp only
 go_wp2_with fail
 refine (HST.out).mono ?_
 rintro _ w1 ⟨rfl,hd1,hg1⟩
 dsimp only
 have hgo1:PGo s { s with R:={ s.R with safe:=L,chg:=[] },cv:=.slice none 0 0 } w0 w1:=by
  refine PGo.disk H.out (hg1.mono fun k _ e=>?_) hd1 (.inl rfl) (.inl rfl) (.inr fun k hk=>by cases hk) H.out.inow HIN.out (fun c hc=>by cases hc)
  rcases e with e|e
  ·exact .inl e
  ·exact .inr (.inr (.inl e))
 have d2:w1.cell? ⟨s.b,2,none⟩=some (.map (some s.lb)):=cell_of_row _ _ 2 _ _ _ hd1.blk
 have d1:w1.cell? ⟨s.b,1,none⟩=some (.map (some s.mb)):=cell_of_row _ _ 1 _ _ _ hd1.blk
 have HCL:=hide (pclone_any s.lb L w1 hd1.safe)
 have HGO1:=hide hgo1
 have HD1:=hide hd1
 clear hgo1 hd1 hg1 HST HW
 go_wp2_with fail
 refine (HCL.out).mono ?_
 rintro _ w2 ⟨rfl,hm2,hb2⟩
 dsimp only
 have hd2:=HD1.out.later hb2
 have e1:w2.cell? ⟨s.b,1,none⟩=some (.map (some s.mb)):=cell_of_row _ _ 1 _ _ _ hd2.blk
 have ef:=fun j=>frozen_of_row w2 s.b j _ _ hd2.blk
 have hne2:w1.heap.size≠s.lb:=fun e=>by have:=HD1.out.safe.lt;omega
 have hgo2:PGo s { s with R:={ s.R with now:=L,safe:=L,chg:=[] },mb:=w1.heap.size,cv:=.slice none 0 0 } w0 (w2.setCell ⟨s.b,1,none⟩ (.map (some w1.heap.size))):=by
  have hgo1:=HGO1.out.trans (PGo.refl HGO1.out.inn hb2)
  refine HGO1.out.trans (PGo.disk HGO1.out.inn ?_ (hd2.setMb hm2 hne2) (.inr (Nat.le_refl _)) (.inl rfl) (.inl rfl) HIN.out HIN.out (fun c hc=>by cases hc))
  exact (Gr.of_below hb2).trans (Gr.of_grownBy (grownBy_set _ _ _ _) (.inl rfl))
 have HGO2:=hide hgo2
 clear hgo2 hd2 hm2 hb2 HCL HD1 HGO1 d1 d2
 generalize hw3:w2.setCell ⟨s.b,1,none⟩ (.map (some w1.heap.size))=w3 at HGO2
 have HLI:=hide (plist_any s.b _ _ _ _ w3 HGO2.out.inn.is hLl)
 go_wp2_with fail
 clear hw3
 refine (HLI.out).mono ?_
 rintro _ w4 ⟨lv,rfl,hrow4,hb4⟩
 dsimp only
 obtain ⟨ol,cl2,hlv,hpc⟩:=own_str hrow4
 subst hlv
 obtain ⟨s2,hs2⟩ : ∃ s2:PSt,s2 = { s with R:={ s.R with now:=L,safe:=L,chg:=[] },mb:=w1.heap.size,cv:=.slice none 0 0 }:=⟨_,rfl⟩
 rw [← hs2] at HGO2
 have hin4:=HGO2.out.inn.later hb4
 have hpn:∀ i,i<L.length→∃ g,ol=some ⟨g,0,none⟩∧w4.cell? ⟨g,i,none⟩=some (.string (L.getD i DE0).path)∧∃ cur,w4.heap[g]? = some (.cells cur 9 (0,0)):=by
  intro i hi
  obtain ⟨g,e1,e2⟩:=hpc i hi
  exact ⟨g,e1,e2,own_obj hrow4 g (by rw [e1];rfl)⟩
 have hgo4:PGo s s2 w0 w4:=HGO2.out.trans (PGo.refl HGO2.out.inn hb4)
 have HRI:=hide (HGO2.out.inn.is.now.rise (Maps.string_keyed Tryz.underlying9))
 have hR2:s2.R = { s.R with now:=L,safe:=L,chg:=[] }:=by rw [hs2]
 have hfs2:s2.fs=s.fs:=by rw [hs2]
 have hfd2:s2.fd=s.fd:=by rw [hs2]
 have hb2':s2.b=s.b:=by rw [hs2]
 have hkn:∀ i,i<ks.length→∃ g o,oa=some ⟨g,o,none⟩∧w4.cell? ⟨g,o+i,none⟩=some (.int .i64 (ks.getD i 0))∧g<w4.heap.size∧¬ s2.own g:=by
  intro i hi
  obtain ⟨g,o,e1,e2,e3⟩:=HKC.out i hi
  have hlt:=World.block_lt_of_cell? _ _ e3
  have hbk:=hgo4.gr.block g hlt e2
  exact ⟨g,o,e1,(World.cell?_of_block (a:=⟨g,o+i,none⟩) hbk).trans e3,Nat.lt_of_lt_of_le hlt hgo4.gr.size,fun ho=>(hgo4.own g ho).elim e2 (fun hge=>absurd hlt (Nat.not_lt.2 hge))⟩
 have hrise:Rise L:=by have:=HRI.out;rw [hR2] at this;exact this
 have HRISE:=hide hrise
 have HPN:=hide hpn
 have HKN:=hide hkn
 have HIN4:=hide hin4
 have HGO4:=hide hgo4
 have HR2:=hide hR2
 have HFS2:=hide hfs2
 have HFD2:=hide hfd2
 clear hs2 hrow4 hb4 hpc hpn hkn hin4 hgo4 hR2 hfs2 hfd2 hrise HGO2 HLI HRI HKC e1 ef
 obtain ⟨n,hn⟩ : ∃ n,n=L.length:=⟨_,rfl⟩
 rw [← hn] at hLl ⊢
 have HN:=hide hn
 clear hn
 go_wp2_with fail
 go_loopw [30] (fun iv wr=>∃ k:Nat,k≤n∧iv = .int .i64 ((k:Nat):Int)∧∃ si:PSt,PGo s2 si w4 wr∧si.R=s2.R∧si.fs=s.fs∧si.fd=crashN s.fd (L.take k) ks) (fun iv _=>n - (intOf iv).toNat)
 case atStart=>exact ⟨0,Nat.zero_le _,rfl,s2,PGo.refl HIN4.out (Below.refl _ _),rfl,HFS2.out,by rw [HFD2.out];rfl⟩
 case round =>
  obtain ⟨k,hk,rfl,si,hgo,hR,hfs,hfd⟩:=hrel
  have hini:=hgo.inn
  have hbi:si.b=s.b:=hgo.b.trans hb2'
  have hdi:=hini.is
  rw [hbi] at hdi
  have r1:wr.cell? ⟨s.b,1,none⟩=some (.map (some si.mb)):=cell_of_row _ _ 1 _ _ _ hdi.blk
  have r5:wr.cell? ⟨s.b,5,none⟩=some (.int .i64 si.R.left):=cell_of_row _ _ 5 _ _ _ hdi.blk
  have rf:=fun j=>frozen_of_row wr s.b j _ _ hdi.blk
  have HGO:=hide hgo
  have HDI:=hide hdi
  have HFS:=hide hfs
  have HFD:=hide hfd
  have HR:=hide hR
  by_cases hlt:k<n
  ·have hkL:k<L.length:=by rw [← HN.out];exact hlt
   obtain ⟨g,rfl,hpe,cur,hcur⟩:=HPN.out k hkL
   have hbk:=hgo.gr.block g (lt_heap hcur) (HIN4.out.notOwn hcur (by decide) (by decide) (by decide) (by decide))
   have t0:wr.cell? ⟨g,k,none⟩=some (.string (L.getD k DE0).path):=(World.cell?_of_block (a:=⟨g,k,none⟩) hbk).trans hpe
   have hmem:L.getD k DE0∈L:=by rw [List.getD_eq_getElem?_getD,List.getElem?_eq_getElem hkL];simp
   have hfm:(L.getD k DE0).blk∈si.fs:=by rw [hfs];exact HIN.out _ hmem
   have hsnoc:=crashN_snoc L s.fd ks k hkL
   have hfe:=findE_at HRISE.out hkL
   have hlk:=hdi.now.look (t:=147) Tryz.underlying9 Tryz.underlying147 (Tryz.zeroPF wr) (L.getD k DE0).path (hdi.now.keySize Tryz.underlying9 _ (by rw [hR,HR2.out];exact hmem))
   have hnow:si.R.now=L:=by rw [hR,HR2.out]
   rw [hnow,hfe] at hlk
   dsimp only [ptrOf] at hlk
   rw [← hfd] at hsnoc
   generalize hE:L.getD k DE0=E at t0 hfm hsnoc hlk
   obtain ⟨ep,ef⟩:=E
   dsimp only at t0 hfm hsnoc hlk
   have HSN:=hide hsnoc
   have hfdi:=hini.fds ef hfm
   obtain ⟨o,cap,hfv,_,_⟩:=hfdi.shape
   have f0:wr.cell? ⟨ef,0,none⟩=some (si.fv ef):=cell_of_row _ _ 0 _ _ _ hfdi.blk
   have f1:wr.cell? ⟨ef,1,none⟩=some (.int .i64 (si.fd ef).2):=cell_of_row _ _ 1 _ _ _ hfdi.blk
   rw [hfv] at f0
   clear hE hgo hdi hfs hfd hR hpe hcur hbk hmem hsnoc hfe hnow
   have hcr:(si.fd ef).1.size≤1000000000000∧0≤(si.fd ef).2∧(si.fd ef).2≤((si.fd ef).1.size:Int):=by
    rw [HFD.out]
    exact crashN_good _ _ _ (fun e he=>HF.out.data _ (HIN.out e (List.mem_of_mem_take he))) _ (HF.out.data _ (by rw [← HFS.out];exact hfm))
   have hblr:s.b<wr.heap.size:=lt_of_row HDI.out.blk
   have HWI:=hide (fun more w'=>within_any more (((si.fd ef).1.size:Int) - (si.fd ef).2) w')
   have HCU:=hide (fun more (w':World) (hb:Below wr.heap.size wr w')=>pcut_sync si ef more w' (hini.later hb) hfm hcr)
   have HINI:=hide hini
   obtain ⟨q1,q2,q3⟩:=hcr
   clear hini hfdi
   have HKN2:Hid (k<m→∃ gk ok,oa=some ⟨gk,ok,none⟩∧wr.cell? ⟨gk,ok+k,none⟩=some (.int .i64 (ks.getD k 0))):=by
    intro hkk
    obtain ⟨gk,ok,e1,hkc,hlk,hnk⟩:=HKN.out k (by rw [← HM.out];exact hkk)
    have hbk2:=HGO.out.gr.block gk hlk hnk
    exact ⟨gk,ok,e1,(World.cell?_of_block (a:=⟨gk,ok+k,none⟩) hbk2).trans hkc⟩
   have HKN3:Hid (¬ k<m→ks.getD k 0=0):=by
    intro hkk
    rw [List.getD_eq_getElem?_getD,List.getElem?_eq_none (by rw [← HM.out];omega)]
    rfl
   generalize ks.getD k 0=more at HKN2 HKN3 HSN
   clear HKN
   go_upto_if 38 with fail
   go_cut [8,30] from 30 to 70 (fun mv iv wx=>mv = .int .i64 more∧iv = .int .i64 ((k:Nat):Int)∧wx=wr)
   case first =>
    by_cases hkk:k<m
    ·obtain ⟨gk,ok,rfl,tk⟩:=HKN2.out hkk
     go_wp2_with fail
     go_meet
     case rel=>exact ⟨rfl,rfl,rfl⟩
    ·have e1:decide (((k:Nat):Int)<((m:Nat):Int))=false:=by simp;omega
     have hm0:=HKN3.out hkk
     go_wp2_with fail
     go_meet
     case rel=>exact ⟨by rw [hm0],rfl,rfl⟩
   case rest =>
    obtain ⟨rfl,rfl,hwc⟩:=hcut
    subst hwc
    generalize hszf:(si.fd ef).1.size=sz at f0 HWI HCU q1 q3
    generalize hsyf:(si.fd ef).2=sy at f1 HWI HCU q2 q3
    have hw1:IntKind.i64.wrap ((sz:Int) - sy)=(sz:Int) - sy:=wrap64 (by omega) (by omega)
    have hw2:IntKind.i64.wrap (sy+withinI more ((sz:Int) - sy))=sy+withinI more ((sz:Int) - sy):=wrap64 (by unfold withinI;omega) (by unfold withinI;omega)
    have HSZ:=hide hszf
    have HSY:=hide hsyf
    clear hszf hsyf HKN2 HKN3
    go_upto_region 9 with fail
    go_cut [30] from 30 to 70 (fun iv wx=>iv = .int .i64 ((k:Nat):Int)∧∃ v,PGo si { si with fd:=setNd si.fd ef ((cutK (si.fd ef) more).1,min sy (cutK (si.fd ef) more).2),fv:=setV si.fv ef v } wc wx)
    case first =>
     go_region_with (first|(go_at_call 86;refine (HWI.out more wc.drew).mono ?_;rintro _ w6 ⟨hw6,rfl⟩;subst hw6)|(go_at_call 88;refine (HCU.out more wc.drew ((Below.refl _ _).drew)).mono ?_;rintro _ w7 ⟨rfl,v7,hgo7⟩))
     all_goals
      have HG7:=hide ((PGo.refl HINI.out ((Below.refl _ _).drew)).trans hgo7)
      clear hgo7
      go_wp2_with fail
      go_meet
      case rel=>exact ⟨rfl,v7,HG7.out⟩
    case rest =>
     obtain ⟨rfl,v7,hgo7⟩:=hcut
     have hin7:=hgo7.inn
     have hfd7:=hin7.fds ef hfm
     dsimp only at hfd7
     rw [setNd_same,setV_same] at hfd7
     have HSYN:=hide (psync_file ef _ v7 wc hfd7)
     have HG7:=hide hgo7
     clear hgo7 hfd7 hin7 HWI HCU
     go_wp2_with fail
     refine (HSYN.out).mono ?_
     rintro _ w8 ⟨rfl,hg8,hfd8⟩
     dsimp only at hfd8 ⊢
     have hgo8:=HG7.out.trans (PGo.file HG7.out.inn (f:=ef) hfm (Gr.of_grownBy hg8 (.inl rfl)) hfd8 (by dsimp only;rw [setV_same];exact .inl rfl))
     have hfin:si.fs=s.fs∧setNd (setNd si.fd ef ((cutK (si.fd ef) more).1,min sy (cutK (si.fd ef) more).2)) ef ((cutK (si.fd ef) more).1,((cutK (si.fd ef) more).1.size:Int))=crashN s.fd (L.take (k+1)) ks:=by
      refine ⟨HFS.out,?_⟩
      rw [setNd_twice,cutK_eq (by rw [HSZ.out,HSY.out];exact ⟨q2,q3⟩),HSN.out]
     have HGO8:=hide (HGO.out.trans hgo8)
     have HFIN:=hide hfin
     clear hgo8 hg8 hfd8 hfin
     go_wp2_with fail
     go_roundw
     case rel=>exact ⟨k+1,by omega,by go_num,_,HGO8.out,HR.out,HFIN.out.1,HFIN.out.2⟩
     case measure=>simp [intOf];omega
  ·have e1:decide (((k:Nat):Int)<((n:Nat):Int))=false:=by simp;omega
   have hkn:k=L.length:=by rw [← HN.out];omega
   have hgo9:PGo s { si with R:={ si.R with left := -1 } } w0 (wr.setCell ⟨s.b,5,none⟩ (.int .i64 (-1))) :=
    HGO4.out.trans (HGO.out.trans (PGo.set hini (by rw [hbi];exact grownBy_set _ _ _ _) (by rw [hbi];exact HDI.out.setLeft _) rfl rfl rfl))
   have hfin:({ si.R with left := -1 }:RDk) = { s.R with now:=L,safe:=L,chg:=[],left := -1 }∧si.fs=s.fs∧si.fd=crashN s.fd L ks:=by
    refine ⟨by rw [HR.out,HR2.out],HFS.out,?_⟩
    rw [HFD.out,hkn,List.take_length]
   have HG9:=hide hgo9
   have HFIN:=hide hfin
   clear hgo9 hfin hgo hini hdi hfs hfd hR HPN HKN
   go_wp2_with fail
   go_end0
   exact ⟨rfl,_,HG9.out,HFIN.out.1,HFIN.out.2.1,HFIN.out.2.2⟩
end Go.Proofs.YtncigfibncmioaaGreatDoor
namespace Go.Proofs.YtncigfibncmioaaGreatDoor
open Go.RowKit
theorem findE_some {x:ByteArray}:∀ {l:List DE} {f:Nat},findE x l=some f→∃ e∈l,e.path=x∧e.blk=f
 | [],_,h=>by cases h
 | e::es,f,h=>by
  unfold findE at h
  by_cases he:e.path=x
  ·rw [if_pos he] at h
   injection h with h
   exact ⟨e,by simp,he,h⟩
  ·rw [if_neg he] at h
   obtain ⟨y,hy,h1⟩:=findE_some h
   exact ⟨y,by simp [hy],h1⟩
theorem withE_find (p x:ByteArray) (nb:Nat):∀ {l:List DE},Rise l→findE x (withE p (some nb) l false)=if x=p then some nb else findE x l:=by
 intro l hl
 have h2:=dOf_put p nb l hl
 have h3:=dOf_at x (withE p (some nb) l false)
 rw [← h2] at h3
 by_cases hx:x=p
 ·subst hx
  rw [if_pos rfl]
  rw [Maps.atKey_put_same (D:=dOf l) ⟨l.map dE,rfl⟩ (show WideAt.IsKeyLit (kOf x) from trivial)] at h3
  cases hf:findE x (withE x (some nb) l false) with
  | none=>rw [hf] at h3;cases h3
  | some g =>
   rw [hf] at h3
   simp only [ptrD,DataW.lit.injEq,Lit.int.injEq,true_and] at h3
   have:g=nb:=by omega
   rw [this]
 ·rw [if_neg hx]
  have hne:kOf x≠kOf p:=fun e=>hx (WideShapes.bytes_inj (by injection e))
  rw [Maps.atKey_put_other hne,dOf_at] at h3
  cases hf:findE x (withE p (some nb) l false) with
  | none =>
   rw [hf] at h3
   cases hg:findE x l with
   | none=>rfl
   | some g=>rw [hg] at h3;cases h3
  | some g =>
   rw [hf] at h3
   cases hg:findE x l with
   | none=>rw [hg] at h3;cases h3
   | some g' =>
    rw [hg] at h3
    simp only [ptrD,DataW.lit.injEq,Lit.int.injEq,true_and] at h3
    have:g=g':=by omega
    rw [this]
theorem afterE_le (l:List DE) (frm too:ByteArray) (nb:Nat):(afterE l frm too nb).length≤l.length+1:=by
 unfold afterE
 have h1:=withE_le frm none l true
 have h2:=withE_le too (some nb) l false
 have h3:=withE_le too (some nb) (withE frm none l true) false
 simp only [if_true,Bool.false_eq_true,if_false] at h1 h2 h3
 dsimp only
 split<;>split<;>omega
theorem goE_le:∀ (cs:List CH) (l:List DE),(goE l cs).length≤l.length+cs.length
 | [],l=>by simp [goE]
 | c::cs,l=>by
  have h1:=goE_le cs (afterE l c.frm c.too c.blk)
  have h2:=afterE_le l c.frm c.too c.blk
  have h3:goE l (c::cs)=goE (afterE l c.frm c.too c.blk) cs:=rfl
  rw [h3,List.length_cons]
  omega
theorem usedE_mul {nd:Nat→ByteArray × Int} {B:Nat}:∀ {l:List DE},(∀ e∈l,(nd e.blk).1.size≤B)→usedE nd l≤l.length * B
 | [],_=>Nat.zero_le _
 | e::es,h=>by
  unfold usedE
  have h1:=h e (by simp)
  have h2:=usedE_mul (l:=es) (fun x hx=>h x (by simp [hx]))
  rw [List.length_cons,Nat.succ_mul]
  omega
def FitB (B:Nat) (x:ByteArray × Int):Prop:=x.1.size≤B∧0≤x.2∧x.2≤(x.1.size:Int)
theorem cutK_fit {B:Nat} {x:ByteArray × Int} (h:FitB B x) (k:Int):FitB B (cutK x k):=by
 obtain ⟨h1,h2,h3⟩:=h
 unfold FitB cutK
 dsimp only
 rw [size_ext _ (by omega)]
 omega
theorem crashN_fit {B:Nat}:∀ (l:List DE) (fd:Nat→ByteArray × Int) (ks:List Int),(∀ e∈l,FitB B (fd e.blk))→∀ f,FitB B (fd f)→FitB B (crashN fd l ks f)
 | [],_,_,_,_,h=>h
 | e::es,fd,ks,hl,f,h=>by
  have he:=hl e (by simp)
  have key:∀ g,FitB B (fd g)→FitB B (setNd fd e.blk (cutK (fd e.blk) (ks.headD 0)) g):=by
   intro g hg
   unfold setNd
   split
   ·exact cutK_fit he _
   ·exact hg
  unfold crashN
  exact crashN_fit es _ _ (fun x hx=>key _ (hl x (by simp [hx]))) f (key f h)
theorem KAt.mono {w:World} {v:Value} {ks:List Int} {S S':Nat→Prop} (h:KAt S w v ks) (hS:∀ k,S' k→S k):KAt S' w v ks:=by
 obtain ⟨oa,c,rfl,hk⟩:=h
 refine ⟨oa,c,rfl,fun i hi=>?_⟩
 obtain ⟨g,o,h1,h2,h3⟩:=hk i hi
 exact ⟨g,o,h1,fun e=>h2 (hS g e),h3⟩
theorem de_mem {l:List DE} {i:Nat} (h:i<l.length):l.getD i DE0∈l:=by
 rw [List.getD_eq_getElem?_getD,List.getElem?_eq_getElem h];simp
end Go.Proofs.YtncigfibncmioaaGreatDoor
