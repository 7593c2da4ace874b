/-
  PROVED HERE: what the program's own Append of disks does.
-/
import Derived.Test.YtncigfibncmioaaGreatDoorPdRead
set_option maxHeartbeats 4000000
set_option maxRecDepth 100000
namespace Go.Proofs.YtncigfibncmioaaGreatDoor
open Go.RowKit
theorem aC.BS {s:ai} {w:World} (h:s.In w) :
  aC s { s with fs:=w.heap.size::s.fs,fd:=cB s.fd w.heap.size (⟨#[]⟩,0),fv:=nO s.fv w.heap.size (.slice none 0 0) } w (w.alloc (.cells #[.slice none 0 0,.int .i64 0] 154)):=by
 have hb:Below w.heap.size w (w.alloc (.cells #[.slice none 0 0,.int .i64 0] 154)):=(Below.refl _ _).alloc (Nat.le_refl _) _;have h2:=h.later hb;have hne:∀ f∈s.fs,f≠w.heap.size:=fun f hf=>Nat.ne_of_lt (eB (h.fds f hf).blk)
 refine ⟨rfl,⟨h2.is,?_,?_,fun e he=>by simp [h.cK e he],fun e he=>by simp [h.cH e he],fun e he=>by simp [h.er e he]⟩,Gr.ae hb,?_⟩
 ·intro f hf;dsimp only at hf ⊢
  rcases List.mem_cons.1 hf with e|hf
  ·subst e;rw [BU,qL];exact ⟨heap_alloc_new _ _,World.ownsRow_nil _ _ _ _⟩
  ·rw [BV _ _ (hne f hf),uP _ _ (hne f hf)];exact h2.fds f hf
 ·intro f hf g hg AB k hk;dsimp only at hf hg hk ⊢
  rcases List.mem_cons.1 hf with e|hf
  ·subst e;rw [qL] at hk
   cases hk
  ·rw [uP _ _ (hne f hf)] at hk
   rcases List.mem_cons.1 hg with e|hg
   ·subst e;rw [qL];intro e
    cases e
   ·rw [uP _ _ (hne g hg)];exact h.sep f hf g hg AB k hk
 ·intro k hk
  rcases hk with e|e|e|e|e|⟨f,hf,e⟩
  ·exact .inl (.inl e)
  ·exact .inl (.inr (.inl e))
  ·exact .inl (.inr (.inr (.inl e)))
  ·exact .inl (.inr (.inr (.inr (.inl e))))
  ·dsimp only at e
   rcases List.mem_cons.1 e with e|e
   ·exact .inr (by rw [e];exact Nat.le_refl _)
   ·exact .inl (.inr (.inr (.inr (.inr (.inl e)))))
  ·dsimp only at hf e
   rcases List.mem_cons.1 hf with e2|hf
   ·subst e2;rw [qL] at e
    cases e
   ·rw [uP _ _ (hne f hf)] at e;exact .inl (.inr (.inr (.inr (.inr (.inr ⟨f,hf,e⟩)))))
theorem wrap64 {x:Int} (h1 : -9223372036854775808<=x) (h2:x<=9223372036854775807):IntKind.i64.wrap x=x:=by
 unfold IntKind.wrap;simp only [IntKind.bits,IntKind.signed];simp;omega
theorem Tryz.yT:(Tryz.prog.info? 5).map (fun i=>(i.zero,i.size,i.bytes))=some (some (.int .u8 0),1,1):=by kernel_rfl
theorem aC.append {s:ai} {w w5:World} (h:s.In w) {f:Nat} (hf:f∈s.fs) {x:ByteArray × Int} (hx:s.fd f=x) {n:Nat} (hn:x.1.size=n) {dt:ByteArray} {oa:Option Addr} {cap:Nat}
  (hown:w5.ownsRow 0 5 1 (.slice oa (n+dt.size) cap) (n+dt.size) (Lib.strCells x.1++Lib.strCells dt)) (hg:w.grownBy w5 (s.fv f).ownBlock) (hno:BO w (s.fv f) (.slice oa (n+dt.size) cap)) :
  aC s { s with fd:=cB s.fd f (x.1++dt,x.2),fv:=nO s.fv f (.slice oa (n+dt.size) cap) } w (w5.setCell ⟨f,0,none⟩ (.slice oa (n+dt.size) cap)):=by
 subst hx;subst hn;have b7:=h.fds f hf;have hblk:w5.heap[f]? = some (.cells #[s.fv f,.int .i64 (s.fd f).2] 154 (0,0)):=(hg.block f (eB b7.blk) (fun e=>b7.yU e.symm)).trans b7.blk;refine aC.file h hf ?_ (FD.Sz hblk rfl (by dsimp only;rw [Qjn,show ((s.fd f).1++dt).size=(s.fd f).1.size+dt.size by simp];exact hown)) hno;refine ⟨hg.os,hg.tape,hg.output,by simpa using hg.size,fun k hk hn=>?_⟩;rw [heap_setCell_other _ _ _ _ (fun e=>hn (.inl e))];exact hg.block k hk (fun e=>hn (.inr e.symm))
theorem Qvw (s:ai) (g0 g1 g2:Nat) (p dt:ByteArray) (w:World) (h:s.In w) (q0:w.heap[g0]? = some (.cells #[.string dt] 9 (0,0))) (q1:w.heap[g1]? = some (.cells #[.pointer (some ⟨s.b,0,none⟩)] 88 (0,0))) (q2:w.heap[g2]? = some (.cells #[.string p] 9 (0,0))) (hp:p.size<=9223372036854775807) (dV:aK p=true) (cP:qm s.R)
  (hu:gH s.fd s.R.now<=1000000000000) (gL:0<=s.R.room) (hr1:s.R.room<=9223372036854775807) (Fj:dt.size<=1000000000000) (hsz:∀ f∈s.fs,(s.fd f).1.size<=1000000000000) :
  Calls Tryz.prog 228 #[.pointer (some ⟨g0,0,none⟩),.pointer (some ⟨g1,0,none⟩),.pointer (some ⟨g2,0,none⟩)] w fun e w1 =>
   (e = .returned (eI 4)/\s.R.room - (gH s.fd s.R.now:Int)<(dt.size:Int)/\Below w.heap.size w w1) ∨
   (e = .returned .nilIface/\¬ s.R.room - (gH s.fd s.R.now:Int)<(dt.size:Int)/\∃ s1,aC s s1 w w1 /\
    ((∃ f,aO p s.R.now=some f/\s1.R=s.R/\s1.fs=s.fs/\s1.fd=cB s.fd f ((s.fd f).1++dt,(s.fd f).2)) ∨
     (aO p s.R.now=none/\∃ f,w.heap.size<=f/\s1.R = { s.R with now:=cC s.R.now ⟨⟨#[]⟩,p,f⟩,aw:=s.R.aw ++ [⟨⟨#[]⟩,p,f⟩] }/\s1.fs=f::s.fs/\s1.fd=cB s.fd f (dt,0)))):=by
 obtain ⟨i0,hi,hz0,hz1,hz2⟩:=info_parts Tryz.yT;have c0:w.cell? ⟨g0,0,none⟩=some (.string dt):=cell_of_row _ _ 0 _ _ _ q0;have c1:w.cell? ⟨g1,0,none⟩=some (.pointer (some ⟨s.b,0,none⟩)):=cell_of_row _ _ 0 _ _ _ q1;have c2:w.cell? ⟨g2,0,none⟩=some (.string p):=cell_of_row _ _ 0 _ _ _ q2;have Q0:=aa q0;clear q2;have hl0:=ax q0;have Fh:=ax q1;have H:=aa h;have HU:=aa (fun (w':World) (hb:Below w.heap.size w w')=>Qn6 s w' (h.later hb) hu);have b0:w.cell? ⟨s.b,0,none⟩=some (.int .i64 s.R.room):=cell_of_row _ _ 0 _ _ _ h.is.blk;have hbl:=eB h.is.blk;clear h;obtain ⟨U,hU⟩ : ∃ U:Nat,U=gH s.fd s.R.now:=⟨_,rfl⟩;rw [<- hU] at hu HU ⊢;have eR : -9223372036854775808<=s.R.room - (U:Int):=by omega
 have hw2:s.R.room - (U:Int)<=9223372036854775807:=by omega
 have iK:=aa (wrap64 eR hw2);obtain ⟨BG,SD⟩ : ∃ BG:Prop,BG=(s.R.room - (U:Int)<(dt.size:Int)):=⟨_,rfl⟩;rw [<- SD];have yV:=aa SD;obtain ⟨fo,kY⟩ : ∃ fo,fo=aO p s.R.now:=⟨_,rfl⟩;have O0:=aa kY;clear hU SD kY;go_enter Tryz.func228,Tryz.ntmps228;go_upto_region 1 with fail
 go_cut [14] from 5 (fun bv wx=>bv = .bool (decide (s.R.room - (U:Int)<(dt.size:Int)))/\Below w.heap.size w wx)
 case first =>
  go_region_held3 (fun w'=>w'.cell? ⟨g0,0,none⟩=some (.string dt)/\w'.cell? ⟨g1,0,none⟩=some (.pointer (some ⟨s.b,0,none⟩))/\w'.cell? ⟨s.b,0,none⟩=some (.int .i64 s.R.room)/\Below w.heap.size w w') (first|exact ⟨c0,c1,b0,(Below.refl w.heap.size w).drew⟩|exact ⟨cell_later ig c0,cell_later ig c1,cell_later ig b0,(Below.refl w.heap.size w).drew.trans ig⟩|go_keep) (first|(go_at_call 63;refine (HU.out w.drew ((Below.refl _ _).drew)).mono ?_;rintro _ w6 ⟨rfl,ig⟩))
  go_wp2_with fail
  go_meet
  case rel=>exact ⟨by rw [iK.out],(Below.refl w.heap.size w).drew.trans ig⟩
 case rest =>
  obtain ⟨rfl,jK⟩:=hcut;have k0:=cell_later jK c0;have k1:=cell_later jK c1;have k2:=cell_later jK c2;have cJ:=H.out.later jK;have Zt:wc.cell? ⟨s.b,1,none⟩=some (.map (some s.mb)):=cell_of_row _ _ 1 _ _ _ cJ.is.blk;have wH:=aa jK;have kZ:=aa cJ;have hlk:∀ nq,(Instr.lookup 147 (.map (some s.mb)) (.string p) false).run Tryz.prog (wc.drewN nq) = .ok (Dz fo) (wc.drewN nq):=fun nq=>by
   rw [O0.out];exact (cJ.is.now.later (((Below.refl wc.heap.size wc).drewN nq).block _ cJ.is.now.lt)).look (t:=147) Tryz.underlying9 Tryz.underlying147 (Tryz.sZ _) p hp
  have vM:g0<wc.heap.size:=Nat.lt_of_lt_of_le hl0 jK.size;have BW:g1<wc.heap.size:=Nat.lt_of_lt_of_le Fh jK.size;have td:g2<wc.heap.size:=World.block_lt_of_cell? wc ⟨g2,0,none⟩ k2;have QC:=aa ((jK.block g0 hl0).trans q0);clear jK cJ HU q0 q1
  by_cases nP:s.R.room - (U:Int)<(dt.size:Int)
  ·clear hlk;have ht:decide (s.R.room - (U:Int)<(dt.size:Int))=true:=decide_eq_true nP;rw [ht];have BX:=aa nP;clear nP ht;go_wp2_with fail;go_ret;exact .inl ⟨rfl,by rw [yV.out];exact BX.out,wH.out⟩
  ·have ht:decide (s.R.room - (U:Int)<(dt.size:Int))=false:=decide_eq_false nP;rw [ht];have BX:=aa nP;clear nP ht
   cases fo with
   | none =>
    dsimp only [Dz] at hlk;go_wp2_with fail
    go_quiet (fail)
    obtain ⟨wq,FZ⟩ : ∃ wq,wq=wc.drewN nq:=⟨_,rfl⟩;rw [<- FZ];have nQ:Below wc.heap.size wc wq:=by rw [FZ];exact (Below.refl _ _).drewN nq
    have r0:=cell_later nQ k0;have r1:=cell_later nQ k1;have r2:=cell_later nQ k2;have Li:g0<wq.heap.size:=Nat.lt_of_lt_of_le vM nQ.size;have SE:g1<wq.heap.size:=Nat.lt_of_lt_of_le BW nQ.size;have SF:g2<wq.heap.size:=Nat.lt_of_lt_of_le td nQ.size;have QQ:=aa ((nQ.block g0 vM).trans QC.out);have O1:=aa (wH.out.trans (nQ.mono wH.out.size));have jw:=kZ.out.later nQ;clear FZ hlk k0 k1 k2 Zt QC vM BW td;have SG:=aC.BS jw;have BZ:=SG.ay;have HS:=aa (SH s.b wq.heap.size s.R s.mb s.lb s.cv ⟨#[]⟩ p _ BZ.is cP.1 cP.2 (by decide) (Dy dV));have q3:(wq.alloc (.cells #[.slice none 0 0,.int .i64 0] 154)).heap[g0]? = some (.cells #[.string dt] 9 (0,0)):=(Below.heap_alloc _ _ g0 Li).trans QQ.out;have Q3:=aa q3;have Lj:=aa SG;have pz:=aa jw;clear jw SG BZ q3 nQ;go_wp2_with fail;refine (HS.out).mono ?_;rintro _ w2 ⟨rfl,hg2,rU,mJ,vN⟩;dsimp only;have hch:=aC.change Lj.out.ay (f:=wq.heap.size) (by simp) hg2 mJ vN;have hall:=Lj.out.trans hch;obtain ⟨e1,m1,em⟩:=Lj.out.ay.is.now.isMap;have q4:w2.heap[g0]? = some (.cells #[.string dt] 9 (0,0)):=by
     refine (hg2.block g0 (ax Q3.out) (fun e=>?_)).trans Q3.out
     rcases e with e|e|e
     ·exact ja Q3.out Lj.out.ay.is.blk (by decide) e
     ·have:=Q3.out;rw [e] at this;rw [em] at this
      cases this
     ·obtain ⟨cur,hc⟩:=eO Lj.out.ay.is.aw g0 e;exact ja hc Q3.out (by decide) rfl
    have l0:w2.cell? ⟨g0,0,none⟩=some (.string dt):=cell_of_row _ _ 0 _ _ _ q4;have yX:=hch.ay;have b7:=yX.fds wq.heap.size (by simp);dsimp only at b7;rw [BU,qL] at b7;have f0:w2.cell? ⟨wq.heap.size,0,none⟩=some (.slice none 0 0):=cell_of_row _ _ 0 _ _ _ b7.blk;have ff:=fun j=>frozen_of_row w2 wq.heap.size j _ _ b7.blk
    have aA:=aa (World.ownsRow_nil w2.drew 0 5 1);have Bu:=aa hall;have qM:=aa hch;have SI:=aa b7.blk;have gZ:=eB b7.blk;have vu:0+dt.size<=140737488355328:=by omega
    clear hg2 mJ vN hch hall q4 yX b7 em;go_wp2_with fail
    go_region_law (refine Zu _ (by rfl) _ _ _ _ (by rfl) 5 i0 Tryz.underlying136 Tryz.underlying9 hi hz0 hz1 hz2 _ 0 _ (by rfl) aA.out dt (by rfl) vu ?_;intro oa pk w5 cU hgrow hno;have sb:w5.heap[wq.heap.size]? = _:=(hgrow.block wq.heap.size gZ (fun e=>by cases e)).trans SI.out;have s0:w5.cell? ⟨wq.heap.size,0,none⟩=_:=cell_of_row _ _ 0 _ _ _ sb;have sf:=frozen_of_row w5 wq.heap.size 0 _ _ sb)
    all_goals
     have hap:=aC.append qM.out.ay (f:=wq.heap.size) (by simp) (x:=(⟨#[]⟩,0)) (by dsimp only;rw [BU]) (n:=0) rfl cU (by dsimp only;rw [qL];exact dF (jJ ((Below.refl _ _).drew) _) hgrow) (by dsimp only;rw [qL];exact hno);have aV:=(aC.refl H.out O1.out).trans (Bu.out.trans hap);rw [Nat.zero_add] at aV;have bG:=aa aV;clear hap aV cU hgrow hno sb s0 sf;go_wp2_with fail;go_ret;refine .inr ⟨rfl,by rw [yV.out];have:=BX.out;omega,_,bG.out,?_⟩;refine .inr ⟨O0.out.symm,wq.heap.size,O1.out.size,rfl,rfl,?_⟩;dsimp only;rw [Yv,Qns]
   | some f =>
    dsimp only [Dz] at hlk;go_wp2_with fail
    go_quiet (fail)
    obtain ⟨wq,FZ⟩ : ∃ wq,wq=wc.drewN nq:=⟨_,rfl⟩;rw [<- FZ];have nQ:Below wc.heap.size wc wq:=by rw [FZ];exact (Below.refl _ _).drewN nq
    have r0:=cell_later nQ k0;have r1:=cell_later nQ k1;have r2:=cell_later nQ k2;have Li:g0<wq.heap.size:=Nat.lt_of_lt_of_le vM nQ.size;have SE:g1<wq.heap.size:=Nat.lt_of_lt_of_le BW nQ.size;have SF:g2<wq.heap.size:=Nat.lt_of_lt_of_le td nQ.size;have QQ:=aa ((nQ.block g0 vM).trans QC.out);have O1:=aa (wH.out.trans (nQ.mono wH.out.size));have jw:=kZ.out.later nQ;clear FZ hlk k0 k1 k2 Zt QC vM BW td;have hm:f∈s.fs:=by
     obtain ⟨e,he,hb⟩:=DA O0.out.symm;rw [<- hb];exact H.out.cK e he
    have b7:=jw.fds f hm;obtain ⟨o,cap,rV,hca,hcb⟩:=b7.shape;have f0:wq.cell? ⟨f,0,none⟩=some (s.fv f):=cell_of_row _ _ 0 _ _ _ b7.blk;rw [rV] at f0;have ff:=fun j=>frozen_of_row wq f j _ _ b7.blk
    have hrow:=b7.row;rw [rV] at hrow;have aA:=aa (gA hrow ((Below.refl _ _).drew));have pz:=aa jw;have SI:=aa b7.blk;have gZ:=eB b7.blk;have F7:=aa b7.yU;have vu:(s.fd f).1.size+dt.size<=140737488355328:=by have:=hsz f hm;omega
    have O2:=aa rV;clear jw b7 hrow nQ rV;generalize qN:(s.fd f).1.size=sz at f0 aA vu hca O2;have SJ:=aa qN;clear qN;go_wp2_with fail
    go_region_law (refine Zu _ (by rfl) _ _ _ _ (by rfl) 5 i0 Tryz.underlying136 Tryz.underlying9 hi hz0 hz1 hz2 _ sz _ (by rfl) aA.out dt (by rfl) vu ?_;intro oa pk w5 cU hgrow hno;have sb:w5.heap[f]? = _:=(hgrow.block f gZ (fun e=>F7.out (by rw [O2.out];exact e.symm))).trans SI.out;have s0:w5.cell? ⟨f,0,none⟩=_:=cell_of_row _ _ 0 _ _ _ sb;have sf:=frozen_of_row w5 f 0 _ _ sb)
    all_goals
     have hap:=aC.append pz.out hm rfl SJ.out cU (by rw [O2.out];exact dF (jJ ((Below.refl _ _).drew) _) hgrow) (by rw [O2.out];exact hno);have aV:=(aC.refl H.out O1.out).trans hap;have bG:=aa aV;clear hap aV cU hgrow hno sb s0 sf;go_wp2_with fail;go_ret;refine .inr ⟨rfl,by rw [yV.out];have:=BX.out;omega,_,bG.out,?_⟩;exact .inl ⟨f,O0.out.symm,rfl,rfl,rfl⟩
theorem Qjj (b:Nat) (p dt:ByteArray) (w:World) (Q:Value->World->Prop)
  (h:Calls Tryz.prog 166 #[.pointer (some ⟨b,0,none⟩),.string ⟨#[65,112,112,101,110,100]⟩,.slice (some ⟨w.heap.size+1+1+1,0,none⟩) 1 1,.func (.func 228) #[] #[.pointer (some ⟨w.heap.size+1+1,0,none⟩),.pointer (some ⟨w.heap.size,0,none⟩),.pointer (some ⟨w.heap.size+1,0,none⟩)]] ((((w.alloc (.cells #[.pointer (some ⟨b,0,none⟩)] 88)).alloc (.cells #[.string p] 9)).alloc (.cells #[.string dt] 9)).alloc (.cells #[.string p] 9)) fun e w'=>∃ v,e = .returned v/\Q v w') :
  Calls Tryz.prog 189 #[.pointer (some ⟨b,0,none⟩),.string p,.string dt] w fun e w'=>∃ v,e = .returned v/\Q v w':=by
 have HST:=aa h;clear h;go_enter Tryz.func189,Tryz.ntmps189;go_wp2_with fail;refine (HST.out).mono ?_;rintro _ w' ⟨v,rfl,h1⟩;dsimp only;have H1:=aa h1;clear h1;go_wp2_with fail;go_ret;exact ⟨_,rfl,H1.out⟩
theorem Qqa (s:ai) (p dt:ByteArray) (w:World) (h:s.In w) (hp:p.size<=9223372036854775807) (hf:kN s.R) (cP:qm s.R)
  (hu:gH s.fd s.R.now<=1000000000000) (gL:0<=s.R.room) (hr1:s.R.room<=9223372036854775807) (Fj:dt.size<=1000000000000) (hsz:∀ f∈s.fs,(s.fd f).1.size<=1000000000000) :
  Calls Tryz.prog 189 #[.pointer (some ⟨s.b,0,none⟩),.string p,.string dt] w fun e w'=>∃ v,e = .returned v /\
   (aK p=false->aU s w 2 (fun _=>True) v w') /\
   (aK p=true->s.R.left=0->aU s w 0 (fun s1=>s1=s) v w') /\
   (aK p=true->s.R.left≠0->s.R.room - (gH s.fd s.R.now:Int)<(dt.size:Int)->aU s w 4 (fun _=>True) v w') /\
   (∀ f,aK p=true->s.R.left≠0->¬ s.R.room - (gH s.fd s.R.now:Int)<(dt.size:Int)->aO p s.R.now=some f->aU s w 0 (fun s1=>s1.R=s.R.wrote/\s1.fs=s.fs/\s1.fd=cB s.fd f ((s.fd f).1++dt,(s.fd f).2)) v w') /\
   (aK p=true->s.R.left≠0->¬ s.R.room - (gH s.fd s.R.now:Int)<(dt.size:Int)->aO p s.R.now=none->aU s w 0 (fun s1=>∃ f,w.heap.size<=f/\s1.R=dz.wrote { s.R with now:=cC s.R.now ⟨⟨#[]⟩,p,f⟩,aw:=s.R.aw ++ [⟨⟨#[]⟩,p,f⟩] }/\s1.fs=f::s.fs/\s1.fd=cB s.fd f (dt,0)) v w'):=by
 have hb3:=Zv w (.cells #[.pointer (some ⟨s.b,0,none⟩)] 88) (.cells #[.string p] 9) (.cells #[.string dt] 9) (.cells #[.string p] 9);have h3:=h.later hb3;have hs:xc ((((w.alloc (.cells #[.pointer (some ⟨s.b,0,none⟩)] 88)).alloc (.cells #[.string p] 9)).alloc (.cells #[.string dt] 9)).alloc (.cells #[.string p] 9)) (.slice (some ⟨w.heap.size+1+1+1,0,none⟩) 1 1) [p]:=by
  refine ⟨_,1,rfl,fun i hi=>⟨_,rfl,?_⟩⟩;have:i=0:=by simpa using hi
  subst this;exact cell_of_row _ _ 0 _ _ _ (SL _ _ _ _ _ _)
 have hst:=SM s ⟨#[65,112,112,101,110,100]⟩ _ p 228 #[.pointer (some ⟨w.heap.size+1+1,0,none⟩),.pointer (some ⟨w.heap.size,0,none⟩),.pointer (some ⟨w.heap.size+1,0,none⟩)] _ (fun k=>k=4/\s.R.room - (gH s.fd s.R.now:Int)<(dt.size:Int))
  (fun s1=>¬ s.R.room - (gH s.fd s.R.now:Int)<(dt.size:Int)/\((∃ f,aO p s.R.now=some f/\s1.R=s.R/\s1.fs=s.fs/\s1.fd=cB s.fd f ((s.fd f).1++dt,(s.fd f).2)) ∨
       (aO p s.R.now=none/\∃ f,w.heap.size<=f/\s1.R = { s.R with now:=cC s.R.now ⟨⟨#[]⟩,p,f⟩,aw:=s.R.aw ++ [⟨⟨#[]⟩,p,f⟩] }/\s1.fs=f::s.fs/\s1.fd=cB s.fd f (dt,0))))
  h3 hs hp hf (Tryz.enter _ _ Tryz.func228 (by kernel_rfl) _ rfl) (fun dV=>(Qvw s _ _ _ p dt _ h3 (Zw _ _ _ _ _ _) (Zx _ _ _ _ _ _) (Zy _ _ _ _ _ _) hp dV cP hu gL hr1 Fj hsz).mono (by
   rintro e w1 (⟨rfl,h1,h2⟩|⟨rfl,h1,s1,hgo,hP⟩)
   ·exact .inl ⟨4,⟨rfl,h1⟩,rfl,h2⟩
   ·refine .inr ⟨rfl,s1,hgo,?_,?_,h1,?_⟩
    ·rcases hP with ⟨f,_,hR,_⟩|⟨_,f,_,hR,_⟩<;>rw [hR]
    ·rcases hP with ⟨f,_,hR,_⟩|⟨_,f,_,hR,_⟩<;>rw [hR]
    ·rcases hP with hP|⟨hn,f,hf,hP⟩
     ·exact .inl hP
     ·exact .inr ⟨hn,f,Nat.le_trans hb3.size hf,hP⟩))
 refine (Qjj s.b p dt w _ hst).mono ?_;rintro _ w' ⟨v,rfl,h1,h2,F8⟩;refine ⟨_,rfl,fun hb=>(h1 hb).below h hb3,fun hb h0=>(h2 hb h0).below h hb3,fun hb h0 hn=>?_,fun f hb h0 hn kY=>?_,fun hb h0 hn kY=>?_⟩
 ·rcases F8 hb h0 with ⟨k,⟨rfl,_⟩,h4,h5⟩|⟨rfl,s1,h4,h5,_⟩
  ·exact (aU.bad (by decide) h4 h5).below h hb3
  ·exact absurd hn h5
 ·rcases F8 hb h0 with ⟨k,⟨rfl,h6⟩,h4,h5⟩|⟨rfl,s1,h4,_,⟨f',h5,h6,h7,h8⟩|⟨h5,_⟩⟩
  ·exact absurd h6 hn
  ·rw [kY] at h5;injection h5 with h5
   subst h5;exact (aU.ok h4 ⟨by dsimp only;rw [h6],h7,h8⟩).below h hb3
  ·rw [kY] at h5;cases h5
 ·rcases F8 hb h0 with ⟨k,⟨rfl,h6⟩,h4,h5⟩|⟨rfl,s1,h4,_,⟨f',h5,h6,h7,h8⟩|⟨_,f,h5,h6,h7,h8⟩⟩
  ·exact absurd h6 hn
  ·rw [kY] at h5;cases h5
  ·exact (aU.ok h4 ⟨f,h5,by dsimp only;rw [h6],h7,h8⟩).below h hb3
open Go.RowKit
theorem ZV:∀ (l:List DE) (fd:Nat->ByteArray × Int) (ks:List Int) (i:Nat),i<l.length->nr fd (l.take (i+1)) ks=cB (nr fd (l.take i) ks) (l.getD i gV).blk (cF (nr fd (l.take i) ks (l.getD i gV).blk) (ks.getD i 0))
 | [],_,_,i,h=>by simp at h
 | e::es,fd,ks,0,_=>by
  cases ks with
  | nil=>rfl
  | cons k ks=>rfl
 | e::es,fd,ks,i+1,h=>by
  rw [List.take_succ_cons,List.take_succ_cons];unfold nr;rw [ZV es _ _ i (by simpa using h)];have e1:(e::es).getD (i+1) gV=es.getD i gV:=rfl;have e2:ks.tail.getD i 0=ks.getD (i+1) 0:=by cases ks<;>rfl
  rw [e1,e2]
theorem Qqc {l:List DE} (hr:bZ l):∀ {i:Nat},i<l.length->aO (l.getD i gV).path l=some (l.getD i gV).blk:=by
 induction l with
 | nil=>intro i h;simp at h
 | cons e es ih =>
  obtain ⟨h1,h2⟩:=List.pairwise_cons.1 hr;intro i h
  cases i with
  | zero=>simp [aO]
  | succ i =>
   have hi:i<es.length:=by simpa using h
   have e1:(e::es).getD (i+1) gV=es.getD i gV:=rfl;rw [e1];unfold aO;have hm:es.getD i gV∈es:=by rw [List.getD_eq_getElem?_getD,List.getElem?_eq_getElem hi];simp
   have hne:¬ e.path=(es.getD i gV).path:=fun he=>by have:=h1 _ hm;rw [he,mo] at this;cases this
   rw [if_neg hne];exact ih h2 hi
def kh (S:Nat->Prop) (w:World) (v:Value) (ks:List Int):Prop:=∃ oa c,v = .slice oa ks.length c/\∀ i,i<ks.length->∃ g o,oa=some ⟨g,o,none⟩/\¬ S g/\w.cell? ⟨g,o+i,none⟩=some (.int .i64 (ks.getD i 0))
structure SY (s:ai):Prop where
 len:s.R.safe.length+s.R.aw.length<=100000000
 ql:kd s.R.aw
 data:∀ f∈s.fs,(s.fd f).1.size<=1000000000000/\0<=(s.fd f).2/\(s.fd f).2<=((s.fd f).1.size:Int)
def vT (paths:Int) (n:Nat):Nat:=(vU paths (n:Int)).toNat
theorem Qud (paths:Int) (n:Nat):vT paths n<=n:=by unfold vT vU;omega
theorem Que (paths:Int) (n:Nat):vU paths (n:Int)=((vT paths n:Nat):Int):=by unfold vT vU;omega
theorem Jk {w:World} {base:Nat} {v:Value} {l:List DE} (h:w.ownsRow base 9 1 v l.length (pW l)):∃ o cap,v = .slice o l.length cap/\∀ i,i<l.length->∃ g,o=some ⟨g,0,none⟩/\w.cell? ⟨g,i,none⟩=some (.string (l.getD i gV).path):=by
 rcases h.2 with ⟨rfl,h0⟩|⟨g,cap,cur,rfl,hb,hg,hc,hm,hcs,cN⟩
 ·exact ⟨none,0,by rw [h0],fun i hi=>by omega⟩
 ·refine ⟨_,cap,rfl,fun i hi=>⟨g,rfl,?_⟩⟩;rw [cell_of_row w g _ _ _ _ hg];have:(cur.toList.take (l.length * 1))[i]? = (pW l)[i]?:=by rw [cN]
  rw [List.getElem?_take,if_pos (by omega)] at this;rw [<- Array.getElem?_toList,this];simp [pW,List.getD_eq_getElem?_getD,List.getElem?_eq_getElem hi]
theorem QnZ (s:ai) (f:Nat) (more:Int) (w:World) (h:s.In w) (hf:f∈s.fs) (hd:(s.fd f).1.size<=1000000000000/\0<=(s.fd f).2/\(s.fd f).2<=((s.fd f).1.size:Int)) :
  Calls Tryz.prog 88 #[.pointer (some ⟨f,0,none⟩),.int .i64 ((s.fd f).2+vU more (((s.fd f).1.size:Int) - (s.fd f).2))] w fun e w'=>e = .returned (.tuple #[])/\∃ v,aC s { s with fd:=cB s.fd f ((cF (s.fd f) more).1,min (s.fd f).2 (cF (s.fd f) more).2),fv:=nO s.fv f v } w w':=by
 have e1:(s.fd f).2+vU more (((s.fd f).1.size:Int) - (s.fd f).2)=((((s.fd f).2+min (max more 0) (((s.fd f).1.size:Int) - (s.fd f).2)).toNat:Nat):Int):=by unfold vU;omega
 rw [e1];refine (Qqe f (s.fd f) (s.fv f) _ w (h.fds f hf) (by omega)).mono ?_;rintro e w' ⟨rfl,hg,v,b7,SZ⟩;exact ⟨rfl,v,aC.file h hf (Gr.of_grownBy hg (.inl rfl)) b7 (.inl SZ)⟩
theorem PM.lC {k:TypeId} {w:World} {b:Nat} {l:List DE} (h:PM Tryz.prog k w b l) (hk:Tryz.prog.underlying k=some .string):∀ e∈l,e.path.size<=maxLen:=by
 intro e he;obtain ⟨es,hD,Lz⟩:=World.ownsMap.keysOf h;injection hD with hD
 obtain ⟨v,hv⟩:=Lz (dE e) (by rw [<- hD];exact List.mem_map.2 ⟨e,he,rfl⟩);obtain ⟨s,_,e2,hs⟩:=WideMaps.string_of_keyOf hk hv;have e3:e.path.data.toList=s.data.toList:=by injection e2
 rw [WideShapes.bytes_inj e3];exact hs
def DW (x:ByteArray × Int):Prop:=x.1.size<=1000000000000/\0<=x.2/\x.2<=(x.1.size:Int)
theorem Qn0 {x:ByteArray × Int} (h:DW x) (k:Int):DW (cF x k):=by
 obtain ⟨h1,h2,h3⟩:=h;unfold DW cF;dsimp only;rw [O5 _ (by omega)];omega
theorem ZW:∀ (l:List DE) (fd:Nat->ByteArray × Int) (ks:List Int),(∀ e∈l,DW (fd e.blk))->∀ f,DW (fd f)->DW (nr fd l ks f)
 | [],_,_,_,_,h=>h
 | e::es,fd,ks,hl,f,h=>by
  have he:=hl e (by simp);have key:∀ g,DW (fd g)->DW (cB fd e.blk (cF (fd e.blk) (ks.headD 0)) g):=by
   intro g hg;unfold cB
   split
   ·exact Qn0 he _
   ·exact hg
  unfold nr;exact ZW es _ _ (fun x hx=>key _ (hl x (by simp [hx]))) f (key f h)
theorem ZP (lb:Nat) (l:List DE) (w:World) (h:PM Tryz.prog 9 w lb l):Calls Tryz.prog 87 #[.map (some lb)] w fun e w'=>e = .returned (.map (some w.heap.size))/\PM Tryz.prog 9 w' w.heap.size l/\Below w.heap.size w w' :=
 (AnyW.maps_Clone_owns Tryz.Gn 9 uR lb l.length (jd l) w h).mono fun _ _ ⟨h1,h2,_,h3⟩=>⟨h1,h2,h3⟩
theorem ai.In.gh {s:ai} {w:World} (h:s.In w) {k:Nat} {cur:Array Value} {T:TypeId} {fr:Nat × Nat} (hk:w.heap[k]? = some (.cells cur T fr)) (h1:T≠150) (h2:T≠214) (h3:T≠154) (h4:T≠5):¬ s.own k:=by
 intro ho
 rcases ho with e|e|e|e|e|⟨f,hf,e⟩
 ·exact ja hk h.is.blk h1 e
 ·obtain ⟨e1,c1,m1⟩:=h.is.now.isMap;rw [e,m1] at hk;cases hk
 ·obtain ⟨e1,c1,m1⟩:=h.is.safe.isMap;rw [e,m1] at hk;cases hk
 ·obtain ⟨c,hc⟩:=eO h.is.aw k e;exact ja hc hk (Ne.symm h2) rfl
 ·exact ja hk (h.fds k e).blk h3 rfl
 ·obtain ⟨c,hc⟩:=eO (h.fds f hf).row k e;exact ja hc hk (Ne.symm h4) rfl
theorem bH.LA {w:World} {b mb lb zg:Nat} {R:dz} {cv:Value} {l:List DE} (h:bH w b R mb lb cv) (hm:PM Tryz.prog 9 w zg l) (hne:zg≠lb):bH (w.setCell ⟨b,1,none⟩ (.map (some zg))) b { R with now:=l } zg lb cv:=by
 obtain ⟨n1,n2,n3,n4,n5⟩:=h.ne;have dh:∀ k,k≠b->(w.setCell ⟨b,1,none⟩ (.map (some zg))).heap[k]? = w.heap[k]?:=fun k hk=>heap_setCell_other _ _ _ _ (by simpa using hk)
 have hb:zg≠b:=by
  intro e;obtain ⟨e1,c1,m1⟩:=hm.isMap;have:=h.blk;rw [<- e,m1] at this;cases this
 exact ⟨by rw [heap_setCell_same _ b 1 _ _ _ h.blk];rfl,hm.later (dh _ hb),h.safe.later (dh _ (Ne.symm n5)),hne,jQ h.aw (fun k hk _=>dh k (fun e=>n1 (by rw [<- e];exact hk)))⟩
theorem Qn1 {x:ByteArray × Int} (h:0<=x.2/\x.2<=(x.1.size:Int)) (k:Int):(cF x k).1.size=(cF x k).2.toNat/\0<=(cF x k).2:=by
 unfold cF;dsimp only
 constructor
 ·rw [O5 _ (by omega)];omega
 ·omega
theorem QsA {x:ByteArray × Int} (h:0<=x.2/\x.2<=(x.1.size:Int)) (k:Int):((cF x k).1,((cF x k).1.size:Int))=cF x k:=by
 obtain ⟨h1,h2⟩:=Qn1 h k;refine Prod.ext rfl ?_;dsimp only;omega
theorem QsB (s:ai) (paths:Int) (kv:Value) (ks:List Int) (w:World) (h:s.In w) (hk:kh s.own w kv ks) (hf:SY s) (L:List DE) (hL:L=(s.R.aw.take (vT paths s.R.aw.length)).foldl cC s.R.safe) (cJ:∀ e∈L,e.blk∈s.fs) :
  Calls Tryz.prog 47 #[.pointer (some ⟨s.b,0,none⟩),.int .i64 paths,kv] w fun e w'=>e = .returned (.tuple #[])/\∃ s',aC s s' w w'/\s'.R = { s.R with now:=L,safe:=L,aw:=[],left := -1 }/\s'.fs=s.fs/\s'.fd=nr s.fd L ks:=by
 obtain ⟨oa,ck,rfl,B8⟩:=hk;have ZX:=aa B8;have H:=aa h;have ZY:L.length<=100000000:=by
  have h1:=S0 (s.R.aw.take (vT paths s.R.aw.length)) s.R.safe;have h2:=hf.len;rw [List.length_take] at h1;rw [hL];omega
 obtain ⟨oc,cc,hcv⟩:=jG h.is.aw;have c3:w.cell? ⟨s.b,3,none⟩=some s.cv:=cell_of_row _ _ 3 _ _ _ h.is.blk;rw [hcv] at c3;have HW:=aa (ZZ paths (s.R.aw.length:Int) w);rw [Que] at HW;have hst:=Z0 s.b s.R s.mb s.lb s.cv (vT paths s.R.aw.length) w h.is (Qud _ _) hf.len hf.ql;rw [<- hL] at hst;have HST:=aa hst;have HF:=aa hf;have kZ:=aa cJ;obtain ⟨m,hm⟩ : ∃ m,m=ks.length:=⟨_,rfl⟩;have HM:=aa hm;clear h B8 hst hf cJ hL hcv;generalize hN:vT paths s.R.aw.length=N at HW HST;clear hN;generalize s.R.aw.length=cl at c3 HW;rw [<- hm];clear hm;go_enter Tryz.func47,Tryz.ntmps47;go_wp2_with fail;refine (HW.out).mono ?_;rintro _ w0 ⟨hw,rfl⟩;subst hw;dsimp only;go_wp2_with fail;refine (HST.out).mono ?_;rintro _ w1 ⟨rfl,xa,hg1⟩;dsimp only;have tq:aC s { s with R:={ s.R with safe:=L,aw:=[] },cv:=.slice none 0 0 } w0 w1:=by
  refine aC.disk H.out (hg1.mono fun k _ e=>?_) xa (.inl rfl) (.inl rfl) (.inr fun k hk=>by cases hk) H.out.cK kZ.out (fun c hc=>by cases hc)
  rcases e with e|e
  ·exact .inl e
  ·exact .inr (.inr (.inl e))
 have d2:w1.cell? ⟨s.b,2,none⟩=some (.map (some s.lb)):=cell_of_row _ _ 2 _ _ _ xa.blk;have d1:w1.cell? ⟨s.b,1,none⟩=some (.map (some s.mb)):=cell_of_row _ _ 1 _ _ _ xa.blk;have qP:=aa (ZP s.lb L w1 xa.safe);have zh:=aa tq;have uN:=aa xa;clear tq xa hg1 HST HW;go_wp2_with fail;refine (qP.out).mono ?_;rintro _ w2 ⟨rfl,j8,hb2⟩;dsimp only;have mJ:=uN.out.later hb2;have e1:w2.cell? ⟨s.b,1,none⟩=some (.map (some s.mb)):=cell_of_row _ _ 1 _ _ _ mJ.blk;have ef:=fun j=>frozen_of_row w2 s.b j _ _ mJ.blk
 have Gp:w1.heap.size≠s.lb:=fun e=>by have:=uN.out.safe.lt;omega
 have mM:aC s { s with R:={ s.R with now:=L,safe:=L,aw:=[] },mb:=w1.heap.size,cv:=.slice none 0 0 } w0 (w2.setCell ⟨s.b,1,none⟩ (.map (some w1.heap.size))):=by
  have tq:=zh.out.trans (aC.refl zh.out.ay hb2);refine zh.out.trans (aC.disk zh.out.ay ?_ (mJ.LA j8 Gp) (.inr (Nat.le_refl _)) (.inl rfl) (.inl rfl) kZ.out kZ.out (fun c hc=>by cases hc));exact (Gr.ae hb2).trans (Gr.of_grownBy (nE _ _ _ _) (.inl rfl))
 have fq:=aa mM;clear mM mJ j8 hb2 qP uN zh d1 d2;generalize hw3:w2.setCell ⟨s.b,1,none⟩ (.map (some w1.heap.size))=w3 at fq;have Z1:=aa (OE s.b _ _ _ _ w3 fq.out.ay.is ZY);go_wp2_with fail;clear hw3;refine (Z1.out).mono ?_;rintro _ w4 ⟨lv,rfl,hrow4,hb4⟩;dsimp only;obtain ⟨ol,Jl,hlv,O6⟩:=Jk hrow4;subst hlv;obtain ⟨s2,hs2⟩ : ∃ s2:ai,s2 = { s with R:={ s.R with now:=L,safe:=L,aw:=[] },mb:=w1.heap.size,cv:=.slice none 0 0 }:=⟨_,rfl⟩;rw [<- hs2] at fq;have yX:=fq.out.ay.later hb4;have Z2:∀ i,i<L.length->∃ g,ol=some ⟨g,0,none⟩/\w4.cell? ⟨g,i,none⟩=some (.string (L.getD i gV).path)/\∃ cur,w4.heap[g]? = some (.cells cur 9 (0,0)):=by
  intro i hi;obtain ⟨g,e1,e2⟩:=O6 i hi;exact ⟨g,e1,e2,eO hrow4 g (by rw [e1];rfl)⟩
 have zj:aC s s2 w0 w4:=fq.out.trans (aC.refl fq.out.ay hb4);have AE:=aa (fq.out.ay.is.now.rise (Maps.string_keyed Tryz.underlying9));have S4:s2.R = { s.R with now:=L,safe:=L,aw:=[] }:=by rw [hs2]
 have LB:s2.fs=s.fs:=by rw [hs2]
 have zk:s2.fd=s.fd:=by rw [hs2]
 have S5:s2.b=s.b:=by rw [hs2]
 have wO:∀ i,i<ks.length->∃ g o,oa=some ⟨g,o,none⟩/\w4.cell? ⟨g,o+i,none⟩=some (.int .i64 (ks.getD i 0))/\g<w4.heap.size/\¬ s2.own g:=by
  intro i hi;obtain ⟨g,o,e1,e2,e3⟩:=ZX.out i hi;have hlt:=World.block_lt_of_cell? _ _ e3;have tu:=zj.gr.block g hlt e2;exact ⟨g,o,e1,(World.cell?_of_block (a:=⟨g,o+i,none⟩) tu).trans e3,Nat.lt_of_lt_of_le hlt zj.gr.size,fun ho=>(zj.own g ho).elim e2 (fun rM=>absurd hlt (Nat.not_lt.2 rM))⟩
 have ba:bZ L:=by have:=AE.out;rw [S4] at this;exact this
 have gy:=aa ba;have Z3:=aa Z2;have S6:=aa wO;have LC:=aa yX;have S7:=aa zj;have fL:=aa S4;have S8:=aa LB;have S9:=aa zk;clear hs2 hrow4 hb4 O6 Z2 wO yX zj S4 LB zk ba fq Z1 AE ZX e1 ef;obtain ⟨n,hn⟩ : ∃ n,n=L.length:=⟨_,rfl⟩;rw [<- hn] at ZY ⊢;have HN:=aa hn;clear hn;go_wp2_with fail
 go_loopw [30] (fun iv wr=>∃ k:Nat,k<=n/\iv = .int .i64 ((k:Nat):Int)/\∃ si:ai,aC s2 si w4 wr/\si.R=s2.R/\si.fs=s.fs/\si.fd=nr s.fd (L.take k) ks) (fun iv _=>n - (intOf iv).toNat)
 case atStart=>exact ⟨0,Nat.zero_le _,rfl,s2,aC.refl LC.out (Below.refl _ _),rfl,S8.out,by rw [S9.out];rfl⟩
 case round =>
  obtain ⟨k,hk,rfl,si,hgo,hR,ke,b7⟩:=hrel;have tz:=hgo.ay;have Ta:si.b=s.b:=hgo.b.trans S5;have B9:=tz.is;rw [Ta] at B9;have r1:wr.cell? ⟨s.b,1,none⟩=some (.map (some si.mb)):=cell_of_row _ _ 1 _ _ _ B9.blk;have r5:wr.cell? ⟨s.b,5,none⟩=some (.int .i64 si.R.left):=cell_of_row _ _ 5 _ _ _ B9.blk;have rf:=fun j=>frozen_of_row wr s.b j _ _ B9.blk
  have cQ:=aa hgo;have Z4:=aa B9;have Tb:=aa ke;have nC:=aa b7;have HR:=aa hR
  by_cases hlt:k<n
  ·have O7:k<L.length:=by rw [<- HN.out];exact hlt
   obtain ⟨g,rfl,vD,cur,Gq⟩:=Z3.out k O7;have tu:=hgo.gr.block g (ax Gq) (LC.out.gh Gq (by decide) (by decide) (by decide) (by decide));have t0:wr.cell? ⟨g,k,none⟩=some (.string (L.getD k gV).path):=(World.cell?_of_block (a:=⟨g,k,none⟩) tu).trans vD;have bc:L.getD k gV∈L:=by rw [List.getD_eq_getElem?_getD,List.getElem?_eq_getElem O7];simp
   have iO:(L.getD k gV).blk∈si.fs:=by rw [ke];exact kZ.out _ bc
   have qQ:=ZV L s.fd ks k O7;have th:=Qqc gy.out O7;have hlk:=B9.now.look (t:=147) Tryz.underlying9 Tryz.underlying147 (Tryz.sZ wr) (L.getD k gV).path (B9.now.lC Tryz.underlying9 _ (by rw [hR,fL.out];exact bc));have fR:si.R.now=L:=by rw [hR,fL.out]
   rw [fR,th] at hlk;dsimp only [Dz] at hlk;rw [<- b7] at qQ;generalize hE:L.getD k gV=E at t0 iO qQ hlk;obtain ⟨ep,ef⟩:=E;dsimp only at t0 iO qQ hlk;have O8:=aa qQ;have Ca:=tz.fds ef iO;obtain ⟨o,cap,rV,_,_⟩:=Ca.shape;have f0:wr.cell? ⟨ef,0,none⟩=some (si.fv ef):=cell_of_row _ _ 0 _ _ _ Ca.blk;have f1:wr.cell? ⟨ef,1,none⟩=some (.int .i64 (si.fd ef).2):=cell_of_row _ _ 1 _ _ _ Ca.blk;rw [rV] at f0;clear hE hgo B9 ke b7 hR vD Gq tu bc qQ th fR;have Z5:(si.fd ef).1.size<=1000000000000/\0<=(si.fd ef).2/\(si.fd ef).2<=((si.fd ef).1.size:Int):=by
    rw [nC.out];exact ZW _ _ _ (fun e he=>HF.out.data _ (kZ.out e (List.mem_of_mem_take he))) _ (HF.out.data _ (by rw [<- Tb.out];exact iO))
   have Tc:s.b<wr.heap.size:=eB Z4.out.blk;have DX:=aa (fun more w'=>ZZ more (((si.fd ef).1.size:Int) - (si.fd ef).2) w');have O9:=aa (fun more (w':World) (hb:Below wr.heap.size wr w')=>QnZ si ef more w' (tz.later hb) iO Z5);have Td:=aa tz;obtain ⟨q1,q2,q3⟩:=Z5;clear tz Ca;have Gs:Hid (k<m->∃ gk ok,oa=some ⟨gk,ok,none⟩/\wr.cell? ⟨gk,ok+k,none⟩=some (.int .i64 (ks.getD k 0))):=by
    intro Dk;obtain ⟨gk,ok,e1,B8,hlk,hnk⟩:=S6.out k (by rw [<- HM.out];exact Dk);have Te:=cQ.out.gr.block gk hlk hnk;exact ⟨gk,ok,e1,(World.cell?_of_block (a:=⟨gk,ok+k,none⟩) Te).trans B8⟩
   have Gt:Hid (¬ k<m->ks.getD k 0=0):=by
    intro Dk;rw [List.getD_eq_getElem?_getD,List.getElem?_eq_none (by rw [<- HM.out];omega)];rfl
   generalize ks.getD k 0=more at Gs Gt O8;clear S6
   go_upto_if 38 with fail
   go_cut [8,30] from 30 to 70 (fun mv iv wx=>mv = .int .i64 more/\iv = .int .i64 ((k:Nat):Int)/\wx=wr)
   case first =>
    by_cases Dk:k<m
    ·obtain ⟨gk,ok,rfl,tk⟩:=Gs.out Dk;go_wp2_with fail
     go_meet
     case rel=>exact ⟨rfl,rfl,rfl⟩
    ·have e1:decide (((k:Nat):Int)<((m:Nat):Int))=false:=by simp;omega
     have DY:=Gt.out Dk;go_wp2_with fail
     go_meet
     case rel=>exact ⟨by rw [DY],rfl,rfl⟩
   case rest =>
    obtain ⟨rfl,rfl,hwc⟩:=hcut;subst hwc;generalize qN:(si.fd ef).1.size=sz at f0 DX O9 q1 q3;generalize LD:(si.fd ef).2=sy at f1 DX O9 q2 q3;have eR:IntKind.i64.wrap ((sz:Int) - sy)=(sz:Int) - sy:=wrap64 (by omega) (by omega);have hw2:IntKind.i64.wrap (sy+vU more ((sz:Int) - sy))=sy+vU more ((sz:Int) - sy):=wrap64 (by unfold vU;omega) (by unfold vU;omega);have nG:=aa qN;have Gu:=aa LD;clear qN LD Gs Gt;go_upto_region 9 with fail
    go_cut [30] from 30 to 70 (fun iv wx=>iv = .int .i64 ((k:Nat):Int)/\∃ v,aC si { si with fd:=cB si.fd ef ((cF (si.fd ef) more).1,min sy (cF (si.fd ef) more).2),fv:=nO si.fv ef v } wc wx)
    case first =>
     go_region_with (first|(go_at_call 86;refine (DX.out more wc.drew).mono ?_;rintro _ w6 ⟨Lc,rfl⟩;subst Lc)|(go_at_call 88;refine (O9.out more wc.drew ((Below.refl _ _).drew)).mono ?_;rintro _ w7 ⟨rfl,v7,vV⟩))
     all_goals
      have kn:=aa ((aC.refl Td.out ((Below.refl _ _).drew)).trans vV);clear vV;go_wp2_with fail
      go_meet
      case rel=>exact ⟨rfl,v7,kn.out⟩
    case rest =>
     obtain ⟨rfl,v7,vV⟩:=hcut;have LG:=vV.ay;have Cb:=LG.fds ef iO;dsimp only at Cb;rw [BU,qL] at Cb;have Tf:=aa (Z6 ef _ v7 wc Cb);have kn:=aa vV;clear vV Cb LG DX O9;go_wp2_with fail;refine (Tf.out).mono ?_;rintro _ w8 ⟨rfl,jL,Gv⟩;dsimp only at Gv ⊢;have LH:=kn.out.trans (aC.file kn.out.ay (f:=ef) iO (Gr.of_grownBy jL (.inl rfl)) Gv (by dsimp only;rw [qL];exact .inl rfl));have aV:si.fs=s.fs/\cB (cB si.fd ef ((cF (si.fd ef) more).1,min sy (cF (si.fd ef) more).2)) ef ((cF (si.fd ef) more).1,((cF (si.fd ef) more).1.size:Int))=nr s.fd (L.take (k+1)) ks:=by
      refine ⟨Tb.out,?_⟩;rw [Yv,QsA (by rw [nG.out,Gu.out];exact ⟨q2,q3⟩),O8.out]
     have Th:=aa (cQ.out.trans LH);have bG:=aa aV;clear LH jL Gv aV;go_wp2_with fail
     go_roundw
     case rel=>exact ⟨k+1,by omega,by go_num,_,Th.out,HR.out,bG.out.1,bG.out.2⟩
     case measure=>simp [intOf];omega
  ·have e1:decide (((k:Nat):Int)<((n:Nat):Int))=false:=by simp;omega
   have wO:k=L.length:=by rw [<- HN.out];omega
   have LI:aC s { si with R:={ si.R with left := -1 } } w0 (wr.setCell ⟨s.b,5,none⟩ (.int .i64 (-1))) :=
    S7.out.trans (cQ.out.trans (aC.set tz (by rw [Ta];exact nE _ _ _ _) (by rw [Ta];exact Z4.out.pC _) rfl rfl rfl))
   have aV:({ si.R with left := -1 }:dz) = { s.R with now:=L,safe:=L,aw:=[],left := -1 }/\si.fs=s.fs/\si.fd=nr s.fd L ks:=by
    refine ⟨by rw [HR.out,fL.out],Tb.out,?_⟩;rw [nC.out,wO,List.take_length]
   have Ti:=aa LI;have bG:=aa aV;clear LI aV hgo tz B9 ke b7 hR Z3 S6;go_wp2_with fail
   go_end0
   exact ⟨rfl,_,Ti.out,bG.out.1,bG.out.2.1,bG.out.2.2⟩
open Go.RowKit
theorem QmG (w:World):(w.alloc (.cells #[] 5)).ownsRow w.heap.size 5 1 (.slice (some ⟨w.heap.size,0,none⟩) 0 0) 0 [] :=
 ⟨rfl,.inr ⟨w.heap.size,0,#[],rfl,Nat.le_refl _,heap_alloc_new _ _,Nat.le_refl _,by unfold maxLen;omega,rfl,rfl⟩⟩
theorem QmH (v:Value) (x:ByteArray) (w:World) (h:w.ownsRow 0 5 1 v x.size (Lib.strCells x)) (hx:x.size<=1000000000000) :
  Calls Tryz.prog 96 #[v] w fun e w'=>∃ o cap,e = .returned (.slice o x.size cap)/\w'.ownsRow w.heap.size 5 1 (.slice o x.size cap) x.size (Lib.strCells x)/\Below w.heap.size w w':=by
 obtain ⟨i0,hi,hz0,hz1,hz2⟩:=info_parts Tryz.yT;have q93:∀ (w:World) (a:Option Addr) (n c n' c':Nat),(binOp .eql 136 (.slice a n c) (.slice none n' c')).run Tryz.prog w = .ok (.bool a.isNone) w:=fun w a n c n' c'=>Lib.run_eql_slice_nil w _ _ a n c n' c' Tryz.underlying136
 rcases h.2 with ⟨rfl,h0⟩|⟨g,cap,cur,rfl,hb,hg,hc,hm,hcs,cN⟩
 ·have hx0:=ZG h0;subst hx0;go_enter Tryz.func96,Tryz.ntmps96;go_wp2_with fail;go_ret;exact ⟨none,0,rfl,World.ownsRow_nil _ _ _ _,Below.refl _ _⟩
 ·have hcell:∀ j u,(Lib.strCells x)[j]? = some u->(w.alloc (.cells #[] 5)).cell? ((⟨g,0,none⟩ : Addr).add j)=some u:=by
   intro j u hu;have hg2:(w.alloc (.cells #[] 5)).heap[g]? = some (.cells cur 5 (0,0)):=(Below.heap_alloc _ _ g (ax hg)).trans hg;have mz:(⟨g,0,none⟩ : Addr).add j=⟨g,j,none⟩:=by unfold Addr.add;split<;>simp_all
   rw [mz,cell_of_row _ g _ _ _ _ hg2];have hj:j<x.size:=by have:=(List.getElem?_eq_some_iff.1 hu).1;rw [Lib.strCells_length] at this;exact this
   have:(cur.toList.take (x.size * 1))[j]? = (Lib.strCells x)[j]?:=by rw [cN]
   rw [List.getElem?_take,if_pos (by omega)] at this;rw [<- Array.getElem?_toList,this,hu]
  have HC:=aa hcell;have HO:=aa (QmG w);have B5:=aa (Lib.strCells_oneCell x);have DO:=aa (Lib.strCells_length x);have B4:0+x.size<=maxLen:=by unfold maxLen;omega
  have hby:(0+x.size) * 1<=140737488355328:=by omega
  have rI:Below w.heap.size w (w.alloc (.cells #[] 5)):=(Below.refl _ _).alloc (Nat.le_refl _) _;have ir:=aa rI;clear hcell hg cN hcs rI h;generalize x.size=n at hc B4 hby DO hx;go_enter Tryz.func96,Tryz.ntmps96;go_wp2_with (refine wpList_append_own _ rfl _ _ 136 rfl w.heap.size 5 i0 _ 1 1 Tryz.underlying136 hi hz0 hz1 hz2 rfl (by decide) _ 0 [] rfl HO.out ⟨g,0,none⟩ n cap (Lib.strCells x) rfl (by rw [DO.out];omega) HC.out B5.out B4 hby (by rw [size_alloc];omega) ?_;rintro v2 w2 hv hg2 _;obtain ⟨o2,c2,hv2⟩:=jG hv;subst hv2;have qj:=aa hv;have bP:=aa hg2;clear hv hg2);go_ret;refine ⟨o2,c2,rfl,?_,?_⟩
  ·have:=qj.out;simp only [Nat.zero_add,List.nil_append] at this;exact this
  ·have hg2:(w.alloc (.cells #[] 5)).grownBy w2 (some w.heap.size):=bP.out;exact ir.out.grown hg2 (by rw [size_alloc];omega) (fun k hk=>by injection hk with hk;omega)
theorem Fm {x:ByteArray}:∀ {l:List DE} {f:Nat},aO x l=some f->∃ e∈l,e.path=x/\e.blk=f
 | [],_,h=>by cases h
 | e::es,f,h=>by
  unfold aO at h
  by_cases he:e.path=x
  ·rw [if_pos he] at h;injection h with h
   exact ⟨e,by simp,he,h⟩
  ·rw [if_neg he] at h;obtain ⟨y,hy,h1⟩:=Fm h;exact ⟨y,by simp [hy],h1⟩
theorem ai.In.add {s:ai} {w w':World} (h:s.In w) (hb:Below w.heap.size w w') {F:Nat} (hF:w.heap.size<=F) {x:ByteArray × Int} {v:Value} (b7:FD w' F x v) (hv:∀ k,v.ownBlock=some k->w.heap.size<=k) :
  ({ s with fs:=F::s.fs,fd:=cB s.fd F x,fv:=nO s.fv F v }:ai).In w':=by
 have h2:=h.later hb;have hne:∀ f∈s.fs,f≠F:=fun f hf=>by have:=eB (h.fds f hf).blk;omega
 have hlt:∀ f∈s.fs,∀ k,(s.fv f).ownBlock=some k->k<w.heap.size:=fun f hf k hk=>h.lt (.inr (.inr (.inr (.inr (.inr ⟨f,hf,hk⟩)))))
 refine ⟨h2.is,?_,?_,fun e he=>by simp [h.cK e he],fun e he=>by simp [h.cH e he],fun e he=>by simp [h.er e he]⟩
 ·intro f hf;dsimp only at hf ⊢
  rcases List.mem_cons.1 hf with e|hf
  ·subst e;rw [BU,qL];exact b7
  ·rw [BV _ _ (hne f hf),uP _ _ (hne f hf)];exact h2.fds f hf
 ·intro f hf g hg AB k hk;dsimp only at hf hg hk ⊢
  rcases List.mem_cons.1 hf with e|hf'
  ·rw [e,qL] at hk
   rcases List.mem_cons.1 hg with e2|Lp
   ·exact absurd (e.trans e2.symm) AB
   ·rw [uP _ _ (hne g Lp)];intro e3;have h1:=hlt g Lp k e3;have h3:=hv k hk;omega
  ·rw [uP _ _ (hne f hf')] at hk
   rcases List.mem_cons.1 hg with e2|Lp
   ·rw [e2,qL];intro e3;have h1:=hlt f hf' k hk;have h3:=hv k e3;omega
   ·rw [uP _ _ (hne g Lp)];exact h.sep f hf' g Lp AB k hk
theorem Yr (p x:ByteArray) (nb:Nat):∀ {l:List DE},bZ l->aO x (dc p (some nb) l false)=if x=p then some nb else aO x l:=by
 intro l hl;have h2:=SQ p nb l hl;have h3:=O3 x (dc p (some nb) l false);rw [<- h2] at h3
 by_cases hx:x=p
 ·subst hx;rw [if_pos rfl];rw [Maps.atKey_put_same (D:=jd l) ⟨l.map dE,rfl⟩ (show WideAt.IsKeyLit (bk x) from trivial)] at h3
  cases hf:aO x (dc x (some nb) l false) with
  | none=>rw [hf] at h3;cases h3
  | some g =>
   rw [hf] at h3;simp only [vO,DataW.lit.injEq,Lit.int.injEq,true_and] at h3;have:g=nb:=by omega
   rw [this]
 ·rw [if_neg hx];have hne:bk x≠bk p:=fun e=>hx (WideShapes.bytes_inj (by injection e))
  rw [Maps.atKey_put_other hne,O3] at h3
  cases hf:aO x (dc p (some nb) l false) with
  | none =>
   rw [hf] at h3
   cases hg:aO x l with
   | none=>rfl
   | some g=>rw [hg] at h3;cases h3
  | some g =>
   rw [hf] at h3
   cases hg:aO x l with
   | none=>rw [hg] at h3;cases h3
   | some g' =>
    rw [hg] at h3;simp only [vO,DataW.lit.injEq,Lit.int.injEq,true_and] at h3;have:g=g':=by omega
    rw [this]
structure iF (s so:ai) (ψ:ByteArray->Nat) (left:Lit->Bool):Prop where
 SR:∀ x,aO x so.R.now=if left (bk x) then none else (aO x s.R.now).map fun _=>ψ x
 dS:∀ x f,left (bk x)=false->aO x s.R.now=some f->so.fd (ψ x)=((s.fd f).1,((s.fd f).1.size:Int))
 inj:∀ x y,left (bk x)=false->left (bk y)=false->(aO x s.R.now).isSome=true->(aO y s.R.now).isSome=true->ψ x=ψ y->x=y
 ay:∀ x,left (bk x)=false->(aO x s.R.now).isSome=true->ψ x∈so.fs
theorem iF.step {s so uQ:ai} {ψ:ByteArray->Nat} {left:Lit->Bool} (h:iF s so ψ left) {x:ByteArray} {f F:Nat} (hf:aO x s.R.now=some f) (hr:bZ so.R.now) (hF:F ∉ so.fs)
  (hn:uQ.R.now=dc x (some F) so.R.now false) (ke:uQ.fs=F::so.fs) (b7:uQ.fd=cB so.fd F ((s.fd f).1,((s.fd f).1.size:Int))) :
  iF s uQ (fun y=>if y=x then F else ψ y) (fun z=>left z && !z.sameKey (bk x)):=by
 have hl:∀ y,(left (bk y) && !(bk y).sameKey (bk x))=if y=x then false else left (bk y):=by
  intro y;rw [rW]
  by_cases e:y=x
  ·simp [e]
  ·simp [e]
 refine ⟨fun y=>?_,fun y g hy hg=>?_,fun y z hy hz O4 hsz he=>?_,fun y hy O4=>?_⟩
 ·rw [hn,Yr x y F hr,hl]
  by_cases e:y=x
  ·rw [if_pos e,if_pos e,e,hf];simp
  ·rw [if_neg e,if_neg e,h.SR y];simp [e]
 ·rw [hl] at hy
  by_cases e:y=x
  ·rw [e,hf] at hg;injection hg with hg
   rw [b7,e];simp only [if_true];rw [BU,hg]
  ·rw [if_neg e] at hy;simp only [e,if_false];have hm:=h.ay y hy (by rw [hg];rfl);rw [b7,BV _ _ (fun e2=>hF (by rw [<- e2];exact hm))];exact h.dS y g hy hg
 ·rw [hl] at hy hz
  by_cases e:y=x
  ·by_cases e2:z=x
   ·rw [e,e2]
   ·rw [if_neg e2] at hz;simp only [e,if_true,e2,if_false] at he;exact absurd (by rw [he];exact h.ay z hz hsz) hF
  ·rw [if_neg e] at hy
   by_cases e2:z=x
   ·simp only [e,if_false,e2,if_true] at he;exact absurd (by rw [<- he];exact h.ay y hy O4) hF
   ·rw [if_neg e2] at hz;simp only [e,if_false,e2] at he;exact h.inj y z hy hz O4 hsz he
 ·rw [hl] at hy
  by_cases e:y=x
  ·rw [ke];simp [e]
  ·rw [if_neg e] at hy;rw [ke];simp only [e,if_false];exact List.mem_cons_of_mem _ (h.ay y hy O4)
end Go.Proofs.YtncigfibncmioaaGreatDoor
namespace Go.Proofs.YtncigfibncmioaaGreatDoor
open Go.RowKit
theorem Qn2 (l:List DE) (bg too:ByteArray) (nb:Nat):(mq l bg too nb).length<=l.length+1:=by
 unfold mq;have h1:=Gm bg none l true;have h2:=Gm too (some nb) l false;have h3:=Gm too (some nb) (dc bg none l true) false;simp only [if_true,Bool.false_eq_true,if_false] at h1 h2 h3;dsimp only
 split<;>split<;>omega
theorem Yj:∀ (cs:List CH) (l:List DE),(fh l cs).length<=l.length+cs.length
 | [],l=>by simp [fh]
 | c::cs,l=>by
  have h1:=Yj cs (mq l c.bg c.too c.blk);have h2:=Qn2 l c.bg c.too c.blk;have h3:fh l (c::cs)=fh (mq l c.bg c.too c.blk) cs:=rfl;rw [h3,List.length_cons];omega
theorem Yk {nd:Nat->ByteArray × Int} {B:Nat}:∀ {l:List DE},(∀ e∈l,(nd e.blk).1.size<=B)->gH nd l<=l.length * B
 | [],_=>Nat.zero_le _
 | e::es,h=>by
  unfold gH;have h1:=h e (by simp);have h2:=Yk (l:=es) (fun x hx=>h x (by simp [hx]));rw [List.length_cons,Nat.succ_mul];omega
def dA (B:Nat) (x:ByteArray × Int):Prop:=x.1.size<=B/\0<=x.2/\x.2<=(x.1.size:Int)
theorem Qqf {B:Nat} {x:ByteArray × Int} (h:dA B x) (k:Int):dA B (cF x k):=by
 obtain ⟨h1,h2,h3⟩:=h;unfold dA cF;dsimp only;rw [O5 _ (by omega)];omega
theorem QhB {B:Nat}:∀ (l:List DE) (fd:Nat->ByteArray × Int) (ks:List Int),(∀ e∈l,dA B (fd e.blk))->∀ f,dA B (fd f)->dA B (nr fd l ks f)
 | [],_,_,_,_,h=>h
 | e::es,fd,ks,hl,f,h=>by
  have he:=hl e (by simp);have key:∀ g,dA B (fd g)->dA B (cB fd e.blk (cF (fd e.blk) (ks.headD 0)) g):=by
   intro g hg;unfold cB
   split
   ·exact Qqf he _
   ·exact hg
  unfold nr;exact QhB es _ _ (fun x hx=>key _ (hl x (by simp [hx]))) f (key f h)
theorem kh.mono {w:World} {v:Value} {ks:List Int} {S S':Nat->Prop} (h:kh S w v ks) (hS:∀ k,S' k->S k):kh S' w v ks:=by
 obtain ⟨oa,c,rfl,hk⟩:=h;refine ⟨oa,c,rfl,fun i hi=>?_⟩;obtain ⟨g,o,h1,h2,h3⟩:=hk i hi;exact ⟨g,o,h1,fun e=>h2 (hS g e),h3⟩
theorem Qug {l:List DE} {i:Nat} (h:i<l.length):l.getD i gV∈l:=by
 rw [List.getD_eq_getElem?_getD,List.getElem?_eq_getElem h];simp
end Go.Proofs.YtncigfibncmioaaGreatDoor
namespace Go.Proofs.YtncigfibncmioaaGreatDoor
open Go.RowKit
theorem Qku {s:ai} {w:World} (h:s.In w) {r:Nat} {m:Option Nat} {a b:Nat} {c:Array Nat} (hr:w.heap[r]? = some (.mapIter m a c b)):¬ s.own r:=by
 intro ho
 rcases ho with e|e|e|e|e|⟨f,hf,e⟩
 ·have:=h.is.blk;rw [<- e,hr] at this;cases this
 ·obtain ⟨e1,c1,m1⟩:=h.is.now.isMap;rw [e,m1] at hr;cases hr
 ·obtain ⟨e1,c1,m1⟩:=h.is.safe.isMap;rw [e,m1] at hr;cases hr
 ·obtain ⟨c,hc⟩:=eO h.is.aw r e;rw [hr] at hc;cases hc
 ·have:=(h.fds r e).blk;rw [hr] at this;cases this
 ·obtain ⟨c,hc⟩:=eO (h.fds f hf).row r e;rw [hr] at hc;cases hc
theorem Qkv {P:Program} {k:TypeId} {R:Value->Option (DataW Unit × List MemPlace)} {w:World} {b r n:Nat} {D:DataW Unit} {left:Lit->Bool} {cnt:Nat} (h:w.ranges P k R b r n D left cnt):∃ m a c d,w.heap[r]? = some (.mapIter m a c d):=by
 obtain ⟨es,clock,since,seen,c0,_,_,_,_,hr,_⟩:=h;exact ⟨_,_,_,_,hr⟩
theorem ZH {w2 w6 w7:World} {b g i:Nat} {o:Obj} {v:Value} (hc:w2.cell? ⟨g,i,none⟩=some v) (hg:g<w2.heap.size) (hb:Below w2.heap.size w2 w6) (ht:(w6.alloc o).mapTurned w7 b) (hne:g≠b):w7.cell? ⟨g,i,none⟩=some v:=by
 have hs:=hb.size;have h1:w7.heap[g]? = w2.heap[g]?:=(ht.grown.block g (by rw [size_alloc];omega) (fun e=>hne (by injection e))).trans ((Below.heap_alloc w6 o g (by omega)).trans (hb.block g hg));exact (World.cell?_of_block (a:=⟨g,i,none⟩) h1).trans hc
theorem Qqb {P:Program} {k t e:TypeId} {w:World} {b nb:Nat} {l:List DE} {p:ByteArray} (h:PM P k w b l) (hk:P.underlying k=some .string) (ht:P.underlying t=some (.map k e)) (hn:l.length<maxLen) (hp:p.size<=maxLen) :
  ∃ w',(Instr.mapUpdate t (.map (some b)) (.string p) (.pointer (some ⟨nb,0,none⟩))).run P w = .ok () w'/\PM P k w' b (dc p (some nb) l false)/\w.mapTurned w' b:=by
 obtain ⟨w',hrun,r1,r2⟩:=World.ownsMap.store h (Maps.string_keyed hk) ht hn (WideMaps.keyOf_string_mk hk hp) (show uR (.pointer (some ⟨nb,0,none⟩))=some (.lit (.int .i64 (nb:Int)),[]) from rfl);rw [show Lit.string p.data.toList=bk p from rfl,SQ p nb l (PM.rise h (Maps.string_keyed hk))] at r1;exact ⟨w',hrun,SS r1,r2⟩
theorem bH.Lq {w:World} {b mb lb za:Nat} {R:dz} {cv:Value} {l:List DE} (h:bH w b R mb lb cv) (hm:PM Tryz.prog 9 w za l) (hne:mb≠za):bH (w.setCell ⟨b,2,none⟩ (.map (some za))) b { R with safe:=l } mb za cv:=by
 obtain ⟨n1,n2,n3,n4,n5⟩:=h.ne;have dh:∀ k,k≠b->(w.setCell ⟨b,2,none⟩ (.map (some za))).heap[k]? = w.heap[k]?:=fun k hk=>heap_setCell_other _ _ _ _ (by simpa using hk)
 have hb:za≠b:=by
  intro e;obtain ⟨e1,c1,m1⟩:=hm.isMap;have:=h.blk;rw [<- e,m1] at this;cases this
 exact ⟨by rw [heap_setCell_same _ b 2 _ _ _ h.blk];rfl,h.now.later (dh _ (Ne.symm n4)),hm.later (dh _ hb),hne,jQ h.aw (fun k hk _=>dh k (fun e=>n1 (by rw [<- e];exact hk)))⟩
theorem ZI (s:ai) (w:World) (h:s.In w) (gL:0<=s.R.room) (hl:s.R.now.length<=100000000) (hsz:∀ f∈s.fs,(s.fd f).1.size<=1000000000000) :
  Calls Tryz.prog 52 #[.pointer (some ⟨s.b,0,none⟩)] w fun e w'=>∃ so ψ,e = .returned (.pointer (some ⟨so.b,0,none⟩))/\Below w.heap.size w w'/\so.In w'/\(∀ k,so.own k->w.heap.size<=k) /\
   so.R=⟨s.R.room,so.R.now,so.R.now,[],0, -1⟩/\iF s so ψ (fun _=>false):=by
 have c0:w.cell? ⟨s.b,0,none⟩=some (.int .i64 s.R.room):=cell_of_row _ _ 0 _ _ _ h.is.blk;have hbl:=eB h.is.blk;have H:=aa h;have ZJ:=aa (ZK s.R.room w);rw [if_neg (by omega)] at ZJ;clear h;go_enter Tryz.func52,Tryz.ntmps52;go_wp2_with fail;refine (ZJ.out).mono ?_;rintro _ w1 ⟨rfl,hb1,xa,hs1⟩;dsimp only;have ij:=aa hs1;clear hs1;have vP:=H.out.later hb1;have b1:w1.cell? ⟨s.b,1,none⟩=some (.map (some s.mb)):=cell_of_row _ _ 1 _ _ _ vP.is.blk;have HM:=aa vP.is.now.strict;have Jj:({ b:=w.heap.size+1+1,mb:=w.heap.size,lb:=w.heap.size+1,cv:=.slice none 0 0,R:=⟨s.R.room,[],[],[],0, -1⟩,fs:=[],fd:=s.fd,fv:=s.fv }:ai).In w1 :=
  ⟨xa,(fun f hf=>by cases hf),(fun f hf=>by cases hf),(fun e he=>by cases he),(fun e he=>by cases he),(fun e he=>by cases he)⟩
 have DR:=aa Jj;have br:=aa hb1;clear vP Jj hb1 xa;go_wp2_with (at_range;refine wpList_range_own _ rfl _ 147 rfl 9 152 (Maps.string_keyed Tryz.underlying9) Tryz.underlying147 vQ s.mb s.R.now.length (jd s.R.now) rfl HM.out ?_;intro w0 hrg0 hg0 hs0)
 go_frame
 have rI:Below w1.heap.size w1 w0:=⟨hg0.os,hg0.tape,hg0.output,hg0.size,fun k hk=>hg0.block k hk (by simp)⟩;have xd:Below w.heap.size w w0:=br.out.trans (rI.mono br.out.size);have DT:∃ left cnt,w0.ranges Tryz.prog 9 vQ s.mb w1.heap.size s.R.now.length (jd s.R.now) left cnt/\Below w.heap.size w w0/\w1.heap.size+1<=w0.heap.size/\∃ so ψ,so.In w0/\so.b=w.heap.size+1+1/\so.mb=w.heap.size/\so.R=⟨s.R.room,so.R.now,[],[],0, -1⟩/\(∀ k,so.own k->w.heap.size<=k)/\iF s so ψ left/\so.R.now.length+cnt<=s.R.now.length:=by
  have hs1:=ij.out;refine ⟨_,_,hrg0,xd,by omega,_,fun _=>0,DR.out.later rI,rfl,rfl,rfl,?_,?_,by simp [jd,Maps.size]⟩
  ·intro k hk
   rcases hk with e|e|e|e|e|⟨f,hf,e⟩
   ·dsimp only at e;omega
   ·dsimp only at e;omega
   ·dsimp only at e;omega
   ·cases e
   ·cases e
   ·cases hf
  ·refine ⟨fun x=>?_,fun x f hx hf=>?_,fun x y hx hy Ge=>?_,fun x hx Ge=>?_⟩
   ·show none=_
    cases hf:aO x s.R.now with
    | none=>simp
    | some g =>
     obtain ⟨e,he,hp,_⟩:=Fm hf;rw [<- hp,Lr he];rfl
   ·obtain ⟨e,he,hp,_⟩:=Fm hf;rw [<- hp,Lr he] at hx;cases hx
   ·obtain ⟨g,hg⟩:=Option.isSome_iff_exists.1 Ge;obtain ⟨e,he,hp,_⟩:=Fm hg;rw [<- hp,Lr he] at hx;cases hx
   ·obtain ⟨g,hg⟩:=Option.isSome_iff_exists.1 Ge;obtain ⟨e,he,hp,_⟩:=Fm hg;rw [<- hp,Lr he] at hx;cases hx
 have HI:=aa DT;clear DT hrg0 hg0 rI xd DR HM
 go_loopw [] (fun wr=>∃ left cnt,wr.ranges Tryz.prog 9 vQ s.mb w1.heap.size s.R.now.length (jd s.R.now) left cnt/\Below w.heap.size w wr/\w1.heap.size+1<=wr.heap.size/\∃ so ψ,so.In wr/\so.b=w.heap.size+1+1/\so.mb=w.heap.size/\so.R=⟨s.R.room,so.R.now,[],[],0, -1⟩/\(∀ k,so.own k->w.heap.size<=k)/\iF s so ψ left/\so.R.now.length+cnt<=s.R.now.length) (fun wr=>wr.rangeLeft s.mb w1.heap.size)
 case atStart=>exact HI.out
 case round =>
  obtain ⟨left,cnt,hrg,hb,aak,so,ψ,cJ,ux,Gf,ZL,ZM,zb,aal⟩:=hrel;have iu:=aa hrg;have HB:=aa hb;have kZ:=aa cJ;have mL:=aa zb;have Gg:=aa ZM;have ZN:=aa ZL;clear hb cJ zb ZM ZL hrg;go_wp2_with (at_next;refine wpList_next_ranges _ rfl _ rfl 9 (Maps.string_keyed Tryz.underlying9) vQ Value.string (fun f:Nat=>Value.pointer (some ⟨f,0,none⟩)) (fun key kl hkey=>Ls Tryz.underlying9 hkey) (fun v y hv=>ZO hv) s.mb w1.heap.size _ _ _ _ rfl iu.out ?_ ?_)
  ·intro _ hl0;have pZ:=kZ.out.is;rw [ux,Gf] at pZ;have k1:wr.cell? ⟨w.heap.size+1+1,1,none⟩=some (.map (some w.heap.size)):=cell_of_row _ _ 1 _ _ _ pZ.blk;have k2:wr.cell? ⟨w.heap.size+1+1,2,none⟩=some (.map (some so.lb)):=cell_of_row _ _ 2 _ _ _ pZ.blk;have kf:=fun j=>frozen_of_row wr (w.heap.size+1+1) j _ _ pZ.blk
   have qP:=aa (ZP w.heap.size so.R.now wr pZ.now);have SU:=aa pZ;have HL0:=aa hl0;clear pZ hl0;go_wp2_with fail;refine (qP.out).mono ?_;rintro _ w3 ⟨rfl,kM,hb3⟩;dsimp only;have BZ:=kZ.out.later hb3;have nR:=SU.out.later hb3;have j2:w3.cell? ⟨w.heap.size+1+1,2,none⟩=some (.map (some so.lb)):=cell_of_row _ _ 2 _ _ _ nR.blk;have jf:=fun j=>frozen_of_row w3 (w.heap.size+1+1) j _ _ nR.blk
   have SV:Below w.heap.size w (w3.setCell ⟨w.heap.size+1+1,2,none⟩ (.map (some wr.heap.size))):=(HB.out.trans (hb3.mono HB.out.size)).setCell (by simp;omega) _;have aV:∃ uQ ψ',Value.pointer (some ⟨w.heap.size+1+1,0,none⟩) = .pointer (some ⟨uQ.b,0,none⟩)/\uQ.In (w3.setCell ⟨w.heap.size+1+1,2,none⟩ (.map (some wr.heap.size)))/\(∀ k,uQ.own k->w.heap.size<=k) /\
     uQ.R=⟨s.R.room,uQ.R.now,uQ.R.now,[],0, -1⟩/\iF s uQ ψ' (fun _=>false):=by
    have nj:left=fun _=>false:=funext HL0.out
    have dh:=nR.Lq kM (fun e=>by have:=SU.out.now.lt;omega);have xe:aC so { so with R:={ so.R with safe:=so.R.now },lb:=wr.heap.size } wr (w3.setCell ⟨w.heap.size+1+1,2,none⟩ (.map (some wr.heap.size))):=by
     refine aC.disk kZ.out ?_ (by rw [ux,Gf];exact dh) (.inl rfl) (.inr (Nat.le_refl _)) (.inl rfl) kZ.out.cK kZ.out.cK kZ.out.er;exact (Gr.ae hb3).trans (Gr.of_grownBy (nE _ _ _ _) (.inl ux.symm))
    refine ⟨_,ψ,by rw [<- ux],xe.ay,fun k hk=>?_,?_,?_⟩
    ·rcases xe.own k hk with h1|h1
     ·exact Gg.out k h1
     ·have:=HB.out.size;omega
    ·dsimp only;rw [ZN.out]
    ·have h1:=mL.out;rw [nj] at h1;exact ⟨h1.SR,h1.dS,h1.inj,h1.ay⟩
   have HBF:=aa SV;have bG:=aa aV;clear BZ nR SV aV kM hb3;go_wp2_with fail;go_ret;obtain ⟨uQ,ψ',e1,e2,e3,e4,e5⟩:=bG.out;exact ⟨uQ,ψ',congrArg Ending.returned e1,HBF.out,e2,e3,e4,e5⟩
  ·intro x f kl d ps w2 cnt1 hkey hlk hv hat hrg1 hlt hg1 hs2 hen;have zf:=Lt Tryz.underlying9 hkey;subst zf;rw [ZQ] at hv;injection hv with hv
   injection hv with hd _
   have th:aO x s.R.now=some f:=ZR hat hd.symm;have iO:f∈s.fs:=by
    obtain ⟨e,he,pA⟩:=DA th;rw [<- pA];exact H.out.cK e he
   have hxs:x.size<=maxLen:=by
    obtain ⟨e,he,hp,_⟩:=Fm th;rw [<- hp];exact H.out.is.now.lC Tryz.underlying9 e he
   obtain ⟨m0,a0,q0,d0,hit⟩:=Qkv iu.out;have hb2:Below w.heap.size w w2:=HB.out.grown hg1 HB.out.size (fun k hk=>by injection hk with hk;have:=ij.out;omega);have jw:so.In w2:=kZ.out.same (fun k hk=>hg1.block k (kZ.out.lt hk) (fun e=>Qku kZ.out hit (by injection e with e;rw [<- e];exact hk)));have b7:=(H.out.later hb2).fds f iO;obtain ⟨o,cap,rV,_,_⟩:=b7.shape;have f0:w2.cell? ⟨f,0,none⟩=some (s.fv f):=cell_of_row _ _ 0 _ _ _ b7.blk;rw [rV] at f0;have gZ:=eB b7.blk;have hrow:=b7.row;have pZ:=jw.is;rw [ux,Gf] at pZ;have k1:w2.cell? ⟨w.heap.size+1+1,1,none⟩=some (.map (some w.heap.size)):=cell_of_row _ _ 1 _ _ _ pZ.blk;have zf:=eB pZ.blk;have Lm:=aa (fun (w':World) (hb:Below w2.heap.size w2 w')=>QmH (s.fv f) (s.fd f).1 w' (gA hrow hb) (hsz f iO));rw [rV] at Lm;have kP:so.R.now.length<maxLen:=by unfold maxLen;omega
   have ZT:so.R.now.length+1+cnt1<=s.R.now.length:=by omega
   have Gh:=aa pZ.now;have pz:=aa jw;have cL:=aa hb2;have vS:=aa hrg1;have pB:=aa hlt;have HFE:=aa th;have SU:=aa pZ;have fW:=aa (eB (H.out.fds f iO).blk);clear hkey hlk hat hrg1 hlt hg1 hd th hb2 jw b7 rV hrow pZ hit HB kZ;generalize qN:(s.fd f).1.size=sz at f0 Lm;go_wp2_with fail
   go_region_held3 (fun w'=>w'.cell? ⟨w.heap.size+1+1,1,none⟩=some (.map (some w.heap.size))/\w'.cell? ⟨f,0,none⟩=some (.slice o sz cap))
    (first|exact ⟨tj.1,tj.2⟩|go_keep|exact ⟨cell_later ig k1,cell_later ig f0⟩)
    (first|(go_at_call 96;refine (Lm.out w2.drew ((Below.refl _ _).drew)).mono ?_;rintro _ w6 ⟨o6,B6,rfl,ko,ig⟩;obtain ⟨w7,Lu,Lv,DU⟩:=Qqb (w:=w6.alloc (.cells #[.slice o6 sz B6,.int .i64 (sz:Int)] 154)) (t:=147) (nb:=w6.heap.size) (Gh.out.later ((Below.heap_alloc w6 _ _ (Nat.lt_of_lt_of_le Gh.out.lt ig.size)).trans (ig.block _ Gh.out.lt))) Tryz.underlying9 Tryz.underlying147 kP hxs;have tj:w7.cell? ⟨w.heap.size+1+1,1,none⟩=some (.map (some w.heap.size))/\w7.cell? ⟨f,0,none⟩=some (.slice o sz cap):=⟨ZH k1 zf ((Below.refl w2.heap.size w2).drew.trans ig) DU (by omega),ZH f0 gZ ((Below.refl w2.heap.size w2).drew.trans ig) DU (Nat.ne_of_lt fW.out)⟩))
   have B7:w2.heap.size<=w6.heap.size:=ig.size;have Gi:Below w2.heap.size w2 (w6.alloc (.cells #[.slice o6 sz B6,.int .i64 (sz:Int)] 154)):=((Below.refl w2.heap.size w2).drew.trans ig).alloc B7 _;have Lx:FD (w6.alloc (.cells #[.slice o6 sz B6,.int .i64 (sz:Int)] 154)) w6.heap.size ((s.fd f).1,(sz:Int)) (.slice o6 sz B6) :=
    ⟨heap_alloc_new _ _,by dsimp only;rw [qN];exact (ko.ez (Nat.zero_le _)).alloc _⟩
   have Gj:=pz.out.add Gi (F:=w6.heap.size) B7 Lx (fun k hk=>(ko.lt k hk).1);have SX:=Gj.is.yZ (l':=dc x (some w6.heap.size) so.R.now false) (by dsimp only;rw [Gf];exact DU.grown) (by dsimp only;rw [Gf];exact Lv);dsimp only at SX;have xe:=aC.disk Gj (R':={ so.R with now:=dc x (some w6.heap.size) so.R.now false }) (Gr.of_grownBy DU.grown (.inr (.inl (by dsimp only;rw [Gf])))) SX (.inl rfl) (.inl rfl) (.inl rfl) (by
     intro e he;dsimp only at he ⊢
     rcases Fo he with he|⟨b',hb',he⟩
     ·exact List.mem_cons_of_mem _ (pz.out.cK e he)
     ·injection hb' with hb'
      rw [he,<- hb'];simp) (by intro e he;exact List.mem_cons_of_mem _ (pz.out.cH e he)) (by intro c hc;exact List.mem_cons_of_mem _ (pz.out.er c hc))
   have ZU:Below w.heap.size w w7:=(cL.out.trans (Gi.mono cL.out.size)).grown DU.grown (Nat.le_trans cL.out.size Gi.size) (fun k hk=>by injection hk with hk;omega);have Gk:=(vS.out.kept (jJ Gi none) (by simp) (by simp)).kept DU.grown (fun e=>by injection e with e;have:=H.out.is.now.lt;omega) (fun e=>by injection e with e;have:=ij.out;omega);have aV:∃ left' cnt',w7.ranges Tryz.prog 9 vQ s.mb w1.heap.size s.R.now.length (jd s.R.now) left' cnt'/\Below w.heap.size w w7/\w1.heap.size+1<=w7.heap.size/\∃ so ψ,so.In w7/\so.b=w.heap.size+1+1/\so.mb=w.heap.size/\so.R=⟨s.R.room,so.R.now,[],[],0, -1⟩/\(∀ k,so.own k->w.heap.size<=k)/\iF s so ψ left'/\so.R.now.length+cnt'<=s.R.now.length:=by
    refine ⟨_,cnt1,Gk,ZU,?_,_,_,xe.ay,ux,Gf,?_,?_,mL.out.step HFE.out (Gh.out.rise (Maps.string_keyed Tryz.underlying9)) ?_ rfl rfl (by dsimp only;rw [qN]),?_⟩
    ·have h1:=Gi.size;have h2:=DU.grown.size;omega
    ·dsimp only;rw [ZN.out]
    ·intro k hk
     rcases xe.own k hk with h1|h1
     ·have hw2:=cL.out.size
      rcases h1 with e|e|e|e|e|⟨g,hg,e⟩
      ·exact Gg.out k (.inl e)
      ·exact Gg.out k (.inr (.inl e))
      ·exact Gg.out k (.inr (.inr (.inl e)))
      ·exact Gg.out k (.inr (.inr (.inr (.inl e))))
      ·dsimp only at e
       rcases List.mem_cons.1 e with e|e
       ·omega
       ·exact Gg.out k (.inr (.inr (.inr (.inr (.inl e)))))
      ·dsimp only at hg e
       rcases List.mem_cons.1 hg with e2|hg
       ·rw [e2,qL] at e;have:=(ko.lt k e).1;exact Nat.le_trans hw2 this
       ·have cX:=eB (pz.out.fds g hg).blk;rw [uP _ _ (by omega)] at e;exact Gg.out k (.inr (.inr (.inr (.inr (.inr ⟨g,hg,e⟩)))))
     ·have h2:=cL.out.size;have h3:=Gi.size;omega
    ·intro hm;have:=eB (pz.out.fds _ hm).blk;omega
    ·have:=Gm x (some w6.heap.size) so.R.now false;simp only [Bool.false_eq_true,if_false] at this;dsimp only;omega
   have bG:=aa aV;have iE:w7.rangeLeft s.mb w1.heap.size=cnt1:=Gk.left_eq;have nh:=aa iE;clear B7 Gi Lx Gj SX xe ZU Gk aV ko ig Lu Lv DU tj iE;go_wp2_with fail;exact ⟨bG.out,by rw [nh.out,iu.out.left_eq];exact pB.out⟩
end Go.Proofs.YtncigfibncmioaaGreatDoor
