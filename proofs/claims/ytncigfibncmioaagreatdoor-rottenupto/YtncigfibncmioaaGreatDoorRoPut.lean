/-
  PROVED HERE: what Spoil of the program leaves of a disk at rest: one file has other bytes, as many.
-/
import Derived.Test.YtncigfibncmioaaGreatDoorPdCrash
import Derived.Test.YtncigfibncmioaaGreatDoorSaHeld
import Derived.Test.YtncigfibncmioaaGreatDoorSaAsk
import Derived.Test.YtncigfibncmioaaGreatDoorErHeld
import Derived.Test.YtncigfibncmioaaGreatDoorSmTag
import Derived.Test.YtncigfibncmioaaGreatDoorSmUntd
namespace Go.Proofs.YtncigfibncmioaaGreatDoor
set_option maxHeartbeats 1000000
set_option maxRecDepth 100000
open Go.RowKit
theorem wSpoilS (s:PSt) (d:Nat) (p:ByteArray) (a:Int) (m:Int) (w:World) (k:Int) (P:PSt → Prop) (hd:BD w d s.b) (hg:w.cell? ⟨0,0,none⟩ = some errT)
  (h:Calls Tryz.prog 68 #[.pointer (some ⟨s.b,0,none⟩),.string p,.int .i64 a,.int .i64 m] w fun e w'=>∃ v,e = .returned v ∧ PRet s w k P v w') :
  Calls Tryz.prog 33 #[.pointer (some ⟨d,0,none⟩),.string p,.int .i64 a,.int .i64 m] w (WRet s w k P):=by
 have H:=hide h
 have HG:=hide hg
 have c0:w.cell? ⟨d,0,none⟩ = some (.pointer (some ⟨s.b,0,none⟩)):=cell_of_row _ _ 0 _ _ _ hd
 clear h hg hd
 go_enter Tryz.func33,Tryz.ntmps33
 go_wp2_with fail
 refine H.out.mono ?_
 rintro _ w1 ⟨v,rfl,hr⟩
 dsimp only
 have HR:=hide (errno_ret hr HG.out)
 clear hr
 go_wp2_with fail
 refine HR.out.mono ?_
 rintro _ w2 ⟨rfl,hp⟩
 dsimp only
 have HP:=hide hp
 clear hp
 go_wp2_with fail
 go_ret
 exact ⟨rfl,HP.out⟩
def spD (D:DS) (f:Nat) (x:ByteArray):DS:=⟨D.R,D.fs,setNd D.fd f (x,(D.fd f).2)⟩
def spF (F:List FF) (p x:ByteArray):List FF:=F.map fun e=>if e.p = p then ⟨e.p,x,e.y⟩ else e
theorem bSpoil_ok (s:PSt) (d f:Nat) (p:ByteArray) (a m:Int) (w:World) (h:DkW w d s) (hp:isPathB p = true) (hf:findE p s.R.now = some f) (hm1:1 ≤ m) (hm2:m ≤ 255) (ha:0 ≤ a) (hz:a < ((s.fd f).1.size:Int)) :
  Calls Tryz.prog 33 #[.pointer (some ⟨d,0,none⟩),.string p,.int .i64 a,.int .i64 m] w fun e w'=>e = .returned (.int .i64 0) ∧ ∃ s1,PGo s s1 w w' ∧ s1.ds = spD s.ds f (spoilB (s.fd f).1 a.toNat m):=by
 have hps:p.size ≤ 9223372036854775807:=by
  simp only [isPathB,Bool.and_eq_true,decide_eq_true_eq] at hp
  omega
 refine (wSpoilS s d p a m w 0 (fun s1=>s1.R = s.R ∧ s1.fs = s.fs ∧ s1.fd = setNd s.fd f (spoilB (s.fd f).1 a.toNat m,(s.fd f).2)) h.bd h.gl.err ((pdSpoil s p a m w h.inn hps).mono ?_)).mono ?_
 ·rintro e w' ⟨v,rfl,_,_,h3⟩
  exact ⟨v,rfl,(h3 f hp hf).2 (by omega)⟩
 ·rintro e w' ⟨rfl,_,h3⟩
  obtain ⟨s1,hg,h1,h2,h4⟩:=h3 rfl
  refine ⟨rfl,s1,hg,?_⟩
  unfold PSt.ds spD
  rw [h1,h2,h4]
theorem Rst.spoil {D:DS} {F:List FF} {r:Int} {B:Nat} (h:Rst D F r B) {p x:ByteArray} {f:Nat} (hf:findE p D.R.now = some f) (hx:x.size = (D.fd f).1.size):Rst (spD D f x) (spF F p x) r B:=by
 have hm:=findE_in hf
 have hrise:=h.wh.riseN
 have hvw:vwL (spD D f x) = spF F p x:=by
  rw [← h.wh.vw]
  unfold vwL spF
  rw [List.map_map]
  refine List.map_congr_left fun e he=>?_
  show vwE (setNd D.fd f (x,(D.fd f).2)) e = if (vwE D.fd e).p = p then ⟨(vwE D.fd e).p,x,(vwE D.fd e).y⟩ else vwE D.fd e
  by_cases hb:e.blk = f
  ·have he2:e = ⟨p,f⟩:=h.wh.inj e he _ hm hb
   subst he2
   unfold vwE
   dsimp only
   rw [if_pos rfl,setNd_same]
  ·have hp:¬ e.path = p:=fun e2=>hb (by
    have h1:=find_mem hrise e he
    rw [e2,hf] at h1
    injection h1 with h1
    exact h1.symm)
   unfold vwE
   dsimp only
   rw [if_neg hp,setNd_ne _ _ hb]
 have hw:=h.wh
 refine ⟨⟨hvw,hw.left,hw.room,hw.inj,hw.inn,hw.isafe,hw.ichg,hw.inv,hw.rise,fun g hg=>?_,hw.chf⟩,h.safe,h.chg,fun e he=>?_⟩
 ·by_cases e:g = f
  ·subst e
   obtain ⟨a,b,c⟩:=hw.dat g hg
   show FitB B (setNd D.fd g (x,(D.fd g).2) g)
   rw [setNd_same]
   exact ⟨by show x.size ≤ B;rw [hx];exact a,b,by show (D.fd g).2 ≤ (x.size:Int);rw [hx];exact c⟩
  ·show FitB B (setNd D.fd f (x,(D.fd f).2) g)
   rw [setNd_ne _ _ e]
   exact hw.dat g hg
 ·unfold spF at he
  obtain ⟨e0,he0,rfl⟩:=List.mem_map.1 he
  have h1:=h.syn e0 he0
  split
  ·rename_i hp
   show e0.y = (x.size:Int)
   rw [h1,hx]
   have h2:findK FF.p p F = (findE p D.R.now).map fun g=>⟨p,(D.fd g).1,(D.fd g).2⟩:=hw.look p
   rw [hf] at h2
   have h3:=findK_mem hw.riseF he0
   rw [hp,h2] at h3
   injection h3 with h3
   rw [← h3]
  ·exact h1
set_option maxHeartbeats 4000000
set_option maxRecDepth 100000
open Go.RowKit
def A0:Sto:=⟨[],[]⟩
def abcB:ByteArray:=⟨#[97,98,99]⟩
def latestB:ByteArray:=⟨#[108,97,116,101,115,116]⟩
def A1:Sto:=⟨[abcB],[⟨latestB,dOfB abcB,3⟩]⟩
theorem good0:GoodA A0:=⟨List.Pairwise.nil,fun b hb=>(by cases hb),List.Pairwise.nil,fun t ht=>(by cases ht),Nat.zero_le _,fun t ht=>(by cases ht),fun t ht=>(by cases ht)⟩
theorem szA0:szA A0 = 36:=by rw [szA_eq];rfl
theorem rest3_rst {D:DS} {r:Int} {L C:Nat} (h:Rest3 D) (hl:D.R.left = -1) (hr:D.R.room = r) (hf:DFit D L C 36):Rst D (fA A0) r 2000:=by
 obtain ⟨⟨y,x,z,hn,fx,fy,fz⟩,h2,h3⟩:=h
 have hsz:((idxX []).size:Int) = 23:=rfl
 have hvw:vwL D = fA A0:=by
  unfold vwL
  rw [hn]
  show [vwE D.fd ⟨indexP,y⟩,vwE D.fd ⟨journalP,x⟩,vwE D.fd ⟨layoutP,z⟩] = [ff indexP (idxX []),ff journalP ⟨#[]⟩,ff layoutP layoutT]
  unfold vwE
  dsimp only
  rw [fx,fy,fz]
  rfl
 have n1:emptyT ≠ ⟨#[]⟩:=by decide
 have n2:emptyT ≠ layoutT:=by decide
 have n3:layoutT ≠ ⟨#[]⟩:=by decide
 have nyx:y ≠ x:=fun e=>n1 (by have:=fy;rw [e,fx] at this;injection this with this;exact this.symm)
 have nyz:y ≠ z:=fun e=>n2 (by have:=fy;rw [e,fz] at this;injection this with this;exact this.symm)
 have nxz:x ≠ z:=fun e=>n3 (by have:=fx;rw [e,fz] at this;injection this)
 refine ⟨⟨hvw,hl,hr,fun e he e' he' hb=>?_,hf.inow,hf.isafe,hf.ichg,hf.inv,hf.rise,fun f hf2=>(hf.dat f hf2).mono (by decide),hf.chf⟩,h2,h3,fun f hm=>?_⟩
 ·rw [hn] at he he'
  simp only [List.mem_cons,List.not_mem_nil,or_false] at he he'
  rcases he with rfl | rfl | rfl <;> rcases he' with rfl | rfl | rfl <;> first | rfl | exact absurd hb nyx | exact absurd hb.symm nyx | exact absurd hb nyz | exact absurd hb.symm nyz | exact absurd hb nxz | exact absurd hb.symm nxz
 ·rcases tail_mem (show f ∈ tailF [] from hm) with rfl | rfl | rfl <;> rfl
theorem run_gen (D:List Nat) (X:ByteArray) (hD:DigOk D):Pl.run 1099511627776 A0 ⟨abcB.size + tgNeed [] [⟨latestB,D,3⟩],X,0,⟨[abcB],[⟨latestB,D,3⟩]⟩⟩ = (X,0,⟨[abcB],[⟨latestB,D,3⟩]⟩):=by
 refine Pl.run_yes ?_
 rw [szA0]
 show ((36:Nat):Int) + ((abcB.size + tgNeed [] [⟨latestB,D,3⟩]:Nat):Int) ≤ 1099511627776
 have h4:(idxX [⟨latestB,D,3⟩]).size ≤ 2000:=idxX_size (fun t ht=>by
  simp only [List.mem_singleton] at ht
  subst ht
  exact te_ok (by decide) hD.1 hD.2 (by decide) (by decide)) (by simp)
 have h5:tgNeed [] [⟨latestB,D,3⟩] ≤ 2000:=by
  unfold tgNeed
  rw [if_neg (by simp)]
  exact h4
 have h6:abcB.size = 3:=rfl
 omega
theorem ins_one (b:ByteArray):nbC A0.cs (some b) = [b]:=rfl
theorem con_none (b:ByteArray):conC A0 b = none:=rfl
theorem new_one (b:ByteArray):newC A0 b = some b:=by unfold newC;rw [con_none]
theorem tag_one (m b:ByteArray):tgNew A0 m b = [⟨m,dOfB b,(b.size:Int)⟩]:=by
 unfold tgNew
 rw [con_none]
 rfl
theorem run_first:(pubPl A0 latestB abcB).run 1099511627776 A0 = (hxB abcB,0,A1):=by
 have hm:mayB A0 latestB = true:=rfl
 have hs:(abcB.size:Int) = 3:=rfl
 unfold pubPl A1
 rw [if_pos hm,new_one,tag_one,ins_one,hs,show nbN (some abcB) = abcB.size from rfl,show A0.tg = [] from rfl]
 generalize hD:dOfB abcB = D
 have hok:DigOk D:=by rw [← hD];exact dOfB_ok abcB
 generalize hxB abcB = X
 exact run_gen D X hok
theorem bNew_sa (r:Int) (w:World) (hg:Gl w) (h0:0 ≤ r) (h1:r ≤ 9223372036854775807) :
  Calls Tryz.prog 24 #[.int .i64 r] w fun e w'=>∃ d so,e = .returned (.pointer (some ⟨d,0,none⟩)) ∧ Below w.heap.size w w' ∧ w.heap.size ≤ d ∧ DkW w' d so ∧ (∀ k,so.own k → w.heap.size ≤ k) ∧ Er so.ds ∧ DFit so.ds 6 0 36 ∧ so.R.left = -1 ∧ so.R.room = r ∧ so.ds.R.now = []:=by
 refine (wNewDisk r (fun g w'=>∃ so:PSt,so.b = g ∧ Below w.heap.size w w' ∧ so.In w' ∧ (∀ k,so.own k → w.heap.size ≤ k) ∧ so.ds = ⟨⟨r,[],[],[],0, -1⟩,[],so.fd⟩) w ((pnew_any r w).mono ?_)).mono ?_
 ·rintro e w' ⟨rfl,hb,hpd,hsz⟩
  rw [if_neg (by omega)] at hpd
  refine ⟨_,rfl,⟨w.heap.size + 1 + 1,w.heap.size,w.heap.size + 1,.slice none 0 0,⟨r,[],[],[],0, -1⟩,[],fun _=>(⟨#[]⟩,0),fun _=>.slice none 0 0⟩,rfl,hb,⟨hpd,fun f hf=>(by cases hf),fun f hf=>(by cases hf),fun e he=>(by cases he),fun e he=>(by cases he),fun c hc=>(by cases hc)⟩,fun k hk=>?_,rfl⟩
  rcases hk with e | e | e | e | e | ⟨f,hf,e⟩
  ·have e:k = w.heap.size + 1 + 1:=e;omega
  ·have e:k = w.heap.size:=e;omega
  ·have e:k = w.heap.size + 1:=e;omega
  ·cases e
  ·cases e
  ·cases hf
 ·rintro e w' ⟨g,w1,rfl,rfl,so,rfl,hb,hin,hown,hds⟩
  have hba:=hb.alloc hb.size (.cells #[.pointer (some ⟨so.b,0,none⟩)] 90)
  obtain ⟨e1,e2⟩:=new_er r h0 h1 so.fd
  rw [← hds] at e1 e2
  exact ⟨w1.heap.size,so,rfl,hba,hb.size,⟨hin.later ((Below.refl _ _).alloc (Nat.le_refl _) _),heap_alloc_new _ _,hg.later hba,fun k hk hG=>by have:=hown k hk;have:=hg.lt hG;omega⟩,hown,e1,e2,congrArg (fun D:DS=>D.R.left) hds,congrArg (fun D:DS=>D.R.room) hds,congrArg (fun D:DS=>D.R.now) hds⟩
theorem hx_abc:hxB abcB = abcT:=abc_known
theorem within_sa (w:World) (hg:Gl w) :
  Calls Tryz.prog 28 #[.int .i64 1099511627776] w fun e w'=>∃ d xb sb cb s tb cl,e = .returned (.tuple #[.pointer (some ⟨d,0,none⟩),.pointer (some ⟨xb,0,none⟩),.bool false]) ∧ Below w.heap.size w w' ∧ SA w' d xb sb cb s tb cl A1 1099511627776 3 92 ∧ ∀ k,fpr s xb sb cb tb k → w.heap.size ≤ k:=by
 have HND:=hide (bNew_sa 1099511627776 w hg (by decide) (by decide))
 have HGL:=hide hg
 clear hg
 go_enter Tryz.func28,Tryz.ntmps28
 go_wp2_with fail
 refine (HND.out).mono ?_
 rintro _ w1 ⟨d,so,rfl,hb1,hld,hdk,hown,her,hfit,hleft,hroom,hnow⟩
 dsimp only
 have hnl:so.R.now.length ≤ 6:=hfit.nowLen
 have HOP:=hide (bOpen_new so w1 d hdk.inn hdk.gl hdk.low hfit (show Bud _ _ _ from ⟨by omega,by omega,by omega⟩) her.paths (by unfold rdD;rw [hnow];rfl) hdk.bd)
 have HB1:=hide hb1
 have HDK:=hide hdk
 have HOW:=hide hown
 have HER:=hide her
 have HFI:=hide hfit
 have HLE:=hide hleft
 have HRR:=hide (show so.ds.R.room = 1099511627776 from hroom)
 have hN2:w.heap.size ≤ w1.heap.size:=hb1.size
 clear hb1 hdk hown her hfit hleft hroom hnow hnl HND
 go_wp2_with fail
 refine (HOP.out).mono ?_
 rintro _ w2 ⟨k,s3,sv,rfl,hg3,hop3,hok,hno⟩
 dsimp only
 obtain ⟨rfl,kp3,ea3,r3⟩:=open_pure HER.out (by rw [HRR.out];decide) hop3
 have fit3:=open_fit HER.out (by rw [HRR.out];decide) HFI.out hop3
 obtain ⟨xb,sb,cb,tb,rfl,hbst,hlsb,hlxb,hst⟩:=hok rfl
 have hGx:¬ isG xb:=fun e=>by have:=HGL.out.lt e;omega
 have hroom3:s3.ds.R.room = 1099511627776:=by rw [kp3.1,HRR.out]
 have hbd2:BD w2 d s3.b:=(HDK.out.go hg3).bd
 have hsa:SA w2 d xb sb cb s3 tb [] A0 1099511627776 2 70:=⟨hbst,hGx,hst,hbd2,fun d hd=>(by cases hd),fun d=>⟨fun h=>(by cases h),fun ⟨b,hb,_⟩=>(by cases hb)⟩,Nat.zero_le _,rest3_rst (r3 HLE.out) (kp3.2 HLE.out) hroom3 fit3,fit3.c0,by have:=fit3.c1;omega,good0,by rw [szA0];decide,by decide,by decide⟩
 have HB2:=hide (HB1.out.trans (hg3.low (N:=w.heap.size) HOW.out hN2))
 have hfp:∀ k,s3.own k ∨ sS xb sb cb k → w.heap.size ≤ k:=fun k hk=>by
  rcases hk with e | e | e | e
  ·exact hg3.ownN HOW.out hN2 k e
  ·omega
  ·omega
  ·omega
 have HFP:=hide hfp
 have HPB:=hide (saPub hsa (by decide) (by decide) latestB abcB (by decide) (by decide +kernel) (by decide))
 have hN3:w.heap.size ≤ w2.heap.size:=Nat.le_trans hN2 hg3.gr.size
 rw [run_first] at HPB
 have hltb:w.heap.size ≤ tb:=by omega
 unfold latestB at HPB
 have habc:abcB = ⟨#[97,98,99]⟩:=rfl
 clear hop3 kp3 ea3 r3 fit3 hok hno hst hbst hg3 HOP hroom3 hfp hbd2 hsa
 have HPB2:Hid (Calls Tryz.prog 25 #[.pointer (some ⟨xb,0,none⟩),.string ⟨#[108,97,116,101,115,116]⟩,.string ⟨#[97,98,99]⟩] w2 fun e w'=>e = .returned (.tuple #[.string abcT,.int .i64 0]) ∧ SaN w2 w' d xb sb cb s3 tb A1 1099511627776 3 92):=hide (by rw [← hx_abc];exact HPB.out)
 clear HPB habc
 go_wp2_with fail
 refine (HPB2.out).mono ?_
 rintro _ w4 ⟨rfl,s4,tb4,cl4,hg4,ht4,hs4⟩
 dsimp only
 have HB4:=hide (HB2.out.trans (hg4.lowN HFP.out hN3))
 have HF4:=hide (show ∀ k,fpr s4 xb sb cb tb4 k → w.heap.size ≤ k from fun k hk=>by
  rcases hk with e | e | e
  ·rcases hg4.own k e with e | e
   ·exact HFP.out k (.inl e)
   ·omega
  ·exact HFP.out k (.inr e)
  ·rcases ht4 with ht4 | ht4 <;> omega)
 have HGT:=hide (saGet hs4 (b:=abcB) (c:=abcB) (findK_mem hs4.good.rise (by simp [A1])))
 rw [hx_abc] at HGT
 have HGT2:Hid (Calls Tryz.prog 34 #[.pointer (some ⟨xb,0,none⟩),.string abcT] w4 fun e w'=>e = .returned (.tuple #[.string ⟨#[97,98,99]⟩,.int .i64 0]) ∧ SGo (sS xb sb cb) s4 s4 w4 w' ∧ SA w' d xb sb cb s4 tb4 cl4 A1 1099511627776 3 92):=HGT
 have hN4:w.heap.size ≤ w4.heap.size:=Nat.le_trans hN3 hg4.gr.size
 have hfr:=HF4.out
 clear hg4 ht4 hs4 HPB2 HGT hfr
 unfold abcT at HGT2 ⊢
 go_wp2_with fail
 refine (HGT2.out).mono ?_
 rintro _ w5 ⟨rfl,hg5,hs5⟩
 dsimp only
 have HTG:=hide (saTags hs5)
 have HB5:=hide (HB4.out.trans (hg5.lowN (fun k hk=>HF4.out k (hk.elim .inl (fun e=>.inr (.inl e)))) hN4))
 have hN5:w.heap.size ≤ w5.heap.size:=Nat.le_trans hN4 hg5.gr.size
 clear hg5 hs5 HGT2 HB4
 go_wp2_with fail
 refine (HTG.out).mono ?_
 rintro _ w6 ⟨v6,rfl,hrow6,hg6,hs6⟩
 dsimp only
 have hcl:A1.tg.flatMap tC = [.string ⟨#[108,97,116,101,115,116]⟩,.string abcT,.int .i64 3]:=by
  have h1:dtx (dOfB abcB) = abcT:=abc_known
  show [Value.string latestB,.string (dtx (dOfB abcB)),.int .i64 3] ++ [] = _
  rw [h1]
  rfl
 rw [hcl] at hrow6
 obtain ⟨g,c,rfl, -,r0,r1,r2⟩:=own_three hrow6
 have HB6:=hide (HB5.out.trans (hg6.lowN (fun k hk=>HF4.out k (hk.elim .inl (fun e=>.inr (.inl e)))) hN5))
 have HS6:=hide hs6
 unfold abcT at r1
 clear hg6 hs6 hrow6 hcl HTG HB5
 go_wp2_with fail
 refine bodyPost_ret (results_tmp3 rfl _ _ _) rfl ?_
 exact ⟨d,xb,rfl,HB6.out,sb,cb,s4,tb4,⟨cl4,HS6.out⟩,HF4.out⟩
theorem begun_sa (w:World) (hg:Gl w) :
  Calls Tryz.prog 10 #[] w fun e w'=>∃ d xb sb cb s tb cl,e = .returned (.tuple #[.pointer (some ⟨d,0,none⟩),.pointer (some ⟨xb,0,none⟩)]) ∧ Below w.heap.size w w' ∧ SA w' d xb sb cb s tb cl A1 1099511627776 3 92 ∧ ∀ k,fpr s xb sb cb tb k → w.heap.size ≤ k:=by
 have HW:=hide (within_sa w hg)
 clear hg
 go_enter Tryz.func10,Tryz.ntmps10
 go_wp2_with fail
 refine (HW.out).mono ?_
 rintro _ w1 ⟨d,xb,sb,cb,s,tb,cl,rfl,hb,hs,hf⟩
 dsimp only
 have HB:=hide hb
 have HS:=hide hs
 have HF:=hide hf
 clear hb hs hf HW
 go_wp2_with fail
 refine bodyPost_ret (results_tmp2 rfl _ _ _) rfl ?_
 exact ⟨d,xb,sb,cb,s,tb,cl,rfl,HB.out,HS.out,HF.out⟩
end Go.Proofs.YtncigfibncmioaaGreatDoor
namespace Go.Proofs.YtncigfibncmioaaGreatDoor
open Go.RowKit
structure SR (w:World) (db xb sb cb:Nat) (s:PSt) (tb:Nat) (cl:List (List Nat)) (A:Sto) (F:List FF) (r:Int) (n cu:Nat):Prop where
 st:BSt w xb sb
 hG:¬ isG xb
 sw:StW w sb s cb tb cl.length A.tg.length (cD cl) (tD A.tg)
 bd:BD w db s.b
 ok:∀ d ∈ cl,DigOk d
 mem:∀ d,d ∈ cl ↔ ∃ b ∈ A.cs,d = dOfB b
 len:F.length ≤ n + 3
 rst:Rst s.ds F r 2000
 c0:0 ≤ s.ds.R.count
 c1:s.ds.R.count ≤ (cu:Int)
 good:GoodA A
 r0:0 ≤ r
 r1:r ≤ 9223372036854775807
section
variable {w w':World} {db xb sb cb:Nat} {s:PSt} {tb:Nat} {cl:List (List Nat)} {A:Sto} {F:List FF} {r:Int} {n cu:Nat}
theorem SA.sr (h:SA w db xb sb cb s tb cl A r n cu):SR w db xb sb cb s tb cl A (fA A) r n cu:=⟨h.st,h.hG,h.sw,h.bd,h.ok,h.mem,by rw [fA_len];have:=h.len;omega,h.rst,h.c0,h.c1,h.good,h.r0,h.r1⟩
theorem SR.dk (h:SR w db xb sb cb s tb cl A F r n cu):DkW w db s:=⟨h.sw.inn,h.bd,h.sw.gl,h.sw.low⟩
theorem SR.notOwn (h:SR w db xb sb cb s tb cl A F r n cu) {k:Nat} {cur:Array Value} {T:TypeId} {fr:Nat × Nat} (hk:w.heap[k]? = some (.cells cur T fr)) (h1:T ≠ 150) (h2:T ≠ 214) (h3:T ≠ 154) (h4:T ≠ 5) (h5:T ≠ 108) (h6:T ≠ 159):¬ (s.own k ∨ sS xb sb cb k):=by
 rintro (e | e | e | e)
 ·exact h.sw.inn.notOwn hk h1 h2 h3 h4 e
 ·subst e
  have h7:=h.st
  unfold BSt at h7
  rw [hk] at h7
  injection h7 with h7
  injection h7 with _ h7
  exact h5 h7
 ·subst e
  have h7:=h.sw.blk
  rw [hk] at h7
  injection h7 with h7
  injection h7 with _ h7
  exact h6 h7
 ·subst e
  obtain ⟨es,clock,h7,_⟩:=h.sw.cm
  rw [hk] at h7
  cases h7
theorem SR.same (h:SR w db xb sb cb s tb cl A F r n cu) (hg:SGo (sS xb sb cb) s s w w') (hx:BSt w' xb sb) (hst:StW w' sb s cb tb cl.length A.tg.length (cD cl) (tD A.tg)):SR w' db xb sb cb s tb cl A F r n cu :=
 ⟨hx,h.hG,hst,(hg.gr.block db (lt_heap h.bd) (h.notOwn h.bd (by decide) (by decide) (by decide) (by decide) (by decide) (by decide))).trans h.bd,h.ok,h.mem,h.len,h.rst,h.c0,h.c1,h.good,h.r0,h.r1⟩
theorem SR.has (h:SR w db xb sb cb s tb cl A F r n cu) {b:ByteArray} (hb:b ∈ A.cs):Maps.has (cD cl) (dKey (dOfB b)) = true:=by
 rw [cD_has h.ok (dOfB_ok b)]
 exact decide_eq_true ((h.mem _).2 ⟨b,hb,rfl⟩)
theorem SR.rd (h:SR w db xb sb cb s tb cl A F r n cu) {p t:ByteArray} (hp:rdD s.ds p = some t):t.size ≤ 2000:=by
 unfold rdD at hp
 split at hp
 ·cases hp
 ·cases hf:findE p s.ds.R.now with
  | none=>rw [hf] at hp;cases hp
  | some g =>
   rw [hf] at hp
   injection hp with hp
   rw [← hp]
   exact (h.rst.wh.dat g (h.rst.wh.inn _ (findE_in hf))).1
theorem roGet (h:SR w db xb sb cb s tb cl A F r n cu) {b:ByteArray} (hb:b ∈ A.cs) :
  Calls Tryz.prog 34 #[.pointer (some ⟨xb,0,none⟩),.string (hxB b)] w fun e w'=>e = .returned (.tuple #[.string ((conR s.ds (dOfB b)).getD ⟨#[]⟩),.int .i64 (if (conR s.ds (dOfB b)).isSome then 0 else 13)]) ∧ SGo (sS xb sb cb) s s w w' ∧ SR w' db xb sb cb s tb cl A F r n cu:=by
 refine (bGet_any xb sb s cb tb cl.length (cD cl) A.tg (hxB b) w h.st h.hG h.sw (unitC_cD cl) (hx_dig b) (by rw [hx_rd];exact h.has hb) (fun t ht=>by have:=h.rd ht;omega)).mono ?_
 rintro e w' ⟨rfl,hg,hx,hst⟩
 refine ⟨?_,hg,h.same hg hx hst⟩
 rw [hx_rd]
theorem roSpoil (h:SR w db xb sb cb s tb cl A F r n cu) {p:ByteArray} {f:Nat} (a m:Int) (hp:isPathB p = true) (hf:findE p s.R.now = some f) (hm1:1 ≤ m) (hm2:m ≤ 255) (ha:0 ≤ a) (hz:a < ((s.fd f).1.size:Int)) :
  Calls Tryz.prog 33 #[.pointer (some ⟨db,0,none⟩),.string p,.int .i64 a,.int .i64 m] w fun e w'=>e = .returned (.int .i64 0) ∧ ∃ s',PGo s s' w w' ∧ SR w' db xb sb cb s' tb cl A (spF F p (spoilB (s.fd f).1 a.toNat m)) r n cu:=by
 refine (bSpoil_ok s db f p a m w h.dk hp hf hm1 hm2 ha hz).mono ?_
 rintro e w' ⟨rfl,s',hg,hd⟩
 have hb:BSt w' xb sb:=(hg.gr.block xb (lt_heap h.st) (fun e=>h.sw.inn.notOwn h.st (by decide) (by decide) (by decide) (by decide) e)).trans h.st
 have hr:Rst s'.ds (spF F p (spoilB (s.fd f).1 a.toNat m)) r 2000:=by
  rw [hd]
  exact h.rst.spoil hf (spoilB_size _ _ _)
 exact ⟨rfl,s',hg,hb,h.hG,h.sw.go hg,(h.dk.go hg).bd,h.ok,h.mem,by unfold spF;rw [List.length_map];exact h.len,hr,by rw [hd];exact h.c0,by rw [hd];exact h.c1,h.good,h.r0,h.r1⟩
end
theorem sum_le300:∀ l:List ByteArray,(∀ b ∈ l,b.size ≤ 300) → (l.map ByteArray.size).sum ≤ 300 * l.length
 | [],_=>Nat.le_refl _
 | b :: l,h=>by
  have h1:=h b (by simp)
  have h2:=sum_le300 l (fun x hx=>h x (by simp [hx]))
  simp only [List.map_cons,List.sum_cons,List.length_cons]
  omega
theorem szA_le {A:Sto} (g:GoodA A):szA A ≤ 300 * A.cs.length + 2013:=by
 rw [szA_eq]
 have h1:=sum_le300 A.cs g.sz
 have h2:=idxX_size g.tok g.t8
 omega
theorem nbN_new {A:Sto} {b:ByteArray} (hb:b.size ≤ 300):nbN (newC A b) ≤ 300:=by
 cases h:newC A b with
 | none=>exact Nat.zero_le _
 | some x=>exact (newC_ok hb x h).2
theorem tgNeed_le {A:Sto} {l:List TE} {cs:List ByteArray} (g:GoodA ⟨cs,l⟩):tgNeed A.tg l ≤ 2000:=by
 unfold tgNeed
 split
 ·exact Nat.zero_le _
 ·exact idxX_size g.tok g.t8
theorem put_fine {A:Sto} (g:GoodA A) {b:ByteArray} (hb:b.size ≤ 300):(putPl A b).need ≤ 2300 ∧ (putPl A b).err ≠ 4:=by
 have h1:=nbN_new (A:=A) hb
 have h2:=tgNeed_le (A:=A) (l:=A.tg) (cs:=A.cs) g
 refine ⟨?_,by show (0:Int) ≠ 4;decide⟩
 show nbN (newC A b) + tgNeed A.tg A.tg ≤ 2300
 omega
structure StepV where
 k:Int
 n:Int
 b:Int
def step0:StepV:=⟨0,0,0⟩
def StepV.ok (t:StepV):Prop:=i64r t.k ∧ i64r t.n ∧ i64r t.b
def StepV.cells (t:StepV):List Value:=[.int .i64 t.k,.int .i64 t.n,.int .i64 t.b]
def StepsAt (N:Nat) (w:World) (oa:Option Addr) (l:List StepV):Prop:=∀ i,i < l.length → ∃ b o,oa = some ⟨b,o,none⟩ ∧ b < N ∧ w.rangeAt b (o + i * 3) (l.getD i step0).cells ∧ (l.getD i step0).ok
theorem StepsAt.low {N:Nat} {w w':World} {oa:Option Addr} {l:List StepV} (h:StepsAt N w oa l) (hb:∀ k,k < N → w'.heap[k]? = w.heap[k]?):StepsAt N w' oa l:=fun i hi=>by
 obtain ⟨b,o,h1,h2,h3,h4⟩:=h i hi
 exact ⟨b,o,h1,h2,fun j v hj=>(World.cell?_of_block (a:=⟨b,o + i * 3 + j,none⟩) (hb b h2)).trans (h3 j v hj),h4⟩
theorem fpr_next {w w':World} {xb sb cb tb tb':Nat} {s s':PSt} {k:Nat} (hg:SGo (sS xb sb cb) s s' w w') (ht:tb' = tb ∨ w.heap.size ≤ tb') (hk:fpr s' xb sb cb tb' k):fpr s xb sb cb tb k ∨ w.heap.size ≤ k:=by
 rcases hk with e | e | e
 ·exact (hg.own k e).imp .inl id
 ·exact .inl (.inr (.inl e))
 ·rcases ht with ht | ht
  ·exact .inl (.inr (.inr (e.trans ht)))
  ·right
   rw [e]
   exact ht
theorem wrap_i64 (x:Int):i64r (IntKind.i64.wrap x):=by
 unfold i64r IntKind.wrap
 simp [IntKind.bits,IntKind.signed]
 omega
end Go.Proofs.YtncigfibncmioaaGreatDoor
namespace Go.Proofs.YtncigfibncmioaaGreatDoor
set_option maxHeartbeats 1000000
open Go.RowKit
def shp (F:List FF):List (ByteArray × Nat):=F.map fun e=>(e.p,e.t.size)
theorem shp_find (p:ByteArray):∀ F:List FF,findK Prod.fst p (shp F) = (findK FF.p p F).map fun e=>(e.p,e.t.size)
 | []=>rfl
 | e :: F=>by
  show findK Prod.fst p ((e.p,e.t.size) :: shp F) = _
  rw [findK_cons,findK_cons,shp_find p F]
  by_cases h:e.p = p
  ·simp [h]
  ·simp [h]
theorem shp_sum:∀ F:List FF,sumF F = ((shp F).map Prod.snd).sum:=fun F=>by
 unfold sumF shp
 rw [List.map_map]
 rfl
theorem shp_sp {F:List FF} {p x:ByteArray} (h:∀ e ∈ F,e.p = p → e.t.size = x.size):shp (spF F p x) = shp F:=by
 unfold shp spF
 rw [List.map_map]
 refine List.map_congr_left fun e he=>?_
 show ((if e.p = p then ⟨e.p,x,e.y⟩ else e:FF).p,(if e.p = p then ⟨e.p,x,e.y⟩ else e:FF).t.size) = _
 by_cases h2:e.p = p
 ·rw [if_pos h2,← h e he h2]
 ·rw [if_neg h2]
theorem shp_none {F G:List FF} {p:ByteArray} (h:shp F = shp G) (hp:findK FF.p p G = none):findK FF.p p F = none:=by
 have h1:=shp_find p F
 rw [h,shp_find,hp] at h1
 cases hf:findK FF.p p F with
 | none=>rfl
 | some e=>rw [hf] at h1;cases h1
theorem shp_some {F G:List FF} {p:ByteArray} {e:FF} (h:shp F = shp G) (hp:findK FF.p p G = some e):∃ e',findK FF.p p F = some e' ∧ e'.t.size = e.t.size:=by
 have h1:=shp_find p F
 rw [h,shp_find,hp] at h1
 cases hf:findK FF.p p F with
 | none=>rw [hf] at h1;cases h1
 | some e' =>
  rw [hf] at h1
  injection h1 with h1
  injection h1 with _ h1
  exact ⟨e',rfl,h1.symm⟩
theorem szT_okR {d:List Nat} {z:Int} {l:List TE} (h0:0 ≤ z) (h1:z ≤ 300) (h:∀ t ∈ l,t.Ok):∀ t ∈ szT d z l,t.Ok:=fun t ht=>by
 unfold szT at ht
 obtain ⟨u,hu,rfl⟩:=List.mem_map.1 ht
 have:=h u hu
 unfold szE
 split
 ·exact ⟨this.n,this.len,this.lt,h0,h1⟩
 ·exact this
theorem putF_index {F:List FF} {X p:ByteArray} (hr:RiseK FF.p F) (hp:p ≠ indexP):findK FF.p p (putF [(indexP,X)] F) = findK FF.p p F:=by
 show findK FF.p p (insK FF.p (ff indexP X) F) = _
 rw [findK_ins _ _ hr,if_neg (show ¬ p = (ff indexP X).p from hp)]
section
variable {w:World} {db xb sb cb:Nat} {s:PSt} {tb:Nat} {cl:List (List Nat)} {A:Sto} {F:List FF} {r:Int} {n cu:Nat}
theorem SR.fit (h:SR w db xb sb cb s tb cl A F r n cu):DFit s.ds (n + 3) cu 2000:=(h.rst.fit h.c0 h.c1 h.r0 h.r1).mono h.len (Nat.le_refl _) (Nat.le_refl _)
theorem SR.clen (h:SR w db xb sb cb s tb cl A F r n cu) (hl:A.cs.length ≤ n):cl.length ≤ n:=by
 have h1:cl.length ≤ (A.cs.map dOfB).length:=nodup_len (riseK_nodup (mD_rise h.sw.cm dig_keyed)) (fun x hx=>by
  obtain ⟨b,hb,e⟩:=(h.mem x).1 hx
  exact List.mem_map.2 ⟨b,hb,e.symm⟩)
 rw [List.length_map] at h1
 exact Nat.le_trans h1 hl
theorem SR.rdF (h:SR w db xb sb cb s tb cl A F r n cu) (b:ByteArray):rdD s.ds (kC b) = (findK FF.p (kC b) F).map FF.t:=rd_wh h.rst.wh (cP_path _)
theorem SR.rd300 (h:SR w db xb sb cb s tb cl A F r n cu) (hsh:shp F = shp (fA A)) {b t:ByteArray} (ht:rdD s.ds (cPath (dOfB b)) = some t):t.size ≤ 300:=by
 rw [show rdD s.ds (cPath (dOfB b)) = _ from h.rdF b] at ht
 cases hc:findK FF.p (kC b) (fA A) with
 | none =>
  rw [shp_none hsh hc] at ht
  cases ht
 | some e =>
  obtain ⟨e',h1,h2⟩:=shp_some hsh hc
  rw [h1] at ht
  injection ht with ht
  rw [← ht,h2]
  have h3:findK FF.p (kC b) (fA A) = (findK kC (kC b) A.cs).map fC:=find_content A (dOfB b)
  rw [hc] at h3
  cases hk:findK kC (kC b) A.cs with
  | none=>rw [hk] at h3;cases h3
  | some c =>
   rw [hk] at h3
   injection h3 with h3
   rw [h3]
   exact h.good.sz c (find_kC_some hk).1
theorem con300 {D:DS} {d:List Nat} {t:ByteArray} (h:conR D d = some t):rdD D (cPath d) = some t:=by
 unfold conR at h
 exact (Option.filter_eq_some_iff.1 h).1
theorem conR_dig {D:DS} {d:List Nat} {t:ByteArray} (h:conR D d = some t):dOfB t = d:=by
 unfold conR at h
 exact of_decide_eq_true (Option.filter_eq_some_iff.1 h).2
theorem conR_some {D:DS} {d:List Nat} {t:ByteArray} (h:rdD D (cPath d) = some t) (hd:dOfB t = d):conR D d = some t:=by
 unfold conR
 rw [h]
 simp only [Option.filter]
 rw [if_pos]
 simp only [decide_eq_true_eq]
 exact hd

theorem roPut (h:SR w db xb sb cb s tb cl A F r n cu) (hsh:shp F = shp (fA A)) (hl:A.cs.length ≤ n) (hr:r = 1099511627776) (hn:n ≤ 300000) (hcu:cu ≤ 90000000000) (b:ByteArray) (hb:b.size ≤ 300) :
  Calls Tryz.prog 30 #[.pointer (some ⟨xb,0,none⟩),.string b] w fun e w'=>e = .returned (.tuple #[.string (hxB b),.int .i64 0]) ∧ ∃ s' t2 nc l c,SGo (sS xb sb cb) s s' w w' ∧ BSt w' xb sb ∧ StW w' sb s' cb t2 nc (List.length l) (cD (insK dK (dOfB b) cl)) (tD l) ∧ conR s'.ds (dOfB b) = some c ∧ dOfB c = dOfB b ∧ c.size ≤ 300 ∧ (∀ t,rdD s'.ds (cPath (dOfB b)) = some t → t.size ≤ 2000):=by
 have hcl:=h.clen hl
 refine (bPut_any xb sb s cb tb cl.length (cD cl) A.tg b w h.st h.hG h.sw hb (fun t ht=>h.rd300 hsh (con300 ht)) (by omega) (fun t ht=>by have:=h.rd300 hsh ht;omega) h.good.tok h.good.t8 h.fit (sa_bud hn hcu)).mono ?_
 rintro e w' ⟨k,s',rfl,hg,hx,hw,h0, -⟩
 have hkz:(kpB s.ds (dOfB b) b).size ≤ 300:=by
  unfold kpB
  cases hc:conR s.ds (dOfB b) with
  | none=>exact hb
  | some t=>exact h.rd300 hsh (con300 hc)
 obtain ⟨l,hle⟩ : ∃ l,l = szT (dOfB b) (kpB s.ds (dOfB b) b).size A.tg:=⟨_,rfl⟩
 have hlok:∀ t ∈ l,t.Ok:=by rw [hle];exact szT_okR (by omega) (by omega) h.good.tok
 have hl8:l.length ≤ 8:=by rw [hle];unfold szT;rw [List.length_map];exact h.good.t8
 have hX:=idxX_size hlok hl8
 rw [← hle] at hw h0
 have hrF:=h.rst.wh.riseF
 have hsz:(sumF F:Int) ≤ 100000000:=by
  rw [shp_sum,hsh,← shp_sum]
  have h1:=szA_eq A
  unfold szA at h1
  have h2:∀ l:List ByteArray,(∀ b ∈ l,b.size ≤ 300) → (l.map ByteArray.size).sum ≤ 300 * l.length:=fun l=>by
   induction l with
   | nil=>intro _;exact Nat.zero_le _
   | cons x l ih =>
    intro hx
    have h3:=ih (fun y hy=>hx y (by simp [hy]))
    have h4:=hx x (by simp)
    simp only [List.map_cons,List.sum_cons,List.length_cons]
    omega
  have h3:=h2 A.cs h.good.sz
  have h4:=idxX_size h.good.tok h.good.t8
  omega
 have hfl:chF (kpF s.ds (dOfB b) b) A.tg l = (if l = A.tg then kpF s.ds (dOfB b) b else kpF s.ds (dOfB b) b ++ [(indexP,idxX l)]):=rfl
 have hkl:(kpF s.ds (dOfB b) b).length ≤ 1:=by
  unfold kpF
  split <;> simp
 have hkm:∀ f ∈ kpF s.ds (dOfB b) b,f = (kC b,b):=fun f hf=>by
  unfold kpF at hf
  split at hf
  ·cases hf
  ·exact List.mem_singleton.1 hf
 have hmem:∀ f ∈ chF (kpF s.ds (dOfB b) b) A.tg l,f = (kC b,b) ∨ f = (indexP,idxX l):=fun f hf=>by
  rw [hfl] at hf
  split at hf
  ·exact .inl (hkm f hf)
  ·rcases List.mem_append.1 hf with hf | hf
   ·exact .inl (hkm f hf)
   ·exact .inr (by simpa using hf)
 have hlen2:=chF_len (kpF s.ds (dOfB b) b) A.tg l hkl
 have htot:totF (chF (kpF s.ds (dOfB b) b) A.tg l) ≤ 2000 * 2:=by
  unfold totF
  have h2:∀ fl:List (ByteArray × ByteArray),(∀ f ∈ fl,f.2.size ≤ 2000) → (fl.map fun f=>f.2.size).sum ≤ 2000 * fl.length:=fun fl=>by
   induction fl with
   | nil=>intro _;exact Nat.zero_le _
   | cons x fl ih =>
    intro hx
    have h3:=ih (fun y hy=>hx y (by simp [hy]))
    have h4:=hx x (by simp)
    simp only [List.map_cons,List.sum_cons,List.length_cons]
    omega
  have h3:=h2 _ (fun f hf=>show f.2.size ≤ 2000 by
   rcases hmem f hf with rfl | rfl
   ·show b.size ≤ 2000;omega
   ·exact hX)
  omega
 rcases wrz_rest h.rst (shp_none hsh (find_p0 A)) (shp_none hsh (find_p1 A)) hlen2 (fun f hf=>by
   rcases hmem f hf with rfl | rfl
   ·exact ⟨cP_path _,kC_p0 b,kC_p1 b,by show b.size ≤ 2000;omega⟩
   ·exact ⟨index_path,(show p0 ≠ indexP by decide),(show p1 ≠ indexP by decide),hX⟩) hw with ⟨rfl,hrs, -⟩ | ⟨-,x1, -⟩
 case inr=>omega
 refine ⟨rfl,?_⟩
 obtain ⟨t2, -,hst⟩:=h0 rfl
 have hrise:RiseK dK cl:=mD_rise h.sw.cm dig_keyed
 rw [cD_put _ cl hrise] at hst
 have hni:kC b ≠ indexP:=kC_index b
 have hrd':rdD s'.ds (cPath (dOfB b)) = (findK FF.p (kC b) (putF (chF (kpF s.ds (dOfB b) b) A.tg l) F)).map FF.t:=rd_wh hrs.wh (cP_path _)
 have hcase:∃ c,rdD s'.ds (cPath (dOfB b)) = some c ∧ dOfB c = dOfB b ∧ c.size ≤ 300:=by
  cases hc:conR s.ds (dOfB b) with
  | some t =>
   have e1:kpF s.ds (dOfB b) b = []:=by unfold kpF;rw [hc]
   have e2:findK FF.p (kC b) (putF (chF (kpF s.ds (dOfB b) b) A.tg l) F) = findK FF.p (kC b) F:=by
    rw [hfl,e1]
    split
    ·rfl
    ·exact putF_index hrF hni
   have h5:rdD s.ds (cPath (dOfB b)) = (findK FF.p (kC b) F).map FF.t:=h.rdF b
   rw [e2,← h5] at hrd'
   have h6:=con300 hc
   exact ⟨t,hrd'.trans h6,conR_dig hc,h.rd300 hsh h6⟩
  | none =>
   have e1:kpF s.ds (dOfB b) b = [(kC b,b)]:=by unfold kpF;rw [hc];rfl
   have hri:=riseK_ins (key:=FF.p) (ff (kC b) b) hrF
   have e3:findK FF.p (kC b) (insK FF.p (ff (kC b) b) F) = some (ff (kC b) b):=by
    rw [findK_ins _ _ hrF,if_pos (show kC b = (ff (kC b) b).p from rfl)]
   have e2:findK FF.p (kC b) (putF (chF (kpF s.ds (dOfB b) b) A.tg l) F) = some (ff (kC b) b):=by
    rw [hfl,e1]
    split
    ·exact e3
    ·exact (putF_index hri hni).trans e3
   rw [e2] at hrd'
   exact ⟨b,hrd',rfl,hb⟩
 obtain ⟨c,hc1,hc2,hc3⟩:=hcase
 refine ⟨s',t2,_,l,c,hg,hx,hst,?_,hc2,hc3,fun t ht=>?_⟩
 ·exact conR_some hc1 hc2
 ·have e:c = t:=Option.some.inj (hc1.symm.trans ht)
  rw [← e]
  exact Nat.le_trans hc3 (by decide)
end
end Go.Proofs.YtncigfibncmioaaGreatDoor
