/-
  PROVED HERE: what begun of the statements answers: a store at rest, with one content.
-/
import Derived.Test.YtncigfibncmioaaGreatDoorSaShown
import Derived.Test.YtncigfibncmioaaGreatDoorSmDApp
import Derived.Test.YtncigfibncmioaaGreatDoorStChange
import Derived.Test.YtncigfibncmioaaGreatDoorSoEntry
import Derived.Test.YtncigfibncmioaaGreatDoorPdRen
namespace Go.Proofs.YtncigfibncmioaaGreatDoor
set_option maxHeartbeats 4000000
set_option maxRecDepth 100000
open Go.RowKit
def A0:Sto:=⟨[],[]⟩
def abcB:ByteArray:=⟨#[97,98,99]⟩
def latestB:ByteArray:=⟨#[108,97,116,101,115,116]⟩
def A1:Sto:=⟨[abcB],[⟨latestB,dOfB abcB,3⟩]⟩
theorem good0:GoodA A0:=⟨List.Pairwise.nil,fun b hb=>(by cases hb),List.Pairwise.nil,fun t ht=>(by cases ht),Nat.zero_le _,fun t ht=>(by cases ht),fun t ht=>(by cases ht)⟩
theorem szA0:szA A0=36:=by rw [szA_eq];rfl
theorem rest3_rst {D:DS} {r:Int} {L C:Nat} (h:Rest3 D) (hl:D.R.left = -1) (hr:D.R.room=r) (hf:DFit D L C 36):Rst D (fA A0) r 2000:=by
 obtain ⟨⟨y,x,z,hn,fx,fy,fz⟩,h2,h3⟩:=h
 have hsz:((idxX []).size:Int)=23:=rfl
 have hvw:vwL D=fA A0:=by
  unfold vwL
  rw [hn]
  show [vwE D.fd ⟨indexP,y⟩,vwE D.fd ⟨journalP,x⟩,vwE D.fd ⟨layoutP,z⟩] = [ff indexP (idxX []),ff journalP ⟨#[]⟩,ff layoutP layoutT]
  unfold vwE
  dsimp only
  rw [fx,fy,fz]
  rfl
 have n1:emptyT≠⟨#[]⟩:=by decide
 have n2:emptyT≠layoutT:=by decide
 have n3:layoutT≠⟨#[]⟩:=by decide
 have nyx:y≠x:=fun e=>n1 (by have:=fy;rw [e,fx] at this;injection this with this;exact this.symm)
 have nyz:y≠z:=fun e=>n2 (by have:=fy;rw [e,fz] at this;injection this with this;exact this.symm)
 have nxz:x≠z:=fun e=>n3 (by have:=fx;rw [e,fz] at this;injection this)
 refine ⟨⟨hvw,hl,hr,fun e he e' he' hb=>?_,hf.inow,hf.isafe,hf.ichg,hf.inv,hf.rise,fun f hf2=>(hf.dat f hf2).mono (by decide),hf.chf⟩,h2,h3,fun f hm=>?_⟩
 ·rw [hn] at he he'
  simp only [List.mem_cons,List.not_mem_nil,or_false] at he he'
  rcases he with rfl|rfl|rfl<;>rcases he' with rfl|rfl|rfl<;>first|rfl|exact absurd hb nyx|exact absurd hb.symm nyx|exact absurd hb nyz|exact absurd hb.symm nyz|exact absurd hb nxz|exact absurd hb.symm nxz
 ·rcases tail_mem (show f∈tailF [] from hm) with rfl|rfl|rfl<;>rfl
theorem run_gen (D:List Nat) (X:ByteArray) (hD:DigOk D):Pl.run 1099511627776 A0 ⟨abcB.size+tgNeed [] [⟨latestB,D,3⟩],X,0,⟨[abcB],[⟨latestB,D,3⟩]⟩⟩=(X,0,⟨[abcB],[⟨latestB,D,3⟩]⟩):=by
 refine Pl.run_yes ?_
 rw [szA0]
 show ((36:Nat):Int)+((abcB.size+tgNeed [] [⟨latestB,D,3⟩]:Nat):Int)≤1099511627776
 have h4:(idxX [⟨latestB,D,3⟩]).size≤2000:=idxX_size (fun t ht=>by
  simp only [List.mem_singleton] at ht
  subst ht
  exact te_ok (by decide) hD.1 hD.2 (by decide) (by decide)) (by simp)
 have h5:tgNeed [] [⟨latestB,D,3⟩]≤2000:=by
  unfold tgNeed
  rw [if_neg (by simp)]
  exact h4
 have h6:abcB.size=3:=rfl
 omega
theorem ins_one (b:ByteArray):nbC A0.cs (some b) = [b]:=rfl
theorem con_none (b:ByteArray):conC A0 b=none:=rfl
theorem new_one (b:ByteArray):newC A0 b=some b:=by unfold newC;rw [con_none]
theorem tag_one (m b:ByteArray):tgNew A0 m b = [⟨m,dOfB b,(b.size:Int)⟩]:=by
 unfold tgNew
 rw [con_none]
 rfl
theorem run_first:(pubPl A0 latestB abcB).run 1099511627776 A0=(hxB abcB,0,A1):=by
 have hm:mayB A0 latestB=true:=rfl
 have hs:(abcB.size:Int)=3:=rfl
 unfold pubPl A1
 rw [if_pos hm,new_one,tag_one,ins_one,hs,show nbN (some abcB)=abcB.size from rfl,show A0.tg = [] from rfl]
 generalize hD:dOfB abcB=D
 have hok:DigOk D:=by rw [← hD];exact dOfB_ok abcB
 generalize hxB abcB=X
 exact run_gen D X hok
theorem bNew_sa (r:Int) (w:World) (hg:Gl w) (h0:0≤r) (h1:r≤9223372036854775807) :
  Calls Tryz.prog 24 #[.int .i64 r] w fun e w'=>∃ d so,e = .returned (.pointer (some ⟨d,0,none⟩))∧Below w.heap.size w w'∧w.heap.size≤d∧DkW w' d so∧(∀ k,so.own k→w.heap.size≤k)∧Er so.ds∧DFit so.ds 6 0 36∧so.R.left = -1∧so.R.room=r∧so.ds.R.now = []:=by
 refine (wNewDisk r (fun g w'=>∃ so:PSt,so.b=g∧Below w.heap.size w w'∧so.In w'∧(∀ k,so.own k→w.heap.size≤k)∧so.ds=⟨⟨r,[],[],[],0, -1⟩,[],so.fd⟩) w ((pnew_any r w).mono ?_)).mono ?_
 ·rintro e w' ⟨rfl,hb,hpd,hsz⟩
  rw [if_neg (by omega)] at hpd
  refine ⟨_,rfl,⟨w.heap.size+1+1,w.heap.size,w.heap.size+1,.slice none 0 0,⟨r,[],[],[],0, -1⟩,[],fun _=>(⟨#[]⟩,0),fun _=>.slice none 0 0⟩,rfl,hb,⟨hpd,fun f hf=>(by cases hf),fun f hf=>(by cases hf),fun e he=>(by cases he),fun e he=>(by cases he),fun c hc=>(by cases hc)⟩,fun k hk=>?_,rfl⟩
  rcases hk with e|e|e|e|e|⟨f,hf,e⟩
  ·have e:k=w.heap.size+1+1:=e;omega
  ·have e:k=w.heap.size:=e;omega
  ·have e:k=w.heap.size+1:=e;omega
  ·cases e
  ·cases e
  ·cases hf
 ·rintro e w' ⟨g,w1,rfl,rfl,so,rfl,hb,hin,hown,hds⟩
  have hba:=hb.alloc hb.size (.cells #[.pointer (some ⟨so.b,0,none⟩)] 90)
  obtain ⟨e1,e2⟩:=new_er r h0 h1 so.fd
  rw [← hds] at e1 e2
  exact ⟨w1.heap.size,so,rfl,hba,hb.size,⟨hin.later ((Below.refl _ _).alloc (Nat.le_refl _) _),heap_alloc_new _ _,hg.later hba,fun k hk hG=>by have:=hown k hk;have:=hg.lt hG;omega⟩,hown,e1,e2,congrArg (fun D:DS=>D.R.left) hds,congrArg (fun D:DS=>D.R.room) hds,congrArg (fun D:DS=>D.R.now) hds⟩
theorem hx_abc:hxB abcB=abcT:=abc_known
theorem within_sa (w:World) (hg:Gl w) :
  Calls Tryz.prog 28 #[.int .i64 1099511627776] w fun e w'=>∃ d xb sb cb s tb cl,e = .returned (.tuple #[.pointer (some ⟨d,0,none⟩),.pointer (some ⟨xb,0,none⟩),.bool false])∧Below w.heap.size w w'∧SA w' d xb sb cb s tb cl A1 1099511627776 3 92∧∀ k,fpr s xb sb cb tb k→w.heap.size≤k:=by
 have HND:=hide (bNew_sa 1099511627776 w hg (by decide) (by decide))
 have HGL:=hide hg
 clear hg
 go_enter Tryz.func28,Tryz.ntmps28
 go_wp2_with fail
 refine (HND.out).mono ?_
 rintro _ w1 ⟨d,so,rfl,hb1,hld,hdk,hown,her,hfit,hleft,hroom,hnow⟩
 dsimp only
 have hnl:so.R.now.length≤6:=hfit.nowLen
 have HOP:=hide (bOpen_new so w1 d hdk.inn hdk.gl hdk.low hfit (show Bud _ _ _ from ⟨by omega,by omega,by omega⟩) her.paths (by unfold rdD;rw [hnow];rfl) hdk.bd)
 have HB1:=hide hb1
 have HDK:=hide hdk
 have HOW:=hide hown
 have HER:=hide her
 have HFI:=hide hfit
 have HLE:=hide hleft
 have HRR:=hide (show so.ds.R.room=1099511627776 from hroom)
 have hN2:w.heap.size≤w1.heap.size:=hb1.size
 clear hb1 hdk hown her hfit hleft hroom hnow hnl HND
 go_wp2_with fail
 refine (HOP.out).mono ?_
 rintro _ w2 ⟨k,s3,sv,rfl,hg3,hop3,hok,hno⟩
 dsimp only
 obtain ⟨rfl,kp3,ea3,r3⟩:=open_pure HER.out (by rw [HRR.out];decide) hop3
 have fit3:=open_fit HER.out (by rw [HRR.out];decide) HFI.out hop3
 obtain ⟨xb,sb,cb,tb,rfl,hbst,hlsb,hlxb,hst⟩:=hok rfl
 have hGx:¬ isG xb:=fun e=>by have:=HGL.out.lt e;omega
 have hroom3:s3.ds.R.room=1099511627776:=by rw [kp3.1,HRR.out]
 have hbd2:BD w2 d s3.b:=(HDK.out.go hg3).bd
 have hsa:SA w2 d xb sb cb s3 tb [] A0 1099511627776 2 70:=⟨hbst,hGx,hst,hbd2,fun d hd=>(by cases hd),fun d=>⟨fun h=>(by cases h),fun ⟨b,hb,_⟩=>(by cases hb)⟩,Nat.zero_le _,rest3_rst (r3 HLE.out) (kp3.2 HLE.out) hroom3 fit3,fit3.c0,by have:=fit3.c1;omega,good0,by rw [szA0];decide,by decide,by decide⟩
 have HB2:=hide (HB1.out.trans (hg3.low (N:=w.heap.size) HOW.out hN2))
 have hfp:∀ k,s3.own k∨sS xb sb cb k→w.heap.size≤k:=fun k hk=>by
  rcases hk with e|e|e|e
  ·exact hg3.ownN HOW.out hN2 k e
  ·omega
  ·omega
  ·omega
 have HFP:=hide hfp
 have HPB:=hide (saPub hsa (by decide) (by decide) latestB abcB (by decide) (by decide +kernel) (by decide))
 have hN3:w.heap.size≤w2.heap.size:=Nat.le_trans hN2 hg3.gr.size
 rw [run_first] at HPB
 have hltb:w.heap.size≤tb:=by omega
 unfold latestB at HPB
 have habc:abcB=⟨#[97,98,99]⟩:=rfl
 clear hop3 kp3 ea3 r3 fit3 hok hno hst hbst hg3 HOP hroom3 hfp hbd2 hsa
 have HPB2:Hid (Calls Tryz.prog 25 #[.pointer (some ⟨xb,0,none⟩),.string ⟨#[108,97,116,101,115,116]⟩,.string ⟨#[97,98,99]⟩] w2 fun e w'=>e = .returned (.tuple #[.string abcT,.int .i64 0])∧SaN w2 w' d xb sb cb s3 tb A1 1099511627776 3 92):=hide (by rw [← hx_abc];exact HPB.out)
 clear HPB habc
 go_wp2_with fail
 refine (HPB2.out).mono ?_
 rintro _ w4 ⟨rfl,s4,tb4,cl4,hg4,ht4,hs4⟩
 dsimp only
 have HB4:=hide (HB2.out.trans (hg4.lowN HFP.out hN3))
 have HF4:=hide (show ∀ k,fpr s4 xb sb cb tb4 k→w.heap.size≤k from fun k hk=>by
  rcases hk with e|e|e
  ·rcases hg4.own k e with e|e
   ·exact HFP.out k (.inl e)
   ·omega
  ·exact HFP.out k (.inr e)
  ·rcases ht4 with ht4|ht4<;>omega)
 have HGT:=hide (saGet hs4 (b:=abcB) (c:=abcB) (findK_mem hs4.good.rise (by simp [A1])))
 rw [hx_abc] at HGT
 have HGT2:Hid (Calls Tryz.prog 34 #[.pointer (some ⟨xb,0,none⟩),.string abcT] w4 fun e w'=>e = .returned (.tuple #[.string ⟨#[97,98,99]⟩,.int .i64 0])∧SGo (sS xb sb cb) s4 s4 w4 w'∧SA w' d xb sb cb s4 tb4 cl4 A1 1099511627776 3 92):=HGT
 have hN4:w.heap.size≤w4.heap.size:=Nat.le_trans hN3 hg4.gr.size
 have hfr:=HF4.out
 clear hg4 ht4 hs4 HPB2 HGT hfr
 unfold abcT at HGT2 ⊢
 go_wp2_with fail
 refine (HGT2.out).mono ?_
 rintro _ w5 ⟨rfl,hg5,hs5⟩
 dsimp only
 have HTG:=hide (saTags hs5)
 have HB5:=hide (HB4.out.trans (hg5.lowN (fun k hk=>HF4.out k (hk.elim .inl (fun e=>.inr (.inl e)))) hN4))
 have hN5:w.heap.size≤w5.heap.size:=Nat.le_trans hN4 hg5.gr.size
 clear hg5 hs5 HGT2 HB4
 go_wp2_with fail
 refine (HTG.out).mono ?_
 rintro _ w6 ⟨v6,rfl,hrow6,hg6,hs6⟩
 dsimp only
 have hcl:A1.tg.flatMap tC = [.string ⟨#[108,97,116,101,115,116]⟩,.string abcT,.int .i64 3]:=by
  have h1:dtx (dOfB abcB)=abcT:=abc_known
  show [Value.string latestB,.string (dtx (dOfB abcB)),.int .i64 3] ++ []=_
  rw [h1]
  rfl
 rw [hcl] at hrow6
 obtain ⟨g,c,rfl, -,r0,r1,r2⟩:=own_three hrow6
 have HB6:=hide (HB5.out.trans (hg6.lowN (fun k hk=>HF4.out k (hk.elim .inl (fun e=>.inr (.inl e)))) hN5))
 have HS6:=hide hs6
 unfold abcT at r1
 clear hg6 hs6 hrow6 hcl HTG HB5
 go_wp2_with fail
 refine bodyPost_ret (results_tmp3 rfl _ _ _) rfl ?_
 exact ⟨d,xb,rfl,HB6.out,sb,cb,s4,tb4,⟨cl4,HS6.out⟩,HF4.out⟩
theorem begun_sa (w:World) (hg:Gl w) :
  Calls Tryz.prog 10 #[] w fun e w'=>∃ d xb sb cb s tb cl,e = .returned (.tuple #[.pointer (some ⟨d,0,none⟩),.pointer (some ⟨xb,0,none⟩)])∧Below w.heap.size w w'∧SA w' d xb sb cb s tb cl A1 1099511627776 3 92∧∀ k,fpr s xb sb cb tb k→w.heap.size≤k:=by
 have HW:=hide (within_sa w hg)
 clear hg
 go_enter Tryz.func10,Tryz.ntmps10
 go_wp2_with fail
 refine (HW.out).mono ?_
 rintro _ w1 ⟨d,xb,sb,cb,s,tb,cl,rfl,hb,hs,hf⟩
 dsimp only
 have HB:=hide hb
 have HS:=hide hs
 have HF:=hide hf
 clear hb hs hf HW
 go_wp2_with fail
 refine bodyPost_ret (results_tmp2 rfl _ _ _) rfl ?_
 exact ⟨d,xb,sb,cb,s,tb,cl,rfl,HB.out,HS.out,HF.out⟩
end Go.Proofs.YtncigfibncmioaaGreatDoor
namespace Go.Proofs.YtncigfibncmioaaGreatDoor
open Go.RowKit
section
variable {w:World} {d:Nat} {s:PSt} {A:Sto} {r:Int} {n cu:Nat}
theorem DQ.file (h:DQ w d s A r n cu) {p t:ByteArray} (hf:findK FF.p p (fA A)=some (ff p t)):∃ f,findE p s.R.now=some f∧(s.fd f).1=t:=by
 have h1:findK FF.p p (fA A)=(findE p s.R.now).map fun g=>⟨p,(s.fd g).1,(s.fd g).2⟩:=h.rq.rst.wh.look p
 rw [hf] at h1
 cases h2:findE p s.R.now with
 | none=>rw [h2] at h1;cases h1
 | some f =>
  rw [h2] at h1
  injection h1 with h1
  exact ⟨f,rfl,(congrArg FF.t h1).symm⟩
theorem find_journal (A:Sto):findK FF.p journalP (fA A)=some (ff journalP ⟨#[]⟩):=by
 rw [find_fA,find_kC_out (fun b=>kC_journal b)]
 unfold tailF
 rw [findK_cons,if_neg (show ¬ (ff indexP (idxX A.tg)).p=journalP by show ¬ indexP=journalP;decide),findK_cons,if_pos (show (ff journalP ⟨#[]⟩).p=journalP from rfl)]
 rfl
theorem find_cont (g:GoodA A) {b:ByteArray} (hb:b∈A.cs):findK FF.p (kC b) (fA A)=some (ff (kC b) b):=by
 rw [find_fA,findK_mem g.rise hb]
 rfl
theorem DQ.lenN (h:DQ w d s A r n cu):s.R.now.length=A.cs.length+3:=by
 have hv:s.ds.R.now.map (vwE s.ds.fd)=fA A:=h.rq.vw
 have:=congrArg List.length hv
 rw [List.length_map,fA_len] at this
 exact this
theorem DQ.path (h:DQ w d s A r n cu) {k:Nat} (hk:k<A.cs.length):(s.R.now.getD k DE0).path=kC (A.cs[k]'hk):=by
 have hv:s.ds.R.now.map (vwE s.ds.fd)=fA A:=h.rq.vw
 have hl:=h.lenN
 have h1:(s.ds.R.now.map (vwE s.ds.fd))[k]? = (fA A)[k]?:=by rw [hv]
 rw [List.getElem?_map] at h1
 have h2:(fA A)[k]? = some (fC (A.cs[k]'hk)):=by
  unfold fA
  rw [List.getElem?_append_left (by rw [List.length_map];exact hk),List.getElem?_map,List.getElem?_eq_getElem hk]
  rfl
 rw [h2,show s.ds.R.now=s.R.now from rfl,List.getElem?_eq_getElem (show k<s.R.now.length by omega)] at h1
 injection h1 with h1
 rw [List.getD_eq_getElem?_getD,List.getElem?_eq_getElem (show k<s.R.now.length by omega)]
 exact congrArg FF.p h1
end
theorem app_facts (t:ByteArray) (hz:t.size=64):(blobsP++t).size=70∧(blobsP++t).extract 0 6=⟨#[98,108,111,98,115,47]⟩∧(blobsP++t).extract 6 70=t:=by
 have h6:blobsP.size=6:=rfl
 have h70:(blobsP++t).size=70:=by rw [ByteArray.size_append,hz,h6]
 exact ⟨h70,ByteArray.extract_append_eq_left h6.symm,ByteArray.extract_append_eq_right h6.symm (by rw [h6,hz])⟩
theorem kC_facts (b:ByteArray):(kC b).size=70∧(kC b).extract 0 6=⟨#[98,108,111,98,115,47]⟩∧(kC b).extract 6 70=hxB b∧(⟨#[98,108,111,98,115,47]⟩ : ByteArray)++hxB b=kC b:=by
 have e:kC b=blobsP++hxB b:=cPath_app _
 have hz:(hxB b).size=64:=dtx_size _
 generalize hxB b=T at e hz
 generalize kC b=P at e
 subst e
 obtain ⟨h1,h2,h3⟩:=app_facts T hz
 exact ⟨h1,h2,h3,rfl⟩
theorem idx_print {A:Sto} (g:GoodA A):pText (A.tg.map TE.tg)=idxX A.tg∧pErr (A.tg.map TE.tg)=0:=by
 have h:indexB (A.tg.map TE.tg)=true:=by
  unfold indexB
  rw [decide_eq_true (show (A.tg.map TE.tg).length≤8 by rw [List.length_map];exact g.t8),decide_eq_true (good_tg g.tok g.ttag g.tr)]
  rfl
 unfold pText pErr
 rw [if_pos h,if_pos h]
 exact ⟨by unfold idxX;rw [List.length_map],rfl⟩
theorem tg_told {t:TE} (h:t.Ok):(En.tg t.en).told=t.tg:=by
 show (⟨t.n,⟨(Sha.textTo (rd (dtx t.d)) 32).toArray⟩,((t.z.toNat:Nat):Int)⟩ : Tg)=⟨t.n,dtx t.d,t.z⟩
 rw [rd_dtx t.d h.len h.lt,Int.toNat_of_nonneg h.z0]
 rfl
theorem tgs_told {A:Sto} (g:GoodA A):((A.tg.map TE.en).map En.tg).map Tg.told=A.tg.map TE.tg:=by
 rw [List.map_map,List.map_map]
 exact List.map_congr_left fun t ht=>tg_told (g.tok t ht)
theorem rise_inj {A:Sto} (g:GoodA A) {a b:ByteArray} (ha:a∈A.cs) (hb:b∈A.cs) (h:dOfB a=dOfB b):a=b:=by
 have h1:=findK_mem g.rise ha
 have h2:=findK_mem g.rise hb
 have h3:kC a=kC b:=by unfold kC;rw [h]
 rw [h3,h2] at h1
 exact (Option.some.inj h1).symm
theorem dtx_inj {a b:List Nat} (ha:DigOk a) (hb:DigOk b) (h:dtx a=dtx b):a=b:=by
 rw [← rd_dtx a ha.1 ha.2,← rd_dtx b hb.1 hb.2,h]
theorem entry_fine {A:Sto} (g:GoodA A) {b:ByteArray} (hb:b∈A.cs):∀ i,i<A.tg.length→((A.tg.map TE.tg).getD i default).dig=hxB b→((A.tg.map TE.tg).getD i default).size=(b.size:Int):=fun i hi=>by
 rw [getD_tg hi]
 intro h
 obtain ⟨b',hb',e1,e2⟩:=g.tin _ (List.getElem_mem hi)
 have h1:dtx (A.tg[i]'hi).d=dtx (dOfB b):=h
 have h2:=dtx_inj (by rw [e1];exact dOfB_ok _) (dOfB_ok b) h1
 rw [e1] at h2
 have h3:=rise_inj g hb' hb h2
 subst h3
 exact e2
theorem tag_file {A:Sto} (g:GoodA A) {i:Nat} (hi:i<A.tg.length):∃ b∈A.cs,((A.tg.map TE.tg).getD i default).dig=hxB b:=by
 rw [getD_tg hi]
 obtain ⟨b',hb',e1,_⟩:=g.tin _ (List.getElem_mem hi)
 exact ⟨b',hb',by show dtx (A.tg[i]'hi).d=dtx (dOfB b');rw [e1]⟩
theorem flatV3:∀ (l:List Tg) (k:Nat),(l.flatMap Tg.cells)[k]? = (l[k / 3]?).bind fun t=>t.cells[k % 3]?
 | [],k=>by simp
 | t::ts,k=>by
  rw [List.flatMap_cons]
  by_cases hk:k<3
  ·rw [List.getElem?_append_left (by simpa [Tg.cells] using hk),show k / 3=0 by omega,show k % 3=k by omega]
   rfl
  ·rw [List.getElem?_append_right (by simp [Tg.cells];omega),show t.cells.length=3 from rfl,flatV3 ts (k - 3),show k / 3=(k - 3) / 3+1 by omega,show (k - 3) % 3=k % 3 by omega]
   rfl
theorem own_tgAt {w:World} {B n cap:Nat} {oa:Option Addr} {l:List Tg} (h:w.ownsRow B 83 3 (.slice oa n cap) n (l.flatMap Tg.cells)) (hn:l.length=n):TagsAt w oa l:=by
 intro i hi
 obtain ⟨hlen,h2⟩:=h
 rcases h2 with ⟨e,h0⟩|⟨g',cap',cur,e,_,hg,_,_,hsz,htk⟩
 ·omega
 ·injection e with e1 _ _
  subst e1
  refine ⟨g',0,rfl,?_⟩
  intro j v hj
  have hj3:j<3:=by
   have:=(List.getElem?_eq_some_iff.1 hj).1
   simpa [Tg.cells] using this
  rw [Nat.zero_add,cell_of_row w g' (i * 3+j) _ _ _ hg]
  have hlt:i * 3+j<n * 3:=by omega
  have e4:cur[i * 3+j]? = (l.flatMap Tg.cells)[i * 3+j]?:=by
   rw [← htk,List.getElem?_take_of_lt hlt,Array.getElem?_toList]
  rw [e4,flatV3,show (i * 3+j) / 3=i by omega,show (i * 3+j) % 3=j by omega,List.getElem?_eq_getElem hi]
  have e5:l.getD i default=l[i]:=by rw [List.getD_eq_getElem?_getD,List.getElem?_eq_getElem hi];rfl
  rw [e5] at hj
  exact hj
theorem rowT_goV {w w':World} {B n:Nat} {v:Value} {xs:List Value} {s s':PSt} (h:w.ownsRow B 83 3 v n xs) (hi:s.In w) (hg:PGo s s' w w'):w'.ownsRow B 83 3 v n xs:=own_same h (fun k hk _=>by
 obtain ⟨c,hc⟩:=own_obj h k hk
 exact (hg.keeps hi hc (by decide) (by decide) (by decide) (by decide)).trans hc.symm)
theorem tg_names {A:Sto} (g:GoodA A):∀ i,((A.tg.map TE.tg).getD i default).name.size≤9223372036854775807:=fun i=>by
 by_cases hi:i<A.tg.length
 ·rw [getD_tg hi]
  have:=(g.tok _ (List.getElem_mem hi)).n
  show (A.tg[i]'hi).n.size≤_
  omega
 ·rw [List.getD_eq_getElem?_getD,List.getElem?_eq_none (by rw [List.length_map];omega)]
  show (⟨#[]⟩ : ByteArray).size≤_
  decide
structure StepV where
 k:Int
 n:Int
 b:Int
def step0:StepV:=⟨0,0,0⟩
def StepV.ok (t:StepV):Prop:=i64r t.k∧i64r t.n∧i64r t.b
def StepV.cells (t:StepV):List Value:=[.int .i64 t.k,.int .i64 t.n,.int .i64 t.b]
def StepsAt (N:Nat) (w:World) (oa:Option Addr) (l:List StepV):Prop:=∀ i,i<l.length→∃ b o,oa=some ⟨b,o,none⟩∧b<N∧w.rangeAt b (o+i * 3) (l.getD i step0).cells∧(l.getD i step0).ok
theorem fpr_next {w w':World} {xb sb cb tb tb':Nat} {s s':PSt} {k:Nat} (hg:SGo (sS xb sb cb) s s' w w') (ht:tb'=tb∨w.heap.size≤tb') (hk:fpr s' xb sb cb tb' k):fpr s xb sb cb tb k∨w.heap.size≤k:=by
 rcases hk with e|e|e
 ·exact (hg.own k e).imp .inl id
 ·exact .inl (.inr (.inl e))
 ·rcases ht with ht|ht
  ·exact .inl (.inr (.inr (e.trans ht)))
  ·right
   rw [e]
   exact ht
theorem step_one {N:Nat} {w w':World} {d1 x1 b1 c1 d2 x2 b2 c2:Nat} {s1 s2:PSt} {t1 t2:Nat} {l1 l2:List (List Nat)} {A A' A2:Sto} {r r2:Int} {n n2 m cu cu2 cv:Nat}
  (h1:SA w d1 x1 b1 c1 s1 t1 l1 A r n cu) (h2:SA w d2 x2 b2 c2 s2 t2 l2 A2 r2 n2 cu2) (ha:∀ k,fpr s1 x1 b1 c1 t1 k→¬ fpr s2 x2 b2 c2 t2 k) (hN:∀ k,fpr s1 x1 b1 c1 t1 k→N≤k) (hw:N≤w.heap.size) (hs:SaN w w' d1 x1 b1 c1 s1 t1 A' r m cv) :
  ∃ s1' t1' l1',SA w' d1 x1 b1 c1 s1' t1' l1' A' r m cv∧SA w' d2 x2 b2 c2 s2 t2 l2 A2 r2 n2 cu2∧(∀ k,fpr s1' x1 b1 c1 t1' k→¬ fpr s2 x2 b2 c2 t2 k)∧(∀ k,fpr s1' x1 b1 c1 t1' k→N≤k)∧Below N w w':=by
 obtain ⟨s1',t1',l1',hg,ht,h3⟩:=hs
 refine ⟨s1',t1',l1',h3,h2.other h1 hg (fun k hk e=>ha k e hk),fun k hk e=>?_,fun k hk=>?_,hg.lowN (fun k hk=>hN k (hk.elim .inl (fun e=>.inr (.inl e)))) hw⟩
 ·rcases fpr_next hg ht hk with hk|hk
  ·exact ha k hk e
  ·have:=h2.lt k e
   omega
 ·rcases fpr_next hg ht hk with hk|hk
  ·exact hN k hk
  ·omega
theorem wrap_i64 (x:Int):i64r (IntKind.i64.wrap x):=by
 unfold i64r IntKind.wrap
 simp [IntKind.bits,IntKind.signed]
 omega
end Go.Proofs.YtncigfibncmioaaGreatDoor
namespace Go.Proofs.YtncigfibncmioaaGreatDoor
set_option maxHeartbeats 8000000
set_option maxRecDepth 100000
open Go.RowKit
theorem valid_rest {w:World} {d:Nat} {s:PSt} {A:Sto} {r:Int} {N cu:Nat} (h:DQ w d s A r N cu) (hN:N≤300000) :
  Calls Tryz.prog 15 #[.pointer (some ⟨d,0,none⟩)] w fun e w'=>e = .returned (.bool true)∧PGo s s w w':=by
 have hgood:=h.good
 obtain ⟨y,f1,fy⟩:=h.file (find_index A)
 obtain ⟨x,f2,fx⟩:=h.file (find_journal A)
 obtain ⟨z,f3,fz⟩:=h.file (find_layout A)
 have hlen:=h.lenN
 have hmN:=h.len
 have hdk:=h.dk
 have HLS:=hide (bList_any s d w hdk (by omega))
 have HRL:=hide (fun W (hg:PGo s s w W)=>bRead_any s d z layoutP W (hdk.go hg) (by decide) f3)
 have HRI:=hide (fun W (hg:PGo s s w W)=>bRead_any s d y indexP W (hdk.go hg) (by decide) f1)
 have HRJ:=hide (fun W (hg:PGo s s w W)=>bRead_any s d x journalP W (hdk.go hg) (by decide) f2)
 have HRC:=hide (show ∀ b∈A.cs,∀ W,PGo s s w W→Calls Tryz.prog 43 #[.pointer (some ⟨d,0,none⟩),.string (kC b)] W fun e w'=>e = .returned (.tuple #[.string b,.int .i64 0])∧PGo s s W w' from fun b hb W hg=>by
  obtain ⟨f,h1,h2⟩:=h.file (find_cont hgood hb)
  have:=bRead_any s d f (kC b) W (hdk.go hg) (cP_path _) h1
  rw [h2] at this
  exact this)
 rw [fz] at HRL
 rw [fy] at HRI
 rw [fx] at HRJ
 obtain ⟨n,hn⟩ : ∃ n,n=s.R.now.length:=⟨_,rfl⟩
 obtain ⟨m,hm⟩ : ∃ m,m=A.cs.length:=⟨_,rfl⟩
 obtain ⟨q,hq⟩ : ∃ q,q=A.tg.length:=⟨_,rfl⟩
 have hq8:q≤8:=by rw [hq];exact hgood.t8
 rw [← hn,← hm] at hlen
 rw [← hm] at hmN
 rw [← hn] at HLS
 have hnb:n≤300003:=by omega
 have HLN:=hide hlen
 clear hlen hmN hN
 have HNE:=hide hn
 have HME:=hide hm
 have HQE:=hide hq
 have H:=hide h
 have HGD:=hide hgood
 clear h hgood hdk fx fy fz f1 f2 f3 hn hm hq
 unfold layoutP at HRL
 unfold indexP at HRI
 unfold journalP at HRJ
 obtain ⟨tp,hpe⟩:=idx_print HGD.out
 have htold:=tgs_told HGD.out
 obtain ⟨cR,hread⟩:=idx_read HGD.out
 have hisz:=idxX_size HGD.out.tok HGD.out.t8
 generalize idxX A.tg=ET at *
 have HTP:=hide tp
 have HPE:=hide hpe
 have HTOLD:=hide htold
 have HREAD:=hide hread
 clear tp hpe htold hread
 go_enter Tryz.func15,Tryz.ntmps15
 go_wp2_with fail
 refine (HLS.out).mono ?_
 rintro _ w1 ⟨v,rfl,hrow,hb1⟩
 dsimp only
 obtain ⟨so,sc,rfl⟩:=own_sl hrow
 have HG1:=hide (PGo.refl H.out.dk.inn hb1)
 have HRW1:=hide hrow
 clear hrow hb1 HLS
 go_wp2_with fail
 refine (HRL.out _ HG1.out).mono ?_
 rintro _ w2 ⟨rfl,hg2⟩
 dsimp only
 have HRW2:=hide (row_go HRW1.out HG1.out.inn hg2)
 have HG2:=hide (HG1.out.trans hg2)
 clear hg2 HRL HRW1
 go_wp2_with fail
 refine (HRI.out _ HG2.out).mono ?_
 rintro _ w3 ⟨rfl,hg3⟩
 dsimp only
 have HRW3:=hide (row_go HRW2.out HG2.out.inn hg3)
 have HG3:=hide (HG2.out.trans hg3)
 clear hg3 HRI HRW2
 go_wp2_with fail
 refine (HRJ.out _ HG3.out).mono ?_
 rintro _ w4 ⟨rfl,hg4⟩
 dsimp only
 have HRW4:=hide (row_go HRW3.out HG3.out.inn hg4)
 have HG4:=hide (HG3.out.trans hg4)
 clear hg4 HRJ HRW3
 have hlT:layoutT=⟨#[123,34,118,101,114,115,105,111,110,34,58,49,125]⟩:=rfl
 rw [hlT]
 have HPA:=hide (parse_any ET w4 hisz)
 clear hlT
 go_wp2_with fail
 refine (HPA.out).mono ?_
 rintro e5 w5 ⟨hb5,v5,hv5⟩
 obtain ⟨o5,c5,rfl,hrt5⟩ : ∃ o5 c5,e5 = .returned (.tuple #[.slice o5 q c5,.int .i64 0,.int .i64 0])∧w5.ownsRow w4.heap.size 83 3 (.slice o5 q c5) q ((A.tg.map TE.tg).flatMap Tg.cells):=by
  rcases hv5 with ⟨es,c,hr,rfl,hrow,_⟩|⟨p,hr,_⟩
  ·rw [HREAD.out] at hr
   injection hr with hr _
   subst hr
   rw [HTOLD.out,List.length_map,← HQE.out] at hrow
   obtain ⟨o,c,rfl⟩:=own_sl hrow
   exact ⟨o,c,rfl,hrow⟩
  ·rw [HREAD.out] at hr
   cases hr
 have HRT5:=hide hrt5
 dsimp only
 have hg5:PGo s s w w5:=HG4.out.trans (PGo.refl HG4.out.inn hb5)
 have hlq:(A.tg.map TE.tg).length=q:=by rw [List.length_map,HQE.out]
 have HPR:=hide (ownPrint_any o5 c5 (A.tg.map TE.tg) w5 (own_tgAt hrt5 hlq) (tg_names HGD.out) ((H.out.dk.go hg5).gl.tab))
 rw [HTP.out,HPE.out,hlq] at HPR
 have HG5:=hide hg5
 have HRW5:=hide (ownsRow_later HRW4.out hb5)
 have HLQ:=hide hlq
 clear hb5 hv5 hg5 HPA HRW4 hrt5 HREAD HTOLD hlq
 have d3:decide (((n:Nat):Int)<3)=false:=decide_eq_false (by have:=HLN.out;omega)
 go_wp2_with fail
 refine (HPR.out).mono ?_
 rintro _ w6 ⟨rfl,hb6⟩
 dsimp only
 have HG6:=hide (HG5.out.trans (PGo.refl HG5.out.inn hb6))
 have HRW6:=hide (ownsRow_later HRW5.out hb6)
 have HRT6:=hide (ownsRow_later HRT5.out hb6)
 clear hb6 HPR HRW5 HRT5 HTP HPE
 go_wp2_with fail
 clear d3
 go_loopw [16] (fun iv w'=>∃ j:Nat,j≤m∧iv = .int .i64 ((j:Nat):Int)∧PGo s s w w'∧w'.ownsRow w.heap.size 9 1 (.slice so n sc) n (pathVs s.R.now)∧w'.ownsRow w4.heap.size 83 3 (.slice o5 q c5) q ((A.tg.map TE.tg).flatMap Tg.cells)) (fun iv _=>m - (intOf iv).toNat)
 case atStart=>exact ⟨0,Nat.zero_le _,rfl,HG6.out,HRW6.out,HRT6.out⟩
 case round =>
  obtain ⟨j,hj,rfl,hgo,hrw,hrt⟩:=hrel
  have HRT:=hide hrt
  have HGO:=hide hgo
  have HRW:=hide hrw
  by_cases hlt:j<m
  ·have hjl:j<A.cs.length:=by rw [← HME.out];exact hlt
   have hjn:j<s.R.now.length:=by rw [← HNE.out];have:=HLN.out;omega
   have hpj:=H.out.path hjl
   have hbm:A.cs[j]'hjl∈A.cs:=List.getElem_mem hjl
   have hbz:=HGD.out.sz _ hbm
   have HEF:=hide (entry_fine HGD.out hbm)
   have HRC1:=hide (HRC.out _ hbm wr hgo)
   have HCE:=hide (show ∀ W:World,W.ownsRow w.heap.size 9 1 (.slice so n sc) n (pathVs s.R.now)→∃ g,so=some ⟨g,0,none⟩∧W.cell? ⟨g,j,none⟩=some (.string (kC (A.cs[j]'hjl))) from fun W hW=>by
    have hW2:W.ownsRow w.heap.size 9 1 (.slice so n sc) s.R.now.length (pathVs s.R.now):=by rw [← HNE.out];exact hW
    obtain ⟨o2,cap2,e2,hcells⟩:=own_str hW2
    obtain ⟨g,rfl,hc⟩:=hcells j hjn
    injection e2 with e2 _ _
    rw [hpj] at hc
    exact ⟨g,e2,hc⟩)
   obtain ⟨u70,u6,uT, -⟩:=kC_facts (A.cs[j]'hjl)
   have HHA0:=hide (fun (W:World) (hg:Gl W)=>hashK (A.cs[j]'hjl) W hbz hg)
   generalize A.cs[j]'hjl=bb at *
   generalize kC bb=P at *
   generalize hxB bb=T at *
   obtain ⟨g,rfl,r0⟩:=HCE.out wr hrw
   have hj2:j<n:=by have:=HLN.out;omega
   have d1:decide (((j:Nat):Int)<((n:Nat):Int) - 3)=true:=decide_eq_true (by have:=HLN.out;omega)
   clear hgo hrw hrt HG6 HRW6 HRT6 hpj hbm hjl hjn
   go_wp2_with fail
   refine (HRC1.out).mono ?_
   rintro _ w7 ⟨rfl,hg7⟩
   dsimp only
   have HG7:=hide (HGO.out.trans hg7)
   have HRW7:=hide (row_go HRW.out HGO.out.inn hg7)
   have HRT7:=hide (rowT_goV HRT.out HGO.out.inn hg7)
   clear hg7 HRC1 HRW HRT r0
   obtain ⟨g',e',r7⟩:=HCE.out w7 HRW7.out
   injection e' with e'
   injection e' with e'
   subst e'
   have hgl7:=(H.out.dk.go HG7.out).gl
   have HHA3:=hide (HHA0.out w7.drew (hgl7.later (Below.refl w7.heap.size w7).drew))
   have hS0:w7.drew.cell? ⟨g,j,none⟩=some (.string P):=cell_later (Below.refl w7.heap.size w7).drew r7
   clear hgl7 HHA0
   go_wp2_with fail
   go_region_held3 (fun w'=>w'.cell? ⟨g,j,none⟩=some (.string P)) (first|exact hS0|exact hS3|go_keep) ((go_at_call 35;refine (HHA3.out).mono ?_;rintro _ w8 ⟨rfl,hb8⟩;have hb9:Below w7.heap.size w7 w8:=((Below.refl w7.heap.size w7).drew).trans hb8;have hS3:=cell_later hb9 r7))
   have r8:=cell_later hb9 r7
   have HG8:=hide (HG7.out.trans (PGo.refl HG7.out.inn hb9))
   have HRW8:=hide (ownsRow_later HRW7.out hb9)
   have HRT8:=hide (ownsRow_later HRT7.out hb9)
   have HEN:=hide (entry_any o5 c5 q (A.tg.map TE.tg) T (bb.size:Int) w8 HLQ.out (by omega) (own_tgAt HRT8.out HLQ.out) (by rw [HQE.out];exact HEF.out))
   clear hb8 hb9 hS0 hS3 r7 HHA3 HRW7 HRT7 HG7
   go_wp2_with fail
   refine (HEN.out).mono ?_
   rintro _ w9 ⟨rfl,hb10⟩
   dsimp only
   have HG9:=hide (HG8.out.trans (PGo.refl HG8.out.inn hb10))
   have HRW9:=hide (ownsRow_later HRW8.out hb10)
   have HRT9:=hide (ownsRow_later HRT8.out hb10)
   clear hb10 HEN r8
   go_wp2_with fail
   exact ⟨⟨j+1,by omega,by simp,HG9.out,HRW9.out,HRT9.out⟩,by simp only [intOf];omega⟩
  ·clear hgo hrw hrt HRW HG6 HRW6 HRT6
   have d1:decide (((j:Nat):Int)<((n:Nat):Int) - 3)=false:=decide_eq_false (by have:=HLN.out;omega)
   go_wp2_with fail
   go_loopw [21] (fun iv w'=>∃ k:Nat,k≤q∧iv = .int .i64 ((k:Nat):Int)∧PGo s s w w'∧w'.ownsRow w4.heap.size 83 3 (.slice o5 q c5) q ((A.tg.map TE.tg).flatMap Tg.cells)) (fun iv _=>q - (intOf iv).toNat)
   case atStart=>exact ⟨0,Nat.zero_le _,rfl,HGO.out,HRT.out⟩
   case round =>
    obtain ⟨k,hk,rfl,hgo,hrt⟩:=hrel
    have HGO2:=hide hgo
    have HRT2:=hide hrt
    clear HGO HRT d1
    by_cases hkq:k<q
    ·obtain ⟨bb,hbm,hdg⟩:=tag_file HGD.out (show k<A.tg.length by rw [← HQE.out];exact hkq)
     obtain ⟨b1,o1,rfl,x1⟩:=own_tgAt hrt HLQ.out k (by rw [HLQ.out];exact hkq)
     have c2:=x1 1 _ rfl
     rw [hdg] at c2
     have HRC1:=hide (HRC.out bb hbm _ hgo)
     obtain ⟨-, -, -,hcat⟩:=kC_facts bb
     have hz:=Nat.le_of_eq (show (hxB bb).size=64 from dtx_size _)
     generalize kC bb=P at *
     generalize hxB bb=T at *
     have q6:¬ 9223372036854775807<6+T.size:=by omega
     have d2:decide (((k:Nat):Int)<((q:Nat):Int))=true:=decide_eq_true (by omega)
     clear hgo hrt x1 hdg hbm
     go_wp2_with fail
     refine (HRC1.out).mono ?_
     rintro _ w7 ⟨rfl,hg7⟩
     dsimp only
     have HG7:=hide (HGO2.out.trans hg7)
     have HRT7:=hide (rowT_goV HRT2.out HGO2.out.inn hg7)
     clear hg7 HRC1 c2
     go_wp2_with fail
     exact ⟨⟨k+1,by omega,by simp,HG7.out,HRT7.out⟩,by simp only [intOf];omega⟩
    ·have d2:decide (((k:Nat):Int)<((q:Nat):Int))=false:=decide_eq_false (by omega)
     clear hgo hrt
     go_wp2_with fail
     go_ret
     exact ⟨rfl,HGO2.out⟩
end Go.Proofs.YtncigfibncmioaaGreatDoor
namespace Go.Proofs.YtncigfibncmioaaGreatDoor
open Go.RowKit
theorem sum_le300:∀ l:List ByteArray,(∀ b∈l,b.size≤300)→(l.map ByteArray.size).sum≤300 * l.length
 | [],_=>Nat.le_refl _
 | b::l,h=>by
  have h1:=h b (by simp)
  have h2:=sum_le300 l (fun x hx=>h x (by simp [hx]))
  simp only [List.map_cons,List.sum_cons,List.length_cons]
  omega
theorem szA_le {A:Sto} (g:GoodA A):szA A≤300 * A.cs.length+2013:=by
 rw [szA_eq]
 have h1:=sum_le300 A.cs g.sz
 have h2:=idxX_size g.tok g.t8
 omega
theorem nbN_new {A:Sto} {b:ByteArray} (hb:b.size≤300):nbN (newC A b)≤300:=by
 cases h:newC A b with
 | none=>exact Nat.zero_le _
 | some x=>exact (newC_ok hb x h).2
theorem tgNeed_le {A:Sto} {l:List TE} {cs:List ByteArray} (g:GoodA ⟨cs,l⟩):tgNeed A.tg l≤2000:=by
 unfold tgNeed
 split
 ·exact Nat.zero_le _
 ·exact idxX_size g.tok g.t8
theorem put_fine {A:Sto} (g:GoodA A) {b:ByteArray} (hb:b.size≤300):(putPl A b).need≤2300∧(putPl A b).err≠4:=by
 have h1:=nbN_new (A:=A) hb
 have h2:=tgNeed_le (A:=A) (l:=A.tg) (cs:=A.cs) g
 refine ⟨?_,by show (0:Int)≠4;decide⟩
 show nbN (newC A b)+tgNeed A.tg A.tg≤2300
 omega
theorem pub_fine {A:Sto} (g:GoodA A) {n b:ByteArray} (hb:b.size≤300) (hn:n.size≤20) (ht:isTagB n=true):(pubPl A n b).need≤2300∧(pubPl A n b).err≠4:=by
 unfold pubPl
 cases hm:mayB A n with
 | false=>rw [if_neg (by decide)];exact ⟨Nat.zero_le _,by show (12:Int)≠4;decide⟩
 | true =>
  rw [if_pos rfl]
  have h1:=nbN_new (A:=A) hb
  have h2:=tgNeed_le (A:=A) (g.pub hb hn ht hm)
  refine ⟨?_,by show (0:Int)≠4;decide⟩
  show nbN (newC A b)+tgNeed A.tg (tgNew A n b)≤2300
  omega
theorem tag_fine {A:Sto} (g:GoodA A) {n b:ByteArray} (hb:b.size≤300) (hn:n.size≤20) (ht:isTagB n=true):(tagPl A n b).need≤2300∧(tagPl A n b).err≠4:=by
 unfold tagPl
 cases hc:(conC A b).isSome with
 | false=>rw [if_neg (by decide)];exact ⟨Nat.zero_le _,by show (10:Int)≠4;decide⟩
 | true =>
  rw [if_pos rfl]
  cases hm:mayB A n with
  | false=>rw [if_neg (by decide)];exact ⟨Nat.zero_le _,by show (12:Int)≠4;decide⟩
  | true =>
   rw [if_pos rfl]
   have h2:=tgNeed_le (A:=A) (g.pub hb hn ht hm)
   refine ⟨?_,by show (0:Int)≠4;decide⟩
   show 0+tgNeed A.tg (tgNew A n b)≤2300
   omega
theorem unt_fine {A:Sto} (g:GoodA A) {n:ByteArray}:(untPl A n).need≤2300∧(untPl A n).err≠4:=by
 unfold untPl
 cases hc:(findK TE.n n A.tg).isSome with
 | false=>rw [if_neg (by decide)];exact ⟨Nat.zero_le _,by show (10:Int)≠4;decide⟩
 | true =>
  rw [if_pos rfl]
  have h2:=tgNeed_le (A:=A) (g.untag n)
  refine ⟨?_,by show (0:Int)≠4;decide⟩
  show 0+tgNeed A.tg (delK TE.n n A.tg)≤2300
  omega
theorem del_fine {A:Sto} {b:ByteArray}:(delPl A b).need≤2300∧(delPl A b).err≠4:=by
 unfold delPl
 split
 ·split
  ·exact ⟨Nat.zero_le _,by show (11:Int)≠4;decide⟩
  ·exact ⟨Nat.zero_le _,by show (0:Int)≠4;decide⟩
 ·exact ⟨Nat.zero_le _,by show (10:Int)≠4;decide⟩
theorem pru_fine {A:Sto}:(pruPl A).need≤2300∧(pruPl A).err≠4:=⟨Nat.zero_le _,by show (0:Int)≠4;decide⟩
theorem ds_fine {A:Sto} (g:GoodA A) (K N B:Int):(dsPl A K N B).need≤2300∧(dsPl A K N B).err≠4:=by
 have hb:(conT B).size≤300:=Nat.le_trans (conT_size B) (by decide)
 have hn:(nmT N).size≤20:=Nat.le_trans (nmT_size N) (by decide)
 have ht:=nmT_tag N
 unfold dsPl
 match pickN K 8 with
 | 0=>exact put_fine g hb
 | 1=>exact put_fine g hb
 | 2=>exact tag_fine g hb hn ht
 | 3=>exact unt_fine g
 | 4=>exact pub_fine g hb hn ht
 | 5=>exact pub_fine g hb hn ht
 | 6=>exact del_fine
 | n+7=>exact pru_fine
theorem big_run {A:Sto} (g:GoodA A) (hl:A.cs.length≤300000) (K N B:Int):(dsPl A K N B).run 1099511627776 A=((dsPl A K N B).txt,(dsPl A K N B).err,(dsPl A K N B).nx):=by
 refine Pl.run_yes ?_
 have h1:=szA_le g
 have h2:=(ds_fine g K N B).1
 omega
theorem small_run {A:Sto} (g:GoodA A) (hl:A.cs.length≤300000) (r:Int) (K N B:Int) :
  ((dsPl A K N B).run r A=(⟨#[]⟩,4,A))∨((dsPl A K N B).run r A=(dsPl A K N B).run 1099511627776 A∧((dsPl A K N B).run 1099511627776 A).2.1≠4):=by
 have h3:=(ds_fine g K N B).2
 rw [big_run g hl]
 by_cases h:(szA A:Int)+((dsPl A K N B).need:Int)≤r
 ·exact .inr ⟨Pl.run_yes h,h3⟩
 ·exact .inl (Pl.run_no (by omega))
theorem first_small (r:Int):(pubPl A0 latestB abcB).run r A0=(hxB abcB,0,A1)∨(pubPl A0 latestB abcB).run r A0=(⟨#[]⟩,4,A0):=by
 have hf:=run_first
 have h1:=pub_fine good0 (n:=latestB) (b:=abcB) (by decide) (by decide) (by decide +kernel)
 rw [Pl.run_yes (by rw [szA0];omega)] at hf
 by_cases h:(szA A0:Int)+((pubPl A0 latestB abcB).need:Int)≤r
 ·exact .inl ((Pl.run_yes h).trans hf)
 ·exact .inr (Pl.run_no (by omega))
theorem SA.farP {w w':World} {db xb sb cb:Nat} {s:PSt} {tb:Nat} {cl:List (List Nat)} {A:Sto} {r:Int} {n cu:Nat} {s2 s2':PSt}
  (h:SA w db xb sb cb s tb cl A r n cu) (h2:s2.In w) (hl2:LowS s2) (hg:PGo s2 s2' w w') (ha:∀ k,fpr s xb sb cb tb k→¬ s2.own k):SA w' db xb sb cb s tb cl A r n cu:=by
 have hb:∀ k,fpr s xb sb cb tb k→k<w.heap.size→w'.heap[k]? = w.heap[k]?:=fun k hk hl=>hg.gr.block k hl (ha k hk)
 have hin:s.In w':=h.sw.inn.same (fun k hk=>hb k (.inl hk) (h.sw.inn.lt hk))
 have hgl:Gl w':=(h.sw.gl.go hl2 hg).1
 refine ⟨(hb xb (.inr (.inl (.inl rfl))) (lt_heap h.st)).trans h.st,h.hG,⟨hin,hgl,h.sw.low,(hb sb (.inr (.inl (.inr (.inl rfl)))) (lt_heap h.sw.blk)).trans h.sw.blk,owns_same h.sw.cm (hb cb (.inr (.inl (.inr (.inr rfl)))) h.sw.cm.lt),owns_same h.sw.tm (hb tb (.inr (.inr rfl)) h.sw.tm.lt),h.sw.ncb,h.sw.ntb,h.sw.gcb,h.sw.gtb,h.sw.gsb,h.sw.ne⟩,?_,h.ok,h.mem,h.len,h.rst,h.c0,h.c1,h.good,h.use,h.r0,h.r1⟩
 exact hg.keeps h2 h.bd (by decide) (by decide) (by decide) (by decide)
theorem dqHeld {w:World} {d:Nat} {s:PSt} {A:Sto} {r:Int} {n cu:Nat} (h:DQ w d s A r n cu) (hn:n≤300000) :
  Calls Tryz.prog 14 #[.pointer (some ⟨d,0,none⟩)] w fun e w'=>e = .returned (.string (hF (fA A)))∧PGo s s w w':=by
 have hvw:s.ds.R.now.map (vwE s.ds.fd)=fA A:=h.rq.vw
 have hmem:∀ e∈s.R.now,vwE s.fd e∈fA A:=fun e he=>by rw [← hvw];exact List.mem_map_of_mem he
 have hlen:s.R.now.length≤1000000:=by
  have:=h.lenN
  have:=h.len
  omega
 refine (held_many s d w h.dk hlen (fun e he=>fA_path (hmem e he)) h.rq.rst.wh.riseN (fun e he=>fA_small h.good (hmem e he))).mono ?_
 rintro e w' ⟨rfl,hg⟩
 refine ⟨?_,hg⟩
 have h2:hT s.fd s.R.now=hF (fA A):=by
  have:=hT_hF s.ds
  rw [show vwL s.ds=fA A from hvw] at this
  exact this
 rw [h2]
end Go.Proofs.YtncigfibncmioaaGreatDoor
namespace Go.Proofs.YtncigfibncmioaaGreatDoor
set_option maxHeartbeats 1000000
set_option maxRecDepth 100000
open Go.RowKit
theorem settled_dq (N:Nat) {w:World} {d:Nat} {s:PSt} {A:Sto} {r:Int} {n cu:Nat} (paths:Int) (kv:Value) (ks:List Int) (h:DQ w d s A r n cu) (hn:n≤300000) (hown:∀ k,s.own k→N≤k) (hNw:N≤w.heap.size) (hka:KAt (fun k=>N≤k) w kv ks) :
  Calls Tryz.prog 29 #[.pointer (some ⟨d,0,none⟩),.int .i64 paths,kv] w fun e w'=>e = .returned (.bool true)∧∃ s',PGo s s' w w'∧DQ w' d s' A r n cu∧s'.ds.R.left = -1:=by
 have HH1:=hide (dqHeld h hn)
 have HCR:=hide (fun W (hg:PGo s s w W)=>dqCrash (h.go hg) hn paths kv ks ((KAt.low hka (hg.low hown hNw)).mono hown))
 have HH2:=hide (fun W (s':PSt) (hd:DQ W d s' A r n cu)=>dqHeld hd hn)
 generalize hF (fA A)=HT at HH1 HH2
 clear h hown hNw hka
 go_enter Tryz.func29,Tryz.ntmps29
 go_wp2_with fail
 refine (HH1.out).mono ?_
 rintro _ w1 ⟨rfl,hg1⟩
 dsimp only
 have HG1:=hide hg1
 clear hg1 HH1
 go_wp2_with fail
 refine (HCR.out _ HG1.out).mono ?_
 rintro _ w2 ⟨rfl,s',hg2,hd2,hl2⟩
 dsimp only
 have HG2:=hide (HG1.out.trans hg2)
 have HD2:=hide hd2
 have HL2:=hide hl2
 clear hg2 hd2 hl2 HCR
 go_wp2_with fail
 refine (HH2.out _ s' HD2.out).mono ?_
 rintro _ w3 ⟨rfl,hg3⟩
 dsimp only
 have HD3:=hide (HD2.out.go hg3)
 have HG3:=hide (HG2.out.trans hg3)
 clear hg3 HH2
 go_wp2_with fail
 go_ret
 exact ⟨rfl,s',HG3.out,HD3.out,HL2.out⟩
theorem PGo.thenS {s s1 s2:PSt} {w w1 w2:World} {xb sb cb:Nat} (h1:PGo s s1 w w1) (h2:SGo (sS xb sb cb) s1 s2 w1 w2) (hin:s2.In w2) (hx:w.heap.size≤xb) (hs:w.heap.size≤sb) (hc:w.heap.size≤cb):PGo s s2 w w2:=by
 refine ⟨h2.b.trans h1.b,hin,⟨h2.gr.os.trans h1.gr.os,h2.gr.tape.trans h1.gr.tape,h2.gr.output.trans h1.gr.output,Nat.le_trans h1.gr.size h2.gr.size,fun k hk hn=>?_⟩,fun k hk=>?_⟩
 ·refine (h2.gr.block k (Nat.lt_of_lt_of_le hk h1.gr.size) (fun e=>?_)).trans (h1.gr.block k hk hn)
  rcases e with e|e|e|e
  ·rcases h1.own k e with e|e
   ·exact hn e
   ·omega
  ·omega
  ·omega
  ·omega
 ·rcases h2.own k hk with e|e
  ·exact h1.own k e
  ·exact .inr (Nat.le_trans h1.gr.size e)
theorem afresh_dq (N:Nat) {w:World} {d:Nat} {s:PSt} {A:Sto} {r:Int} {n cu:Nat} (paths:Int) (kv:Value) (ks:List Int) (had:ByteArray) (h:DQ w d s A r n cu) (hn:n≤300000) (hcu:cu≤90000000000) (hown:∀ k,s.own k→N≤k) (hNw:N≤w.heap.size) (hka:KAt (fun k=>N≤k) w kv ks) (hhad:had=shA A) :
  Calls Tryz.prog 26 #[.pointer (some ⟨d,0,none⟩),.int .i64 paths,kv,.string had] w fun e w'=>∃ xb sb cb s' tb cl,e = .returned (.pointer (some ⟨xb,0,none⟩))∧PGo s s' w w'∧SA w' d xb sb cb s' tb cl A r n (cu+1)∧(w.heap.size≤xb∧w.heap.size≤sb∧w.heap.size≤cb∧w.heap.size≤tb):=by
 have HSE:=hide (settled_dq N paths kv ks h hn hown hNw hka)
 have HOP:=hide (fun (W:World) (s':PSt) (hd:DQ W d s' A r n cu)=>dqOpen hd hn hcu)
 have HSH:=hide (fun (W:World) (xb sb cb:Nat) (s':PSt) (tb:Nat) (cl:List (List Nat)) (hs:SA W d xb sb cb s' tb cl A r n (cu+1))=>saShown hs hn)
 rw [← hhad] at HSH
 clear h hown hka hhad
 go_enter Tryz.func26,Tryz.ntmps26
 go_wp2_with fail
 refine (HSE.out).mono ?_
 rintro _ w1 ⟨rfl,s1,hg1,hd1,hl1⟩
 dsimp only
 have HO1:=hide (HOP.out w1 s1 hd1)
 have HG1:=hide hg1
 have HL1:=hide hl1
 clear hg1 hd1 hl1 HSE HOP
 go_wp2_with fail
 refine (HO1.out).mono ?_
 rintro _ w2 ⟨s2,xb,sb,cb,tb,cl,rfl,hg2, -,hs2,hnb⟩
 dsimp only
 have hs2:=hs2 HL1.out
 have HS2:=hide hs2
 have HSH2:=hide (HSH.out w2 xb sb cb s2 tb cl hs2)
 have HG2:=hide (HG1.out.trans hg2)
 have hz1:=HG1.out.gr.size
 have HNB:=hide (show w.heap.size≤xb∧w.heap.size≤sb∧w.heap.size≤cb∧w.heap.size≤tb by omega)
 clear hg2 hs2 hnb HO1 HSH HL1 hz1
 go_wp2_with fail
 refine (HSH2.out).mono ?_
 rintro _ w3 ⟨rfl,hg3,hs3⟩
 dsimp only
 have HS3:=hide hs3
 have HG3:=hide (HG2.out.thenS hg3 hs3.sw.inn HNB.out.1 HNB.out.2.1 HNB.out.2.2.1)
 clear hg3 hs3 HSH2 HS2
 go_wp2_with fail
 go_ret
 exact ⟨xb,sb,cb,s2,tb,cl,rfl,HG3.out,HS3.out,HNB.out⟩
set_option maxHeartbeats 1000000
set_option maxRecDepth 100000
open Go.RowKit
structure TwA where
 d:Nat
 x:Nat
 b:Nat
 c:Nat
 s:PSt
 t:Nat
 l:List (List Nat)
def TwA.at (p:TwA) (w:World) (A:Sto) (r:Int) (n cu:Nat):Prop:=SA w p.d p.x p.b p.c p.s p.t p.l A r n cu
def TwA.fp (p:TwA) (k:Nat):Prop:=fpr p.s p.x p.b p.c p.t k
structure Two (N:Nat) (w:World) (p:TwA) (A:Sto) (r:Int) (n cu:Nat) (q:TwA) (A2:Sto) (n2 cu2:Nat):Prop where
 h1:p.at w A r n cu
 h2:q.at w A2 1099511627776 n2 cu2
 ha:∀ k,p.fp k→¬ q.fp k
 f1:∀ k,p.fp k→N≤k
 f2:∀ k,q.fp k→N≤k
 hN:N≤w.heap.size
section
variable {N:Nat} {w w':World} {p q:TwA} {A A' A2:Sto} {r:Int} {n cu n2 cu2 m cv:Nat}
theorem Two.mono {n' cu' n2' cu2':Nat} (h:Two N w p A r n cu q A2 n2 cu2) (a:n≤n') (b:cu≤cu') (c:n2≤n2') (d:cu2≤cu2'):Two N w p A r n' cu' q A2 n2' cu2':=⟨SA.mono h.h1 a b,SA.mono h.h2 c d,h.ha,h.f1,h.f2,h.hN⟩
theorem Two.one (h:Two N w p A r n cu q A2 n2 cu2) (hs:SaN w w' p.d p.x p.b p.c p.s p.t A' r m cv):∃ p',p'.d=p.d∧p'.x=p.x∧Two N w' p' A' r m cv q A2 n2 cu2∧Below N w w':=by
 obtain ⟨s1,t1,l1,g1,g2,g3,g4,g5⟩:=step_one h.h1 h.h2 h.ha h.f1 h.hN hs
 exact ⟨⟨p.d,p.x,p.b,p.c,s1,t1,l1⟩,rfl,rfl,⟨g1,g2,g3,g4,h.f2,Nat.le_trans h.hN g5.size⟩,g5⟩
theorem Two.look (h:Two N w p A r n cu q A2 n2 cu2) (hg:SGo (sS p.x p.b p.c) p.s p.s w w') (hs:SA w' p.d p.x p.b p.c p.s p.t p.l A r n cu):Two N w' p A r n cu q A2 n2 cu2∧Below N w w':=by
 have hb:Below N w w':=hg.lowN (fun k hk=>h.f1 k (hk.elim .inl (fun e=>.inr (.inl e)))) h.hN
 exact ⟨⟨hs,SA.other h.h2 h.h1 hg (fun k a b=>h.ha k b a),h.ha,h.f1,h.f2,Nat.le_trans h.hN hb.size⟩,hb⟩
theorem Two.look2 (h:Two N w p A r n cu q A2 n2 cu2) (hg:SGo (sS q.x q.b q.c) q.s q.s w w') (hs:SA w' q.d q.x q.b q.c q.s q.t q.l A2 1099511627776 n2 cu2):Two N w' p A r n cu q A2 n2 cu2∧Below N w w':=by
 have hb:Below N w w':=hg.lowN (fun k hk=>h.f2 k (hk.elim .inl (fun e=>.inr (.inl e)))) h.hN
 exact ⟨⟨SA.other h.h1 h.h2 hg h.ha,hs,h.ha,h.f1,h.f2,Nat.le_trans h.hN hb.size⟩,hb⟩
theorem Two.disk (h:Two N w p A r n cu q A2 n2 cu2) (hg:PGo p.s p.s w w'):Two N w' p A r n cu q A2 n2 cu2∧Below N w w':=h.look (SGo.of_go hg) (SA.goP h.h1 hg)
theorem Two.fresh {xb sb cb tb:Nat} {s':PSt} {cl:List (List Nat)} (h:Two N w p A r n cu q A2 n2 cu2) (hg:PGo p.s s' w w') (hs:SA w' p.d xb sb cb s' tb cl A r m cv) (hnb:w.heap.size≤xb∧w.heap.size≤sb∧w.heap.size≤cb∧w.heap.size≤tb):Two N w' ⟨p.d,xb,sb,cb,s',tb,cl⟩ A r m cv q A2 n2 cu2∧Below N w w':=by
 have hb:Below N w w':=hg.low (fun k hk=>h.f1 k (.inl hk)) h.hN
 have hnew:∀ k,fpr s' xb sb cb tb k→p.s.own k∨w.heap.size≤k:=fun k hk=>by
  rcases hk with e|e|e
  ·exact hg.own k e
  ·rcases e with e|e|e<;>exact .inr (by omega)
  ·exact .inr (by omega)
 have hw:=h.hN
 refine ⟨⟨hs,SA.farP h.h2 (SA.dk h.h1).inn (SA.dk h.h1).low hg (fun k a b=>h.ha k (.inl b) a),fun k a b=>?_,fun k a=>?_,h.f2,Nat.le_trans h.hN hb.size⟩,hb⟩
 ·rcases hnew k a with e|e
  ·exact h.ha k (.inl e) b
  ·have:=SA.lt h.h2 k b
   omega
 ·rcases hnew k a with e|e
  ·exact h.f1 k (.inl e)
  ·omega
end
theorem wUsedS (d b:Nat) (Q:Value→World→Prop) (w:World) (hd:BD w d b)
  (h:Calls Tryz.prog 63 #[.pointer (some ⟨b,0,none⟩)] w fun e w'=>∃ v,e = .returned v∧Q v w') :
  Calls Tryz.prog 27 #[.pointer (some ⟨d,0,none⟩)] w fun e w'=>∃ v,e = .returned (.tuple #[v,.int .i64 0])∧Q v w':=by
 have H:=hide h
 have c0:w.cell? ⟨d,0,none⟩=some (.pointer (some ⟨b,0,none⟩)):=cell_of_row _ _ 0 _ _ _ hd
 clear h hd
 go_enter Tryz.func27,Tryz.ntmps27
 go_wp2_with fail
 refine H.out.mono ?_
 rintro _ w1 ⟨v,rfl,hq⟩
 dsimp only
 have HQ:=hide hq
 clear hq H
 go_wp2_with fail
 refine bodyPost_ret (results_tmp2 rfl _ _ _) rfl ?_
 exact ⟨_,rfl,HQ.out⟩
theorem saUsed {w:World} {db xb sb cb:Nat} {s:PSt} {tb:Nat} {cl:List (List Nat)} {A:Sto} {r:Int} {n cu:Nat} (h:SA w db xb sb cb s tb cl A r n cu) (hn:n≤300000) :
  Calls Tryz.prog 27 #[.pointer (some ⟨db,0,none⟩)] w fun e w'=>e = .returned (.tuple #[.int .i64 ((szA A:Nat):Int),.int .i64 0])∧Below w.heap.size w w':=by
 have hu:usedE s.fd s.R.now=szA A:=h.rst.wh.used
 have h1:=szA_le h.good
 have h2:=h.len
 refine (wUsedS db s.b (fun v w'=>v = .int .i64 ((szA A:Nat):Int)∧Below w.heap.size w w') w h.bd ((pused_any s w h.sw.inn (by rw [hu];omega)).mono fun e w' ⟨h1,h2⟩=>⟨_,h1,by rw [hu],h2⟩)).mono ?_
 rintro _ w1 ⟨v,rfl,rfl,hb1⟩
 exact ⟨rfl,hb1⟩
end Go.Proofs.YtncigfibncmioaaGreatDoor
