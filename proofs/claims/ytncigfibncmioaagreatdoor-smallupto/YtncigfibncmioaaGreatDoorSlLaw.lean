/-
  PROVED HERE: that the statement Small answers true, for whatever script, room and crash.
-/
import Derived.Test.YtncigfibncmioaaGreatDoorSlTwo
namespace Go.Proofs.YtncigfibncmioaaGreatDoor
set_option maxHeartbeats 4000000
set_option maxRecDepth 100000
open Go.RowKit
section
variable {N:Nat} {w w':World} {A A' A2:Sto} {r:Int} {n cu n2 cu2 m cv:Nat} {d x b c t d2 x2 b2 c2 t2:Nat} {s s2:PSt} {l l2:List (List Nat)}
theorem Two.oneE (h:Two N w ⟨d,x,b,c,s,t,l⟩ A r n cu ⟨d2,x2,b2,c2,s2,t2,l2⟩ A2 n2 cu2) (hs:SaN w w' d x b c s t A' r m cv):∃ s' t' l',Two N w' ⟨d,x,b,c,s',t',l'⟩ A' r m cv ⟨d2,x2,b2,c2,s2,t2,l2⟩ A2 n2 cu2∧Below N w w':=by
 obtain ⟨s1,t1,l1,g1,g2,g3,g4,g5⟩:=step_one h.h1 h.h2 h.ha h.f1 h.hN hs
 exact ⟨s1,t1,l1,⟨g1,g2,g3,g4,h.f2,Nat.le_trans h.hN g5.size⟩,g5⟩
theorem Two.twoE (h:Two N w ⟨d,x,b,c,s,t,l⟩ A r n cu ⟨d2,x2,b2,c2,s2,t2,l2⟩ A2 n2 cu2) (hs:SaN w w' d2 x2 b2 c2 s2 t2 A' 1099511627776 m cv):∃ s' t' l',Two N w' ⟨d,x,b,c,s,t,l⟩ A r n cu ⟨d2,x2,b2,c2,s',t',l'⟩ A' m cv∧Below N w w':=by
 obtain ⟨s1,t1,l1,g1,g2,g3,g4,g5⟩:=step_one h.h2 h.h1 (fun k a b=>h.ha k b a) h.f2 h.hN hs
 exact ⟨s1,t1,l1,⟨g2,g1,fun k a b=>g3 k b a,h.f1,g4,Nat.le_trans h.hN g5.size⟩,g5⟩
theorem Two.sa (h:Two N w ⟨d,x,b,c,s,t,l⟩ A r n cu ⟨d2,x2,b2,c2,s2,t2,l2⟩ A2 n2 cu2):SA w d x b c s t l A r n cu:=h.h1
theorem Two.sb (h:Two N w ⟨d,x,b,c,s,t,l⟩ A r n cu ⟨d2,x2,b2,c2,s2,t2,l2⟩ A2 n2 cu2):SA w d2 x2 b2 c2 s2 t2 l2 A2 1099511627776 n2 cu2:=h.h2
theorem Two.own (h:Two N w ⟨d,x,b,c,s,t,l⟩ A r n cu ⟨d2,x2,b2,c2,s2,t2,l2⟩ A2 n2 cu2):∀ k,s.own k→N≤k:=fun k hk=>h.f1 k (.inl hk)
end
theorem sh0:shA A0=⟨#[]⟩:=rfl
theorem small_any (w:World) (oa:Option Addr) (cc:Nat) (l:List StepV) (little paths:Int) (kv:Value) (ks:List Int) (hg:Gl w) (hl:StepsAt w.heap.size w oa l) (hka:KAt (fun k=>w.heap.size≤k) w kv ks) (hn:l.length≤262144) (hli:i64r little) :
  Calls Tryz.prog 7 #[.slice oa l.length cc,.int .i64 little,.int .i64 paths,kv] w fun e w'=>e = .returned (.bool true)∧Below w.heap.size w w':=by
 have HBG:=hide (begun_sa w hg)
 have HPK:=hide (fun W=>pick_any little 5000 (by decide) (by decide) hli.1 hli.2 W)
 have hrl:=pickN_lt little 5000 (by decide)
 generalize pickN little 5000=R at HPK hrl
 have HL:=hide hl
 have HK:=hide hka
 obtain ⟨N,hN⟩ : ∃ N,N=w.heap.size:=⟨_,rfl⟩
 rw [← hN] at HBG HL HK ⊢
 have HN:=hide hN
 obtain ⟨q,hq⟩ : ∃ q,q=l.length:=⟨_,rfl⟩
 rw [← hq] at hn ⊢
 have HQ:=hide hq
 clear hg hl hka hN hq hli
 go_enter Tryz.func7,Tryz.ntmps7
 go_wp2_with fail
 refine (HBG.out).mono ?_
 rintro _ w1 ⟨dB,xB,bB,cB,sB,tB,lB,rfl,hb1,hs1,hf1⟩
 dsimp only
 have hN1:N≤w1.heap.size:=by have:=hb1.size;have:=HN.out;omega
 have HB1:=hide hb1
 have HS1:=hide hs1
 have HF1:=hide hf1
 clear hb1 hs1 hf1 HBG
 go_wp2_with fail
 refine (HPK.out _).mono ?_
 rintro _ wp ⟨rfl,hwp⟩
 rw [hwp]
 dsimp only
 have HND:=hide (bNew_sa (R:Int) w1 HS1.out.sw.gl (by omega) (by omega))
 clear hwp
 go_wp2_with fail
 refine (HND.out).mono ?_
 rintro _ w2 ⟨d,so,rfl,hb2,hld,hdk,hown,her,hfit,hleft,hroom,hnow⟩
 dsimp only
 have hN2:N≤w2.heap.size:=Nat.le_trans hN1 hb2.size
 have HS2:=hide (HS1.out.later hb2)
 have HB2:=hide (HB1.out.trans (hb2.mono hN1))
 have HLT:=hide HS1.out.lt
 have hz2:=hb2.size
 clear HS1 HB1 hb2
 by_cases hr36:(R:Int)<36
 ·have HOP:=hide (bOpen_small so w2 d hdk.inn hdk.gl hdk.low (by unfold rdD;rw [hnow];rfl) (by rw [hroom];exact hr36) hdk.bd)
  have HDK:=hide hdk
  have HNOW:=hide hnow
  have HOW:=hide hown
  clear hdk her hfit hleft hroom hnow hown
  go_wp2_with fail
  refine (HOP.out).mono ?_
  rintro _ w3 ⟨rfl,s3,hg3,hd3⟩
  dsimp only
  have hnow3:s3.R.now = []:=by
   have h1:s3.ds.R.now=so.ds.R.now:=by rw [hd3]
   exact h1.trans HNOW.out
  have HHE:=hide (held_many s3 d w3 (HDK.out.go hg3) (by rw [hnow3];exact Nat.zero_le _) (fun e he=>by rw [hnow3] at he;cases he) (by rw [hnow3];exact List.Pairwise.nil) (fun e he=>by rw [hnow3] at he;cases he))
  rw [hnow3,show hT s3.fd []=⟨#[]⟩ from rfl] at HHE
  have hb3:Below N w2 w3:=hg3.low (fun k hk=>Nat.le_trans hN1 (HOW.out k hk)) hN2
  have HB3:=hide (HB2.out.trans hb3)
  have HO3:=hide (hg3.ownN (N:=N) (fun k hk=>Nat.le_trans hN1 (HOW.out k hk)) hN2)
  have hN3:N≤w3.heap.size:=Nat.le_trans hN2 hb3.size
  clear hg3 hd3 hnow3 hb3 HOP HDK HNOW HOW HB2
  go_wp2_with fail
  refine (HHE.out).mono ?_
  rintro _ w4 ⟨rfl,hg4⟩
  dsimp only
  have HB4:=hide (HB3.out.trans (hg4.low HO3.out hN3))
  clear hg4 HHE
  go_wp2_with fail
  go_ret
  exact ⟨rfl,HB4.out⟩
 ·have hnl:so.R.now.length≤6:=hfit.nowLen
  have HOP:=hide (bOpen_new so w2 d hdk.inn hdk.gl hdk.low hfit (show Bud _ _ _ from ⟨by omega,by omega,by omega⟩) her.paths (by unfold rdD;rw [hnow];rfl) hdk.bd)
  have HDK:=hide hdk
  have HOW:=hide hown
  have HER:=hide her
  have HFI:=hide hfit
  have HLE:=hide hleft
  have HRR:=hide (show so.ds.R.room=(R:Int) from hroom)
  clear hdk hown her hfit hleft hroom hnow hnl HND
  go_wp2_with fail
  refine (HOP.out).mono ?_
  rintro _ w3 ⟨k,s3,sv,rfl,hg3,hop3,hok,hno⟩
  dsimp only
  obtain ⟨rfl,kp3,ea3,r3⟩:=open_pure HER.out (by rw [HRR.out];omega) hop3
  have fit3:=open_fit HER.out (by rw [HRR.out];omega) HFI.out hop3
  obtain ⟨xb,sb,cb,tb,rfl,hbst,hlsb,hlxb,hst⟩:=hok rfl
  have hGx:¬ isG xb:=fun e=>by have:=HDK.out.gl.lt e;omega
  have hroom3:s3.ds.R.room=(R:Int):=by rw [kp3.1,HRR.out]
  have hbd3:BD w3 d s3.b:=(HDK.out.go hg3).bd
  have hsa:SA w3 d xb sb cb s3 tb [] A0 (R:Int) 2 70:=⟨hbst,hGx,hst,hbd3,fun d hd=>(by cases hd),fun d=>⟨fun h=>(by cases h),fun ⟨b,hb,_⟩=>(by cases hb)⟩,Nat.zero_le _,rest3_rst (r3 HLE.out) (kp3.2 HLE.out) hroom3 fit3,fit3.c0,by have:=fit3.c1;omega,good0,by rw [szA0];omega,by omega,by omega⟩
  have hb3:Below N w2 w3:=hg3.low (fun k hk=>Nat.le_trans hN1 (HOW.out k hk)) hN2
  have hfp:∀ k,fpr s3 xb sb cb tb k→w1.heap.size≤k:=fun k hk=>by
   rcases hk with e|e|e
   ·exact hg3.ownN HOW.out hz2 k e
   ·rcases e with e|e|e<;>omega
   ·omega
  have htw:Two N w3 ⟨d,xb,sb,cb,s3,tb,[]⟩ A0 (R:Int) 2 70 ⟨dB,xB,bB,cB,sB,tB,lB⟩ A1 3 92:=⟨hsa,HS2.out.farP HDK.out.inn HDK.out.low hg3 (fun k a b=>by have:=HLT.out k a;have:=HOW.out k b;omega),fun k a b=>by have h1:=hfp k a;have h2:=HLT.out k b;omega,fun k a=>Nat.le_trans hN1 (hfp k a),HF1.out,Nat.le_trans hN2 hb3.size⟩
  have HTW:=hide htw
  have HB3:=hide (HB2.out.trans hb3)
  have HPB:=hide (saPub hsa (by decide) (by decide) latestB abcB (by decide) (by decide +kernel) (by decide))
  clear hop3 kp3 ea3 r3 fit3 hok hno hst hbst hg3 HOP hroom3 hfp hbd3 hsa htw hb3 HS2 HB2 HLT HDK HOW HER HFI HLE HRR HF1 hGx hlsb hlxb
  have hla:latestB=⟨#[108,97,116,101,115,116]⟩:=rfl
  have hab:abcB=⟨#[97,98,99]⟩:=rfl
  rcases first_small (R:Int) with hfs|hfs
  ·rw [hfs] at HPB
   have HPB2:Hid (Calls Tryz.prog 25 #[.pointer (some ⟨xb,0,none⟩),.string ⟨#[108,97,116,101,115,116]⟩,.string ⟨#[97,98,99]⟩] w3 fun e w'=>e = .returned (.tuple #[.string abcT,.int .i64 0])∧SaN w3 w' d xb sb cb s3 tb A1 (R:Int) 3 92):=hide (by rw [← hx_abc];exact HPB.out)
   clear HPB hla hab hfs
   generalize abcT=AT at HPB2
   go_wp2_with fail
   refine (HPB2.out).mono ?_
   rintro _ w4 ⟨rfl,hsn⟩
   dsimp only
   obtain ⟨s4,t4,l4,htw4,hb4⟩:=HTW.out.oneE hsn
   have HTW4:=hide (show Two N w4 ⟨d,xb,sb,cb,s4,t4,l4⟩ A1 (R:Int) (0+3) ((0+3) * 300020) ⟨dB,xB,bB,cB,sB,tB,lB⟩ A1 (0+3) ((0+3) * 300020) from htw4.mono (by decide) (by decide) (by decide) (by decide))
   have HB4:=hide (HB3.out.trans hb4)
   clear hsn htw4 hb4 HTW HPB2 HB3
   go_wp2_with fail
   go_loopw [12,18] (fun sv iv wr=>∃ (j xb sb cb:Nat) (s:PSt) (tb:Nat) (cl:List (List Nat)) (s2:PSt) (t2:Nat) (l2:List (List Nat)) (A:Sto),j≤q∧sv = .pointer (some ⟨xb,0,none⟩)∧iv = .int .i64 ((j:Nat):Int)∧Below N w wr∧Two N wr ⟨d,xb,sb,cb,s,tb,cl⟩ A (R:Int) (j+3) ((j+3) * 300020) ⟨dB,xB,bB,cB,s2,t2,l2⟩ A (j+3) ((j+3) * 300020)) (fun _ iv _=>q - (intOf iv).toNat)
   case atStart=>exact ⟨0,xb,sb,cb,s4,t4,l4,sB,tB,lB,A1,Nat.zero_le _,rfl,rfl,HB4.out,HTW4.out⟩
   case round =>
    obtain ⟨j,xb,sb,cb,s,tb,cl,s2,t2,l2,A,hj,rfl,rfl,hb,htw⟩:=hrel
    have HB:=hide hb
    have HT:=hide htw
    clear hb htw HTW4 HB4
    by_cases hlt:j<q
    ·have hjl:j<l.length:=by rw [← HQ.out];exact hlt
     obtain ⟨b,o,rfl,hbN,hrg,hok⟩:=HL.out j hjl
     have HRG:=hide (show ∀ W:World,Below N w W→W.rangeAt b (o+j * 3) (l.getD j step0).cells from fun W hW i x hx=>(World.cell?_of_block (a:=⟨b,o+j * 3+i,none⟩) (hW.block b hbN)).trans (hrg i x hx))
     generalize l.getD j step0=t at HRG hok
     obtain ⟨K,M,B⟩:=t
     obtain ⟨okK,okM,okB⟩:=hok
     have hi31:(Tryz.prog.info? 31).map (·.size)=some ([.int .i64 K,.int .i64 M,.int .i64 B]:List Value).length:=by show _=some 3;kernel_rfl
     have d9:decide (((j:Nat):Int)<((q:Nat):Int))=true:=decide_eq_true (by omega)
     have HHE:=hide (saHeld HT.out.sa (by omega))
     generalize hHT:hF (fA A)=HX at HHE
     have HHTE:=hide hHT
     clear hrg hjl hHT
     go_wp2_with fail
     refine (HHE.out).mono ?_
     rintro _ w5 ⟨rfl,hg5,hs5⟩
     dsimp only
     obtain ⟨htw5,hb5⟩:=HT.out.look hg5 hs5
     have HT5:=hide htw5
     have HB5:=hide (HB.out.trans hb5)
     have HSH:=hide (saShown htw5.sa (by omega))
     generalize hSH:shA A=SH at HSH
     have HSHQ:=hide hSH
     clear hg5 hs5 htw5 hb5 hSH HHE HT HB
     go_wp2_with fail
     refine (HSH.out).mono ?_
     rintro _ w6 ⟨rfl,hg6,hs6⟩
     dsimp only
     obtain ⟨htw6,hb6⟩:=HT5.out.look hg6 hs6
     have HT6:=hide htw6
     have HB6:=hide (HB5.out.trans hb6)
     have HD:=hide (does_any htw6.sa (by omega) (by omega) K M B okK okM okB)
     have hcs:A.cs.length≤300000:=by have:=htw6.sa.len;omega
     have hrun:=small_run htw6.sa.good hcs (R:Int) K M B
     have HR6:=hide (show w6.rangeAt b (o+j * 3) [.int .i64 K,.int .i64 M,.int .i64 B] from HRG.out w6 HB6.out)
     clear hg6 hs6 htw6 hb6 HSH HT5 HB5 hcs
     rcases hrun with hrun|⟨hrun,h4⟩
     ·rw [hrun] at HD
      dsimp only at HD
      clear hrun
      go_wp2_with (refine wpList_load_mid rfl 31 _ rfl b (o+j * 3) rfl [.int .i64 K,.int .i64 M,.int .i64 B] _ HR6.out Tryz.underlying31 rfl hi31 ?_)
      refine (HD.out).mono ?_
      rintro _ w7 ⟨rfl,hsn⟩
      dsimp only
      obtain ⟨s7,t7,l7,htw7,hb7⟩:=HT6.out.oneE hsn
      have HT7:=hide htw7
      have HB7:=hide (HB6.out.trans hb7)
      have HSH7:=hide (saShown htw7.sa (by omega))
      rw [HSHQ.out] at HSH7
      clear hsn htw7 hb7 HD HT6 HB6 HR6
      go_wp2_with fail
      refine (HSH7.out).mono ?_
      rintro _ w8 ⟨rfl,hg8,hs8⟩
      dsimp only
      obtain ⟨htw8,hb8⟩:=HT7.out.look hg8 hs8
      have HT8:=hide htw8
      have HB8:=hide (HB7.out.trans hb8)
      have HV:=hide (valid_rest htw8.sa.dq (by omega))
      clear hg8 hs8 htw8 hb8 HSH7 HT7 HB7
      go_wp2_with fail
      refine (HV.out).mono ?_
      rintro _ w9 ⟨rfl,hg9⟩
      dsimp only
      obtain ⟨htw9,hb9⟩:=HT8.out.disk hg9
      have HT9:=hide htw9
      have HB9:=hide (HB8.out.trans hb9)
      have HHE9:=hide (saHeld htw9.sa (by omega))
      rw [HHTE.out] at HHE9
      clear hg9 htw9 hb9 HV HT8 HB8
      go_wp2_with fail
      refine (HHE9.out).mono ?_
      rintro _ wa ⟨rfl,hga,hsa⟩
      dsimp only
      obtain ⟨htwa,hba⟩:=HT9.out.look hga hsa
      have HTa:=hide htwa
      have HBa:=hide (HB9.out.trans hba)
      have HAF:=hide (afresh_dq N paths kv ks SH htwa.sa.dq (by omega) (by omega) htwa.own htwa.hN (KAt.low HK.out HBa.out) HSHQ.out.symm)
      clear hga hsa htwa hba HHE9 HT9 HB9
      go_wp2_with fail
      refine (HAF.out).mono ?_
      rintro _ wb ⟨xb',sb',cb',s',tb',cl',rfl,hgb,hsb,hnb⟩
      dsimp only
      obtain ⟨htwb,hbb⟩:=HTa.out.fresh hgb hsb hnb
      have HTb:=hide htwb
      have HBb:=hide (HBa.out.trans hbb)
      clear hgb hsb hnb htwb hbb HAF HTa HBa
      go_wp2_with fail
      exact ⟨⟨j+1,xb',sb',cb',s',tb',cl',s2,t2,l2,A,by omega,rfl,by simp,HBb.out,HTb.out.mono (by omega) (by omega) (by omega) (by omega)⟩,by simp only [intOf];omega⟩
     ·rw [hrun] at HD
      have HD2:=hide (fun (W:World) (hW:SA W dB xB bB cB s2 t2 l2 A 1099511627776 (j+3) ((j+3) * 300020))=>does_any hW (by omega) (by omega) K M B okK okM okB)
      generalize (dsPl A K M B).run 1099511627776 A=X at HD HD2 h4
      obtain ⟨X1,X2,X3⟩:=X
      dsimp only at HD HD2 h4
      clear hrun
      go_wp2_with (refine wpList_load_mid rfl 31 _ rfl b (o+j * 3) rfl [.int .i64 K,.int .i64 M,.int .i64 B] _ HR6.out Tryz.underlying31 rfl hi31 ?_)
      refine (HD.out).mono ?_
      rintro _ w7 ⟨rfl,hsn⟩
      dsimp only
      obtain ⟨s7,t7,l7,htw7,hb7⟩:=HT6.out.oneE hsn
      have HT7:=hide htw7
      have HB7:=hide (HB6.out.trans hb7)
      have HSH7:=hide (saShown htw7.sa (by omega))
      generalize hSH3:shA X3=SH3 at HSH7
      have HSHQ3:=hide hSH3
      clear hsn htw7 hb7 HD HT6 HB6 HR6 hSH3
      go_wp2_with fail
      refine (HSH7.out).mono ?_
      rintro _ w8 ⟨rfl,hg8,hs8⟩
      dsimp only
      obtain ⟨htw8,hb8⟩:=HT7.out.look hg8 hs8
      have HT8:=hide htw8
      have HB8:=hide (HB7.out.trans hb8)
      have HV:=hide (valid_rest htw8.sa.dq (by omega))
      clear hg8 hs8 htw8 hb8 HSH7 HT7 HB7
      go_wp2_with fail
      refine (HV.out).mono ?_
      rintro _ w9 ⟨rfl,hg9⟩
      dsimp only
      obtain ⟨htw9,hb9⟩:=HT8.out.disk hg9
      have HT9:=hide htw9
      have HB9:=hide (HB8.out.trans hb9)
      have HD9:=hide (HD2.out w9 htw9.sb)
      have HR9:=hide (show w9.rangeAt b (o+j * 3) [.int .i64 K,.int .i64 M,.int .i64 B] from HRG.out w9 HB9.out)
      clear hg9 htw9 hb9 HV HT8 HB8 HD2
      go_wp2_with (refine wpList_load_mid rfl 31 _ rfl b (o+j * 3) rfl [.int .i64 K,.int .i64 M,.int .i64 B] _ HR9.out Tryz.underlying31 rfl hi31 ?_)
      refine (HD9.out).mono ?_
      rintro _ wa ⟨rfl,hsn⟩
      dsimp only
      obtain ⟨sa,ta,la,htwa,hba⟩:=HT9.out.twoE hsn
      have HTa:=hide htwa
      have HBa:=hide (HB9.out.trans hba)
      have HSHa:=hide (saShown htwa.sb (by omega))
      rw [HSHQ3.out] at HSHa
      clear hsn htwa hba HD9 HT9 HB9 HR9
      go_wp2_with fail
      refine (HSHa.out).mono ?_
      rintro _ wb ⟨rfl,hgb,hsb⟩
      dsimp only
      obtain ⟨htwb,hbb⟩:=HTa.out.look2 hgb hsb
      have HTb:=hide htwb
      have HBb:=hide (HBa.out.trans hbb)
      clear hgb hsb htwb hbb HSHa HTa HBa
      go_wp2_with fail
      exact ⟨⟨j+1,xb,sb,cb,s7,t7,l7,sa,ta,la,X3,by omega,rfl,by simp,HBb.out,HTb.out.mono (by omega) (by omega) (by omega) (by omega)⟩,by simp only [intOf];omega⟩
    ·have d9:decide (((j:Nat):Int)<((q:Nat):Int))=false:=decide_eq_false (by omega)
     have HSH:=hide (saShown HT.out.sa (by omega))
     generalize hSH:shA A=SH at HSH
     have HSHQ:=hide hSH
     clear hSH
     go_wp2_with fail
     refine (HSH.out).mono ?_
     rintro _ w6 ⟨rfl,hg6,hs6⟩
     dsimp only
     obtain ⟨htw6,hb6⟩:=HT.out.look hg6 hs6
     have HT6:=hide htw6
     have HB6:=hide (HB.out.trans hb6)
     have HAF:=hide (afresh_dq N paths kv ks SH htw6.sa.dq (by omega) (by omega) htw6.own htw6.hN (KAt.low HK.out HB6.out) HSHQ.out.symm)
     clear hg6 hs6 htw6 hb6 HSH HT HB
     go_wp2_with fail
     refine (HAF.out).mono ?_
     rintro _ wb ⟨xb',sb',cb',s',tb',cl',rfl,hgb,hsb,hnb⟩
     dsimp only
     obtain ⟨htwb,hbb⟩:=HT6.out.fresh hgb hsb hnb
     have HBb:=hide (HB6.out.trans hbb)
     have HU:=hide (saUsed htwb.sa (by omega))
     have huse:=htwb.sa.use
     have hNb:=htwb.hN
     generalize szA A=Z at HU huse
     clear hgb hsb hnb htwb hbb HAF HT6 HB6
     go_wp2_with fail
     refine (HU.out).mono ?_
     rintro _ wc ⟨rfl,hbc⟩
     dsimp only
     have HBc:=hide (HBb.out.trans (hbc.mono hNb))
     have d8:decide ((Z:Int)≤(R:Int))=true:=decide_eq_true huse
     clear hbc HU HBb
     go_wp2_with fail
     refine (HPK.out _).mono ?_
     rintro _ wp ⟨rfl,hwp⟩
     rw [hwp]
     dsimp only
     clear hwp
     go_wp2_with fail
     go_ret
     exact ⟨rfl,HBc.out⟩
  ·rw [hfs] at HPB
   have HPB2:Hid (Calls Tryz.prog 25 #[.pointer (some ⟨xb,0,none⟩),.string ⟨#[108,97,116,101,115,116]⟩,.string ⟨#[97,98,99]⟩] w3 fun e w'=>e = .returned (.tuple #[.string ⟨#[]⟩,.int .i64 4])∧SaN w3 w' d xb sb cb s3 tb A0 (R:Int) 3 92):=HPB
   clear HPB hla hab hfs
   go_wp2_with fail
   refine (HPB2.out).mono ?_
   rintro _ w4 ⟨rfl,hsn⟩
   dsimp only
   obtain ⟨p4,hpd,hpx,htw4,hb4⟩:=HTW.out.one hsn
   have HV:=hide (valid_rest (SA.dq htw4.h1) (by decide))
   rw [hpd] at HV
   have HTW4:=hide htw4
   have HPD:=hide hpd
   have HB4:=hide (HB3.out.trans hb4)
   clear hsn htw4 hb4 hpd hpx HTW HPB2 HB3
   go_wp2_with fail
   refine (HV.out).mono ?_
   rintro _ w5 ⟨rfl,hg5⟩
   dsimp only
   obtain ⟨htw5,hb5⟩:=HTW4.out.disk hg5
   have HB5:=hide (HB4.out.trans hb5)
   have HAF:=hide (afresh_dq N paths kv ks ⟨#[]⟩ (SA.dq htw5.h1) (by decide) (by decide) (fun k hk=>htw5.f1 k (.inl hk)) htw5.hN (KAt.low HK.out HB5.out) sh0.symm)
   rw [HPD.out] at HAF
   have HO5:=hide (And.intro (show ∀ k,p4.s.own k→N≤k from fun k hk=>htw5.f1 k (.inl hk)) htw5.hN)
   clear hg5 htw5 hb5 HV HTW4 HB4
   go_wp2_with fail
   refine (HAF.out).mono ?_
   rintro _ w6 ⟨x6,sb6,cb6,s6,tb6,cl6,rfl,hg6, -, -⟩
   dsimp only
   have HB6:=hide (HB5.out.trans (hg6.low HO5.out.1 HO5.out.2))
   clear hg6 HAF HB5
   go_wp2_with fail
   go_ret
   exact ⟨rfl,HB6.out⟩
end Go.Proofs.YtncigfibncmioaaGreatDoor
