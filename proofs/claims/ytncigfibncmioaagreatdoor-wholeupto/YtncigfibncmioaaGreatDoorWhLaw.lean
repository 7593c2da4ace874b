/-
  PROVED HERE: what reopened of the statements answers, of a disk at rest with a store on it.
-/
import Derived.Test.YtncigfibncmioaaGreatDoorSaAsk
import Derived.Test.YtncigfibncmioaaGreatDoorSaHeld
import Derived.Test.YtncigfibncmioaaGreatDoorSmUntd
import Derived.Test.YtncigfibncmioaaGreatDoorSmWr
import Derived.Test.YtncigfibncmioaaGreatDoorStSort
namespace Go.Proofs.YtncigfibncmioaaGreatDoor
set_option maxHeartbeats 4000000
set_option maxRecDepth 100000
open Go.RowKit
theorem DQ.other {w w':World} {d:Nat} {s:PSt} {A:Sto} {r:Int} {n cu:Nat} {db2 xb2 sb2 cb2:Nat} {s2 s2':PSt} {tb2:Nat} {cl2:List (List Nat)} {A2:Sto} {r2:Int} {n2 cu2:Nat}
  (h:DQ w d s A r n cu) (h2:SA w db2 xb2 sb2 cb2 s2 tb2 cl2 A2 r2 n2 cu2) (hg:SGo (sS xb2 sb2 cb2) s2 s2' w w') (ha:∀ k,s.own k → ¬ fpr s2 xb2 sb2 cb2 tb2 k):DQ w' d s A r n cu:=by
 have hb:∀ k,s.own k → w'.heap[k]? = w.heap[k]?:=fun k hk=>hg.gr.block k (h.dk.inn.lt hk) (fun e=>ha k hk (e.elim .inl (fun e=>.inr (.inl e))))
 have hgl:Gl w':=h.dk.gl.same hg.gr.size (fun k hk=>hg.gr.block k (h.dk.gl.lt hk) (fun e=>by
  rcases e with e | e | e | e
  ·exact h2.sw.low k e hk
  ·exact h2.hG (e ▸ hk)
  ·exact h2.sw.gsb (e ▸ hk)
  ·exact h2.sw.gcb (e ▸ hk)))
 exact ⟨⟨h.dk.inn.same hb,(hg.gr.block d (lt_heap h.dk.bd) (h2.notOwn h.dk.bd (by decide) (by decide) (by decide) (by decide) (by decide) (by decide))).trans h.dk.bd,hgl,h.dk.low⟩,h.rq,h.c0,h.c1,h.len,h.good,h.use,h.r0,h.r1⟩
theorem DQ.later {w w':World} {d:Nat} {s:PSt} {A:Sto} {r:Int} {n cu:Nat} (h:DQ w d s A r n cu) (hb:Below w.heap.size w w'):DQ w' d s A r n cu:=h.go (PGo.refl h.dk.inn hb)
theorem DQ.far {w w':World} {d:Nat} {s s2 s2':PSt} {A:Sto} {r:Int} {n cu:Nat} (h:DQ w d s A r n cu) (h2:s2.In w) (hl2:LowS s2) (hg:PGo s2 s2' w w') (ha:∀ k,s.own k → ¬ s2.own k):DQ w' d s A r n cu :=
 ⟨⟨h.dk.inn.same (fun k hk=>hg.gr.block k (h.dk.inn.lt hk) (ha k hk)),hg.keeps h2 h.dk.bd (by decide) (by decide) (by decide) (by decide),(h.dk.gl.go hl2 hg).1,h.dk.low⟩,h.rq,h.c0,h.c1,h.len,h.good,h.use,h.r0,h.r1⟩
theorem reopened_rest (N:Nat) (s:PSt) (d:Nat) (oa:Option Addr) (cc:Nat) (l:List FallV) (w:World) {A:Sto} {r:Int} {n cu:Nat} (h:DQ w d s A r n cu) (hl0:s.ds.R.left = -1) (hown:∀ k,s.own k → N ≤ k) (hl:FallsAt N w oa l) (hn:n ≤ 300000) (hcu:cu + l.length ≤ 80000000000) (hNw:N ≤ w.heap.size) :
  Calls Tryz.prog 19 #[.pointer (some ⟨d,0,none⟩),.slice oa l.length cc] w fun e w'=>∃ xb c s',e = .returned (.tuple #[.pointer (some ⟨xb,0,none⟩),.pointer (some ⟨c,0,none⟩)]) ∧ Below N w w' ∧ DQ w' d s' A r n (cu + l.length) ∧ s'.ds.R.left = -1 ∧ (∀ k,s'.own k → N ≤ k) ∧
   ∃ sb cb tb cl so K,SA w' c xb sb cb so tb cl A r n 1 ∧ N ≤ K ∧ (∀ k,s'.own k → k < K) ∧ ∀ k,fpr so xb sb cb tb k → K ≤ k:=by
 have H:=hide h
 have HL:=hide hl
 have HOW:=hide hown
 clear h hl hown
 go_enter Tryz.func19,Tryz.ntmps19
 go_wp2_with fail
 go_loopw [6] (fun iv wr=>∃ (j:Nat) (s1:PSt),iv = .int .i64 ((j:Nat):Int) ∧ j ≤ l.length ∧ DQ wr d s1 A r n (cu + j) ∧ s1.ds.R.left = -1 ∧ (∀ k,s1.own k → N ≤ k) ∧ Below N w wr) (fun iv _=>l.length - (intOf iv).toNat)
 case atStart=>exact ⟨0,s,rfl,Nat.zero_le _,H.out,hl0,HOW.out,Below.refl _ _⟩
 case round =>
  obtain ⟨j,s1,rfl,hj,hdq,hlf,how,hbl⟩:=hrel
  have hN1:N ≤ wr.heap.size:=Nat.le_trans hNw hbl.size
  have HDQ:=hide hdq
  have HLF:=hide hlf
  have HO1:=hide how
  have HBL:=hide hbl
  have hls:=HL.out.low hbl.block
  clear hdq hlf how
  by_cases hlt:j < l.length
  ·obtain ⟨g,o,rfl,hg,c0,c1,c2,hka,hok⟩:=hls j hlt
   generalize l.getD j fall0 = F at *
   have d1:decide (((j:Nat):Int) < ((l.length:Nat):Int)) = true:=decide_eq_true (by omega)
   have HPK:=hide (pick_any F.n 40 (by decide) (by decide) hok.1 hok.2)
   have HKA:=hide hka
   clear hbl hka hls
   go_wp2_with fail
   refine (HPK.out _).mono ?_
   rintro _ wp ⟨rfl,hwp⟩
   rw [hwp]
   dsimp only
   have hpl:=pickN_lt F.n 40 (by decide)
   generalize pickN F.n 40 = m at *
   clear hwp HPK
   have HBR:=hide (dqBreak HDQ.out m hpl)
   go_wp2_with fail
   refine (HBR.out).mono ?_
   rintro _ w1 ⟨rfl,s2,hg2,hd2⟩
   dsimp only
   have hbe:Below N wr w1:=hg2.low HO1.out hN1
   have hN2:N ≤ w1.heap.size:=Nat.le_trans hN1 hg2.gr.size
   have HO2:=hide (hg2.ownN HO1.out hN1)
   have HOP:=hide (dqOpen hd2 hn (by omega))
   have HB2:=hide (HBL.out.trans hbe)
   have HC1:=hide (cell_low2 hbe hg c1)
   have HC2:=hide (cell_low2 hbe hg c2)
   have HKA2:=hide (KAt.low HKA.out hbe)
   clear hd2 hg2 hbe HBR c0 c1 c2
   go_wp2_with fail
   refine (HOP.out).mono ?_
   rintro _ w2 ⟨s3,xb,sb,cb,tb,cl,rfl,hg3,hd3, -, -⟩
   dsimp only
   have hbe3:Below N w1 w2:=hg3.low HO2.out hN2
   have hN3:N ≤ w2.heap.size:=Nat.le_trans hN2 hg3.gr.size
   have ho3:=hg3.ownN HO2.out hN2
   have hka3:=KAt.low HKA2.out hbe3
   have hdr:Below w2.heap.size w2 w2.drew:=(Below.refl _ _).drew
   have hdrN:Below N w2 w2.drew:=(Below.refl _ _).drew
   have HCR:=hide (dqCrash (hd3.later hdr) hn F.paths F.kv F.ks ((KAt.low hka3 hdrN).mono ho3))
   have hS0:=And.intro (cell_low2 hdrN hg (cell_low2 hbe3 hg HC1.out)) (cell_low2 hdrN hg (cell_low2 hbe3 hg HC2.out))
   have HB3:=hide ((HB2.out.trans hbe3).trans hdrN)
   have HO3:=hide ho3
   clear hbe3 ho3 hka3 hg3 hd3 HOP HC1 HC2 hdr hdrN
   go_wp2_with fail
   go_region_held3 (fun w'=>w'.cell? ⟨g,o + j * 3 + 1,none⟩ = some (.int .i64 F.paths) ∧ w'.cell? ⟨g,o + j * 3 + 2,none⟩ = some F.kv) (first | exact hS0 | exact hS3 | go_keep) ((go_at_call 16;refine (HCR.out).mono ?_;rintro _ w3 ⟨rfl,s4,hg4,hd4,hl4⟩;have hb4:Below N w2.drew w3:=hg4.low HO3.out hN3;have hS3:=And.intro (cell_low2 hb4 hg hS0.1) (cell_low2 hb4 hg hS0.2)))
   have HD4:=hide hd4
   have HL4:=hide hl4
   have HO4:=hide (hg4.ownN HO3.out hN3)
   have HB4:=hide (HB3.out.trans hb4)
   clear hd4 hl4 hg4 hb4 hS0 hS3 HCR
   go_wp2_with fail
   exact ⟨⟨j + 1,s4,by simp,by omega,HD4.out,HL4.out,HO4.out,HB4.out⟩,by simp only [intOf];omega⟩
  ·have hjl:j = l.length:=by omega
   have d1:decide (((j:Nat):Int) < ((l.length:Nat):Int)) = false:=decide_eq_false (by omega)
   have HCP:=hide (dqCopy HDQ.out hn)
   clear hbl hls
   go_wp2_with fail
   refine (HCP.out).mono ?_
   rintro _ w1 ⟨c,so,rfl,hb1,hlc,hown,hdc,hlc2⟩
   dsimp only
   have HOP:=hide (dqOpen hdc hn (by omega))
   have HB1:=hide hb1
   have HD1:=hide (HDQ.out.later hb1)
   have HIC:=hide hdc.dk
   have HOC:=hide hown
   have HLC:=hide hlc2
   have hN2:N ≤ w1.heap.size:=Nat.le_trans hN1 hb1.size
   have HLT:=hide (show ∀ k,s1.own k → k < wr.heap.size from fun k hk=>HDQ.out.dk.inn.lt hk)
   clear hb1 hdc hown hlc2 HCP
   go_wp2_with fail
   refine (HOP.out).mono ?_
   rintro _ w2 ⟨s3,xb,sb,cb,tb,cl,rfl,hg3,hd3,hsa,hnb⟩
   dsimp only
   have HSA:=hide (hsa HLC.out)
   have hd2:=HD1.out.far HIC.out.inn HIC.out.low hg3 (fun k hk e=>by have:=HLT.out k hk;have:=HOC.out k e;omega)
   have HD2:=hide (hd2.mono (Nat.le_refl _) (show cu + j ≤ cu + l.length by omega))
   have HFP:=hide (show ∀ k,fpr s3 xb sb cb tb k → wr.heap.size ≤ k from fun k hk=>by
    have hz:=HB1.out.size
    rcases hk with e | e | e
    ·rcases hg3.own k e with e | e
     ·exact HOC.out k e
     ·omega
    ·rcases e with e | e | e <;> omega
    ·omega)
   have HBE:=hide ((HBL.out.trans (HB1.out.mono hN1)).trans (hg3.low (fun k hk=>Nat.le_trans hN1 (HOC.out k hk)) hN2))
   clear hg3 hd3 hsa hd2 hnb HOP
   go_wp2_with fail
   refine bodyPost_ret (results_tmp2 rfl _ _ _) rfl ?_
   exact ⟨xb,c,s1,rfl,HBE.out,HD2.out,HLF.out,HO1.out,sb,cb,tb,cl,s3,wr.heap.size,HSA.out,hN1,HLT.out,HFP.out⟩
end Go.Proofs.YtncigfibncmioaaGreatDoor

/-
  PROVED HERE: what shown of the statements answers, of a store at rest.
-/
namespace Go.Proofs.YtncigfibncmioaaGreatDoor
set_option maxHeartbeats 4000000
set_option maxRecDepth 100000
open Go.RowKit
def shC (out b:ByteArray):ByteArray:=out ++ hxB b ++ ⟨#[32]⟩ ++ ⟨(Lib.itoa (b.size:Int)).toArray⟩ ++ ⟨#[32]⟩ ++ ⟨(Lib.itoa ((0:Nat):Int)).toArray⟩ ++ ⟨#[32]⟩ ++ b ++ ⟨#[59]⟩
def shT (out:ByteArray) (t:TE):ByteArray:=out ++ t.n ++ ⟨#[32]⟩ ++ dtx t.d ++ ⟨#[32]⟩ ++ ⟨(Lib.itoa (t.z.toNat:Int)).toArray⟩ ++ ⟨#[59]⟩
def shA (A:Sto):ByteArray:=A.tg.foldl shT (A.cs.foldl shC ⟨#[]⟩)
theorem shC_size (out b:ByteArray) (hb:b.size ≤ 300):(shC out b).size ≤ out.size + 500:=by
 unfold shC
 simp only [ba_size]
 have h1:=itoa_lenB b.size (by omega)
 have h0:=itoa_lenB 0 (by omega)
 have h2:(⟨(Lib.itoa (b.size:Int)).toArray⟩ : ByteArray).size = (Lib.itoa (b.size:Int)).length:=bytes_size _
 have h5:(⟨(Lib.itoa ((0:Nat):Int)).toArray⟩ : ByteArray).size = (Lib.itoa ((0:Nat):Int)).length:=bytes_size _
 have h3:(⟨#[32]⟩ : ByteArray).size = 1:=rfl
 have h4:(⟨#[59]⟩ : ByteArray).size = 1:=rfl
 have h6:(hxB b).size = 64:=dtx_size _
 omega
theorem shT_size (out:ByteArray) (t:TE) (ht:t.Ok):(shT out t).size ≤ out.size + 500:=by
 unfold shT
 simp only [ba_size]
 have hz:t.z.toNat ≤ 1000000:=by have:=ht.z1;omega
 have h1:=itoa_lenB t.z.toNat hz
 have h2:(⟨(Lib.itoa (t.z.toNat:Int)).toArray⟩ : ByteArray).size = (Lib.itoa (t.z.toNat:Int)).length:=bytes_size _
 have h3:(⟨#[32]⟩ : ByteArray).size = 1:=rfl
 have h4:(⟨#[59]⟩ : ByteArray).size = 1:=rfl
 have h6:(dtx t.d).size = 64:=dtx_size _
 have:=ht.n
 omega
theorem fold_take {α β:Type} (f:β → α → β) (b:β) (l:List α) {i:Nat} (hi:i < l.length):(l.take (i + 1)).foldl f b = f ((l.take i).foldl f b) (l[i]'hi):=by
 rw [List.take_add_one,List.getElem?_eq_getElem hi,List.foldl_append]
 rfl
section
variable {w:World} {db xb sb cb:Nat} {s:PSt} {tb:Nat} {cl:List (List Nat)} {A:Sto} {r:Int} {n cu:Nat}
theorem saShown (h:SA w db xb sb cb s tb cl A r n cu) (hn:n ≤ 300000) :
  Calls Tryz.prog 13 #[.pointer (some ⟨xb,0,none⟩)] w fun e w'=>e = .returned (.tuple #[.string (shA A),.bool true]) ∧ SGo (sS xb sb cb) s s w w' ∧ SA w' db xb sb cb s tb cl A r n cu:=by
 have HBL:=hide (saBlobs h hn)
 have HTG:=hide (fun (W:World) (hW:SA W db xb sb cb s tb cl A r n cu)=>saTags hW)
 have HKEEP:=hide (show ∀ (wa wb:World),SGo (sS xb sb cb) s s wa wb → ∀ (B:Nat) (e:TypeId) (k:Nat) (v:Value) (m:Nat) (xs:List Value),w.heap.size ≤ B → wa.ownsRow B e k v m xs → wb.ownsRow B e k v m xs from fun wa wb hg B e k v m xs hB ho=>own_same ho (fun x hx hlt=>hg.gr.block x hlt (fun e2=>by
  have h1:=own_ge ho x hx
  have h2:=h.lt x (e2.elim .inl (fun e2=>.inr (.inl e2)))
  omega)))
 have HGD:=hide h.good
 have hlen:A.cs.length ≤ 300000:=Nat.le_trans h.len hn
 have ht8:=h.good.t8
 have HGET:=hide (show ∀ (W:World) (i:Nat) (hi:i < A.cs.length),SA W db xb sb cb s tb cl A r n cu → Calls Tryz.prog 34 #[.pointer (some ⟨xb,0,none⟩),.string (hxB (A.cs[i]'hi))] W fun e w'=>e = .returned (.tuple #[.string (A.cs[i]'hi),.int .i64 0]) ∧ SGo (sS xb sb cb) s s W w' ∧ SA w' db xb sb cb s tb cl A r n cu from fun W i hi hW=>saGet hW (findK_mem hW.good.rise (List.getElem_mem hi)))
 obtain ⟨R,hR⟩ : ∃ R,R = shA A:=⟨_,rfl⟩
 rw [← hR]
 have HR:=hide hR
 obtain ⟨m,hm⟩ : ∃ m,m = A.cs.length:=⟨_,rfl⟩
 obtain ⟨q,hq⟩ : ∃ q,q = A.tg.length:=⟨_,rfl⟩
 rw [← hm] at hlen
 rw [← hq] at ht8
 have HM:=hide hm
 have HQ:=hide hq
 clear h hR hm hq
 go_enter Tryz.func13,Tryz.ntmps13
 go_wp2_with fail
 refine (HBL.out).mono ?_
 rintro _ w1 ⟨v1,rfl,hrow1,hg1,hs1⟩
 dsimp only
 have HT1:=hide (HTG.out w1 hs1)
 have HG1:=hide hg1
 have HROW1:=hide hrow1
 clear hrow1 hg1 hs1 HBL HTG
 go_wp2_with fail
 refine (HT1.out).mono ?_
 rintro _ w2 ⟨v2,rfl,hrow2,hg2,hs2⟩
 dsimp only
 have hrow1:=HKEEP.out w1 w2 hg2 _ _ _ _ _ _ (Nat.le_refl _) HROW1.out
 rw [← HM.out] at hrow1
 rw [← HQ.out] at hrow2
 obtain ⟨o1,k1,rfl⟩:=own_sl hrow1
 obtain ⟨o2,k2,rfl⟩:=own_sl hrow2
 have hrow2:=hrow2.mono_base (HG1.out.gr.size:w.heap.size ≤ w1.heap.size)
 have HR1:=hide hrow1
 have HR2:=hide hrow2
 have HG2:=hide (HG1.out.trans hg2)
 have HS2:=hide hs2
 clear hrow1 hrow2 hg2 hs2 HT1 HROW1 HG1
 go_wp2_with fail
 go_loopw [8,9] (fun ov iv wr=>∃ (j:Nat),j ≤ m ∧ iv = .int .i64 ((j:Nat):Int) ∧ ov = .string ((A.cs.take j).foldl shC ⟨#[]⟩) ∧ ((A.cs.take j).foldl shC ⟨#[]⟩).size ≤ j * 500 ∧ SGo (sS xb sb cb) s s w wr ∧ SA wr db xb sb cb s tb cl A r n cu ∧ wr.ownsRow w.heap.size 73 2 (.slice o1 m k1) m (A.cs.flatMap bC) ∧ wr.ownsRow w.heap.size 83 3 (.slice o2 q k2) q (A.tg.flatMap tC)) (fun _ iv _=>m - (intOf iv).toNat)
 case atStart=>exact ⟨0,Nat.zero_le _,rfl,rfl,Nat.le_refl _,HG2.out,HS2.out,HR1.out,HR2.out⟩
 case round =>
  obtain ⟨j,hj,rfl,rfl,hsz,hgo,hsa,hrw1,hrw2⟩:=hrel
  have HGO:=hide hgo
  have HSA:=hide hsa
  have HW1:=hide hrw1
  have HW2:=hide hrw2
  clear hgo hsa
  by_cases hlt:j < m
  ·have hjl:j < A.cs.length:=by rw [← HM.out];exact hlt
   obtain ⟨g1,c1,e1,hc⟩:=row_flat (enc:=bC) (k:=2) (fun x=>rfl) hrw1 HM.out hjl
   injection e1 with e1 _ ec
   subst e1
   subst ec
   have r0:=hc 0 _ rfl
   have r1:=hc 1 _ rfl
   rw [Nat.add_zero] at r0
   have HRF:=hide (show ∀ W:World,W.ownsRow w.heap.size 73 2 (.slice (some ⟨g1,0,none⟩) m k1) m (A.cs.flatMap bC) → W.cell? ⟨g1,j * 2,none⟩ = some (.string (hxB (A.cs[j]'hjl))) ∧ W.cell? ⟨g1,j * 2 + 1,none⟩ = some (.int .i64 ((A.cs[j]'hjl).size:Int)) from fun W hW=>by
    obtain ⟨g3,c3,e3,hc3⟩:=row_flat (enc:=bC) (k:=2) (fun x=>rfl) hW HM.out hjl
    injection e3 with e3 _ _
    injection e3 with e3
    injection e3 with e3
    subst e3
    exact ⟨hc3 0 _ rfl,hc3 1 _ rfl⟩)
   have HGT:=hide (HGET.out wr j hjl HSA.out)
   have hnx:=fold_take shC ⟨#[]⟩ A.cs hjl
   have hb3:=HGD.out.sz _ (List.getElem_mem hjl)
   have hone:=shC_size ((A.cs.take j).foldl shC ⟨#[]⟩) (A.cs[j]'hjl) hb3
   have hsx:(hxB (A.cs[j]'hjl)).size ≤ 64:=Nat.le_of_eq (dtx_size _)
   generalize (A.cs.take j).foldl shC ⟨#[]⟩ = O at *
   generalize A.cs[j]'hjl = b at *
   have hnx2:(A.cs.take (j + 1)).foldl shC ⟨#[]⟩ = O ++ hxB b ++ ⟨#[32]⟩ ++ ⟨(Lib.itoa (b.size:Int)).toArray⟩ ++ ⟨#[32]⟩ ++ ⟨(Lib.itoa ((0:Nat):Int)).toArray⟩ ++ ⟨#[32]⟩ ++ b ++ ⟨#[59]⟩:=hnx
   have HNX:=hide hnx2
   clear hnx hnx2
   generalize hxB b = H at *
   have d1:decide (((j:Nat):Int) < ((m:Nat):Int)) = true:=decide_eq_true (by omega)
   clear hrw1 hrw2 hc hjl hone
   go_wp2_with fail
   refine (HGT.out).mono ?_
   rintro _ w3 ⟨rfl,hg3,hs3⟩
   dsimp only
   have hrw3:=HKEEP.out wr w3 hg3 _ _ _ _ _ _ (Nat.le_refl _) HW1.out
   have hrw4:=HKEEP.out wr w3 hg3 _ _ _ _ _ _ (Nat.le_refl _) HW2.out
   obtain ⟨r30,r31⟩:=HRF.out _ hrw3
   obtain ⟨z,hz⟩ : ∃ z,z = b.size:=⟨_,rfl⟩
   have HDC:Hid (∀ W,Calls Tryz.prog 41 #[.int .i64 ((z:Nat):Int)] W fun e w'=>e = .returned (.string ⟨(Lib.itoa (b.size:Int)).toArray⟩) ∧ Below W.heap.size W w'):=hide (fun W=>by rw [hz];exact decimalB_any b.size (by omega) W)
   have HDZ:Hid (∀ W,Calls Tryz.prog 41 #[.int .i64 0] W fun e w'=>e = .returned (.string ⟨(Lib.itoa ((0:Nat):Int)).toArray⟩) ∧ Below W.heap.size W w'):=hide (fun W=>decimalB_any 0 (by omega) W)
   rw [← hz] at r31
   clear hz
   have t1:(⟨(Lib.itoa (b.size:Int)).toArray⟩ : ByteArray).size ≤ 21:=by rw [bytes_size];exact itoa_lenB _ (by omega)
   have t0:(⟨(Lib.itoa ((0:Nat):Int)).toArray⟩ : ByteArray).size ≤ 21:=by rw [bytes_size];exact itoa_lenB _ (by omega)
   generalize (⟨(Lib.itoa (b.size:Int)).toArray⟩ : ByteArray) = Tx at *
   generalize (⟨(Lib.itoa ((0:Nat):Int)).toArray⟩ : ByteArray) = Tz at *
   have q1:¬ 9223372036854775807 < O.size + H.size:=by omega
   have q2:¬ 9223372036854775807 < O.size + H.size + 1:=by omega
   have q3:¬ 9223372036854775807 < O.size + H.size + 1 + Tx.size:=by omega
   have q4:¬ 9223372036854775807 < O.size + H.size + 1 + Tx.size + 1:=by omega
   have q5:¬ 9223372036854775807 < O.size + H.size + 1 + Tx.size + 1 + Tz.size:=by omega
   have q6:¬ 9223372036854775807 < O.size + H.size + 1 + Tx.size + 1 + Tz.size + 1:=by omega
   have q7:¬ 9223372036854775807 < O.size + H.size + 1 + Tx.size + 1 + Tz.size + 1 + b.size:=by omega
   have q8:¬ 9223372036854775807 < O.size + H.size + 1 + Tx.size + 1 + Tz.size + 1 + b.size + 1:=by omega
   have HGO3:=hide (HGO.out.trans hg3)
   have HSA3:=hide hs3
   have HW3:=hide hrw3
   have HW4:=hide hrw4
   have hdr:Below w3.heap.size w3 w3.drew:=(Below.refl _ _).drew
   have hS0:w3.drew.cell? ⟨g1,j * 2,none⟩ = some (.string H) ∧ w3.drew.cell? ⟨g1,j * 2 + 1,none⟩ = some (.int .i64 ((z:Nat):Int)):=⟨cell_later hdr r30,cell_later hdr r31⟩
   have HC0:=hide r30
   have HC1:=hide r31
   clear hg3 hs3 hrw3 hrw4 r30 r31 r0 r1 HRF HGT
   go_wp2_with fail
   go_region_held3 (fun w'=>w'.cell? ⟨g1,j * 2,none⟩ = some (.string H) ∧ w'.cell? ⟨g1,j * 2 + 1,none⟩ = some (.int .i64 ((z:Nat):Int))) (first | exact hS0 | exact hS4 | exact hS5 | go_keep) ((first
    | (go_at_call 41;(with_reducible refine (HDZ.out _).mono ?_);rintro _ w5 ⟨rfl,hb6⟩;have hb7:Below w3.heap.size w3 w5:=hb5.trans (hb6.mono hb5.size);have hS5:w5.cell? ⟨g1,j * 2,none⟩ = some (.string H) ∧ w5.cell? ⟨g1,j * 2 + 1,none⟩ = some (.int .i64 ((z:Nat):Int)):=⟨cell_later hb7 HC0.out,cell_later hb7 HC1.out⟩)
    | (go_at_call 41;(with_reducible refine (HDC.out _).mono ?_);rintro _ w4 ⟨rfl,hb4⟩;have hb5:Below w3.heap.size w3 w4:=hdr.trans hb4;have hS4:w4.cell? ⟨g1,j * 2,none⟩ = some (.string H) ∧ w4.cell? ⟨g1,j * 2 + 1,none⟩ = some (.int .i64 ((z:Nat):Int)):=⟨cell_later hb5 HC0.out,cell_later hb5 HC1.out⟩)))
   have HB7:=hide hb7
   clear hb4 hb5 hb6 hb7 hS0 hS4 hS5 hdr HDC HDZ HC0 HC1
   go_wp2_with fail
   refine ⟨⟨j + 1,by omega,by simp,by rw [HNX.out],?_,HGO3.out.trans (SGo.of_below HB7.out),HSA3.out.later HB7.out,ownsRow_later HW3.out HB7.out,ownsRow_later HW4.out HB7.out⟩,by simp only [intOf];omega⟩
   rw [HNX.out]
   simp only [ba_size]
   have h3:(⟨#[32]⟩ : ByteArray).size = 1:=rfl
   have h4:(⟨#[59]⟩ : ByteArray).size = 1:=rfl
   omega
  ·have d1:decide (((j:Nat):Int) < ((m:Nat):Int)) = false:=decide_eq_false (by omega)
   have hjn:j = m:=by omega
   subst hjn
   have ht:A.cs.take j = A.cs:=List.take_of_length_le (by rw [← HM.out];exact Nat.le_refl _)
   rw [ht] at hsz ⊢
   clear hrw1 hrw2 ht
   have HB0:=hide (show R = A.tg.foldl shT (A.cs.foldl shC ⟨#[]⟩) from HR.out)
   generalize A.cs.foldl shC ⟨#[]⟩ = O at hsz HB0 ⊢
   go_wp2_with fail
   go_loopw [8,12] (fun ov iv wr=>∃ (i:Nat),i ≤ q ∧ iv = .int .i64 ((i:Nat):Int) ∧ ov = .string ((A.tg.take i).foldl shT O) ∧ ((A.tg.take i).foldl shT O).size ≤ j * 500 + i * 500 ∧ SGo (sS xb sb cb) s s w wr ∧ SA wr db xb sb cb s tb cl A r n cu ∧ wr.ownsRow w.heap.size 83 3 (.slice o2 q k2) q (A.tg.flatMap tC)) (fun _ iv _=>q - (intOf iv).toNat)
   case atStart=>exact ⟨0,Nat.zero_le _,rfl,rfl,by simpa using hsz,HGO.out,HSA.out,HW2.out⟩
   case round =>
    obtain ⟨i,hi,rfl,rfl,hsz2,hgo,hsa,hrw2⟩:=hrel
    have HGO2:=hide hgo
    have HSA2:=hide hsa
    have HW5:=hide hrw2
    clear hgo hsa
    by_cases hli:i < q
    ·have hil:i < A.tg.length:=by rw [← HQ.out];exact hli
     obtain ⟨g2,c2,e2,hc⟩:=row_flat (enc:=tC) (k:=3) (fun x=>rfl) hrw2 HQ.out hil
     injection e2 with e2 _ ec
     subst e2
     subst ec
     have r0:=hc 0 _ rfl
     have r1:=hc 1 _ rfl
     have r2:=hc 2 _ rfl
     rw [Nat.add_zero] at r0
     have hnx:=fold_take shT O A.tg hil
     have htk:=HGD.out.tok _ (List.getElem_mem hil)
     have hone:=shT_size ((A.tg.take i).foldl shT O) (A.tg[i]'hil) htk
     generalize A.tg[i]'hil = t at *
     generalize (A.tg.take i).foldl shT O = P at *
     have hnx2:(A.tg.take (i + 1)).foldl shT O = P ++ t.n ++ ⟨#[32]⟩ ++ dtx t.d ++ ⟨#[32]⟩ ++ ⟨(Lib.itoa (t.z.toNat:Int)).toArray⟩ ++ ⟨#[59]⟩:=hnx
     have HNX:=hide hnx2
     clear hnx hnx2
     obtain ⟨z,hz⟩ : ∃ z:Nat,t.z = (z:Int):=⟨t.z.toNat,by have:=htk.z0;omega⟩
     have hz3:z ≤ 1000000:=by have:=htk.z1;omega
     rw [hz] at r2
     have hzn:t.z.toNat = z:=by omega
     rw [hzn] at HNX
     have HDC:=hide (fun W=>decimalB_any z hz3 W)
     have t1:(⟨(Lib.itoa (z:Int)).toArray⟩ : ByteArray).size ≤ 21:=by rw [bytes_size];exact itoa_lenB _ hz3
     generalize (⟨(Lib.itoa (z:Int)).toArray⟩ : ByteArray) = Tx at *
     have hn1:=htk.n
     have hd1:(dtx t.d).size ≤ 64:=Nat.le_of_eq (dtx_size _)
     generalize dtx t.d = D at *
     generalize t.n = M at *
     have q1:¬ 9223372036854775807 < P.size + M.size:=by omega
     have q2:¬ 9223372036854775807 < P.size + M.size + 1:=by omega
     have q3:¬ 9223372036854775807 < P.size + M.size + 1 + D.size:=by omega
     have q4:¬ 9223372036854775807 < P.size + M.size + 1 + D.size + 1:=by omega
     have q5:¬ 9223372036854775807 < P.size + M.size + 1 + D.size + 1 + Tx.size:=by omega
     have q6:¬ 9223372036854775807 < P.size + M.size + 1 + D.size + 1 + Tx.size + 1:=by omega
     have d2:decide (((i:Nat):Int) < ((q:Nat):Int)) = true:=decide_eq_true (by omega)
     have hdr:Below wr.heap.size wr wr.drew:=(Below.refl _ _).drew
     have hS0:wr.drew.cell? ⟨g2,i * 3,none⟩ = some (.string M) ∧ wr.drew.cell? ⟨g2,i * 3 + 1,none⟩ = some (.string D) ∧ wr.drew.cell? ⟨g2,i * 3 + 2,none⟩ = some (.int .i64 ((z:Nat):Int)):=⟨cell_later hdr r0,cell_later hdr r1,cell_later hdr r2⟩
     have HC:=hide (And.intro r0 (And.intro r1 r2))
     clear hrw2 hc hil hone htk hz hzn r0 r1 r2
     go_wp2_with fail
     go_region_held3 (fun w'=>w'.cell? ⟨g2,i * 3,none⟩ = some (.string M) ∧ w'.cell? ⟨g2,i * 3 + 1,none⟩ = some (.string D) ∧ w'.cell? ⟨g2,i * 3 + 2,none⟩ = some (.int .i64 ((z:Nat):Int))) (first | exact hS0 | exact hS4 | go_keep) ((go_at_call 41;refine (HDC.out _).mono ?_;rintro _ w4 ⟨rfl,hb4⟩;have hb5:Below wr.heap.size wr w4:=hdr.trans hb4;have hS4:w4.cell? ⟨g2,i * 3,none⟩ = some (.string M) ∧ w4.cell? ⟨g2,i * 3 + 1,none⟩ = some (.string D) ∧ w4.cell? ⟨g2,i * 3 + 2,none⟩ = some (.int .i64 ((z:Nat):Int)):=⟨cell_later hb5 HC.out.1,cell_later hb5 HC.out.2.1,cell_later hb5 HC.out.2.2⟩))
     have HB5:=hide hb5
     clear hb4 hb5 hS0 hS4 hdr HDC HC
     go_wp2_with fail
     refine ⟨⟨i + 1,by omega,by simp,by rw [HNX.out],?_,HGO2.out.trans (SGo.of_below HB5.out),HSA2.out.later HB5.out,ownsRow_later HW5.out HB5.out⟩,by simp only [intOf];omega⟩
     rw [HNX.out]
     simp only [ba_size]
     have h3:(⟨#[32]⟩ : ByteArray).size = 1:=rfl
     have h4:(⟨#[59]⟩ : ByteArray).size = 1:=rfl
     omega
    ·have d2:decide (((i:Nat):Int) < ((q:Nat):Int)) = false:=decide_eq_false (by omega)
     have hiq:i = q:=by omega
     subst hiq
     have ht2:A.tg.take i = A.tg:=List.take_of_length_le (by rw [← HQ.out];exact Nat.le_refl _)
     rw [ht2,← HB0.out] at hsz2 ⊢
     clear hrw2 ht2
     go_wp2_with fail
     refine bodyPost_ret (results_tmp2 rfl _ _ _) rfl ?_
     exact ⟨rfl,HGO2.out,HSA2.out⟩
end
end Go.Proofs.YtncigfibncmioaaGreatDoor

/-
  PROVED HERE: what begun of the statements answers: a store at rest, with one content.
-/
namespace Go.Proofs.YtncigfibncmioaaGreatDoor
set_option maxHeartbeats 4000000
set_option maxRecDepth 100000
open Go.RowKit
def A0:Sto:=⟨[],[]⟩
def abcB:ByteArray:=⟨#[97,98,99]⟩
def latestB:ByteArray:=⟨#[108,97,116,101,115,116]⟩
def A1:Sto:=⟨[abcB],[⟨latestB,dOfB abcB,3⟩]⟩
theorem good0:GoodA A0:=⟨List.Pairwise.nil,fun b hb=>(by cases hb),List.Pairwise.nil,fun t ht=>(by cases ht),Nat.zero_le _,fun t ht=>(by cases ht),fun t ht=>(by cases ht)⟩
theorem szA0:szA A0 = 36:=by rw [szA_eq];rfl
theorem rest3_rst {D:DS} {r:Int} {L C:Nat} (h:Rest3 D) (hl:D.R.left = -1) (hr:D.R.room = r) (hf:DFit D L C 36):Rst D (fA A0) r 2000:=by
 obtain ⟨⟨y,x,z,hn,fx,fy,fz⟩,h2,h3⟩:=h
 have hsz:((idxX []).size:Int) = 23:=rfl
 have hvw:vwL D = fA A0:=by
  unfold vwL
  rw [hn]
  show [vwE D.fd ⟨indexP,y⟩,vwE D.fd ⟨journalP,x⟩,vwE D.fd ⟨layoutP,z⟩] = [ff indexP (idxX []),ff journalP ⟨#[]⟩,ff layoutP layoutT]
  unfold vwE
  dsimp only
  rw [fx,fy,fz]
  rfl
 have n1:emptyT ≠ ⟨#[]⟩:=by decide
 have n2:emptyT ≠ layoutT:=by decide
 have n3:layoutT ≠ ⟨#[]⟩:=by decide
 have nyx:y ≠ x:=fun e=>n1 (by have:=fy;rw [e,fx] at this;injection this with this;exact this.symm)
 have nyz:y ≠ z:=fun e=>n2 (by have:=fy;rw [e,fz] at this;injection this with this;exact this.symm)
 have nxz:x ≠ z:=fun e=>n3 (by have:=fx;rw [e,fz] at this;injection this)
 refine ⟨⟨hvw,hl,hr,fun e he e' he' hb=>?_,hf.inow,hf.isafe,hf.ichg,hf.inv,hf.rise,fun f hf2=>(hf.dat f hf2).mono (by decide),hf.chf⟩,h2,h3,fun f hm=>?_⟩
 ·rw [hn] at he he'
  simp only [List.mem_cons,List.not_mem_nil,or_false] at he he'
  rcases he with rfl | rfl | rfl <;> rcases he' with rfl | rfl | rfl <;> first | rfl | exact absurd hb nyx | exact absurd hb.symm nyx | exact absurd hb nyz | exact absurd hb.symm nyz | exact absurd hb nxz | exact absurd hb.symm nxz
 ·rcases tail_mem (show f ∈ tailF [] from hm) with rfl | rfl | rfl <;> rfl
theorem run_gen (D:List Nat) (X:ByteArray) (hD:DigOk D):Pl.run 1099511627776 A0 ⟨abcB.size + tgNeed [] [⟨latestB,D,3⟩],X,0,⟨[abcB],[⟨latestB,D,3⟩]⟩⟩ = (X,0,⟨[abcB],[⟨latestB,D,3⟩]⟩):=by
 refine Pl.run_yes ?_
 rw [szA0]
 show ((36:Nat):Int) + ((abcB.size + tgNeed [] [⟨latestB,D,3⟩]:Nat):Int) ≤ 1099511627776
 have h4:(idxX [⟨latestB,D,3⟩]).size ≤ 2000:=idxX_size (fun t ht=>by
  simp only [List.mem_singleton] at ht
  subst ht
  exact te_ok (by decide) hD.1 hD.2 (by decide) (by decide)) (by simp)
 have h5:tgNeed [] [⟨latestB,D,3⟩] ≤ 2000:=by
  unfold tgNeed
  rw [if_neg (by simp)]
  exact h4
 have h6:abcB.size = 3:=rfl
 omega
theorem ins_one (b:ByteArray):nbC A0.cs (some b) = [b]:=rfl
theorem con_none (b:ByteArray):conC A0 b = none:=rfl
theorem new_one (b:ByteArray):newC A0 b = some b:=by unfold newC;rw [con_none]
theorem tag_one (m b:ByteArray):tgNew A0 m b = [⟨m,dOfB b,(b.size:Int)⟩]:=by
 unfold tgNew
 rw [con_none]
 rfl
theorem run_first:(pubPl A0 latestB abcB).run 1099511627776 A0 = (hxB abcB,0,A1):=by
 have hm:mayB A0 latestB = true:=rfl
 have hs:(abcB.size:Int) = 3:=rfl
 unfold pubPl A1
 rw [if_pos hm,new_one,tag_one,ins_one,hs,show nbN (some abcB) = abcB.size from rfl,show A0.tg = [] from rfl]
 generalize hD:dOfB abcB = D
 have hok:DigOk D:=by rw [← hD];exact dOfB_ok abcB
 generalize hxB abcB = X
 exact run_gen D X hok
theorem bNew_sa (r:Int) (w:World) (hg:Gl w) (h0:0 ≤ r) (h1:r ≤ 9223372036854775807) :
  Calls Tryz.prog 24 #[.int .i64 r] w fun e w'=>∃ d so,e = .returned (.pointer (some ⟨d,0,none⟩)) ∧ Below w.heap.size w w' ∧ w.heap.size ≤ d ∧ DkW w' d so ∧ (∀ k,so.own k → w.heap.size ≤ k) ∧ Er so.ds ∧ DFit so.ds 6 0 36 ∧ so.R.left = -1 ∧ so.R.room = r ∧ so.ds.R.now = []:=by
 refine (wNewDisk r (fun g w'=>∃ so:PSt,so.b = g ∧ Below w.heap.size w w' ∧ so.In w' ∧ (∀ k,so.own k → w.heap.size ≤ k) ∧ so.ds = ⟨⟨r,[],[],[],0, -1⟩,[],so.fd⟩) w ((pnew_any r w).mono ?_)).mono ?_
 ·rintro e w' ⟨rfl,hb,hpd,hsz⟩
  rw [if_neg (by omega)] at hpd
  refine ⟨_,rfl,⟨w.heap.size + 1 + 1,w.heap.size,w.heap.size + 1,.slice none 0 0,⟨r,[],[],[],0, -1⟩,[],fun _=>(⟨#[]⟩,0),fun _=>.slice none 0 0⟩,rfl,hb,⟨hpd,fun f hf=>(by cases hf),fun f hf=>(by cases hf),fun e he=>(by cases he),fun e he=>(by cases he),fun c hc=>(by cases hc)⟩,fun k hk=>?_,rfl⟩
  rcases hk with e | e | e | e | e | ⟨f,hf,e⟩
  ·have e:k = w.heap.size + 1 + 1:=e;omega
  ·have e:k = w.heap.size:=e;omega
  ·have e:k = w.heap.size + 1:=e;omega
  ·cases e
  ·cases e
  ·cases hf
 ·rintro e w' ⟨g,w1,rfl,rfl,so,rfl,hb,hin,hown,hds⟩
  have hba:=hb.alloc hb.size (.cells #[.pointer (some ⟨so.b,0,none⟩)] 90)
  obtain ⟨e1,e2⟩:=new_er r h0 h1 so.fd
  rw [← hds] at e1 e2
  exact ⟨w1.heap.size,so,rfl,hba,hb.size,⟨hin.later ((Below.refl _ _).alloc (Nat.le_refl _) _),heap_alloc_new _ _,hg.later hba,fun k hk hG=>by have:=hown k hk;have:=hg.lt hG;omega⟩,hown,e1,e2,congrArg (fun D:DS=>D.R.left) hds,congrArg (fun D:DS=>D.R.room) hds,congrArg (fun D:DS=>D.R.now) hds⟩
theorem hx_abc:hxB abcB = abcT:=abc_known
theorem within_sa (w:World) (hg:Gl w) :
  Calls Tryz.prog 28 #[.int .i64 1099511627776] w fun e w'=>∃ d xb sb cb s tb cl,e = .returned (.tuple #[.pointer (some ⟨d,0,none⟩),.pointer (some ⟨xb,0,none⟩),.bool false]) ∧ Below w.heap.size w w' ∧ SA w' d xb sb cb s tb cl A1 1099511627776 3 92 ∧ ∀ k,fpr s xb sb cb tb k → w.heap.size ≤ k:=by
 have HND:=hide (bNew_sa 1099511627776 w hg (by decide) (by decide))
 have HGL:=hide hg
 clear hg
 go_enter Tryz.func28,Tryz.ntmps28
 go_wp2_with fail
 refine (HND.out).mono ?_
 rintro _ w1 ⟨d,so,rfl,hb1,hld,hdk,hown,her,hfit,hleft,hroom,hnow⟩
 dsimp only
 have hnl:so.R.now.length ≤ 6:=hfit.nowLen
 have HOP:=hide (bOpen_new so w1 d hdk.inn hdk.gl hdk.low hfit (show Bud _ _ _ from ⟨by omega,by omega,by omega⟩) her.paths (by unfold rdD;rw [hnow];rfl) hdk.bd)
 have HB1:=hide hb1
 have HDK:=hide hdk
 have HOW:=hide hown
 have HER:=hide her
 have HFI:=hide hfit
 have HLE:=hide hleft
 have HRR:=hide (show so.ds.R.room = 1099511627776 from hroom)
 have hN2:w.heap.size ≤ w1.heap.size:=hb1.size
 clear hb1 hdk hown her hfit hleft hroom hnow hnl HND
 go_wp2_with fail
 refine (HOP.out).mono ?_
 rintro _ w2 ⟨k,s3,sv,rfl,hg3,hop3,hok,hno⟩
 dsimp only
 obtain ⟨rfl,kp3,ea3,r3⟩:=open_pure HER.out (by rw [HRR.out];decide) hop3
 have fit3:=open_fit HER.out (by rw [HRR.out];decide) HFI.out hop3
 obtain ⟨xb,sb,cb,tb,rfl,hbst,hlsb,hlxb,hst⟩:=hok rfl
 have hGx:¬ isG xb:=fun e=>by have:=HGL.out.lt e;omega
 have hroom3:s3.ds.R.room = 1099511627776:=by rw [kp3.1,HRR.out]
 have hbd2:BD w2 d s3.b:=(HDK.out.go hg3).bd
 have hsa:SA w2 d xb sb cb s3 tb [] A0 1099511627776 2 70:=⟨hbst,hGx,hst,hbd2,fun d hd=>(by cases hd),fun d=>⟨fun h=>(by cases h),fun ⟨b,hb,_⟩=>(by cases hb)⟩,Nat.zero_le _,rest3_rst (r3 HLE.out) (kp3.2 HLE.out) hroom3 fit3,fit3.c0,by have:=fit3.c1;omega,good0,by rw [szA0];decide,by decide,by decide⟩
 have HB2:=hide (HB1.out.trans (hg3.low (N:=w.heap.size) HOW.out hN2))
 have hfp:∀ k,s3.own k ∨ sS xb sb cb k → w.heap.size ≤ k:=fun k hk=>by
  rcases hk with e | e | e | e
  ·exact hg3.ownN HOW.out hN2 k e
  ·omega
  ·omega
  ·omega
 have HFP:=hide hfp
 have HPB:=hide (saPub hsa (by decide) (by decide) latestB abcB (by decide) (by decide +kernel) (by decide))
 have hN3:w.heap.size ≤ w2.heap.size:=Nat.le_trans hN2 hg3.gr.size
 rw [run_first] at HPB
 have hltb:w.heap.size ≤ tb:=by omega
 unfold latestB at HPB
 have habc:abcB = ⟨#[97,98,99]⟩:=rfl
 clear hop3 kp3 ea3 r3 fit3 hok hno hst hbst hg3 HOP hroom3 hfp hbd2 hsa
 have HPB2:Hid (Calls Tryz.prog 25 #[.pointer (some ⟨xb,0,none⟩),.string ⟨#[108,97,116,101,115,116]⟩,.string ⟨#[97,98,99]⟩] w2 fun e w'=>e = .returned (.tuple #[.string abcT,.int .i64 0]) ∧ SaN w2 w' d xb sb cb s3 tb A1 1099511627776 3 92):=hide (by rw [← hx_abc];exact HPB.out)
 clear HPB habc
 go_wp2_with fail
 refine (HPB2.out).mono ?_
 rintro _ w4 ⟨rfl,s4,tb4,cl4,hg4,ht4,hs4⟩
 dsimp only
 have HB4:=hide (HB2.out.trans (hg4.lowN HFP.out hN3))
 have HF4:=hide (show ∀ k,fpr s4 xb sb cb tb4 k → w.heap.size ≤ k from fun k hk=>by
  rcases hk with e | e | e
  ·rcases hg4.own k e with e | e
   ·exact HFP.out k (.inl e)
   ·omega
  ·exact HFP.out k (.inr e)
  ·rcases ht4 with ht4 | ht4 <;> omega)
 have HGT:=hide (saGet hs4 (b:=abcB) (c:=abcB) (findK_mem hs4.good.rise (by simp [A1])))
 rw [hx_abc] at HGT
 have HGT2:Hid (Calls Tryz.prog 34 #[.pointer (some ⟨xb,0,none⟩),.string abcT] w4 fun e w'=>e = .returned (.tuple #[.string ⟨#[97,98,99]⟩,.int .i64 0]) ∧ SGo (sS xb sb cb) s4 s4 w4 w' ∧ SA w' d xb sb cb s4 tb4 cl4 A1 1099511627776 3 92):=HGT
 have hN4:w.heap.size ≤ w4.heap.size:=Nat.le_trans hN3 hg4.gr.size
 have hfr:=HF4.out
 clear hg4 ht4 hs4 HPB2 HGT hfr
 unfold abcT at HGT2 ⊢
 go_wp2_with fail
 refine (HGT2.out).mono ?_
 rintro _ w5 ⟨rfl,hg5,hs5⟩
 dsimp only
 have HTG:=hide (saTags hs5)
 have HB5:=hide (HB4.out.trans (hg5.lowN (fun k hk=>HF4.out k (hk.elim .inl (fun e=>.inr (.inl e)))) hN4))
 have hN5:w.heap.size ≤ w5.heap.size:=Nat.le_trans hN4 hg5.gr.size
 clear hg5 hs5 HGT2 HB4
 go_wp2_with fail
 refine (HTG.out).mono ?_
 rintro _ w6 ⟨v6,rfl,hrow6,hg6,hs6⟩
 dsimp only
 have hcl:A1.tg.flatMap tC = [.string ⟨#[108,97,116,101,115,116]⟩,.string abcT,.int .i64 3]:=by
  have h1:dtx (dOfB abcB) = abcT:=abc_known
  show [Value.string latestB,.string (dtx (dOfB abcB)),.int .i64 3] ++ [] = _
  rw [h1]
  rfl
 rw [hcl] at hrow6
 obtain ⟨g,c,rfl, -,r0,r1,r2⟩:=own_three hrow6
 have HB6:=hide (HB5.out.trans (hg6.lowN (fun k hk=>HF4.out k (hk.elim .inl (fun e=>.inr (.inl e)))) hN5))
 have HS6:=hide hs6
 unfold abcT at r1
 clear hg6 hs6 hrow6 hcl HTG HB5
 go_wp2_with fail
 refine bodyPost_ret (results_tmp3 rfl _ _ _) rfl ?_
 exact ⟨d,xb,rfl,HB6.out,sb,cb,s4,tb4,⟨cl4,HS6.out⟩,HF4.out⟩
theorem begun_sa (w:World) (hg:Gl w) :
  Calls Tryz.prog 10 #[] w fun e w'=>∃ d xb sb cb s tb cl,e = .returned (.tuple #[.pointer (some ⟨d,0,none⟩),.pointer (some ⟨xb,0,none⟩)]) ∧ Below w.heap.size w w' ∧ SA w' d xb sb cb s tb cl A1 1099511627776 3 92 ∧ ∀ k,fpr s xb sb cb tb k → w.heap.size ≤ k:=by
 have HW:=hide (within_sa w hg)
 clear hg
 go_enter Tryz.func10,Tryz.ntmps10
 go_wp2_with fail
 refine (HW.out).mono ?_
 rintro _ w1 ⟨d,xb,sb,cb,s,tb,cl,rfl,hb,hs,hf⟩
 dsimp only
 have HB:=hide hb
 have HS:=hide hs
 have HF:=hide hf
 clear hb hs hf HW
 go_wp2_with fail
 refine bodyPost_ret (results_tmp2 rfl _ _ _) rfl ?_
 exact ⟨d,xb,sb,cb,s,tb,cl,rfl,HB.out,HS.out,HF.out⟩
end Go.Proofs.YtncigfibncmioaaGreatDoor

/-
  PROVED HERE: that the statement Refused answers true, for whatever script and number.
-/
namespace Go.Proofs.YtncigfibncmioaaGreatDoor
open Go.RowKit
structure StepV where
 k:Int
 n:Int
 b:Int
def step0:StepV:=⟨0,0,0⟩
def StepV.ok (t:StepV):Prop:=i64r t.k ∧ i64r t.n ∧ i64r t.b
def StepV.cells (t:StepV):List Value:=[.int .i64 t.k,.int .i64 t.n,.int .i64 t.b]
def StepsAt (N:Nat) (w:World) (oa:Option Addr) (l:List StepV):Prop:=∀ i,i < l.length → ∃ b o,oa = some ⟨b,o,none⟩ ∧ b < N ∧ w.rangeAt b (o + i * 3) (l.getD i step0).cells ∧ (l.getD i step0).ok
theorem StepsAt.low {N:Nat} {w w':World} {oa:Option Addr} {l:List StepV} (h:StepsAt N w oa l) (hb:∀ k,k < N → w'.heap[k]? = w.heap[k]?):StepsAt N w' oa l:=fun i hi=>by
 obtain ⟨b,o,h1,h2,h3,h4⟩:=h i hi
 exact ⟨b,o,h1,h2,fun j v hj=>(World.cell?_of_block (a:=⟨b,o + i * 3 + j,none⟩) (hb b h2)).trans (h3 j v hj),h4⟩
theorem fpr_next {w w':World} {xb sb cb tb tb':Nat} {s s':PSt} {k:Nat} (hg:SGo (sS xb sb cb) s s' w w') (ht:tb' = tb ∨ w.heap.size ≤ tb') (hk:fpr s' xb sb cb tb' k):fpr s xb sb cb tb k ∨ w.heap.size ≤ k:=by
 rcases hk with e | e | e
 ·exact (hg.own k e).imp .inl id
 ·exact .inl (.inr (.inl e))
 ·rcases ht with ht | ht
  ·exact .inl (.inr (.inr (e.trans ht)))
  ·right
   rw [e]
   exact ht
theorem wrap_i64 (x:Int):i64r (IntKind.i64.wrap x):=by
 unfold i64r IntKind.wrap
 simp [IntKind.bits,IntKind.signed]
 omega
end Go.Proofs.YtncigfibncmioaaGreatDoor

/-
  PROVED HERE: that the statement Whole answers true, for whatever script, crash and falls.
-/
namespace Go.Proofs.YtncigfibncmioaaGreatDoor
set_option maxHeartbeats 4000000
set_option maxRecDepth 100000
open Go.RowKit
theorem whole_any (w:World) (oa:Option Addr) (cc:Nat) (l:List StepV) (paths:Int) (kv:Value) (ks:List Int) (ob:Option Addr) (cd:Nat) (fl:List FallV) (hg:Gl w) (hl:StepsAt w.heap.size w oa l) (hka:KAt (fun k=>w.heap.size ≤ k) w kv ks) (hfl:FallsAt w.heap.size w ob fl) (hn:l.length + fl.length ≤ 262144) :
  Calls Tryz.prog 5 #[.slice oa l.length cc,.int .i64 paths,kv,.slice ob fl.length cd] w fun e w'=>e = .returned (.bool true) ∧ Below w.heap.size w w':=by
 have HBG:=hide (begun_sa w hg)
 have HL:=hide hl
 have HK:=hide hka
 have HFL:=hide hfl
 obtain ⟨N,hN⟩ : ∃ N,N = w.heap.size:=⟨_,rfl⟩
 rw [← hN] at HBG HL HK HFL ⊢
 have HN:=hide hN
 obtain ⟨q,hq⟩ : ∃ q,q = l.length:=⟨_,rfl⟩
 rw [← hq] at hn ⊢
 have HQ:=hide hq
 clear hg hl hka hfl hN hq
 go_enter Tryz.func5,Tryz.ntmps5
 go_wp2_with fail
 refine (HBG.out).mono ?_
 rintro _ w1 ⟨d,x1,b1,c1,s1,t1,l1,rfl,hb1,hs1,hf1⟩
 dsimp only
 have hN1:N ≤ w1.heap.size:=by have:=hb1.size;have:=HN.out;omega
 have HB1:=hide hb1
 have HS1:=hide hs1
 have HF1:=hide hf1
 clear hb1 hs1 hf1 HBG
 go_wp2_with fail
 go_loopw [10,11] (fun sv iv wr=>∃ (j xb:Nat),j ≤ q ∧ iv = .int .i64 ((j:Nat):Int) ∧ sv = .pointer (some ⟨xb,0,none⟩) ∧ Below N w wr ∧ N ≤ wr.heap.size ∧ ∃ sb cb s tb cl A,SA wr d xb sb cb s tb cl A 1099511627776 (j + 3) (100 + j * 262300) ∧ ∀ k,fpr s xb sb cb tb k → N ≤ k) (fun _ iv _=>q - (intOf iv).toNat)
 case atStart=>exact ⟨0,x1,Nat.zero_le _,rfl,rfl,HB1.out,hN1,b1,c1,s1,t1,l1,A1,HS1.out.mono (Nat.le_refl _) (by decide),HF1.out⟩
 case round =>
  obtain ⟨j,xb,hj,rfl,rfl,hb,hNr,sb,cb,s,tb,cl,A,h1,hf1⟩:=hrel
  have HB:=hide hb
  have H1:=hide h1
  have HF:=hide hf1
  clear h1 hf1 hb
  by_cases hlt:j < q
  ·have hjl:j < l.length:=by rw [← HQ.out];exact hlt
   obtain ⟨b,o,rfl,hbN,hrg,hok⟩:=(HL.out.low HB.out.block) j hjl
   generalize l.getD j step0 = t at hrg hok
   obtain ⟨K,M,B⟩:=t
   obtain ⟨okK,okM,okB⟩:=hok
   have HD1:=hide (does_any H1.out (by omega) (by omega) K M B okK okM okB)
   generalize (dsPl A K M B).run 1099511627776 A = X at HD1
   obtain ⟨X1,X2,X3⟩:=X
   dsimp only at HD1
   have hi31:(Tryz.prog.info? 31).map (·.size) = some ([.int .i64 K,.int .i64 M,.int .i64 B]:List Value).length:=by show _ = some 3;kernel_rfl
   have HR0:=hide (show wr.rangeAt b (o + j * 3) [.int .i64 K,.int .i64 M,.int .i64 B] from hrg)
   have d9:decide (((j:Nat):Int) < ((q:Nat):Int)) = true:=decide_eq_true (by omega)
   clear hrg hjl
   go_wp2_with (refine wpList_load_mid rfl 31 _ rfl b (o + j * 3) rfl [.int .i64 K,.int .i64 M,.int .i64 B] _ HR0.out Tryz.underlying31 rfl hi31 ?_)
   refine (HD1.out).mono ?_
   rintro _ w3 ⟨rfl,s3,t3,l3,hg3,ht3,h3⟩
   dsimp only
   have hf3:∀ k,fpr s3 xb sb cb t3 k → N ≤ k:=fun k hk=>by
    rcases fpr_next hg3 ht3 hk with hk | hk
    ·exact HF.out k hk
    ·omega
   have hb3:Below N wr w3:=hg3.lowN (fun k hk=>HF.out k (hk.elim .inl (fun e=>.inr (.inl e)))) hNr
   have hN3:N ≤ w3.heap.size:=Nat.le_trans hNr hb3.size
   have HSH:=hide (saShown h3 (by omega))
   generalize hSH:shA X3 = SH at HSH
   have HB3:=hide (HB.out.trans hb3)
   have HF3:=hide hf3
   have HSHQ:=hide hSH
   clear hg3 ht3 h3 hf3 hb3 hSH HD1 HR0 H1 HF HB
   go_wp2_with fail
   refine (HSH.out).mono ?_
   rintro _ w4 ⟨rfl,hg4,h4⟩
   dsimp only
   have hb4:Below N w3 w4:=hg4.lowN (fun k hk=>HF3.out k (hk.elim .inl (fun e=>.inr (.inl e)))) hN3
   have hN4:N ≤ w4.heap.size:=Nat.le_trans hN3 hb4.size
   have HB4:=hide (HB3.out.trans hb4)
   have hown4:∀ k,s3.own k → N ≤ k:=fun k hk=>HF3.out k (.inl hk)
   have HCR:=hide (dqCrash h4.dq (by omega) paths kv ks ((KAt.low HK.out HB4.out).mono hown4))
   have HO4:=hide hown4
   clear hg4 h4 hb4 hown4 HSH HB3
   go_wp2_with fail
   refine (HCR.out).mono ?_
   rintro _ w5 ⟨rfl,s5,hg5,h5,hl5⟩
   dsimp only
   have hb5:Below N w4 w5:=hg5.low HO4.out hN4
   have hN5:N ≤ w5.heap.size:=Nat.le_trans hN4 hb5.size
   have HB5:=hide (HB4.out.trans hb5)
   have HRO:=hide (reopened_rest N s5 d ob cd fl w5 h5 hl5 (hg5.ownN HO4.out hN4) (HFL.out.low HB5.out.block) (by omega) (by omega) hN5)
   clear hg5 h5 hl5 hb5 HCR HB4 HO4
   go_wp2_with fail
   refine (HRO.out).mono ?_
   rintro _ w6 ⟨x6,c6,s6,rfl,hb6,h6,hl6,ho6,sb6,cb6,tb6,cl6,so6,K6,hs6,hNK,hlK,hfK⟩
   dsimp only
   have hN6:N ≤ w6.heap.size:=Nat.le_trans hN5 hb6.size
   have HB6:=hide (HB5.out.trans hb6)
   have HSH6:=hide (saShown hs6 (by omega))
   rw [HSHQ.out] at HSH6
   have H6:=hide h6
   have HS6:=hide hs6
   have HO6:=hide ho6
   have HL6:=hide hl6
   have HLK:=hide hlK
   have HFK:=hide hfK
   clear hb6 h6 hl6 ho6 hs6 hlK hfK HRO HB5 HSHQ
   go_wp2_with fail
   refine (HSH6.out).mono ?_
   rintro _ w7 ⟨rfl,hg7,h7⟩
   dsimp only
   have hd7:=H6.out.other HS6.out hg7 (fun k hk e=>by have:=HLK.out k hk;have:=HFK.out k e;omega)
   have hb7:Below N w6 w7:=hg7.lowN (fun k hk=>Nat.le_trans hNK (HFK.out k (hk.elim .inl (fun e=>.inr (.inl e))))) hN6
   have hN7:N ≤ w7.heap.size:=Nat.le_trans hN6 hb7.size
   have HB7:=hide (HB6.out.trans hb7)
   have HOP:=hide (dqOpen hd7 (by omega) (by omega))
   clear hg7 h7 hd7 hb7 HSH6 HB6 H6 HS6 HLK HFK
   go_wp2_with fail
   refine (HOP.out).mono ?_
   rintro _ w8 ⟨s8,x8,sb8,cb8,tb8,cl8,rfl,hg8, -,hs8,hnb⟩
   dsimp only
   have hb8:Below N w7 w8:=hg8.low HO6.out hN7
   have HS8:=hide (hs8 HL6.out)
   have HB8:=hide (HB7.out.trans hb8)
   have hN8:N ≤ w8.heap.size:=Nat.le_trans hN7 hb8.size
   have HF8:=hide (show ∀ k,fpr s8 x8 sb8 cb8 tb8 k → N ≤ k from fun k hk=>by
    rcases hk with e | e | e
    ·exact hg8.ownN HO6.out hN7 k e
    ·rcases e with e | e | e <;> omega
    ·omega)
   clear hg8 hs8 hb8 hnb HOP HB7 HO6
   go_wp2_with fail
   exact ⟨⟨j + 1,x8,by omega,by simp,rfl,HB8.out,hN8,sb8,cb8,s8,tb8,cl8,X3,HS8.out.mono (by omega) (by omega),HF8.out⟩,by simp only [intOf];omega⟩
  ·have d9:decide (((j:Nat):Int) < ((q:Nat):Int)) = false:=decide_eq_false (by omega)
   go_wp2_with fail
   go_ret
   exact ⟨rfl,HB.out⟩
end Go.Proofs.YtncigfibncmioaaGreatDoor
