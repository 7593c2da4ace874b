/-
  PROVED HERE: what shown of the statements answers, of a store at rest.
-/
import Derived.Test.YtncigfibncmioaaGreatDoorSaAsk
import Derived.Test.YtncigfibncmioaaGreatDoorSaCalls
import Derived.Test.YtncigfibncmioaaGreatDoorSoLoad
import Derived.Test.YtncigfibncmioaaGreatDoorErHeld
import Derived.Test.YtncigfibncmioaaGreatDoorSmTag
import Derived.Test.YtncigfibncmioaaGreatDoorSoEntry
namespace Go.Proofs.YtncigfibncmioaaGreatDoor
set_option maxHeartbeats 4000000
set_option maxRecDepth 100000
open Go.RowKit
def shC (out b:ByteArray):ByteArray:=out++hxB b++⟨#[32]⟩++⟨(Lib.itoa (b.size:Int)).toArray⟩++⟨#[32]⟩++⟨(Lib.itoa ((0:Nat):Int)).toArray⟩++⟨#[32]⟩++b++⟨#[59]⟩
def shT (out:ByteArray) (t:TE):ByteArray:=out++t.n++⟨#[32]⟩++dtx t.d++⟨#[32]⟩++⟨(Lib.itoa (t.z.toNat:Int)).toArray⟩++⟨#[59]⟩
def shA (A:Sto):ByteArray:=A.tg.foldl shT (A.cs.foldl shC ⟨#[]⟩)
theorem shC_size (out b:ByteArray) (hb:b.size≤300):(shC out b).size≤out.size+500:=by
 unfold shC
 simp only [ba_size]
 have h1:=itoa_lenB b.size (by omega)
 have h0:=itoa_lenB 0 (by omega)
 have h2:(⟨(Lib.itoa (b.size:Int)).toArray⟩ : ByteArray).size=(Lib.itoa (b.size:Int)).length:=bytes_size _
 have h5:(⟨(Lib.itoa ((0:Nat):Int)).toArray⟩ : ByteArray).size=(Lib.itoa ((0:Nat):Int)).length:=bytes_size _
 have h3:(⟨#[32]⟩ : ByteArray).size=1:=rfl
 have h4:(⟨#[59]⟩ : ByteArray).size=1:=rfl
 have h6:(hxB b).size=64:=dtx_size _
 omega
theorem shT_size (out:ByteArray) (t:TE) (ht:t.Ok):(shT out t).size≤out.size+500:=by
 unfold shT
 simp only [ba_size]
 have hz:t.z.toNat≤1000000:=by have:=ht.z1;omega
 have h1:=itoa_lenB t.z.toNat hz
 have h2:(⟨(Lib.itoa (t.z.toNat:Int)).toArray⟩ : ByteArray).size=(Lib.itoa (t.z.toNat:Int)).length:=bytes_size _
 have h3:(⟨#[32]⟩ : ByteArray).size=1:=rfl
 have h4:(⟨#[59]⟩ : ByteArray).size=1:=rfl
 have h6:(dtx t.d).size=64:=dtx_size _
 have:=ht.n
 omega
theorem fold_take {α β:Type} (f:β→α→β) (b:β) (l:List α) {i:Nat} (hi:i<l.length):(l.take (i+1)).foldl f b=f ((l.take i).foldl f b) (l[i]'hi):=by
 rw [List.take_add_one,List.getElem?_eq_getElem hi,List.foldl_append]
 rfl
section
variable {w:World} {db xb sb cb:Nat} {s:PSt} {tb:Nat} {cl:List (List Nat)} {A:Sto} {r:Int} {n cu:Nat}
theorem saShown (h:SA w db xb sb cb s tb cl A r n cu) (hn:n≤300000) :
  Calls Tryz.prog 13 #[.pointer (some ⟨xb,0,none⟩)] w fun e w'=>e = .returned (.tuple #[.string (shA A),.bool true])∧SGo (sS xb sb cb) s s w w'∧SA w' db xb sb cb s tb cl A r n cu:=by
 have HBL:=hide (saBlobs h hn)
 have HTG:=hide (fun (W:World) (hW:SA W db xb sb cb s tb cl A r n cu)=>saTags hW)
 have HKEEP:=hide (show ∀ (wa wb:World),SGo (sS xb sb cb) s s wa wb→∀ (B:Nat) (e:TypeId) (k:Nat) (v:Value) (m:Nat) (xs:List Value),w.heap.size≤B→wa.ownsRow B e k v m xs→wb.ownsRow B e k v m xs from fun wa wb hg B e k v m xs hB ho=>own_same ho (fun x hx hlt=>hg.gr.block x hlt (fun e2=>by
  have h1:=own_ge ho x hx
  have h2:=h.lt x (e2.elim .inl (fun e2=>.inr (.inl e2)))
  omega)))
 have HGD:=hide h.good
 have hlen:A.cs.length≤300000:=Nat.le_trans h.len hn
 have ht8:=h.good.t8
 have HGET:=hide (show ∀ (W:World) (i:Nat) (hi:i<A.cs.length),SA W db xb sb cb s tb cl A r n cu→Calls Tryz.prog 34 #[.pointer (some ⟨xb,0,none⟩),.string (hxB (A.cs[i]'hi))] W fun e w'=>e = .returned (.tuple #[.string (A.cs[i]'hi),.int .i64 0])∧SGo (sS xb sb cb) s s W w'∧SA w' db xb sb cb s tb cl A r n cu from fun W i hi hW=>saGet hW (findK_mem hW.good.rise (List.getElem_mem hi)))
 obtain ⟨R,hR⟩ : ∃ R,R=shA A:=⟨_,rfl⟩
 rw [← hR]
 have HR:=hide hR
 obtain ⟨m,hm⟩ : ∃ m,m=A.cs.length:=⟨_,rfl⟩
 obtain ⟨q,hq⟩ : ∃ q,q=A.tg.length:=⟨_,rfl⟩
 rw [← hm] at hlen
 rw [← hq] at ht8
 have HM:=hide hm
 have HQ:=hide hq
 clear h hR hm hq
 go_enter Tryz.func13,Tryz.ntmps13
 go_wp2_with fail
 refine (HBL.out).mono ?_
 rintro _ w1 ⟨v1,rfl,hrow1,hg1,hs1⟩
 dsimp only
 have HT1:=hide (HTG.out w1 hs1)
 have HG1:=hide hg1
 have HROW1:=hide hrow1
 clear hrow1 hg1 hs1 HBL HTG
 go_wp2_with fail
 refine (HT1.out).mono ?_
 rintro _ w2 ⟨v2,rfl,hrow2,hg2,hs2⟩
 dsimp only
 have hrow1:=HKEEP.out w1 w2 hg2 _ _ _ _ _ _ (Nat.le_refl _) HROW1.out
 rw [← HM.out] at hrow1
 rw [← HQ.out] at hrow2
 obtain ⟨o1,k1,rfl⟩:=own_sl hrow1
 obtain ⟨o2,k2,rfl⟩:=own_sl hrow2
 have hrow2:=hrow2.mono_base (HG1.out.gr.size:w.heap.size≤w1.heap.size)
 have HR1:=hide hrow1
 have HR2:=hide hrow2
 have HG2:=hide (HG1.out.trans hg2)
 have HS2:=hide hs2
 clear hrow1 hrow2 hg2 hs2 HT1 HROW1 HG1
 go_wp2_with fail
 go_loopw [8,9] (fun ov iv wr=>∃ (j:Nat),j≤m∧iv = .int .i64 ((j:Nat):Int)∧ov = .string ((A.cs.take j).foldl shC ⟨#[]⟩)∧((A.cs.take j).foldl shC ⟨#[]⟩).size≤j * 500∧SGo (sS xb sb cb) s s w wr∧SA wr db xb sb cb s tb cl A r n cu∧wr.ownsRow w.heap.size 73 2 (.slice o1 m k1) m (A.cs.flatMap bC)∧wr.ownsRow w.heap.size 83 3 (.slice o2 q k2) q (A.tg.flatMap tC)) (fun _ iv _=>m - (intOf iv).toNat)
 case atStart=>exact ⟨0,Nat.zero_le _,rfl,rfl,Nat.le_refl _,HG2.out,HS2.out,HR1.out,HR2.out⟩
 case round =>
  obtain ⟨j,hj,rfl,rfl,hsz,hgo,hsa,hrw1,hrw2⟩:=hrel
  have HGO:=hide hgo
  have HSA:=hide hsa
  have HW1:=hide hrw1
  have HW2:=hide hrw2
  clear hgo hsa
  by_cases hlt:j<m
  ·have hjl:j<A.cs.length:=by rw [← HM.out];exact hlt
   obtain ⟨g1,c1,e1,hc⟩:=row_flat (enc:=bC) (k:=2) (fun x=>rfl) hrw1 HM.out hjl
   injection e1 with e1 _ ec
   subst e1
   subst ec
   have r0:=hc 0 _ rfl
   have r1:=hc 1 _ rfl
   rw [Nat.add_zero] at r0
   have HRF:=hide (show ∀ W:World,W.ownsRow w.heap.size 73 2 (.slice (some ⟨g1,0,none⟩) m k1) m (A.cs.flatMap bC)→W.cell? ⟨g1,j * 2,none⟩=some (.string (hxB (A.cs[j]'hjl)))∧W.cell? ⟨g1,j * 2+1,none⟩=some (.int .i64 ((A.cs[j]'hjl).size:Int)) from fun W hW=>by
    obtain ⟨g3,c3,e3,hc3⟩:=row_flat (enc:=bC) (k:=2) (fun x=>rfl) hW HM.out hjl
    injection e3 with e3 _ _
    injection e3 with e3
    injection e3 with e3
    subst e3
    exact ⟨hc3 0 _ rfl,hc3 1 _ rfl⟩)
   have HGT:=hide (HGET.out wr j hjl HSA.out)
   have hnx:=fold_take shC ⟨#[]⟩ A.cs hjl
   have hb3:=HGD.out.sz _ (List.getElem_mem hjl)
   have hone:=shC_size ((A.cs.take j).foldl shC ⟨#[]⟩) (A.cs[j]'hjl) hb3
   have hsx:(hxB (A.cs[j]'hjl)).size≤64:=Nat.le_of_eq (dtx_size _)
   generalize (A.cs.take j).foldl shC ⟨#[]⟩=O at *
   generalize A.cs[j]'hjl=b at *
   have hnx2:(A.cs.take (j+1)).foldl shC ⟨#[]⟩=O++hxB b++⟨#[32]⟩++⟨(Lib.itoa (b.size:Int)).toArray⟩++⟨#[32]⟩++⟨(Lib.itoa ((0:Nat):Int)).toArray⟩++⟨#[32]⟩++b++⟨#[59]⟩:=hnx
   have HNX:=hide hnx2
   clear hnx hnx2
   generalize hxB b=H at *
   have d1:decide (((j:Nat):Int)<((m:Nat):Int))=true:=decide_eq_true (by omega)
   clear hrw1 hrw2 hc hjl hone
   go_wp2_with fail
   refine (HGT.out).mono ?_
   rintro _ w3 ⟨rfl,hg3,hs3⟩
   dsimp only
   have hrw3:=HKEEP.out wr w3 hg3 _ _ _ _ _ _ (Nat.le_refl _) HW1.out
   have hrw4:=HKEEP.out wr w3 hg3 _ _ _ _ _ _ (Nat.le_refl _) HW2.out
   obtain ⟨r30,r31⟩:=HRF.out _ hrw3
   obtain ⟨z,hz⟩ : ∃ z,z=b.size:=⟨_,rfl⟩
   have HDC:Hid (∀ W,Calls Tryz.prog 41 #[.int .i64 ((z:Nat):Int)] W fun e w'=>e = .returned (.string ⟨(Lib.itoa (b.size:Int)).toArray⟩)∧Below W.heap.size W w'):=hide (fun W=>by rw [hz];exact decimalB_any b.size (by omega) W)
   have HDZ:Hid (∀ W,Calls Tryz.prog 41 #[.int .i64 0] W fun e w'=>e = .returned (.string ⟨(Lib.itoa ((0:Nat):Int)).toArray⟩)∧Below W.heap.size W w'):=hide (fun W=>decimalB_any 0 (by omega) W)
   rw [← hz] at r31
   clear hz
   have t1:(⟨(Lib.itoa (b.size:Int)).toArray⟩ : ByteArray).size≤21:=by rw [bytes_size];exact itoa_lenB _ (by omega)
   have t0:(⟨(Lib.itoa ((0:Nat):Int)).toArray⟩ : ByteArray).size≤21:=by rw [bytes_size];exact itoa_lenB _ (by omega)
   generalize (⟨(Lib.itoa (b.size:Int)).toArray⟩ : ByteArray)=Tx at *
   generalize (⟨(Lib.itoa ((0:Nat):Int)).toArray⟩ : ByteArray)=Tz at *
   have q1:¬ 9223372036854775807<O.size+H.size:=by omega
   have q2:¬ 9223372036854775807<O.size+H.size+1:=by omega
   have q3:¬ 9223372036854775807<O.size+H.size+1+Tx.size:=by omega
   have q4:¬ 9223372036854775807<O.size+H.size+1+Tx.size+1:=by omega
   have q5:¬ 9223372036854775807<O.size+H.size+1+Tx.size+1+Tz.size:=by omega
   have q6:¬ 9223372036854775807<O.size+H.size+1+Tx.size+1+Tz.size+1:=by omega
   have q7:¬ 9223372036854775807<O.size+H.size+1+Tx.size+1+Tz.size+1+b.size:=by omega
   have q8:¬ 9223372036854775807<O.size+H.size+1+Tx.size+1+Tz.size+1+b.size+1:=by omega
   have HGO3:=hide (HGO.out.trans hg3)
   have HSA3:=hide hs3
   have HW3:=hide hrw3
   have HW4:=hide hrw4
   have hdr:Below w3.heap.size w3 w3.drew:=(Below.refl _ _).drew
   have hS0:w3.drew.cell? ⟨g1,j * 2,none⟩=some (.string H)∧w3.drew.cell? ⟨g1,j * 2+1,none⟩=some (.int .i64 ((z:Nat):Int)):=⟨cell_later hdr r30,cell_later hdr r31⟩
   have HC0:=hide r30
   have HC1:=hide r31
   clear hg3 hs3 hrw3 hrw4 r30 r31 r0 r1 HRF HGT
   go_wp2_with fail
   go_region_held3 (fun w'=>w'.cell? ⟨g1,j * 2,none⟩=some (.string H)∧w'.cell? ⟨g1,j * 2+1,none⟩=some (.int .i64 ((z:Nat):Int))) (first | exact hS0 | exact hS4 | exact hS5 | go_keep) ((first
    | (go_at_call 41;(with_reducible refine (HDZ.out _).mono ?_);rintro _ w5 ⟨rfl,hb6⟩;have hb7:Below w3.heap.size w3 w5:=hb5.trans (hb6.mono hb5.size);have hS5:w5.cell? ⟨g1,j * 2,none⟩=some (.string H)∧w5.cell? ⟨g1,j * 2+1,none⟩=some (.int .i64 ((z:Nat):Int)):=⟨cell_later hb7 HC0.out,cell_later hb7 HC1.out⟩)
    | (go_at_call 41;(with_reducible refine (HDC.out _).mono ?_);rintro _ w4 ⟨rfl,hb4⟩;have hb5:Below w3.heap.size w3 w4:=hdr.trans hb4;have hS4:w4.cell? ⟨g1,j * 2,none⟩=some (.string H)∧w4.cell? ⟨g1,j * 2+1,none⟩=some (.int .i64 ((z:Nat):Int)):=⟨cell_later hb5 HC0.out,cell_later hb5 HC1.out⟩)))
   have HB7:=hide hb7
   clear hb4 hb5 hb6 hb7 hS0 hS4 hS5 hdr HDC HDZ HC0 HC1
   go_wp2_with fail
   refine ⟨⟨j+1,by omega,by simp,by rw [HNX.out],?_,HGO3.out.trans (SGo.of_below HB7.out),HSA3.out.later HB7.out,ownsRow_later HW3.out HB7.out,ownsRow_later HW4.out HB7.out⟩,by simp only [intOf];omega⟩
   rw [HNX.out]
   simp only [ba_size]
   have h3:(⟨#[32]⟩ : ByteArray).size=1:=rfl
   have h4:(⟨#[59]⟩ : ByteArray).size=1:=rfl
   omega
  ·have d1:decide (((j:Nat):Int)<((m:Nat):Int))=false:=decide_eq_false (by omega)
   have hjn:j=m:=by omega
   subst hjn
   have ht:A.cs.take j=A.cs:=List.take_of_length_le (by rw [← HM.out];exact Nat.le_refl _)
   rw [ht] at hsz ⊢
   clear hrw1 hrw2 ht
   have HB0:=hide (show R=A.tg.foldl shT (A.cs.foldl shC ⟨#[]⟩) from HR.out)
   generalize A.cs.foldl shC ⟨#[]⟩=O at hsz HB0 ⊢
   go_wp2_with fail
   go_loopw [8,12] (fun ov iv wr=>∃ (i:Nat),i≤q∧iv = .int .i64 ((i:Nat):Int)∧ov = .string ((A.tg.take i).foldl shT O)∧((A.tg.take i).foldl shT O).size≤j * 500+i * 500∧SGo (sS xb sb cb) s s w wr∧SA wr db xb sb cb s tb cl A r n cu∧wr.ownsRow w.heap.size 83 3 (.slice o2 q k2) q (A.tg.flatMap tC)) (fun _ iv _=>q - (intOf iv).toNat)
   case atStart=>exact ⟨0,Nat.zero_le _,rfl,rfl,by simpa using hsz,HGO.out,HSA.out,HW2.out⟩
   case round =>
    obtain ⟨i,hi,rfl,rfl,hsz2,hgo,hsa,hrw2⟩:=hrel
    have HGO2:=hide hgo
    have HSA2:=hide hsa
    have HW5:=hide hrw2
    clear hgo hsa
    by_cases hli:i<q
    ·have hil:i<A.tg.length:=by rw [← HQ.out];exact hli
     obtain ⟨g2,c2,e2,hc⟩:=row_flat (enc:=tC) (k:=3) (fun x=>rfl) hrw2 HQ.out hil
     injection e2 with e2 _ ec
     subst e2
     subst ec
     have r0:=hc 0 _ rfl
     have r1:=hc 1 _ rfl
     have r2:=hc 2 _ rfl
     rw [Nat.add_zero] at r0
     have hnx:=fold_take shT O A.tg hil
     have htk:=HGD.out.tok _ (List.getElem_mem hil)
     have hone:=shT_size ((A.tg.take i).foldl shT O) (A.tg[i]'hil) htk
     generalize A.tg[i]'hil=t at *
     generalize (A.tg.take i).foldl shT O=P at *
     have hnx2:(A.tg.take (i+1)).foldl shT O=P++t.n++⟨#[32]⟩++dtx t.d++⟨#[32]⟩++⟨(Lib.itoa (t.z.toNat:Int)).toArray⟩++⟨#[59]⟩:=hnx
     have HNX:=hide hnx2
     clear hnx hnx2
     obtain ⟨z,hz⟩ : ∃ z:Nat,t.z=(z:Int):=⟨t.z.toNat,by have:=htk.z0;omega⟩
     have hz3:z≤1000000:=by have:=htk.z1;omega
     rw [hz] at r2
     have hzn:t.z.toNat=z:=by omega
     rw [hzn] at HNX
     have HDC:=hide (fun W=>decimalB_any z hz3 W)
     have t1:(⟨(Lib.itoa (z:Int)).toArray⟩ : ByteArray).size≤21:=by rw [bytes_size];exact itoa_lenB _ hz3
     generalize (⟨(Lib.itoa (z:Int)).toArray⟩ : ByteArray)=Tx at *
     have hn1:=htk.n
     have hd1:(dtx t.d).size≤64:=Nat.le_of_eq (dtx_size _)
     generalize dtx t.d=D at *
     generalize t.n=M at *
     have q1:¬ 9223372036854775807<P.size+M.size:=by omega
     have q2:¬ 9223372036854775807<P.size+M.size+1:=by omega
     have q3:¬ 9223372036854775807<P.size+M.size+1+D.size:=by omega
     have q4:¬ 9223372036854775807<P.size+M.size+1+D.size+1:=by omega
     have q5:¬ 9223372036854775807<P.size+M.size+1+D.size+1+Tx.size:=by omega
     have q6:¬ 9223372036854775807<P.size+M.size+1+D.size+1+Tx.size+1:=by omega
     have d2:decide (((i:Nat):Int)<((q:Nat):Int))=true:=decide_eq_true (by omega)
     have hdr:Below wr.heap.size wr wr.drew:=(Below.refl _ _).drew
     have hS0:wr.drew.cell? ⟨g2,i * 3,none⟩=some (.string M)∧wr.drew.cell? ⟨g2,i * 3+1,none⟩=some (.string D)∧wr.drew.cell? ⟨g2,i * 3+2,none⟩=some (.int .i64 ((z:Nat):Int)):=⟨cell_later hdr r0,cell_later hdr r1,cell_later hdr r2⟩
     have HC:=hide (And.intro r0 (And.intro r1 r2))
     clear hrw2 hc hil hone htk hz hzn r0 r1 r2
     go_wp2_with fail
     go_region_held3 (fun w'=>w'.cell? ⟨g2,i * 3,none⟩=some (.string M)∧w'.cell? ⟨g2,i * 3+1,none⟩=some (.string D)∧w'.cell? ⟨g2,i * 3+2,none⟩=some (.int .i64 ((z:Nat):Int))) (first | exact hS0 | exact hS4 | go_keep) ((go_at_call 41;refine (HDC.out _).mono ?_;rintro _ w4 ⟨rfl,hb4⟩;have hb5:Below wr.heap.size wr w4:=hdr.trans hb4;have hS4:w4.cell? ⟨g2,i * 3,none⟩=some (.string M)∧w4.cell? ⟨g2,i * 3+1,none⟩=some (.string D)∧w4.cell? ⟨g2,i * 3+2,none⟩=some (.int .i64 ((z:Nat):Int)):=⟨cell_later hb5 HC.out.1,cell_later hb5 HC.out.2.1,cell_later hb5 HC.out.2.2⟩))
     have HB5:=hide hb5
     clear hb4 hb5 hS0 hS4 hdr HDC HC
     go_wp2_with fail
     refine ⟨⟨i+1,by omega,by simp,by rw [HNX.out],?_,HGO2.out.trans (SGo.of_below HB5.out),HSA2.out.later HB5.out,ownsRow_later HW5.out HB5.out⟩,by simp only [intOf];omega⟩
     rw [HNX.out]
     simp only [ba_size]
     have h3:(⟨#[32]⟩ : ByteArray).size=1:=rfl
     have h4:(⟨#[59]⟩ : ByteArray).size=1:=rfl
     omega
    ·have d2:decide (((i:Nat):Int)<((q:Nat):Int))=false:=decide_eq_false (by omega)
     have hiq:i=q:=by omega
     subst hiq
     have ht2:A.tg.take i=A.tg:=List.take_of_length_le (by rw [← HQ.out];exact Nat.le_refl _)
     rw [ht2,← HB0.out] at hsz2 ⊢
     clear hrw2 ht2
     go_wp2_with fail
     refine bodyPost_ret (results_tmp2 rfl _ _ _) rfl ?_
     exact ⟨rfl,HGO2.out,HSA2.out⟩
end
end Go.Proofs.YtncigfibncmioaaGreatDoor

/-
  PROVED HERE: what begun of the statements answers: a store at rest, with one content.
-/
namespace Go.Proofs.YtncigfibncmioaaGreatDoor
set_option maxHeartbeats 4000000
set_option maxRecDepth 100000
open Go.RowKit
def A0:Sto:=⟨[],[]⟩
def abcB:ByteArray:=⟨#[97,98,99]⟩
def latestB:ByteArray:=⟨#[108,97,116,101,115,116]⟩
def A1:Sto:=⟨[abcB],[⟨latestB,dOfB abcB,3⟩]⟩
theorem good0:GoodA A0:=⟨List.Pairwise.nil,fun b hb=>(by cases hb),List.Pairwise.nil,fun t ht=>(by cases ht),Nat.zero_le _,fun t ht=>(by cases ht),fun t ht=>(by cases ht)⟩
theorem szA0:szA A0=36:=by rw [szA_eq];rfl
theorem rest3_rst {D:DS} {r:Int} {L C:Nat} (h:Rest3 D) (hl:D.R.left = -1) (hr:D.R.room=r) (hf:DFit D L C 36):Rst D (fA A0) r 2000:=by
 obtain ⟨⟨y,x,z,hn,fx,fy,fz⟩,h2,h3⟩:=h
 have hsz:((idxX []).size:Int)=23:=rfl
 have hvw:vwL D=fA A0:=by
  unfold vwL
  rw [hn]
  show [vwE D.fd ⟨indexP,y⟩,vwE D.fd ⟨journalP,x⟩,vwE D.fd ⟨layoutP,z⟩] = [ff indexP (idxX []),ff journalP ⟨#[]⟩,ff layoutP layoutT]
  unfold vwE
  dsimp only
  rw [fx,fy,fz]
  rfl
 have n1:emptyT≠⟨#[]⟩:=by decide
 have n2:emptyT≠layoutT:=by decide
 have n3:layoutT≠⟨#[]⟩:=by decide
 have nyx:y≠x:=fun e=>n1 (by have:=fy;rw [e,fx] at this;injection this with this;exact this.symm)
 have nyz:y≠z:=fun e=>n2 (by have:=fy;rw [e,fz] at this;injection this with this;exact this.symm)
 have nxz:x≠z:=fun e=>n3 (by have:=fx;rw [e,fz] at this;injection this)
 refine ⟨⟨hvw,hl,hr,fun e he e' he' hb=>?_,hf.inow,hf.isafe,hf.ichg,hf.inv,hf.rise,fun f hf2=>(hf.dat f hf2).mono (by decide),hf.chf⟩,h2,h3,fun f hm=>?_⟩
 ·rw [hn] at he he'
  simp only [List.mem_cons,List.not_mem_nil,or_false] at he he'
  rcases he with rfl | rfl | rfl <;> rcases he' with rfl | rfl | rfl <;> first | rfl | exact absurd hb nyx | exact absurd hb.symm nyx | exact absurd hb nyz | exact absurd hb.symm nyz | exact absurd hb nxz | exact absurd hb.symm nxz
 ·rcases tail_mem (show f∈tailF [] from hm) with rfl | rfl | rfl <;> rfl
theorem run_gen (D:List Nat) (X:ByteArray) (hD:DigOk D):Pl.run 1099511627776 A0 ⟨abcB.size+tgNeed [] [⟨latestB,D,3⟩],X,0,⟨[abcB],[⟨latestB,D,3⟩]⟩⟩=(X,0,⟨[abcB],[⟨latestB,D,3⟩]⟩):=by
 refine Pl.run_yes ?_
 rw [szA0]
 show ((36:Nat):Int)+((abcB.size+tgNeed [] [⟨latestB,D,3⟩]:Nat):Int)≤1099511627776
 have h4:(idxX [⟨latestB,D,3⟩]).size≤2000:=idxX_size (fun t ht=>by
  simp only [List.mem_singleton] at ht
  subst ht
  exact te_ok (by decide) hD.1 hD.2 (by decide) (by decide)) (by simp)
 have h5:tgNeed [] [⟨latestB,D,3⟩]≤2000:=by
  unfold tgNeed
  rw [if_neg (by simp)]
  exact h4
 have h6:abcB.size=3:=rfl
 omega
theorem ins_one (b:ByteArray):nbC A0.cs (some b) = [b]:=rfl
theorem con_none (b:ByteArray):conC A0 b=none:=rfl
theorem new_one (b:ByteArray):newC A0 b=some b:=by unfold newC;rw [con_none]
theorem tag_one (m b:ByteArray):tgNew A0 m b = [⟨m,dOfB b,(b.size:Int)⟩]:=by
 unfold tgNew
 rw [con_none]
 rfl
theorem run_first:(pubPl A0 latestB abcB).run 1099511627776 A0=(hxB abcB,0,A1):=by
 have hm:mayB A0 latestB=true:=rfl
 have hs:(abcB.size:Int)=3:=rfl
 unfold pubPl A1
 rw [if_pos hm,new_one,tag_one,ins_one,hs,show nbN (some abcB)=abcB.size from rfl,show A0.tg = [] from rfl]
 generalize hD:dOfB abcB=D
 have hok:DigOk D:=by rw [← hD];exact dOfB_ok abcB
 generalize hxB abcB=X
 exact run_gen D X hok
theorem bNew_sa (r:Int) (w:World) (hg:Gl w) (h0:0≤r) (h1:r≤9223372036854775807) :
  Calls Tryz.prog 24 #[.int .i64 r] w fun e w'=>∃ d so,e = .returned (.pointer (some ⟨d,0,none⟩))∧Below w.heap.size w w'∧w.heap.size≤d∧DkW w' d so∧(∀ k,so.own k→w.heap.size≤k)∧Er so.ds∧DFit so.ds 6 0 36∧so.R.left = -1∧so.R.room=r∧so.ds.R.now = []:=by
 refine (wNewDisk r (fun g w'=>∃ so:PSt,so.b=g∧Below w.heap.size w w'∧so.In w'∧(∀ k,so.own k→w.heap.size≤k)∧so.ds=⟨⟨r,[],[],[],0, -1⟩,[],so.fd⟩) w ((pnew_any r w).mono ?_)).mono ?_
 ·rintro e w' ⟨rfl,hb,hpd,hsz⟩
  rw [if_neg (by omega)] at hpd
  refine ⟨_,rfl,⟨w.heap.size+1+1,w.heap.size,w.heap.size+1,.slice none 0 0,⟨r,[],[],[],0, -1⟩,[],fun _=>(⟨#[]⟩,0),fun _=>.slice none 0 0⟩,rfl,hb,⟨hpd,fun f hf=>(by cases hf),fun f hf=>(by cases hf),fun e he=>(by cases he),fun e he=>(by cases he),fun c hc=>(by cases hc)⟩,fun k hk=>?_,rfl⟩
  rcases hk with e | e | e | e | e | ⟨f,hf,e⟩
  ·have e:k=w.heap.size+1+1:=e;omega
  ·have e:k=w.heap.size:=e;omega
  ·have e:k=w.heap.size+1:=e;omega
  ·cases e
  ·cases e
  ·cases hf
 ·rintro e w' ⟨g,w1,rfl,rfl,so,rfl,hb,hin,hown,hds⟩
  have hba:=hb.alloc hb.size (.cells #[.pointer (some ⟨so.b,0,none⟩)] 90)
  obtain ⟨e1,e2⟩:=new_er r h0 h1 so.fd
  rw [← hds] at e1 e2
  exact ⟨w1.heap.size,so,rfl,hba,hb.size,⟨hin.later ((Below.refl _ _).alloc (Nat.le_refl _) _),heap_alloc_new _ _,hg.later hba,fun k hk hG=>by have:=hown k hk;have:=hg.lt hG;omega⟩,hown,e1,e2,congrArg (fun D:DS=>D.R.left) hds,congrArg (fun D:DS=>D.R.room) hds,congrArg (fun D:DS=>D.R.now) hds⟩
theorem hx_abc:hxB abcB=abcT:=abc_known
theorem within_sa (w:World) (hg:Gl w) :
  Calls Tryz.prog 28 #[.int .i64 1099511627776] w fun e w'=>∃ d xb sb cb s tb cl,e = .returned (.tuple #[.pointer (some ⟨d,0,none⟩),.pointer (some ⟨xb,0,none⟩),.bool false])∧Below w.heap.size w w'∧SA w' d xb sb cb s tb cl A1 1099511627776 3 92∧∀ k,fpr s xb sb cb tb k→w.heap.size≤k:=by
 have HND:=hide (bNew_sa 1099511627776 w hg (by decide) (by decide))
 have HGL:=hide hg
 clear hg
 go_enter Tryz.func28,Tryz.ntmps28
 go_wp2_with fail
 refine (HND.out).mono ?_
 rintro _ w1 ⟨d,so,rfl,hb1,hld,hdk,hown,her,hfit,hleft,hroom,hnow⟩
 dsimp only
 have hnl:so.R.now.length≤6:=hfit.nowLen
 have HOP:=hide (bOpen_new so w1 d hdk.inn hdk.gl hdk.low hfit (show Bud _ _ _ from ⟨by omega,by omega,by omega⟩) her.paths (by unfold rdD;rw [hnow];rfl) hdk.bd)
 have HB1:=hide hb1
 have HDK:=hide hdk
 have HOW:=hide hown
 have HER:=hide her
 have HFI:=hide hfit
 have HLE:=hide hleft
 have HRR:=hide (show so.ds.R.room=1099511627776 from hroom)
 have hN2:w.heap.size≤w1.heap.size:=hb1.size
 clear hb1 hdk hown her hfit hleft hroom hnow hnl HND
 go_wp2_with fail
 refine (HOP.out).mono ?_
 rintro _ w2 ⟨k,s3,sv,rfl,hg3,hop3,hok,hno⟩
 dsimp only
 obtain ⟨rfl,kp3,ea3,r3⟩:=open_pure HER.out (by rw [HRR.out];decide) hop3
 have fit3:=open_fit HER.out (by rw [HRR.out];decide) HFI.out hop3
 obtain ⟨xb,sb,cb,tb,rfl,hbst,hlsb,hlxb,hst⟩:=hok rfl
 have hGx:¬ isG xb:=fun e=>by have:=HGL.out.lt e;omega
 have hroom3:s3.ds.R.room=1099511627776:=by rw [kp3.1,HRR.out]
 have hbd2:BD w2 d s3.b:=(HDK.out.go hg3).bd
 have hsa:SA w2 d xb sb cb s3 tb [] A0 1099511627776 2 70:=⟨hbst,hGx,hst,hbd2,fun d hd=>(by cases hd),fun d=>⟨fun h=>(by cases h),fun ⟨b,hb,_⟩=>(by cases hb)⟩,Nat.zero_le _,rest3_rst (r3 HLE.out) (kp3.2 HLE.out) hroom3 fit3,fit3.c0,by have:=fit3.c1;omega,good0,by rw [szA0];decide,by decide,by decide⟩
 have HB2:=hide (HB1.out.trans (hg3.low (N:=w.heap.size) HOW.out hN2))
 have hfp:∀ k,s3.own k∨sS xb sb cb k→w.heap.size≤k:=fun k hk=>by
  rcases hk with e | e | e | e
  ·exact hg3.ownN HOW.out hN2 k e
  ·omega
  ·omega
  ·omega
 have HFP:=hide hfp
 have HPB:=hide (saPub hsa (by decide) (by decide) latestB abcB (by decide) (by decide +kernel) (by decide))
 have hN3:w.heap.size≤w2.heap.size:=Nat.le_trans hN2 hg3.gr.size
 rw [run_first] at HPB
 have hltb:w.heap.size≤tb:=by omega
 unfold latestB at HPB
 have habc:abcB=⟨#[97,98,99]⟩:=rfl
 clear hop3 kp3 ea3 r3 fit3 hok hno hst hbst hg3 HOP hroom3 hfp hbd2 hsa
 have HPB2:Hid (Calls Tryz.prog 25 #[.pointer (some ⟨xb,0,none⟩),.string ⟨#[108,97,116,101,115,116]⟩,.string ⟨#[97,98,99]⟩] w2 fun e w'=>e = .returned (.tuple #[.string abcT,.int .i64 0])∧SaN w2 w' d xb sb cb s3 tb A1 1099511627776 3 92):=hide (by rw [← hx_abc];exact HPB.out)
 clear HPB habc
 go_wp2_with fail
 refine (HPB2.out).mono ?_
 rintro _ w4 ⟨rfl,s4,tb4,cl4,hg4,ht4,hs4⟩
 dsimp only
 have HB4:=hide (HB2.out.trans (hg4.lowN HFP.out hN3))
 have HF4:=hide (show ∀ k,fpr s4 xb sb cb tb4 k→w.heap.size≤k from fun k hk=>by
  rcases hk with e | e | e
  ·rcases hg4.own k e with e | e
   ·exact HFP.out k (.inl e)
   ·omega
  ·exact HFP.out k (.inr e)
  ·rcases ht4 with ht4 | ht4 <;> omega)
 have HGT:=hide (saGet hs4 (b:=abcB) (c:=abcB) (findK_mem hs4.good.rise (by simp [A1])))
 rw [hx_abc] at HGT
 have HGT2:Hid (Calls Tryz.prog 34 #[.pointer (some ⟨xb,0,none⟩),.string abcT] w4 fun e w'=>e = .returned (.tuple #[.string ⟨#[97,98,99]⟩,.int .i64 0])∧SGo (sS xb sb cb) s4 s4 w4 w'∧SA w' d xb sb cb s4 tb4 cl4 A1 1099511627776 3 92):=HGT
 have hN4:w.heap.size≤w4.heap.size:=Nat.le_trans hN3 hg4.gr.size
 have hfr:=HF4.out
 clear hg4 ht4 hs4 HPB2 HGT hfr
 unfold abcT at HGT2 ⊢
 go_wp2_with fail
 refine (HGT2.out).mono ?_
 rintro _ w5 ⟨rfl,hg5,hs5⟩
 dsimp only
 have HTG:=hide (saTags hs5)
 have HB5:=hide (HB4.out.trans (hg5.lowN (fun k hk=>HF4.out k (hk.elim .inl (fun e=>.inr (.inl e)))) hN4))
 have hN5:w.heap.size≤w5.heap.size:=Nat.le_trans hN4 hg5.gr.size
 clear hg5 hs5 HGT2 HB4
 go_wp2_with fail
 refine (HTG.out).mono ?_
 rintro _ w6 ⟨v6,rfl,hrow6,hg6,hs6⟩
 dsimp only
 have hcl:A1.tg.flatMap tC = [.string ⟨#[108,97,116,101,115,116]⟩,.string abcT,.int .i64 3]:=by
  have h1:dtx (dOfB abcB)=abcT:=abc_known
  show [Value.string latestB,.string (dtx (dOfB abcB)),.int .i64 3] ++ []=_
  rw [h1]
  rfl
 rw [hcl] at hrow6
 obtain ⟨g,c,rfl, -,r0,r1,r2⟩:=own_three hrow6
 have HB6:=hide (HB5.out.trans (hg6.lowN (fun k hk=>HF4.out k (hk.elim .inl (fun e=>.inr (.inl e)))) hN5))
 have HS6:=hide hs6
 unfold abcT at r1
 clear hg6 hs6 hrow6 hcl HTG HB5
 go_wp2_with fail
 refine bodyPost_ret (results_tmp3 rfl _ _ _) rfl ?_
 exact ⟨d,xb,rfl,HB6.out,sb,cb,s4,tb4,⟨cl4,HS6.out⟩,HF4.out⟩
theorem begun_sa (w:World) (hg:Gl w) :
  Calls Tryz.prog 10 #[] w fun e w'=>∃ d xb sb cb s tb cl,e = .returned (.tuple #[.pointer (some ⟨d,0,none⟩),.pointer (some ⟨xb,0,none⟩)])∧Below w.heap.size w w'∧SA w' d xb sb cb s tb cl A1 1099511627776 3 92∧∀ k,fpr s xb sb cb tb k→w.heap.size≤k:=by
 have HW:=hide (within_sa w hg)
 clear hg
 go_enter Tryz.func10,Tryz.ntmps10
 go_wp2_with fail
 refine (HW.out).mono ?_
 rintro _ w1 ⟨d,xb,sb,cb,s,tb,cl,rfl,hb,hs,hf⟩
 dsimp only
 have HB:=hide hb
 have HS:=hide hs
 have HF:=hide hf
 clear hb hs hf HW
 go_wp2_with fail
 refine bodyPost_ret (results_tmp2 rfl _ _ _) rfl ?_
 exact ⟨d,xb,sb,cb,s,tb,cl,rfl,HB.out,HS.out,HF.out⟩
end Go.Proofs.YtncigfibncmioaaGreatDoor

/-
  PROVED HERE: plain facts on a disk at rest: what its files are, what its index says; no walk.
-/
namespace Go.Proofs.YtncigfibncmioaaGreatDoor
open Go.RowKit
section
variable {w:World} {d:Nat} {s:PSt} {A:Sto} {r:Int} {n cu:Nat}
theorem DQ.file (h:DQ w d s A r n cu) {p t:ByteArray} (hf:findK FF.p p (fA A)=some (ff p t)):∃ f,findE p s.R.now=some f∧(s.fd f).1=t:=by
 have h1:findK FF.p p (fA A)=(findE p s.R.now).map fun g=>⟨p,(s.fd g).1,(s.fd g).2⟩:=h.rq.rst.wh.look p
 rw [hf] at h1
 cases h2:findE p s.R.now with
 | none=>rw [h2] at h1;cases h1
 | some f =>
  rw [h2] at h1
  injection h1 with h1
  exact ⟨f,rfl,(congrArg FF.t h1).symm⟩
theorem find_journal (A:Sto):findK FF.p journalP (fA A)=some (ff journalP ⟨#[]⟩):=by
 rw [find_fA,find_kC_out (fun b=>kC_journal b)]
 unfold tailF
 rw [findK_cons,if_neg (show ¬ (ff indexP (idxX A.tg)).p=journalP by show ¬ indexP=journalP;decide),findK_cons,if_pos (show (ff journalP ⟨#[]⟩).p=journalP from rfl)]
 rfl
theorem find_cont (g:GoodA A) {b:ByteArray} (hb:b∈A.cs):findK FF.p (kC b) (fA A)=some (ff (kC b) b):=by
 rw [find_fA,findK_mem g.rise hb]
 rfl
theorem DQ.lenN (h:DQ w d s A r n cu):s.R.now.length=A.cs.length+3:=by
 have hv:s.ds.R.now.map (vwE s.ds.fd)=fA A:=h.rq.vw
 have:=congrArg List.length hv
 rw [List.length_map,fA_len] at this
 exact this
theorem DQ.path (h:DQ w d s A r n cu) {k:Nat} (hk:k<A.cs.length):(s.R.now.getD k DE0).path=kC (A.cs[k]'hk):=by
 have hv:s.ds.R.now.map (vwE s.ds.fd)=fA A:=h.rq.vw
 have hl:=h.lenN
 have h1:(s.ds.R.now.map (vwE s.ds.fd))[k]? = (fA A)[k]?:=by rw [hv]
 rw [List.getElem?_map] at h1
 have h2:(fA A)[k]? = some (fC (A.cs[k]'hk)):=by
  unfold fA
  rw [List.getElem?_append_left (by rw [List.length_map];exact hk),List.getElem?_map,List.getElem?_eq_getElem hk]
  rfl
 rw [h2,show s.ds.R.now=s.R.now from rfl,List.getElem?_eq_getElem (show k<s.R.now.length by omega)] at h1
 injection h1 with h1
 rw [List.getD_eq_getElem?_getD,List.getElem?_eq_getElem (show k<s.R.now.length by omega)]
 exact congrArg FF.p h1
end
theorem app_facts (t:ByteArray) (hz:t.size=64):(blobsP++t).size=70∧(blobsP++t).extract 0 6=⟨#[98,108,111,98,115,47]⟩∧(blobsP++t).extract 6 70=t:=by
 have h6:blobsP.size=6:=rfl
 have h70:(blobsP++t).size=70:=by rw [ByteArray.size_append,hz,h6]
 exact ⟨h70,ByteArray.extract_append_eq_left h6.symm,ByteArray.extract_append_eq_right h6.symm (by rw [h6,hz])⟩
theorem kC_facts (b:ByteArray):(kC b).size=70∧(kC b).extract 0 6=⟨#[98,108,111,98,115,47]⟩∧(kC b).extract 6 70=hxB b∧(⟨#[98,108,111,98,115,47]⟩ : ByteArray)++hxB b=kC b:=by
 have e:kC b=blobsP++hxB b:=cPath_app _
 have hz:(hxB b).size=64:=dtx_size _
 generalize hxB b=T at e hz
 generalize kC b=P at e
 subst e
 obtain ⟨h1,h2,h3⟩:=app_facts T hz
 exact ⟨h1,h2,h3,rfl⟩
theorem idx_print {A:Sto} (g:GoodA A):pText (A.tg.map TE.tg)=idxX A.tg∧pErr (A.tg.map TE.tg)=0:=by
 have h:indexB (A.tg.map TE.tg)=true:=by
  unfold indexB
  rw [decide_eq_true (show (A.tg.map TE.tg).length≤8 by rw [List.length_map];exact g.t8),decide_eq_true (good_tg g.tok g.ttag g.tr)]
  rfl
 unfold pText pErr
 rw [if_pos h,if_pos h]
 exact ⟨by unfold idxX;rw [List.length_map],rfl⟩
theorem tg_told {t:TE} (h:t.Ok):(En.tg t.en).told=t.tg:=by
 show (⟨t.n,⟨(Sha.textTo (rd (dtx t.d)) 32).toArray⟩,((t.z.toNat:Nat):Int)⟩ : Tg)=⟨t.n,dtx t.d,t.z⟩
 rw [rd_dtx t.d h.len h.lt,Int.toNat_of_nonneg h.z0]
 rfl
theorem tgs_told {A:Sto} (g:GoodA A):((A.tg.map TE.en).map En.tg).map Tg.told=A.tg.map TE.tg:=by
 rw [List.map_map,List.map_map]
 exact List.map_congr_left fun t ht=>tg_told (g.tok t ht)
theorem rise_inj {A:Sto} (g:GoodA A) {a b:ByteArray} (ha:a∈A.cs) (hb:b∈A.cs) (h:dOfB a=dOfB b):a=b:=by
 have h1:=findK_mem g.rise ha
 have h2:=findK_mem g.rise hb
 have h3:kC a=kC b:=by unfold kC;rw [h]
 rw [h3,h2] at h1
 exact (Option.some.inj h1).symm
theorem dtx_inj {a b:List Nat} (ha:DigOk a) (hb:DigOk b) (h:dtx a=dtx b):a=b:=by
 rw [← rd_dtx a ha.1 ha.2,← rd_dtx b hb.1 hb.2,h]
theorem entry_fine {A:Sto} (g:GoodA A) {b:ByteArray} (hb:b∈A.cs):∀ i,i<A.tg.length→((A.tg.map TE.tg).getD i default).dig=hxB b→((A.tg.map TE.tg).getD i default).size=(b.size:Int):=fun i hi=>by
 rw [getD_tg hi]
 intro h
 obtain ⟨b',hb',e1,e2⟩:=g.tin _ (List.getElem_mem hi)
 have h1:dtx (A.tg[i]'hi).d=dtx (dOfB b):=h
 have h2:=dtx_inj (by rw [e1];exact dOfB_ok _) (dOfB_ok b) h1
 rw [e1] at h2
 have h3:=rise_inj g hb' hb h2
 subst h3
 exact e2
theorem tag_file {A:Sto} (g:GoodA A) {i:Nat} (hi:i<A.tg.length):∃ b∈A.cs,((A.tg.map TE.tg).getD i default).dig=hxB b:=by
 rw [getD_tg hi]
 obtain ⟨b',hb',e1,_⟩:=g.tin _ (List.getElem_mem hi)
 exact ⟨b',hb',by show dtx (A.tg[i]'hi).d=dtx (dOfB b');rw [e1]⟩
theorem flatV3:∀ (l:List Tg) (k:Nat),(l.flatMap Tg.cells)[k]? = (l[k / 3]?).bind fun t=>t.cells[k % 3]?
 | [],k=>by simp
 | t :: ts,k=>by
  rw [List.flatMap_cons]
  by_cases hk:k<3
  ·rw [List.getElem?_append_left (by simpa [Tg.cells] using hk),show k / 3=0 by omega,show k % 3=k by omega]
   rfl
  ·rw [List.getElem?_append_right (by simp [Tg.cells];omega),show t.cells.length=3 from rfl,flatV3 ts (k - 3),show k / 3=(k - 3) / 3+1 by omega,show (k - 3) % 3=k % 3 by omega]
   rfl
theorem own_tgAt {w:World} {B n cap:Nat} {oa:Option Addr} {l:List Tg} (h:w.ownsRow B 83 3 (.slice oa n cap) n (l.flatMap Tg.cells)) (hn:l.length=n):TagsAt w oa l:=by
 intro i hi
 obtain ⟨hlen,h2⟩:=h
 rcases h2 with ⟨e,h0⟩ | ⟨g',cap',cur,e,_,hg,_,_,hsz,htk⟩
 ·omega
 ·injection e with e1 _ _
  subst e1
  refine ⟨g',0,rfl,?_⟩
  intro j v hj
  have hj3:j<3:=by
   have:=(List.getElem?_eq_some_iff.1 hj).1
   simpa [Tg.cells] using this
  rw [Nat.zero_add,cell_of_row w g' (i * 3+j) _ _ _ hg]
  have hlt:i * 3+j<n * 3:=by omega
  have e4:cur[i * 3+j]? = (l.flatMap Tg.cells)[i * 3+j]?:=by
   rw [← htk,List.getElem?_take_of_lt hlt,Array.getElem?_toList]
  rw [e4,flatV3,show (i * 3+j) / 3=i by omega,show (i * 3+j) % 3=j by omega,List.getElem?_eq_getElem hi]
  have e5:l.getD i default=l[i]:=by rw [List.getD_eq_getElem?_getD,List.getElem?_eq_getElem hi];rfl
  rw [e5] at hj
  exact hj
theorem rowT_goV {w w':World} {B n:Nat} {v:Value} {xs:List Value} {s s':PSt} (h:w.ownsRow B 83 3 v n xs) (hi:s.In w) (hg:PGo s s' w w'):w'.ownsRow B 83 3 v n xs:=own_same h (fun k hk _=>by
 obtain ⟨c,hc⟩:=own_obj h k hk
 exact (hg.keeps hi hc (by decide) (by decide) (by decide) (by decide)).trans hc.symm)
theorem tg_names {A:Sto} (g:GoodA A):∀ i,((A.tg.map TE.tg).getD i default).name.size≤9223372036854775807:=fun i=>by
 by_cases hi:i<A.tg.length
 ·rw [getD_tg hi]
  have:=(g.tok _ (List.getElem_mem hi)).n
  show (A.tg[i]'hi).n.size≤_
  omega
 ·rw [List.getD_eq_getElem?_getD,List.getElem?_eq_none (by rw [List.length_map];omega)]
  show (⟨#[]⟩ : ByteArray).size≤_
  decide
end Go.Proofs.YtncigfibncmioaaGreatDoor

/-
  PROVED HERE: that the statement Refused answers true, for whatever script and number.
-/
namespace Go.Proofs.YtncigfibncmioaaGreatDoor
open Go.RowKit
structure StepV where
 k:Int
 n:Int
 b:Int
def step0:StepV:=⟨0,0,0⟩
def StepV.ok (t:StepV):Prop:=i64r t.k∧i64r t.n∧i64r t.b
def StepV.cells (t:StepV):List Value:=[.int .i64 t.k,.int .i64 t.n,.int .i64 t.b]
def StepsAt (N:Nat) (w:World) (oa:Option Addr) (l:List StepV):Prop:=∀ i,i<l.length→∃ b o,oa=some ⟨b,o,none⟩∧b<N∧w.rangeAt b (o+i * 3) (l.getD i step0).cells∧(l.getD i step0).ok
theorem StepsAt.low {N:Nat} {w w':World} {oa:Option Addr} {l:List StepV} (h:StepsAt N w oa l) (hb:∀ k,k<N→w'.heap[k]? = w.heap[k]?):StepsAt N w' oa l:=fun i hi=>by
 obtain ⟨b,o,h1,h2,h3,h4⟩:=h i hi
 exact ⟨b,o,h1,h2,fun j v hj=>(World.cell?_of_block (a:=⟨b,o+i * 3+j,none⟩) (hb b h2)).trans (h3 j v hj),h4⟩
theorem fpr_next {w w':World} {xb sb cb tb tb':Nat} {s s':PSt} {k:Nat} (hg:SGo (sS xb sb cb) s s' w w') (ht:tb'=tb∨w.heap.size≤tb') (hk:fpr s' xb sb cb tb' k):fpr s xb sb cb tb k∨w.heap.size≤k:=by
 rcases hk with e | e | e
 ·exact (hg.own k e).imp .inl id
 ·exact .inl (.inr (.inl e))
 ·rcases ht with ht | ht
  ·exact .inl (.inr (.inr (e.trans ht)))
  ·right
   rw [e]
   exact ht
theorem wrap_i64 (x:Int):i64r (IntKind.i64.wrap x):=by
 unfold i64r IntKind.wrap
 simp [IntKind.bits,IntKind.signed]
 omega
end Go.Proofs.YtncigfibncmioaaGreatDoor

/-
  PROVED HERE: that valid of the statements answers true of a disk at rest with a store on it, whatever it has.
-/
namespace Go.Proofs.YtncigfibncmioaaGreatDoor
set_option maxHeartbeats 8000000
set_option maxRecDepth 100000
open Go.RowKit
theorem valid_rest {w:World} {d:Nat} {s:PSt} {A:Sto} {r:Int} {N cu:Nat} (h:DQ w d s A r N cu) (hN:N≤300000) :
  Calls Tryz.prog 15 #[.pointer (some ⟨d,0,none⟩)] w fun e w'=>e = .returned (.bool true)∧PGo s s w w':=by
 have hgood:=h.good
 obtain ⟨y,f1,fy⟩:=h.file (find_index A)
 obtain ⟨x,f2,fx⟩:=h.file (find_journal A)
 obtain ⟨z,f3,fz⟩:=h.file (find_layout A)
 have hlen:=h.lenN
 have hmN:=h.len
 have hdk:=h.dk
 have HLS:=hide (bList_any s d w hdk (by omega))
 have HRL:=hide (fun W (hg:PGo s s w W)=>bRead_any s d z layoutP W (hdk.go hg) (by decide) f3)
 have HRI:=hide (fun W (hg:PGo s s w W)=>bRead_any s d y indexP W (hdk.go hg) (by decide) f1)
 have HRJ:=hide (fun W (hg:PGo s s w W)=>bRead_any s d x journalP W (hdk.go hg) (by decide) f2)
 have HRC:=hide (show ∀ b∈A.cs,∀ W,PGo s s w W→Calls Tryz.prog 43 #[.pointer (some ⟨d,0,none⟩),.string (kC b)] W fun e w'=>e = .returned (.tuple #[.string b,.int .i64 0])∧PGo s s W w' from fun b hb W hg=>by
  obtain ⟨f,h1,h2⟩:=h.file (find_cont hgood hb)
  have:=bRead_any s d f (kC b) W (hdk.go hg) (cP_path _) h1
  rw [h2] at this
  exact this)
 rw [fz] at HRL
 rw [fy] at HRI
 rw [fx] at HRJ
 obtain ⟨n,hn⟩ : ∃ n,n=s.R.now.length:=⟨_,rfl⟩
 obtain ⟨m,hm⟩ : ∃ m,m=A.cs.length:=⟨_,rfl⟩
 obtain ⟨q,hq⟩ : ∃ q,q=A.tg.length:=⟨_,rfl⟩
 have hq8:q≤8:=by rw [hq];exact hgood.t8
 rw [← hn,← hm] at hlen
 rw [← hm] at hmN
 rw [← hn] at HLS
 have hnb:n≤300003:=by omega
 have HLN:=hide hlen
 clear hlen hmN hN
 have HNE:=hide hn
 have HME:=hide hm
 have HQE:=hide hq
 have H:=hide h
 have HGD:=hide hgood
 clear h hgood hdk fx fy fz f1 f2 f3 hn hm hq
 unfold layoutP at HRL
 unfold indexP at HRI
 unfold journalP at HRJ
 obtain ⟨tp,hpe⟩:=idx_print HGD.out
 have htold:=tgs_told HGD.out
 obtain ⟨cR,hread⟩:=idx_read HGD.out
 have hisz:=idxX_size HGD.out.tok HGD.out.t8
 generalize idxX A.tg=ET at *
 have HTP:=hide tp
 have HPE:=hide hpe
 have HTOLD:=hide htold
 have HREAD:=hide hread
 clear tp hpe htold hread
 go_enter Tryz.func15,Tryz.ntmps15
 go_wp2_with fail
 refine (HLS.out).mono ?_
 rintro _ w1 ⟨v,rfl,hrow,hb1⟩
 dsimp only
 obtain ⟨so,sc,rfl⟩:=own_sl hrow
 have HG1:=hide (PGo.refl H.out.dk.inn hb1)
 have HRW1:=hide hrow
 clear hrow hb1 HLS
 go_wp2_with fail
 refine (HRL.out _ HG1.out).mono ?_
 rintro _ w2 ⟨rfl,hg2⟩
 dsimp only
 have HRW2:=hide (row_go HRW1.out HG1.out.inn hg2)
 have HG2:=hide (HG1.out.trans hg2)
 clear hg2 HRL HRW1
 go_wp2_with fail
 refine (HRI.out _ HG2.out).mono ?_
 rintro _ w3 ⟨rfl,hg3⟩
 dsimp only
 have HRW3:=hide (row_go HRW2.out HG2.out.inn hg3)
 have HG3:=hide (HG2.out.trans hg3)
 clear hg3 HRI HRW2
 go_wp2_with fail
 refine (HRJ.out _ HG3.out).mono ?_
 rintro _ w4 ⟨rfl,hg4⟩
 dsimp only
 have HRW4:=hide (row_go HRW3.out HG3.out.inn hg4)
 have HG4:=hide (HG3.out.trans hg4)
 clear hg4 HRJ HRW3
 have hlT:layoutT=⟨#[123,34,118,101,114,115,105,111,110,34,58,49,125]⟩:=rfl
 rw [hlT]
 have HPA:=hide (parse_any ET w4 hisz)
 clear hlT
 go_wp2_with fail
 refine (HPA.out).mono ?_
 rintro e5 w5 ⟨hb5,v5,hv5⟩
 obtain ⟨o5,c5,rfl,hrt5⟩ : ∃ o5 c5,e5 = .returned (.tuple #[.slice o5 q c5,.int .i64 0,.int .i64 0])∧w5.ownsRow w4.heap.size 83 3 (.slice o5 q c5) q ((A.tg.map TE.tg).flatMap Tg.cells):=by
  rcases hv5 with ⟨es,c,hr,rfl,hrow,_⟩ | ⟨p,hr,_⟩
  ·rw [HREAD.out] at hr
   injection hr with hr _
   subst hr
   rw [HTOLD.out,List.length_map,← HQE.out] at hrow
   obtain ⟨o,c,rfl⟩:=own_sl hrow
   exact ⟨o,c,rfl,hrow⟩
  ·rw [HREAD.out] at hr
   cases hr
 have HRT5:=hide hrt5
 dsimp only
 have hg5:PGo s s w w5:=HG4.out.trans (PGo.refl HG4.out.inn hb5)
 have hlq:(A.tg.map TE.tg).length=q:=by rw [List.length_map,HQE.out]
 have HPR:=hide (ownPrint_any o5 c5 (A.tg.map TE.tg) w5 (own_tgAt hrt5 hlq) (tg_names HGD.out) ((H.out.dk.go hg5).gl.tab))
 rw [HTP.out,HPE.out,hlq] at HPR
 have HG5:=hide hg5
 have HRW5:=hide (ownsRow_later HRW4.out hb5)
 have HLQ:=hide hlq
 clear hb5 hv5 hg5 HPA HRW4 hrt5 HREAD HTOLD hlq
 have d3:decide (((n:Nat):Int)<3)=false:=decide_eq_false (by have:=HLN.out;omega)
 go_wp2_with fail
 refine (HPR.out).mono ?_
 rintro _ w6 ⟨rfl,hb6⟩
 dsimp only
 have HG6:=hide (HG5.out.trans (PGo.refl HG5.out.inn hb6))
 have HRW6:=hide (ownsRow_later HRW5.out hb6)
 have HRT6:=hide (ownsRow_later HRT5.out hb6)
 clear hb6 HPR HRW5 HRT5 HTP HPE
 go_wp2_with fail
 clear d3
 go_loopw [16] (fun iv w'=>∃ j:Nat,j≤m∧iv = .int .i64 ((j:Nat):Int)∧PGo s s w w'∧w'.ownsRow w.heap.size 9 1 (.slice so n sc) n (pathVs s.R.now)∧w'.ownsRow w4.heap.size 83 3 (.slice o5 q c5) q ((A.tg.map TE.tg).flatMap Tg.cells)) (fun iv _=>m - (intOf iv).toNat)
 case atStart=>exact ⟨0,Nat.zero_le _,rfl,HG6.out,HRW6.out,HRT6.out⟩
 case round =>
  obtain ⟨j,hj,rfl,hgo,hrw,hrt⟩:=hrel
  have HRT:=hide hrt
  have HGO:=hide hgo
  have HRW:=hide hrw
  by_cases hlt:j<m
  ·have hjl:j<A.cs.length:=by rw [← HME.out];exact hlt
   have hjn:j<s.R.now.length:=by rw [← HNE.out];have:=HLN.out;omega
   have hpj:=H.out.path hjl
   have hbm:A.cs[j]'hjl∈A.cs:=List.getElem_mem hjl
   have hbz:=HGD.out.sz _ hbm
   have HEF:=hide (entry_fine HGD.out hbm)
   have HRC1:=hide (HRC.out _ hbm wr hgo)
   have HCE:=hide (show ∀ W:World,W.ownsRow w.heap.size 9 1 (.slice so n sc) n (pathVs s.R.now)→∃ g,so=some ⟨g,0,none⟩∧W.cell? ⟨g,j,none⟩=some (.string (kC (A.cs[j]'hjl))) from fun W hW=>by
    have hW2:W.ownsRow w.heap.size 9 1 (.slice so n sc) s.R.now.length (pathVs s.R.now):=by rw [← HNE.out];exact hW
    obtain ⟨o2,cap2,e2,hcells⟩:=own_str hW2
    obtain ⟨g,rfl,hc⟩:=hcells j hjn
    injection e2 with e2 _ _
    rw [hpj] at hc
    exact ⟨g,e2,hc⟩)
   obtain ⟨u70,u6,uT, -⟩:=kC_facts (A.cs[j]'hjl)
   have HHA0:=hide (fun (W:World) (hg:Gl W)=>hashK (A.cs[j]'hjl) W hbz hg)
   generalize A.cs[j]'hjl=bb at *
   generalize kC bb=P at *
   generalize hxB bb=T at *
   obtain ⟨g,rfl,r0⟩:=HCE.out wr hrw
   have hj2:j<n:=by have:=HLN.out;omega
   have d1:decide (((j:Nat):Int)<((n:Nat):Int) - 3)=true:=decide_eq_true (by have:=HLN.out;omega)
   clear hgo hrw hrt HG6 HRW6 HRT6 hpj hbm hjl hjn
   go_wp2_with fail
   refine (HRC1.out).mono ?_
   rintro _ w7 ⟨rfl,hg7⟩
   dsimp only
   have HG7:=hide (HGO.out.trans hg7)
   have HRW7:=hide (row_go HRW.out HGO.out.inn hg7)
   have HRT7:=hide (rowT_goV HRT.out HGO.out.inn hg7)
   clear hg7 HRC1 HRW HRT r0
   obtain ⟨g',e',r7⟩:=HCE.out w7 HRW7.out
   injection e' with e'
   injection e' with e'
   subst e'
   have hgl7:=(H.out.dk.go HG7.out).gl
   have HHA3:=hide (HHA0.out w7.drew (hgl7.later (Below.refl w7.heap.size w7).drew))
   have hS0:w7.drew.cell? ⟨g,j,none⟩=some (.string P):=cell_later (Below.refl w7.heap.size w7).drew r7
   clear hgl7 HHA0
   go_wp2_with fail
   go_region_held3 (fun w'=>w'.cell? ⟨g,j,none⟩=some (.string P)) (first | exact hS0 | exact hS3 | go_keep) ((go_at_call 35;refine (HHA3.out).mono ?_;rintro _ w8 ⟨rfl,hb8⟩;have hb9:Below w7.heap.size w7 w8:=((Below.refl w7.heap.size w7).drew).trans hb8;have hS3:=cell_later hb9 r7))
   have r8:=cell_later hb9 r7
   have HG8:=hide (HG7.out.trans (PGo.refl HG7.out.inn hb9))
   have HRW8:=hide (ownsRow_later HRW7.out hb9)
   have HRT8:=hide (ownsRow_later HRT7.out hb9)
   have HEN:=hide (entry_any o5 c5 q (A.tg.map TE.tg) T (bb.size:Int) w8 HLQ.out (by omega) (own_tgAt HRT8.out HLQ.out) (by rw [HQE.out];exact HEF.out))
   clear hb8 hb9 hS0 hS3 r7 HHA3 HRW7 HRT7 HG7
   go_wp2_with fail
   refine (HEN.out).mono ?_
   rintro _ w9 ⟨rfl,hb10⟩
   dsimp only
   have HG9:=hide (HG8.out.trans (PGo.refl HG8.out.inn hb10))
   have HRW9:=hide (ownsRow_later HRW8.out hb10)
   have HRT9:=hide (ownsRow_later HRT8.out hb10)
   clear hb10 HEN r8
   go_wp2_with fail
   exact ⟨⟨j+1,by omega,by simp,HG9.out,HRW9.out,HRT9.out⟩,by simp only [intOf];omega⟩
  ·clear hgo hrw hrt HRW HG6 HRW6 HRT6
   have d1:decide (((j:Nat):Int)<((n:Nat):Int) - 3)=false:=decide_eq_false (by have:=HLN.out;omega)
   go_wp2_with fail
   go_loopw [21] (fun iv w'=>∃ k:Nat,k≤q∧iv = .int .i64 ((k:Nat):Int)∧PGo s s w w'∧w'.ownsRow w4.heap.size 83 3 (.slice o5 q c5) q ((A.tg.map TE.tg).flatMap Tg.cells)) (fun iv _=>q - (intOf iv).toNat)
   case atStart=>exact ⟨0,Nat.zero_le _,rfl,HGO.out,HRT.out⟩
   case round =>
    obtain ⟨k,hk,rfl,hgo,hrt⟩:=hrel
    have HGO2:=hide hgo
    have HRT2:=hide hrt
    clear HGO HRT d1
    by_cases hkq:k<q
    ·obtain ⟨bb,hbm,hdg⟩:=tag_file HGD.out (show k<A.tg.length by rw [← HQE.out];exact hkq)
     obtain ⟨b1,o1,rfl,x1⟩:=own_tgAt hrt HLQ.out k (by rw [HLQ.out];exact hkq)
     have c2:=x1 1 _ rfl
     rw [hdg] at c2
     have HRC1:=hide (HRC.out bb hbm _ hgo)
     obtain ⟨-, -, -,hcat⟩:=kC_facts bb
     have hz:=Nat.le_of_eq (show (hxB bb).size=64 from dtx_size _)
     generalize kC bb=P at *
     generalize hxB bb=T at *
     have q6:¬ 9223372036854775807<6+T.size:=by omega
     have d2:decide (((k:Nat):Int)<((q:Nat):Int))=true:=decide_eq_true (by omega)
     clear hgo hrt x1 hdg hbm
     go_wp2_with fail
     refine (HRC1.out).mono ?_
     rintro _ w7 ⟨rfl,hg7⟩
     dsimp only
     have HG7:=hide (HGO2.out.trans hg7)
     have HRT7:=hide (rowT_goV HRT2.out HGO2.out.inn hg7)
     clear hg7 HRC1 c2
     go_wp2_with fail
     exact ⟨⟨k+1,by omega,by simp,HG7.out,HRT7.out⟩,by simp only [intOf];omega⟩
    ·have d2:decide (((k:Nat):Int)<((q:Nat):Int))=false:=decide_eq_false (by omega)
     clear hgo hrt
     go_wp2_with fail
     go_ret
     exact ⟨rfl,HGO2.out⟩
end Go.Proofs.YtncigfibncmioaaGreatDoor

/-
  PROVED HERE: that the statement Rested answers true, for whatever script and crash.
-/
namespace Go.Proofs.YtncigfibncmioaaGreatDoor
set_option maxHeartbeats 4000000
set_option maxRecDepth 100000
open Go.RowKit
theorem SA.farP {w w':World} {db xb sb cb:Nat} {s:PSt} {tb:Nat} {cl:List (List Nat)} {A:Sto} {r:Int} {n cu:Nat} {s2 s2':PSt}
  (h:SA w db xb sb cb s tb cl A r n cu) (h2:s2.In w) (hl2:LowS s2) (hg:PGo s2 s2' w w') (ha:∀ k,fpr s xb sb cb tb k→¬ s2.own k):SA w' db xb sb cb s tb cl A r n cu:=by
 have hb:∀ k,fpr s xb sb cb tb k→k<w.heap.size→w'.heap[k]? = w.heap[k]?:=fun k hk hl=>hg.gr.block k hl (ha k hk)
 have hin:s.In w':=h.sw.inn.same (fun k hk=>hb k (.inl hk) (h.sw.inn.lt hk))
 have hgl:Gl w':=(h.sw.gl.go hl2 hg).1
 refine ⟨(hb xb (.inr (.inl (.inl rfl))) (lt_heap h.st)).trans h.st,h.hG,⟨hin,hgl,h.sw.low,(hb sb (.inr (.inl (.inr (.inl rfl)))) (lt_heap h.sw.blk)).trans h.sw.blk,owns_same h.sw.cm (hb cb (.inr (.inl (.inr (.inr rfl)))) h.sw.cm.lt),owns_same h.sw.tm (hb tb (.inr (.inr rfl)) h.sw.tm.lt),h.sw.ncb,h.sw.ntb,h.sw.gcb,h.sw.gtb,h.sw.gsb,h.sw.ne⟩,?_,h.ok,h.mem,h.len,h.rst,h.c0,h.c1,h.good,h.use,h.r0,h.r1⟩
 exact hg.keeps h2 h.bd (by decide) (by decide) (by decide) (by decide)
theorem dqHeld {w:World} {d:Nat} {s:PSt} {A:Sto} {r:Int} {n cu:Nat} (h:DQ w d s A r n cu) (hn:n≤300000) :
  Calls Tryz.prog 14 #[.pointer (some ⟨d,0,none⟩)] w fun e w'=>e = .returned (.string (hF (fA A)))∧PGo s s w w':=by
 have hvw:s.ds.R.now.map (vwE s.ds.fd)=fA A:=h.rq.vw
 have hmem:∀ e∈s.R.now,vwE s.fd e∈fA A:=fun e he=>by rw [← hvw];exact List.mem_map_of_mem he
 have hlen:s.R.now.length≤1000000:=by
  have:=h.lenN
  have:=h.len
  omega
 refine (held_many s d w h.dk hlen (fun e he=>fA_path (hmem e he)) h.rq.rst.wh.riseN (fun e he=>fA_small h.good (hmem e he))).mono ?_
 rintro e w' ⟨rfl,hg⟩
 refine ⟨?_,hg⟩
 have h2:hT s.fd s.R.now=hF (fA A):=by
  have:=hT_hF s.ds
  rw [show vwL s.ds=fA A from hvw] at this
  exact this
 rw [h2]
theorem rested_any (w:World) (oa:Option Addr) (cc:Nat) (l:List StepV) (paths:Int) (kv:Value) (ks:List Int) (hg:Gl w) (hl:StepsAt w.heap.size w oa l) (hka:KAt (fun k=>w.heap.size≤k) w kv ks) (hn:l.length≤262144) :
  Calls Tryz.prog 4 #[.slice oa l.length cc,.int .i64 paths,kv] w fun e w'=>e = .returned (.bool true)∧Below w.heap.size w w':=by
 have HBG:=hide (begun_sa w hg)
 have HL:=hide hl
 have HK:=hide hka
 obtain ⟨N,hN⟩ : ∃ N,N=w.heap.size:=⟨_,rfl⟩
 rw [← hN] at HBG HL HK ⊢
 have HN:=hide hN
 obtain ⟨q,hq⟩ : ∃ q,q=l.length:=⟨_,rfl⟩
 rw [← hq] at hn ⊢
 have HQ:=hide hq
 clear hg hl hka hN hq
 go_enter Tryz.func4,Tryz.ntmps4
 go_wp2_with fail
 refine (HBG.out).mono ?_
 rintro _ w1 ⟨d,xb,sb,cb,s1,t1,l1,rfl,hb1,hs1,hf1⟩
 dsimp only
 have hN1:N≤w1.heap.size:=by have:=hb1.size;have:=HN.out;omega
 have HB1:=hide hb1
 have HS1:=hide hs1
 have HF1:=hide hf1
 clear hb1 hs1 hf1 HBG
 go_wp2_with fail
 go_loopw [9] (fun iv wr=>∃ (j:Nat),j≤q∧iv = .int .i64 ((j:Nat):Int)∧Below N w wr∧N≤wr.heap.size∧∃ s tb cl A,SA wr d xb sb cb s tb cl A 1099511627776 (j+3) (100+j * 262300)∧∀ k,fpr s xb sb cb tb k→N≤k) (fun iv _=>q - (intOf iv).toNat)
 case atStart=>exact ⟨0,Nat.zero_le _,rfl,HB1.out,hN1,s1,t1,l1,A1,HS1.out.mono (Nat.le_refl _) (by decide),HF1.out⟩
 case round =>
  obtain ⟨j,hj,rfl,hb,hNr,s,tb,cl,A,h1,hf1⟩:=hrel
  have HB:=hide hb
  have H1:=hide h1
  have HF:=hide hf1
  clear h1 hf1 hb HB1 HS1 HF1
  by_cases hlt:j<q
  ·have hjl:j<l.length:=by rw [← HQ.out];exact hlt
   obtain ⟨b,o,rfl,hbN,hrg,hok⟩:=(HL.out.low HB.out.block) j hjl
   generalize l.getD j step0=t at hrg hok
   obtain ⟨K,M,B⟩:=t
   obtain ⟨okK,okM,okB⟩:=hok
   have HD1:=hide (does_any H1.out (by omega) (by omega) K M B okK okM okB)
   generalize (dsPl A K M B).run 1099511627776 A=X at HD1
   obtain ⟨X1,X2,X3⟩:=X
   dsimp only at HD1
   have hi31:(Tryz.prog.info? 31).map (·.size)=some ([.int .i64 K,.int .i64 M,.int .i64 B]:List Value).length:=by show _=some 3;kernel_rfl
   have HR0:=hide (show wr.rangeAt b (o+j * 3) [.int .i64 K,.int .i64 M,.int .i64 B] from hrg)
   have d9:decide (((j:Nat):Int)<((q:Nat):Int))=true:=decide_eq_true (by omega)
   clear hrg hjl
   go_wp2_with (refine wpList_load_mid rfl 31 _ rfl b (o+j * 3) rfl [.int .i64 K,.int .i64 M,.int .i64 B] _ HR0.out Tryz.underlying31 rfl hi31 ?_)
   refine (HD1.out).mono ?_
   rintro _ w3 ⟨rfl,s3,t3,l3,hg3,ht3,h3⟩
   dsimp only
   have hf3:∀ k,fpr s3 xb sb cb t3 k→N≤k:=fun k hk=>by
    rcases fpr_next hg3 ht3 hk with hk | hk
    ·exact HF.out k hk
    ·omega
   have hb3:Below N wr w3:=hg3.lowN (fun k hk=>HF.out k (hk.elim .inl (fun e=>.inr (.inl e)))) hNr
   have hN3:N≤w3.heap.size:=Nat.le_trans hNr hb3.size
   have HV:=hide (valid_rest h3.dq (by omega))
   have HS3:=hide h3
   have HB3:=hide (HB.out.trans hb3)
   have HF3:=hide hf3
   clear hg3 ht3 h3 hf3 hb3 HD1 HR0 H1 HF HB
   go_wp2_with fail
   refine (HV.out).mono ?_
   rintro _ w4 ⟨rfl,hg4⟩
   dsimp only
   have HS4:=hide (HS3.out.goP hg4)
   have hb4:Below N w3 w4:=hg4.low (fun k hk=>HF3.out k (.inl hk)) hN3
   have HB4:=hide (HB3.out.trans hb4)
   have hN4:N≤w4.heap.size:=Nat.le_trans hN3 hb4.size
   clear hg4 hb4 HV HB3 HS3
   go_wp2_with fail
   exact ⟨⟨j+1,by omega,by simp,HB4.out,hN4,s3,t3,l3,X3,HS4.out.mono (by omega) (by omega),HF3.out⟩,by simp only [intOf];omega⟩
  ·have d9:decide (((j:Nat):Int)<((q:Nat):Int))=false:=decide_eq_false (by omega)
   have HHE:=hide (saHeld H1.out (by omega))
   generalize hHT:hF (fA A)=HT at HHE
   have HHTE:=hide hHT
   clear H1 hHT
   go_wp2_with fail
   refine (HHE.out).mono ?_
   rintro _ w1 ⟨rfl,hg1,h1⟩
   dsimp only
   have hb1:Below N wr w1:=hg1.lowN (fun k hk=>HF.out k (hk.elim .inl (fun e=>.inr (.inl e)))) hNr
   have hN1:N≤w1.heap.size:=Nat.le_trans hNr hb1.size
   have HB1:=hide (HB.out.trans hb1)
   have HSH:=hide (saShown h1 (by omega))
   generalize hSH:shA A=SH at HSH
   have HSHQ:=hide hSH
   clear hg1 h1 hb1 hSH HHE HB
   go_wp2_with fail
   refine (HSH.out).mono ?_
   rintro _ w2 ⟨rfl,hg2,h2⟩
   dsimp only
   have hb2:Below N w1 w2:=hg2.lowN (fun k hk=>HF.out k (hk.elim .inl (fun e=>.inr (.inl e)))) hN1
   have hN2:N≤w2.heap.size:=Nat.le_trans hN1 hb2.size
   have HB2:=hide (HB1.out.trans hb2)
   have hown2:∀ k,s.own k→N≤k:=fun k hk=>HF.out k (.inl hk)
   have HCR:=hide (dqCrash h2.dq (by omega) paths kv ks ((KAt.low HK.out HB2.out).mono hown2))
   have HO2:=hide hown2
   clear hg2 h2 hb2 hown2 HSH HB1 HF
   go_wp2_with fail
   refine (HCR.out).mono ?_
   rintro _ w3 ⟨rfl,s3,hg3,h3,hl3⟩
   dsimp only
   have hb3:Below N w2 w3:=hg3.low HO2.out hN2
   have hN3:N≤w3.heap.size:=Nat.le_trans hN2 hb3.size
   have HB3:=hide (HB2.out.trans hb3)
   have HO3:=hide (hg3.ownN HO2.out hN2)
   have H3:=hide h3
   have HL3:=hide hl3
   have HHE3:=hide (dqHeld h3 (by omega))
   rw [HHTE.out] at HHE3
   clear hg3 h3 hl3 hb3 HCR HB2 HO2 HHTE
   go_wp2_with fail
   refine (HHE3.out).mono ?_
   rintro _ w4 ⟨rfl,hg4⟩
   dsimp only
   have hb4:Below N w3 w4:=hg4.low HO3.out hN3
   have hN4:N≤w4.heap.size:=Nat.le_trans hN3 hb4.size
   have HB4:=hide (HB3.out.trans hb4)
   have HOP:=hide (dqOpen (H3.out.go hg4) (by omega) (by omega))
   clear hg4 hb4 HHE3 HB3 H3
   go_wp2_with fail
   refine (HOP.out).mono ?_
   rintro _ w5 ⟨s5,x5,sb5,cb5,tb5,cl5,rfl,hg5,h5,hs5,hnb5⟩
   dsimp only
   have hb5:Below N w4 w5:=hg5.low HO3.out hN4
   have hN5:N≤w5.heap.size:=Nat.le_trans hN4 hb5.size
   have HB5:=hide (HB4.out.trans hb5)
   have HS5:=hide (hs5 HL3.out)
   have HLT5:=hide (show ∀ k,fpr s5 x5 sb5 cb5 tb5 k→k<w5.heap.size from HS5.out.lt)
   have HCP:=hide (dqCopy h5 (by omega))
   have HF5:=hide (show ∀ k,fpr s5 x5 sb5 cb5 tb5 k→N≤k from fun k hk=>by
    rcases hk with e | e | e
    ·exact hg5.ownN HO3.out hN4 k e
    ·rcases e with e | e | e <;> omega
    ·omega)
   clear hg5 h5 hs5 hb5 hnb5 HOP HB4 HL3 HO3
   go_wp2_with fail
   refine (HCP.out).mono ?_
   rintro _ w6 ⟨d6,s6,rfl,hb6, -,ho6,h6,hl6⟩
   dsimp only
   have hz6:=hb6.size
   have HS6:=hide (HS5.out.later hb6)
   have HB6:=hide (HB5.out.trans (hb6.mono hN5))
   have HOP6:=hide (dqOpen h6 (by omega) (by omega))
   have HI6:=hide (And.intro h6.dk.inn h6.dk.low)
   have HO6:=hide ho6
   have HL6:=hide hl6
   clear hb6 h6 ho6 hl6 HCP HB5 HS5
   go_wp2_with fail
   refine (HOP6.out).mono ?_
   rintro _ w7 ⟨s7,x7,sb7,cb7,tb7,cl7,rfl,hg7, -,hs7,hnb⟩
   dsimp only
   have HS7:=hide (hs7 HL6.out)
   have HX7:=hide (HS6.out.farP HI6.out.1 HI6.out.2 hg7 (fun k hk e=>by have:=HLT5.out k hk;have:=HO6.out k e;omega))
   have hb7:Below w5.heap.size w6 w7:=hg7.low HO6.out hz6
   have hz7:=hb7.size
   have HB7:=hide (HB6.out.trans (hb7.mono hN5))
   have HF7:=hide (show ∀ k,fpr s7 x7 sb7 cb7 tb7 k→w5.heap.size≤k from fun k hk=>by
    rcases hk with e | e | e
    ·exact hg7.ownN HO6.out hz6 k e
    ·rcases e with e | e | e <;> omega
    ·omega)
   have HSH7:=hide (saShown HX7.out (by omega))
   rw [HSHQ.out] at HSH7
   clear hg7 hs7 hnb hb7 HOP6 HB6 HS6 HI6 HO6 HL6
   go_wp2_with fail
   refine (HSH7.out).mono ?_
   rintro _ w8 ⟨rfl,hg8, -⟩
   dsimp only
   have HS8:=hide (HS7.out.other HX7.out hg8 (fun k hk e=>by have:=HLT5.out k e;have:=HF7.out k hk;omega))
   have hN7:N≤w7.heap.size:=by omega
   have hb8:Below N w7 w8:=hg8.lowN (fun k hk=>HF5.out k (hk.elim .inl (fun e=>.inr (.inl e)))) hN7
   have hN8:N≤w8.heap.size:=Nat.le_trans hN7 hb8.size
   have HB8:=hide (HB7.out.trans hb8)
   have HSH8:=hide (saShown HS8.out (by omega))
   rw [HSHQ.out] at HSH8
   clear hg8 hb8 HSH7 HB7 HS7 HX7 HLT5 HF5
   go_wp2_with fail
   refine (HSH8.out).mono ?_
   rintro _ w9 ⟨rfl,hg9, -⟩
   dsimp only
   have hb9:Below N w8 w9:=hg9.lowN (fun k hk=>Nat.le_trans hN5 (HF7.out k (hk.elim .inl (fun e=>.inr (.inl e))))) hN8
   have HB9:=hide (HB8.out.trans hb9)
   clear hg9 hb9 HSH8 HB8 HF7
   go_wp2_with fail
   go_ret
   exact ⟨rfl,HB9.out⟩
end Go.Proofs.YtncigfibncmioaaGreatDoor
