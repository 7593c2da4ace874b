/-
  PROVED HERE: which contents a script of the statement lays down; what lies under a content's path, spoilt or not; no walk.
-/
import Derived.Test.YtncigfibncmioaaGreatDoorRoPut
import Derived.Test.YtncigfibncmioaaGreatDoorBsKept
import Derived.Test.YtncigfibncmioaaGreatDoorSaHeld
namespace Go.Proofs.YtncigfibncmioaaGreatDoor
open Go.RowKit
def InK (A:Sto):Prop:=∀ x ∈ A.cs,x = abcB ∨ ∃ v,x = conT v
theorem nbC_in {A:Sto} {b x:ByteArray} (h:x ∈ nbC A.cs (newC A b)):x = b ∨ x ∈ A.cs:=by
 unfold newC at h
 cases hc:conC A b with
 | some c =>
  rw [hc] at h
  exact .inr h
 | none =>
  rw [hc] at h
  exact insK_mem h
theorem InK.new {A:Sto} (h:InK A) {b:ByteArray} {l:List TE} (hb:b = abcB ∨ ∃ v,b = conT v):InK ⟨nbC A.cs (newC A b),l⟩:=fun x hx=>by
 rcases nbC_in hx with rfl | hx
 ·exact hb
 ·exact h x hx
theorem InK.step {A:Sto} (h:InK A) (K N B:Int):InK (dsPl A K N B).nx:=by
 have h1:∀ l,InK ⟨nbC A.cs (newC A (conT B)),l⟩:=fun l=>h.new (.inr ⟨B,rfl⟩)
 unfold dsPl
 split
 ·exact h1 _
 ·exact h1 _
 ·unfold tagPl
  split
  ·split
   ·exact h
   ·exact h
  ·exact h
 ·unfold untPl
  split
  ·exact h
  ·exact h
 ·unfold pubPl
  split
  ·exact h1 _
  ·exact h
 ·unfold pubPl
  split
  ·exact h1 _
  ·exact h
 ·unfold delPl
  split
  ·split
   ·exact h
   ·exact fun x hx=>h x (delK_mem.1 hx).1
  ·exact h
 ·exact fun x hx=>h x (List.mem_filter.1 hx).1
theorem InK.run {A:Sto} (h:InK A) (r:Int) (K N B:Int):InK ((dsPl A K N B).run r A).2.2:=by
 unfold Pl.run
 split
 ·exact h.step K N B
 ·exact h
theorem InK.first:InK A1:=fun x hx=>by
 have hx:x ∈ [abcB]:=hx
 rw [List.mem_singleton] at hx
 exact .inl hx
theorem InK.free {A:Sto} (h:InK A) (b:Int):conC A (conT b ++ xB) = none:=by
 unfold conC
 refine findK_out fun x hx e=>?_
 have e2:=kC_inj e
 rcases h x hx with rfl | ⟨v,rfl⟩
 ·exact abc_apart b e2
 ·exact con_apart v b e2
theorem put_run {A:Sto} (g:GoodA A) (hl:A.cs.length ≤ 300000) {b:ByteArray} (hb:b.size ≤ 300):(putPl A b).run 1099511627776 A = (hxB b,0,⟨nbC A.cs (newC A b),A.tg⟩):=by
 refine Pl.run_yes ?_
 have h1:=szA_le g
 have h2:=(put_fine g hb).1
 omega
theorem InK.put {A:Sto} (h:InK A) (b:Int):(⟨nbC A.cs (newC A (conT b ++ xB)),A.tg⟩ : Sto) = ⟨insK kC (conT b ++ xB) A.cs,A.tg⟩:=by
 unfold newC
 rw [h.free b]
 rfl
theorem conx_size (b:Int):(conT b ++ xB).size ≤ 300 ∧ 1 ≤ (conT b ++ xB).size:=by
 have h:=conT_size b
 rw [ByteArray.size_append]
 have:xB.size = 1:=rfl
 omega
section
variable {w:World} {db xb sb cb:Nat} {s:PSt} {tb:Nat} {cl:List (List Nat)} {A:Sto} {F:List FF} {r:Int} {n cu:Nat}
theorem SR.file (h:SR w db xb sb cb s tb cl A F r n cu) (hsh:shp F = shp (fA A)) {b:ByteArray} (hb:b ∈ A.cs):∃ f,findE (kC b) s.R.now = some f ∧ (s.fd f).1.size = b.size ∧ ∀ e ∈ F,e.p = kC b → e.t = (s.fd f).1:=by
 have h1:findK FF.p (kC b) (fA A) = some (fC b):=by
  rw [show kC b = cPath (dOfB b) from rfl,find_content,show findK kC (cPath (dOfB b)) A.cs = some b from findK_mem h.good.rise hb]
  rfl
 obtain ⟨e,h2,h3⟩:=shp_some hsh h1
 have h4:findK FF.p (kC b) F = (findE (kC b) s.ds.R.now).map fun g=>⟨kC b,(s.ds.fd g).1,(s.ds.fd g).2⟩:=h.rst.wh.look (kC b)
 cases hf:findE (kC b) s.ds.R.now with
 | none =>
  rw [hf,h2] at h4
  cases h4
 | some f =>
  rw [hf,h2] at h4
  injection h4 with h4
  have h5:e.t = (s.fd f).1:=by rw [h4];rfl
  refine ⟨f,hf,?_,fun x hx hp=>?_⟩
  ·rw [← h5,h3]
   rfl
  ·have h6:=findK_mem h.rst.wh.riseF hx
   rw [hp,h2] at h6
   injection h6 with h6
   rw [← h6,h5]
theorem roSpoilC (h:SR w db xb sb cb s tb cl A F r n cu) (hsh:shp F = shp (fA A)) {b:ByteArray} (hb:b ∈ A.cs) (a m:Int) (hm1:1 ≤ m) (hm2:m ≤ 255) (ha:0 ≤ a) (hz:a < (b.size:Int)) :
  Calls Tryz.prog 33 #[.pointer (some ⟨db,0,none⟩),.string (kC b),.int .i64 a,.int .i64 m] w fun e w'=>e = .returned (.int .i64 0) ∧ ∃ s' x,PGo s s' w w' ∧ SR w' db xb sb cb s' tb cl A (spF F (kC b) x) r n cu ∧ shp (spF F (kC b) x) = shp (fA A):=by
 obtain ⟨f,h1,h2,h3⟩:=h.file hsh hb
 refine (roSpoil h a m (cP_path _) h1 hm1 hm2 ha (by rw [h2];exact hz)).mono ?_
 rintro e w' ⟨rfl,s',hg,hs⟩
 refine ⟨rfl,s',_,hg,hs,?_⟩
 rw [shp_sp (fun e he hp=>?_),hsh]
 rw [h3 e he hp,spoilB_size]
theorem spF_find {F:List FF} {p q x:ByteArray} (h:q ≠ p):findK FF.p q (spF F p x) = findK FF.p q F:=by
 induction F with
 | nil=>rfl
 | cons e F ih =>
  show findK FF.p q ((if e.p = p then ⟨e.p,x,e.y⟩ else e) :: spF F p x) = _
  rw [findK_cons,findK_cons,ih]
  by_cases h2:e.p = p
  ·rw [if_pos h2]
   have h3:¬ e.p = q:=fun e2=>h (e2.symm.trans h2)
   rw [if_neg h3,if_neg h3]
  ·rw [if_neg h2]
theorem SR.other {b x:ByteArray} (h:SR w db xb sb cb s tb cl A (spF (fA A) (kC b) x) r n cu) {c:ByteArray} (hc:c ∈ A.cs) (hne:hxB c ≠ hxB b):conR s.ds (dOfB c) = some c:=by
 have hk:kC c ≠ kC b:=fun e=>hne (by unfold hxB;rw [kC_inj e])
 have h1:rdD s.ds (cPath (dOfB c)) = (findK FF.p (kC c) (spF (fA A) (kC b) x)).map FF.t:=h.rdF c
 rw [spF_find hk,show kC c = cPath (dOfB c) from rfl,find_content,show findK kC (cPath (dOfB c)) A.cs = some c from findK_mem h.good.rise hc] at h1
 exact conR_some h1 rfl
theorem conR_hash {D:DS} {b t:ByteArray} (h:conR D (dOfB b) = some t):hxB t = hxB b:=by
 unfold hxB
 rw [conR_dig h]
end
end Go.Proofs.YtncigfibncmioaaGreatDoor
namespace Go.Proofs.YtncigfibncmioaaGreatDoor
set_option maxHeartbeats 20000000
set_option maxRecDepth 100000
open Go.RowKit
structure Rn (N:Nat) (w0 wz:World) (T:Nat → Prop) (w:World) (db xb sb cb:Nat) (s:PSt) (tb:Nat) (cl:List (List Nat)) (A:Sto) (F:List FF) (n cu:Nat):Prop where
 sr:SR w db xb sb cb s tb cl A F 1099511627776 n cu
 sh:shp F = shp (fA A)
 blk:∀ g,T g → w.heap[g]? = wz.heap[g]?
 lt:∀ g,T g → g < w.heap.size
 no:∀ g,T g → ¬ (s.own g ∨ sS xb sb cb g)
 bel:Below N w0 w
 hN:N ≤ w.heap.size
 own:∀ k,s.own k ∨ sS xb sb cb k → N ≤ k
section
variable {N:Nat} {T:Nat → Prop} {w0 wz w w':World} {db xb sb cb:Nat} {s s':PSt} {tb:Nat} {cl:List (List Nat)} {A:Sto} {F F':List FF} {n cu:Nat}
theorem Rn.same (h:Rn N w0 wz T w db xb sb cb s tb cl A F n cu) (hg:SGo (sS xb sb cb) s s w w') (hs:SR w' db xb sb cb s tb cl A F 1099511627776 n cu):Rn N w0 wz T w' db xb sb cb s tb cl A F n cu:=by
 have hb:Below N w w':=hg.lowN h.own h.hN
 exact ⟨hs,h.sh,fun g hT=>(hg.gr.block g (h.lt g hT) (h.no g hT)).trans (h.blk g hT),fun g hT=>Nat.lt_of_lt_of_le (h.lt g hT) hg.gr.size,h.no,h.bel.trans hb,Nat.le_trans h.hN hb.size,h.own⟩
theorem Rn.go (h:Rn N w0 wz T w db xb sb cb s tb cl A F n cu) (hg:PGo s s' w w') (hs:SR w' db xb sb cb s' tb cl A F' 1099511627776 n cu) (hsh:shp F' = shp (fA A)):Rn N w0 wz T w' db xb sb cb s' tb cl A F' n cu:=by
 have hb:Below N w w':=hg.low (fun k hk=>h.own k (.inl hk)) h.hN
 refine ⟨hs,hsh,fun g hT=>(hg.gr.block g (h.lt g hT) (fun e=>h.no g hT (.inl e))).trans (h.blk g hT),fun g hT=>Nat.lt_of_lt_of_le (h.lt g hT) hg.gr.size,fun g hT e=>?_,h.bel.trans hb,Nat.le_trans h.hN hb.size,fun k hk=>?_⟩
 ·rcases e with e | e
  ·rcases hg.own g e with e | e
   ·exact h.no g hT (.inl e)
   ·have:=h.lt g hT
    omega
  ·exact h.no g hT (.inr e)
 ·rcases hk with hk | hk
  ·rcases hg.own k hk with e | e
   ·exact h.own k (.inl e)
   ·have:=h.hN
    omega
  ·exact h.own k (.inr hk)
theorem SR.later {r:Int} (h:SR w db xb sb cb s tb cl A F r n cu) (hb:Below w.heap.size w w'):SR w' db xb sb cb s tb cl A F r n cu:=h.same (SGo.of_below hb) ((hb.block _ (lt_heap h.st)).trans h.st) (h.sw.later hb)
theorem Rn.later (h:Rn N w0 wz T w db xb sb cb s tb cl A F n cu) (hb:Below w.heap.size w w'):Rn N w0 wz T w' db xb sb cb s tb cl A F n cu:=h.same (SGo.of_below hb) (h.sr.later hb)
end
theorem own_lt {w:World} {B:Nat} {e:TypeId} {size n:Nat} {g c:Nat} {l:List Value} (h:w.ownsRow B e size (.slice (some ⟨g,0,none⟩) n c) n l) (hn:0 < n):g < w.heap.size:=by
 obtain ⟨_,⟨h1,h2⟩ | ⟨g',cap,cur,e1,_,hg,_⟩⟩:=h
 ·omega
 ·injection e1 with e1
  injection e1 with e1
  injection e1 with e1
  subst e1
  exact lt_heap hg
theorem range_two {w:World} {b o:Nat} {x y:Value} (h0:w.cell? ⟨b,o,none⟩ = some x) (h1:w.cell? ⟨b,o + 1,none⟩ = some y):w.rangeAt b o [x,y]:=fun j v hj=>by
 match j,hj with
 | 0,hj =>
  injection hj with hj
  rw [← hj]
  exact h0
 | 1,hj =>
  injection hj with hj
  rw [← hj]
  exact h1
theorem pos_of {z n:Nat} (h:((z:Int) == 0) = false) (hz:z = n):1 ≤ n:=by
 have h9:¬ (z:Int) = 0:=by simpa using h
 omega
theorem wrap_small (M:Nat) (h:M < 255):IntKind.i64.wrap (1 + (M:Int)) = 1 + (M:Int):=by
 unfold IntKind.wrap
 simp [IntKind.bits,IntKind.signed]
 omega
theorem has_ins {cl:List (List Nat)} (hok:∀ d ∈ cl,DigOk d) (hr:RiseK dK cl) (c:ByteArray):Maps.has (cD (insK dK (dOfB c) cl)) (dKey (dOfB c)) = true:=by
 have hm:∀ d,d ∈ insK dK (dOfB c) cl ↔ d = dOfB c ∨ d ∈ cl:=fun d=>insK_mem_iff (fun a ha e=>dK_inj (hok a ha) (dOfB_ok c) e) hr
 rw [cD_has (fun d hd=>by
  rcases (hm d).1 hd with e | hd
  ·rw [e];exact dOfB_ok c
  ·exact hok d hd) (dOfB_ok c)]
 exact decide_eq_true ((hm _).2 (.inl rfl))
theorem blob_info:(Tryz.prog.info? 73).map (·.size) = some 2:=by kernel_rfl
theorem blob_arr (a b:Value):(Tryz.prog.info? 73).map (·.size) = some (#[a,b]:Array Value).size:=blob_info
theorem blob_list (a b:Value):(Tryz.prog.info? 73).map (·.size) = some ([a,b]:List Value).length:=blob_info
theorem two_size (a b c d:Value):(#[a,b]:Array Value).size = (#[c,d]:Array Value).size:=rfl
theorem blob_one (a:ByteArray) (z:Int):(#[.string a,.int .i64 z]:Array Value).all (·.oneCell') = true:=by simp [Value.oneCell']
theorem rotten_any (w:World) (oa:Option Addr) (cc:Nat) (l:List StepV) (which at' mask b:Int) (hg:Gl w) (hl:StepsAt w.heap.size w oa l) (hn:l.length ≤ 262144) (hwh:i64r which) (hat:i64r at') (hma:i64r mask) (hbb:i64r b) :
  Calls Tryz.prog 9 #[.slice oa l.length cc,.int .i64 which,.int .i64 at',.int .i64 mask,.int .i64 b] w fun e w'=>e = .returned (.bool true) ∧ Below w.heap.size w w':=by
 have HBG:=hide (begun_sa w hg)
 have HL:=hide hl
 have HCO:=hide (fun W=>content_of b hbb.1 hbb.2 W)
 have hcx:=conx_size b
 have HFR:=hide (show ∀ A,InK A → conC A (conT b ++ xB) = none from fun A h=>h.free b)
 have HPT:=hide (show ∀ A,InK A → (⟨nbC A.cs (newC A (conT b ++ xB)),A.tg⟩ : Sto) = ⟨insK kC (conT b ++ xB) A.cs,A.tg⟩ from fun A h=>h.put b)
 generalize conT b = CT at HCO hcx HFR HPT
 obtain ⟨c,hc⟩ : ∃ c,c = CT ++ xB:=⟨_,rfl⟩
 have hcs:CT.size ≤ 300:=by have:=hcx.1;rw [ByteArray.size_append] at this;omega
 have HC:=hide (show CT ++ ⟨#[120]⟩ = c from hc.symm)
 rw [← hc] at hcx HFR HPT
 have HPM:Hid (∀ W,Calls Tryz.prog 21 #[.int .i64 mask,.int .i64 255] W fun e w'=>e = .returned (.int .i64 ((pickN mask 255:Nat):Int)) ∧ w' = W):=hide (fun W=>pick_any mask 255 (by decide) (by decide) hma.1 hma.2 W)
 have hml:=pickN_lt mask 255 (by decide)
 generalize pickN mask 255 = M at HPM hml
 have HPW:=hide (fun (m:Nat) (h0:0 < m) (h1:m ≤ 9223372036854775807) W=>And.intro (pickN_lt which m h0) (pick_any which m h0 h1 hwh.1 hwh.2 W))
 have HPA:=hide (fun (m:Nat) (h0:0 < m) (h1:m ≤ 9223372036854775807) W=>And.intro (pickN_lt at' m h0) (pick_any at' m h0 h1 hat.1 hat.2 W))
 obtain ⟨N,hN⟩ : ∃ N,N = w.heap.size:=⟨_,rfl⟩
 rw [← hN] at HBG HL ⊢
 have HN:=hide hN
 obtain ⟨q,hq⟩ : ∃ q,q = l.length:=⟨_,rfl⟩
 rw [← hq] at hn ⊢
 have HQ:=hide hq
 clear hg hl hN hq hwh hat hma hbb hc
 go_enter Tryz.func9,Tryz.ntmps9
 go_wp2_with fail
 refine (HBG.out).mono ?_
 rintro _ w1 ⟨d,xb,sb,cb,s1,t1,l1,rfl,hb1,hs1,hf1⟩
 dsimp only
 have hN1:N ≤ w1.heap.size:=by have:=hb1.size;have:=HN.out;omega
 have HB1:=hide hb1
 have HS1:=hide hs1
 have HF1:=hide hf1
 clear hb1 hs1 hf1 HBG
 go_wp2_with fail
 go_loopw [13] (fun iv wr=>∃ (j:Nat),j ≤ q ∧ iv = .int .i64 ((j:Nat):Int) ∧ Below N w wr ∧ N ≤ wr.heap.size ∧ ∃ s tb cl A,InK A ∧ SA wr d xb sb cb s tb cl A 1099511627776 (j + 3) (100 + j * 262300) ∧ ∀ k,fpr s xb sb cb tb k → N ≤ k) (fun iv _=>q - (intOf iv).toNat)
 case atStart=>exact ⟨0,Nat.zero_le _,rfl,HB1.out,hN1,s1,t1,l1,A1,InK.first,HS1.out.mono (Nat.le_refl _) (by decide),HF1.out⟩
 case round =>
  obtain ⟨j,hj,rfl,hb,hNr,s,tb,cl,A,hin,h1,hf1⟩:=hrel
  have HB:=hide hb
  have H1:=hide h1
  have HF:=hide hf1
  have HI:=hide hin
  clear h1 hf1 hb hin
  by_cases hlt:j < q
  ·have hjl:j < l.length:=by rw [← HQ.out];exact hlt
   obtain ⟨b,o,rfl,hbN,hrg,hok⟩:=(HL.out.low HB.out.block) j hjl
   generalize l.getD j step0 = t at hrg hok
   obtain ⟨K,M,B⟩:=t
   obtain ⟨okK,okM,okB⟩:=hok
   have HD1:=hide (does_any H1.out (by omega) (by omega) K M B okK okM okB)
   have hin2:=HI.out.run 1099511627776 K M B
   generalize (dsPl A K M B).run 1099511627776 A = X at HD1 hin2
   obtain ⟨X1,X2,X3⟩:=X
   dsimp only at HD1 hin2
   have HI2:=hide hin2
   have hi31:(Tryz.prog.info? 31).map (·.size) = some ([.int .i64 K,.int .i64 M,.int .i64 B]:List Value).length:=by show _ = some 3;kernel_rfl
   have HR0:=hide (show wr.rangeAt b (o + j * 3) [.int .i64 K,.int .i64 M,.int .i64 B] from hrg)
   have d9:decide (((j:Nat):Int) < ((q:Nat):Int)) = true:=decide_eq_true (by omega)
   clear hrg hjl hin2
   go_wp2_with (refine wpList_load_mid rfl 31 _ rfl b (o + j * 3) rfl [.int .i64 K,.int .i64 M,.int .i64 B] _ HR0.out Tryz.underlying31 rfl hi31 ?_)
   refine (HD1.out).mono ?_
   rintro _ w3 ⟨rfl,s3,t3,l3,hg3,ht3,h3⟩
   dsimp only
   have hf3:∀ k,fpr s3 xb sb cb t3 k → N ≤ k:=fun k hk=>by
    rcases fpr_next hg3 ht3 hk with hk | hk
    ·exact HF.out k hk
    ·omega
   have hb3:Below N wr w3:=hg3.lowN (fun k hk=>HF.out k (hk.elim .inl (fun e=>.inr (.inl e)))) hNr
   have HB3:=hide (HB.out.trans hb3)
   have hN3:N ≤ w3.heap.size:=Nat.le_trans hNr hb3.size
   have HF3:=hide hf3
   have H3:=hide (h3.mono (show j + 3 + 1 ≤ j + 1 + 3 by omega) (show 100 + j * 262300 + (j + 3) + 20 ≤ 100 + (j + 1) * 262300 by omega))
   clear hg3 ht3 h3 hf3 hb3 HD1 HR0 H1 HF HB
   go_wp2_with fail
   exact ⟨⟨j + 1,by omega,by simp,HB3.out,hN3,s3,t3,l3,X3,HI2.out,H3.out,HF3.out⟩,by simp only [intOf];omega⟩
  ·have d9:decide (((j:Nat):Int) < ((q:Nat):Int)) = false:=decide_eq_false (by omega)
   have hjq:j = q:=by omega
   subst hjq
   have HP1:=hide (saPut H1.out (by omega) (by omega) abcB (by decide))
   rw [put_run H1.out.good (by have:=H1.out.len;omega) (b:=abcB) (by decide)] at HP1
   have hinA:InK ⟨nbC A.cs (newC A abcB),A.tg⟩:=HI.out.new (.inl rfl)
   generalize (⟨nbC A.cs (newC A abcB),A.tg⟩ : Sto) = A2 at HP1 hinA
   have HP1b:Hid (Calls Tryz.prog 30 #[.pointer (some ⟨xb,0,none⟩),.string ⟨#[97,98,99]⟩] wr fun e w'=>e = .returned (.tuple #[.string (hxB abcB),.int .i64 0]) ∧ SaN wr w' d xb sb cb s tb A2 1099511627776 (j + 3 + 1) (100 + j * 262300 + (j + 3) + 20)):=HP1
   generalize hxB abcB = HAB at HP1b
   have HI2:=hide hinA
   clear HP1 hinA
   go_wp2_with fail
   refine (HP1b.out).mono ?_
   rintro _ w2 ⟨rfl,s2,t2,l2,hg2,ht2,h2⟩
   dsimp only
   have hf2:∀ k,fpr s2 xb sb cb t2 k → N ≤ k:=fun k hk=>by
    rcases fpr_next hg2 ht2 hk with hk | hk
    ·exact HF.out k hk
    ·omega
   have hb2:Below N wr w2:=hg2.lowN (fun k hk=>HF.out k (hk.elim .inl (fun e=>.inr (.inl e)))) hNr
   have HB2:=hide (HB.out.trans hb2)
   have hN2:N ≤ w2.heap.size:=Nat.le_trans hNr hb2.size
   have HF2:=hide hf2
   have H2:=hide h2
   clear hg2 ht2 h2 hf2 hb2 HP1b H1 HF HB HI
   go_wp2_with fail
   refine (HCO.out _).mono ?_
   rintro _ w3 ⟨rfl,hb3⟩
   dsimp only
   have HB3:=hide (HB2.out.trans (hb3.mono hN2))
   have hN3:N ≤ w3.heap.size:=Nat.le_trans hN2 hb3.size
   have h3:=H2.out.later hb3
   have HP3:=hide (saPut h3 (by omega) (by omega) c hcx.1)
   rw [put_run h3.good (by have:=h3.len;omega) (b:=c) hcx.1,HPT.out A2 HI2.out] at HP3
   dsimp only at HP3
   have hfree:=HFR.out A2 HI2.out
   have hmem:∀ x,x ∈ insK kC c A2.cs ↔ x = c ∨ x ∈ A2.cs:=fun x=>insK_mem_iff (fun a ha e=>absurd e (findK_none hfree a ha)) h3.good.rise
   have q1:¬ 9223372036854775807 < CT.size + 1:=by omega
   clear hb3 h3 hfree H2 HB2
   go_wp2_with fail
   rw [HC.out]
   refine (HP3.out).mono ?_
   rintro _ w4 ⟨rfl,s4,t4,l4,hg4,ht4,h4⟩
   dsimp only
   have hf4:∀ k,fpr s4 xb sb cb t4 k → N ≤ k:=fun k hk=>by
    rcases fpr_next hg4 ht4 hk with hk | hk
    ·exact HF2.out k hk
    ·omega
   have hb4:Below N w3 w4:=hg4.lowN (fun k hk=>HF2.out k (hk.elim .inl (fun e=>.inr (.inl e)))) hN3
   have HB4:=hide (HB3.out.trans hb4)
   have hN4:N ≤ w4.heap.size:=Nat.le_trans hN3 hb4.size
   have HF4:=hide hf4
   have HBL:=hide (saBlobs h4 (by omega))
   have HLT:=hide h4.lt
   generalize hA3:(⟨insK kC c A2.cs,A2.tg⟩ : Sto) = A3 at h4 HBL
   have hcm:c ∈ A3.cs:=by rw [← hA3];exact (hmem c).2 (.inl rfl)
   have hlen3:=h4.len
   have HG3:=hide h4.good
   clear hg4 ht4 h4 hf4 hb4 HP3 HF2 HB3 hA3 hmem HI2 HFR HPT
   go_wp2_with fail
   refine (HBL.out).mono ?_
   rintro _ w5 ⟨v5,rfl,hrow5,hg5,hs5⟩
   dsimp only
   have hm0:0 < A3.cs.length:=List.length_pos_of_mem hcm
   obtain ⟨m,hm⟩ : ∃ m,m = A3.cs.length:=⟨_,rfl⟩
   rw [← hm] at hrow5 hm0 hlen3
   obtain ⟨g1,c1,rfl,hc0⟩:=row_flat (enc:=bC) (k:=2) (fun x=>rfl) hrow5 hm (i:=0) (by omega)
   have HCL:=hide (show ∀ W:World,W.heap[g1]? = w5.heap[g1]? → ∀ i (hi:i < A3.cs.length),W.cell? ⟨g1,i * 2,none⟩ = some (.string (hxB (A3.cs[i]'hi))) ∧ W.cell? ⟨g1,i * 2 + 1,none⟩ = some (.int .i64 ((A3.cs[i]'hi).size:Int)) from fun W hW i hi=>by
    obtain ⟨g3,c3,e3,hc3⟩:=row_flat (enc:=bC) (k:=2) (fun x=>rfl) hrow5 hm hi
    injection e3 with e3 _ _
    injection e3 with e3
    injection e3 with e3
    subst e3
    exact ⟨(World.cell?_of_block (a:=⟨g1,i * 2,none⟩) hW).trans (hc3 0 _ rfl),(World.cell?_of_block (a:=⟨g1,i * 2 + 1,none⟩) hW).trans (hc3 1 _ rfl)⟩)
   have hg1:w4.heap.size ≤ g1:=own_ge hrow5 g1 rfl
   have hg1l:g1 < w5.heap.size:=own_lt hrow5 hm0
   have HSR:=hide hs5.sr
   have HNO:=hide (show ∀ k,w4.heap.size ≤ k → ¬ (s4.own k ∨ sS xb sb cb k) from fun k hk e=>by
    have:=HLT.out k (e.elim .inl (fun e=>.inr (.inl e)))
    omega)
   have HB5:=hide (HB4.out.trans (hg5.lowN (fun k hk=>HF4.out k (hk.elim .inl (fun e=>.inr (.inl e)))) hN4))
   have HOW:=hide (show ∀ k,s4.own k ∨ sS xb sb cb k → N ≤ k from fun k hk=>HF4.out k (hk.elim .inl (fun e=>.inr (.inl e))))
   have hN5:N ≤ w5.heap.size:=Nat.le_trans hN4 hg5.gr.size
   have h45:w4.heap.size ≤ w5.heap.size:=hg5.gr.size
   have HM:=hide hm
   have d1:decide (((m:Nat):Int) = 0) = false:=decide_eq_false (by omega)
   clear hrow5 hg5 hs5 hc0 hm HBL HLT HF4 HB4
   go_wp2_with fail
   obtain ⟨hpl,hpk⟩:=HPW.out m hm0 (by omega) w5
   generalize pickN which m = i at hpl hpk
   refine hpk.mono ?_
   rintro _ wp ⟨rfl,hwp⟩
   rw [hwp]
   dsimp only
   clear hwp hpk HPW
   have hil:i < A3.cs.length:=by rw [← HM.out];exact hpl
   have hxm:A3.cs[i]'hil ∈ A3.cs:=List.getElem_mem hil
   obtain ⟨r0,r1⟩:=HCL.out w5 rfl i hil
   generalize A3.cs[i]'hil = x at r0 r1 hxm
   obtain ⟨z,hz⟩ : ∃ z,z = x.size:=⟨_,rfl⟩
   rw [← hz] at r1
   have hrg:=range_two r0 r1
   have HRG:=hide hrg
   have HXM:=hide hxm
   have HZ:=hide hz
   clear hrg r0 r1 hxm hz
   go_wp2_with (first | refine wpList_load_mid rfl 73 _ rfl g1 (i * 2) rfl [.string (hxB x),.int .i64 (z:Int)] _ HRG.out Tryz.underlying73 rfl (blob_list _ _) ?_ | (refine wpList_store_row rfl 73 _ _ rfl w5.heap.size _ rfl rfl 73 _ (heap_alloc_new _ _) (blob_arr _ _) (two_size _ _ _ _) (blob_one _ _) ?_;rw [World.setRow_alloc_new]))
   all_goals first
    | (obtain ⟨W,hW⟩ : ∃ W,W = w5.alloc (.cells #[.string (hxB c),.int .i64 (c.size:Int)] 73):=⟨_,rfl⟩
       rw [← hW]
       have hy:∃ y,y ∈ A3.cs ∧ 1 ≤ y.size ∧ Below w5.heap.size w5 W ∧ W.heap[w5.heap.size]? = some (.cells #[.string (hxB y),.int .i64 (y.size:Int)] 73 (0,0)) ∧ w5.heap.size < W.heap.size:=⟨c,hcm,hcx.2,by rw [hW];exact (Below.refl _ _).alloc (Nat.le_refl _) _,by rw [hW];exact heap_alloc_new _ _,by rw [hW];simp⟩)
    | (obtain ⟨W,hW⟩ : ∃ W,W = w5.alloc (.cells #[.string (hxB x),.int .i64 (z:Int)] 73):=⟨_,rfl⟩
       rw [← hW]
       have hy:∃ y,y ∈ A3.cs ∧ 1 ≤ y.size ∧ Below w5.heap.size w5 W ∧ W.heap[w5.heap.size]? = some (.cells #[.string (hxB y),.int .i64 (y.size:Int)] 73 (0,0)) ∧ w5.heap.size < W.heap.size:=⟨x,HXM.out,pos_of (by assumption) HZ.out,by rw [hW];exact (Below.refl _ _).alloc (Nat.le_refl _) _,by rw [hW,HZ.out];exact heap_alloc_new _ _,by rw [hW];simp⟩)
   all_goals clear hW HRG HXM HZ
   all_goals obtain ⟨y,hym,hy1,hbW,hrow,hBl⟩:=hy
   all_goals (
    have hrn:Rn N w W (fun k=>k = g1 ∨ k = w5.heap.size) W d xb sb cb s4 t4 l4 A3 (fA A3) (j + 3 + 1 + 1) (100 + j * 262300 + (j + 3) + 20 + (j + 3 + 1) + 20):=⟨HSR.out.later hbW,rfl,fun _ _=>rfl,fun g hT=>by
     rcases hT with e | e
     ·rw [e];omega
     ·rw [e];omega,fun g hT=>HNO.out g (by rcases hT with e | e <;> omega),HB5.out.trans (hbW.mono hN5),Nat.le_trans hN5 hbW.size,HOW.out⟩
    have HCE:=hide (show ∀ W':World,W'.heap[w5.heap.size]? = W.heap[w5.heap.size]? → W'.cell? ⟨w5.heap.size,0,none⟩ = some (.string (hxB y)) ∧ W'.cell? ⟨w5.heap.size,1,none⟩ = some (.int .i64 (y.size:Int)) from fun W' hW'=>⟨cell_of_row _ _ 0 _ _ _ (hW'.trans hrow),cell_of_row _ _ 1 _ _ _ (hW'.trans hrow)⟩)
    have hg1W:W.heap[g1]? = w5.heap[g1]?:=hbW.block g1 hg1l
    have HCL2:=hide (show ∀ W':World,W'.heap[g1]? = W.heap[g1]? → ∀ i (hi:i < A3.cs.length),W'.cell? ⟨g1,i * 2,none⟩ = some (.string (hxB (A3.cs[i]'hi))) ∧ W'.cell? ⟨g1,i * 2 + 1,none⟩ = some (.int .i64 ((A3.cs[i]'hi).size:Int)) from fun W' hW'=>HCL.out W' (hW'.trans hg1W))
    have hy3:y.size ≤ 300:=HG3.out.sz y hym
    obtain ⟨hal,_⟩:=HPA.out y.size (by omega) (by omega) W
    have HPA2:=hide (fun W=>(HPA.out y.size (by omega) (by omega) W).2)
    have hrd:=hrn.later ((Below.refl _ _).drew)
    have hkC:(⟨#[98,108,111,98,115,47]⟩ : ByteArray) ++ hxB y = kC y:=(cPath_app _).symm
    have HSP:=hide (roSpoilC hrd.sr hrd.sh hym ((pickN at' y.size:Nat):Int) (IntKind.i64.wrap (1 + (M:Int))) (by rw [wrap_small M hml];omega) (by rw [wrap_small M hml];omega) (by omega) (by omega))
    rw [← hkC] at HSP
    have q8:¬ 9223372036854775807 < 6 + (hxB y).size:=by have:(hxB y).size = 64:=dtx_size _;omega
    generalize pickN at' y.size = a at HPA2 hal HSP
    have hS0:=HCE.out W.drew rfl
    have HRD:=hide hrd
    clear hrn hrd hkC hbW hrow hBl HCL HSR HNO HB5 HOW HPA hg1 hg1l h45 hm0 hg1W
    go_region_held3 (fun w'=>w'.cell? ⟨w5.heap.size,0,none⟩ = some (.string (hxB y)) ∧ w'.cell? ⟨w5.heap.size,1,none⟩ = some (.int .i64 (y.size:Int))) (first | exact hS0 | exact hS7 | go_keep) ((first
     | (go_at_call 21;(with_reducible refine (HPM.out _).mono ?_);rintro _ w6 ⟨rfl,rfl⟩)
     | (go_at_call 21;(with_reducible refine (HPA2.out _).mono ?_);rintro _ w6 ⟨rfl,rfl⟩)
     | (go_at_call 33;(with_reducible refine (HSP.out).mono ?_);rintro _ w7 ⟨rfl,s7,x7,hg7,hs7,hsh7⟩;have hr7:=HRD.out.go hg7 hs7 hsh7;have hS7:=HCE.out w7 (hr7.blk w5.heap.size (.inr rfl)))))
    have HR7:=hide hr7
    have hS7b:=hS7
    obtain ⟨e70,e71⟩:=hS7b
    have HGT:=hide (roGet hr7.sr hym)
    have hcon:(conR s7.ds (dOfB y) = none) ∨ ∃ t,conR s7.ds (dOfB y) = some t ∧ hxB t = hxB y ∧ t.size ≤ 300:=by
     cases h9:conR s7.ds (dOfB y) with
     | none=>exact .inl rfl
     | some t=>exact .inr ⟨t,rfl,conR_hash h9,hr7.sr.rd300 hr7.sh (con300 h9)⟩
    have HOT:=hide (show ∀ z ∈ A3.cs,hxB z ≠ hxB y → conR s7.ds (dOfB z) = some z from fun z hz hne=>by
     have h9:=hr7.sr
     exact SR.other h9 hz hne)
    have HXS:=hide (dtx_size (dOfB y))
    generalize hHY:hxB y = HY at *
    clear hr7 hg7 hs7 hsh7 hS7 hS0 HSP HRD
    go_wp2_with fail
    rcases hcon with hc9 | ⟨t,hc9,hte,hts⟩
    all_goals rw [hc9] at HGT
    all_goals dsimp only [Option.isSome,Option.getD] at HGT
    all_goals try rw [if_pos rfl] at HGT
    all_goals try rw [if_neg (by decide)] at HGT
    all_goals clear hc9
    all_goals refine (HGT.out).mono ?_
    all_goals rintro _ w8 ⟨rfl,hg8,hs8⟩
    all_goals dsimp only
    all_goals have hr8:=HR7.out.same hg8 hs8
    all_goals have HR8:=hide hr8
    all_goals obtain ⟨e80,e81⟩:=HCE.out w8 (hr8.blk w5.heap.size (.inr rfl))
    all_goals have HGL8:=hide hr8.sr.sw.gl
    all_goals clear hr8 hg8 hs8 HGT HR7 e70 e71
    all_goals go_wp2_with fail
    all_goals first
     | (have HHA:Hid (∀ W,Gl W → Calls Tryz.prog 35 #[.string t] W fun e w'=>e = .returned (.string HY) ∧ Below W.heap.size W w'):=hide (fun W hW=>by rw [← hte];exact hashK t W hts hW)
        have hdr:Below w8.heap.size w8 w8.drew:=(Below.refl _ _).drew
        have hS8:w8.drew.cell? ⟨w5.heap.size,0,none⟩ = some (.string HY):=cell_later hdr e80
        go_region_held3 (fun w'=>w'.cell? ⟨w5.heap.size,0,none⟩ = some (.string HY)) (first | exact hS8 | exact hS9 | go_keep) ((go_at_call 35;refine (HHA.out _ (HGL8.out.later hdr)).mono ?_;rintro _ w9 ⟨rfl,hb9⟩;have hb10:Below w8.heap.size w8 w9:=hdr.trans hb9;have hS9:w9.cell? ⟨w5.heap.size,0,none⟩ = some (.string HY):=cell_later hb10 e80))
        have HR9:=hide (HR8.out.later hb10)
        clear hb9 hb10 hS9 hS8 hdr HHA HGL8 HR8 e80 e81)
     | (go_quiet (fail)
        have HR9:=hide HR8.out
        clear HGL8 HR8 e80 e81)
    all_goals go_wp2_with fail
    all_goals (
     go_loopw [23] (fun iv wr=>∃ (i:Nat),i ≤ m ∧ iv = .int .i64 ((i:Nat):Int) ∧ Rn N w W (fun k=>k = g1 ∨ k = w5.heap.size) wr d xb sb cb s7 t4 l4 A3 (spF (fA A3) (⟨#[98,108,111,98,115,47]⟩ ++ HY) x7) (j + 3 + 1 + 1) (100 + j * 262300 + (j + 3) + 20 + (j + 3 + 1) + 20)) (fun iv _=>m - (intOf iv).toNat)
     case atStart=>first | exact ⟨0,Nat.zero_le _,rfl,HR9.out⟩ | exact ⟨0,Nat.zero_le _,rfl,HR9.out.later ((Below.refl _ _).drewN _)⟩
     case round =>
      obtain ⟨i,him,rfl,hri⟩:=hrel
      have HRI:=hide hri
      by_cases hilt:i < m
      ·have hil:i < A3.cs.length:=by rw [← HM.out];exact hilt
       have hxm:A3.cs[i]'hil ∈ A3.cs:=List.getElem_mem hil
       obtain ⟨r0,r1⟩:=HCL2.out wr (hri.blk g1 (.inl rfl)) i hil
       have HRC:=hide (show ∀ W':World,W'.heap[g1]? = W.heap[g1]? → W'.cell? ⟨g1,i * 2,none⟩ = some (.string (hxB (A3.cs[i]'hil))) ∧ W'.cell? ⟨g1,i * 2 + 1,none⟩ = some (.int .i64 ((A3.cs[i]'hil).size:Int)) from fun W' hW'=>HCL2.out W' hW' i hil)
       generalize A3.cs[i]'hil = x at r0 r1 hxm HRC
       have HGT:=hide (roGet hri.sr hxm)
       have hx3:x.size ≤ 300:=HG3.out.sz x hxm
       have d2:decide (((i:Nat):Int) < ((m:Nat):Int)) = true:=decide_eq_true (by omega)
       obtain ⟨zx,hzx⟩ : ∃ zx,zx = x.size:=⟨_,rfl⟩
       rw [← hzx] at r1 HRC
       have HZX:=hide hzx
       by_cases hne:hxB x = HY
       ·rw [hne] at r0 HRC HGT
        generalize (conR s7.ds (dOfB x)).getD ⟨#[]⟩ = T at HGT
        generalize (if (conR s7.ds (dOfB x)).isSome = true then (0:Int) else 13) = K at HGT
        clear hri hne hzx
        go_wp2_with fail
        refine (HGT.out).mono ?_
        rintro _ wg ⟨rfl,hgg,hsg⟩
        dsimp only
        have hrg:=HRI.out.same hgg hsg
        obtain ⟨b0,b1⟩:=HRC.out wg (hrg.blk g1 (.inl rfl))
        obtain ⟨f0,f1⟩:=HCE.out wg (hrg.blk w5.heap.size (.inr rfl))
        have HRG:=hide hrg
        clear hgg hsg hrg HGT HRI r0 r1
        go_wp2_with fail
        go_quiet (fail)
        go_wp2_with fail
        exact ⟨⟨i + 1,by omega,by simp,HRG.out.later ((Below.refl _ _).drewN _)⟩,by simp only [intOf];omega⟩
       ·have hsome:=HOT.out x hxm hne
        rw [hsome] at HGT
        dsimp only [Option.isSome,Option.getD] at HGT
        rw [if_pos rfl] at HGT
        have HHA:=hide (fun W (hW:Gl W)=>hashK x W hx3 hW)
        clear hsome hri hzx
        generalize hHX:hxB x = HX at *
        go_wp2_with fail
        refine (HGT.out).mono ?_
        rintro _ wg ⟨rfl,hgg,hsg⟩
        dsimp only
        have hrg:=HRI.out.same hgg hsg
        obtain ⟨b0,b1⟩:=HRC.out wg (hrg.blk g1 (.inl rfl))
        obtain ⟨f0,f1⟩:=HCE.out wg (hrg.blk w5.heap.size (.inr rfl))
        have HRG:=hide hrg
        have HGLg:=hide hrg.sr.sw.gl
        have hdr:Below wg.heap.size wg wg.drew:=(Below.refl _ _).drew
        have hSg:wg.drew.cell? ⟨g1,i * 2,none⟩ = some (.string HX) ∧ wg.drew.cell? ⟨g1,i * 2 + 1,none⟩ = some (.int .i64 (zx:Int)) ∧ wg.drew.cell? ⟨w5.heap.size,0,none⟩ = some (.string HY):=⟨cell_later hdr b0,cell_later hdr b1,cell_later hdr f0⟩
        have hne2:(HX.toList == HY.toList) = false:=beq_false_of_ne (fun e=>hne ((toList_inj _ _).1 e))
        have hzi:(x.size:Int) = (zx:Int):=by rw [HZX.out]
        clear hgg hsg hrg HGT HRI r0 r1
        go_wp2_with fail
        go_region_held3 (fun w'=>w'.cell? ⟨g1,i * 2,none⟩ = some (.string HX) ∧ w'.cell? ⟨g1,i * 2 + 1,none⟩ = some (.int .i64 (zx:Int)) ∧ w'.cell? ⟨w5.heap.size,0,none⟩ = some (.string HY)) (first | exact hSg | exact hSh | go_keep) ((go_at_call 35;refine (HHA.out _ (HGLg.out.later hdr)).mono ?_;rintro _ wh ⟨rfl,hbh⟩;have hbi:Below wg.heap.size wg wh:=hdr.trans hbh;have hSh:wh.cell? ⟨g1,i * 2,none⟩ = some (.string HX) ∧ wh.cell? ⟨g1,i * 2 + 1,none⟩ = some (.int .i64 (zx:Int)) ∧ wh.cell? ⟨w5.heap.size,0,none⟩ = some (.string HY):=⟨cell_later hbi b0,cell_later hbi b1,cell_later hbi f0⟩))
        have HRH:=hide (HRG.out.later hbi)
        clear hbh hbi hSg hSh hdr HHA HGLg HRG
        go_wp2_with fail
        exact ⟨⟨i + 1,by omega,by simp,HRH.out⟩,by simp only [intOf];omega⟩
      ·have d2:decide (((i:Nat):Int) < ((m:Nat):Int)) = false:=decide_eq_false (by omega)
       have hkC:(⟨#[98,108,111,98,115,47]⟩ : ByteArray) ++ hxB c = kC c:=(cPath_app _).symm
       have HSP:=hide (fun W' (h:Rn N w W (fun k=>k = g1 ∨ k = w5.heap.size) W' d xb sb cb s7 t4 l4 A3 (spF (fA A3) (⟨#[98,108,111,98,115,47]⟩ ++ HY) x7) (j + 3 + 1 + 1) (100 + j * 262300 + (j + 3) + 20 + (j + 3 + 1) + 20))=>roSpoilC h.sr h.sh hcm 0 1 (by decide) (by decide) (by decide) (by have:=hcx.2;omega))
       rw [← hkC] at HSP
       have q9:¬ 9223372036854775807 < 6 + (hxB c).size:=by have:(hxB c).size = 64:=dtx_size _;omega
       have hdg:=hx_dig c
       have hrdc:=hx_rd c
       clear hri hkC
       go_wp2_with fail
       first | refine (HSP.out _ HRI.out).mono ?_ | refine (HSP.out _ (HRI.out.later ((Below.refl _ _).drew))).mono ?_
       rintro _ wa ⟨rfl,sa,xa,hga,hsa,hsha⟩
       dsimp only
       have hra:Rn N w W (fun k=>k = g1 ∨ k = w5.heap.size) wa d xb sb cb sa t4 l4 A3 (spF (spF (fA A3) (⟨#[98,108,111,98,115,47]⟩ ++ HY) x7) (⟨#[98,108,111,98,115,47]⟩ ++ hxB c) xa) (j + 3 + 1 + 1) (100 + j * 262300 + (j + 3) + 20 + (j + 3 + 1) + 20):=by
        first | exact HRI.out.go hga hsa hsha | exact (HRI.out.later ((Below.refl _ _).drew)).go hga hsa hsha
       have HPU:=hide (roPut hra.sr hra.sh (by rw [← HM.out];exact hlen3) rfl (by omega) (by omega) c hcx.1)
       have HRA:=hide (And.intro hra.bel (And.intro hra.hN hra.own))
       have HOK:=hide (And.intro (has_ins hra.sr.ok (mD_rise hra.sr.sw.cm dig_keyed) c) hra.sr.hG)
       clear hga hsa hsha hra HSP HRI
       go_wp2_with fail
       refine (HPU.out).mono ?_
       rintro _ wb ⟨rfl,sb',tb',nb',lb',cb',hgb,hbst,hstb,hcon,hdig,hcb3,hrdb⟩
       dsimp only
       have hbb:Below N wa wb:=hgb.lowN HRA.out.2.2 HRA.out.2.1
       have hNb:N ≤ wb.heap.size:=Nat.le_trans HRA.out.2.1 hbb.size
       have hownb:∀ k,sb'.own k ∨ sS xb sb cb k → N ≤ k:=fun k hk=>by
        rcases hk with hk | hk
        ·rcases hgb.own k hk with e | e
         ·exact HRA.out.2.2 k (.inl e)
         ·have:=HRA.out.2.1
          omega
        ·exact HRA.out.2.2 k (.inr hk)
       have HGE:=hide (bGet_any xb sb sb' cb tb' nb' _ lb' (hxB c) wb hbst HOK.out.2 hstb (unitC_cD _) hdg (by rw [hrdc];exact HOK.out.1) (fun t ht=>by rw [hrdc] at ht;have:=hrdb t ht;omega))
       rw [hrdc,hcon] at HGE
       dsimp only [Option.isSome,Option.getD] at HGE
       rw [if_pos rfl] at HGE
       have HHC:Hid (∀ W,Gl W → Calls Tryz.prog 35 #[.string cb'] W fun e w'=>e = .returned (.string (hxB c)) ∧ Below W.heap.size W w'):=hide (fun W hW=>by
        rw [show hxB c = hxB cb' by unfold hxB;rw [hdig]]
        exact hashK cb' W hcb3 hW)
       have HBB:=hide (HRA.out.1.trans hbb)
       have HOWB:=hide hownb
       clear hgb hbst hstb hcon hdig hrdb hbb hownb HPU HRA HOK
       generalize hxB c = HC1 at *
       go_wp2_with fail
       refine (HGE.out).mono ?_
       rintro _ wc ⟨rfl,hgc,hbsc,hstc⟩
       dsimp only
       have HBC:=hide (HBB.out.trans (hgc.lowN HOWB.out hNb))
       have HGC:=hide hstc.gl
       have hNc:N ≤ wc.heap.size:=Nat.le_trans hNb hgc.gr.size
       have hdr:Below wc.heap.size wc wc.drew:=(Below.refl _ _).drew
       have hTr:True:=trivial
       clear hgc hbsc hstc HGE HBB HOWB
       go_wp2_with fail
       first | refine (HHC.out _ HGC.out).mono ?_ | refine (HHC.out _ (HGC.out.later hdr)).mono ?_
       rintro _ wd ⟨rfl,hbd⟩
       dsimp only
       have hbe:Below wc.heap.size wc wd:=by first | exact hbd | exact hdr.trans hbd
       have HBE:=hide (HBC.out.trans (hbe.mono hNc))
       clear hbd hbe hdr HHC HGC HBC
       go_wp2_with fail
       go_ret
       exact ⟨rfl,HBE.out⟩))
end Go.Proofs.YtncigfibncmioaaGreatDoor
