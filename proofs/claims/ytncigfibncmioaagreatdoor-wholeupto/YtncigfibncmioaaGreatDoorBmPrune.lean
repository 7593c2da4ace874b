/-
  PROVED HERE: what load of a store reads, whatever tags and contents there are.
-/
import Derived.Test.YtncigfibncmioaaGreatDoorStBegin
import Derived.Test.YtncigfibncmioaaGreatDoorIdxRd
import Derived.Test.YtncigfibncmioaaGreatDoorSmPub
import Derived.Test.YtncigfibncmioaaGreatDoorStKeep
import Derived.Test.YtncigfibncmioaaGreatDoorSmWr
import Derived.Test.YtncigfibncmioaaGreatDoorBmUntag
import Derived.Test.YtncigfibncmioaaGreatDoorSmUntd
import Derived.Test.YtncigfibncmioaaGreatDoorStGoOn
import Derived.Test.YtncigfibncmioaaGreatDoorStSort
import Derived.Test.YtncigfibncmioaaGreatDoorErReop
namespace Go.Proofs.YtncigfibncmioaaGreatDoor
set_option maxHeartbeats 4000000
set_option maxRecDepth 100000
open Go.RowKit
def TE.en (t:TE):En:=⟨t.n,dtx t.d,t.z.toNat⟩
theorem en_cells {t:TE} (h:t.Ok):En.ecells t.en = (ecellsOf t.n t.d t.z).toList:=by
 unfold En.ecells TE.en
 dsimp only
 rw [rd_dtx t.d h.len h.lt,show ((t.z.toNat:Nat):Int) = t.z by have:=h.z0;omega]
theorem en_len (e:En):(En.ecells e).length = 34:=by
 unfold En.ecells
 rw [Array.length_toList,ecellsOf_size _ _ _ (rd_len _)]
theorem StW.putT {W W':World} {sb:Nat} {s:PSt} {cb tb nc nt n':Nat} {Dc Dt D':DataW Value} (h:StW W sb s cb tb nc nt Dc Dt) (hg:W.grownBy W' (some tb)) (hc:TM W' tb n' D'):StW W' sb s cb tb nc n' Dc D':=by
 have hne:∀ {k:Nat},k ≠ tb → k < W.heap.size → W'.heap[k]? = W.heap[k]?:=fun hk hl=>hg.block _ hl (fun e=>hk (by injection e))
 refine ⟨h.inn.same (fun k hk=>hne (fun e=>h.ntb (e ▸ hk)) (h.inn.lt hk)),h.gl.same hg.size (fun k hk=>hne (fun e=>h.gtb (e ▸ hk)) (h.gl.lt hk)),h.low,(hne (fun e=>?_) (lt_heap h.blk)).trans h.blk,owns_same h.cm (hne (fun e=>h.ne e) h.cm.lt),hc,h.ncb,h.ntb,h.gcb,h.gtb,h.gsb,h.ne⟩
 obtain ⟨es,clock,h1,_⟩:=h.tm
 rw [← e,h.blk] at h1
 cases h1
theorem ins_last:∀ {l:List TE} {t:TE},(∀ x ∈ l,lessB x.n t.n = true) → insK TE.n t l = l ++ [t]
 | [],_,_=>rfl
 | e :: l,t,h=>by
  have h1:=h e (by simp)
  unfold insK
  rw [if_neg (less_ne h1),if_neg (by rw [Bool.not_eq_true];cases h2:lessB t.n e.n with
   | false=>rfl
   | true=>have:=less_trans h1 h2;rw [less_irrefl] at this;cases this),ins_last (fun x hx=>h x (by simp [hx]))]
  rfl
theorem take_ins {l:List TE} (hr:RiseT l) {j:Nat} (hj:j < l.length):insK TE.n (l[j]'hj) (l.take j) = l.take (j + 1):=by
 rw [List.take_add_one,List.getElem?_eq_getElem hj]
 refine ins_last (fun x hx=>?_)
 obtain ⟨i,hi,rfl⟩:=List.mem_iff_getElem.1 hx
 rw [List.length_take] at hi
 rw [List.getElem_take]
 exact List.pairwise_iff_getElem.1 hr i j (by omega) hj (by omega)
def ctF (l:List DE):List (List Nat):=l.foldl (fun c e=>if dgB e.path then insK dK (dgV e.path) c else c) []
theorem ctF_snoc (l:List DE) (e:DE):ctF (l ++ [e]) = if dgB e.path then insK dK (dgV e.path) (ctF l) else ctF l:=by
 unfold ctF
 rw [List.foldl_append]
 rfl
theorem dgV_ok (p:ByteArray):DigOk (dgV p):=by
 refine ⟨dgV_len p,fun i=>?_⟩
 unfold dgV
 split
 ·exact rd_lt _ i
 ·rw [Sha.zeros,List.getD_eq_getElem?_getD,List.getElem?_replicate]
  split <;> simp
set_option linter.unusedSimpArgs false in
theorem load_many (sb:Nat) (s:PSt) (cb tb:Nat) (p t:ByteArray) (c:Nat) (l:List TE) (w:World) (h:StW w sb s cb tb 0 0 (.map []) (.map [])) (hp:p.size ≤ 9223372036854775807) (hrd:rdD s.ds p = some t) (ht:t.size ≤ 2000) (hr:readS t = .ok (l.map TE.en) c) (hok:∀ x ∈ l,x.Ok) (hrise:RiseT l) (h8:l.length ≤ 8) (hn:s.R.now.length ≤ 1000000) :
  Calls Tryz.prog 140 #[.pointer (some ⟨sb,0,none⟩),.string p] w fun e w'=>e = .returned (.tuple #[]) ∧ SGo (fun k=>k = cb ∨ k = tb) s s w w' ∧ ∃ nc,nc ≤ 1000000 ∧ StW w' sb s cb tb nc l.length (cD (ctF s.R.now)) (tD l):=by
 have HRD:=hide (dkRead s p w h.inn hp)
 rw [hrd] at HRD
 dsimp only [Option.getD,Option.isSome] at HRD
 have HR:=hide hr
 have HOK:=hide hok
 have HRS:=hide hrise
 have H:=hide h
 have c0:=cell_of_row _ _ 0 _ _ _ h.blk
 have hz4:=(zero_of_info Tryz.info117).1
 have hz5:=(zero_of_info Tryz.info71b).1
 clear h hr hok hrise hrd
 go_enter Tryz.func140,Tryz.ntmps140
 go_wp2_with fail
 refine (HRD.out).mono ?_
 rintro _ w1 ⟨v,k,rfl, -, -,hg1,hi1⟩
 dsimp only
 have hgo1:PGo s s w w1:=⟨rfl,hi1,hg1,fun k hk=>.inl hk⟩
 have HG1:=hide (SGo.of_go (S:=fun k=>k = cb ∨ k = tb) hgo1)
 have HS1:=hide (H.out.go hgo1)
 have HRI:=hide (fun W=>readI_core t W ht)
 clear hgo1 hg1 hi1 HRD c0
 go_wp2_with fail
 refine (HRI.out _).mono ?_
 rintro e2 w2 ⟨hb2,he2⟩
 have he3:∃ oa cap,e2 = .returned (.slice oa l.length cap) ∧ w2.ownsRow w1.heap.size 193 34 (.slice oa l.length cap) l.length ((l.map TE.en).flatMap En.ecells):=by
  rcases he2 with ⟨es,c',v',h1,h2,h3, -⟩ | ⟨pp,h1, -⟩
  ·rw [HR.out] at h1
   injection h1 with h1
   subst h1
   rw [List.length_map] at h3
   obtain ⟨oa,cap,h4⟩:=own_sl h3
   exact ⟨oa,cap,by rw [h2,h4],by rw [h4] at h3;exact h3⟩
  ·rw [HR.out] at h1
   cases h1
 obtain ⟨oa,cap,rfl,hrow⟩:=he3
 clear he2
 dsimp only
 have HG2:=hide (HG1.out.trans (SGo.of_below hb2))
 have HS2:=hide (HS1.out.later hb2)
 have HROW:=hide hrow
 have hw2:w1.heap.size ≤ w2.heap.size:=hb2.size
 have HB:=hide (show ∀ k,s.own k ∨ k = sb ∨ k = cb ∨ k = tb → k < w1.heap.size from fun k hk=>by
  rcases hk with e | e | e | e
  ·exact HS1.out.inn.lt e
  ·rw [e];exact lt_heap HS1.out.blk
  ·rw [e];exact HS1.out.cm.lt
  ·rw [e];exact HS1.out.tm.lt)
 obtain ⟨q,hq⟩ : ∃ q,q = l.length:=⟨_,rfl⟩
 rw [← hq] at h8 ⊢
 rw [← hq] at HROW
 have HQ:=hide hq
 clear hb2 hrow HRI HR HG1 hq
 go_wp2_with fail
 go_loopw [24] (fun iv wr=>∃ (j:Nat),j ≤ q ∧ iv = .int .i64 ((j:Nat):Int) ∧ SGo (fun k=>k = cb ∨ k = tb) s s w wr ∧ StW wr sb s cb tb 0 j (.map []) (tD (l.take j)) ∧ wr.ownsRow w1.heap.size 193 34 (.slice oa q cap) q ((l.map TE.en).flatMap En.ecells) ∧ w1.heap.size ≤ wr.heap.size) (fun iv _=>q - (intOf iv).toNat)
 case atStart=>exact ⟨0,Nat.zero_le _,rfl,HG2.out,HS2.out,HROW.out,hw2⟩
 case round =>
  obtain ⟨j,hj,rfl,hgo,hst,hrw,hzr⟩:=hrel
  have HGO:=hide hgo
  have HST:=hide hst
  have HRW:=hide hrw
  clear hgo hst
  by_cases hlt:j < q
  ·have hjl:j < l.length:=by rw [← HQ.out];exact hlt
   have hjm:j < (l.map TE.en).length:=by rw [List.length_map];exact hjl
   obtain ⟨g,c1,e1,hc⟩:=row_flat (enc:=En.ecells) (k:=34) en_len hrw (by rw [List.length_map];exact HQ.out) hjm
   injection e1 with e1 _ ec
   subst e1
   subst ec
   rw [List.getElem_map,en_cells (HOK.out _ (List.getElem_mem hjl))] at hc
   have HTK:=hide (take_ins HRS.out hjl)
   have hto:=HOK.out _ (List.getElem_mem hjl)
   generalize l[j]'hjl = t at hc HTK hto
   have hr0:wr.rangeAt g (j * 34) (ecellsOf t.n t.d t.z).toList:=fun i x hx=>hc i x hx
   have HR0:=hide hr0
   have hdl:=hto.len
   obtain ⟨X,hX⟩ : ∃ X,X = wr.alloc (.cells (ecellsOf t.n t.d t.z) 193):=⟨_,rfl⟩
   have hbo:Below wr.heap.size wr X:=by rw [hX];exact (Below.refl _ _).alloc (Nat.le_refl _) _
   have hrx:X.heap[wr.heap.size]? = some (.cells (ecellsOf t.n t.d t.z) 193 (0,0)):=by rw [hX];exact heap_alloc_new _ _
   have HX:=hide hX
   have HBO:=hide hbo
   have HRX:=hide hrx
   have d1:decide (((j:Nat):Int) < ((q:Nat):Int)) = true:=decide_eq_true (by omega)
   have HTO:=hide hto
   clear hX hbo hrx hc hrw hr0 hjl hjm hto
   go_wp2_with (first | (refine wpList_load_mid rfl 193 _ rfl g (j * 34) rfl (ecellsOf t.n t.d t.z).toList _ HR0.out Tryz.underlying193 rfl (by rw [Array.length_toList];exact size71 _ _ _ hdl) ?_) | (refine wpList_store_row rfl 193 _ _ rfl wr.heap.size _ rfl rfl 193 _ (heap_alloc_new _ _) (size71 _ _ _ hdl) (by rw [ecellsOf_size _ _ _ hdl,ecellsOf_size _ _ _ (Sha.zeros_len _)]) (Array.all_eq_true_iff_forall_mem.2 fun u hu=>ecellsOf_one _ _ _ u (by simpa using hu)) ?_;rw [World.setRow_alloc_new,← HX.out]))
   obtain ⟨yb,hyb⟩ : ∃ yb,yb = wr.heap.size:=⟨_,rfl⟩
   rw [← hyb] at HRX ⊢
   have HYB:=hide hyb
   clear hyb
   have hdr:Below X.heap.size X X.drew:=(Below.refl _ _).drew
   have h6:=(HST.out.later HBO.out).later hdr
   have hr6:=(hdr.block _ (lt_heap HRX.out)).trans HRX.out
   obtain ⟨w6,hrun,hm6,hg6⟩:=World.ownsMap.update h6.tm str_keyed Tryz.underlying157 (by unfold maxLen;omega) (key_str t.n (by have:=HTO.out.n;omega)) (show heldR (.agg (ecellsOf t.n t.d t.z)) = some (.held (.agg (ecellsOf t.n t.d t.z)),[]) from rfl)
   have hr7:=(hg6.block _ (lt_heap hr6) (fun e=>by
    injection e with e
    obtain ⟨es,clock,h1,_⟩:=h6.tm
    rw [← e,hr6] at h1
    cases h1)).trans hr6
   have h7:=h6.putT hg6 hm6
   have hS0:X.drew.cell? ⟨sb,2,none⟩ = some (.map (some tb)) ∧ X.drew.cell? ⟨yb,0,none⟩ = some (.string t.n) ∧ X.drew.rangeAt yb 0 (ecellsOf t.n t.d t.z).toList:=⟨cell_of_row _ _ 2 _ _ _ h6.blk,cell_of_row _ _ 0 _ _ _ hr6,fun i x hx=>by rw [cell_of_row _ _ (0 + i) _ _ _ hr6,Nat.zero_add];simpa using hx⟩
   have hS6:w6.cell? ⟨sb,2,none⟩ = some (.map (some tb)) ∧ w6.cell? ⟨yb,0,none⟩ = some (.string t.n) ∧ w6.rangeAt yb 0 (ecellsOf t.n t.d t.z).toList:=⟨cell_of_row _ _ 2 _ _ _ h7.blk,cell_of_row _ _ 0 _ _ _ hr7,fun i x hx=>by rw [cell_of_row _ _ (0 + i) _ _ _ hr7,Nat.zero_add];simpa using hx⟩
   have u71:=Tryz.underlying193
   have i71:(Tryz.prog.info? 193).map (·.size) = some (ecellsOf t.n t.d t.z).toList.length:=by rw [Array.length_toList];exact size71 _ _ _ hdl
   have hgo6:SGo (fun k=>k = cb ∨ k = tb) s s w w6:=((HGO.out.trans (SGo.of_below HBO.out)).trans (SGo.of_below hdr)).trans (SGo.of_grown hg6 (fun r e=>by injection e with e;exact .inr e.symm))
   have hrw6:w6.ownsRow w1.heap.size 193 34 (.slice (some ⟨g,0,none⟩) q cap) q ((l.map TE.en).flatMap En.ecells):=own_same (ownsRow_later (ownsRow_later HRW.out HBO.out) hdr) (fun k hk hl=>hg6.block k hl (fun e=>by
    injection e with e
    have h1:=own_ge HRW.out k hk
    have h2:=HB.out k (.inr (.inr (.inr e)))
    omega))
   have hz6:w1.heap.size ≤ w6.heap.size:=by have:=HBO.out.size;have:=hdr.size;have:=hg6.size;omega
   have hst6:StW w6 sb s cb tb 0 (j + 1) (.map []) (tD (l.take (j + 1))):=by
    have e9:(tD (l.take j)).put (.string t.n.data.toList) (.held (.agg (ecellsOf t.n t.d t.z))) = tD (l.take (j + 1)):=by
     rw [← HTK.out]
     exact mD_put (key:=TE.n) (val:=TE.v) t (l.take j) (List.Pairwise.sublist (List.take_sublist _ _) HRS.out)
    rw [← e9]
    exact h7
   have HG6:=hide hgo6
   have HW6:=hide hrw6
   have HS6:=hide hst6
   clear h6 hm6 hg6 hr6 hr7 h7 hgo6 hrw6 hst6 hdr
   generalize hE:ecellsOf t.n t.d t.z = E at *
   generalize t.n = N1 at *
   clear hE
   (try dsimp only [Act.put])
   refine wp_region_noPanic ?_
   refine wp_region_held_drew (S:=fun w'=>w'.cell? ⟨sb,2,none⟩ = some (.map (some tb)) ∧ w'.cell? ⟨yb,0,none⟩ = some (.string N1) ∧ w'.rangeAt yb 0 E.toList) (by kernel_rfl) hS0 (fun hHeld=>?_)
   refine wpAnyH_take (i:=0) (v:=.pointer (some ⟨sb,0,none⟩)) rfl (by kernel_rfl) (by kernel_rfl) (by kernel_rfl) (fun _ _ _ h=>h) (Or.inl ⟨by rfl,fun _ _=>rfl⟩) (by assumption) ?_
   simp only [Act.put,List.setIfInBounds_toArray,List.set_cons_zero,List.set_cons_succ]
   refine wpAnyH_take (i:=1) (v:=.pointer (some ⟨sb,0,none⟩)) rfl (by kernel_rfl) (by kernel_rfl) (by kernel_rfl) (fun _ _ _ h=>h) (Or.inl ⟨by rfl,fun _ _=>rfl⟩) (by assumption) ?_
   simp only [Act.put,List.setIfInBounds_toArray,List.set_cons_zero,List.set_cons_succ]
   refine wpAnyH_take (i:=2) (v:=.pointer (some ⟨sb,2,none⟩)) rfl (by kernel_rfl) (by kernel_rfl) (by kernel_rfl) (fun _ _ _ h=>h) (Or.inl ⟨by rfl,fun _ _=>rfl⟩) (by assumption) ?_
   simp only [Act.put,List.setIfInBounds_toArray,List.set_cons_zero,List.set_cons_succ]
   refine wpAnyH_take (i:=3) (v:=.map (some tb)) rfl (by kernel_rfl) (by kernel_rfl) (by kernel_rfl) (fun _ _ _ h=>h) (Or.inl ⟨by rfl,fun wq hSw=>by have c2:=hSw.1;go_simp⟩) (by assumption) ?_
   simp only [Act.put,List.setIfInBounds_toArray,List.set_cons_zero,List.set_cons_succ]
   refine wpAnyH_take (i:=4) (v:=.pointer (some ⟨yb,0,none⟩)) rfl (by kernel_rfl) (by kernel_rfl) (by kernel_rfl) (fun _ _ _ h=>h) (Or.inl ⟨by rfl,fun _ _=>rfl⟩) (by assumption) ?_
   simp only [Act.put,List.setIfInBounds_toArray,List.set_cons_zero,List.set_cons_succ]
   refine wpAnyH_take (i:=5) (v:=.string N1) rfl (by kernel_rfl) (by kernel_rfl) (by kernel_rfl) (fun _ _ _ h=>h) (Or.inl ⟨by rfl,fun wq hSw=>by have c2:=hSw.2.1;go_simp⟩) (by assumption) ?_
   simp only [Act.put,List.setIfInBounds_toArray,List.set_cons_zero,List.set_cons_succ]
   refine wpAnyH_take (i:=6) (v:=.agg E.toList.toArray) rfl (by kernel_rfl) (by kernel_rfl) (by kernel_rfl) (fun _ _ _ h=>h) (yieldsIf_load_mid (by rfl) _ _ rfl yb 0 rfl E.toList _ (fun w h=>h.2.2) u71 rfl i71) (by assumption) ?_
   simp only [Act.put,List.setIfInBounds_toArray,List.set_cons_zero,List.set_cons_succ]
   rw [show E.toList.toArray = E by simp]
   refine wpAnyH_ready (rs:=[7]) (by kernel_rfl) (by simp) ?_
   refine AllReadyH.cons rfl (fun K hK=>?_) AllReadyH.nil
   go_simp
   refine hK _ _ hS6 (fun hHeld=>?_)
   refine wpAnyH_done (by kernel_rfl) ?_ _
   refine NoPanic.normal ?_
   clear hrun hS0 hS6 u71 i71
   go_wp2_with fail
   exact ⟨⟨j + 1,hlt,by simp,HG6.out,HS6.out,HW6.out,hz6⟩,by simp only [intOf];omega⟩
  ·have d1:decide (((j:Nat):Int) < ((q:Nat):Int)) = false:=decide_eq_false (by omega)
   have hjn:j = q:=by omega
   subst hjn
   have htl:l.take j = l:=List.take_of_length_le (by rw [← HQ.out];exact Nat.le_refl _)
   rw [htl] at HST
   have c2:=cell_of_row _ _ 0 _ _ _ HST.out.blk
   have HLS:=hide (plist_any s.b s.R s.mb s.lb s.cv _ HST.out.inn.is (by omega))
   have hwr:=hzr
   clear hrw htl HRW
   go_wp2_with fail
   refine (HLS.out).mono ?_
   rintro _ w3 ⟨v3,rfl,hrow,hb3⟩
   dsimp only
   obtain ⟨ov,cp,hv⟩:=own_sl hrow
   subst hv
   have HROW3:=hide hrow
   have HG3:=hide (HGO.out.trans (SGo.of_below hb3))
   have HS3:=hide (HST.out.later hb3)
   have hz3:wr.heap.size ≤ w3.heap.size:=hb3.size
   obtain ⟨n,hnl⟩ : ∃ n,n = s.R.now.length:=⟨_,rfl⟩
   rw [← hnl] at hn ⊢
   have HNL:=hide hnl
   obtain ⟨W0,hW0⟩ : ∃ W0,W0 = wr.heap.size:=⟨_,rfl⟩
   rw [← hW0] at HROW3
   have HB0:=hide (show ∀ k,s.own k ∨ k = sb ∨ k = cb ∨ k = tb → k < W0 from fun k hk=>by have:=HB.out k hk;omega)
   have hz30:W0 ≤ w3.heap.size:=by omega
   clear hrow hb3 HLS c2 hnl hW0 hz3 HGO HST
   go_wp2_with fail
   go_loopw [42] (fun iv wx=>∃ (i nc:Nat),i ≤ n ∧ nc ≤ i ∧ iv = .int .i64 ((i:Nat):Int) ∧ SGo (fun k=>k = cb ∨ k = tb) s s w wx ∧ StW wx sb s cb tb nc j (cD (ctF (s.R.now.take i))) (tD l) ∧ wx.ownsRow W0 9 1 (.slice ov n cp) n (pathVs s.R.now) ∧ W0 ≤ wx.heap.size) (fun iv _=>n - (intOf iv).toNat)
   case atStart =>
    refine ⟨0,0,Nat.zero_le _,Nat.le_refl _,rfl,HG3.out,HS3.out,?_,hz30⟩
    have:=HROW3.out
    rw [← HNL.out] at this
    exact this
   case round =>
    obtain ⟨i,nc,hi,hnc,rfl,hgo,hst,hrw,hzr2⟩:=hrel
    have HGO:=hide hgo
    have HST:=hide hst
    have HRW:=hide hrw
    clear hgo hst
    by_cases hli:i < n
    ·have hil:i < s.R.now.length:=by rw [← HNL.out];exact hli
     have hrw2:wr.ownsRow W0 9 1 (.slice ov n cp) s.R.now.length (pathVs s.R.now):=by rw [← HNL.out];exact hrw
     obtain ⟨o2,cap2,e2,hcells⟩:=own_str hrw2
     obtain ⟨g,rfl,hc⟩:=hcells i hil
     injection e2 with e2 e3 e4
     subst e2
     have htk:s.R.now.take (i + 1) = s.R.now.take i ++ [s.R.now.getD i DE0]:=by
      rw [List.take_add_one,List.getElem?_eq_getElem hil,List.getD_eq_getElem?_getD,List.getElem?_eq_getElem hil]
      rfl
     have HCT:=hide (show ctF (s.R.now.take (i + 1)) = if dgB (s.R.now.getD i DE0).path then insK dK (dgV (s.R.now.getD i DE0).path) (ctF (s.R.now.take i)) else ctF (s.R.now.take i) by rw [htk];exact ctF_snoc _ _)
     generalize hC2:ctF (s.R.now.take (i + 1)) = C2 at HCT
     have HC2:=hide hC2
     clear hC2
     generalize ctF (s.R.now.take i) = C1 at HCT HST
     generalize (s.R.now.getD i DE0).path = pp at hc HCT
     have HDG:=hide (digestAt_any pp wr)
     have hdl:=dgV_len pp
     have hdo:=dgV_ok pp
     generalize dgV pp = ds at HCT HDG hdl hdo
     have d2:decide (((i:Nat):Int) < ((n:Nat):Int)) = true:=decide_eq_true (by omega)
     clear hrw hrw2 hcells e3 e4 htk hil
     go_wp2_with fail
     refine (HDG.out).mono ?_
     rintro _ w4 ⟨rfl,hb4⟩
     dsimp only
     have hbx:Below wr.heap.size wr (w4.alloc (.cells (cells8 ds) 117)):=hb4.alloc hb4.size _
     obtain ⟨X,hX⟩ : ∃ X,X = w4.alloc (.cells (cells8 ds) 117):=⟨_,rfl⟩
     have hrx:X.heap[w4.heap.size]? = some (.cells (cells8 ds) 117 (0,0)):=by rw [hX];exact heap_alloc_new _ _
     rw [← hX] at hbx
     have HX:=hide hX
     have HRX:=hide hrx
     have HG5:=hide (HGO.out.trans (SGo.of_below hbx))
     have HS5:=hide (HST.out.later hbx)
     have HW5:=hide (ownsRow_later HRW.out hbx)
     have hz5:W0 ≤ X.heap.size:=Nat.le_trans hzr2 hbx.size
     clear hX hbx hrx hb4 HDG hc
     cases hdg:dgB pp with
     | false =>
      rw [hdg] at HCT
      have hc9:C2 = C1:=HCT.out
      subst hc9
      go_wp2_with (refine wpList_store_row rfl 117 _ _ rfl w4.heap.size _ rfl rfl 117 _ (heap_alloc_new _ _) (size40 _ hdl) (by rw [cells8_size,cells8_size,hdl,Sha.zeros_len]) (cells8_one _) ?_;rw [World.setRow_alloc_new,← HX.out])
      exact ⟨⟨i + 1,nc,by omega,by omega,by simp,HG5.out,by rw [HC2.out];exact HS5.out,HW5.out,hz5⟩,by simp only [intOf];omega⟩
     | true =>
      rw [hdg] at HCT
      have hc9:C2 = insK dK ds C1:=HCT.out
      subst hc9
      go_wp2_with (refine wpList_store_row rfl 117 _ _ rfl w4.heap.size _ rfl rfl 117 _ (heap_alloc_new _ _) (size40 _ hdl) (by rw [cells8_size,cells8_size,hdl,Sha.zeros_len]) (cells8_one _) ?_;rw [World.setRow_alloc_new,← HX.out])
      have hdr:Below X.heap.size X X.drew:=(Below.refl _ _).drew
      have h6:=HS5.out.later hdr
      have hr6:=(hdr.block _ (lt_heap HRX.out)).trans HRX.out
      obtain ⟨w6,hrun,hm6,hg6⟩:=World.ownsMap.update h6.cm dig_keyed Tryz.underlying156 (by unfold maxLen;omega) (key_dig ds hdo.1 hdo.2) (show heldR (.agg #[]) = some (.held (.agg #[]),[]) from rfl)
      have h7:=h6.putC hg6 hm6
      have hr7:=(hg6.block _ (lt_heap hr6) (fun e=>by
       injection e with e
       obtain ⟨es,clock,h1,_⟩:=h6.cm
       rw [← e,hr6] at h1
       cases h1)).trans hr6
      obtain ⟨yb,hyb⟩ : ∃ yb,yb = w4.heap.size:=⟨_,rfl⟩
      rw [← hyb] at hr6 hr7 ⊢
      have hS0:X.drew.cell? ⟨sb,1,none⟩ = some (.map (some cb)) ∧ X.drew.rangeAt yb 0 (cells8 ds).toList:=⟨cell_of_row _ _ 1 _ _ _ h6.blk,con_r hr6⟩
      have hS6:w6.cell? ⟨sb,1,none⟩ = some (.map (some cb)) ∧ w6.rangeAt yb 0 (cells8 ds).toList:=⟨cell_of_row _ _ 1 _ _ _ h7.blk,con_r hr7⟩
      have hbu:∀ w,(Instr.build 100 #[]).run Tryz.prog w = .ok (.agg #[]) w:=fun w=>by kernel_rfl
      have u72:=Tryz.underlying117
      have i72:=size72 ds hdl
      have HG6:=hide (((HG5.out.trans (SGo.of_below hdr))).trans (SGo.of_grown hg6 (fun r e=>by injection e with e;exact .inl e.symm)))
      have HS6:=hide (show StW w6 sb s cb tb (nc + 1) j (cD (insK dK ds C1)) (tD l) by
       have hrk:RiseK dK C1:=mD_rise h6.cm dig_keyed
       have e9:(cD C1).put (dKey ds) (.held (.agg #[])) = cD (insK dK ds C1):=by
        rw [dKey_eq]
        exact mD_put (key:=dK) (val:=fun _=>.agg #[]) ds C1 hrk
       rw [← e9]
       exact h7)
      have HW6:=hide (show w6.ownsRow W0 9 1 (.slice (some ⟨g,0,none⟩) n cp) n (pathVs s.R.now) from own_same (ownsRow_later HW5.out hdr) (fun k hk hl=>hg6.block k hl (fun e=>by
       injection e with e
       have h1:=own_ge HW5.out k hk
       have h2:=HB0.out k (.inr (.inr (.inl e)))
       omega)))
      have hz6:W0 ≤ w6.heap.size:=by have:=hdr.size;have:=hg6.size;omega
      clear h6 hm6 hg6 hr6 hr7 h7 hdr hyb
      go_region_held3 (fun w'=>w'.cell? ⟨sb,1,none⟩ = some (.map (some cb)) ∧ w'.rangeAt yb 0 (cells8 ds).toList) (first | exact hS0 | exact hS6 | go_keep) (fail)
      clear hrun hbu u72 i72 hS0 hS6
      go_wp2_with fail
      exact ⟨⟨i + 1,nc + 1,by omega,by omega,by simp,HG6.out,by rw [HC2.out];exact HS6.out,HW6.out,hz6⟩,by simp only [intOf];omega⟩
    ·have d2:decide (((i:Nat):Int) < ((n:Nat):Int)) = false:=decide_eq_false (by omega)
     have hin:i = n:=by omega
     subst hin
     have htl:s.R.now.take i = s.R.now:=List.take_of_length_le (by rw [← HNL.out];exact Nat.le_refl _)
     rw [htl] at HST
     clear hrw htl
     go_wp2_with fail
     go_end0
     exact ⟨rfl,HGO.out,nc,by omega,by rw [← HQ.out];exact HST.out⟩
end Go.Proofs.YtncigfibncmioaaGreatDoor

/-
  PROVED HERE: endPruning of package store.
-/
namespace Go.Proofs.YtncigfibncmioaaGreatDoor
set_option maxHeartbeats 4000000
set_option maxRecDepth 100000
open Go.RowKit
def delsD (Dc:DataW Value) (ul:List DV):DataW Value:=ul.foldl (fun D d=>D.del (dKey d.1)) Dc
theorem delsD_snoc (Dc:DataW Value) (ul:List DV) (d:DV):delsD Dc (ul ++ [d]) = (delsD Dc ul).del (dKey d.1):=by simp [delsD,List.foldl_append]
def rmC (ul:List DV):List Stp:=ul.map fun d=>sRm (cPath d.1)
def epS (ul:List DV):List Stp:=rmC ul ++ [sRn pruningP journalP,sSd]
theorem rmC_sz (ul:List DV) (j:Nat):szs ((rmC ul).take j) = 0:=by
 have:=szs_le (M:=0) ((rmC ul).take j) (fun t ht=>by
  obtain ⟨d,_,rfl⟩:=List.mem_map.1 (List.mem_of_mem_take ht)
  exact Nat.le_refl _)
 omega
theorem rmC_take (ul:List DV) (j:Nat) (hj:j < ul.length):(rmC ul).take (j + 1) = (rmC ul).take j ++ [sRm (cPath (ul[j]'hj).1)]:=by
 unfold rmC
 rw [List.take_add_one,List.getElem?_map,List.getElem?_eq_getElem hj]
 rfl
theorem ran_stop {D D1 D':DS} {ul:List DV} {j:Nat} {k:Int} (hr:Ran D ((rmC ul).take j) 0 j D1) (hj:j < ul.length) (hs:stR D1 (sRm (cPath (ul[j]'hj).1)) k D') (hk:k ≠ 0):Ran D (epS ul) k j D':=by
 have h1:=Ran.one hs
 rw [if_neg hk] at h1
 have h2:=hr.app h1
 rw [Nat.add_zero,← rmC_take ul j hj] at h2
 have h3:=h2.stop ((rmC ul).drop (j + 1) ++ [sRn pruningP journalP,sSd]) hk
 rw [← List.append_assoc,List.take_append_drop] at h3
 exact h3
theorem endPrune_any (sb:Nat) (s:PSt) (cb tb nc nt:Nat) (Dc Dt:DataW Value) (B0:Nat) (so:Option Addr) (sc:Nat) (ul:List DV) (w:World) {L C B:Nat} (h:StW w sb s cb tb nc nt Dc Dt) (hown:∀ k,(Value.slice so ul.length sc).ownBlock = some k → ¬ (s.own k ∨ k = cb)) (hrow:w.ownsRow B0 117 32 (.slice so ul.length sc) ul.length (ul.flatMap DV.enc)) (hsz:ul.length ≤ 100000000) (hf:DFit s.ds L C B) (hb:Bud (L + ul.length + 10) (C + ul.length + 10) B) :
  Calls Tryz.prog 121 #[.pointer (some ⟨sb,0,none⟩),.slice so ul.length sc] w fun e w'=>∃ ev k s' m,e = .returned ev ∧ ErrV w' ev k ∧ SGo (fun k=>k = cb) s s' w w' ∧ Ran s.ds (epS ul) k m s'.ds ∧ StW w' sb s' cb tb nc nt (delsD Dc (ul.take m)) Dt:=by
 have H:=hide h
 have HOWN:=hide hown
 have HROW:=hide hrow
 have HF:=hide hf
 have HBU:=hide hb
 have hgt:0 < ul.length → ∃ g,so = some ⟨g,0,none⟩:=fun hp=>by
  obtain ⟨_,⟨h1,h2⟩ | ⟨g,cap,cur,h1,_⟩⟩:=hrow
  ·omega
  ·injection h1 with h1
   exact ⟨g,h1⟩
 have HGT:=hide hgt
 have hz71:=(zero_of_info Tryz.info117).1
 clear h hown hrow hf hb hgt
 go_enter Tryz.func121,Tryz.ntmps121
 go_wp2_with fail
 go_loopw [11] (fun iv wr=>∃ (j:Nat) (s1:PSt),j ≤ ul.length ∧ iv = .int .i64 ((j:Nat):Int) ∧ SGo (fun k=>k = cb) s s1 w wr ∧ Ran s.ds ((rmC ul).take j) 0 j s1.ds ∧ StW wr sb s1 cb tb nc nt (delsD Dc (ul.take j)) Dt) (fun iv _=>ul.length - (intOf iv).toNat)
 case atStart=>exact ⟨0,s,Nat.zero_le _,rfl,SGo.of_below (Below.refl _ _),⟨rfl,rfl,rfl⟩,H.out⟩
 case round =>
  obtain ⟨j,s1,hj,rfl,hgo,hr,hst⟩:=hrel
  have HGO:=hide hgo
  have HR:=hide hr
  have HST:=hide hst
  have HF1:=hide (((HF.out.ran hr).mono (L':=L + ul.length) (C':=C + ul.length) (B':=B) (by rw [List.length_take];omega) (by rw [List.length_take];omega) (by rw [rmC_sz];omega)))
  have hrow1:wr.ownsRow B0 117 32 (.slice so ul.length sc) ul.length (ul.flatMap DV.enc):=own_same HROW.out (fun k hk _=>by
   obtain ⟨c,hc⟩:=own_obj HROW.out k hk
   exact hgo.gr.block k (lt_heap hc) (HOWN.out k hk))
  have HROW1:=hide hrow1
  clear hgo hr hst hrow1
  by_cases hlt:j < ul.length
  ·obtain ⟨g,hg⟩:=HGT.out (by omega)
   subst hg
   have hrr:=rowD_at HROW1.out hlt
   obtain ⟨d,hd⟩ : ∃ d,d = (ul[j]'hlt):=⟨_,rfl⟩
   rw [← hd] at hrr
   have HRR:=hide hrr
   have HD:=hide hd
   have hds:=d.2.1
   have hltd:=d.2.2
   have d1:decide (((j:Nat):Int) < ((ul.length:Nat):Int)) = true:=decide_eq_true (by omega)
   obtain ⟨W,hW⟩ : ∃ W,W = wr.alloc (.cells (cells8 d.1) 117):=⟨_,rfl⟩
   have hbo:Below wr.heap.size wr W:=by rw [hW];exact (Below.refl _ _).alloc (Nat.le_refl _) _
   have hrow:W.heap[wr.heap.size]? = some (.cells (cells8 d.1) 117 (0,0)):=by rw [hW];exact heap_alloc_new _ _
   have hon:=(HST.out.later hbo).on
   have HCP:=hide (contentPath_any d.1 W.drew hds hltd)
   have HRM:=hide (fun (w':World) (hb':Below W.heap.size W w')=>dkRemove s1 (cPath d.1) w' (hon.inn.later hb') HF1.out (HBU.out.mono (by omega) (by omega) (Nat.le_refl _)) (Nat.le_trans (cPath_size d.1) (by decide)))
   have HON:=hide hon
   have HSTW:=hide (HST.out.later hbo)
   have HW:=hide hW
   have HBO:=hide hbo
   have HRW:=hide hrow
   have HN:=hide (fun (k:Nat) (hk:s1.own k)=>HST.out.inn.lt hk)
   clear hrr hd hW hbo hrow hon
   go_wp2_with (first | (refine wpList_load_mid rfl 117 _ rfl g (j * 32) rfl (cells8 d.1).toList _ HRR.out Tryz.underlying117 rfl (size72 d.1 hds) ?_) | (refine wpList_store_row rfl 117 _ _ rfl wr.heap.size _ rfl rfl 117 _ (heap_alloc_new _ _) (size40 _ hds) (by rw [cells8_size,cells8_size,hds];rfl) (cells8_one _) ?_;rw [World.setRow_alloc_new,← HW.out]))
   obtain ⟨xb,hxb⟩ : ∃ xb,xb = wr.heap.size:=⟨_,rfl⟩
   rw [← hxb] at HRW HN ⊢
   have HXB:=hide hxb
   clear hxb
   have hS0:=con_s (HON.out.later (Below.refl W.heap.size W).drew) ((((Below.refl W.heap.size W).drew).block _ (lt_heap HRW.out)).trans HRW.out)
   have u72:=Tryz.underlying117
   have i72:=size72 d.1 hds
   go_region_held3 (fun w'=>w'.cell? ⟨sb,0,none⟩ = some (.pointer (some ⟨s1.b,0,none⟩)) ∧ w'.rangeAt xb 0 (cells8 d.1).toList) (first | exact hS3 | exact hS2 | exact hS0 | go_keep) ((first | (go_at_call 107;refine (HCP.out).mono ?_;rintro _ w1 ⟨rfl,hb1⟩;have hb3:Below W.heap.size W w1:=((Below.refl W.heap.size W).drew).trans hb1;have hr2:=(hb3.block _ (lt_heap HRW.out)).trans HRW.out;have hS2:=con_s (HON.out.later hb3) hr2) | (go_at_call 117;refine (HRM.out _ hb3).mono ?_;rintro _ w2 ⟨v,k,s2,rfl,hv,hg,hst⟩;have hr3:=(hg.gr.block _ (lt_heap hr2) (fun e=>by have:=HN.out _ e;omega)).trans hr2;have hS3:=(show w2.cell? ⟨sb,0,none⟩ = some (.pointer (some ⟨s1.b,0,none⟩)) ∧ w2.rangeAt xb 0 (cells8 d.1).toList by rw [← hg.b];exact con_s ((HON.out.later hb3).go hg) hr3))))
   have HSW:=hide ((HSTW.out.later hb3).go hg)
   have HG2:=hide (HGO.out.trans (((SGo.of_below HBO.out).trans (SGo.of_below hb3)).trans (SGo.of_go (S:=fun k=>k = cb) hg)))
   have HR3:=hide hr3
   have hstr:stR s1.ds (sRm (cPath (ul[j]'hlt).1)) k s2.ds:=by rw [← HD.out];exact hst
   have HSR:=hide hstr
   clear hst hstr HRM hS0 hS2 hS3 hr2 hr3 hb1 hb3 HCP u72 i72 hg
   rcases hv with ⟨h0,rfl⟩ | ⟨h0,sv,nm,rfl,hse⟩
   ·have hdr:Below w2.heap.size w2 w2.drew:=(Below.refl _ _).drew
    have h6:=HSW.out.later hdr
    have hr6:=(hdr.block _ (lt_heap HR3.out)).trans HR3.out
    have hS0:w2.drew.cell? ⟨sb,1,none⟩ = some (.map (some cb)) ∧ w2.drew.rangeAt xb 0 (cells8 d.1).toList:=⟨cell_of_row _ _ 1 _ _ _ h6.blk,con_r hr6⟩
    obtain ⟨w6,hrun,hm6,ht6⟩:=World.ownsMap.drop h6.cm dig_keyed Tryz.underlying156 (key_dig d.1 hds hltd) 0
    have hg6:=ht6.grown
    have hS6:w6.cell? ⟨sb,1,none⟩ = some (.map (some cb)) ∧ w6.rangeAt xb 0 (cells8 d.1).toList:=⟨cell_of_row _ _ 1 _ _ _ (h6.putC hg6 hm6).blk,con_r ((hg6.block _ (lt_heap hr6) (fun e=>by
     injection e with e
     obtain ⟨es,clock,h1,_⟩:=h6.cm
     rw [← e,hr6] at h1
     cases h1)).trans hr6)⟩
    have H7:=hide (h6.putC hg6 hm6)
    have HG7:=hide (HG2.out.trans ((SGo.of_below hdr).trans (SGo.of_grown hg6 (fun r e=>by injection e with e;exact e.symm))))
    have u72:=Tryz.underlying117
    have i72:=size72 d.1 hds
    have HK0:=hide h0
    clear h6 hm6 hg6 ht6 hdr h0
    go_wp2_with fail
    go_region_held3 (fun w'=>w'.cell? ⟨sb,1,none⟩ = some (.map (some cb)) ∧ w'.rangeAt xb 0 (cells8 d.1).toList) (first | exact hS0 | exact hS6 | go_keep) (fail)
    clear hrun u72 i72 hS0 hS6 hr6
    go_wp2_with fail
    refine ⟨⟨j + 1,s2,hlt,by simp,HG7.out,?_,?_⟩,by simp only [intOf];omega⟩
    ·rw [rmC_take ul j hlt]
     have h1:=Ran.one HSR.out
     rw [HK0.out,if_pos rfl] at h1
     exact HR.out.app h1
    ·have:ul.take (j + 1) = ul.take j ++ [d]:=by
      rw [List.take_add_one,List.getElem?_eq_getElem hlt,HD.out]
      rfl
     rw [this,delsD_snoc]
     exact H7.out
   ·have HSE:=hide hse
    clear hse
    go_wp2_with fail
    go_ret
    exact ⟨_,k,s2,j,rfl,.inr ⟨h0,sv,nm,rfl,HSE.out⟩,HG2.out,ran_stop HR.out hlt HSR.out h0,HSW.out⟩
  ·have d1:decide (((j:Nat):Int) < ((ul.length:Nat):Int)) = false:=decide_eq_false (by omega)
   have hjn:j = ul.length:=by omega
   subst hjn
   have c0:=cell_of_row _ _ 0 _ _ _ HST.out.blk
   have HRN:=hide (dkRename s1 pruningP journalP wr HST.out.inn HF1.out (HBU.out.mono (by omega) (by omega) (Nat.le_refl _)) (by decide) (by decide))
   have hrall:Ran s.ds (rmC ul) 0 ul.length s1.ds:=by
    have:=HR.out
    rwa [List.take_of_length_le (by simp [rmC])] at this
   have HRA:=hide hrall
   have hst0:StW wr sb s1 cb tb nc nt (delsD Dc ul) Dt:=by
    have:=HST.out
    rwa [List.take_length] at this
   have HST0:=hide hst0
   clear hrall hst0 HST HR
   go_wp2_with fail
   refine (HRN.out).mono ?_
   rintro _ w2 ⟨v,k,s2,rfl,hv,hg,hst⟩
   dsimp only
   have HS2:=hide (HST0.out.go hg)
   have HG2:=hide (HGO.out.trans (SGo.of_go (S:=fun k=>k = cb) hg))
   have hstr:stR s1.ds (sRn pruningP journalP) k s2.ds:=hst
   have HSR:=hide hstr
   have HF2:=hide (HF1.out.st hstr)
   have hb2:=hg.b
   have HTN:=hide (show ∀ m,ul.length ≤ m → ul.take m = ul from fun m hm=>List.take_of_length_le hm)
   clear hg hst hstr HRN c0
   rcases hv with ⟨h0,rfl⟩ | ⟨h0,sv,nm,rfl,hse⟩
   ·have c2:=cell_of_row _ _ 0 _ _ _ HS2.out.blk
    have HSD:=hide (dkSyncDir s2 w2 HS2.out.inn HF2.out (HBU.out.mono (by omega) (by omega) (by show B + 0 ≤ B;omega)))
    have HK0:=hide h0
    clear h0
    go_wp2_with fail
    first | (refine (HSD.out).mono ?_) | (rw [hb2] at HSD;refine (HSD.out).mono ?_)
    rintro _ w8 ⟨v8,k8,s8,rfl,hv8,hg8,hst8⟩
    dsimp only
    have H8:=hide (HS2.out.go hg8)
    have HG8:=hide (HG2.out.trans (SGo.of_go hg8))
    have HV8:=hide hv8
    have HS8:=hide hst8
    clear hv8 hg8 hst8 HSD
    go_wp2_with fail
    go_ret
    have hr0:stR s1.ds (sRn pruningP journalP) 0 s2.ds:=by rw [← HK0.out];exact HSR.out
    refine ⟨_,k8,s8,ul.length + ((if k8 = 0 then 1 else 0) + 1),rfl,HV8.out,HG8.out,HRA.out.app ⟨0,s2.ds,hr0,.inr ⟨rfl,_,rfl,Ran.one HS8.out⟩⟩,?_⟩
    rw [HTN.out _ (Nat.le_add_right _ _)]
    exact H8.out
   ·have HSE:=hide hse
    clear hse
    go_wp2_with fail
    go_ret
    refine ⟨_,k,s2,ul.length + 0,rfl,.inr ⟨h0,sv,nm,rfl,HSE.out⟩,HG2.out,HRA.out.app ⟨k,s2.ds,HSR.out,.inl ⟨h0,rfl,rfl,rfl⟩⟩,?_⟩
    rw [HTN.out _ (Nat.le_add_right _ _)]
    exact HS2.out
end Go.Proofs.YtncigfibncmioaaGreatDoor

/-
  PROVED HERE: Open of a disk on which nothing is under way, whatever tags and contents its store has.
-/
namespace Go.Proofs.YtncigfibncmioaaGreatDoor
set_option maxHeartbeats 4000000
set_option maxRecDepth 100000
open Go.RowKit
structure QuI (D:DS) (l:List TE):Prop where
 rd:∃ t c,rdD D indexP = some t ∧ t.size ≤ 2000 ∧ readS t = .ok (l.map TE.en) c
 ok:∀ x ∈ l,x.Ok
 rise:RiseT l
 l8:l.length ≤ 8
 p1:rdD D (bPath 1) = none
 pr:rdD D pruningP = none
 lay:(rdD D layoutP).isSome = true
theorem goOn_many (sb:Nat) (s:PSt) (cb tb:Nat) (l:List TE) (w:World) {L C B:Nat} (h:StW w sb s cb tb 0 0 (.map []) (.map [])) (hq:QuI s.ds l) (hf:DFit s.ds L C B) (hb:Bud (L + s.R.now.length + 20) (C + s.R.now.length + 20) (B + 36)) (hps:∀ e ∈ s.R.now,e.path.size ≤ 9223372036854775807) :
  Calls Tryz.prog 94 #[.pointer (some ⟨sb,0,none⟩)] w fun e w'=>∃ ev k s',e = .returned ev ∧ ErrV w' ev k ∧ SGo (fun k=>k = cb ∨ k = tb) s s' w w' ∧ GoR s.ds k s'.ds ∧ ∃ nc,nc ≤ 1000000 ∧ StW w' sb s' cb tb nc l.length (cD (ctF s.R.now)) (tD l):=by
 obtain ⟨⟨t,c,hrd,ht,hr⟩,hok,hrise,h8,h1,h2,_⟩:=hq
 have hn:s.R.now.length ≤ 1000000:=by have:=hf.nowLen;have:=hb.1;exact Nat.le_trans hf.nowLen (by omega)
 have HBP:=hide (besidePath_any 1 (by decide) w h.gl.tab)
 have HT1:=hide (fun (W:World) (hg:StW W sb s cb tb 0 0 (.map []) (.map []))=>isThere_any sb s (bPath 1) W hg.on.sb hg.inn (Nat.le_trans (bPath_size 1 (by decide)) (by decide)))
 have HT2:=hide (fun (W:World) (hg:On W sb s)=>isThere_any sb s pruningP W hg.sb hg.inn (by decide))
 rw [h1] at HT1
 rw [h2] at HT2
 dsimp only [Option.isSome] at HT1 HT2
 have HLD:=hide (fun (W:World) (hg:StW W sb s cb tb 0 0 (.map []) (.map []))=>load_many sb s cb tb indexP t c l W hg (by decide) hrd ht hr hok hrise h8 hn)
 have HRM:=hide (fun (W:World) (hg:On W sb s)=>removeAll_any sb s 141 foreignB W hg hf (hb.mono (by omega) (by omega) (by omega)) (enters_of Tryz.func141 (by kernel_rfl) rfl) hps (fun p W=>(isForeign_any p W).mono (by rintro _ _ ⟨rfl,h⟩;exact ⟨rfl,h⟩)))
 have H:=hide h
 have HF:=hide hf
 have HB:=hide hb
 clear h hf hb hps hrd hr h1 h2 hn hok hrise
 go_enter Tryz.func94,Tryz.ntmps94
 go_wp2_with fail
 refine (HBP.out).mono ?_
 rintro _ w1 ⟨rfl,hb1⟩
 dsimp only
 have HG1:=hide (SGo.of_below (S:=fun k=>k = cb ∨ k = tb) (s:=s) hb1)
 have HS1:=hide (H.out.later hb1)
 clear hb1 HBP
 go_wp2_with fail
 refine (HT1.out _ HS1.out).mono ?_
 rintro _ w2 ⟨rfl,hg2⟩
 dsimp only
 have HG2:=hide (HG1.out.trans (SGo.of_go hg2))
 have HS2:=hide (HS1.out.go hg2)
 clear hg2 HG1 HS1 HT1
 go_wp2_with fail
 refine (HLD.out _ HS2.out).mono ?_
 rintro _ w3 ⟨rfl,hg3,nc,hnc,hs3⟩
 dsimp only
 have HG3:=hide (HG2.out.trans hg3)
 have HS3:=hide hs3
 clear hg3 hs3 HG2 HS2 HLD
 go_wp2_with fail
 refine (HT2.out _ HS3.out.on).mono ?_
 rintro _ w4 ⟨rfl,hg4⟩
 dsimp only
 have HG4:=hide (HG3.out.trans (SGo.of_go hg4))
 have HS4:=hide (HS3.out.go hg4)
 clear hg4 HG3 HS3 HT2
 go_wp2_with fail
 refine (HRM.out _ HS4.out.on).mono ?_
 rintro _ w5 ⟨ev,k1,m,s1,rfl,hev,hg5,hr5⟩
 dsimp only
 have HG5:=hide (HG4.out.trans (SGo.of_go hg5))
 have HS5:=hide (HS4.out.go hg5)
 have HR5:=hide hr5
 clear hg5 hr5 HG4 HS4 HRM
 rcases hev with ⟨rfl,rfl⟩ | ⟨hk0,sv,nm,rfl,hsv⟩
 ·have c5:=cell_of_row _ _ 0 _ _ _ HS5.out.blk
  have hrl:=rmS_len foreignB s.R.now
  have HSD:=hide (dkSyncDir s1 w5 HS5.out.inn (HF.out.ran HR5.out) (HB.out.mono (by omega) (by omega) (by have:=szs_le (M:=0) (rmS foreignB s.R.now) (fun t ht=>by obtain ⟨x,_,rfl⟩:=List.mem_map.1 ht;exact Nat.le_refl _);omega)))
  go_wp2_with fail
  refine (HSD.out).mono ?_
  rintro _ w6 ⟨v,k,s2,rfl,hv,hg6,hst⟩
  dsimp only
  have HG6:=hide (HG5.out.trans (SGo.of_go hg6))
  have HS6:=hide (HS5.out.go hg6)
  have HV:=hide hv
  have HST:=hide hst
  clear hg6 hv hst HSD c5
  go_wp2_with fail
  go_ret
  exact ⟨_,k,s2,rfl,HV.out,HG6.out,⟨0,m,s1.ds,HR5.out,.inr ⟨rfl,HST.out⟩⟩,nc,hnc,HS6.out⟩
 ·have HSV:=hide hsv
  clear hsv
  go_wp2_with fail
  go_ret
  exact ⟨_,k1,s1,rfl,.inr ⟨hk0,sv,nm,rfl,HSV.out⟩,HG5.out,⟨k1,m,s1.ds,HR5.out,.inl ⟨hk0,rfl,rfl⟩⟩,nc,hnc,HS5.out⟩
theorem openS_rest (s:PSt) (l:List TE) (w:World) {L C B:Nat} (h:s.In w) (hgl:Gl w) (hlow:LowS s) (hf:DFit s.ds L C B) (hb:Bud (L + s.R.now.length + 20) (C + s.R.now.length + 20) (B + 36)) (hps:∀ e ∈ s.R.now,e.path.size ≤ 9223372036854775807) (hq:QuI s.ds l) :
  Calls Tryz.prog 50 #[.pointer (some ⟨s.b,0,none⟩)] w fun e w'=>∃ k s' sv ev,e = .returned (.tuple #[sv,ev]) ∧ ErrV w' ev k ∧ PGo s s' w w' ∧ GoR s.ds k s'.ds ∧
   (k = 0 → ∃ sb cb tb,sv = .pointer (some ⟨sb,0,none⟩) ∧ (w.heap.size ≤ sb ∧ w.heap.size ≤ cb ∧ w.heap.size ≤ tb) ∧ StW w' sb s' cb tb (ctF s.R.now).length l.length (cD (ctF s.R.now)) (tD l)) ∧ (k ≠ 0 → sv = .pointer none):=by
 obtain ⟨W,hW,hB,hsz,hcm,htm,hblk⟩:=three_maps w s.b
 have hmk1:=fun w=>run_makeMap (P:=Tryz.prog) 156 w
 have hmk2:=fun w=>run_makeMap (P:=Tryz.prog) 157 w
 have hst:StW W (w.heap.size + 1 + 1) s w.heap.size (w.heap.size + 1) 0 0 (.map []) (.map []):=⟨h.later hB,hgl.later hB,hlow,hblk,hcm,htm,fun e=>by have:=h.lt e;omega,fun e=>by have:=h.lt e;omega,fun e=>by have:=hgl.lt e;omega,fun e=>by have:=hgl.lt e;omega,fun e=>by have:=hgl.lt e;omega,by omega⟩
 have HB:=hide hB
 have HW:=hide hW
 have HTH:=hide (isThere_any (w.heap.size + 1 + 1) s layoutP W hst.on.sb hst.inn (by decide))
 rw [hq.lay] at HTH
 have HGN:=hide (fun (W':World) (hg:PGo s s W W')=>goOn_many (w.heap.size + 1 + 1) s w.heap.size (w.heap.size + 1) l W' (hst.go hg) hq hf hb hps)
 have e1:∀ (args:Array Value) (w:World),(callFunc 92 args).run Tryz.prog w = .ok (.enter 92 args) w:=enters_of Tryz.func92 (by kernel_rfl) rfl
 have e2:∀ (args:Array Value) (w:World),(callFunc 94 args).run Tryz.prog w = .ok (.enter 94 args) w:=enters_of Tryz.func94 (by kernel_rfl) rfl
 clear hst hB hcm htm hblk h hgl hlow hf hb hps hW hq
 go_enter Tryz.func50,Tryz.ntmps50
 go_wp2_with fail
 rw [← HW.out]
 refine (HTH.out).mono ?_
 rintro _ w1 ⟨rfl,hg1⟩
 dsimp only
 have HG1:=hide hg1
 clear hg1 HTH HW hmk1 hmk2
 go_wp2_with fail
 refine (HGN.out _ HG1.out).mono ?_
 rintro _ w2 ⟨ev,k,s',rfl,hev,hg2,hr,nc,hnc,hs2⟩
 dsimp only
 have hpg:PGo s s' w w2:=by
  have g1:=((SGo.of_below (S:=fun k=>k = w.heap.size ∨ k = w.heap.size + 1) (s:=s) HB.out).trans (SGo.of_go HG1.out)).trans hg2
  refine ⟨g1.b,hs2.inn,g1.gr.mono (fun k hk hs=>?_),g1.own⟩
  rcases hs with hs | hs | hs
  ·exact hs
  ·omega
  ·omega
 have HPG:=hide hpg
 have HR:=hide hr
 have HS2:=hide (show StW w2 (w.heap.size + 1 + 1) s' w.heap.size (w.heap.size + 1) (ctF s.R.now).length l.length (cD (ctF s.R.now)) (tD l) from ⟨hs2.inn,hs2.gl,hs2.low,hs2.blk,mD_tight hs2.cm,hs2.tm,hs2.ncb,hs2.ntb,hs2.gcb,hs2.gtb,hs2.gsb,hs2.ne⟩)
 clear hg2 hr hs2 hpg
 rcases hev with ⟨rfl,rfl⟩ | ⟨hk0,sv,nm,rfl,hsv⟩
 ·go_wp2_with fail
  refine bodyPost_ret (results_tmp2 rfl _ _ _) rfl ?_
  exact ⟨0,s',_,_,rfl,.inl ⟨rfl,rfl⟩,HPG.out,HR.out,fun _=>⟨_,_,_,rfl,by omega,HS2.out⟩,fun hk=>absurd rfl hk⟩
 ·have HSV:=hide hsv
  clear hsv
  go_wp2_with fail
  refine bodyPost_ret (results_tmp2 rfl _ _ _) rfl ?_
  exact ⟨k,s',_,_,rfl,.inr ⟨hk0,sv,nm,rfl,HSV.out⟩,HPG.out,HR.out,fun hk=>absurd hk hk0,fun _=>rfl⟩
theorem bOpen_rest (s:PSt) (l:List TE) (w:World) (d:Nat) {L C B:Nat} (h:s.In w) (hgl:Gl w) (hlow:LowS s) (hf:DFit s.ds L C B) (hb:Bud (L + s.R.now.length + 20) (C + s.R.now.length + 20) (B + 36)) (hps:∀ e ∈ s.R.now,e.path.size ≤ 9223372036854775807) (hq:QuI s.ds l) (hbd:BD w d s.b) :
  Calls Tryz.prog 17 #[.pointer (some ⟨d,0,none⟩)] w fun e w'=>∃ k s' sv,e = .returned (.tuple #[sv,.int .i64 k]) ∧ PGo s s' w w' ∧ GoR s.ds k s'.ds ∧
   (k = 0 → ∃ xb sb cb tb,sv = .pointer (some ⟨xb,0,none⟩) ∧ BSt w' xb sb ∧ (w.heap.size ≤ sb ∧ w.heap.size ≤ cb ∧ w.heap.size ≤ tb) ∧ w.heap.size ≤ xb ∧ StW w' sb s' cb tb (ctF s.R.now).length l.length (cD (ctF s.R.now)) (tD l)) ∧ (k ≠ 0 → sv = .pointer none) :=
 bOpen_many (RO:=GoR) s w d h hgl hlow (fun W hW=>openS_rest s l W (h.later hW) (hgl.later hW) hlow hf hb hps hq) hbd
end Go.Proofs.YtncigfibncmioaaGreatDoor

/-
  PROVED HERE: Prune of package store.
-/
namespace Go.Proofs.YtncigfibncmioaaGreatDoor
set_option maxHeartbeats 4000000
set_option maxRecDepth 100000
open Go.RowKit
def prS (ul:List DV):List Stp:=sRn journalP pruningP :: epS ul
def PrR (s:PSt) (sb cb tb nc:Nat) (Dc Dt:DataW Value) (nt:Nat) (ul:List DV) (w:World) (e:Ending) (w':World):Prop :=
 (ul = [] ∧ e = .returned (.tuple #[.int .i64 0,.nilIface]) ∧ Below w.heap.size w w') ∨
 (ul ≠ [] ∧ ∃ ev k s' m z,e = .returned (.tuple #[.int .i64 z,ev]) ∧ ErrV w' ev k ∧ (k = 0 → z = (ul.length:Int)) ∧ SGo (fun k=>k = cb) s s' w w' ∧ Ran s.ds (prS ul) k m s'.ds ∧ StW w' sb s' cb tb nc nt (delsD Dc (ul.take (m - 1))) Dt)
theorem prune_any (sb:Nat) (s:PSt) (cb tb nc:Nat) (l:List TE) (cl:List (List Nat)) (dl:List DV) (w:World) {L C B:Nat} (h:StW w sb s cb tb nc l.length (cD cl) (tD l)) (hokt:∀ t ∈ l,t.Ok) (hok:∀ d ∈ cl,DigOk d) (hr:RiseK DV.key dl) (hmem:∀ x,x ∈ dl ↔ x.1 ∈ cl) (hsz:cl.length ≤ 100000000) (hsd:dl.length ≤ 100000000) (hf:DFit s.ds L C B) (hb:Bud (L + dl.length + 20) (C + dl.length + 20) B) :
  Calls Tryz.prog 77 #[.pointer (some ⟨sb,0,none⟩)] w (PrR s sb cb tb nc (cD cl) (tD l) l.length (unT l dl) w):=by
 have HU:=hide (untagged_any sb s cb tb nc l cl dl w h hokt hok hr hmem hsz hsd)
 have hul:(unT l dl).length ≤ dl.length:=List.length_filter_le _ _
 generalize unT l dl = ul at HU hul ⊢
 have H:=hide h
 have HF:=hide hf
 have HBU:=hide hb
 clear h hokt hok hr hmem hf hb
 go_enter Tryz.func77,Tryz.ntmps77
 go_wp2_with fail
 refine (HU.out).mono ?_
 rintro _ w1 ⟨v,rfl,hrow,hb1⟩
 dsimp only
 obtain ⟨so,sc,rfl⟩:=own_sl hrow
 have HROW:=hide hrow
 have HB1:=hide hb1
 have H1:=hide (H.out.later hb1)
 clear hrow hb1 HU
 by_cases hul0:ul.length = 0
 ·have hn:ul = []:=List.length_eq_zero_iff.1 hul0
  subst hn
  go_wp2_with fail
  refine bodyPost_ret (results_tmp2 rfl _ _ _) rfl ?_
  exact .inl ⟨rfl,rfl,HB1.out⟩
 ·have hz:(((ul.length:Nat):Int) == 0) = false:=by simpa using hul0
  have hz2:¬ ((ul.length:Nat):Int) = 0:=by omega
  have c0:=cell_of_row _ _ 0 _ _ _ H1.out.blk
  have HRN:=hide (dkRename s journalP pruningP w1 H1.out.inn HF.out (HBU.out.mono (by omega) (by omega) (Nat.le_refl _)) (by decide) (by decide))
  go_wp2_with fail
  refine (HRN.out).mono ?_
  rintro _ w2 ⟨v,k,s2,rfl,hv,hg,hst⟩
  dsimp only
  have HS2:=hide (H1.out.go hg)
  have HG2:=hide ((SGo.of_below HB1.out).trans (SGo.of_go (S:=fun k=>k = cb) hg))
  have hstr:stR s.ds (sRn journalP pruningP) k s2.ds:=hst
  have HSR:=hide hstr
  have HF2:=hide (HF.out.st hstr)
  have hrow2:w2.ownsRow w.heap.size 117 32 (.slice so ul.length sc) ul.length (ul.flatMap DV.enc):=own_same HROW.out (fun q hk _=>by
   obtain ⟨c,hc⟩:=own_obj HROW.out q hk
   exact hg.gr.block q (lt_heap hc) (fun e=>by have:=H.out.inn.lt e;have:=own_ge HROW.out q hk;omega))
  have hown2:∀ q,(Value.slice so ul.length sc).ownBlock = some q → ¬ (s2.own q ∨ q = cb):=fun q hq e=>by
   obtain ⟨c,hc⟩:=own_obj HROW.out q hq
   have h1:=own_ge HROW.out q hq
   have h2:=lt_heap hc
   rcases e with e | e
   ·rcases hg.own q e with e | e
    ·have:=H.out.inn.lt e;omega
    ·omega
   ·have:=H.out.cm.lt;omega
  clear hst hstr HRN c0
  rcases hv with ⟨h0,rfl⟩ | ⟨h0,sv,nm,rfl,hse⟩
  ·have HEP:=hide (endPrune_any sb s2 cb tb nc l.length (cD cl) (tD l) w.heap.size so sc ul w2 HS2.out hown2 hrow2 (by omega) HF2.out (HBU.out.mono (by omega) (by omega) (by show B + 0 ≤ B;omega)))
   have HK0:=hide h0
   clear h0 hrow2 hown2 hg
   go_wp2_with fail
   refine (HEP.out).mono ?_
   rintro _ w8 ⟨v8,k8,s8,m8,rfl,hv8,hg8,hr8,hst8⟩
   dsimp only
   have HV8:=hide hv8
   have HG8:=hide (HG2.out.trans hg8)
   have HR8:=hide hr8
   have HS8:=hide hst8
   clear hv8 hg8 hr8 hst8 HEP
   go_wp2_with fail
   refine bodyPost_ret (results_tmp2 rfl _ _ _) rfl ?_
   have hr0:stR s.ds (sRn journalP pruningP) 0 s2.ds:=by rw [← HK0.out];exact HSR.out
   exact .inr ⟨fun e=>hul0 (by rw [e];rfl),_,k8,s8,m8 + 1,_,rfl,HV8.out,fun _=>rfl,HG8.out,⟨0,s2.ds,hr0,.inr ⟨rfl,m8,rfl,HR8.out⟩⟩,HS8.out⟩
  ·have HSE:=hide hse
   clear hse
   go_wp2_with fail
   refine bodyPost_ret (results_tmp2 rfl _ _ _) rfl ?_
   exact .inr ⟨fun e=>hul0 (by rw [e];rfl),_,k,s2,0,_,rfl,.inr ⟨h0,sv,nm,rfl,HSE.out⟩,fun e=>absurd e h0,HG2.out,⟨k,s2.ds,HSR.out,.inl ⟨h0,rfl,rfl,rfl⟩⟩,HS2.out⟩
end Go.Proofs.YtncigfibncmioaaGreatDoor

/-
  PROVED HERE: what a change, Delete and Prune leave of a whole disk at rest; no walk.
-/
namespace Go.Proofs.YtncigfibncmioaaGreatDoor
open Go.RowKit
theorem del_rest {D D':DS} {F:List FF} {r:Int} {B:Nat} {k:Int} {m:Nat} {x:FF} (h:Rst D F r B) (hx:x ∈ F) (hp:isPathB x.p = true) (hr:Ran D [sRm x.p,sSd] k m D'):k = 0 ∧ m = 2 ∧ Rst D' (delK FF.p x.p F) r B:=by
 obtain ⟨E,m1,hE,rfl,hr1⟩:=hr.step2 (fun X=>Wh X (delK FF.p x.p F) r B) (fun k1 X hs=>h.wh.rm hs hp hx)
 obtain ⟨G,m2,hG,rfl,hr2⟩:=hr1.step2 (fun X=>Wh X (delK FF.p x.p F) r B ∧ X.R.safe = X.R.now ∧ X.R.chg = []) (fun k1 X hs=>hE.sd hs)
 obtain ⟨rfl,rfl,rfl⟩:=hr2
 exact ⟨rfl,rfl,hG.1,hG.2.1,hG.2.2,fun y hy=>h.syn y (delK_mem.1 hy).1⟩
def delsF (ul:List DV) (F:List FF):List FF:=ul.foldl (fun F d=>delK FF.p (cPath d.1) F) F
theorem delsF_rise:∀ (ul:List DV) {F:List FF},RiseK FF.p F → RiseK FF.p (delsF ul F)
 | [],_,h=>h
 | d :: ul,_,h=>delsF_rise ul (riseK_del (cPath d.1) h)
theorem delsF_mem:∀ (ul:List DV) {F:List FF} {x:FF},x ∈ delsF ul F ↔ x ∈ F ∧ ∀ d ∈ ul,x.p ≠ cPath d.1
 | [],_,_=>by simp [delsF]
 | d :: ul,F,x=>by
  show x ∈ delsF ul (delK FF.p (cPath d.1) F) ↔ _
  rw [delsF_mem ul,delK_mem]
  constructor
  ·rintro ⟨⟨h1,h2⟩,h3⟩
   exact ⟨h1,fun e he=>by
    rcases List.mem_cons.1 he with rfl | he
    ·exact h2
    ·exact h3 e he⟩
  ·rintro ⟨h1,h2⟩
   exact ⟨⟨h1,h2 d (by simp)⟩,fun e he=>h2 e (by simp [he])⟩
theorem rm_many:∀ (ul:List DV) (rest:List Stp) {D D':DS} {F:List FF} {r:Int} {B:Nat} {k:Int} {m:Nat},Wh D F r B → ul.Nodup → (∀ d ∈ ul,∃ x ∈ F,x.p = cPath d.1) → Ran D (rmC ul ++ rest) k m D' → ∃ D1 m',Wh D1 (delsF ul F) r B ∧ m = ul.length + m' ∧ Ran D1 rest k m' D'
 | [],rest,D,D',F,r,B,k,m,h,_,_,hr=>⟨D,m,h,by simp,hr⟩
 | d :: ul,rest,D,D',F,r,B,k,m,h,hn,hin,hr=>by
  obtain ⟨x,hx,hp⟩:=hin d (by simp)
  obtain ⟨n1,n2⟩:=List.nodup_cons.1 hn
  obtain ⟨E,m1,hE,rfl,hr1⟩:=Ran.step2 (fun X=>Wh X (delK FF.p (cPath d.1) F) r B) hr (fun k1 X hs=>by
   have:=h.rm (x:=x) (by rw [hp];exact hs) (by rw [hp];exact cP_path _) hx
   rwa [hp] at this)
  obtain ⟨D1,m',h1,rfl,h3⟩:=rm_many ul rest hE n2 (fun e he=>by
   obtain ⟨y,hy,hq⟩:=hin e (by simp [he])
   exact ⟨y,delK_mem.2 ⟨hy,fun h4=>n1 (by
    have:e = d:=Subtype.ext (cP_inj e.2 d.2 (hq.symm.trans h4))
    rw [← this]
    exact he)⟩,hq⟩) hr1
  exact ⟨D1,m',h1,by simp only [List.length_cons];omega,h3⟩
theorem prune_rest {D D':DS} {F:List FF} {r:Int} {B:Nat} {k:Int} {m:Nat} {t:ByteArray} {y:Int} {ul:List DV} (h:Rst D F r B) (hj:(⟨journalP,t,y⟩ : FF) ∈ F) (hpr:findK FF.p pruningP F = none) (hn:ul.Nodup) (hin:∀ d ∈ ul,∃ x ∈ F,x.p = cPath d.1) (hr:Ran D (prS ul) k m D') :
  k = 0 ∧ m = ul.length + 3 ∧ Rst D' (delsF ul F) r B:=by
 have hjp:isPathB journalP = true:=by decide
 have hpp:isPathB pruningP = true:=by decide
 have hne:journalP ≠ pruningP:=by decide
 have hcj:∀ d:DV,journalP ≠ cPath d.1:=fun d=>Ne.symm (less_ne (cP_journal d.1))
 have hcp:∀ d:DV,pruningP ≠ cPath d.1:=fun d=>Ne.symm (less_ne (by rw [less_eq,cP_data];rfl))
 have hrF:=h.wh.riseF
 obtain ⟨E,m1,hE,rfl,hr1⟩:=Ran.step2 (fun X=>Wh X (insK FF.p ⟨pruningP,t,y⟩ (delK FF.p journalP F)) r B) hr (fun k1 X hs=>h.wh.rn hs hjp hpp hne hj)
 have r1:=riseK_ins (key:=FF.p) ⟨pruningP,t,y⟩ (riseK_del journalP hrF)
 obtain ⟨G,m2,hG,rfl,hr2⟩:=rm_many ul [sRn pruningP journalP,sSd] hE hn (fun d hd=>by
  obtain ⟨x,hx,hp⟩:=hin d hd
  exact ⟨x,mem_ins_old (riseK_del _ hrF) (mem_del hx (by rw [hp];exact Ne.symm (hcj d))) (by rw [hp];exact Ne.symm (hcp d)),hp⟩) hr1
 have hpm:(⟨pruningP,t,y⟩ : FF) ∈ delsF ul (insK FF.p ⟨pruningP,t,y⟩ (delK FF.p journalP F)):=(delsF_mem ul).2 ⟨mem_ins (riseK_del _ hrF) _,fun d _=>hcp d⟩
 obtain ⟨I,m3,hI,rfl,hr3⟩:=hr2.step2 (fun X=>Wh X (insK FF.p ⟨journalP,t,y⟩ (delK FF.p pruningP (delsF ul (insK FF.p ⟨pruningP,t,y⟩ (delK FF.p journalP F))))) r B) (fun k1 X hs=>hG.rn hs hpp hjp (Ne.symm hne) hpm)
 have he:insK FF.p ⟨journalP,t,y⟩ (delK FF.p pruningP (delsF ul (insK FF.p ⟨pruningP,t,y⟩ (delK FF.p journalP F)))) = delsF ul F:=by
  have r2:=delsF_rise ul r1
  refine riseK_same (riseK_ins _ (riseK_del _ r2)) (delsF_rise ul hrF) (fun x=>?_)
  rw [insK_mem_iff (fun a ha e=>?_) (riseK_del _ r2),delK_mem,delsF_mem,delsF_mem,insK_mem_iff (fun a ha e=>?_) (riseK_del _ hrF),delK_mem]
  ·constructor
   ·rintro (rfl | ⟨⟨h1 | h1,h2⟩,h3⟩)
    ·exact ⟨hj,fun d _=>hcj d⟩
    ·rw [h1] at h3
     exact absurd rfl h3
    ·exact ⟨h1.1,h2⟩
   ·rintro ⟨h1,h2⟩
    by_cases hxj:x.p = journalP
    ·left
     exact riseK_inj hrF h1 hj hxj
    ·right
     refine ⟨⟨.inr ⟨h1,hxj⟩,h2⟩,fun hxp=>?_⟩
     exact findK_none hpr x h1 hxp
  ·exact absurd e (findK_none hpr a (delK_mem.1 ha).1)
  ·have h1:=((delsF_mem ul).1 (delK_mem.1 ha).1).1
   rcases insK_mem h1 with h2 | h2
   ·rw [h2] at e
    exact absurd e.symm hne
   ·exact absurd e (delK_mem.1 h2).2
 rw [he] at hI
 obtain ⟨K,m4,hK,rfl,hr4⟩:=hr3.step2 (fun X=>Wh X (delsF ul F) r B ∧ X.R.safe = X.R.now ∧ X.R.chg = []) (fun k1 X hs=>hI.sd hs)
 obtain ⟨rfl,rfl,rfl⟩:=hr4
 exact ⟨rfl,by omega,hK.1,hK.2.1,hK.2.2,fun z hz=>h.syn z ((delsF_mem ul).1 hz).1⟩
def putF (fl:List (ByteArray × ByteArray)) (F:List FF):List FF:=fl.foldl (fun F f=>insK FF.p (ff f.1 f.2) F) F
def totF (fl:List (ByteArray × ByteArray)):Nat:=(fl.map fun f=>f.2.size).sum
theorem wrz_rest {D D':DS} {F:List FF} {r:Int} {B:Nat} {k:Int} {fl:List (ByteArray × ByteArray)} (h:Rst D F r B) (h0:findK FF.p p0 F = none) (h1:findK FF.p p1 F = none) (hfl:fl.length ≤ 2) (hok:∀ f ∈ fl,isPathB f.1 = true ∧ p0 ≠ f.1 ∧ p1 ≠ f.1 ∧ f.2.size ≤ B) (hw:WrZ D fl k D') :
  (k = 0 ∧ Rst D' (putF fl F) r B ∧ (fl ≠ [] → (sumF F:Int) + (totF fl:Int) ≤ r)) ∨ (fl ≠ [] ∧ r < (sumF F:Int) + (totF fl:Int) ∧ k = 4 ∧ Rst D' F r B):=by
 unfold WrZ at hw
 match fl,hfl,hok,hw with
 | [],_,_,hw =>
  rw [if_pos rfl] at hw
  obtain ⟨rfl,rfl⟩:=hw
  exact .inl ⟨rfl,h,fun h=>absurd rfl h⟩
 | [(c,b)],_,hok,hw =>
  rw [if_neg (by simp)] at hw
  obtain ⟨a1,a2,a3,a4⟩:=hok (c,b) (by simp)
  have e:totF [(c,b)] = b.size:=by simp [totF]
  rw [e]
  rcases wr_one h h0 a1 a2 a4 hw with ⟨x1,x2,x3⟩ | ⟨x1,x2,x3⟩
  ·exact .inl ⟨x2,x3,fun _=>x1⟩
  ·exact .inr ⟨by simp,x1,x2,x3⟩
 | [(c,b),(q,X)],_,hok,hw =>
  rw [if_neg (by simp)] at hw
  obtain ⟨a1,a2,a3,a4⟩:=hok (c,b) (by simp)
  obtain ⟨b1,b2,b3,b4⟩:=hok (q,X) (by simp)
  have e:totF [(c,b),(q,X)] = b.size + X.size:=by simp [totF]
  rw [e]
  rcases wr_two h h0 h1 a1 b1 a2 a3 b2 b3 a4 b4 hw with ⟨x1,x2,x3⟩ | ⟨x1,x2,x3⟩
  ·have x4:(sumF F:Int) + (b.size:Int) + (X.size:Int) ≤ r:=x1
   exact .inl ⟨x2,x3,fun _=>by rw [Int.natCast_add];omega⟩
  ·have x4:r < (sumF F:Int) + (b.size:Int) + (X.size:Int):=x1
   exact .inr ⟨by simp,by rw [Int.natCast_add];omega,x2,x3⟩
 | _ :: _ :: _ :: _,hfl,_,_=>simp at hfl
end Go.Proofs.YtncigfibncmioaaGreatDoor

/-
  PROVED HERE: Delete and Prune of the program's store; written by tools/genbm.py.
-/
namespace Go.Proofs.YtncigfibncmioaaGreatDoor
set_option maxHeartbeats 4000000
set_option maxRecDepth 100000
open Go.RowKit Go.MuLone
theorem bDel_any (xb sb:Nat) (s:PSt) (cb tb nc:Nat) (Dc:DataW Value) (l:List TE) (text:ByteArray) (w:World) (hx:BSt w xb sb) (hG:¬ isG xb) (h:StW w sb s cb tb nc l.length Dc (tD l)) {L C B:Nat} (hok:∀ t ∈ l,t.Ok) (hu:UnitC Dc) (hdig:isDigB text = true) (hh:Maps.has Dc (dKey (rd text)) = true) (hmay:tagd (rd text) l = false) (hf:DFit s.ds L C B) (hb:Bud (L + 10) (C + 10) B) :
  Calls Tryz.prog 39 #[.pointer (some ⟨xb,0,none⟩),.string text] w fun e w'=>∃ k s' m,e = .returned (.int .i64 k) ∧ SGo (sS xb sb cb) s s' w w' ∧ BSt w' xb sb ∧ Ran s.ds [sRm (cPath (rd text)),sSd] k m s'.ds ∧ ((m = 0 ∧ k ≠ 0 ∧ StW w' sb s' cb tb nc l.length Dc (tD l)) ∨ (0 < m ∧ StW w' sb s' cb tb nc l.length (Dc.del (dKey (rd text))) (tD l))):=by
 have hx:BLk w xb sb 0:=hx
 have c0:w.cell? ⟨xb,0,none⟩ = some (.int .i32 0):=cell_of_row _ _ 0 _ _ _ hx
 have f0:w.frozen? ⟨xb,0,none⟩ = false:=frozen_of_row _ _ 0 _ _ hx
 obtain ⟨W,hW⟩ : ∃ W,W = w.setCell ⟨xb,0,none⟩ (.int .i32 1):=⟨_,rfl⟩
 have hst:StW W sb s cb tb nc l.length Dc (tD l):=by rw [hW];exact h.lock hx hG
 have hxw:BLk W xb sb 1:=by rw [hW];exact hx.set 1
 have hfw:SGo (sS xb sb cb) s s w W:=by rw [hW];exact SGo.lock
 have HFD:=hide (find_there xb sb s cb tb nc l.length Dc (tD l) text 1 W hxw hst hu hdig hh)
 have HMT:=hide (fun W' (hb':Below W.heap.size W W')=>isTagged_any sb s cb tb nc Dc l (rd text) W' (hst.later hb') hok (rd_len text) (rd_lt text))
 rw [hmay] at HMT
 have HPB:=hide (fun W' (hb':Below W.heap.size W W')=>delete_any sb s cb tb nc l.length Dc (tD l) (rd text) W' (hst.later hb') (rd_len text) (rd_lt text) hf hb)
 have hds:=rd_len text
 have hlt:=rd_lt text
 generalize rd text = ds at *
 have HLK:=hide (lock_free Tryz.muLib ⟨xb,0,none⟩ w c0 f0)
 have HW:=hide hW
 have HST:=hide hst
 have HXW:=hide hxw
 have HFW:=hide hfw
 have c2:W.cell? ⟨xb,2,none⟩ = some (.pointer (some ⟨sb,0,none⟩)):=cell_of_row _ _ 2 _ _ _ hxw
 clear hx c0 f0 hst hxw hfw hW h hu hdig hh hok hmay hf hb
 go_enter_defers Tryz.func39,Tryz.ntmps39
 go_wp2_with fail
 refine (HLK.out).mono ?_
 rintro _ W1 ⟨rfl,hW1⟩
 have hW1:W1 = W:=hW1.trans HW.out.symm
 rw [hW1]
 dsimp only
 clear hW1 HLK HW
 go_wp2_with fail
 refine (HFD.out).mono ?_
 rintro _ w3 ⟨rfl,hb3⟩
 dsimp only
 obtain ⟨X,hX⟩ : ∃ X,X = w3.alloc (.cells (cells8 ds) 117):=⟨_,rfl⟩
 have hbX:Below w3.heap.size w3 X:=by rw [hX];exact (Below.refl _ _).alloc (Nat.le_refl _) _
 have hXr:X.heap[w3.heap.size]? = some (.cells (cells8 ds) 117 (0,0)):=by rw [hX];exact heap_alloc_new _ _
 have hb4:Below W.heap.size W X:=hb3.trans (hbX.mono hb3.size)
 have c3:=cell_later hb4 c2
 have HX3:=hide (HXW.out.later hb4)
 have HF3:=hide (HFW.out.trans (SGo.of_below hb4))
 have HS3:=hide (HST.out.later hb4)
 have HXR:=hide hXr
 have HXX:=hide hX
 have HW3:=hide hb3.size
 clear hX hbX hXr hb3
 go_wp2_with (first | (refine wpList_store_row rfl 117 _ _ rfl w3.heap.size (cells8 ds) rfl rfl 117 _ (heap_alloc_new _ _) (size40 _ hds) (by first | rfl | (rw [cells8_size,hds];rfl) | (rw [cells8_size,cells8_size,hds];rfl)) (cells8_one _) ?_;rw [World.setRow_alloc_new,← HXX.out]) | (refine wpList_load_row rfl 117 _ rfl w3.heap.size rfl 117 _ _ _ HXR.out Tryz.underlying117 rfl (size40 _ hds) ?_))
 have hdr:Below X.heap.size X X.drew:=(Below.refl _ _).drew
 have hrd0:=(hdr.block _ (lt_heap HXR.out)).trans HXR.out
 obtain ⟨yb,hyb⟩ : ∃ yb,yb = w3.heap.size:=⟨_,rfl⟩
 rw [← hyb] at HXR hrd0 ⊢
 have hS0:X.drew.cell? ⟨xb,2,none⟩ = some (.pointer (some ⟨sb,0,none⟩)) ∧ X.drew.rangeAt yb 0 (cells8 ds).toList:=⟨cell_later hdr c3,con_r hrd0⟩
 have u72:=Tryz.underlying117
 have i72:=size72 ds hds
 have hb4d:=hb4.trans (hdr.mono hb4.size)
 have HYB:=hide hyb
 clear hyb
 go_region_held3 (fun w'=>w'.cell? ⟨xb,2,none⟩ = some (.pointer (some ⟨sb,0,none⟩)) ∧ w'.rangeAt yb 0 (cells8 ds).toList) (first | exact hS0 | exact hS1 | go_keep) ((first | (go_at_call 75;refine (HMT.out _ hb4d).mono ?_;rintro _ w5 ⟨rfl,hb5⟩;have hS1:w5.cell? ⟨xb,2,none⟩ = some (.pointer (some ⟨sb,0,none⟩)) ∧ w5.rangeAt yb 0 (cells8 ds).toList:=⟨cell_later hb5 (cell_later hdr c3),con_r ((hb5.block _ (lt_heap hrd0)).trans hrd0)⟩)))
 have hb5x:Below X.heap.size X w5:=hdr.trans hb5
 have HXR5:=hide ((hb5.block _ (lt_heap hrd0)).trans hrd0)
 have HX5:=hide (HX3.out.later hb5x)
 have HF5:=hide (HF3.out.trans (SGo.of_below hb5x))
 have HS5:=hide (HS3.out.later hb5x)
 have HB6:=hide (hb4.trans (hb5x.mono hb4.size))
 clear hS0 hS1 hb5 hb5x hb4 hb4d hdr hrd0 u72 i72 HMT HFD c2 c3
 have c5:w5.cell? ⟨xb,2,none⟩ = some (.pointer (some ⟨sb,0,none⟩)):=cell_of_row _ _ 2 _ _ _ HX5.out
 go_wp2_with fail
 have hdr:Below w5.heap.size w5 w5.drew:=(Below.refl _ _).drew
 have hrd0:=(hdr.block _ (lt_heap HXR5.out)).trans HXR5.out
 have hyb0:W.heap.size ≤ yb:=by rw [HYB.out];exact HW3.out
 have hS0:w5.drew.cell? ⟨xb,2,none⟩ = some (.pointer (some ⟨sb,0,none⟩)) ∧ w5.drew.rangeAt yb 0 (cells8 ds).toList:=⟨cell_later hdr c5,con_r hrd0⟩
 have u72:=Tryz.underlying117
 have i72:=size72 ds hds
 have hb6d:=HB6.out.trans (hdr.mono HB6.out.size)
 have HX6:=hide (HX5.out.later hdr)
 have HS6:=hide (HS5.out.later hdr)
 have HF6:=hide (HF5.out.trans (SGo.of_below hdr))
 have hnown:¬ (s.own yb ∨ yb = cb):=fun e=>by
  rcases e with e | e
  ·have:=HST.out.inn.lt e;omega
  ·have:=HST.out.cm.lt;omega
 go_region_held3 (fun w'=>w'.cell? ⟨xb,2,none⟩ = some (.pointer (some ⟨sb,0,none⟩)) ∧ w'.rangeAt yb 0 (cells8 ds).toList) (first | exact hS0 | exact hS1 | exact hS2 | go_keep) ((first | (go_at_call 76;refine (HPB.out _ hb6d).mono ?_;rintro _ w4 ⟨ev,k,s',m,rfl,hev,hft,hwr,h40⟩;have hx7:=HX6.out.sgo HS6.out hft (fun k hk=>.inr hk);have hr7:=(hft.gr.block _ (lt_heap hrd0) hnown).trans hrd0;have hS1:w4.cell? ⟨xb,2,none⟩ = some (.pointer (some ⟨sb,0,none⟩)) ∧ w4.rangeAt yb 0 (cells8 ds).toList:=⟨cell_of_row _ _ 2 _ _ _ hx7,con_r hr7⟩;have hg4:Gl w4:=h40.elim (fun h=>h.2.2.gl) (fun h=>h.2.gl)) | (go_at_call 51;refine (errno_ev hev hg4.err).mono ?_;rintro _ w8 ⟨rfl,hb8⟩;have hS2:w8.cell? ⟨xb,2,none⟩ = some (.pointer (some ⟨sb,0,none⟩)) ∧ w8.rangeAt yb 0 (cells8 ds).toList:=⟨cell_later hb8 hS1.1,con_r ((hb8.block _ (lt_heap hr7)).trans hr7)⟩)))
 have HX8:=hide (hx7.later hb8)
 have HF8:=hide ((HF6.out.trans (hft.st (xb:=xb) (cb:=cb) (fun k hk=>.inr hk))).trans (SGo.of_below hb8))
 have HB8:=hide hb8
 have HWR:=hide hwr
 have H40:=hide h40
 clear hS0 hS1 hS2 hx7 hr7 hb8 hev hft hwr h40 hg4 hb6d hdr hrd0 u72 i72 HPB c5
 go_wp2_with fail
 refine leaves_cons (f:=58) (args:=#[.pointer (some ⟨xb,0,none⟩)]) (by simp) (by simp [go_sem]) ?_
 refine (unlock_deferred Tryz.muLib ⟨xb,0,none⟩ .returning _ (cell_of_row _ _ 0 _ _ _ HX8.out) (frozen_of_row _ _ 0 _ _ HX8.out)).mono ?_
 rintro e u' w6 ⟨rfl,rfl,rfl⟩
 exact ⟨_,results_tmp rfl _ _ _,k,s',m,rfl,HF8.out.trans SGo.lock,HX8.out.set 0,HWR.out,H40.out.imp (fun h=>⟨h.1,h.2.1,(h.2.2.later HB8.out).lock HX8.out hG⟩) (fun h=>⟨h.1,(h.2.later HB8.out).lock HX8.out hG⟩)⟩
end Go.Proofs.YtncigfibncmioaaGreatDoor

/-
  PROVED HERE: Prune of the program's store; written by tools/genbm.py.
-/
namespace Go.Proofs.YtncigfibncmioaaGreatDoor
set_option maxHeartbeats 4000000
set_option maxRecDepth 100000
open Go.RowKit Go.MuLone
theorem bPrune_any (xb sb:Nat) (s:PSt) (cb tb nc:Nat) (l:List TE) (cl:List (List Nat)) (dl:List DV) (w:World) (hx:BSt w xb sb) (hG:¬ isG xb) (h:StW w sb s cb tb nc l.length (cD cl) (tD l)) {L C B:Nat} (hokt:∀ t ∈ l,t.Ok) (hok:∀ d ∈ cl,DigOk d) (hr:RiseK DV.key dl) (hmem:∀ x,x ∈ dl ↔ x.1 ∈ cl) (hsz:cl.length ≤ 100000000) (hsd:dl.length ≤ 100000000) (hf:DFit s.ds L C B) (hb:Bud (L + dl.length + 20) (C + dl.length + 20) B) :
  Calls Tryz.prog 40 #[.pointer (some ⟨xb,0,none⟩)] w fun e w'=>∃ k s',e = .returned (.tuple #[.int .i64 (if k = 0 then ((unT l dl).length:Int) else 0),.int .i64 k]) ∧ SGo (sS xb sb cb) s s' w w' ∧ BSt w' xb sb ∧
   ((unT l dl = [] ∧ k = 0 ∧ s' = s ∧ StW w' sb s cb tb nc l.length (cD cl) (tD l)) ∨ (unT l dl ≠ [] ∧ ∃ m,Ran s.ds (prS (unT l dl)) k m s'.ds ∧ StW w' sb s' cb tb nc l.length (delsD (cD cl) ((unT l dl).take (m - 1))) (tD l))):=by
 have hx:BLk w xb sb 0:=hx
 have c0:w.cell? ⟨xb,0,none⟩ = some (.int .i32 0):=cell_of_row _ _ 0 _ _ _ hx
 have f0:w.frozen? ⟨xb,0,none⟩ = false:=frozen_of_row _ _ 0 _ _ hx
 obtain ⟨W,hW⟩ : ∃ W,W = w.setCell ⟨xb,0,none⟩ (.int .i32 1):=⟨_,rfl⟩
 have hst:StW W sb s cb tb nc l.length (cD cl) (tD l):=by rw [hW];exact h.lock hx hG
 have hxw:BLk W xb sb 1:=by rw [hW];exact hx.set 1
 have hfw:SGo (sS xb sb cb) s s w W:=by rw [hW];exact SGo.lock
 have HPB:=hide (prune_any sb s cb tb nc l cl dl W hst hokt hok hr hmem hsz hsd hf hb)
 generalize unT l dl = ul at HPB ⊢
 have HLK:=hide (lock_free Tryz.muLib ⟨xb,0,none⟩ w c0 f0)
 have HW:=hide hW
 have HST:=hide hst
 have HXW:=hide hxw
 have HFW:=hide hfw
 have c2:W.cell? ⟨xb,2,none⟩ = some (.pointer (some ⟨sb,0,none⟩)):=cell_of_row _ _ 2 _ _ _ hxw
 clear hx c0 f0 hst hxw hfw hW h hokt hok hr hmem hf hb
 go_enter_defers Tryz.func40,Tryz.ntmps40
 go_wp2_with fail
 refine (HLK.out).mono ?_
 rintro _ W1 ⟨rfl,hW1⟩
 have hW1:W1 = W:=hW1.trans HW.out.symm
 rw [hW1]
 dsimp only
 clear hW1 HLK HW
 go_wp2_with fail
 refine (HPB.out).mono ?_
 rintro e w4 hpr
 rcases hpr with ⟨hn,rfl,hb4⟩ | ⟨hn,ev,k,s',m,z,rfl,hev,hz,hft,hran,hstw⟩
 ·dsimp only
  have HX4:=hide (HXW.out.later hb4)
  have HF4:=hide (HFW.out.trans (SGo.of_below hb4))
  have HS4:=hide (HST.out.later hb4)
  have HNN:=hide hn
  clear hb4 HPB hn c2
  go_wp2_with fail
  refine leaves_cons (f:=58) (args:=#[.pointer (some ⟨xb,0,none⟩)]) (by simp) (by simp [go_sem]) ?_
  refine (unlock_deferred Tryz.muLib ⟨xb,0,none⟩ .returning _ (cell_of_row _ _ 0 _ _ _ HX4.out) (frozen_of_row _ _ 0 _ _ HX4.out)).mono ?_
  rintro e u' w6 ⟨rfl,rfl,rfl⟩
  exact ⟨_,results_tmp2 rfl _ _ _,0,s,by rw [HNN.out];rfl,HF4.out.trans SGo.lock,HX4.out.set 0,.inl ⟨HNN.out,rfl,rfl,HS4.out.lock HX4.out hG⟩⟩
 ·dsimp only
  have HX4:=hide (HXW.out.sgo HST.out hft (fun k hk=>.inr hk))
  have HF4:=hide (HFW.out.trans (hft.st (xb:=xb) (cb:=cb) (fun k hk=>.inr hk)))
  have HS4:=hide hstw
  have HRN:=hide hran
  have HZ:=hide hz
  have HNN:=hide hn
  have hg4:=hstw.gl
  clear hft hstw hran hz hn HPB c2
  rcases hev with ⟨rfl,rfl⟩ | ⟨hk0,sv,nm,rfl,hse⟩
  ·clear hg4
   go_wp2_with fail
   refine leaves_cons (f:=58) (args:=#[.pointer (some ⟨xb,0,none⟩)]) (by simp) (by simp [go_sem]) ?_
   refine (unlock_deferred Tryz.muLib ⟨xb,0,none⟩ .returning _ (cell_of_row _ _ 0 _ _ _ HX4.out) (frozen_of_row _ _ 0 _ _ HX4.out)).mono ?_
   rintro e u' w6 ⟨rfl,rfl,rfl⟩
   exact ⟨_,results_tmp2 rfl _ _ _,0,by rw [HZ.out trivial];rfl,s',HF4.out.trans SGo.lock,HX4.out.set 0,.inr ⟨HNN.out,m,HRN.out,HS4.out.lock HX4.out hG⟩⟩
  ·have HER:=hide (errno_ev (.inr ⟨hk0,sv,nm,rfl,hse⟩) hg4.err)
   have HK0:=hide hk0
   clear hse hg4 hk0
   go_wp2_with fail
   refine (HER.out).mono ?_
   rintro _ w5 ⟨rfl,hb5⟩
   dsimp only
   have HX5:=hide (HX4.out.later hb5)
   have HF5:=hide (HF4.out.trans (SGo.of_below hb5))
   have HS5:=hide (HS4.out.later hb5)
   clear hb5 HER HX4 HF4 HS4
   go_wp2_with fail
   refine leaves_cons (f:=58) (args:=#[.pointer (some ⟨xb,0,none⟩)]) (by simp) (by simp [go_sem]) ?_
   refine (unlock_deferred Tryz.muLib ⟨xb,0,none⟩ .returning _ (cell_of_row _ _ 0 _ _ _ HX5.out) (frozen_of_row _ _ 0 _ _ HX5.out)).mono ?_
   rintro e u' w6 ⟨rfl,rfl,rfl⟩
   exact ⟨_,results_tmp2 rfl _ _ _,k,s',by rw [if_neg HK0.out];rfl,HF5.out.trans SGo.lock,HX5.out.set 0,.inr ⟨HNN.out,m,HRN.out,HS5.out.lock HX5.out hG⟩⟩
end Go.Proofs.YtncigfibncmioaaGreatDoor
