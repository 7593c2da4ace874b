/-
  PROVED HERE: slices.AppendSeq and Collect of an iterator of digests: a row with what it gives; written by tools/gendapp.py.
-/
import Derived.Test.YtncigfibncmioaaGreatDoorErHeld
import Derived.Test.YtncigfibncmioaaGreatDoorSmTag
namespace Go.Proofs.YtncigfibncmioaaGreatDoor
set_option maxHeartbeats 4000000
set_option maxRecDepth 100000
open Go.RowKit Go.Shelf Go.Maps Go.Sort
attribute [local go_sem] Oper.semAt_some
theorem infoDig3:(Tryz.prog.info? 117).map (fun i=>(i.zero,i.size,i.bytes)) = some (some (.agg (cells8 (Sha.zeros 32))),32,32):=by kernel_rfl
theorem sliceD_lit (x0 x1 x2 x3 x4 x5 x6 x7 x8 x9 x10 x11 x12 x13 x14 x15 x16 x17 x18 x19 x20 x21 x22 x23 x24 x25 x26 x27 x28 x29 x30 x31:Value) (w:World):(Instr.buildSlice 121 1 #[(0,.agg #[x0,x1,x2,x3,x4,x5,x6,x7,x8,x9,x10,x11,x12,x13,x14,x15,x16,x17,x18,x19,x20,x21,x22,x23,x24,x25,x26,x27,x28,x29,x30,x31])]).run Tryz.prog w = .ok (.slice (some ⟨w.heap.size,0,none⟩) 1 1) (w.alloc (.cells #[x0,x1,x2,x3,x4,x5,x6,x7,x8,x9,x10,x11,x12,x13,x14,x15,x16,x17,x18,x19,x20,x21,x22,x23,x24,x25,x26,x27,x28,x29,x30,x31] 117)):=by kernel_rfl
theorem sliceD (ds:List Nat) (h:ds.length = 32) (w:World):(Instr.buildSlice 121 1 #[(0,.agg (cells8 ds))]).run Tryz.prog w = .ok (.slice (some ⟨w.heap.size,0,none⟩) 1 1) (w.alloc (.cells (cells8 ds) 117)):=by
 obtain ⟨x0,x1,x2,x3,x4,x5,x6,x7,x8,x9,x10,x11,x12,x13,x14,x15,x16,x17,x18,x19,x20,x21,x22,x23,x24,x25,x26,x27,x28,x29,x30,x31,rfl⟩:=list32 ds h
 exact sliceD_lit _ _ _ _ _ _ _ _ _ _ _ _ _ _ _ _ _ _ _ _ _ _ _ _ _ _ _ _ _ _ _ _ w
def DAI (w:World) (pre:List DV) (W:World):Prop:=∃ sv,W.heap[w.heap.size]? = some (.cells #[sv] 121 (0,0)) ∧ W.ownsRow w.heap.size 117 32 sv pre.length (pre.flatMap DV.enc) ∧ Below w.heap.size w W
theorem wpListIn_sliceD {F:Fence} {m:Nat} {ops:Array Oper} {rest:List Oper} {op:Oper} {a:Act} {w:World} {Q:Exit → Act → World → Prop} (hgd:op.guard = none) (x:Operand) (ho:op.op = .buildSlice 121 1 #[(0,x)])
  (ds:List Nat) (hl:ds.length = 32) (hx:a.eval x = .agg (cells8 ds))
  (h:wpListIn F m Tryz.prog ops Q rest (a.put op.dst (.slice (some ⟨w.heap.size,0,none⟩) 1 1)) (w.alloc (.cells (cells8 ds) 117))):wpListIn F m Tryz.prog ops Q (op :: rest) a w:=by
 refine wpListIn_plain hgd fun K hK'=>?_
 have hr:=sliceD ds hl w
 unfold Oper.wpIn
 refine ⟨?_,?_⟩
 ·simp [Oper.about,ho]
 ·rw [Oper.semAt_plain F _ _ (by rw [ho];intro c hc';cases hc')]
  unfold execOp
  simp only [ho,hx,List.map_toArray,List.map_cons,List.map_nil,Sem.run_bind,Sem.run_pure,hr,Result.andThen_ok]
  exact hK' _ _ h
theorem dai_own (w:World) (B:Nat) (hB:w.heap.size ≤ B):OwnFrom B (DAI w):=by
 rintro pre X Y row ⟨sv,h1,h2,h3⟩ hgr hr
 have key:∀ (k:Nat) (cur:Array Value) (T:TypeId),X.heap[k]? = some (.cells cur T (0,0)) → Y.heap[k]? = X.heap[k]?:=fun k cur T hc=>hgr.block k (lt_heap hc) (fun e=>by
  obtain ⟨o,x2,x3⟩:=(hr k e.symm).2
  rw [hc] at x2
  cases x2
  cases x3)
 refine ⟨sv,(key _ _ _ h1).trans h1,own_same h2 (fun k hk _=>?_),h3.grown hgr h3.size (fun k e=>by have:=(hr k e).1;omega)⟩
 obtain ⟨c,hc⟩:=own_obj h2 k hk
 exact key _ _ _ hc
def DAX (w:World) (g:Nat) (lb:Array Value) (x:DV) (a:Act) (W:World):Prop:=∃ vb,w.heap.size < vb ∧ a = { tmps:=#[.slice none 0 0,.func (.func g) #[] lb,.pointer (some ⟨w.heap.size,0,none⟩),undef,.slice none 0 0,.pointer (some ⟨vb,0,none⟩),.func (.func g) #[] lb,.agg (cells8 x.1),undef,undef,undef,undef,undef],defers:=[] } ∧ W.heap[vb]? = some (.cells (cells8 x.1) 117 (0,0))
theorem dax_own (w:World) (g:Nat) (lb:Array Value) (B:Nat) (x:DV) (a:Act):OwnFrom B (fun (_:Unit) W=>DAX w g lb x a W):=by
 rintro _ X Y row ⟨vb,h0,h1,h2⟩ hgr hr
 exact ⟨vb,h0,h1,(hgr.block vb (lt_heap h2) (fun e=>by
  obtain ⟨o,x2,x3⟩:=(hr vb e.symm).2
  rw [h2] at x2
  cases x2
  cases x3)).trans h2⟩
theorem dappendSeq_in (n:Nat) (hn:5 ≤ n) (g:Nat) (lb:Array Value) (eg:∀ args w,(callFunc g args).run Tryz.prog w = .ok (.enter g args) w) (S:List DV → Prop) (N:Nat) (hN:N ≤ 100000000) (w:World)
  (hseq:SeqStopsK Fence.wide (n - 1) Tryz.prog g lb (fun x:DV=>#[.agg (cells8 x.1)]) KeepsWalks S (fun _=>True) N w) :
  CallsIn Fence.wide n Tryz.prog 207 #[.slice none 0 0,.func (.func g) #[] lb] w fun e w'=>∃ v xs,e = .returned v ∧ S xs ∧ w'.ownsRow w.heap.size 117 32 v xs.length (xs.flatMap DV.enc) ∧ Below w.heap.size w w':=by
 have hz71:=(zero_of_info Tryz.info117).1
 obtain ⟨i0,hi,hz0,hz1,hz2⟩:=info_parts infoDig3
 refine callsIn_of_wp_marks Tryz.func207 rfl trivial ?_ rfl
 simp only [Tryz.ntmps207,List.size_toArray,List.length_cons,List.length_nil,Nat.reduceAdd,Nat.reduceSub,Array.replicate_succ,Array.replicate_zero,List.push_toArray,List.append_toArray,List.nil_append,List.cons_append]
 gi_wp2_with fail
 obtain ⟨w1,hw1⟩ : ∃ w1,w1 = w.alloc (.cells #[.slice none 0 0] 121):=⟨_,rfl⟩
 have hb1:Below w.heap.size w w1:=by rw [hw1];exact (Below.refl _ _).alloc (Nat.le_refl _) _
 have hx1:w1.heap[w.heap.size]? = some (.cells #[.slice none 0 0] 121 (0,0)):=by rw [hw1];exact heap_alloc_new _ _
 have hs1:w1.heap.size = w.heap.size + 1:=by rw [hw1,size_alloc]
 rw [← hw1]
 refine wpIn_rangeFunc_ownH (F:=Fence.wide) (n:=n) rfl (by omega) (gf:=g) (lb:=lb) rfl trivial eg hseq KeepsWalks.trans (walksK_b (w:=w1)) hb1 (fun _=>rfl)
  (DAI w) (fun _ _ _=>False) (dai_own w _ (by omega)) (fun _ _ _ _ _ h _ _=>h.elim)
  ⟨_,hx1,World.ownsRow_nil _ _ _ _,hb1⟩ (DAX w g lb) (dax_own w g lb _) ?assign ?body ?done ?stop
 case assign =>
  rintro l pre ⟨ds,hdk⟩ W K hI hK
  have hds:=hdk.1
  have hgr:=World.grownBy_alloc W (.cells (cells8 ds) 117) none
  have hIX:=dai_own w W.heap.size (by obtain ⟨sv,i1,i2,i3⟩:=hI;exact i3.size) pre W _ none hI hgr (fun r e=>by cases e)
  have hvb:w.heap.size < W.heap.size:=by
   obtain ⟨sv,i1,i2,i3⟩:=hI
   exact lt_heap i1
  have HK:=hide (hK _ (W.alloc (.cells (cells8 ds) 117)) ⟨by simp,fun k o _ hk _=>(Below.heap_alloc _ _ _ (lt_heap hk)).trans hk⟩ ⟨by simp,fun k o hk _=>(Below.heap_alloc _ _ _ (lt_heap hk)).trans hk⟩ hIX ⟨W.heap.size,hvb,rfl,heap_alloc_new _ _⟩)
  clear hI hIX hK hgr
  gi_wp2_with (first
   | (refine wpListIn_store_row rfl 117 _ _ rfl W.heap.size _ rfl rfl 117 _ (heap_alloc_new _ _) (size40 _ hds) (by rw [cells8_size,cells8_size,hds];rfl) (cells8_one _) ?_;rw [World.setRow_alloc_new])
   | gi_in)
  exact HK.out
 case body =>
  rintro l pre ⟨ds,hdk⟩ a' W hl ⟨r,hr⟩ ⟨sv,i1,i2,i3⟩ ⟨vb,hvb,rfl,hv⟩ hlen
  have hds:=hdk.1
  obtain ⟨so,sc,rfl⟩:=own_sl i2
  have ce:=cell_of_row _ _ 0 _ _ _ i1
  have HI2:=hide i2
  have HI1:=hide i1
  have HI3:=hide i3
  have HV:=hide hv
  have hwW:w.heap.size < W.heap.size:=lt_heap i1
  have HBOX:Hid (∀ w2:World,(W.alloc (.cells (cells8 ds) 117)).grownBy w2 (Value.slice so pre.length sc).ownBlock → w2.heap[w.heap.size]? = some (.cells #[.slice so pre.length sc] 121 (0,0))):=hide (fun w2 hg2=>by
   refine (hg2.block _ (by rw [size_alloc];omega) (fun e=>?_)).trans ((Below.heap_alloc _ _ _ hwW).trans i1)
   obtain ⟨c,hc⟩:=own_obj i2 _ e.symm
   rw [i1] at hc
   injection hc with hc
   injection hc with _ hc
   exact absurd hc (by decide))
  have HEC:=hide (new_cells W (cells8 ds) 117)
  clear i1 i2 i3 hv
  dsimp only
  gi_wp2_with (first
   | (refine wpListIn_load_row rfl 117 _ rfl vb rfl 117 _ _ _ HV.out Tryz.underlying117 rfl (size40 _ hds) ?_)
   | (refine wpListIn_sliceD rfl _ rfl ds hds rfl ?_)
   | (refine wpListIn_append_own _ rfl _ _ 121 rfl w.heap.size 117 i0 _ 32 32 Tryz.underlying121 hi hz0 hz1 hz2 (show (cells8 (Sha.zeros 32)).size = 32 by rw [cells8_size];rfl) (by decide) _ pre.length _ rfl (ownsRow_later HI2.out ((Below.refl _ _).alloc (Nat.le_refl _) _)) _ 1 1 (cells8 ds).toList rfl (by rw [Array.length_toList,cells8_size,hds]) HEC.out (fun v hv=>Array.all_eq_true_iff_forall_mem.1 (cells8_one ds) v (by simpa using hv)) (by unfold maxLen;omega) (by omega) (by simp;omega) ?_;rintro v2 w2 hv2 hg2 -;obtain ⟨so2,sc2,rfl⟩:=own_sl hv2;have hbx:=HBOX.out w2 hg2;have cb:=cell_of_row _ _ 0 _ _ _ hbx;have fb:=frozen_of_row _ _ 0 _ _ hbx;have HV2:=hide hv2;have HG2:=hide hg2;have HBX:=hide hbx;clear hv2 hg2 hbx)
   | gi_in)
  have hoth:∀ (k:Nat) (o:Obj),W.heap[k]? = some o → o.isCells = false → (w2.setCell ⟨w.heap.size,0,none⟩ (.slice so2 (pre.length + 1) sc2)).heap[k]? = some o:=by
   intro k o hk ho
   rw [heap_setCell_other _ _ _ _ (fun e=>?_)]
   ·refine (HG2.out.block k (by rw [size_alloc];have:=lt_heap hk;omega) (fun e=>?_)).trans ((Below.heap_alloc _ _ _ (lt_heap hk)).trans hk)
    obtain ⟨c,hc⟩:=own_obj HI2.out _ e.symm
    rw [hc] at hk
    cases hk
    cases ho
   ·have e:k = w.heap.size:=e
    subst e
    rw [HI1.out] at hk
    cases hk
    cases ho
  have hsz:W.heap.size ≤ (w2.setCell ⟨w.heap.size,0,none⟩ (.slice so2 (pre.length + 1) sc2)).heap.size:=by
   have:=HG2.out.size
   simp only [size_alloc] at this
   simp
   omega
  refine ⟨⟨hsz,fun k o _ hk ho=>hoth k o hk ho⟩,⟨hsz,fun k o hk ho=>hoth k o hk (Obj.not_cells_of_walk ho)⟩,.slice so2 (pre.length + 1) sc2,?_,?_,?_⟩
  ·rw [heap_setCell_same _ w.heap.size 0 _ _ _ HBX.out]
   rfl
  ·have hrow:=own_same (w':=w2.setCell ⟨w.heap.size,0,none⟩ (.slice so2 (pre.length + 1) sc2)) HV2.out (fun k hk _=>heap_setCell_other _ _ _ _ (fun e=>by
    have e:k = w.heap.size:=e
    subst e
    obtain ⟨c,hc⟩:=own_obj HV2.out _ hk
    rw [HBX.out] at hc
    injection hc with hc
    injection hc with _ hc
    exact absurd hc (by decide)))
   rw [List.flatMap_append,List.length_append]
   simp only [List.flatMap_cons,List.flatMap_nil,List.append_nil]
   exact hrow
  ·have h1:Below w.heap.size w w2:=(HI3.out.alloc HI3.out.size _).grown HG2.out (by rw [size_alloc];omega) (fun k e=>own_ge HI2.out k e)
   exact ⟨h1.os,h1.tape,h1.output,by simpa using h1.size,fun k hk=>(heap_setCell_other _ _ _ _ (fun e=>by have e:k = w.heap.size:=e;omega)).trans (h1.block k hk)⟩
 case done =>
  rintro D xs W hD hS ⟨sv,i1,i2,i3⟩ hK
  obtain ⟨so,sc,rfl⟩:=own_sl i2
  have ce:=cell_of_row _ _ 0 _ _ _ i1
  have HI2:=hide i2
  have HI3:=hide i3
  have HI1:=hide i1
  clear i1 i2 i3
  gi_wp2
  refine ⟨by simp,.inl ⟨_,_,rfl,run_takeDeferred hK,?_⟩⟩
  refine ⟨_,results_tmp rfl _ _ _,_,xs,rfl,hS,own_same HI2.out (fun k hk _=>World.putObj_heap_other (fun e=>?_)),HI3.out.grown (grown_put _ _ _) HI3.out.size (fun k e=>by injection e with e;omega)⟩
  subst e
  obtain ⟨c,hc⟩:=own_obj HI2.out k hk
  rw [hc] at hK
  cases hK
 case stop =>
  rintro D c pre W hD _ h
  exact h.elim
theorem dcollect_in (n:Nat) (hn:6 ≤ n) (g:Nat) (lb:Array Value) (eg:∀ args w,(callFunc g args).run Tryz.prog w = .ok (.enter g args) w) (S:List DV → Prop) (N:Nat) (hN:N ≤ 100000000) (w:World)
  (hseq:SeqStopsK Fence.wide (n - 1 - 1) Tryz.prog g lb (fun x:DV=>#[.agg (cells8 x.1)]) KeepsWalks S (fun _=>True) N w) :
  CallsIn Fence.wide n Tryz.prog 159 #[.func (.func g) #[] lb] w fun e w'=>∃ v xs,e = .returned v ∧ S xs ∧ w'.ownsRow w.heap.size 117 32 v xs.length (xs.flatMap DV.enc) ∧ Below w.heap.size w w':=by
 have f1:Fence.wide.fn 207:=trivial
 have HA:=hide (dappendSeq_in (n - 1) (by omega) g lb eg S N hN w hseq)
 refine callsIn_of_wp Tryz.func159 rfl trivial ?_ rfl
 simp only [Tryz.ntmps159,List.size_toArray,List.length_cons,List.length_nil,Nat.reduceAdd,Nat.reduceSub,Array.replicate_succ,Array.replicate_zero,List.push_toArray,List.append_toArray,List.nil_append,List.cons_append]
 gi_wp2_with fail
 refine ⟨fun _=>by omega,?_⟩
 refine (HA.out).mono ?_
 rintro _ w1 ⟨v,xs,rfl,h1,h2,h3⟩
 dsimp only
 have H2:=hide h2
 clear h2
 gi_wp2_with fail
 go_ret
 exact ⟨_,xs,rfl,h1,H2.out,h3⟩
end Go.Proofs.YtncigfibncmioaaGreatDoor
