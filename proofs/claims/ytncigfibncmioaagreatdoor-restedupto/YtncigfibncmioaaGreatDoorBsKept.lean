/-
  PROVED HERE: what Publish of a store does where there was neither the content nor a tag.
-/
import Derived.Test.YtncigfibncmioaaGreatDoorStKeep
import Derived.Test.YtncigfibncmioaaGreatDoorEntries
import Derived.Test.YtncigfibncmioaaGreatDoorBuilt
namespace Go.Proofs.YtncigfibncmioaaGreatDoor
open Go.RowKit
theorem StW.far {W W':World} {sb:Nat} {s:PSt} {cb tb nc nt r:Nat} {Dc Dt:DataW Value} {cur:Array Value} (h:StW W sb s cb tb nc nt Dc Dt) (hsz:W.heap.size≤W'.heap.size) (hr:W.heap[r]? = some (.cells cur 117 (0,0))) (hG:¬ isG r) (hs:∀ k,k≠r→W'.heap[k]? = W.heap[k]?):StW W' sb s cb tb nc nt Dc Dt:=by
 have hne:∀ {x n:Nat} {k:TypeId} {D:DataW Value},W.ownsMap Tryz.prog k heldR x n D→x≠r:=by
  rintro x n k D ⟨es,clock,h1,_⟩ rfl
  rw [hr] at h1
  cases h1
 refine ⟨h.inn.same (fun k hk=>hs k (fun e=>?_)),h.gl.same hsz (fun k hk=>hs k (fun e=>hG (e ▸ hk))),h.low,(hs sb (type_ne h.blk hr (by decide))).trans h.blk,owns_same h.cm (hs _ (hne h.cm)),owns_same h.tm (hs _ (hne h.tm)),h.ncb,h.ntb,h.gcb,h.gtb,h.gsb,h.ne⟩
 subst e
 rcases h.inn.typed hk hr with h3 | h3 | h3 | h3 <;> exact absurd h3 (by decide)
theorem ErrV.far {W W':World} {ev:Value} {k:Int} {r:Nat} {cur:Array Value} (h:ErrV W ev k) (hr:W.heap[r]? = some (.cells cur 117 (0,0))) (hs:∀ k,k≠r→W'.heap[k]? = W.heap[k]?):ErrV W' ev k:=by
 rcases h with h | ⟨h0,sv,nm,h1,h2⟩
 ·exact .inl h
 ·exact .inr ⟨h0,sv,nm,h1,(hs _ (type_ne h2 hr (by decide))).trans h2⟩
theorem con_t {w:World} {r:Nat} {zs:List Nat} (hr:w.heap[r]? = some (.cells (cells8 zs) 117 (0,0))) (hz:zs.length=32) (ds:List Nat) (hds:ds.length=32):w.there r 0 (cells8 ds).toList.length:=by
 intro j hj
 rw [Array.length_toList,cells8_size,hds] at hj
 refine ⟨?_,frozen_of_row w r _ _ _ hr⟩
 rw [cell_of_row w r (0+j) _ _ _ hr,Array.getElem?_eq_getElem (by rw [cells8_size,hz];omega)]
 rfl
theorem dig_set {w:World} {r:Nat} {zs:List Nat} (hr:w.heap[r]? = some (.cells (cells8 zs) 117 (0,0))) (hz:zs.length=32) (ds:List Nat) (hds:ds.length=32):(w.setCells r 0 (cells8 ds).toList).heap[r]? = some (.cells (cells8 ds) 117 (0,0)):=by
 have hl:(cells8 ds).toList.length=32:=by rw [Array.length_toList,cells8_size,hds]
 have hs:(cells8 zs).size=32:=by rw [cells8_size,hz]
 obtain ⟨cur',h1,h2,h3,h4,h5⟩:=setCells_rowF r 117 (cells8 ds).toList 0 w _ hr (by omega)
 rw [h1]
 have hc:cur'=cells8 ds:=by
  apply Array.ext_getElem?
  intro j
  rcases Nat.lt_or_ge j 32 with hj | hj
  ·have:=h4 j (by omega)
   rw [Nat.zero_add] at this
   rw [this]
   simp
  ·rw [h5 j (by omega),Array.getElem?_eq_none (by omega),Array.getElem?_eq_none (by rw [cells8_size,hds];omega)]
 rw [hc]
def dOfB (b:ByteArray):List Nat:=Sha.digest (Sha.state b.data.toList)
theorem dOfB_len (b:ByteArray):(dOfB b).length=32:=Sha.dBytes_len _ _
theorem dOfB_lt (b:ByteArray):∀ i,(dOfB b).getD i 0<256:=fun i=>Sha.dBytes_lt _ _ i
end Go.Proofs.YtncigfibncmioaaGreatDoor

/-
  PROVED HERE: what Has, HasTag and MayTag of a store answer.
-/
namespace Go.Proofs.YtncigfibncmioaaGreatDoor
set_option maxHeartbeats 1000000
set_option maxRecDepth 100000
open Go.RowKit
theorem Tryz.zero59 (w:World):(zeroValue 100).run Tryz.prog w = .ok (.agg #[]) w:=by kernel_rfl
def UnitC (D:DataW Value):Prop:=∀ kl v,D.atKey kl (.held (.agg #[])) = .held v→v = .agg #[]
theorem has_any (sb:Nat) (s:PSt) (cb tb nc nt:Nat) (Dc Dt:DataW Value) (ds:List Nat) (w:World) (h:StW w sb s cb tb nc nt Dc Dt) (hu:UnitC Dc) (hds:ds.length=32) (hlt:∀ i,ds.getD i 0<256) :
  Calls Tryz.prog 110 #[.pointer (some ⟨sb,0,none⟩),.agg (cells8 ds)] w fun e w'=>e = .returned (.bool (Maps.has Dc (dKey ds)))∧Below w.heap.size w w':=by
 have hbo:Below w.heap.size w (w.alloc (.cells (cells8 ds) 117)):=(Below.refl _ _).alloc (Nat.le_refl _) _
 have hrow:(w.alloc (.cells (cells8 ds) 117)).heap[w.heap.size]? = some (.cells (cells8 ds) 117 (0,0)):=heap_alloc_new _ _
 obtain ⟨W,hW⟩ : ∃ W,W=w.alloc (.cells (cells8 ds) 117):=⟨_,rfl⟩
 rw [← hW] at hbo hrow
 have hst:=h.later hbo
 have HROW:=hide hrow
 have HW:=hide hW
 have HBO:=hide hbo
 have HST:=hide hst
 clear h hst hW hbo hrow
 go_enter Tryz.func110,Tryz.ntmps110
 go_upto_region 1 with fail
 rw [← HW.out]
 have hdr:Below W.heap.size W W.drew:=(Below.refl _ _).drew
 have h6:=HST.out.later hdr
 have hS0:W.drew.cell? ⟨sb,1,none⟩=some (.map (some cb))∧W.drew.rangeAt w.heap.size 0 (cells8 ds).toList:=⟨cell_of_row _ _ 1 _ _ _ h6.blk,con_r ((hdr.block _ (lt_heap HROW.out)).trans HROW.out)⟩
 obtain ⟨v,ps,hrun,hv⟩:=World.ownsMap.look_ok h6.cm dig_keyed Tryz.underlying156 (Tryz.zero59 _) (show heldR (.agg #[])=some (.held (.agg #[]),[]) from rfl) (key_dig ds hds hlt)
 have hv2:v = .agg #[]:=hu (dKey ds) v (by
  unfold heldR at hv
  injection hv with hv
  injection hv with hv
  exact hv.symm)
 subst hv2
 have u72:=Tryz.underlying117
 have i72:=size72 ds hds
 have hdr1:Below W.heap.size W (W.alloc (.cells #[] 100)).drew:=((Below.refl _ _).alloc (Nat.le_refl _) _).drew
 have h7:=HST.out.later hdr1
 have hS1:(W.alloc (.cells #[] 100)).drew.cell? ⟨sb,1,none⟩=some (.map (some cb))∧(W.alloc (.cells #[] 100)).drew.rangeAt w.heap.size 0 (cells8 ds).toList:=⟨cell_of_row _ _ 1 _ _ _ h7.blk,con_r ((hdr1.block _ (lt_heap HROW.out)).trans HROW.out)⟩
 obtain ⟨v,ps,hrun1,hv1⟩:=World.ownsMap.look_ok h7.cm dig_keyed Tryz.underlying156 (Tryz.zero59 _) (show heldR (.agg #[])=some (.held (.agg #[]),[]) from rfl) (key_dig ds hds hlt)
 have hv2:v = .agg #[]:=hu (dKey ds) v (by
  unfold heldR at hv1
  injection hv1 with hv1
  injection hv1 with hv1
  exact hv1.symm)
 subst hv2
 clear h6 h7 hv hv1
 go_region_held3 (fun w'=>w'.cell? ⟨sb,1,none⟩=some (.map (some cb))∧w'.rangeAt w.heap.size 0 (cells8 ds).toList) (first | exact hS0 | exact hS1 | go_keep) (fail)
 all_goals
  go_wp2_with fail
  go_ret
  exact ⟨rfl,HBO.out.trans (hdr1.mono HBO.out.size)⟩
end Go.Proofs.YtncigfibncmioaaGreatDoor

/-
  PROVED HERE: what kept and find of package blobs answer.
-/
namespace Go.Proofs.YtncigfibncmioaaGreatDoor
set_option maxHeartbeats 1000000
set_option maxRecDepth 100000
open Go.RowKit
theorem ErrV.later {w w':World} {ev:Value} {k:Int} (h:ErrV w ev k) (hb:Below w.heap.size w w'):ErrV w' ev k:=by
 rcases h with h | ⟨h0,sv,nm,h1,h2⟩
 ·exact .inl h
 ·exact .inr ⟨h0,sv,nm,h1,(hb.block _ (lt_heap h2)).trans h2⟩
theorem kept_any (ds:List Nat) (ev:Value) (k:Int) (w:World) (hev:ErrV w ev k) (hg:Gl w) (hds:ds.length=32) (hlt:∀ i,ds.getD i 0<256) :
  Calls Tryz.prog 61 #[.agg (cells8 ds),ev] w fun e w'=>e = .returned (.tuple #[.string (if k=0 then dtx ds else ⟨#[]⟩),.int .i64 k])∧Below w.heap.size w w':=by
 have hbo:Below w.heap.size w (w.alloc (.cells (cells8 ds) 117)):=(Below.refl _ _).alloc (Nat.le_refl _) _
 have hrow:(w.alloc (.cells (cells8 ds) 117)).heap[w.heap.size]? = some (.cells (cells8 ds) 117 (0,0)):=heap_alloc_new _ _
 obtain ⟨W,hW⟩ : ∃ W,W=w.alloc (.cells (cells8 ds) 117):=⟨_,rfl⟩
 rw [← hW] at hbo hrow
 have HER:=hide (errno_ev (hev.later hbo) (hg.later hbo).err)
 have HTX:=hide (text_any ds W hds hlt)
 have HROW:=hide hrow
 have HW:=hide hW
 have HBO:=hide hbo
 clear hg hW hbo hrow
 rcases hev with ⟨rfl,rfl⟩ | ⟨hk0,sv,nm,rfl,hsv⟩
 ·go_enter Tryz.func61,Tryz.ntmps61
  go_upto_region 1 with fail
  rw [← HW.out]
  go_wp2_with (refine wpList_load_row rfl 117 _ rfl w.heap.size rfl 117 _ _ _ HROW.out Tryz.underlying117 rfl (size40 _ hds) ?_)
  refine (HTX.out).mono ?_
  rintro _ w1 ⟨rfl,hb1⟩
  dsimp only
  have HB1:=hide hb1
  clear hb1 HTX HER
  go_wp2_with fail
  refine bodyPost_ret (results_tmp2 rfl _ _ _) rfl ?_
  exact ⟨rfl,HBO.out.trans (HB1.out.mono HBO.out.size)⟩
 ·have HSV:=hide hsv
  clear hsv
  go_enter Tryz.func61,Tryz.ntmps61
  go_upto_region 1 with fail
  rw [← HW.out]
  go_wp2_with fail
  refine (HER.out).mono ?_
  rintro _ w1 ⟨rfl,hb1⟩
  dsimp only
  have HB1:=hide hb1
  clear hb1 HTX HER
  go_wp2_with fail
  refine bodyPost_ret (results_tmp2 rfl _ _ _) rfl ?_
  exact ⟨rfl,HBO.out.trans (HB1.out.mono HBO.out.size)⟩
end Go.Proofs.YtncigfibncmioaaGreatDoor
