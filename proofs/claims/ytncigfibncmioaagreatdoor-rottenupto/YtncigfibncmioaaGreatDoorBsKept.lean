/-
  PROVED HERE: what Publish of a store does where there was neither the content nor a tag.
-/
import Derived.Test.YtncigfibncmioaaGreatDoorStKeep
import Derived.Test.YtncigfibncmioaaGreatDoorEntryC
import Derived.Test.YtncigfibncmioaaGreatDoorRoKeys
import Derived.Test.YtncigfibncmioaaGreatDoorPrintLib
namespace Go.Proofs.YtncigfibncmioaaGreatDoor
open Go.RowKit
theorem StW.far {W W':World} {sb:Nat} {s:PSt} {cb tb nc nt r:Nat} {Dc Dt:DataW Value} {cur:Array Value} (h:StW W sb s cb tb nc nt Dc Dt) (hsz:W.heap.size ≤ W'.heap.size) (hr:W.heap[r]? = some (.cells cur 117 (0,0))) (hG:¬ isG r) (hs:∀ k,k ≠ r → W'.heap[k]? = W.heap[k]?):StW W' sb s cb tb nc nt Dc Dt:=by
 have hne:∀ {x n:Nat} {k:TypeId} {D:DataW Value},W.ownsMap Tryz.prog k heldR x n D → x ≠ r:=by
  rintro x n k D ⟨es,clock,h1,_⟩ rfl
  rw [hr] at h1
  cases h1
 refine ⟨h.inn.same (fun k hk=>hs k (fun e=>?_)),h.gl.same hsz (fun k hk=>hs k (fun e=>hG (e ▸ hk))),h.low,(hs sb (type_ne h.blk hr (by decide))).trans h.blk,owns_same h.cm (hs _ (hne h.cm)),owns_same h.tm (hs _ (hne h.tm)),h.ncb,h.ntb,h.gcb,h.gtb,h.gsb,h.ne⟩
 subst e
 rcases h.inn.typed hk hr with h3 | h3 | h3 | h3 <;> exact absurd h3 (by decide)
theorem ErrV.far {W W':World} {ev:Value} {k:Int} {r:Nat} {cur:Array Value} (h:ErrV W ev k) (hr:W.heap[r]? = some (.cells cur 117 (0,0))) (hs:∀ k,k ≠ r → W'.heap[k]? = W.heap[k]?):ErrV W' ev k:=by
 rcases h with h | ⟨h0,sv,nm,h1,h2⟩
 ·exact .inl h
 ·exact .inr ⟨h0,sv,nm,h1,(hs _ (type_ne h2 hr (by decide))).trans h2⟩
theorem con_t {w:World} {r:Nat} {zs:List Nat} (hr:w.heap[r]? = some (.cells (cells8 zs) 117 (0,0))) (hz:zs.length = 32) (ds:List Nat) (hds:ds.length = 32):w.there r 0 (cells8 ds).toList.length:=by
 intro j hj
 rw [Array.length_toList,cells8_size,hds] at hj
 refine ⟨?_,frozen_of_row w r _ _ _ hr⟩
 rw [cell_of_row w r (0 + j) _ _ _ hr,Array.getElem?_eq_getElem (by rw [cells8_size,hz];omega)]
 rfl
theorem dig_set {w:World} {r:Nat} {zs:List Nat} (hr:w.heap[r]? = some (.cells (cells8 zs) 117 (0,0))) (hz:zs.length = 32) (ds:List Nat) (hds:ds.length = 32):(w.setCells r 0 (cells8 ds).toList).heap[r]? = some (.cells (cells8 ds) 117 (0,0)):=by
 have hl:(cells8 ds).toList.length = 32:=by rw [Array.length_toList,cells8_size,hds]
 have hs:(cells8 zs).size = 32:=by rw [cells8_size,hz]
 obtain ⟨cur',h1,h2,h3,h4,h5⟩:=setCells_rowF r 117 (cells8 ds).toList 0 w _ hr (by omega)
 rw [h1]
 have hc:cur' = cells8 ds:=by
  apply Array.ext_getElem?
  intro j
  rcases Nat.lt_or_ge j 32 with hj | hj
  ·have:=h4 j (by omega)
   rw [Nat.zero_add] at this
   rw [this]
   simp
  ·rw [h5 j (by omega),Array.getElem?_eq_none (by omega),Array.getElem?_eq_none (by rw [cells8_size,hds];omega)]
 rw [hc]
def dOfB (b:ByteArray):List Nat:=Sha.digest (Sha.state b.data.toList)
theorem dOfB_len (b:ByteArray):(dOfB b).length = 32:=Sha.dBytes_len _ _
theorem dOfB_lt (b:ByteArray):∀ i,(dOfB b).getD i 0 < 256:=fun i=>Sha.dBytes_lt _ _ i
end Go.Proofs.YtncigfibncmioaaGreatDoor
namespace Go.Proofs.YtncigfibncmioaaGreatDoor
set_option maxHeartbeats 1000000
set_option maxRecDepth 100000
open Go.RowKit
theorem Tryz.zero59 (w:World):(zeroValue 100).run Tryz.prog w = .ok (.agg #[]) w:=by kernel_rfl
def UnitC (D:DataW Value):Prop:=∀ kl v,D.atKey kl (.held (.agg #[])) = .held v → v = .agg #[]
theorem has_any (sb:Nat) (s:PSt) (cb tb nc nt:Nat) (Dc Dt:DataW Value) (ds:List Nat) (w:World) (h:StW w sb s cb tb nc nt Dc Dt) (hu:UnitC Dc) (hds:ds.length = 32) (hlt:∀ i,ds.getD i 0 < 256) :
  Calls Tryz.prog 110 #[.pointer (some ⟨sb,0,none⟩),.agg (cells8 ds)] w fun e w'=>e = .returned (.bool (Maps.has Dc (dKey ds))) ∧ Below w.heap.size w w':=by
 have hbo:Below w.heap.size w (w.alloc (.cells (cells8 ds) 117)):=(Below.refl _ _).alloc (Nat.le_refl _) _
 have hrow:(w.alloc (.cells (cells8 ds) 117)).heap[w.heap.size]? = some (.cells (cells8 ds) 117 (0,0)):=heap_alloc_new _ _
 obtain ⟨W,hW⟩ : ∃ W,W = w.alloc (.cells (cells8 ds) 117):=⟨_,rfl⟩
 rw [← hW] at hbo hrow
 have hst:=h.later hbo
 have HROW:=hide hrow
 have HW:=hide hW
 have HBO:=hide hbo
 have HST:=hide hst
 clear h hst hW hbo hrow
 go_enter Tryz.func110,Tryz.ntmps110
 go_upto_region 1 with fail
 rw [← HW.out]
 have hdr:Below W.heap.size W W.drew:=(Below.refl _ _).drew
 have h6:=HST.out.later hdr
 have hS0:W.drew.cell? ⟨sb,1,none⟩ = some (.map (some cb)) ∧ W.drew.rangeAt w.heap.size 0 (cells8 ds).toList:=⟨cell_of_row _ _ 1 _ _ _ h6.blk,con_r ((hdr.block _ (lt_heap HROW.out)).trans HROW.out)⟩
 obtain ⟨v,ps,hrun,hv⟩:=World.ownsMap.look_ok h6.cm dig_keyed Tryz.underlying156 (Tryz.zero59 _) (show heldR (.agg #[]) = some (.held (.agg #[]),[]) from rfl) (key_dig ds hds hlt)
 have hv2:v = .agg #[]:=hu (dKey ds) v (by
  unfold heldR at hv
  injection hv with hv
  injection hv with hv
  exact hv.symm)
 subst hv2
 have u72:=Tryz.underlying117
 have i72:=size72 ds hds
 have hdr1:Below W.heap.size W (W.alloc (.cells #[] 100)).drew:=((Below.refl _ _).alloc (Nat.le_refl _) _).drew
 have h7:=HST.out.later hdr1
 have hS1:(W.alloc (.cells #[] 100)).drew.cell? ⟨sb,1,none⟩ = some (.map (some cb)) ∧ (W.alloc (.cells #[] 100)).drew.rangeAt w.heap.size 0 (cells8 ds).toList:=⟨cell_of_row _ _ 1 _ _ _ h7.blk,con_r ((hdr1.block _ (lt_heap HROW.out)).trans HROW.out)⟩
 obtain ⟨v,ps,hrun1,hv1⟩:=World.ownsMap.look_ok h7.cm dig_keyed Tryz.underlying156 (Tryz.zero59 _) (show heldR (.agg #[]) = some (.held (.agg #[]),[]) from rfl) (key_dig ds hds hlt)
 have hv2:v = .agg #[]:=hu (dKey ds) v (by
  unfold heldR at hv1
  injection hv1 with hv1
  injection hv1 with hv1
  exact hv1.symm)
 subst hv2
 clear h6 h7 hv hv1
 go_region_held3 (fun w'=>w'.cell? ⟨sb,1,none⟩ = some (.map (some cb)) ∧ w'.rangeAt w.heap.size 0 (cells8 ds).toList) (first | exact hS0 | exact hS1 | go_keep) (fail)
 all_goals
  go_wp2_with fail
  go_ret
  exact ⟨rfl,HBO.out.trans (hdr1.mono HBO.out.size)⟩
set_option maxRecDepth 100000
open Go.RowKit
theorem nmLL_eq (r:Nat):(nameOf r).data.toList = nmLL r:=by
 by_cases h:r < 12
 ·revert r
  decide +kernel
 ·unfold nameOf nmLL
  rw [List.getD_eq_getElem?_getD,List.getD_eq_getElem?_getD,List.getElem?_eq_none (by show 12 ≤ r;omega),List.getElem?_eq_none (by show 12 ≤ r;omega)]
  rfl
theorem app_list (a b:ByteArray):(a ++ b).data.toList = a.data.toList ++ b.data.toList:=by
 rw [ByteArray.data_append,Array.toList_append]
theorem size_list (a:ByteArray):a.size = a.data.toList.length:=by
 rw [Array.length_toList]
 rfl
def sigN (v:Int):List Nat:=(List.range (pickN v 9)).map fun i:Nat=>pickN (v.tdiv 9 + (i:Int)) 12
def sigV (v:Int):Nat × List Nat:=(if pickN v 7 = 0 then pickN v 12 + 1 else 0,sigN v)
theorem ctS_list (v:Int):∀ k,(ctS v k).data.toList = ctL ((List.range k).map fun i:Nat=>pickN (v.tdiv 9 + (i:Int)) 12)
 | 0=>rfl
 | k + 1=>by
  rw [ctS,app_list,ctS_list v k,List.range_succ,List.map_append]
  unfold ctL
  rw [List.flatMap_append]
  congr 1
  show (nameOf (pickN (v.tdiv 9 + (k:Int)) 12)).data.toList = _
  rw [nmLL_eq]
  simp
theorem cnt_zero (s q:Nat) (hq:1 ≤ q) (h:200 ≤ s):cntL s q = 0:=by
 unfold cntL
 exact Nat.div_eq_of_lt (by omega)
theorem cnt_succ (s q:Nat) (hq:1 ≤ q) (h:s < 200):cntL s q = cntL (s + q) q + 1:=by
 unfold cntL
 have e:200 - s + (q - 1) = 199 - s + q:=by omega
 rw [e,Nat.add_div_right _ (by omega)]
 congr 1
 by_cases h2:s + q ≤ 200
 ·congr 1
  omega
 ·rw [Nat.div_eq_of_lt (by omega),Nat.div_eq_of_lt (by omega)]
theorem padS_list (p:ByteArray):∀ k (s:ByteArray),200 ≤ s.size + 11 * k → 1 ≤ p.size → (padS p k s).data.toList = s.data.toList ++ repL p.data.toList (cntL s.size (10 + p.size))
 | 0,s,h,_=>by
  rw [cnt_zero _ _ (by omega) (by omega)]
  show _ = _ ++ []
  rw [List.append_nil]
  rfl
 | k + 1,s,h,hp=>by
  unfold padS
  by_cases h2:s.size < 200
  ·have hz:(s ++ digitsT ++ p).size = s.size + (10 + p.size):=by
    rw [ByteArray.size_append,ByteArray.size_append,digits_size]
    omega
   rw [if_pos h2,padS_list p k _ (by omega) hp,hz,cnt_succ _ _ (by omega) h2,app_list,app_list,List.append_assoc,List.append_assoc]
   rfl
  ·rw [if_neg h2,cnt_zero _ _ (by omega) (by omega)]
   show _ = _ ++ []
   rw [List.append_nil]
theorem conT_list (v:Int):(conT v).data.toList = conG (sigV v):=by
 unfold conT sigV conG
 by_cases h:pickN v 7 = 0
 ·rw [if_pos h,if_pos h,padS_list _ _ _ (by omega) (nmT_pos v),ctS_list]
  dsimp only
  have h1:(nmT v).data.toList = nmLL (pickN v 12):=nmLL_eq _
  have h2:(ctS v (pickN v 9)).size = (ctL (sigN v)).length:=by rw [size_list,ctS_list];rfl
  rw [h2,size_list (nmT v),h1]
  rfl
 ·rw [if_neg h,if_neg h,ctS_list]
  rfl
theorem sig_up (v:Int) (h:0 ≤ v):sigV v = sigV (v % 756):=by
 have hp:∀ n:Nat,n = 7 ∨ n = 9 ∨ n = 12 → pickN v n = pickN (v % 756) n:=fun n hn=>by
  unfold pickN
  rw [if_neg (by omega),if_neg (by omega)]
  rcases hn with rfl | rfl | rfl
  ·congr 1;omega
  ·congr 1;omega
  ·congr 1;omega
 unfold sigV sigN
 rw [hp 7 (by omega),hp 12 (by omega),hp 9 (by omega)]
 congr 1
 refine List.map_congr_left fun i _=>?_
 rw [Int.tdiv_eq_ediv_of_nonneg h,Int.tdiv_eq_ediv_of_nonneg (by omega)]
 unfold pickN
 rw [if_neg (by omega),if_neg (by omega)]
 congr 1
 omega
theorem tdiv_neg9 (v:Int) (h:v < 0):v.tdiv 9 = -((-v) / 9):=by
 have h1:(-v).tdiv 9 = -(v.tdiv 9):=Int.neg_tdiv v 9
 rw [← Int.tdiv_eq_ediv_of_nonneg (by omega),h1]
 omega
theorem sig_down (v:Int) (h:v ≤ -1513):sigV v = sigV (-757 - (-(v + 1)) % 756):=by
 have hp:∀ n:Nat,n = 7 ∨ n = 9 ∨ n = 12 → pickN v n = pickN (-757 - (-(v + 1)) % 756) n:=fun n hn=>by
  unfold pickN
  rw [if_pos (by omega),if_pos (by omega)]
  rcases hn with rfl | rfl | rfl
  ·congr 1;omega
  ·congr 1;omega
  ·congr 1;omega
 have h9:=pickN_lt (-757 - (-(v + 1)) % 756) 9 (by decide)
 unfold sigV sigN
 rw [hp 7 (by omega),hp 12 (by omega),hp 9 (by omega)]
 congr 1
 refine List.map_congr_left fun i hi=>?_
 have hi2:=List.mem_range.1 hi
 rw [tdiv_neg9 v (by omega),tdiv_neg9 _ (by omega)]
 unfold pickN
 rw [if_pos (by omega),if_pos (by omega)]
 congr 1
 omega
def eqS:List Nat → List Nat → Bool
 | [],[]=>true
 | a :: l,b :: m=>Nat.beq a b && eqS l m
 | _,_=>false
def inS (s:Nat × List Nat):List (Nat × List Nat) → Bool
 | []=>false
 | t :: l=>(Nat.beq s.1 t.1 && eqS s.2 t.2) || inS s l
theorem eqS_eq:∀ l m,eqS l m = true → l = m
 | [],[],_=>rfl
 | [],_ :: _,h=>by cases h
 | _ :: _,[],h=>by cases h
 | a :: l,b :: m,h=>by
  unfold eqS at h
  rw [Bool.and_eq_true] at h
  rw [Nat.eq_of_beq_eq_true h.1,eqS_eq l m h.2]
theorem inS_in (s:Nat × List Nat):∀ l,inS s l = true → s ∈ l
 | [],h=>by cases h
 | t :: l,h=>by
  unfold inS at h
  rw [Bool.or_eq_true,Bool.and_eq_true] at h
  rcases h with h | h
  ·have:s = t:=Prod.ext (Nat.eq_of_beq_eq_true h.1) (eqS_eq _ _ h.2)
   rw [this]
   exact List.mem_cons_self
  ·exact List.mem_cons_of_mem _ (inS_in s l h)
def outS (x:Nat):List Nat → Bool
 | []=>true
 | y :: l=>!(Nat.beq x y) && outS x l
def outA:List Nat → List Nat → Bool
 | [],_=>true
 | x :: l,m=>outS x m && outA l m
theorem outS_out {x:Nat}:∀ {l:List Nat},outS x l = true → x ∉ l
 | [],_=>by simp
 | y :: l,h=>by
  unfold outS at h
  rw [Bool.and_eq_true] at h
  intro hx
  rcases List.mem_cons.1 hx with rfl | hx
  ·have:=h.1
   rw [Nat.beq_refl] at this
   cases this
  ·exact outS_out h.2 hx
theorem outA_out:∀ {l m:List Nat},outA l m = true → ∀ x ∈ l,x ∉ m
 | [],_,_,x,hx=>by cases hx
 | y :: l,m,h,x,hx=>by
  unfold outA at h
  rw [Bool.and_eq_true] at h
  rcases List.mem_cons.1 hx with rfl | hx
  ·exact outS_out h.1
  ·exact outA_out h.2 x hx
theorem apart_k:outA (3128432319 :: kxA) kcA = true:=by decide +kernel
def allS (l:List (Nat × List Nat)):Nat → Bool
 | 0=>true
 | n + 1=>inS (sigV ((n:Int) - 1512)) l && allS l n
theorem allS_at {l:List (Nat × List Nat)}:∀ {n:Nat},allS l n = true → ∀ m < n,sigV ((m:Int) - 1512) ∈ l
 | 0,_,m,hm=>by omega
 | n + 1,h,m,hm=>by
  unfold allS at h
  rw [Bool.and_eq_true] at h
  by_cases e:m = n
  ·rw [e]
   exact inS_in _ _ h.1
  ·exact allS_at h.2 m (by omega)
theorem all_sig:allS sgA 2268 = true:=by decide +kernel
theorem sig_in (v:Int):sigV v ∈ sgA:=by
 have key:∀ u:Int, -1512 ≤ u → u < 756 → sigV u ∈ sgA:=fun u h1 h2=>by
  have:=allS_at all_sig (u + 1512).toNat (by omega)
  rwa [show (((u + 1512).toNat:Nat):Int) - 1512 = u by omega] at this
 by_cases h:0 ≤ v
 ·rw [sig_up v h]
  exact key _ (by omega) (by omega)
 ·by_cases h2:v ≤ -1513
  ·rw [sig_down v h2]
   exact key _ (by omega) (by omega)
  ·exact key v (by omega) (by omega)
def xB:ByteArray:=⟨#[120]⟩
theorem con_a (v:Int):(Sha.state (conT v).data.toList).a ∈ kxA:=by
 obtain ⟨a,b,c,d⟩:=kOk_at okA (sig_in v)
 rw [conT_list,Sha.state_a _ (by omega) (by omega)]
 exact c
theorem conx_a (v:Int):(Sha.state (conT v ++ xB).data.toList).a ∈ kcA:=by
 obtain ⟨a,b,c,d⟩:=kOk_at okA (sig_in v)
 rw [app_list,conT_list]
 show (Sha.state (conG (sigV v) ++ [120])).a ∈ kcA
 rw [Sha.state_ax _ _ (by omega) (by omega)]
 exact d
theorem con_apart (v b:Int):dOfB (conT v) ≠ dOfB (conT b ++ xB):=fun h=>by
 have h1:=Sha.digest_a _ _ (Sha.state_ok _) (Sha.state_ok _) h
 have h2:=con_a v
 rw [h1] at h2
 exact outA_out apart_k _ (List.mem_cons_of_mem _ h2) (conx_a b)
theorem abc_a:Nat.beq (Sha.tailA (Sha.headF [97,98,99]) [97,98,99] 3) 3128432319 = true:=by decide +kernel
theorem abc_apart (b:Int):dOfB ⟨#[97,98,99]⟩ ≠ dOfB (conT b ++ xB):=fun h=>by
 have h1:=Sha.digest_a _ _ (Sha.state_ok _) (Sha.state_ok _) h
 have h2:(Sha.state [97,98,99]).a = 3128432319:=by
  rw [Sha.state_a _ (by decide) (by decide)]
  exact Nat.eq_of_beq_eq_true abc_a
 have h3:(Sha.state (conT b ++ xB).data.toList).a = 3128432319:=h1.symm.trans h2
 have h4:=conx_a b
 rw [h3] at h4
 exact outA_out apart_k _ List.mem_cons_self h4
set_option maxHeartbeats 1000000
set_option maxRecDepth 100000
open Go.RowKit
theorem ErrV.later {w w':World} {ev:Value} {k:Int} (h:ErrV w ev k) (hb:Below w.heap.size w w'):ErrV w' ev k:=by
 rcases h with h | ⟨h0,sv,nm,h1,h2⟩
 ·exact .inl h
 ·exact .inr ⟨h0,sv,nm,h1,(hb.block _ (lt_heap h2)).trans h2⟩
theorem kept_any (ds:List Nat) (ev:Value) (k:Int) (w:World) (hev:ErrV w ev k) (hg:Gl w) (hds:ds.length = 32) (hlt:∀ i,ds.getD i 0 < 256) :
  Calls Tryz.prog 61 #[.agg (cells8 ds),ev] w fun e w'=>e = .returned (.tuple #[.string (if k = 0 then dtx ds else ⟨#[]⟩),.int .i64 k]) ∧ Below w.heap.size w w':=by
 have hbo:Below w.heap.size w (w.alloc (.cells (cells8 ds) 117)):=(Below.refl _ _).alloc (Nat.le_refl _) _
 have hrow:(w.alloc (.cells (cells8 ds) 117)).heap[w.heap.size]? = some (.cells (cells8 ds) 117 (0,0)):=heap_alloc_new _ _
 obtain ⟨W,hW⟩ : ∃ W,W = w.alloc (.cells (cells8 ds) 117):=⟨_,rfl⟩
 rw [← hW] at hbo hrow
 have HER:=hide (errno_ev (hev.later hbo) (hg.later hbo).err)
 have HTX:=hide (text_any ds W hds hlt)
 have HROW:=hide hrow
 have HW:=hide hW
 have HBO:=hide hbo
 clear hg hW hbo hrow
 rcases hev with ⟨rfl,rfl⟩ | ⟨hk0,sv,nm,rfl,hsv⟩
 ·go_enter Tryz.func61,Tryz.ntmps61
  go_upto_region 1 with fail
  rw [← HW.out]
  go_wp2_with (refine wpList_load_row rfl 117 _ rfl w.heap.size rfl 117 _ _ _ HROW.out Tryz.underlying117 rfl (size40 _ hds) ?_)
  refine (HTX.out).mono ?_
  rintro _ w1 ⟨rfl,hb1⟩
  dsimp only
  have HB1:=hide hb1
  clear hb1 HTX HER
  go_wp2_with fail
  refine bodyPost_ret (results_tmp2 rfl _ _ _) rfl ?_
  exact ⟨rfl,HBO.out.trans (HB1.out.mono HBO.out.size)⟩
 ·have HSV:=hide hsv
  clear hsv
  go_enter Tryz.func61,Tryz.ntmps61
  go_upto_region 1 with fail
  rw [← HW.out]
  go_wp2_with fail
  refine (HER.out).mono ?_
  rintro _ w1 ⟨rfl,hb1⟩
  dsimp only
  have HB1:=hide hb1
  clear hb1 HTX HER
  go_wp2_with fail
  refine bodyPost_ret (results_tmp2 rfl _ _ _) rfl ?_
  exact ⟨rfl,HBO.out.trans (HB1.out.mono HBO.out.size)⟩
end Go.Proofs.YtncigfibncmioaaGreatDoor
