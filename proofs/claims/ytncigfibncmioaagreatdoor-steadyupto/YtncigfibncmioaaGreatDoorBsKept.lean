/-
  PROVED HERE: what sized gives of whatever tags.
-/
import Derived.Test.YtncigfibncmioaaGreatDoorStCont
import Derived.Test.YtncigfibncmioaaGreatDoorTopC
import Derived.Test.YtncigfibncmioaaGreatDoorBuilt
namespace Go.Proofs.YtncigfibncmioaaGreatDoor
set_option maxHeartbeats 4000000
set_option maxRecDepth 100000
open Go.RowKit Go.Shelf
def szE (ds:List Nat) (z:Int) (t:TE):TE:=if t.d=ds then { t with z:=z } else t
def szT (ds:List Nat) (z:Int) (l:List TE):List TE:=l.map (szE ds z)
def szM (ds:List Nat) (z:Int) (left:Lit→Bool) (l:List TE):List TE:=l.map fun t=>if left (kOf t.n)=true then t else szE ds z t
theorem szE_n (ds:List Nat) (z:Int) (t:TE):(szE ds z t).n=t.n:=by unfold szE;split<;>rfl
theorem szM_len (ds:List Nat) (z:Int) (left:Lit→Bool) (l:List TE):(szM ds z left l).length=l.length:=by simp [szM]
theorem szM_all {ds:List Nat} {z:Int} {left:Lit→Bool} {l:List TE} (h:∀ t∈l,left (kOf t.n)=true):szM ds z left l=l:=by
 unfold szM
 conv=>rhs;rw [← List.map_id l]
 exact List.map_congr_left fun t ht=>by rw [if_pos (h t ht)];rfl
theorem szM_none {ds:List Nat} {z:Int} {left:Lit→Bool} {l:List TE} (h:∀ kl,left kl=false):szM ds z left l=szT ds z l:=by
 unfold szM szT
 exact List.map_congr_left fun t ht=>by rw [h];rfl
theorem szM_rise {ds:List Nat} {z:Int} {left:Lit→Bool} {l:List TE} (h:RiseT l):RiseT (szM ds z left l):=by
 unfold szM RiseT RiseK
 rw [List.pairwise_map]
 refine h.imp ?_
 intro a b hab
 have:∀ t:TE,(if left (kOf t.n)=true then t else szE ds z t).n=t.n:=fun t=>by split;rfl;exact szE_n ds z t
 rw [this,this]
 exact hab
theorem szT_ok {ds:List Nat} {z:Int} {l:List TE} (h:∀ t∈l,t.Ok) (hz:0≤z∧z≤300):∀ t∈szT ds z l,t.Ok:=by
 intro t ht
 obtain ⟨u,hu,rfl⟩:=List.mem_map.1 ht
 have hk:=h u hu
 unfold szE
 split
 ·exact ⟨hk.n,hk.len,hk.lt,hz.1,hz.2⟩
 ·exact hk
theorem szM_step {ds:List Nat} {z:Int} {left left':Lit→Bool} {l:List TE} (hr:RiseT l) {t:TE} (ht:t∈l) (hl':∀ u∈l,left' (kOf u.n)=if u.n=t.n then false else left (kOf u.n)) :
  szM ds z left' l=(szM ds z left l).map fun e=>if e.n=t.n then szE ds z t else e:=by
 unfold szM
 rw [List.map_map]
 refine List.map_congr_left fun u hu=>?_
 have hn:∀ t:TE,(if left (kOf t.n)=true then t else szE ds z t).n=t.n:=fun t=>by split;rfl;exact szE_n ds z t
 simp only [Function.comp_apply,hn,hl' u hu]
 by_cases h:u.n=t.n
 ·have:u=t:=riseK_inj hr hu ht h
  subst this
  simp
 ·simp [h]
theorem szM_skip {ds:List Nat} {z:Int} {left left':Lit→Bool} {l:List TE} (hr:RiseT l) {t:TE} (ht:t∈l) (hd:t.d≠ds) (hl':∀ u∈l,left' (kOf u.n)=if u.n=t.n then false else left (kOf u.n)) :
  szM ds z left' l=szM ds z left l:=by
 unfold szM
 refine List.map_congr_left fun u hu=>?_
 rw [hl' u hu]
 by_cases h:u.n=t.n
 ·have:u=t:=riseK_inj hr hu ht h
  subst this
  simp [szE,hd]
 ·simp [h]
theorem sized_any (tb:Nat) (l:List TE) (ds:List Nat) (z':Int) (w:World) (h:TL w tb l) (hok:∀ t∈l,t.Ok) (hds:ds.length=32) (hlt:∀ i,ds.getD i 0<256) (hln:l.length≤1000) :
  Calls Tryz.prog 115 #[.map (some tb),.agg (cells8 ds),.int .i64 z'] w fun e w'=>∃ b,e = .returned (.map (some b))∧w.heap.size≤b∧TL w' b (szT ds z' l)∧Below w.heap.size w w':=by
 have hrise:RiseT l:=TL.rise h
 have HCL:=hide (tclone_any tb l.length (tD l))
 have hbo:Below w.heap.size w (w.alloc (.cells (cells8 ds) 117)):=(Below.refl _ _).alloc (Nat.le_refl _) _
 have hrow:(w.alloc (.cells (cells8 ds) 117)).heap[w.heap.size]? = some (.cells (cells8 ds) 117 (0,0)):=heap_alloc_new _ _
 have htm:TM _ tb l.length (tD l):=owns_same h (hbo.block _ (TL.lt h))
 obtain ⟨W,hW⟩ : ∃ W,W=w.alloc (.cells (cells8 ds) 117):=⟨_,rfl⟩
 rw [← hW] at hbo hrow htm
 have HTM:=hide htm
 have HW:=hide hW
 have HBO:=hide hbo
 have HROW:=hide hrow
 clear h hbo htm hW hrow
 have hz71:=(zero_of_info Tryz.info71b).1
 go_enter Tryz.func115,Tryz.ntmps115
 go_upto_region 1 with fail
 rw [← HW.out]
 go_wp2_with fail
 refine (HCL.out _ HTM.out).mono ?_
 rintro _ w1 ⟨rfl,htm1,hb1⟩
 dsimp only
 have HTM1:=hide htm1
 have HTM0:=hide (show TM w1 tb l.length (tD l) from owns_same HTM.out (hb1.block _ HTM.out.lt))
 have HB1:=hide hb1
 clear htm1 hb1 HCL
 go_wp2_with (at_range;refine wpList_range_own _ rfl _ 157 rfl 9 193 str_keyed Tryz.underlying157 heldR tb l.length (tD l) rfl HTM0.out ?_;intro w2 hrg2 hg2 hs2)
 go_frame
 have HRG:=hide hrg2
 have hB2:Below w.heap.size w w2:=(HBO.out.trans (HB1.out.mono HBO.out.size)).grown (hg2.but none) (by have:=HBO.out.size;have:=HB1.out.size;omega) (fun k e=>by cases e)
 have HB2:=hide hB2
 have HT2:=hide (show TM w2 W.heap.size l.length (tD l) from owns_same HTM1.out (hg2.block _ HTM1.out.lt (by simp)))
 have HR2:=hide ((hg2.block _ (by have:=lt_heap HROW.out;have:=HB1.out.size;omega) (by simp)).trans ((HB1.out.block _ (lt_heap HROW.out)).trans HROW.out))
 have hlt1:=HTM1.out.lt
 have hlt0:=HTM0.out.lt
 have hltt:=HTM.out.lt
 have hltw:=HBO.out.size
 have hlt2:=lt_heap HROW.out
 have HRISE:=hide hrise
 have HOK:=hide hok
 clear hrg2 hg2 hB2 hrise hok
 go_loopw [] (fun wr=>∃ left cnt,wr.ranges Tryz.prog 9 heldR tb w1.heap.size l.length (tD l) left cnt∧Below w.heap.size w wr∧w1.heap.size+1≤wr.heap.size∧wr.heap[w.heap.size]? = some (.cells (cells8 ds) 117 (0,0))∧(∀ kl,left kl=true→Maps.has (tD l) kl=true)∧TL wr W.heap.size (szM ds z' left l)) (fun wr=>wr.rangeLeft tb w1.heap.size)
 case atStart=>exact ⟨_,_,HRG.out,HB2.out,by omega,HR2.out,fun kl h=>h,by
  rw [szM_all (fun t ht=>by rw [mD_has,findK_mem HRISE.out ht];rfl)]
  exact HT2.out⟩
 case round =>
  obtain ⟨left,cnt,hrg,hb,hsz,hdr,hlf,htl⟩:=hrel
  have HB:=hide hb
  have HRGR:=hide hrg
  have HDR:=hide hdr
  have HLF:=hide hlf
  have HTL:=hide htl
  clear hb hdr hlf htl
  go_wp2_with (at_next;refine wpList_next_ranges _ rfl _ rfl 9 str_keyed heldR Value.string (fun c:Value=>c) (fun key kl hkey=>str_inv Tryz.underlying9 hkey) (fun v y hv=>⟨v,rfl⟩) tb w1.heap.size _ _ _ _ rfl HRGR.out ?_ ?_)
  ·intro _ hl0
   have hfin:TL wr W.heap.size (szT ds z' l):=by
    have:=HTL.out
    rwa [szM_none hl0] at this
   have HFIN:=hide hfin
   clear hrg hl0 hfin
   go_wp2_with fail
   go_ret
   exact ⟨_,rfl,by omega,HFIN.out,HB.out⟩
  ·intro x c kl d ps w3 cnt1 hkey hlk hv hat hrg1 hltc hg1 hs1 hen
   obtain ⟨t,ht,rfl⟩:=mD_any (HLF.out kl hlk)
   have hxn:x=t.n:=by
    have:=str_key Tryz.underlying9 hkey
    unfold kOf at this
    injection this with this
    exact (ByteArray.ext (Array.ext' this)).symm
   subst hxn
   have hc:c=t.v:=by
    have h1:=hat .nil
    have h2:d = .held c:=by
     unfold heldR at hv
     injection hv with hv
     injection hv with hv
     exact hv.symm
    simp only [h2] at h1
    rw [mD_at,findK_mem HRISE.out ht] at h1
    injection h1 with h1
    exact h1.symm
   have hc:c = .agg (ecellsOf t.n t.d t.z):=hc
   subst hc
   have htok:=HOK.out t ht
   have htd:=htok.len
   have htn:=htok.n
   have HTLT:=hide htok.lt
   clear htok
   have hb3:Below w.heap.size w w3:=HB.out.grown hg1 (by omega) (fun k hk=>by injection hk with hk;omega)
   have hd3:w3.heap[w.heap.size]? = some (.cells (cells8 ds) 117 (0,0)):=(hg1.block _ (lt_heap HDR.out) (fun e=>by injection e with e;omega)).trans HDR.out
   have ht3:TL w3 W.heap.size (szM ds z' left l):=HTL.out.same (hg1.block _ HTL.out.lt (fun e=>by injection e with e;omega))
   have hX1:(w3.alloc (.cells (ecellsOf t.n t.d t.z) 193)).heap[w3.heap.size]? = some (.cells (ecellsOf t.n t.d t.z) 193 (0,0)):=heap_alloc_new _ _
   have hent:Ent w3 (w3.alloc (.cells (ecellsOf t.n t.d t.z) 193)) w3.heap.size t.n t.d t.z:=⟨hX1,(Below.refl _ _).alloc (Nat.le_refl _) _⟩
   obtain ⟨n0,n1,n2⟩:=hent.out htd
   have n3:=frozen_of_row _ _ 33 _ _ hX1
   have hd4:(w3.alloc (.cells (ecellsOf t.n t.d t.z) 193)).heap[w.heap.size]? = some (.cells (cells8 ds) 117 (0,0)):=(hent.below.block _ (lt_heap hd3)).trans hd3
   have hse:=ecells_set t.n t.d t.z z' htd
   have hBx:∀ q,Below w3.heap.size w3 (w3.alloc (.cells (ecellsOf t.n t.d q) 193)):=fun q=>(Below.refl _ _).alloc (Nat.le_refl _) _
   have hX2:(w3.alloc (.cells (ecellsOf t.n t.d z') 193)).heap[w3.heap.size]? = some (.cells (ecellsOf t.n t.d z') 193 (0,0)):=heap_alloc_new _ _
   have HT5:=hide (fun q=>show TL (w3.alloc (.cells (ecellsOf t.n t.d q) 193)) W.heap.size (szM ds z' left l) from ht3.same ((hBx q).block _ ht3.lt))
   have HRG5:=hide (fun q=>hrg1.alloc (.cells (ecellsOf t.n t.d q) 193))
   have HB5:=hide (fun q=>show Below w.heap.size w (w3.alloc (.cells (ecellsOf t.n t.d q) 193)) from hb3.trans ((hBx q).mono hb3.size))
   have HD5:=hide (fun q=>show (w3.alloc (.cells (ecellsOf t.n t.d q) 193)).heap[w.heap.size]? = some (.cells (cells8 ds) 117 (0,0)) from ((hBx q).block _ (lt_heap hd3)).trans hd3)
   have HLK:=hide (show ∀ u∈l,∀ kl',kl'=kOf u.n→(left kl' && !kl'.sameKey (kOf t.n))=if u.n=t.n then false else left (kOf u.n) from fun u hu kl' hk=>by
    subst hk
    rw [kOf_same]
    by_cases h:u.n=t.n
    ·simp [h]
    ·simp [h])
   have HX1:=hide hX1
   have HX2:=hide hX2
   have HD4:=hide hd4
   have HN1:=hide n1
   have HLT:=hide hltc
   have HHT:=hide ht
   have hsz3:w1.heap.size+1≤w3.heap.size:=by omega
   clear hBx hs1 hrg hrg1 hkey hlk hv hat hltc hg1 hb3 hd3 ht3 hX1 hent n1 hd4 hX2 ht
   by_cases hdd:t.d=ds
   ·have hdt:decide (t.d=ds)=true:=decide_eq_true hdd
    have HDD:=hide hdd
    clear hdd
    go_wp2_with (first|(refine wpList_store_row rfl 193 _ _ rfl w3.heap.size _ rfl rfl 193 _ (heap_alloc_new _ _) (size71 _ _ _ htd) (by rw [ecellsOf_size _ _ _ htd,ecellsOf_size _ _ _ (Sha.zeros_len _)]) (Array.all_eq_true_iff_forall_mem.2 fun u hu=>ecellsOf_one _ _ _ u (by simpa using hu)) ?_;rw [World.setRow_alloc_new])|(refine wpList_load_mid rfl 117 _ rfl w3.heap.size 1 rfl (cells8 t.d).toList _ HN1.out Tryz.underlying117 rfl (by rw [Array.length_toList];exact size40 _ htd) ?_)|(refine wpList_load_row rfl 117 _ rfl w.heap.size rfl 117 _ _ _ HD4.out Tryz.underlying117 rfl (size40 _ hds) ?_)|(refine wpList_eqDig rfl _ _ _ rfl t.d ds htd hds HTLT.out hlt rfl rfl ?_;rw [hdt])|(refine wpList_load_row rfl 193 _ rfl w3.heap.size rfl 193 _ _ _ HX2.out Tryz.underlying193 rfl (size71 _ _ _ htd) ?_)|(refine wpList_mapUpdate_own _ rfl _ _ _ 157 rfl 9 193 str_keyed Tryz.underlying157 heldR W.heap.size _ _ rfl (HT5.out z') (by rw [szM_len];unfold maxLen;omega) _ _ (.string t.n.data.toList) rfl rfl (key_str t.n (by omega)) _ [] rfl ?_;intro w6 hm6 hg6))
    go_roundw
    case rel =>
     have hz5:=(HB5.out z').size
     refine ⟨_,⟨cnt1,(HRG5.out z').kept hg6 (fun e=>by injection e with e;omega) (fun e=>by injection e with e;omega)⟩,(HB5.out z').grown hg6 (by omega) (fun k hk=>by injection hk with hk;omega),by have:=hg6.size;simp only [size_alloc] at this;omega,(hg6.block _ (lt_heap (HD5.out z')) (fun e=>by injection e with e;omega)).trans (HD5.out z'),fun kl h=>HLF.out kl (by simp at h;exact h.1),?_⟩
     have hts:szE ds z' t=⟨t.n,t.d,z'⟩:=by unfold szE;rw [if_pos HDD.out]
     have h7:TM w6 W.heap.size ((szM ds z' left l).length+1) ((tD (szM ds z' left l)).put (kOf (szE ds z' t).n) (.held (szE ds z' t).v)):=by rw [hts];exact hm6
     rw [mD_put _ _ (szM_rise HRISE.out),insK_there (szM_rise HRISE.out) ⟨if left (kOf t.n)=true then t else szE ds z' t,List.mem_map_of_mem HHT.out,by rw [szE_n];split;rfl;exact szE_n _ _ _⟩] at h7
     have h8:=tl_tight h7
     rw [szM_step HRISE.out HHT.out (fun u hu=>HLK.out u hu _ rfl)]
     rw [szE_n] at h8
     exact h8
    case measure =>
     rw [((HRG5.out z').kept hg6 (fun e=>by injection e with e;omega) (fun e=>by injection e with e;omega)).left_eq,HRGR.out.left_eq]
     exact HLT.out
   ·have hdt:decide (t.d=ds)=false:=decide_eq_false hdd
    have HDD:=hide hdd
    clear hdd
    go_wp2_with (first|(refine wpList_store_row rfl 193 _ _ rfl w3.heap.size _ rfl rfl 193 _ (heap_alloc_new _ _) (size71 _ _ _ htd) (by rw [ecellsOf_size _ _ _ htd,ecellsOf_size _ _ _ (Sha.zeros_len _)]) (Array.all_eq_true_iff_forall_mem.2 fun u hu=>ecellsOf_one _ _ _ u (by simpa using hu)) ?_;rw [World.setRow_alloc_new])|(refine wpList_load_mid rfl 117 _ rfl w3.heap.size 1 rfl (cells8 t.d).toList _ HN1.out Tryz.underlying117 rfl (by rw [Array.length_toList];exact size40 _ htd) ?_)|(refine wpList_load_row rfl 117 _ rfl w.heap.size rfl 117 _ _ _ HD4.out Tryz.underlying117 rfl (size40 _ hds) ?_)|(refine wpList_eqDig rfl _ _ _ rfl t.d ds htd hds HTLT.out hlt rfl rfl ?_;rw [hdt]))
    refine ⟨?_,?measure⟩
    ·iterate 16 (apply Exists.intro)
     refine ⟨?rel,rfl⟩
     refine ⟨_,cnt1,HRG5.out t.z,HB5.out t.z,by simp only [size_alloc];omega,HD5.out t.z,fun kl h=>HLF.out kl (by simp at h;exact h.1),?_⟩
     rw [szM_skip HRISE.out HHT.out HDD.out (fun u hu=>HLK.out u hu _ rfl)]
     exact HT5.out t.z
    ·rw [(HRG5.out t.z).left_eq,HRGR.out.left_eq]
     exact HLT.out
set_option maxHeartbeats 4000000
set_option maxRecDepth 100000
open Go.RowKit Go.Shelf
theorem rise_sub:∀ {m l:List TE},RiseT l→RiseT m→(∀ t∈l,t∈m)→l.Sublist m
 | [],l,_,_,h=>by
  cases l with
  | nil=>exact .slnil
  | cons e es=>exact absurd (h e (by simp)) (by simp)
 | f::fs,l,hl,hm,h=>by
  obtain ⟨m1,m2⟩:=List.pairwise_cons.1 hm
  cases l with
  | nil=>exact List.nil_sublist _
  | cons e es =>
   obtain ⟨l1,l2⟩:=List.pairwise_cons.1 hl
   by_cases he:e=f
   ·subst he
    exact (rise_sub l2 m2 (fun t ht=>(List.mem_cons.1 (h t (by simp [ht]))).resolve_left (fun e2=>by
     subst e2
     have:=l1 t ht
     rw [less_irrefl] at this
     cases this))).cons_cons e
   ·have hef:e∈fs:=(List.mem_cons.1 (h e (by simp))).resolve_left he
    refine (rise_sub hl m2 (fun t ht=>(List.mem_cons.1 (h t ht)).resolve_left (fun e2=>?_))).cons f
    subst e2
    rcases List.mem_cons.1 ht with rfl|ht
    ·exact he rfl
    ·have:=less_trans (m1 e hef) (l1 t ht)
     rw [less_irrefl] at this
     cases this
theorem tags_eq {l m:List TE} (hl:RiseT l) (hm:RiseT m) (hlen:l.length=m.length) (h:∀ t∈l,t∈m):l=m:=(rise_sub hl hm h).eq_of_length hlen
theorem equal_any (b1 b2:Nat) (l m:List TE) (w:World) (h1:TL w b1 l) (h2:TL w b2 m) (ho1:∀ t∈l,t.Ok) (ho2:∀ t∈m,t.Ok) :
  Calls Tryz.prog 165 #[.map (some b1),.map (some b2)] w fun e w'=>e = .returned (.bool (decide (l=m)))∧Below w.heap.size w w':=by
 by_cases hlen:l.length=m.length
 ·have l1:=World.ownsMap.len h1 Tryz.underlying157
  have l2:=World.ownsMap.len h2 Tryz.underlying157
  rw [mD_size] at l1 l2
  rw [← hlen] at l2
  have H1:=hide h1
  have H2:=hide h2
  have HO1:=hide ho1
  have HO2:=hide ho2
  have HLEN:=hide hlen
  clear h1 h2 ho1 ho2 hlen
  go_enter Tryz.func165,Tryz.ntmps165
  go_wp2_with (at_range;refine wpList_range_own _ rfl _ 157 rfl 9 193 str_keyed Tryz.underlying157 heldR b1 l.length (tD l) rfl H1.out ?_;intro w2 hrg2 hg2 hs2)
  go_frame
  have HRG:=hide hrg2
  have hB2:Below w.heap.size w w2:=(Below.refl _ _).grown (hg2.but none) (Nat.le_refl _) (fun k e=>by cases e)
  have HB2:=hide hB2
  have HR1:=hide H1.out.rise
  have HR2:=hide H2.out.rise
  have hlt1:=H1.out.lt
  have hlt2:=H2.out.lt
  clear hrg2 hg2 hB2
  have hz71:=(zero_of_info Tryz.info71b).1
  go_loopw [] (fun wr=>∃ left cnt,wr.ranges Tryz.prog 9 heldR b1 w.heap.size l.length (tD l) left cnt∧Below w.heap.size w wr∧(∀ kl,left kl=true→Maps.has (tD l) kl=true)∧(∀ t∈l,left (kOf t.n)=false→t∈m)) (fun wr=>wr.rangeLeft b1 w.heap.size)
  case atStart=>exact ⟨_,_,HRG.out,HB2.out,fun kl h=>h,fun t ht h=>by rw [mD_has,findK_mem HR1.out ht] at h;cases h⟩
  case round =>
   obtain ⟨left,cnt,hrg,hb,hlf,hin⟩:=hrel
   have HB:=hide hb
   have HRGR:=hide hrg
   have HLF:=hide hlf
   have HIN:=hide hin
   clear hb hlf hin
   go_wp2_with (at_next;refine wpList_next_ranges _ rfl _ rfl 9 str_keyed heldR Value.string (fun c:Value=>c) (fun key kl hkey=>str_inv Tryz.underlying9 hkey) (fun v y hv=>⟨v,rfl⟩) b1 w.heap.size _ _ _ _ rfl HRGR.out ?_ ?_)
   ·intro _ hl0
    have hlm:l=m:=tags_eq HR1.out HR2.out HLEN.out (fun t ht=>HIN.out t ht (hl0 _))
    have HLM:=hide hlm
    clear hrg hl0 hlm
    go_wp2_with fail
    go_ret
    exact ⟨by rw [decide_eq_true HLM.out];rfl,HB.out⟩
   ·intro x c kl d ps w3 cnt1 hkey hlk hv hat hrg1 hltc hg1 hs1 hen
    obtain ⟨t,ht,rfl⟩:=mD_any (HLF.out kl hlk)
    have hxn:x=t.n:=by
     have:=str_key Tryz.underlying9 hkey
     unfold kOf at this
     injection this with this
     exact (ByteArray.ext (Array.ext' this)).symm
    subst hxn
    have hc:c=t.v:=by
     have h1:=hat .nil
     have h2:d = .held c:=by
      unfold heldR at hv
      injection hv with hv
      injection hv with hv
      exact hv.symm
     simp only [h2] at h1
     rw [mD_at,findK_mem HR1.out ht] at h1
     injection h1 with h1
     exact h1.symm
    have hc:c = .agg (ecellsOf t.n t.d t.z):=hc
    subst hc
    have htok:=HO1.out t ht
    have htd:=htok.len
    have htn:=htok.n
    have hb3:Below w.heap.size w w3:=HB.out.grown hg1 HB.out.size (fun k hk=>by injection hk with hk;omega)
    have HT:=hide (show TL w3 b2 m from H2.out.same (hb3.block _ hlt2))
    have HB3:=hide hb3
    have HTOK:=hide htok
    have HHT:=hide ht
    have HEN:=hide hen
    clear htok ht hb3
    obtain ⟨X,hX⟩ : ∃ X,X=w3.alloc (.cells (ecellsOf t.n t.d t.z) 193):=⟨_,rfl⟩
    have hbX:Below w3.heap.size w3 X:=by rw [hX];exact (Below.refl _ _).alloc (Nat.le_refl _) _
    have hXr:X.heap[w3.heap.size]? = some (.cells (ecellsOf t.n t.d t.z) 193 (0,0)):=by rw [hX];exact heap_alloc_new _ _
    have HXT:=hide (show TL X b2 m from HT.out.same (hbX.block _ HT.out.lt))
    have HX:=hide hX
    have HXR:=hide hXr
    have HBX:=hide hbX
    have HRG1:=hide hrg1
    have HLT:=hide hltc
    clear hX hbX hXr hrg hrg1 hltc hs1 hg1 hkey hlk hv hat
    obtain ⟨u,hu⟩ : ∃ u,u=lookT t.n m:=⟨_,rfl⟩
    have huok:u.Ok:=by rw [hu];exact lookT_ok HO2.out
    have hud:=huok.len
    obtain ⟨Y,hY⟩ : ∃ Y,Y=X.alloc (.cells (ecellsOf u.n u.d u.z) 193):=⟨_,rfl⟩
    have hbY:Below X.heap.size X Y:=by rw [hY];exact (Below.refl _ _).alloc (Nat.le_refl _) _
    have hYr:Y.heap[X.heap.size]? = some (.cells (ecellsOf u.n u.d u.z) 193 (0,0)):=by rw [hY];exact heap_alloc_new _ _
    have HYX:=hide ((hbY.block _ (lt_heap HXR.out)).trans HXR.out)
    have HYR:=hide hYr
    have HY:=hide hY
    have HBY:=hide (HB3.out.trans ((HBX.out.mono HB3.out.size).trans (hbY.mono (Nat.le_trans HB3.out.size HBX.out.size))))
    have HRGY:=hide (show Y.ranges Tryz.prog 9 heldR b1 w.heap.size l.length (tD l) (fun z=>left z && !z.sameKey (kOf t.n)) cnt1 from by
     rw [HY.out]
     have:=HRG1.out.alloc (.cells (ecellsOf t.n t.d t.z) 193)
     rw [← HX.out] at this
     exact this.alloc _)
    have HUOK:=hide huok
    have HU:=hide hu
    clear huok hbY hYr hY hu
    cases hf:findK TE.n t.n m with
    | none =>
     have hsome:(findK TE.n t.n m).isSome=false:=by rw [hf];rfl
     have hlm:¬ l=m:=fun e=>findK_none hf t (by rw [← e];exact HHT.out) rfl
     have HLM:=hide hlm
     clear hlm hf
     go_wp2_with (first|(refine wpList_store_row rfl 193 _ _ rfl w3.heap.size _ rfl rfl 193 _ (heap_alloc_new _ _) (size71 _ _ _ htd) (by rw [ecellsOf_size _ _ _ htd,ecellsOf_size _ _ _ (Sha.zeros_len _)]) (Array.all_eq_true_iff_forall_mem.2 fun u hu=>ecellsOf_one _ _ _ u (by simpa using hu)) ?_;rw [World.setRow_alloc_new,← HX.out])|(refine wpList_lookT rfl _ _ rfl b2 m rfl HXT.out t.n rfl (by omega) ?_;rw [hsome,← HU.out])|(refine wpList_store_row rfl 193 _ _ rfl X.heap.size _ rfl rfl 193 _ (heap_alloc_new _ _) (size71 _ _ _ hud) (by rw [ecellsOf_size _ _ _ hud,ecellsOf_size _ _ _ (Sha.zeros_len _)]) (Array.all_eq_true_iff_forall_mem.2 fun u hu=>ecellsOf_one _ _ _ u (by simpa using hu)) ?_;rw [World.setRow_alloc_new,← HY.out]))
     go_ret
     exact ⟨by rw [decide_eq_false HLM.out];rfl,HBY.out⟩
    | some u' =>
     have hsome:(findK TE.n t.n m).isSome=true:=by rw [hf];rfl
     have huu:u=u':=by rw [HU.out];unfold lookT;rw [hf];rfl
     by_cases htu:t=u
     ·have hne:(!decide (t=u))=false:=by rw [decide_eq_true htu];rfl
      have HTM:=hide (show t∈m by rw [htu,huu];exact (findK_some hf).1)
      clear hf huu htu
      go_wp2_with (first|(refine wpList_store_row rfl 193 _ _ rfl w3.heap.size _ rfl rfl 193 _ (heap_alloc_new _ _) (size71 _ _ _ htd) (by rw [ecellsOf_size _ _ _ htd,ecellsOf_size _ _ _ (Sha.zeros_len _)]) (Array.all_eq_true_iff_forall_mem.2 fun u hu=>ecellsOf_one _ _ _ u (by simpa using hu)) ?_;rw [World.setRow_alloc_new,← HX.out])|(refine wpList_lookT rfl _ _ rfl b2 m rfl HXT.out t.n rfl (by omega) ?_;rw [hsome,← HU.out])|(refine wpList_store_row rfl 193 _ _ rfl X.heap.size _ rfl rfl 193 _ (heap_alloc_new _ _) (size71 _ _ _ hud) (by rw [ecellsOf_size _ _ _ hud,ecellsOf_size _ _ _ (Sha.zeros_len _)]) (Array.all_eq_true_iff_forall_mem.2 fun u hu=>ecellsOf_one _ _ _ u (by simpa using hu)) ?_;rw [World.setRow_alloc_new,← HY.out])|(refine wpList_load_rowG rfl 193 _ rfl w3.heap.size rfl 193 _ _ _ HYX.out Tryz.underlying193 rfl (size71 _ _ _ htd) ?_)|(refine wpList_load_rowG rfl 193 _ rfl X.heap.size rfl 193 _ _ _ HYR.out Tryz.underlying193 rfl (size71 _ _ _ hud) ?_)|(refine wpList_neEntG rfl _ _ _ rfl t u HTOK.out HUOK.out rfl rfl ?_;rw [hne]))
      refine ⟨⟨_,cnt1,HRGY.out,HBY.out,fun kl h=>HLF.out kl (by simp at h;exact h.1),fun t' ht' hl'=>?_⟩,?_⟩
      ·by_cases hn:t'.n=t.n
       ·rw [riseK_inj HR1.out ht' HHT.out hn]
        exact HTM.out
       ·refine HIN.out t' ht' ?_
        rw [kOf_same,decide_eq_false hn] at hl'
        simpa using hl'
      ·rw [HRGY.out.left_eq,HRGR.out.left_eq]
       exact HLT.out
     ·have hne:(!decide (t=u))=true:=by rw [decide_eq_false htu];rfl
      have hlm:¬ l=m:=fun e=>htu (by
       have h1:=findK_mem HR2.out (show t∈m by rw [← e];exact HHT.out)
       rw [hf] at h1
       injection h1 with h1
       rw [huu,h1])
      have HLM:=hide hlm
      clear hf huu htu hlm
      go_wp2_with (first|(refine wpList_store_row rfl 193 _ _ rfl w3.heap.size _ rfl rfl 193 _ (heap_alloc_new _ _) (size71 _ _ _ htd) (by rw [ecellsOf_size _ _ _ htd,ecellsOf_size _ _ _ (Sha.zeros_len _)]) (Array.all_eq_true_iff_forall_mem.2 fun u hu=>ecellsOf_one _ _ _ u (by simpa using hu)) ?_;rw [World.setRow_alloc_new,← HX.out])|(refine wpList_lookT rfl _ _ rfl b2 m rfl HXT.out t.n rfl (by omega) ?_;rw [hsome,← HU.out])|(refine wpList_store_row rfl 193 _ _ rfl X.heap.size _ rfl rfl 193 _ (heap_alloc_new _ _) (size71 _ _ _ hud) (by rw [ecellsOf_size _ _ _ hud,ecellsOf_size _ _ _ (Sha.zeros_len _)]) (Array.all_eq_true_iff_forall_mem.2 fun u hu=>ecellsOf_one _ _ _ u (by simpa using hu)) ?_;rw [World.setRow_alloc_new,← HY.out])|(refine wpList_load_rowG rfl 193 _ rfl w3.heap.size rfl 193 _ _ _ HYX.out Tryz.underlying193 rfl (size71 _ _ _ htd) ?_)|(refine wpList_load_rowG rfl 193 _ rfl X.heap.size rfl 193 _ _ _ HYR.out Tryz.underlying193 rfl (size71 _ _ _ hud) ?_)|(refine wpList_neEntG rfl _ _ _ rfl t u HTOK.out HUOK.out rfl rfl ?_;rw [hne]))
      go_ret
      exact ⟨by rw [decide_eq_false HLM.out];rfl,HBY.out⟩
 ·have hne:¬ l=m:=fun e=>hlen (by rw [e])
  rw [decide_eq_false hne]
  exact (equal_short b1 b2 l.length m.length (tD l) (tD m) w h1 h2 (by rw [mD_size,mD_size];exact hlen)).mono fun e w' ⟨he,hw⟩=>⟨he,by rw [hw];exact Below.refl _ _⟩
end Go.Proofs.YtncigfibncmioaaGreatDoor
namespace Go.Proofs.YtncigfibncmioaaGreatDoor
open Go.RowKit
theorem StW.putC {W W':World} {sb:Nat} {s:PSt} {cb tb nc nt n':Nat} {Dc Dt D':DataW Value} (h:StW W sb s cb tb nc nt Dc Dt) (hg:W.grownBy W' (some cb)) (hc:CM W' cb n' D'):StW W' sb s cb tb n' nt D' Dt:=by
 have hne:∀ {k:Nat},k≠cb→k<W.heap.size→W'.heap[k]? = W.heap[k]?:=fun hk hl=>hg.block _ hl (fun e=>hk (by injection e))
 refine ⟨h.inn.same (fun k hk=>hne (fun e=>h.ncb (e ▸ hk)) (h.inn.lt hk)),h.gl.same hg.size (fun k hk=>hne (fun e=>h.gcb (e ▸ hk)) (h.gl.lt hk)),h.low,(hne (fun e=>?_) (lt_heap h.blk)).trans h.blk,hc,owns_same h.tm (hne (fun e=>h.ne e.symm) h.tm.lt),h.ncb,h.ntb,h.gcb,h.gtb,h.gsb,h.ne⟩
 obtain ⟨es,clock,h1,_⟩:=h.cm
 rw [← e,h.blk] at h1
 cases h1
def dPut (Dc:DataW Value) (ds:List Nat):DataW Value:=Dc.put (dKey ds) (.held (.agg #[]))
theorem StW.far {W W':World} {sb:Nat} {s:PSt} {cb tb nc nt r:Nat} {Dc Dt:DataW Value} {cur:Array Value} (h:StW W sb s cb tb nc nt Dc Dt) (hsz:W.heap.size≤W'.heap.size) (hr:W.heap[r]? = some (.cells cur 117 (0,0))) (hG:¬ isG r) (hs:∀ k,k≠r→W'.heap[k]? = W.heap[k]?):StW W' sb s cb tb nc nt Dc Dt:=by
 have hne:∀ {x n:Nat} {k:TypeId} {D:DataW Value},W.ownsMap Tryz.prog k heldR x n D→x≠r:=by
  rintro x n k D ⟨es,clock,h1,_⟩ rfl
  rw [hr] at h1
  cases h1
 refine ⟨h.inn.same (fun k hk=>hs k (fun e=>?_)),h.gl.same hsz (fun k hk=>hs k (fun e=>hG (e ▸ hk))),h.low,(hs sb (type_ne h.blk hr (by decide))).trans h.blk,owns_same h.cm (hs _ (hne h.cm)),owns_same h.tm (hs _ (hne h.tm)),h.ncb,h.ntb,h.gcb,h.gtb,h.gsb,h.ne⟩
 subst e
 rcases h.inn.typed hk hr with h3|h3|h3|h3<;>exact absurd h3 (by decide)
theorem ErrV.far {W W':World} {ev:Value} {k:Int} {r:Nat} {cur:Array Value} (h:ErrV W ev k) (hr:W.heap[r]? = some (.cells cur 117 (0,0))) (hs:∀ k,k≠r→W'.heap[k]? = W.heap[k]?):ErrV W' ev k:=by
 rcases h with h|⟨h0,sv,nm,h1,h2⟩
 ·exact .inl h
 ·exact .inr ⟨h0,sv,nm,h1,(hs _ (type_ne h2 hr (by decide))).trans h2⟩
theorem con_t {w:World} {r:Nat} {zs:List Nat} (hr:w.heap[r]? = some (.cells (cells8 zs) 117 (0,0))) (hz:zs.length=32) (ds:List Nat) (hds:ds.length=32):w.there r 0 (cells8 ds).toList.length:=by
 intro j hj
 rw [Array.length_toList,cells8_size,hds] at hj
 refine ⟨?_,frozen_of_row w r _ _ _ hr⟩
 rw [cell_of_row w r (0+j) _ _ _ hr,Array.getElem?_eq_getElem (by rw [cells8_size,hz];omega)]
 rfl
theorem dig_set {w:World} {r:Nat} {zs:List Nat} (hr:w.heap[r]? = some (.cells (cells8 zs) 117 (0,0))) (hz:zs.length=32) (ds:List Nat) (hds:ds.length=32):(w.setCells r 0 (cells8 ds).toList).heap[r]? = some (.cells (cells8 ds) 117 (0,0)):=by
 have hl:(cells8 ds).toList.length=32:=by rw [Array.length_toList,cells8_size,hds]
 have hs:(cells8 zs).size=32:=by rw [cells8_size,hz]
 obtain ⟨cur',h1,h2,h3,h4,h5⟩:=setCells_rowF r 117 (cells8 ds).toList 0 w _ hr (by omega)
 rw [h1]
 have hc:cur'=cells8 ds:=by
  apply Array.ext_getElem?
  intro j
  rcases Nat.lt_or_ge j 32 with hj|hj
  ·have:=h4 j (by omega)
   rw [Nat.zero_add] at this
   rw [this]
   simp
  ·rw [h5 j (by omega),Array.getElem?_eq_none (by omega),Array.getElem?_eq_none (by rw [cells8_size,hds];omega)]
 rw [hc]
def dOfB (b:ByteArray):List Nat:=Sha.digest (Sha.state b.data.toList)
theorem dOfB_len (b:ByteArray):(dOfB b).length=32:=Sha.dBytes_len _ _
theorem dOfB_lt (b:ByteArray):∀ i,(dOfB b).getD i 0<256:=fun i=>Sha.dBytes_lt _ _ i
end Go.Proofs.YtncigfibncmioaaGreatDoor
namespace Go.Proofs.YtncigfibncmioaaGreatDoor
set_option maxHeartbeats 1000000
set_option maxRecDepth 100000
open Go.RowKit
theorem Tryz.zero59 (w:World):(zeroValue 100).run Tryz.prog w = .ok (.agg #[]) w:=by kernel_rfl
def UnitC (D:DataW Value):Prop:=∀ kl v,D.atKey kl (.held (.agg #[])) = .held v→v = .agg #[]
theorem has_any (sb:Nat) (s:PSt) (cb tb nc nt:Nat) (Dc Dt:DataW Value) (ds:List Nat) (w:World) (h:StW w sb s cb tb nc nt Dc Dt) (hu:UnitC Dc) (hds:ds.length=32) (hlt:∀ i,ds.getD i 0<256) :
  Calls Tryz.prog 110 #[.pointer (some ⟨sb,0,none⟩),.agg (cells8 ds)] w fun e w'=>e = .returned (.bool (Maps.has Dc (dKey ds)))∧Below w.heap.size w w':=by
 have hbo:Below w.heap.size w (w.alloc (.cells (cells8 ds) 117)):=(Below.refl _ _).alloc (Nat.le_refl _) _
 have hrow:(w.alloc (.cells (cells8 ds) 117)).heap[w.heap.size]? = some (.cells (cells8 ds) 117 (0,0)):=heap_alloc_new _ _
 obtain ⟨W,hW⟩ : ∃ W,W=w.alloc (.cells (cells8 ds) 117):=⟨_,rfl⟩
 rw [← hW] at hbo hrow
 have hst:=h.later hbo
 have HROW:=hide hrow
 have HW:=hide hW
 have HBO:=hide hbo
 have HST:=hide hst
 clear h hst hW hbo hrow
 go_enter Tryz.func110,Tryz.ntmps110
 go_upto_region 1 with fail
 rw [← HW.out]
 have hdr:Below W.heap.size W W.drew:=(Below.refl _ _).drew
 have h6:=HST.out.later hdr
 have hS0:W.drew.cell? ⟨sb,1,none⟩=some (.map (some cb))∧W.drew.rangeAt w.heap.size 0 (cells8 ds).toList:=⟨cell_of_row _ _ 1 _ _ _ h6.blk,con_r ((hdr.block _ (lt_heap HROW.out)).trans HROW.out)⟩
 obtain ⟨v,ps,hrun,hv⟩:=World.ownsMap.look_ok h6.cm dig_keyed Tryz.underlying156 (Tryz.zero59 _) (show heldR (.agg #[])=some (.held (.agg #[]),[]) from rfl) (key_dig ds hds hlt)
 have hv2:v = .agg #[]:=hu (dKey ds) v (by
  unfold heldR at hv
  injection hv with hv
  injection hv with hv
  exact hv.symm)
 subst hv2
 have u72:=Tryz.underlying117
 have i72:=size72 ds hds
 have hdr1:Below W.heap.size W (W.alloc (.cells #[] 100)).drew:=((Below.refl _ _).alloc (Nat.le_refl _) _).drew
 have h7:=HST.out.later hdr1
 have hS1:(W.alloc (.cells #[] 100)).drew.cell? ⟨sb,1,none⟩=some (.map (some cb))∧(W.alloc (.cells #[] 100)).drew.rangeAt w.heap.size 0 (cells8 ds).toList:=⟨cell_of_row _ _ 1 _ _ _ h7.blk,con_r ((hdr1.block _ (lt_heap HROW.out)).trans HROW.out)⟩
 obtain ⟨v,ps,hrun1,hv1⟩:=World.ownsMap.look_ok h7.cm dig_keyed Tryz.underlying156 (Tryz.zero59 _) (show heldR (.agg #[])=some (.held (.agg #[]),[]) from rfl) (key_dig ds hds hlt)
 have hv2:v = .agg #[]:=hu (dKey ds) v (by
  unfold heldR at hv1
  injection hv1 with hv1
  injection hv1 with hv1
  exact hv1.symm)
 subst hv2
 clear h6 h7 hv hv1
 go_region_held3 (fun w'=>w'.cell? ⟨sb,1,none⟩=some (.map (some cb))∧w'.rangeAt w.heap.size 0 (cells8 ds).toList) (first|exact hS0|exact hS1|go_keep) (fail)
 all_goals
  go_wp2_with fail
  go_ret
  exact ⟨rfl,HBO.out.trans (hdr1.mono HBO.out.size)⟩
set_option maxHeartbeats 1000000
set_option maxRecDepth 100000
open Go.RowKit
theorem ErrV.later {w w':World} {ev:Value} {k:Int} (h:ErrV w ev k) (hb:Below w.heap.size w w'):ErrV w' ev k:=by
 rcases h with h|⟨h0,sv,nm,h1,h2⟩
 ·exact .inl h
 ·exact .inr ⟨h0,sv,nm,h1,(hb.block _ (lt_heap h2)).trans h2⟩
theorem kept_any (ds:List Nat) (ev:Value) (k:Int) (w:World) (hev:ErrV w ev k) (hg:Gl w) (hds:ds.length=32) (hlt:∀ i,ds.getD i 0<256) :
  Calls Tryz.prog 61 #[.agg (cells8 ds),ev] w fun e w'=>e = .returned (.tuple #[.string (if k=0 then dtx ds else ⟨#[]⟩),.int .i64 k])∧Below w.heap.size w w':=by
 have hbo:Below w.heap.size w (w.alloc (.cells (cells8 ds) 117)):=(Below.refl _ _).alloc (Nat.le_refl _) _
 have hrow:(w.alloc (.cells (cells8 ds) 117)).heap[w.heap.size]? = some (.cells (cells8 ds) 117 (0,0)):=heap_alloc_new _ _
 obtain ⟨W,hW⟩ : ∃ W,W=w.alloc (.cells (cells8 ds) 117):=⟨_,rfl⟩
 rw [← hW] at hbo hrow
 have HER:=hide (errno_ev (hev.later hbo) (hg.later hbo).err)
 have HTX:=hide (text_any ds W hds hlt)
 have HROW:=hide hrow
 have HW:=hide hW
 have HBO:=hide hbo
 clear hg hW hbo hrow
 rcases hev with ⟨rfl,rfl⟩|⟨hk0,sv,nm,rfl,hsv⟩
 ·go_enter Tryz.func61,Tryz.ntmps61
  go_upto_region 1 with fail
  rw [← HW.out]
  go_wp2_with (refine wpList_load_row rfl 117 _ rfl w.heap.size rfl 117 _ _ _ HROW.out Tryz.underlying117 rfl (size40 _ hds) ?_)
  refine (HTX.out).mono ?_
  rintro _ w1 ⟨rfl,hb1⟩
  dsimp only
  have HB1:=hide hb1
  clear hb1 HTX HER
  go_wp2_with fail
  refine bodyPost_ret (results_tmp2 rfl _ _ _) rfl ?_
  exact ⟨rfl,HBO.out.trans (HB1.out.mono HBO.out.size)⟩
 ·have HSV:=hide hsv
  clear hsv
  go_enter Tryz.func61,Tryz.ntmps61
  go_upto_region 1 with fail
  rw [← HW.out]
  go_wp2_with fail
  refine (HER.out).mono ?_
  rintro _ w1 ⟨rfl,hb1⟩
  dsimp only
  have HB1:=hide hb1
  clear hb1 HTX HER
  go_wp2_with fail
  refine bodyPost_ret (results_tmp2 rfl _ _ _) rfl ?_
  exact ⟨rfl,HBO.out.trans (HB1.out.mono HBO.out.size)⟩
end Go.Proofs.YtncigfibncmioaaGreatDoor
