/-
  PROVED HERE: digest.Compare: the order of the digests' bytes.
-/
import Derived.Lib.BytesEntry
import Derived.Lib.Bytealg
import Derived.Test.YtncigfibncmioaaGreatDoorSmDApp
import Derived.Test.YtncigfibncmioaaGreatDoorSmDelC
import Derived.Test.YtncigfibncmioaaGreatDoorStBegin
import Derived.Test.YtncigfibncmioaaGreatDoorIdxRd
import Derived.Test.YtncigfibncmioaaGreatDoorBsKept
namespace Go.Proofs.YtncigfibncmioaaGreatDoor
set_option maxHeartbeats 1000000
set_option maxRecDepth 100000
open Go.RowKit Go.Shelf Go.Maps Go.Sort Go.Lib
theorem run_cmpD (xs ys:List Nat) (a b:Nat) (ca cb:Nat) (w:World) (ha:w.heap[a]? = some (.cells (cells8 xs) 117 (0,0))) (hb:w.heap[b]? = some (.cells (cells8 ys) 117 (0,0))) :
  (Extern.BytealgCompare.compare #[.slice (some ⟨a,0,none⟩) xs.length ca,.slice (some ⟨b,0,none⟩) ys.length cb]).run Tryz.prog w = .ok (.int .i64 (compareBytes (dB xs).data.toList (dB ys).data.toList)) w:=by
 have one:∀ (zs:List Nat) (g:Nat),w.heap[g]? = some (.cells (cells8 zs) 117 (0,0))→(Extern.Bytes.loadBytes ⟨g,0,none⟩ zs.length .empty).run Tryz.prog w = .ok (dB zs) w:=by
  intro zs g hg
  have h1:=run_loadBytesX (P:=Tryz.prog) w (zs.map fun n=>((n:Nat):Int)) ⟨g,0,none⟩ .empty (fun j x hj=>by
   have e:(⟨g,0,none⟩ : Addr).add j=⟨g,j,none⟩:=by unfold Addr.add;split<;>simp_all
   rw [e,cell_of_row _ _ j _ _ _ hg]
   rw [List.getElem?_map] at hj
   cases hz:zs[j]? with
   | none=>rw [hz] at hj;cases hj
   | some n =>
    rw [hz] at hj
    injection hj with hj
    unfold cells8
    simp [hz,hj])
  rw [List.length_map] at h1
  rw [h1]
  congr 1
  apply ByteArray.ext
  unfold dB bytesOf
  simp
 change Sem.run Tryz.prog (do pure (goInt (Extern.BytealgCompare.cmp (← Extern.Bytes.bytesOf (.slice (some ⟨a,0,none⟩) xs.length ca)) (← Extern.Bytes.bytesOf (.slice (some ⟨b,0,none⟩) ys.length cb))))) w=_
 simp only [Extern.Bytes.bytesOf,Sem.run_bind,Sem.run_pure,Result.andThen,one xs a ha,one ys b hb]
 rw [cmp_eq]
 rfl
theorem bytesCompare_any (xs ys:List Nat) (a b:Nat) (ca cb:Nat) (w:World) (ha:w.heap[a]? = some (.cells (cells8 xs) 117 (0,0))) (hb:w.heap[b]? = some (.cells (cells8 ys) 117 (0,0))) :
  Calls Tryz.prog 162 #[.slice (some ⟨a,0,none⟩) xs.length ca,.slice (some ⟨b,0,none⟩) ys.length cb] w fun e w'=>e = .returned (.int .i64 (compareBytes (dB xs).data.toList (dB ys).data.toList))∧w'=w:=by
 have HR:=hide (run_cmpD xs ys a b ca cb w ha hb)
 clear ha hb
 go_enter Tryz.func162,Tryz.ntmps162
 go_wp2
 rw [run_callFunc_extern Tryz.func210 (by kernel_rfl) (by kernel_rfl) (by kernel_rfl) (e:=Extern.BytealgCompare.compare) (by kernel_rfl),HR.out]
 simp only [Result.andThen]
 rw [Oper.upon_value]
 go_wp2
 go_ret
 exact ⟨rfl,rfl⟩
theorem compareD_any (x y:DV) (w:World):Calls Tryz.prog 106 #[.agg (DV.enc x).toArray,.agg (DV.enc y).toArray] w fun e w'=>e = .returned (.int .i64 (compareBytes (dB x.1).data.toList (dB y.1).data.toList))∧∃ q os',w'=grow (w.drewN q) os':=by
 obtain ⟨X,hX⟩ : ∃ X,X=(w.alloc (.cells (cells8 x.1) 117)).alloc (.cells (cells8 y.1) 117):=⟨_,rfl⟩
 have r1:X.drew.heap[w.heap.size]? = some (.cells (cells8 x.1) 117 (0,0)):=by
  rw [hX]
  show ((w.alloc (.cells (cells8 x.1) 117)).alloc (.cells (cells8 y.1) 117)).heap[w.heap.size]? = _
  rw [Below.heap_alloc _ _ _ (by simp)]
  exact heap_alloc_new _ _
 have r2:X.drew.heap[w.heap.size+1]? = some (.cells (cells8 y.1) 117 (0,0)):=by
  rw [hX]
  have:=heap_alloc_new (w.alloc (.cells (cells8 x.1) 117)) (.cells (cells8 y.1) 117)
  rw [size_alloc] at this
  exact this
 have HBC:=hide (fun ca cb=>bytesCompare_any x.1 y.1 w.heap.size (w.heap.size+1) ca cb X.drew r1 r2)
 rw [x.2.1,y.2.1] at HBC
 have HX:=hide hX
 simp only [DV.enc,Array.toArray_toList]
 clear r1 r2 hX
 go_enter Tryz.func106,Tryz.ntmps106
 go_upto_region 1 with fail
 rw [← HX.out]
 go_region_held3 (fun _=>True) (first|trivial|go_keep) ((first|(go_at_call 162;refine (HBC.out _ _).mono ?_;rintro _ w1 ⟨rfl,rfl⟩)))
 go_wp2_with fail
 go_ret
 exact ⟨rfl,1,_,by rw [HX.out,alloc_eq_grow,alloc_eq_grow,grow_grow];rfl⟩
def DV.key (x:DV):ByteArray:=dB x.1
def DV.cf (x y:DV):Int:=compareBytes (dB x.1).data.toList (dB y.1).data.toList
theorem cmpB_lt:∀ a b:List UInt8,decide (compareBytes a b<0)=Op.bytesLess a b
 | [],[]=>rfl
 | [],_::_=>rfl
 | _::_,[]=>rfl
 | x::a,y::b=>by
  rw [bl_cons]
  unfold compareBytes
  by_cases h1:x<y
  ·simp [h1]
  ·by_cases h2:y<x
   ·simp [h1,h2]
   ·simp only [h1,h2,if_false]
    exact cmpB_lt a b
theorem DV.lt (x y:DV):ltOf DV.cf x y=lessB (DV.key x) (DV.key y):=by
 rw [less_eq]
 exact cmpB_lt _ _
theorem DV.enc_len (x:DV):(DV.enc x).length=32:=by
 unfold DV.enc
 rw [Array.length_toList,cells8_size,x.2.1]
theorem DV.enc_one (x:DV):∀ v∈DV.enc x,v.oneCell'=true:=fun v hv=>Array.all_eq_true_iff_forall_mem.1 (cells8_one x.1) v (by simpa [DV.enc] using hv)
instance:Inhabited DV:=⟨⟨Sha.zeros 32,Sha.zeros_len _,fun i=>by
 have:∀ x∈Sha.zeros 32,x<256:=by decide
 rw [List.getD_eq_getElem?_getD]
 cases h:(Sha.zeros 32)[i]? with
 | none=>decide
 | some x=>exact this x (List.mem_of_getElem? h)⟩⟩
theorem cmpLaysD (blk off size:Nat) (w:World):CmpLays Tryz.prog 106 #[] DV.enc 32 DV.cf blk off size w:=fun _ _ _ _ x y=>compareD_any x y _

theorem sortD_any (B:Nat) (so:Option Addr) (sc:Nat) (l ts:List DV) (w:World) (h:w.ownsRow B 117 32 (.slice so ts.length sc) ts.length (ts.flatMap DV.enc)) (hl:RiseK DV.key l) (hn:ts.Nodup) (hm:∀ x,x∈ts ↔ x∈l) (hsz:ts.length≤1000000000) :
  Calls Tryz.prog 160 #[.slice so ts.length sc,.func (.func 106) #[] #[]] w fun e w'=>e = .returned (.tuple #[])∧w'.ownsRow B 117 32 (.slice so l.length sc) l.length (l.flatMap DV.enc)∧w.grownBy w' (Value.slice so ts.length sc).ownBlock∧l.length=ts.length:=by
 have hlen:l.length=ts.length:=Nat.le_antisymm (nodup_len (riseK_nodup hl) (fun x hx=>(hm x).2 hx)) (nodup_len hn (fun x hx=>(hm x).1 hx))
 have h':=h
 obtain ⟨_,⟨h1,h2⟩|⟨g,cap,cur,h1,hB,hg,_⟩⟩:=h'
 ·injection h1 with h1 h1a h1b
  subst h1
  subst h1b
  have hts:ts = []:=List.length_eq_zero_iff.1 h2
  subst hts
  have hl0:l = []:=List.length_eq_zero_iff.1 hlen
  subst hl0
  exact (sortD_one none 0 0 (by decide) _ w).mono fun e w' ⟨he,hw⟩=>⟨he,by rw [hw];exact h,by rw [hw];exact ⟨rfl,rfl,rfl,Nat.le_refl _,fun _ _ _=>rfl⟩,rfl⟩
 ·injection h1 with h1 h1a h1b
  subst h1
  subst h1b
  have eg:∀ args w,(callFunc 106 args).run Tryz.prog w = .ok (.enter 106 args) w:=enters_of Tryz.func106 (by kernel_rfl) rfl
  have hcon:=AnyQ.slices_SortFunc Tryz.laysSD 32 Tryz.isAgg117 Tryz.sizeOf117 DV.enc DV.enc_len DV.enc_one DV.cf (lessB_swo DV.lt) 106 #[] g 0 sc ts.toArray w eg (cmpLaysD g 0 _ w) (holds_row DV.enc_len (by decide) h) (lt_heap hg) (by simp;omega)
  rw [show ts.toArray.size=ts.length by simp] at hcon
  refine hcon.mono fun e w' ⟨he,d',n,os,hp,hs,hw⟩=>?_
  have hd:=sort_is DV.lt hl hn hm (by simpa using hp) (by simpa using hs)
  have hd':d'=l.toArray:=by rw [← hd]
  subst hd'
  obtain ⟨r1,r2⟩:=row_sorted (n:=n) (os:=os) DV.enc_len (by decide) h hlen
  rw [← hw] at r1 r2
  exact ⟨he,r1,r2,hlen⟩
set_option maxHeartbeats 1000000
set_option maxRecDepth 100000
open Go.RowKit Go.Shelf Go.Sort Go.Lib Go.Maps
theorem sortedFuncD_many (tb nn Bm:Nat) (cl:List (List Nat)) (dl:List DV) (w:World) (h:CM w tb nn (cD cl)) (hm:w.cell? ⟨Bm,0,none⟩=some (.map (some tb))) (hok:∀ d∈cl,DigOk d) (hr:RiseK DV.key dl) (hmem:∀ x,x∈dl ↔ x.1∈cl) (hsz:cl.length≤100000000) :
  Calls Tryz.prog 104 #[.func (.func 161) #[] #[.pointer (some ⟨Bm,0,none⟩)],.func (.func 106) #[] #[]] w fun e w'=>∃ v,e = .returned v∧w'.ownsRow w.heap.size 117 32 v dl.length (dl.flatMap DV.enc)∧Below w.heap.size w w':=by
 have hrk:RiseK dK cl:=mD_rise h dig_keyed
 have hdl:dl.length≤cl.length:=by
  have:=nodup_len (l:=dl.map (·.1)) (m:=cl) (by
   have h1:(dl.map (·.1)).Pairwise (·≠·):=by
    rw [List.pairwise_map]
    exact (riseK_nodup hr).imp fun {a b} hab e=>hab (Subtype.ext e)
   exact h1) (fun x hx=>by
   obtain ⟨y,hy,rfl⟩:=List.mem_map.1 hx
   exact (hmem y).1 hy)
  rwa [List.length_map] at this
 have HC:=hide (callsIn_wide.1 (dcollect_in 8 (by decide) 161 #[.pointer (some ⟨Bm,0,none⟩)] (enters_of Tryz.func161 (by kernel_rfl) rfl) (AllD' cl) cl.length hsz w (keysD_stops Fence.wide 6 trivial rfl (by decide) Bm tb nn cl hok w hm h)))
 have HR:=hide hr
 have HM:=hide hmem
 clear h hm hr hmem hrk hok
 go_enter Tryz.func104,Tryz.ntmps104
 go_wp2_with fail
 refine (HC.out).mono ?_
 rintro _ w1 ⟨v,xs,rfl,hV,hrow,hb⟩
 dsimp only
 obtain ⟨so,sc,rfl⟩:=own_sl hrow
 have hmm:∀ x,x∈xs ↔ x∈dl:=fun x=>(hV.2 x).trans (HM.out x).symm
 have hlen:dl.length=xs.length:=Nat.le_antisymm (nodup_len (riseK_nodup HR.out) (fun x hx=>(hmm x).2 hx)) (nodup_len hV.1 (fun x hx=>(hmm x).1 hx))
 have HSO:=hide (sortD_any w.heap.size so sc dl xs w1 hrow HR.out hV.1 hmm (by omega))
 have HG:=hide (fun k hk=>own_ge hrow k hk)
 have HB:=hide hb
 clear hrow hV hb HC hmm hlen
 go_wp2_with fail
 refine (HSO.out).mono ?_
 rintro _ w2 ⟨rfl,hrow2,hg2,hl2⟩
 dsimp only
 rw [← hl2]
 have HR2:=hide hrow2
 have HB2:=hide (HB.out.grown hg2 HB.out.size (fun k e=>HG.out k e))
 clear hrow2 hg2 hl2 HSO HG HB
 go_wp2_with fail
 go_ret
 exact ⟨_,rfl,HR2.out,HB2.out⟩
theorem digests_any (sb:Nat) (s:PSt) (cb tb nc nt:Nat) (Dt:DataW Value) (cl:List (List Nat)) (dl:List DV) (w:World) (h:StW w sb s cb tb nc nt (cD cl) Dt) (hok:∀ d∈cl,DigOk d) (hr:RiseK DV.key dl) (hmem:∀ x,x∈dl ↔ x.1∈cl) (hsz:cl.length≤100000000) :
  Calls Tryz.prog 65 #[.pointer (some ⟨sb,0,none⟩)] w fun e w'=>∃ v,e = .returned v∧w'.ownsRow w.heap.size 117 32 v dl.length (dl.flatMap DV.enc)∧Below w.heap.size w w':=by
 have HVL:=hide (callsIn_wide.1 (keys_in Fence.wide 3 trivial rfl (some cb) w))
 have c1:=cell_of_row _ _ 1 _ _ _ h.blk
 have H:=hide h.cm
 have hmf:∀ (fn:Fn) (first cap:Array Value) (w:World),(Instr.makeFunc fn first cap).run Tryz.prog w = .ok (.func fn first cap) w:=fun _ _ _ _=>rfl
 have HOK:=hide hok
 have HR:=hide hr
 have HM:=hide hmem
 clear h hok hr hmem
 go_enter Tryz.func65,Tryz.ntmps65
 go_wp2_with fail
 refine (HVL.out).mono ?_
 rintro _ w1 ⟨rfl,hw1⟩
 dsimp only
 have hb1:Below w.heap.size w w1:=by rw [hw1];exact (Below.refl _ _).alloc (Nat.le_refl _) _
 have hx1:w1.heap[w.heap.size]? = some (.cells #[.map (some cb)] 156 (0,0)):=by rw [hw1];exact heap_alloc_new _ _
 have HSF:=hide (sortedFuncD_many cb nc w.heap.size cl dl w1 (owns_same H.out (hb1.block _ H.out.lt)) (cell_of_row _ _ 0 _ _ _ hx1) HOK.out HR.out HM.out hsz)
 have HB1:=hide hb1
 clear hb1 hx1 hw1 HVL
 go_wp2_with fail
 refine (HSF.out).mono ?_
 rintro _ w2 ⟨v,rfl,hrow,hb⟩
 dsimp only
 have HB:=hide hb
 have HRW:=hide hrow
 clear hb hrow HSF
 go_wp2_with fail
 go_ret
 have hz:=HB1.out.size
 exact ⟨_,rfl,HRW.out.mono_base hz,HB1.out.trans (HB.out.mono hz)⟩
set_option maxHeartbeats 2000000
set_option maxRecDepth 100000
open Go.RowKit Go.Shelf Go.Sort Go.Lib Go.Maps
theorem rowD_at {w:World} {B g n sc:Nat} {dl:List DV} (h:w.ownsRow B 117 32 (.slice (some ⟨g,0,none⟩) n sc) dl.length (dl.flatMap DV.enc)) {i:Nat} (hi:i<dl.length):w.rangeAt g (i * 32) (cells8 (dl[i]'hi).1).toList:=by
 obtain ⟨_,⟨h1,_⟩|⟨g',cap',cur,h1,_,hg,_,_,hsz,htk⟩⟩:=h
 ·cases h1
 ·injection h1 with h1 _ h2
  injection h1 with h1
  injection h1 with h1
  subst h1
  intro j v hj
  have hj32:j<32:=by
   have:=(List.getElem?_eq_some_iff.1 hj).1
   rwa [Array.length_toList,cells8_size,(dl[i]'hi).2.1] at this
  rw [cell_of_row _ _ _ _ _ _ hg]
  have hlt:i * 32+j<dl.length * 32:=by
   have:(i+1) * 32≤dl.length * 32:=Nat.mul_le_mul_right _ hi
   omega
  have e1:cur[i * 32+j]? = (dl.flatMap DV.enc)[i * 32+j]?:=by
   rw [← htk,List.getElem?_take,if_pos hlt]
   simp
  rw [e1,flat_at DV.enc 32 DV.enc_len (by decide) dl _ hlt]
  have e2:(i * 32+j) / 32=i:=by omega
  have e3:(i * 32+j) % 32=j:=by omega
  rw [e2,e3,getElem!_pos dl i hi]
  have e4:(DV.enc (dl[i]'hi))[j]? = some v:=hj
  obtain ⟨h5,h6⟩:=List.getElem?_eq_some_iff.1 e4
  rw [getElem!_pos _ j h5,h6]
def idxT (l:List TE) (dl:List DV):Int:=match dl.findIdx? (fun x=>tagd x.1 l) with|some i=>(i:Int)|none => -1
theorem idxD_any (sb:Nat) (s:PSt) (cb tb nc:Nat) (Dc:DataW Value) (l:List TE) (B:Nat) (so:Option Addr) (sc:Nat) (dl:List DV) (w:World) (h:StW w sb s cb tb nc l.length Dc (tD l)) (hok:∀ t∈l,t.Ok) (hrow:w.ownsRow B 117 32 (.slice so dl.length sc) dl.length (dl.flatMap DV.enc)) (hsz:dl.length≤100000000) :
  Calls Tryz.prog 214 #[.slice so dl.length sc,.func (.func 75) #[.pointer (some ⟨sb,0,none⟩)] #[]] w fun e w'=>e = .returned (.int .i64 (idxT l dl))∧Below w.heap.size w w':=by
 have H:=hide h
 have HOK:=hide hok
 have HROW:=hide hrow
 clear h hok hrow
 go_enter Tryz.func214,Tryz.ntmps214
 go_wp2_with fail
 have hgt:0<dl.length→∃ g,so=some ⟨g,0,none⟩:=fun hp=>by
  obtain ⟨_,⟨h1,h2⟩|⟨g,cap,cur,h1,_⟩⟩:=HROW.out
  ·omega
  ·injection h1 with h1
   exact ⟨g,h1⟩
 have HGT:=hide hgt
 clear hgt
 go_loopw [8] (fun iv wr=>∃ (j:Nat),j≤dl.length∧iv = .int .i64 ((j:Nat):Int)∧Below w.heap.size w wr∧(∀ i (hi:i<dl.length),i<j→tagd (dl[i]'hi).1 l=false)) (fun iv _=>dl.length - (intOf iv).toNat)
 case atStart=>exact ⟨0,Nat.zero_le _,rfl,Below.refl _ _,fun i hi h=>by omega⟩
 case round =>
  obtain ⟨j,hj,rfl,hb,hal⟩:=hrel
  have HB:=hide hb
  have HAL:=hide hal
  clear hb hal
  by_cases hlt:j<dl.length
  ·obtain ⟨g,hg⟩:=HGT.out (by omega)
   subst hg
   have hst:=H.out.later HB.out
   have hrr:=rowD_at (ownsRow_later HROW.out HB.out) hlt
   obtain ⟨d,hd⟩ : ∃ d,d=(dl[j]'hlt):=⟨_,rfl⟩
   rw [← hd] at hrr
   have HRR:=hide hrr
   have HIT:=hide (isTagged_any sb s cb tb nc Dc l d.1 wr hst HOK.out d.2.1 d.2.2)
   have HD:=hide hd
   have hdl:=d.2.1
   have d1:decide (((j:Nat):Int)<((dl.length:Nat):Int))=true:=decide_eq_true (by omega)
   clear hst hrr hd
   go_wp2_with (first|(refine wpList_load_mid rfl 117 _ rfl g (j * 32) rfl (cells8 d.1).toList _ HRR.out Tryz.underlying117 rfl (size72 d.1 hdl) ?_))
   refine (HIT.out).mono ?_
   rintro _ w2 ⟨rfl,hb2⟩
   dsimp only
   have HB2:=hide (HB.out.trans (hb2.mono HB.out.size))
   clear hb2 HIT
   cases htt:tagd d.1 l with
   | true =>
    have hix:dl.findIdx? (fun x=>tagd x.1 l)=some j:=by
     rw [List.findIdx?_eq_some_iff_getElem]
     refine ⟨hlt,by rw [← HD.out];exact htt,fun i hi=>?_⟩
     rw [HAL.out i (by omega) hi]
     decide
    have HIX:=hide hix
    clear hix htt
    go_wp2_with fail
    go_ret
    refine ⟨?_,HB2.out⟩
    unfold idxT
    rw [HIX.out]
    rfl
   | false =>
    have HTT:=hide htt
    clear htt
    go_wp2_with fail
    refine ⟨⟨j+1,hlt,by simp,HB2.out,fun i hi hij=>?_⟩,by simp only [intOf];omega⟩
    by_cases hij2:i<j
    ·exact HAL.out i hi hij2
    ·have:i=j:=by omega
     subst this
     rw [← HD.out]
     exact HTT.out
  ·have hjn:j=dl.length:=by omega
   have d1:decide (((j:Nat):Int)<((dl.length:Nat):Int))=false:=decide_eq_false (by omega)
   have HJN:=hide hjn
   clear hjn
   go_wp2_with fail
   go_ret
   refine ⟨?_,HB.out⟩
   have:dl.findIdx? (fun x=>tagd x.1 l)=none:=by
    rw [List.findIdx?_eq_none_iff]
    intro x hx
    obtain ⟨i,hi,rfl⟩:=List.mem_iff_getElem.1 hx
    exact HAL.out i hi (by rw [HJN.out];exact hi)
   unfold idxT
   rw [this]
   rfl
set_option maxHeartbeats 4000000
set_option maxRecDepth 100000
open Go.RowKit Go.Shelf Go.Sort Go.Lib Go.Maps
section
variable {α:Type} {enc:α→List Value} {k:Nat}
theorem flat_take (hk:∀ x,(enc x).length=k):∀ (l:List α) (i:Nat),(l.flatMap enc).take (i * k)=(l.take i).flatMap enc
 | [],i=>by simp
 | x::l,0=>by simp
 | x::l,i+1=>by
  rw [List.flatMap_cons,List.take_succ_cons,List.flatMap_cons,← flat_take hk l i,List.take_append,hk,List.take_of_length_le (by rw [hk,Nat.add_mul];omega)]
  congr 2
  rw [Nat.add_mul]
  omega
theorem flat_drop (hk:∀ x,(enc x).length=k):∀ (l:List α) (i:Nat),(l.flatMap enc).drop (i * k)=(l.drop i).flatMap enc
 | [],i=>by simp
 | x::l,0=>by simp
 | x::l,i+1=>by
  rw [List.flatMap_cons,List.drop_succ_cons,← flat_drop hk l i,List.drop_append,hk,List.drop_of_length_le (by rw [hk,Nat.add_mul];omega),List.nil_append]
  congr 1
  rw [Nat.add_mul]
  omega
end
theorem own_setD {w:World} {B g n sc:Nat} {xs:List DV} (h:w.ownsRow B 117 32 (.slice (some ⟨g,0,none⟩) n sc) n (xs.flatMap DV.enc)) (hn:xs.length=n) {i:Nat} (hi:i<n) (v:DV) :
  (w.setCells g (i * 32) (DV.enc v)).ownsRow B 117 32 (.slice (some ⟨g,0,none⟩) n sc) n ((xs.set i v).flatMap DV.enc)∧w.there g (i * 32) (DV.enc v).length:=by
 obtain ⟨hl,⟨h1,_⟩|⟨g',cap',cur,h1,hB,hg,hc,hcm,hsz,htk⟩⟩:=h
 ·cases h1
 ·injection h1 with h1 _ h2
  injection h1 with h1
  injection h1 with h1
  subst h1
  subst h2
  have hle:(i+1) * 32≤sc * 32:=Nat.mul_le_mul_right _ (by omega)
  have hle2:(i+1) * 32≤n * 32:=Nat.mul_le_mul_right _ hi
  have hlen:=DV.enc_len v
  obtain ⟨cur',r1,r2,r3,r4,r5⟩:=setCells_rowF g 117 (DV.enc v) (i * 32) w cur hg (by rw [hlen,hsz];omega)
  refine ⟨⟨by rw [flat_len DV.enc 32 DV.enc_len,List.length_set,hn],.inr ⟨g,sc,cur',rfl,hB,r1,hc,hcm,by rw [r2,hsz],?_⟩⟩,fun j hj=>?_⟩
  ·refine List.ext_getElem? fun t=>?_
   by_cases ht:t<n * 32
   ·rw [List.getElem?_take,if_pos ht,Array.getElem?_toList,flat_at DV.enc 32 DV.enc_len (by decide) _ t (by rw [List.length_set,hn];exact ht)]
    have hold:cur[t]? = some ((DV.enc xs[t / 32]!)[t % 32]!):=by
     rw [← flat_at DV.enc 32 DV.enc_len (by decide) xs t (by rw [hn];exact ht),← htk,List.getElem?_take,if_pos ht,Array.getElem?_toList]
    have hq:t / 32<xs.length:=by omega
    by_cases hti:t / 32=i
    ·have e1:(xs.set i v)[t / 32]! = v:=by
      rw [getElem!_pos (xs.set i v) (t / 32) (by rw [List.length_set];exact hq)]
      simp [hti]
     rw [e1]
     have e2:i * 32+t % 32=t:=by omega
     have:=r4 (t % 32) (by rw [hlen];omega)
     rw [e2] at this
     rw [this,List.getElem?_eq_getElem (by rw [hlen];omega),getElem!_pos (DV.enc v) (t % 32) (by rw [hlen];omega)]
    ·have e1:(xs.set i v)[t / 32]! = xs[t / 32]! := by
      rw [getElem!_pos (xs.set i v) (t / 32) (by rw [List.length_set];exact hq),getElem!_pos xs (t / 32) hq]
      rw [List.getElem_set_ne (Ne.symm hti)]
     rw [e1,← hold]
     rcases Nat.lt_or_ge t (i * 32) with hlt|hge
     ·exact r3 t hlt
     ·exact r5 t (by rw [hlen];omega)
   ·rw [List.getElem?_eq_none (by rw [List.length_take];exact Nat.le_trans (Nat.min_le_left _ _) (by omega)),List.getElem?_eq_none (by rw [flat_len DV.enc 32 DV.enc_len,List.length_set,hn];omega)]
  ·have hj2:i * 32+j<cur.size:=by rw [hsz];rw [hlen] at hj;omega
   exact ⟨by rw [cell_of_row _ _ _ _ _ _ hg,Array.getElem?_eq_getElem hj2];rfl,frozen_of_row _ _ _ _ _ hg⟩
theorem own_cutD {w:World} {B g n sc:Nat} {xs:List DV} (h:w.ownsRow B 117 32 (.slice (some ⟨g,0,none⟩) n sc) n (xs.flatMap DV.enc)) (hn:xs.length=n) {i:Nat} (hi:i≤n) (zs:List Value) (hz:zs.length=(n - i) * 32) :
  (w.setCells g (i * 32) zs).ownsRow B 117 32 (.slice (some ⟨g,0,none⟩) i sc) i ((xs.take i).flatMap DV.enc)∧w.there g (i * 32) zs.length∧B≤g:=by
 obtain ⟨hl,⟨h1,_⟩|⟨g',cap',cur,h1,hB,hg,hc,hcm,hsz,htk⟩⟩:=h
 ·cases h1
 ·injection h1 with h1 _ h2
  injection h1 with h1
  injection h1 with h1
  subst h1
  subst h2
  have hle:n * 32≤sc * 32:=Nat.mul_le_mul_right _ hc
  have hsum:i * 32+(n - i) * 32=n * 32:=by rw [← Nat.add_mul];congr 1;omega
  obtain ⟨cur',r1,r2,r3,r4,r5⟩:=setCells_rowF g 117 zs (i * 32) w cur hg (by rw [hz,hsz];omega)
  refine ⟨⟨by rw [flat_len DV.enc 32 DV.enc_len,List.length_take,hn,Nat.min_eq_left hi],.inr ⟨g,sc,cur',rfl,hB,r1,by omega,hcm,by rw [r2,hsz],?_⟩⟩,fun j hj=>?_,hB⟩
  ·rw [← flat_take DV.enc_len,← htk]
   refine List.ext_getElem? fun t=>?_
   rw [List.getElem?_take,List.getElem?_take]
   by_cases ht:t<i * 32
   ·rw [if_pos ht,if_pos ht,Array.getElem?_toList,r3 t ht,List.getElem?_take,if_pos (by omega),Array.getElem?_toList]
   ·rw [if_neg ht,if_neg ht]
  ·have hj2:i * 32+j<cur.size:=by rw [hsz];rw [hz] at hj;omega
   exact ⟨by rw [cell_of_row _ _ _ _ _ _ hg,Array.getElem?_eq_getElem hj2];rfl,frozen_of_row _ _ _ _ _ hg⟩
def zD (m:Nat):List Value:=(Builtin.zeroCells (cells8 (Sha.zeros 32)) m).toList
theorem zD_len (m:Nat):(zD m).length=m * 32:=by
 unfold zD Builtin.zeroCells
 simp [cells8_size,Sha.zeros_len]
theorem zD_one (m:Nat):∀ v∈zD m,v.oneCell'=true:=by
 intro v hv
 unfold zD Builtin.zeroCells at hv
 simp only [Array.mem_toList_iff,Array.mem_map] at hv
 obtain ⟨t,_,rfl⟩:=hv
 have hlt:t % (cells8 (Sha.zeros 32)).size<(cells8 (Sha.zeros 32)).size:=Nat.mod_lt _ (by rw [cells8_size,Sha.zeros_len];decide)
 rw [getElem!_pos (cells8 (Sha.zeros 32)) _ hlt]
 exact Array.all_eq_true_iff_forall_mem.1 (cells8_one _) _ (Array.getElem_mem hlt)
theorem run_clearD (w:World) (ty:TypeId) (g i m c:Nat) (hm:0<m) (ht:w.there g (i * 32) (zD m).length) :
  (Builtin.clear_ #[121] ty #[.slice (some ⟨g,i * 32,none⟩) m c]).run Tryz.prog w = .ok (.tuple #[]) (w.setCells g (i * 32) (zD m)):=by
 have hst:=run_storeCells_cells (P:=Tryz.prog) g (i * 32) (zD m) 0 w (fun j hj=>by simpa using (ht j hj).1) (fun j hj=>by simpa using (ht j hj).2) (zD_one m)
 simp only [Nat.add_zero] at hst
 have hzv:=(zero_of_info Tryz.info117).1
 obtain ⟨q,rfl⟩ : ∃ q,m=q+1:=⟨m - 1,by omega⟩
 have e:(Builtin.zeroCells (Value.agg (cells8 (Sha.zeros 32))).cells (q+1)).toList=zD (q+1):=rfl
 simp [Builtin.clear_,run_underlying Tryz.underlying121,hzv,e,hst]
def unT (l:List TE) (dl:List DV):List DV:=dl.filter fun x=>!tagd x.1 l
theorem delD_any (sb:Nat) (s:PSt) (cb tb nc:Nat) (Dc:DataW Value) (l:List TE) (B:Nat) (so:Option Addr) (sc:Nat) (dl:List DV) (w0 w:World) (h0:StW w0 sb s cb tb nc l.length Dc (tD l)) (hb0:Below w0.heap.size w0 w) (hB0:w0.heap.size≤B) (hok:∀ t∈l,t.Ok) (hrow:w.ownsRow B 117 32 (.slice so dl.length sc) dl.length (dl.flatMap DV.enc)) (hsz:dl.length≤100000000) :
  Calls Tryz.prog 170 #[.slice so dl.length sc,.func (.func 75) #[.pointer (some ⟨sb,0,none⟩)] #[]] w fun e w'=>∃ v,e = .returned v∧w'.ownsRow B 117 32 v (unT l dl).length ((unT l dl).flatMap DV.enc)∧Below w0.heap.size w0 w':=by
 have HI:=hide (idxD_any sb s cb tb nc Dc l B so sc dl w (h0.later hb0) hok hrow hsz)
 have H0:=hide h0
 have HOK:=hide hok
 have HROW:=hide hrow
 have HB0:=hide hb0
 clear h0 hok hrow hb0
 cases hix:dl.findIdx? (fun x=>tagd x.1 l) with
 | none =>
  have hq:idxT l dl = -1:=by unfold idxT;rw [hix]
  rw [hq] at HI
  have hun:unT l dl=dl:=by
   unfold unT
   rw [List.filter_eq_self]
   intro x hx
   rw [List.findIdx?_eq_none_iff.1 hix x hx]
   rfl
  rw [hun]
  clear hq hix hun
  go_enter Tryz.func170,Tryz.ntmps170
  go_wp2_with fail
  refine (HI.out).mono ?_
  rintro _ w1 ⟨rfl,hb⟩
  dsimp only
  have HB1:=hide hb
  clear hb HI
  go_wp2_with fail
  go_ret
  exact ⟨_,rfl,ownsRow_later HROW.out HB1.out,HB0.out.trans (HB1.out.mono HB0.out.size)⟩
 | some i0 =>
  have hq:idxT l dl=(i0:Int):=by unfold idxT;rw [hix]
  rw [hq] at HI
  obtain ⟨hi0,htg,hbef⟩:=List.findIdx?_eq_some_iff_getElem.1 hix
  obtain ⟨g,hg⟩ : ∃ g,so=some ⟨g,0,none⟩:=by
   obtain ⟨_,⟨h1,h2⟩|⟨g,cap,cur,h1,_⟩⟩:=HROW.out
   ·omega
   ·injection h1 with h1
    exact ⟨g,h1⟩
  subst hg
  have hstart:dl.take i0=unT l (dl.take (i0+1)):=by
   unfold unT
   rw [List.take_add_one,List.filter_append,List.getElem?_eq_getElem hi0]
   have e1:List.filter (fun x=>!tagd x.1 l) (dl.take i0)=dl.take i0:=by
    rw [List.filter_eq_self]
    intro x hx
    obtain ⟨i,hi,rfl⟩:=List.mem_iff_getElem.1 hx
    rw [List.length_take] at hi
    have:=hbef i (by omega)
    rw [List.getElem_take]
    simpa using this
   rw [e1]
   simp [htg]
  have HST:=hide hstart
  have hn1:((i0:Int) == -1)=false:=by simp
  have hn2:¬ ((i0:Nat):Int) = -1:=by omega
  clear hq hix htg hbef hstart
  go_enter Tryz.func170,Tryz.ntmps170
  go_wp2_with fail
  refine (HI.out).mono ?_
  rintro _ w1 ⟨rfl,hb⟩
  dsimp only
  have HB1:=hide (HB0.out.trans (hb.mono HB0.out.size))
  have HR1:=hide (ownsRow_later HROW.out hb)
  clear hb HI HROW HB0
  go_wp2_with fail
  have hnsc:dl.length≤sc:=by
   obtain ⟨_,⟨h1,h2⟩|⟨g',cap,cur,h1,_,_,hc,_⟩⟩:=HR1.out
   ·cases h1
   ·injection h1 with _ _ h1
    rw [h1];exact hc
  have hscm:sc≤maxLen:=by
   obtain ⟨_,⟨h1,h2⟩|⟨g',cap,cur,h1,_,_,_,hc,_⟩⟩:=HR1.out
   ·cases h1
   ·injection h1 with _ _ h1
    rw [h1];exact hc
  obtain ⟨n,hn⟩ : ∃ n,n=dl.length:=⟨_,rfl⟩
  rw [← hn] at hi0 hsz hnsc HR1 ⊢
  have HN:=hide hn
  clear hn hn1 hn2
  have hz71:=(zero_of_info Tryz.info117).1
  go_loopw [5,6] (fun iv jv wr=>∃ (i j:Nat) (xs:List DV),iv = .int .i64 ((i:Nat):Int)∧jv = .int .i64 ((j:Nat):Int)∧i<j∧j≤n∧xs.length=n∧xs.take i=unT l (dl.take j)∧xs.drop j=dl.drop j∧wr.ownsRow B 117 32 (.slice (some ⟨g,0,none⟩) n sc) n (xs.flatMap DV.enc)∧Below w0.heap.size w0 wr) (fun _ jv _=>n - (intOf jv).toNat)
  case atStart=>exact ⟨i0,i0+1,dl,rfl,by simp,by omega,by omega,HN.out.symm,HST.out,rfl,HR1.out,HB1.out⟩
  case round =>
   obtain ⟨i,j,xs,rfl,rfl,hij,hjn,hxl,htk,hdp,hrw,hbw⟩:=hrel
   have HTK:=hide htk
   have HDP:=hide hdp
   have HRW:=hide hrw
   have HBW:=hide hbw
   have HXL:=hide hxl
   clear htk hdp hrw hbw hxl HR1 HB1 HST
   by_cases hlt:j<n
   ·have hjx:j<xs.length:=by rw [HXL.out];exact hlt
    have hjd:j<dl.length:=by rw [← HN.out];exact hlt
    have hxd:xs[j]'hjx=dl[j]'hjd:=by
     have:=congrArg (fun q=>q[0]?) HDP.out
     simp only [List.getElem?_drop,Nat.add_zero,List.getElem?_eq_getElem hjx,List.getElem?_eq_getElem hjd] at this
     injection this
    have hrr:=rowD_at (by rw [HXL.out];exact HRW.out) hjx
    obtain ⟨d,hd⟩ : ∃ d,d=(xs[j]'hjx):=⟨_,rfl⟩
    rw [← hd] at hrr
    have hdd:d=dl[j]'hjd:=hd.trans hxd
    have HRR:=hide hrr
    have HDD:=hide hdd
    have hdl:=d.2.1
    have d1:decide (((j:Nat):Int)<((n:Nat):Int))=true:=decide_eq_true (by omega)
    obtain ⟨X,hX⟩ : ∃ X,X=wr.alloc (.cells (cells8 d.1) 117):=⟨_,rfl⟩
    have hbX:Below wr.heap.size wr X:=by rw [hX];exact (Below.refl _ _).alloc (Nat.le_refl _) _
    have hXr:X.heap[wr.heap.size]? = some (.cells (cells8 d.1) 117 (0,0)):=by rw [hX];exact heap_alloc_new _ _
    have HXR:=hide hXr
    have HX:=hide hX
    have HBX:=hide (HBW.out.trans (hbX.mono HBW.out.size))
    have HRX:=hide (ownsRow_later HRW.out hbX)
    have HIT:=hide (isTagged_any sb s cb tb nc Dc l d.1 X (H0.out.later HBX.out) HOK.out d.2.1 d.2.2)
    clear hrr hd hxd hdd hX hbX hXr
    go_wp2_with (first|(refine wpList_load_mid rfl 117 _ rfl g (j * 32) rfl (cells8 d.1).toList _ HRR.out Tryz.underlying117 rfl (size72 d.1 hdl) ?_)|(refine wpList_store_row rfl 117 _ _ rfl wr.heap.size _ rfl rfl 117 _ (heap_alloc_new _ _) (size40 _ hdl) (by rw [cells8_size,cells8_size,hdl];rfl) (cells8_one _) ?_;rw [World.setRow_alloc_new,← HX.out])|(refine wpList_load_row rfl 117 _ rfl wr.heap.size rfl 117 _ _ _ HXR.out Tryz.underlying117 rfl (size40 _ hdl) ?_))
    refine (HIT.out).mono ?_
    rintro _ w2 ⟨rfl,hb2⟩
    dsimp only
    have hr2:=ownsRow_later HRX.out hb2
    have hbx2:=HBX.out.trans (hb2.mono HBX.out.size)
    have hxr2:=(hb2.block _ (lt_heap HXR.out)).trans HXR.out
    have HR2:=hide hr2
    have HBX2:=hide hbx2
    have HXR2:=hide hxr2
    obtain ⟨o1,o2⟩:=own_setD hr2 HXL.out (show i<n by omega) d
    have HO1:=hide o1
    have HO2:=hide o2
    have hgB:B≤g:=own_ge hr2 g rfl
    have hdrop:xs.drop (j+1)=dl.drop (j+1):=by
     have:=congrArg (fun q=>q.drop 1) HDP.out
     simpa [List.drop_drop] using this
    have HDR:=hide hdrop
    have htake:dl.take (j+1)=dl.take j ++ [d]:=by
     rw [List.take_add_one,List.getElem?_eq_getElem hjd,HDD.out]
     rfl
    have HTA:=hide htake
    clear hb2 hr2 hbx2 hxr2 o1 o2 hdrop htake HIT
    cases htt:tagd d.1 l with
    | true =>
     have HTT:=hide htt
     clear htt
     go_wp2_with fail
     refine ⟨⟨i,j+1,xs,rfl,by simp,by omega,hlt,HXL.out,?_,HDR.out,HR2.out,HBX2.out⟩,by simp only [intOf];omega⟩
     rw [HTA.out,HTK.out]
     unfold unT
     rw [List.filter_append]
     simp [HTT.out]
    | false =>
     have HTT:=hide htt
     clear htt
     go_wp2_with (first|(refine wpList_load_row rfl 117 _ rfl wr.heap.size rfl 117 _ _ _ HXR2.out Tryz.underlying117 rfl (size40 _ hdl) ?_)|(refine wpList_store_mid rfl 117 _ _ rfl g (i * 32) (cells8 d.1) rfl rfl HO2.out (size40 _ hdl) (cells8_one _) ?_))
     refine ⟨⟨i+1,j+1,xs.set i d,by simp,by simp,by omega,hlt,by rw [List.length_set];exact HXL.out,?_,?_,HO1.out,HBX2.out.trans (below_sets (Nat.le_trans hB0 hgB) _ _ _)⟩,by simp only [intOf];omega⟩
     ·have hix:i<xs.length:=by rw [HXL.out];omega
      rw [List.take_add_one,List.take_set_of_le (Nat.le_refl _),HTK.out,HTA.out]
      unfold unT
      rw [List.filter_append]
      simp [HTT.out,hix]
     ·rw [List.drop_set_of_lt (by omega)]
      exact HDR.out
   ·have d1:decide (((j:Nat):Int)<((n:Nat):Int))=false:=decide_eq_false (by omega)
    have hjn2:j=n:=by omega
    have HJN:=hide hjn2
    obtain ⟨c1,c2,c3⟩:=own_cutD HRW.out HXL.out (show i≤n by omega) (zD (n - i)) (zD_len _)
    have hclr:=fun ty c=>run_clearD wr ty g i (n - i) c (by omega) c2
    have HC1:=hide c1
    have HC3:=hide c3
    clear c1 c2 c3 hjn2
    go_wp2_with fail
    go_ret
    have hu:unT l dl=xs.take i:=by
     rw [HTK.out,HJN.out,HN.out,List.take_length]
    have hl:(xs.take i).length=i:=by rw [List.length_take,HXL.out];omega
    rw [hu,hl]
    exact ⟨_,rfl,HC1.out,HBW.out.trans (below_sets (Nat.le_trans hB0 HC3.out) _ _ _)⟩
end Go.Proofs.YtncigfibncmioaaGreatDoor
namespace Go.Proofs.YtncigfibncmioaaGreatDoor
open Go.RowKit
theorem row_flat {α:Type} {enc:α→List Value} {k:Nat} (hk:∀ x,(enc x).length=k) {w:World} {B:Nat} {e:TypeId} {v:Value} {l:List α} {n:Nat} (h:w.ownsRow B e k v n (l.flatMap enc)) (hn:n=l.length) {i:Nat} (hi:i<l.length):∃ g c,v = .slice (some ⟨g,0,none⟩) n c∧∀ j x,(enc (l[i]'hi))[j]? = some x→w.cell? ⟨g,i * k+j,none⟩=some x:=by
 subst hn
 obtain ⟨_,⟨h1,h2⟩|⟨g,cap,cur,rfl,_,hg,_,_,hsz,htk⟩⟩:=h
 ·omega
 ·refine ⟨g,cap,rfl,fun j x hx=>?_⟩
  have hjk:j<k:=by
   have:=(List.getElem?_eq_some_iff.1 hx).1
   rwa [hk] at this
  have hlt:i * k+j<l.length * k:=by
   have:(i+1) * k≤l.length * k:=Nat.mul_le_mul_right _ hi
   rw [Nat.add_mul] at this
   omega
  rw [cell_of_row _ _ _ _ _ _ hg]
  have e1:cur[i * k+j]? = (l.flatMap enc)[i * k+j]?:=by
   rw [← htk,List.getElem?_take,if_pos hlt]
   simp
  rw [e1,← List.getElem?_drop,flat_drop hk l i,List.drop_eq_getElem_cons hi,List.flatMap_cons,List.getElem?_append_left (by rw [hk];exact hjk)]
  exact hx
end Go.Proofs.YtncigfibncmioaaGreatDoor
namespace Go.Proofs.YtncigfibncmioaaGreatDoor
set_option maxHeartbeats 1000000
set_option maxRecDepth 100000
open Go.RowKit Go.Shelf Go.Sort Go.Lib Go.Maps
theorem untagged_any (sb:Nat) (s:PSt) (cb tb nc:Nat) (l:List TE) (cl:List (List Nat)) (dl:List DV) (w:World) (h:StW w sb s cb tb nc l.length (cD cl) (tD l)) (hokt:∀ t∈l,t.Ok) (hok:∀ d∈cl,DigOk d) (hr:RiseK DV.key dl) (hmem:∀ x,x∈dl ↔ x.1∈cl) (hsz:cl.length≤100000000) (hsd:dl.length≤100000000) :
  Calls Tryz.prog 119 #[.pointer (some ⟨sb,0,none⟩)] w fun e w'=>∃ v,e = .returned v∧w'.ownsRow w.heap.size 117 32 v (unT l dl).length ((unT l dl).flatMap DV.enc)∧Below w.heap.size w w':=by
 have HD:=hide (digests_any sb s cb tb nc l.length (tD l) cl dl w h hok hr hmem hsz)
 have hmf:∀ (fn:Fn) (first cap:Array Value) (w:World),(Instr.makeFunc fn first cap).run Tryz.prog w = .ok (.func fn first cap) w:=fun _ _ _ _=>rfl
 have H:=hide h
 have HOK:=hide hokt
 clear h hokt hok hr hmem
 go_enter Tryz.func119,Tryz.ntmps119
 go_wp2_with fail
 refine (HD.out).mono ?_
 rintro _ w1 ⟨v,rfl,hrow,hb⟩
 dsimp only
 obtain ⟨so,sc,rfl⟩:=own_sl hrow
 have HDL:=hide (delD_any sb s cb tb nc (cD cl) l w.heap.size so sc dl w w1 H.out hb (Nat.le_refl _) HOK.out hrow hsd)
 clear hrow hb HD
 go_wp2_with fail
 refine (HDL.out).mono ?_
 rintro _ w2 ⟨v2,rfl,hrow2,hb2⟩
 dsimp only
 have HR2:=hide hrow2
 have HB2:=hide hb2
 clear hrow2 hb2 HDL
 go_wp2_with fail
 go_ret
 exact ⟨_,rfl,HR2.out,HB2.out⟩
set_option maxHeartbeats 4000000
set_option maxRecDepth 100000
open Go.RowKit
def TE.en (t:TE):En:=⟨t.n,dtx t.d,t.z.toNat⟩
theorem en_cells {t:TE} (h:t.Ok):En.ecells t.en=(ecellsOf t.n t.d t.z).toList:=by
 unfold En.ecells TE.en
 dsimp only
 rw [rd_dtx t.d h.len h.lt,show ((t.z.toNat:Nat):Int)=t.z by have:=h.z0;omega]
theorem en_len (e:En):(En.ecells e).length=34:=by
 unfold En.ecells
 rw [Array.length_toList,ecellsOf_size _ _ _ (rd_len _)]
theorem StW.putT {W W':World} {sb:Nat} {s:PSt} {cb tb nc nt n':Nat} {Dc Dt D':DataW Value} (h:StW W sb s cb tb nc nt Dc Dt) (hg:W.grownBy W' (some tb)) (hc:TM W' tb n' D'):StW W' sb s cb tb nc n' Dc D':=by
 have hne:∀ {k:Nat},k≠tb→k<W.heap.size→W'.heap[k]? = W.heap[k]?:=fun hk hl=>hg.block _ hl (fun e=>hk (by injection e))
 refine ⟨h.inn.same (fun k hk=>hne (fun e=>h.ntb (e ▸ hk)) (h.inn.lt hk)),h.gl.same hg.size (fun k hk=>hne (fun e=>h.gtb (e ▸ hk)) (h.gl.lt hk)),h.low,(hne (fun e=>?_) (lt_heap h.blk)).trans h.blk,owns_same h.cm (hne (fun e=>h.ne e) h.cm.lt),hc,h.ncb,h.ntb,h.gcb,h.gtb,h.gsb,h.ne⟩
 obtain ⟨es,clock,h1,_⟩:=h.tm
 rw [← e,h.blk] at h1
 cases h1
theorem ins_last:∀ {l:List TE} {t:TE},(∀ x∈l,lessB x.n t.n=true)→insK TE.n t l=l ++ [t]
 | [],_,_=>rfl
 | e::l,t,h=>by
  have h1:=h e (by simp)
  unfold insK
  rw [if_neg (less_ne h1),if_neg (by rw [Bool.not_eq_true];cases h2:lessB t.n e.n with
   | false=>rfl
   | true=>have:=less_trans h1 h2;rw [less_irrefl] at this;cases this),ins_last (fun x hx=>h x (by simp [hx]))]
  rfl
theorem take_ins {l:List TE} (hr:RiseT l) {j:Nat} (hj:j<l.length):insK TE.n (l[j]'hj) (l.take j)=l.take (j+1):=by
 rw [List.take_add_one,List.getElem?_eq_getElem hj]
 refine ins_last (fun x hx=>?_)
 obtain ⟨i,hi,rfl⟩:=List.mem_iff_getElem.1 hx
 rw [List.length_take] at hi
 rw [List.getElem_take]
 exact List.pairwise_iff_getElem.1 hr i j (by omega) hj (by omega)
def ctF (l:List DE):List (List Nat):=l.foldl (fun c e=>if dgB e.path then insK dK (dgV e.path) c else c) []
theorem ctF_snoc (l:List DE) (e:DE):ctF (l ++ [e])=if dgB e.path then insK dK (dgV e.path) (ctF l) else ctF l:=by
 unfold ctF
 rw [List.foldl_append]
 rfl
theorem dgV_ok (p:ByteArray):DigOk (dgV p):=by
 refine ⟨dgV_len p,fun i=>?_⟩
 unfold dgV
 split
 ·exact rd_lt _ i
 ·rw [Sha.zeros,List.getD_eq_getElem?_getD,List.getElem?_replicate]
  split<;>simp
set_option linter.unusedSimpArgs false in
theorem load_many (sb:Nat) (s:PSt) (cb tb:Nat) (p t:ByteArray) (c:Nat) (l:List TE) (w:World) (h:StW w sb s cb tb 0 0 (.map []) (.map [])) (hp:p.size≤9223372036854775807) (hrd:rdD s.ds p=some t) (ht:t.size≤2000) (hr:readS t = .ok (l.map TE.en) c) (hok:∀ x∈l,x.Ok) (hrise:RiseT l) (h8:l.length≤8) (hn:s.R.now.length≤1000000) :
  Calls Tryz.prog 140 #[.pointer (some ⟨sb,0,none⟩),.string p] w fun e w'=>e = .returned (.tuple #[])∧SGo (fun k=>k=cb∨k=tb) s s w w'∧∃ nc,nc≤1000000∧StW w' sb s cb tb nc l.length (cD (ctF s.R.now)) (tD l):=by
 have HRD:=hide (dkRead s p w h.inn hp)
 rw [hrd] at HRD
 dsimp only [Option.getD,Option.isSome] at HRD
 have HR:=hide hr
 have HOK:=hide hok
 have HRS:=hide hrise
 have H:=hide h
 have c0:=cell_of_row _ _ 0 _ _ _ h.blk
 have hz4:=(zero_of_info Tryz.info117).1
 have hz5:=(zero_of_info Tryz.info71b).1
 clear h hr hok hrise hrd
 go_enter Tryz.func140,Tryz.ntmps140
 go_wp2_with fail
 refine (HRD.out).mono ?_
 rintro _ w1 ⟨v,k,rfl, -, -,hg1,hi1⟩
 dsimp only
 have hgo1:PGo s s w w1:=⟨rfl,hi1,hg1,fun k hk=>.inl hk⟩
 have HG1:=hide (SGo.of_go (S:=fun k=>k=cb∨k=tb) hgo1)
 have HS1:=hide (H.out.go hgo1)
 have HRI:=hide (fun W=>readI_core t W ht)
 clear hgo1 hg1 hi1 HRD c0
 go_wp2_with fail
 refine (HRI.out _).mono ?_
 rintro e2 w2 ⟨hb2,he2⟩
 have he3:∃ oa cap,e2 = .returned (.slice oa l.length cap)∧w2.ownsRow w1.heap.size 193 34 (.slice oa l.length cap) l.length ((l.map TE.en).flatMap En.ecells):=by
  rcases he2 with ⟨es,c',v',h1,h2,h3, -⟩|⟨pp,h1, -⟩
  ·rw [HR.out] at h1
   injection h1 with h1
   subst h1
   rw [List.length_map] at h3
   obtain ⟨oa,cap,h4⟩:=own_sl h3
   exact ⟨oa,cap,by rw [h2,h4],by rw [h4] at h3;exact h3⟩
  ·rw [HR.out] at h1
   cases h1
 obtain ⟨oa,cap,rfl,hrow⟩:=he3
 clear he2
 dsimp only
 have HG2:=hide (HG1.out.trans (SGo.of_below hb2))
 have HS2:=hide (HS1.out.later hb2)
 have HROW:=hide hrow
 have hw2:w1.heap.size≤w2.heap.size:=hb2.size
 have HB:=hide (show ∀ k,s.own k∨k=sb∨k=cb∨k=tb→k<w1.heap.size from fun k hk=>by
  rcases hk with e|e|e|e
  ·exact HS1.out.inn.lt e
  ·rw [e];exact lt_heap HS1.out.blk
  ·rw [e];exact HS1.out.cm.lt
  ·rw [e];exact HS1.out.tm.lt)
 obtain ⟨q,hq⟩ : ∃ q,q=l.length:=⟨_,rfl⟩
 rw [← hq] at h8 ⊢
 rw [← hq] at HROW
 have HQ:=hide hq
 clear hb2 hrow HRI HR HG1 hq
 go_wp2_with fail
 go_loopw [24] (fun iv wr=>∃ (j:Nat),j≤q∧iv = .int .i64 ((j:Nat):Int)∧SGo (fun k=>k=cb∨k=tb) s s w wr∧StW wr sb s cb tb 0 j (.map []) (tD (l.take j))∧wr.ownsRow w1.heap.size 193 34 (.slice oa q cap) q ((l.map TE.en).flatMap En.ecells)∧w1.heap.size≤wr.heap.size) (fun iv _=>q - (intOf iv).toNat)
 case atStart=>exact ⟨0,Nat.zero_le _,rfl,HG2.out,HS2.out,HROW.out,hw2⟩
 case round =>
  obtain ⟨j,hj,rfl,hgo,hst,hrw,hzr⟩:=hrel
  have HGO:=hide hgo
  have HST:=hide hst
  have HRW:=hide hrw
  clear hgo hst
  by_cases hlt:j<q
  ·have hjl:j<l.length:=by rw [← HQ.out];exact hlt
   have hjm:j<(l.map TE.en).length:=by rw [List.length_map];exact hjl
   obtain ⟨g,c1,e1,hc⟩:=row_flat (enc:=En.ecells) (k:=34) en_len hrw (by rw [List.length_map];exact HQ.out) hjm
   injection e1 with e1 _ ec
   subst e1
   subst ec
   rw [List.getElem_map,en_cells (HOK.out _ (List.getElem_mem hjl))] at hc
   have HTK:=hide (take_ins HRS.out hjl)
   have hto:=HOK.out _ (List.getElem_mem hjl)
   generalize l[j]'hjl=t at hc HTK hto
   have hr0:wr.rangeAt g (j * 34) (ecellsOf t.n t.d t.z).toList:=fun i x hx=>hc i x hx
   have HR0:=hide hr0
   have hdl:=hto.len
   obtain ⟨X,hX⟩ : ∃ X,X=wr.alloc (.cells (ecellsOf t.n t.d t.z) 193):=⟨_,rfl⟩
   have hbo:Below wr.heap.size wr X:=by rw [hX];exact (Below.refl _ _).alloc (Nat.le_refl _) _
   have hrx:X.heap[wr.heap.size]? = some (.cells (ecellsOf t.n t.d t.z) 193 (0,0)):=by rw [hX];exact heap_alloc_new _ _
   have HX:=hide hX
   have HBO:=hide hbo
   have HRX:=hide hrx
   have d1:decide (((j:Nat):Int)<((q:Nat):Int))=true:=decide_eq_true (by omega)
   have HTO:=hide hto
   clear hX hbo hrx hc hrw hr0 hjl hjm hto
   go_wp2_with (first|(refine wpList_load_mid rfl 193 _ rfl g (j * 34) rfl (ecellsOf t.n t.d t.z).toList _ HR0.out Tryz.underlying193 rfl (by rw [Array.length_toList];exact size71 _ _ _ hdl) ?_)|(refine wpList_store_row rfl 193 _ _ rfl wr.heap.size _ rfl rfl 193 _ (heap_alloc_new _ _) (size71 _ _ _ hdl) (by rw [ecellsOf_size _ _ _ hdl,ecellsOf_size _ _ _ (Sha.zeros_len _)]) (Array.all_eq_true_iff_forall_mem.2 fun u hu=>ecellsOf_one _ _ _ u (by simpa using hu)) ?_;rw [World.setRow_alloc_new,← HX.out]))
   obtain ⟨yb,hyb⟩ : ∃ yb,yb=wr.heap.size:=⟨_,rfl⟩
   rw [← hyb] at HRX ⊢
   have HYB:=hide hyb
   clear hyb
   have hdr:Below X.heap.size X X.drew:=(Below.refl _ _).drew
   have h6:=(HST.out.later HBO.out).later hdr
   have hr6:=(hdr.block _ (lt_heap HRX.out)).trans HRX.out
   obtain ⟨w6,hrun,hm6,hg6⟩:=World.ownsMap.update h6.tm str_keyed Tryz.underlying157 (by unfold maxLen;omega) (key_str t.n (by have:=HTO.out.n;omega)) (show heldR (.agg (ecellsOf t.n t.d t.z))=some (.held (.agg (ecellsOf t.n t.d t.z)),[]) from rfl)
   have hr7:=(hg6.block _ (lt_heap hr6) (fun e=>by
    injection e with e
    obtain ⟨es,clock,h1,_⟩:=h6.tm
    rw [← e,hr6] at h1
    cases h1)).trans hr6
   have h7:=h6.putT hg6 hm6
   have hS0:X.drew.cell? ⟨sb,2,none⟩=some (.map (some tb))∧X.drew.cell? ⟨yb,0,none⟩=some (.string t.n)∧X.drew.rangeAt yb 0 (ecellsOf t.n t.d t.z).toList:=⟨cell_of_row _ _ 2 _ _ _ h6.blk,cell_of_row _ _ 0 _ _ _ hr6,fun i x hx=>by rw [cell_of_row _ _ (0+i) _ _ _ hr6,Nat.zero_add];simpa using hx⟩
   have hS6:w6.cell? ⟨sb,2,none⟩=some (.map (some tb))∧w6.cell? ⟨yb,0,none⟩=some (.string t.n)∧w6.rangeAt yb 0 (ecellsOf t.n t.d t.z).toList:=⟨cell_of_row _ _ 2 _ _ _ h7.blk,cell_of_row _ _ 0 _ _ _ hr7,fun i x hx=>by rw [cell_of_row _ _ (0+i) _ _ _ hr7,Nat.zero_add];simpa using hx⟩
   have u71:=Tryz.underlying193
   have i71:(Tryz.prog.info? 193).map (·.size)=some (ecellsOf t.n t.d t.z).toList.length:=by rw [Array.length_toList];exact size71 _ _ _ hdl
   have hgo6:SGo (fun k=>k=cb∨k=tb) s s w w6:=((HGO.out.trans (SGo.of_below HBO.out)).trans (SGo.of_below hdr)).trans (SGo.of_grown hg6 (fun r e=>by injection e with e;exact .inr e.symm))
   have hrw6:w6.ownsRow w1.heap.size 193 34 (.slice (some ⟨g,0,none⟩) q cap) q ((l.map TE.en).flatMap En.ecells):=own_same (ownsRow_later (ownsRow_later HRW.out HBO.out) hdr) (fun k hk hl=>hg6.block k hl (fun e=>by
    injection e with e
    have h1:=own_ge HRW.out k hk
    have h2:=HB.out k (.inr (.inr (.inr e)))
    omega))
   have hz6:w1.heap.size≤w6.heap.size:=by have:=HBO.out.size;have:=hdr.size;have:=hg6.size;omega
   have hst6:StW w6 sb s cb tb 0 (j+1) (.map []) (tD (l.take (j+1))):=by
    have e9:(tD (l.take j)).put (.string t.n.data.toList) (.held (.agg (ecellsOf t.n t.d t.z)))=tD (l.take (j+1)):=by
     rw [← HTK.out]
     exact mD_put (key:=TE.n) (val:=TE.v) t (l.take j) (List.Pairwise.sublist (List.take_sublist _ _) HRS.out)
    rw [← e9]
    exact h7
   have HG6:=hide hgo6
   have HW6:=hide hrw6
   have HS6:=hide hst6
   clear h6 hm6 hg6 hr6 hr7 h7 hgo6 hrw6 hst6 hdr
   generalize hE:ecellsOf t.n t.d t.z=E at *
   generalize t.n=N1 at *
   clear hE
   (try dsimp only [Act.put])
   refine wp_region_noPanic ?_
   refine wp_region_held_drew (S:=fun w'=>w'.cell? ⟨sb,2,none⟩=some (.map (some tb))∧w'.cell? ⟨yb,0,none⟩=some (.string N1)∧w'.rangeAt yb 0 E.toList) (by kernel_rfl) hS0 (fun hHeld=>?_)
   refine wpAnyH_take (i:=0) (v:=.pointer (some ⟨sb,0,none⟩)) rfl (by kernel_rfl) (by kernel_rfl) (by kernel_rfl) (fun _ _ _ h=>h) (Or.inl ⟨by rfl,fun _ _=>rfl⟩) (by assumption) ?_
   simp only [Act.put,List.setIfInBounds_toArray,List.set_cons_zero,List.set_cons_succ]
   refine wpAnyH_take (i:=1) (v:=.pointer (some ⟨sb,0,none⟩)) rfl (by kernel_rfl) (by kernel_rfl) (by kernel_rfl) (fun _ _ _ h=>h) (Or.inl ⟨by rfl,fun _ _=>rfl⟩) (by assumption) ?_
   simp only [Act.put,List.setIfInBounds_toArray,List.set_cons_zero,List.set_cons_succ]
   refine wpAnyH_take (i:=2) (v:=.pointer (some ⟨sb,2,none⟩)) rfl (by kernel_rfl) (by kernel_rfl) (by kernel_rfl) (fun _ _ _ h=>h) (Or.inl ⟨by rfl,fun _ _=>rfl⟩) (by assumption) ?_
   simp only [Act.put,List.setIfInBounds_toArray,List.set_cons_zero,List.set_cons_succ]
   refine wpAnyH_take (i:=3) (v:=.map (some tb)) rfl (by kernel_rfl) (by kernel_rfl) (by kernel_rfl) (fun _ _ _ h=>h) (Or.inl ⟨by rfl,fun wq hSw=>by have c2:=hSw.1;go_simp⟩) (by assumption) ?_
   simp only [Act.put,List.setIfInBounds_toArray,List.set_cons_zero,List.set_cons_succ]
   refine wpAnyH_take (i:=4) (v:=.pointer (some ⟨yb,0,none⟩)) rfl (by kernel_rfl) (by kernel_rfl) (by kernel_rfl) (fun _ _ _ h=>h) (Or.inl ⟨by rfl,fun _ _=>rfl⟩) (by assumption) ?_
   simp only [Act.put,List.setIfInBounds_toArray,List.set_cons_zero,List.set_cons_succ]
   refine wpAnyH_take (i:=5) (v:=.string N1) rfl (by kernel_rfl) (by kernel_rfl) (by kernel_rfl) (fun _ _ _ h=>h) (Or.inl ⟨by rfl,fun wq hSw=>by have c2:=hSw.2.1;go_simp⟩) (by assumption) ?_
   simp only [Act.put,List.setIfInBounds_toArray,List.set_cons_zero,List.set_cons_succ]
   refine wpAnyH_take (i:=6) (v:=.agg E.toList.toArray) rfl (by kernel_rfl) (by kernel_rfl) (by kernel_rfl) (fun _ _ _ h=>h) (yieldsIf_load_mid (by rfl) _ _ rfl yb 0 rfl E.toList _ (fun w h=>h.2.2) u71 rfl i71) (by assumption) ?_
   simp only [Act.put,List.setIfInBounds_toArray,List.set_cons_zero,List.set_cons_succ]
   rw [show E.toList.toArray=E by simp]
   refine wpAnyH_ready (rs:=[7]) (by kernel_rfl) (by simp) ?_
   refine AllReadyH.cons rfl (fun K hK=>?_) AllReadyH.nil
   go_simp
   refine hK _ _ hS6 (fun hHeld=>?_)
   refine wpAnyH_done (by kernel_rfl) ?_ _
   refine NoPanic.normal ?_
   clear hrun hS0 hS6 u71 i71
   go_wp2_with fail
   exact ⟨⟨j+1,hlt,by simp,HG6.out,HS6.out,HW6.out,hz6⟩,by simp only [intOf];omega⟩
  ·have d1:decide (((j:Nat):Int)<((q:Nat):Int))=false:=decide_eq_false (by omega)
   have hjn:j=q:=by omega
   subst hjn
   have htl:l.take j=l:=List.take_of_length_le (by rw [← HQ.out];exact Nat.le_refl _)
   rw [htl] at HST
   have c2:=cell_of_row _ _ 0 _ _ _ HST.out.blk
   have HLS:=hide (plist_any s.b s.R s.mb s.lb s.cv _ HST.out.inn.is (by omega))
   have hwr:=hzr
   clear hrw htl HRW
   go_wp2_with fail
   refine (HLS.out).mono ?_
   rintro _ w3 ⟨v3,rfl,hrow,hb3⟩
   dsimp only
   obtain ⟨ov,cp,hv⟩:=own_sl hrow
   subst hv
   have HROW3:=hide hrow
   have HG3:=hide (HGO.out.trans (SGo.of_below hb3))
   have HS3:=hide (HST.out.later hb3)
   have hz3:wr.heap.size≤w3.heap.size:=hb3.size
   obtain ⟨n,hnl⟩ : ∃ n,n=s.R.now.length:=⟨_,rfl⟩
   rw [← hnl] at hn ⊢
   have HNL:=hide hnl
   obtain ⟨W0,hW0⟩ : ∃ W0,W0=wr.heap.size:=⟨_,rfl⟩
   rw [← hW0] at HROW3
   have HB0:=hide (show ∀ k,s.own k∨k=sb∨k=cb∨k=tb→k<W0 from fun k hk=>by have:=HB.out k hk;omega)
   have hz30:W0≤w3.heap.size:=by omega
   clear hrow hb3 HLS c2 hnl hW0 hz3 HGO HST
   go_wp2_with fail
   go_loopw [42] (fun iv wx=>∃ (i nc:Nat),i≤n∧nc≤i∧iv = .int .i64 ((i:Nat):Int)∧SGo (fun k=>k=cb∨k=tb) s s w wx∧StW wx sb s cb tb nc j (cD (ctF (s.R.now.take i))) (tD l)∧wx.ownsRow W0 9 1 (.slice ov n cp) n (pathVs s.R.now)∧W0≤wx.heap.size) (fun iv _=>n - (intOf iv).toNat)
   case atStart =>
    refine ⟨0,0,Nat.zero_le _,Nat.le_refl _,rfl,HG3.out,HS3.out,?_,hz30⟩
    have:=HROW3.out
    rw [← HNL.out] at this
    exact this
   case round =>
    obtain ⟨i,nc,hi,hnc,rfl,hgo,hst,hrw,hzr2⟩:=hrel
    have HGO:=hide hgo
    have HST:=hide hst
    have HRW:=hide hrw
    clear hgo hst
    by_cases hli:i<n
    ·have hil:i<s.R.now.length:=by rw [← HNL.out];exact hli
     have hrw2:wr.ownsRow W0 9 1 (.slice ov n cp) s.R.now.length (pathVs s.R.now):=by rw [← HNL.out];exact hrw
     obtain ⟨o2,cap2,e2,hcells⟩:=own_str hrw2
     obtain ⟨g,rfl,hc⟩:=hcells i hil
     injection e2 with e2 e3 e4
     subst e2
     have htk:s.R.now.take (i+1)=s.R.now.take i ++ [s.R.now.getD i DE0]:=by
      rw [List.take_add_one,List.getElem?_eq_getElem hil,List.getD_eq_getElem?_getD,List.getElem?_eq_getElem hil]
      rfl
     have HCT:=hide (show ctF (s.R.now.take (i+1))=if dgB (s.R.now.getD i DE0).path then insK dK (dgV (s.R.now.getD i DE0).path) (ctF (s.R.now.take i)) else ctF (s.R.now.take i) by rw [htk];exact ctF_snoc _ _)
     generalize hC2:ctF (s.R.now.take (i+1))=C2 at HCT
     have HC2:=hide hC2
     clear hC2
     generalize ctF (s.R.now.take i)=C1 at HCT HST
     generalize (s.R.now.getD i DE0).path=pp at hc HCT
     have HDG:=hide (digestAt_any pp wr)
     have hdl:=dgV_len pp
     have hdo:=dgV_ok pp
     generalize dgV pp=ds at HCT HDG hdl hdo
     have d2:decide (((i:Nat):Int)<((n:Nat):Int))=true:=decide_eq_true (by omega)
     clear hrw hrw2 hcells e3 e4 htk hil
     go_wp2_with fail
     refine (HDG.out).mono ?_
     rintro _ w4 ⟨rfl,hb4⟩
     dsimp only
     have hbx:Below wr.heap.size wr (w4.alloc (.cells (cells8 ds) 117)):=hb4.alloc hb4.size _
     obtain ⟨X,hX⟩ : ∃ X,X=w4.alloc (.cells (cells8 ds) 117):=⟨_,rfl⟩
     have hrx:X.heap[w4.heap.size]? = some (.cells (cells8 ds) 117 (0,0)):=by rw [hX];exact heap_alloc_new _ _
     rw [← hX] at hbx
     have HX:=hide hX
     have HRX:=hide hrx
     have HG5:=hide (HGO.out.trans (SGo.of_below hbx))
     have HS5:=hide (HST.out.later hbx)
     have HW5:=hide (ownsRow_later HRW.out hbx)
     have hz5:W0≤X.heap.size:=Nat.le_trans hzr2 hbx.size
     clear hX hbx hrx hb4 HDG hc
     cases hdg:dgB pp with
     | false =>
      rw [hdg] at HCT
      have hc9:C2=C1:=HCT.out
      subst hc9
      go_wp2_with (refine wpList_store_row rfl 117 _ _ rfl w4.heap.size _ rfl rfl 117 _ (heap_alloc_new _ _) (size40 _ hdl) (by rw [cells8_size,cells8_size,hdl,Sha.zeros_len]) (cells8_one _) ?_;rw [World.setRow_alloc_new,← HX.out])
      exact ⟨⟨i+1,nc,by omega,by omega,by simp,HG5.out,by rw [HC2.out];exact HS5.out,HW5.out,hz5⟩,by simp only [intOf];omega⟩
     | true =>
      rw [hdg] at HCT
      have hc9:C2=insK dK ds C1:=HCT.out
      subst hc9
      go_wp2_with (refine wpList_store_row rfl 117 _ _ rfl w4.heap.size _ rfl rfl 117 _ (heap_alloc_new _ _) (size40 _ hdl) (by rw [cells8_size,cells8_size,hdl,Sha.zeros_len]) (cells8_one _) ?_;rw [World.setRow_alloc_new,← HX.out])
      have hdr:Below X.heap.size X X.drew:=(Below.refl _ _).drew
      have h6:=HS5.out.later hdr
      have hr6:=(hdr.block _ (lt_heap HRX.out)).trans HRX.out
      obtain ⟨w6,hrun,hm6,hg6⟩:=World.ownsMap.update h6.cm dig_keyed Tryz.underlying156 (by unfold maxLen;omega) (key_dig ds hdo.1 hdo.2) (show heldR (.agg #[])=some (.held (.agg #[]),[]) from rfl)
      have h7:=h6.putC hg6 hm6
      have hr7:=(hg6.block _ (lt_heap hr6) (fun e=>by
       injection e with e
       obtain ⟨es,clock,h1,_⟩:=h6.cm
       rw [← e,hr6] at h1
       cases h1)).trans hr6
      obtain ⟨yb,hyb⟩ : ∃ yb,yb=w4.heap.size:=⟨_,rfl⟩
      rw [← hyb] at hr6 hr7 ⊢
      have hS0:X.drew.cell? ⟨sb,1,none⟩=some (.map (some cb))∧X.drew.rangeAt yb 0 (cells8 ds).toList:=⟨cell_of_row _ _ 1 _ _ _ h6.blk,con_r hr6⟩
      have hS6:w6.cell? ⟨sb,1,none⟩=some (.map (some cb))∧w6.rangeAt yb 0 (cells8 ds).toList:=⟨cell_of_row _ _ 1 _ _ _ h7.blk,con_r hr7⟩
      have hbu:∀ w,(Instr.build 100 #[]).run Tryz.prog w = .ok (.agg #[]) w:=fun w=>by kernel_rfl
      have u72:=Tryz.underlying117
      have i72:=size72 ds hdl
      have HG6:=hide (((HG5.out.trans (SGo.of_below hdr))).trans (SGo.of_grown hg6 (fun r e=>by injection e with e;exact .inl e.symm)))
      have HS6:=hide (show StW w6 sb s cb tb (nc+1) j (cD (insK dK ds C1)) (tD l) by
       have hrk:RiseK dK C1:=mD_rise h6.cm dig_keyed
       have e9:(cD C1).put (dKey ds) (.held (.agg #[]))=cD (insK dK ds C1):=by
        rw [dKey_eq]
        exact mD_put (key:=dK) (val:=fun _=>.agg #[]) ds C1 hrk
       rw [← e9]
       exact h7)
      have HW6:=hide (show w6.ownsRow W0 9 1 (.slice (some ⟨g,0,none⟩) n cp) n (pathVs s.R.now) from own_same (ownsRow_later HW5.out hdr) (fun k hk hl=>hg6.block k hl (fun e=>by
       injection e with e
       have h1:=own_ge HW5.out k hk
       have h2:=HB0.out k (.inr (.inr (.inl e)))
       omega)))
      have hz6:W0≤w6.heap.size:=by have:=hdr.size;have:=hg6.size;omega
      clear h6 hm6 hg6 hr6 hr7 h7 hdr hyb
      go_region_held3 (fun w'=>w'.cell? ⟨sb,1,none⟩=some (.map (some cb))∧w'.rangeAt yb 0 (cells8 ds).toList) (first|exact hS0|exact hS6|go_keep) (fail)
      clear hrun hbu u72 i72 hS0 hS6
      go_wp2_with fail
      exact ⟨⟨i+1,nc+1,by omega,by omega,by simp,HG6.out,by rw [HC2.out];exact HS6.out,HW6.out,hz6⟩,by simp only [intOf];omega⟩
    ·have d2:decide (((i:Nat):Int)<((n:Nat):Int))=false:=decide_eq_false (by omega)
     have hin:i=n:=by omega
     subst hin
     have htl:s.R.now.take i=s.R.now:=List.take_of_length_le (by rw [← HNL.out];exact Nat.le_refl _)
     rw [htl] at HST
     clear hrw htl
     go_wp2_with fail
     go_end0
     exact ⟨rfl,HGO.out,nc,by omega,by rw [← HQ.out];exact HST.out⟩
end Go.Proofs.YtncigfibncmioaaGreatDoor
