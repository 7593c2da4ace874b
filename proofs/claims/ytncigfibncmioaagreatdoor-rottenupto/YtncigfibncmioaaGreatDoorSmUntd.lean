/-
  PROVED HERE: digest.Compare: the order of the digests' bytes.
-/
import Derived.Lib.BytesEntry
import Derived.Lib.Bytealg
import Derived.Test.YtncigfibncmioaaGreatDoorSmDApp
import Derived.Test.YtncigfibncmioaaGreatDoorSmPub
import Derived.Test.YtncigfibncmioaaGreatDoorBmUntag
import Derived.Test.YtncigfibncmioaaGreatDoorErPub
namespace Go.Proofs.YtncigfibncmioaaGreatDoor
set_option maxHeartbeats 1000000
set_option maxRecDepth 100000
open Go.RowKit Go.Shelf Go.Maps Go.Sort Go.Lib
theorem run_cmpD (xs ys:List Nat) (a b:Nat) (ca cb:Nat) (w:World) (ha:w.heap[a]? = some (.cells (cells8 xs) 117 (0,0))) (hb:w.heap[b]? = some (.cells (cells8 ys) 117 (0,0))) :
  (Extern.BytealgCompare.compare #[.slice (some ⟨a,0,none⟩) xs.length ca,.slice (some ⟨b,0,none⟩) ys.length cb]).run Tryz.prog w = .ok (.int .i64 (compareBytes (dB xs).data.toList (dB ys).data.toList)) w:=by
 have one:∀ (zs:List Nat) (g:Nat),w.heap[g]? = some (.cells (cells8 zs) 117 (0,0)) → (Extern.Bytes.loadBytes ⟨g,0,none⟩ zs.length .empty).run Tryz.prog w = .ok (dB zs) w:=by
  intro zs g hg
  have h1:=run_loadBytesX (P:=Tryz.prog) w (zs.map fun n=>((n:Nat):Int)) ⟨g,0,none⟩ .empty (fun j x hj=>by
   have e:(⟨g,0,none⟩ : Addr).add j = ⟨g,j,none⟩:=by unfold Addr.add;split <;> simp_all
   rw [e,cell_of_row _ _ j _ _ _ hg]
   rw [List.getElem?_map] at hj
   cases hz:zs[j]? with
   | none=>rw [hz] at hj;cases hj
   | some n =>
    rw [hz] at hj
    injection hj with hj
    unfold cells8
    simp [hz,hj])
  rw [List.length_map] at h1
  rw [h1]
  congr 1
  apply ByteArray.ext
  unfold dB bytesOf
  simp
 change Sem.run Tryz.prog (do pure (goInt (Extern.BytealgCompare.cmp (← Extern.Bytes.bytesOf (.slice (some ⟨a,0,none⟩) xs.length ca)) (← Extern.Bytes.bytesOf (.slice (some ⟨b,0,none⟩) ys.length cb))))) w = _
 simp only [Extern.Bytes.bytesOf,Sem.run_bind,Sem.run_pure,Result.andThen,one xs a ha,one ys b hb]
 rw [cmp_eq]
 rfl
theorem bytesCompare_any (xs ys:List Nat) (a b:Nat) (ca cb:Nat) (w:World) (ha:w.heap[a]? = some (.cells (cells8 xs) 117 (0,0))) (hb:w.heap[b]? = some (.cells (cells8 ys) 117 (0,0))) :
  Calls Tryz.prog 162 #[.slice (some ⟨a,0,none⟩) xs.length ca,.slice (some ⟨b,0,none⟩) ys.length cb] w fun e w'=>e = .returned (.int .i64 (compareBytes (dB xs).data.toList (dB ys).data.toList)) ∧ w' = w:=by
 have HR:=hide (run_cmpD xs ys a b ca cb w ha hb)
 clear ha hb
 go_enter Tryz.func162,Tryz.ntmps162
 go_wp2
 rw [run_callFunc_extern Tryz.func210 (by kernel_rfl) (by kernel_rfl) (by kernel_rfl) (e:=Extern.BytealgCompare.compare) (by kernel_rfl),HR.out]
 simp only [Result.andThen]
 rw [Oper.upon_value]
 go_wp2
 go_ret
 exact ⟨rfl,rfl⟩
theorem compareD_any (x y:DV) (w:World):Calls Tryz.prog 106 #[.agg (DV.enc x).toArray,.agg (DV.enc y).toArray] w fun e w'=>e = .returned (.int .i64 (compareBytes (dB x.1).data.toList (dB y.1).data.toList)) ∧ ∃ q os',w' = grow (w.drewN q) os':=by
 obtain ⟨X,hX⟩ : ∃ X,X = (w.alloc (.cells (cells8 x.1) 117)).alloc (.cells (cells8 y.1) 117):=⟨_,rfl⟩
 have r1:X.drew.heap[w.heap.size]? = some (.cells (cells8 x.1) 117 (0,0)):=by
  rw [hX]
  show ((w.alloc (.cells (cells8 x.1) 117)).alloc (.cells (cells8 y.1) 117)).heap[w.heap.size]? = _
  rw [Below.heap_alloc _ _ _ (by simp)]
  exact heap_alloc_new _ _
 have r2:X.drew.heap[w.heap.size + 1]? = some (.cells (cells8 y.1) 117 (0,0)):=by
  rw [hX]
  have:=heap_alloc_new (w.alloc (.cells (cells8 x.1) 117)) (.cells (cells8 y.1) 117)
  rw [size_alloc] at this
  exact this
 have HBC:=hide (fun ca cb=>bytesCompare_any x.1 y.1 w.heap.size (w.heap.size + 1) ca cb X.drew r1 r2)
 rw [x.2.1,y.2.1] at HBC
 have HX:=hide hX
 simp only [DV.enc,Array.toArray_toList]
 clear r1 r2 hX
 go_enter Tryz.func106,Tryz.ntmps106
 go_upto_region 1 with fail
 rw [← HX.out]
 go_region_held3 (fun _=>True) (first | trivial | go_keep) ((first | (go_at_call 162;refine (HBC.out _ _).mono ?_;rintro _ w1 ⟨rfl,rfl⟩)))
 go_wp2_with fail
 go_ret
 exact ⟨rfl,1,_,by rw [HX.out,alloc_eq_grow,alloc_eq_grow,grow_grow];rfl⟩
def DV.key (x:DV):ByteArray:=dB x.1
def DV.cf (x y:DV):Int:=compareBytes (dB x.1).data.toList (dB y.1).data.toList
theorem cmpB_lt:∀ a b:List UInt8,decide (compareBytes a b < 0) = Op.bytesLess a b
 | [],[]=>rfl
 | [],_ :: _=>rfl
 | _ :: _,[]=>rfl
 | x :: a,y :: b=>by
  rw [bl_cons]
  unfold compareBytes
  by_cases h1:x < y
  ·simp [h1]
  ·by_cases h2:y < x
   ·simp [h1,h2]
   ·simp only [h1,h2,if_false]
    exact cmpB_lt a b
theorem DV.lt (x y:DV):ltOf DV.cf x y = lessB (DV.key x) (DV.key y):=by
 rw [less_eq]
 exact cmpB_lt _ _
theorem DV.enc_len (x:DV):(DV.enc x).length = 32:=by
 unfold DV.enc
 rw [Array.length_toList,cells8_size,x.2.1]
theorem DV.enc_one (x:DV):∀ v ∈ DV.enc x,v.oneCell' = true:=fun v hv=>Array.all_eq_true_iff_forall_mem.1 (cells8_one x.1) v (by simpa [DV.enc] using hv)
instance:Inhabited DV:=⟨⟨Sha.zeros 32,Sha.zeros_len _,fun i=>by
 have:∀ x ∈ Sha.zeros 32,x < 256:=by decide
 rw [List.getD_eq_getElem?_getD]
 cases h:(Sha.zeros 32)[i]? with
 | none=>decide
 | some x=>exact this x (List.mem_of_getElem? h)⟩⟩
theorem cmpLaysD (blk off size:Nat) (w:World):CmpLays Tryz.prog 106 #[] DV.enc 32 DV.cf blk off size w:=fun _ _ _ _ x y=>compareD_any x y _

theorem sortD_any (B:Nat) (so:Option Addr) (sc:Nat) (l ts:List DV) (w:World) (h:w.ownsRow B 117 32 (.slice so ts.length sc) ts.length (ts.flatMap DV.enc)) (hl:RiseK DV.key l) (hn:ts.Nodup) (hm:∀ x,x ∈ ts ↔ x ∈ l) (hsz:ts.length ≤ 1000000000) :
  Calls Tryz.prog 160 #[.slice so ts.length sc,.func (.func 106) #[] #[]] w fun e w'=>e = .returned (.tuple #[]) ∧ w'.ownsRow B 117 32 (.slice so l.length sc) l.length (l.flatMap DV.enc) ∧ w.grownBy w' (Value.slice so ts.length sc).ownBlock ∧ l.length = ts.length:=by
 have hlen:l.length = ts.length:=Nat.le_antisymm (nodup_len (riseK_nodup hl) (fun x hx=>(hm x).2 hx)) (nodup_len hn (fun x hx=>(hm x).1 hx))
 have h':=h
 obtain ⟨_,⟨h1,h2⟩ | ⟨g,cap,cur,h1,hB,hg,_⟩⟩:=h'
 ·injection h1 with h1 h1a h1b
  subst h1
  subst h1b
  have hts:ts = []:=List.length_eq_zero_iff.1 h2
  subst hts
  have hl0:l = []:=List.length_eq_zero_iff.1 hlen
  subst hl0
  exact (sortD_one none 0 0 (by decide) _ w).mono fun e w' ⟨he,hw⟩=>⟨he,by rw [hw];exact h,by rw [hw];exact ⟨rfl,rfl,rfl,Nat.le_refl _,fun _ _ _=>rfl⟩,rfl⟩
 ·injection h1 with h1 h1a h1b
  subst h1
  subst h1b
  have eg:∀ args w,(callFunc 106 args).run Tryz.prog w = .ok (.enter 106 args) w:=enters_of Tryz.func106 (by kernel_rfl) rfl
  have hcon:=AnyQ.slices_SortFunc Tryz.laysSD 32 Tryz.isAgg117 Tryz.sizeOf117 DV.enc DV.enc_len DV.enc_one DV.cf (lessB_swo DV.lt) 106 #[] g 0 sc ts.toArray w eg (cmpLaysD g 0 _ w) (holds_row DV.enc_len (by decide) h) (lt_heap hg) (by simp;omega)
  rw [show ts.toArray.size = ts.length by simp] at hcon
  refine hcon.mono fun e w' ⟨he,d',n,os,hp,hs,hw⟩=>?_
  have hd:=sort_is DV.lt hl hn hm (by simpa using hp) (by simpa using hs)
  have hd':d' = l.toArray:=by rw [← hd]
  subst hd'
  obtain ⟨r1,r2⟩:=row_sorted (n:=n) (os:=os) DV.enc_len (by decide) h hlen
  rw [← hw] at r1 r2
  exact ⟨he,r1,r2,hlen⟩
set_option maxHeartbeats 1000000
set_option maxRecDepth 100000
open Go.RowKit Go.Shelf Go.Sort Go.Lib Go.Maps
theorem sortedFuncD_many (tb nn Bm:Nat) (cl:List (List Nat)) (dl:List DV) (w:World) (h:CM w tb nn (cD cl)) (hm:w.cell? ⟨Bm,0,none⟩ = some (.map (some tb))) (hok:∀ d ∈ cl,DigOk d) (hr:RiseK DV.key dl) (hmem:∀ x,x ∈ dl ↔ x.1 ∈ cl) (hsz:cl.length ≤ 100000000) :
  Calls Tryz.prog 104 #[.func (.func 161) #[] #[.pointer (some ⟨Bm,0,none⟩)],.func (.func 106) #[] #[]] w fun e w'=>∃ v,e = .returned v ∧ w'.ownsRow w.heap.size 117 32 v dl.length (dl.flatMap DV.enc) ∧ Below w.heap.size w w':=by
 have hrk:RiseK dK cl:=mD_rise h dig_keyed
 have hdl:dl.length ≤ cl.length:=by
  have:=nodup_len (l:=dl.map (·.1)) (m:=cl) (by
   have h1:(dl.map (·.1)).Pairwise (· ≠ ·):=by
    rw [List.pairwise_map]
    exact (riseK_nodup hr).imp fun {a b} hab e=>hab (Subtype.ext e)
   exact h1) (fun x hx=>by
   obtain ⟨y,hy,rfl⟩:=List.mem_map.1 hx
   exact (hmem y).1 hy)
  rwa [List.length_map] at this
 have HC:=hide (callsIn_wide.1 (dcollect_in 8 (by decide) 161 #[.pointer (some ⟨Bm,0,none⟩)] (enters_of Tryz.func161 (by kernel_rfl) rfl) (AllD' cl) cl.length hsz w (keysD_stops Fence.wide 6 trivial rfl (by decide) Bm tb nn cl hok w hm h)))
 have HR:=hide hr
 have HM:=hide hmem
 clear h hm hr hmem hrk hok
 go_enter Tryz.func104,Tryz.ntmps104
 go_wp2_with fail
 refine (HC.out).mono ?_
 rintro _ w1 ⟨v,xs,rfl,hV,hrow,hb⟩
 dsimp only
 obtain ⟨so,sc,rfl⟩:=own_sl hrow
 have hmm:∀ x,x ∈ xs ↔ x ∈ dl:=fun x=>(hV.2 x).trans (HM.out x).symm
 have hlen:dl.length = xs.length:=Nat.le_antisymm (nodup_len (riseK_nodup HR.out) (fun x hx=>(hmm x).2 hx)) (nodup_len hV.1 (fun x hx=>(hmm x).1 hx))
 have HSO:=hide (sortD_any w.heap.size so sc dl xs w1 hrow HR.out hV.1 hmm (by omega))
 have HG:=hide (fun k hk=>own_ge hrow k hk)
 have HB:=hide hb
 clear hrow hV hb HC hmm hlen
 go_wp2_with fail
 refine (HSO.out).mono ?_
 rintro _ w2 ⟨rfl,hrow2,hg2,hl2⟩
 dsimp only
 rw [← hl2]
 have HR2:=hide hrow2
 have HB2:=hide (HB.out.grown hg2 HB.out.size (fun k e=>HG.out k e))
 clear hrow2 hg2 hl2 HSO HG HB
 go_wp2_with fail
 go_ret
 exact ⟨_,rfl,HR2.out,HB2.out⟩
theorem digests_any (sb:Nat) (s:PSt) (cb tb nc nt:Nat) (Dt:DataW Value) (cl:List (List Nat)) (dl:List DV) (w:World) (h:StW w sb s cb tb nc nt (cD cl) Dt) (hok:∀ d ∈ cl,DigOk d) (hr:RiseK DV.key dl) (hmem:∀ x,x ∈ dl ↔ x.1 ∈ cl) (hsz:cl.length ≤ 100000000) :
  Calls Tryz.prog 65 #[.pointer (some ⟨sb,0,none⟩)] w fun e w'=>∃ v,e = .returned v ∧ w'.ownsRow w.heap.size 117 32 v dl.length (dl.flatMap DV.enc) ∧ Below w.heap.size w w':=by
 have HVL:=hide (callsIn_wide.1 (keys_in Fence.wide 3 trivial rfl (some cb) w))
 have c1:=cell_of_row _ _ 1 _ _ _ h.blk
 have H:=hide h.cm
 have hmf:∀ (fn:Fn) (first cap:Array Value) (w:World),(Instr.makeFunc fn first cap).run Tryz.prog w = .ok (.func fn first cap) w:=fun _ _ _ _=>rfl
 have HOK:=hide hok
 have HR:=hide hr
 have HM:=hide hmem
 clear h hok hr hmem
 go_enter Tryz.func65,Tryz.ntmps65
 go_wp2_with fail
 refine (HVL.out).mono ?_
 rintro _ w1 ⟨rfl,hw1⟩
 dsimp only
 have hb1:Below w.heap.size w w1:=by rw [hw1];exact (Below.refl _ _).alloc (Nat.le_refl _) _
 have hx1:w1.heap[w.heap.size]? = some (.cells #[.map (some cb)] 156 (0,0)):=by rw [hw1];exact heap_alloc_new _ _
 have HSF:=hide (sortedFuncD_many cb nc w.heap.size cl dl w1 (owns_same H.out (hb1.block _ H.out.lt)) (cell_of_row _ _ 0 _ _ _ hx1) HOK.out HR.out HM.out hsz)
 have HB1:=hide hb1
 clear hb1 hx1 hw1 HVL
 go_wp2_with fail
 refine (HSF.out).mono ?_
 rintro _ w2 ⟨v,rfl,hrow,hb⟩
 dsimp only
 have HB:=hide hb
 have HRW:=hide hrow
 clear hb hrow HSF
 go_wp2_with fail
 go_ret
 have hz:=HB1.out.size
 exact ⟨_,rfl,HRW.out.mono_base hz,HB1.out.trans (HB.out.mono hz)⟩
set_option maxHeartbeats 2000000
set_option maxRecDepth 100000
open Go.RowKit Go.Shelf Go.Sort Go.Lib Go.Maps
theorem rowD_at {w:World} {B g n sc:Nat} {dl:List DV} (h:w.ownsRow B 117 32 (.slice (some ⟨g,0,none⟩) n sc) dl.length (dl.flatMap DV.enc)) {i:Nat} (hi:i < dl.length):w.rangeAt g (i * 32) (cells8 (dl[i]'hi).1).toList:=by
 obtain ⟨_,⟨h1,_⟩ | ⟨g',cap',cur,h1,_,hg,_,_,hsz,htk⟩⟩:=h
 ·cases h1
 ·injection h1 with h1 _ h2
  injection h1 with h1
  injection h1 with h1
  subst h1
  intro j v hj
  have hj32:j < 32:=by
   have:=(List.getElem?_eq_some_iff.1 hj).1
   rwa [Array.length_toList,cells8_size,(dl[i]'hi).2.1] at this
  rw [cell_of_row _ _ _ _ _ _ hg]
  have hlt:i * 32 + j < dl.length * 32:=by
   have:(i + 1) * 32 ≤ dl.length * 32:=Nat.mul_le_mul_right _ hi
   omega
  have e1:cur[i * 32 + j]? = (dl.flatMap DV.enc)[i * 32 + j]?:=by
   rw [← htk,List.getElem?_take,if_pos hlt]
   simp
  rw [e1,flat_at DV.enc 32 DV.enc_len (by decide) dl _ hlt]
  have e2:(i * 32 + j) / 32 = i:=by omega
  have e3:(i * 32 + j) % 32 = j:=by omega
  rw [e2,e3,getElem!_pos dl i hi]
  have e4:(DV.enc (dl[i]'hi))[j]? = some v:=hj
  obtain ⟨h5,h6⟩:=List.getElem?_eq_some_iff.1 e4
  rw [getElem!_pos _ j h5,h6]
def idxT (l:List TE) (dl:List DV):Int:=match dl.findIdx? (fun x=>tagd x.1 l) with | some i=>(i:Int) | none => -1
theorem idxD_any (sb:Nat) (s:PSt) (cb tb nc:Nat) (Dc:DataW Value) (l:List TE) (B:Nat) (so:Option Addr) (sc:Nat) (dl:List DV) (w:World) (h:StW w sb s cb tb nc l.length Dc (tD l)) (hok:∀ t ∈ l,t.Ok) (hrow:w.ownsRow B 117 32 (.slice so dl.length sc) dl.length (dl.flatMap DV.enc)) (hsz:dl.length ≤ 100000000) :
  Calls Tryz.prog 214 #[.slice so dl.length sc,.func (.func 75) #[.pointer (some ⟨sb,0,none⟩)] #[]] w fun e w'=>e = .returned (.int .i64 (idxT l dl)) ∧ Below w.heap.size w w':=by
 have H:=hide h
 have HOK:=hide hok
 have HROW:=hide hrow
 clear h hok hrow
 go_enter Tryz.func214,Tryz.ntmps214
 go_wp2_with fail
 have hgt:0 < dl.length → ∃ g,so = some ⟨g,0,none⟩:=fun hp=>by
  obtain ⟨_,⟨h1,h2⟩ | ⟨g,cap,cur,h1,_⟩⟩:=HROW.out
  ·omega
  ·injection h1 with h1
   exact ⟨g,h1⟩
 have HGT:=hide hgt
 clear hgt
 go_loopw [8] (fun iv wr=>∃ (j:Nat),j ≤ dl.length ∧ iv = .int .i64 ((j:Nat):Int) ∧ Below w.heap.size w wr ∧ (∀ i (hi:i < dl.length),i < j → tagd (dl[i]'hi).1 l = false)) (fun iv _=>dl.length - (intOf iv).toNat)
 case atStart=>exact ⟨0,Nat.zero_le _,rfl,Below.refl _ _,fun i hi h=>by omega⟩
 case round =>
  obtain ⟨j,hj,rfl,hb,hal⟩:=hrel
  have HB:=hide hb
  have HAL:=hide hal
  clear hb hal
  by_cases hlt:j < dl.length
  ·obtain ⟨g,hg⟩:=HGT.out (by omega)
   subst hg
   have hst:=H.out.later HB.out
   have hrr:=rowD_at (ownsRow_later HROW.out HB.out) hlt
   obtain ⟨d,hd⟩ : ∃ d,d = (dl[j]'hlt):=⟨_,rfl⟩
   rw [← hd] at hrr
   have HRR:=hide hrr
   have HIT:=hide (isTagged_any sb s cb tb nc Dc l d.1 wr hst HOK.out d.2.1 d.2.2)
   have HD:=hide hd
   have hdl:=d.2.1
   have d1:decide (((j:Nat):Int) < ((dl.length:Nat):Int)) = true:=decide_eq_true (by omega)
   clear hst hrr hd
   go_wp2_with (first | (refine wpList_load_mid rfl 117 _ rfl g (j * 32) rfl (cells8 d.1).toList _ HRR.out Tryz.underlying117 rfl (size72 d.1 hdl) ?_))
   refine (HIT.out).mono ?_
   rintro _ w2 ⟨rfl,hb2⟩
   dsimp only
   have HB2:=hide (HB.out.trans (hb2.mono HB.out.size))
   clear hb2 HIT
   cases htt:tagd d.1 l with
   | true =>
    have hix:dl.findIdx? (fun x=>tagd x.1 l) = some j:=by
     rw [List.findIdx?_eq_some_iff_getElem]
     refine ⟨hlt,by rw [← HD.out];exact htt,fun i hi=>?_⟩
     rw [HAL.out i (by omega) hi]
     decide
    have HIX:=hide hix
    clear hix htt
    go_wp2_with fail
    go_ret
    refine ⟨?_,HB2.out⟩
    unfold idxT
    rw [HIX.out]
    rfl
   | false =>
    have HTT:=hide htt
    clear htt
    go_wp2_with fail
    refine ⟨⟨j + 1,hlt,by simp,HB2.out,fun i hi hij=>?_⟩,by simp only [intOf];omega⟩
    by_cases hij2:i < j
    ·exact HAL.out i hi hij2
    ·have:i = j:=by omega
     subst this
     rw [← HD.out]
     exact HTT.out
  ·have hjn:j = dl.length:=by omega
   have d1:decide (((j:Nat):Int) < ((dl.length:Nat):Int)) = false:=decide_eq_false (by omega)
   have HJN:=hide hjn
   clear hjn
   go_wp2_with fail
   go_ret
   refine ⟨?_,HB.out⟩
   have:dl.findIdx? (fun x=>tagd x.1 l) = none:=by
    rw [List.findIdx?_eq_none_iff]
    intro x hx
    obtain ⟨i,hi,rfl⟩:=List.mem_iff_getElem.1 hx
    exact HAL.out i hi (by rw [HJN.out];exact hi)
   unfold idxT
   rw [this]
   rfl
set_option maxHeartbeats 4000000
set_option maxRecDepth 100000
open Go.RowKit Go.Shelf Go.Sort Go.Lib Go.Maps
section
variable {α:Type} {enc:α → List Value} {k:Nat}
theorem flat_take (hk:∀ x,(enc x).length = k):∀ (l:List α) (i:Nat),(l.flatMap enc).take (i * k) = (l.take i).flatMap enc
 | [],i=>by simp
 | x :: l,0=>by simp
 | x :: l,i + 1=>by
  rw [List.flatMap_cons,List.take_succ_cons,List.flatMap_cons,← flat_take hk l i,List.take_append,hk,List.take_of_length_le (by rw [hk,Nat.add_mul];omega)]
  congr 2
  rw [Nat.add_mul]
  omega
theorem flat_drop (hk:∀ x,(enc x).length = k):∀ (l:List α) (i:Nat),(l.flatMap enc).drop (i * k) = (l.drop i).flatMap enc
 | [],i=>by simp
 | x :: l,0=>by simp
 | x :: l,i + 1=>by
  rw [List.flatMap_cons,List.drop_succ_cons,← flat_drop hk l i,List.drop_append,hk,List.drop_of_length_le (by rw [hk,Nat.add_mul];omega),List.nil_append]
  congr 1
  rw [Nat.add_mul]
  omega
end
theorem own_setD {w:World} {B g n sc:Nat} {xs:List DV} (h:w.ownsRow B 117 32 (.slice (some ⟨g,0,none⟩) n sc) n (xs.flatMap DV.enc)) (hn:xs.length = n) {i:Nat} (hi:i < n) (v:DV) :
  (w.setCells g (i * 32) (DV.enc v)).ownsRow B 117 32 (.slice (some ⟨g,0,none⟩) n sc) n ((xs.set i v).flatMap DV.enc) ∧ w.there g (i * 32) (DV.enc v).length:=by
 obtain ⟨hl,⟨h1,_⟩ | ⟨g',cap',cur,h1,hB,hg,hc,hcm,hsz,htk⟩⟩:=h
 ·cases h1
 ·injection h1 with h1 _ h2
  injection h1 with h1
  injection h1 with h1
  subst h1
  subst h2
  have hle:(i + 1) * 32 ≤ sc * 32:=Nat.mul_le_mul_right _ (by omega)
  have hle2:(i + 1) * 32 ≤ n * 32:=Nat.mul_le_mul_right _ hi
  have hlen:=DV.enc_len v
  obtain ⟨cur',r1,r2,r3,r4,r5⟩:=setCells_rowF g 117 (DV.enc v) (i * 32) w cur hg (by rw [hlen,hsz];omega)
  refine ⟨⟨by rw [flat_len DV.enc 32 DV.enc_len,List.length_set,hn],.inr ⟨g,sc,cur',rfl,hB,r1,hc,hcm,by rw [r2,hsz],?_⟩⟩,fun j hj=>?_⟩
  ·refine List.ext_getElem? fun t=>?_
   by_cases ht:t < n * 32
   ·rw [List.getElem?_take,if_pos ht,Array.getElem?_toList,flat_at DV.enc 32 DV.enc_len (by decide) _ t (by rw [List.length_set,hn];exact ht)]
    have hold:cur[t]? = some ((DV.enc xs[t / 32]!)[t % 32]!):=by
     rw [← flat_at DV.enc 32 DV.enc_len (by decide) xs t (by rw [hn];exact ht),← htk,List.getElem?_take,if_pos ht,Array.getElem?_toList]
    have hq:t / 32 < xs.length:=by omega
    by_cases hti:t / 32 = i
    ·have e1:(xs.set i v)[t / 32]! = v:=by
      rw [getElem!_pos (xs.set i v) (t / 32) (by rw [List.length_set];exact hq)]
      simp [hti]
     rw [e1]
     have e2:i * 32 + t % 32 = t:=by omega
     have:=r4 (t % 32) (by rw [hlen];omega)
     rw [e2] at this
     rw [this,List.getElem?_eq_getElem (by rw [hlen];omega),getElem!_pos (DV.enc v) (t % 32) (by rw [hlen];omega)]
    ·have e1:(xs.set i v)[t / 32]! = xs[t / 32]! := by
      rw [getElem!_pos (xs.set i v) (t / 32) (by rw [List.length_set];exact hq),getElem!_pos xs (t / 32) hq]
      rw [List.getElem_set_ne (Ne.symm hti)]
     rw [e1,← hold]
     rcases Nat.lt_or_ge t (i * 32) with hlt | hge
     ·exact r3 t hlt
     ·exact r5 t (by rw [hlen];omega)
   ·rw [List.getElem?_eq_none (by rw [List.length_take];exact Nat.le_trans (Nat.min_le_left _ _) (by omega)),List.getElem?_eq_none (by rw [flat_len DV.enc 32 DV.enc_len,List.length_set,hn];omega)]
  ·have hj2:i * 32 + j < cur.size:=by rw [hsz];rw [hlen] at hj;omega
   exact ⟨by rw [cell_of_row _ _ _ _ _ _ hg,Array.getElem?_eq_getElem hj2];rfl,frozen_of_row _ _ _ _ _ hg⟩
theorem own_cutD {w:World} {B g n sc:Nat} {xs:List DV} (h:w.ownsRow B 117 32 (.slice (some ⟨g,0,none⟩) n sc) n (xs.flatMap DV.enc)) (hn:xs.length = n) {i:Nat} (hi:i ≤ n) (zs:List Value) (hz:zs.length = (n - i) * 32) :
  (w.setCells g (i * 32) zs).ownsRow B 117 32 (.slice (some ⟨g,0,none⟩) i sc) i ((xs.take i).flatMap DV.enc) ∧ w.there g (i * 32) zs.length ∧ B ≤ g:=by
 obtain ⟨hl,⟨h1,_⟩ | ⟨g',cap',cur,h1,hB,hg,hc,hcm,hsz,htk⟩⟩:=h
 ·cases h1
 ·injection h1 with h1 _ h2
  injection h1 with h1
  injection h1 with h1
  subst h1
  subst h2
  have hle:n * 32 ≤ sc * 32:=Nat.mul_le_mul_right _ hc
  have hsum:i * 32 + (n - i) * 32 = n * 32:=by rw [← Nat.add_mul];congr 1;omega
  obtain ⟨cur',r1,r2,r3,r4,r5⟩:=setCells_rowF g 117 zs (i * 32) w cur hg (by rw [hz,hsz];omega)
  refine ⟨⟨by rw [flat_len DV.enc 32 DV.enc_len,List.length_take,hn,Nat.min_eq_left hi],.inr ⟨g,sc,cur',rfl,hB,r1,by omega,hcm,by rw [r2,hsz],?_⟩⟩,fun j hj=>?_,hB⟩
  ·rw [← flat_take DV.enc_len,← htk]
   refine List.ext_getElem? fun t=>?_
   rw [List.getElem?_take,List.getElem?_take]
   by_cases ht:t < i * 32
   ·rw [if_pos ht,if_pos ht,Array.getElem?_toList,r3 t ht,List.getElem?_take,if_pos (by omega),Array.getElem?_toList]
   ·rw [if_neg ht,if_neg ht]
  ·have hj2:i * 32 + j < cur.size:=by rw [hsz];rw [hz] at hj;omega
   exact ⟨by rw [cell_of_row _ _ _ _ _ _ hg,Array.getElem?_eq_getElem hj2];rfl,frozen_of_row _ _ _ _ _ hg⟩
def zD (m:Nat):List Value:=(Builtin.zeroCells (cells8 (Sha.zeros 32)) m).toList
theorem zD_len (m:Nat):(zD m).length = m * 32:=by
 unfold zD Builtin.zeroCells
 simp [cells8_size,Sha.zeros_len]
theorem zD_one (m:Nat):∀ v ∈ zD m,v.oneCell' = true:=by
 intro v hv
 unfold zD Builtin.zeroCells at hv
 simp only [Array.mem_toList_iff,Array.mem_map] at hv
 obtain ⟨t,_,rfl⟩:=hv
 have hlt:t % (cells8 (Sha.zeros 32)).size < (cells8 (Sha.zeros 32)).size:=Nat.mod_lt _ (by rw [cells8_size,Sha.zeros_len];decide)
 rw [getElem!_pos (cells8 (Sha.zeros 32)) _ hlt]
 exact Array.all_eq_true_iff_forall_mem.1 (cells8_one _) _ (Array.getElem_mem hlt)
theorem run_clearD (w:World) (ty:TypeId) (g i m c:Nat) (hm:0 < m) (ht:w.there g (i * 32) (zD m).length) :
  (Builtin.clear_ #[121] ty #[.slice (some ⟨g,i * 32,none⟩) m c]).run Tryz.prog w = .ok (.tuple #[]) (w.setCells g (i * 32) (zD m)):=by
 have hst:=run_storeCells_cells (P:=Tryz.prog) g (i * 32) (zD m) 0 w (fun j hj=>by simpa using (ht j hj).1) (fun j hj=>by simpa using (ht j hj).2) (zD_one m)
 simp only [Nat.add_zero] at hst
 have hzv:=(zero_of_info Tryz.info117).1
 obtain ⟨q,rfl⟩ : ∃ q,m = q + 1:=⟨m - 1,by omega⟩
 have e:(Builtin.zeroCells (Value.agg (cells8 (Sha.zeros 32))).cells (q + 1)).toList = zD (q + 1):=rfl
 simp [Builtin.clear_,run_underlying Tryz.underlying121,hzv,e,hst]
def unT (l:List TE) (dl:List DV):List DV:=dl.filter fun x=>!tagd x.1 l
theorem delD_any (sb:Nat) (s:PSt) (cb tb nc:Nat) (Dc:DataW Value) (l:List TE) (B:Nat) (so:Option Addr) (sc:Nat) (dl:List DV) (w0 w:World) (h0:StW w0 sb s cb tb nc l.length Dc (tD l)) (hb0:Below w0.heap.size w0 w) (hB0:w0.heap.size ≤ B) (hok:∀ t ∈ l,t.Ok) (hrow:w.ownsRow B 117 32 (.slice so dl.length sc) dl.length (dl.flatMap DV.enc)) (hsz:dl.length ≤ 100000000) :
  Calls Tryz.prog 170 #[.slice so dl.length sc,.func (.func 75) #[.pointer (some ⟨sb,0,none⟩)] #[]] w fun e w'=>∃ v,e = .returned v ∧ w'.ownsRow B 117 32 v (unT l dl).length ((unT l dl).flatMap DV.enc) ∧ Below w0.heap.size w0 w':=by
 have HI:=hide (idxD_any sb s cb tb nc Dc l B so sc dl w (h0.later hb0) hok hrow hsz)
 have H0:=hide h0
 have HOK:=hide hok
 have HROW:=hide hrow
 have HB0:=hide hb0
 clear h0 hok hrow hb0
 cases hix:dl.findIdx? (fun x=>tagd x.1 l) with
 | none =>
  have hq:idxT l dl = -1:=by unfold idxT;rw [hix]
  rw [hq] at HI
  have hun:unT l dl = dl:=by
   unfold unT
   rw [List.filter_eq_self]
   intro x hx
   rw [List.findIdx?_eq_none_iff.1 hix x hx]
   rfl
  rw [hun]
  clear hq hix hun
  go_enter Tryz.func170,Tryz.ntmps170
  go_wp2_with fail
  refine (HI.out).mono ?_
  rintro _ w1 ⟨rfl,hb⟩
  dsimp only
  have HB1:=hide hb
  clear hb HI
  go_wp2_with fail
  go_ret
  exact ⟨_,rfl,ownsRow_later HROW.out HB1.out,HB0.out.trans (HB1.out.mono HB0.out.size)⟩
 | some i0 =>
  have hq:idxT l dl = (i0:Int):=by unfold idxT;rw [hix]
  rw [hq] at HI
  obtain ⟨hi0,htg,hbef⟩:=List.findIdx?_eq_some_iff_getElem.1 hix
  obtain ⟨g,hg⟩ : ∃ g,so = some ⟨g,0,none⟩:=by
   obtain ⟨_,⟨h1,h2⟩ | ⟨g,cap,cur,h1,_⟩⟩:=HROW.out
   ·omega
   ·injection h1 with h1
    exact ⟨g,h1⟩
  subst hg
  have hstart:dl.take i0 = unT l (dl.take (i0 + 1)):=by
   unfold unT
   rw [List.take_add_one,List.filter_append,List.getElem?_eq_getElem hi0]
   have e1:List.filter (fun x=>!tagd x.1 l) (dl.take i0) = dl.take i0:=by
    rw [List.filter_eq_self]
    intro x hx
    obtain ⟨i,hi,rfl⟩:=List.mem_iff_getElem.1 hx
    rw [List.length_take] at hi
    have:=hbef i (by omega)
    rw [List.getElem_take]
    simpa using this
   rw [e1]
   simp [htg]
  have HST:=hide hstart
  have hn1:((i0:Int) == -1) = false:=by simp
  have hn2:¬ ((i0:Nat):Int) = -1:=by omega
  clear hq hix htg hbef hstart
  go_enter Tryz.func170,Tryz.ntmps170
  go_wp2_with fail
  refine (HI.out).mono ?_
  rintro _ w1 ⟨rfl,hb⟩
  dsimp only
  have HB1:=hide (HB0.out.trans (hb.mono HB0.out.size))
  have HR1:=hide (ownsRow_later HROW.out hb)
  clear hb HI HROW HB0
  go_wp2_with fail
  have hnsc:dl.length ≤ sc:=by
   obtain ⟨_,⟨h1,h2⟩ | ⟨g',cap,cur,h1,_,_,hc,_⟩⟩:=HR1.out
   ·cases h1
   ·injection h1 with _ _ h1
    rw [h1];exact hc
  have hscm:sc ≤ maxLen:=by
   obtain ⟨_,⟨h1,h2⟩ | ⟨g',cap,cur,h1,_,_,_,hc,_⟩⟩:=HR1.out
   ·cases h1
   ·injection h1 with _ _ h1
    rw [h1];exact hc
  obtain ⟨n,hn⟩ : ∃ n,n = dl.length:=⟨_,rfl⟩
  rw [← hn] at hi0 hsz hnsc HR1 ⊢
  have HN:=hide hn
  clear hn hn1 hn2
  have hz71:=(zero_of_info Tryz.info117).1
  go_loopw [5,6] (fun iv jv wr=>∃ (i j:Nat) (xs:List DV),iv = .int .i64 ((i:Nat):Int) ∧ jv = .int .i64 ((j:Nat):Int) ∧ i < j ∧ j ≤ n ∧ xs.length = n ∧ xs.take i = unT l (dl.take j) ∧ xs.drop j = dl.drop j ∧ wr.ownsRow B 117 32 (.slice (some ⟨g,0,none⟩) n sc) n (xs.flatMap DV.enc) ∧ Below w0.heap.size w0 wr) (fun _ jv _=>n - (intOf jv).toNat)
  case atStart=>exact ⟨i0,i0 + 1,dl,rfl,by simp,by omega,by omega,HN.out.symm,HST.out,rfl,HR1.out,HB1.out⟩
  case round =>
   obtain ⟨i,j,xs,rfl,rfl,hij,hjn,hxl,htk,hdp,hrw,hbw⟩:=hrel
   have HTK:=hide htk
   have HDP:=hide hdp
   have HRW:=hide hrw
   have HBW:=hide hbw
   have HXL:=hide hxl
   clear htk hdp hrw hbw hxl HR1 HB1 HST
   by_cases hlt:j < n
   ·have hjx:j < xs.length:=by rw [HXL.out];exact hlt
    have hjd:j < dl.length:=by rw [← HN.out];exact hlt
    have hxd:xs[j]'hjx = dl[j]'hjd:=by
     have:=congrArg (fun q=>q[0]?) HDP.out
     simp only [List.getElem?_drop,Nat.add_zero,List.getElem?_eq_getElem hjx,List.getElem?_eq_getElem hjd] at this
     injection this
    have hrr:=rowD_at (by rw [HXL.out];exact HRW.out) hjx
    obtain ⟨d,hd⟩ : ∃ d,d = (xs[j]'hjx):=⟨_,rfl⟩
    rw [← hd] at hrr
    have hdd:d = dl[j]'hjd:=hd.trans hxd
    have HRR:=hide hrr
    have HDD:=hide hdd
    have hdl:=d.2.1
    have d1:decide (((j:Nat):Int) < ((n:Nat):Int)) = true:=decide_eq_true (by omega)
    obtain ⟨X,hX⟩ : ∃ X,X = wr.alloc (.cells (cells8 d.1) 117):=⟨_,rfl⟩
    have hbX:Below wr.heap.size wr X:=by rw [hX];exact (Below.refl _ _).alloc (Nat.le_refl _) _
    have hXr:X.heap[wr.heap.size]? = some (.cells (cells8 d.1) 117 (0,0)):=by rw [hX];exact heap_alloc_new _ _
    have HXR:=hide hXr
    have HX:=hide hX
    have HBX:=hide (HBW.out.trans (hbX.mono HBW.out.size))
    have HRX:=hide (ownsRow_later HRW.out hbX)
    have HIT:=hide (isTagged_any sb s cb tb nc Dc l d.1 X (H0.out.later HBX.out) HOK.out d.2.1 d.2.2)
    clear hrr hd hxd hdd hX hbX hXr
    go_wp2_with (first | (refine wpList_load_mid rfl 117 _ rfl g (j * 32) rfl (cells8 d.1).toList _ HRR.out Tryz.underlying117 rfl (size72 d.1 hdl) ?_) | (refine wpList_store_row rfl 117 _ _ rfl wr.heap.size _ rfl rfl 117 _ (heap_alloc_new _ _) (size40 _ hdl) (by rw [cells8_size,cells8_size,hdl];rfl) (cells8_one _) ?_;rw [World.setRow_alloc_new,← HX.out]) | (refine wpList_load_row rfl 117 _ rfl wr.heap.size rfl 117 _ _ _ HXR.out Tryz.underlying117 rfl (size40 _ hdl) ?_))
    refine (HIT.out).mono ?_
    rintro _ w2 ⟨rfl,hb2⟩
    dsimp only
    have hr2:=ownsRow_later HRX.out hb2
    have hbx2:=HBX.out.trans (hb2.mono HBX.out.size)
    have hxr2:=(hb2.block _ (lt_heap HXR.out)).trans HXR.out
    have HR2:=hide hr2
    have HBX2:=hide hbx2
    have HXR2:=hide hxr2
    obtain ⟨o1,o2⟩:=own_setD hr2 HXL.out (show i < n by omega) d
    have HO1:=hide o1
    have HO2:=hide o2
    have hgB:B ≤ g:=own_ge hr2 g rfl
    have hdrop:xs.drop (j + 1) = dl.drop (j + 1):=by
     have:=congrArg (fun q=>q.drop 1) HDP.out
     simpa [List.drop_drop] using this
    have HDR:=hide hdrop
    have htake:dl.take (j + 1) = dl.take j ++ [d]:=by
     rw [List.take_add_one,List.getElem?_eq_getElem hjd,HDD.out]
     rfl
    have HTA:=hide htake
    clear hb2 hr2 hbx2 hxr2 o1 o2 hdrop htake HIT
    cases htt:tagd d.1 l with
    | true =>
     have HTT:=hide htt
     clear htt
     go_wp2_with fail
     refine ⟨⟨i,j + 1,xs,rfl,by simp,by omega,hlt,HXL.out,?_,HDR.out,HR2.out,HBX2.out⟩,by simp only [intOf];omega⟩
     rw [HTA.out,HTK.out]
     unfold unT
     rw [List.filter_append]
     simp [HTT.out]
    | false =>
     have HTT:=hide htt
     clear htt
     go_wp2_with (first | (refine wpList_load_row rfl 117 _ rfl wr.heap.size rfl 117 _ _ _ HXR2.out Tryz.underlying117 rfl (size40 _ hdl) ?_) | (refine wpList_store_mid rfl 117 _ _ rfl g (i * 32) (cells8 d.1) rfl rfl HO2.out (size40 _ hdl) (cells8_one _) ?_))
     refine ⟨⟨i + 1,j + 1,xs.set i d,by simp,by simp,by omega,hlt,by rw [List.length_set];exact HXL.out,?_,?_,HO1.out,HBX2.out.trans (below_sets (Nat.le_trans hB0 hgB) _ _ _)⟩,by simp only [intOf];omega⟩
     ·have hix:i < xs.length:=by rw [HXL.out];omega
      rw [List.take_add_one,List.take_set_of_le (Nat.le_refl _),HTK.out,HTA.out]
      unfold unT
      rw [List.filter_append]
      simp [HTT.out,hix]
     ·rw [List.drop_set_of_lt (by omega)]
      exact HDR.out
   ·have d1:decide (((j:Nat):Int) < ((n:Nat):Int)) = false:=decide_eq_false (by omega)
    have hjn2:j = n:=by omega
    have HJN:=hide hjn2
    obtain ⟨c1,c2,c3⟩:=own_cutD HRW.out HXL.out (show i ≤ n by omega) (zD (n - i)) (zD_len _)
    have hclr:=fun ty c=>run_clearD wr ty g i (n - i) c (by omega) c2
    have HC1:=hide c1
    have HC3:=hide c3
    clear c1 c2 c3 hjn2
    go_wp2_with fail
    go_ret
    have hu:unT l dl = xs.take i:=by
     rw [HTK.out,HJN.out,HN.out,List.take_length]
    have hl:(xs.take i).length = i:=by rw [List.length_take,HXL.out];omega
    rw [hu,hl]
    exact ⟨_,rfl,HC1.out,HBW.out.trans (below_sets (Nat.le_trans hB0 HC3.out) _ _ _)⟩
set_option maxHeartbeats 4000000
set_option maxRecDepth 100000
open Go.RowKit Go.MuLone
def blC (D:DS) (x:DV):List Value:=[.string (dtx x.1),.int .i64 (((rdD D (cPath x.1)).getD ⟨#[]⟩).size:Int)]
theorem StW.lowN {W W':World} {sb:Nat} {s:PSt} {cb tb nc nt N:Nat} {Dc Dt:DataW Value} (h:StW W sb s cb tb nc nt Dc Dt) (hN:(∀ k,s.own k → k < N) ∧ sb < N ∧ cb < N ∧ tb < N ∧ ∀ k,isG k → k < N) (hb:Below N W W'):StW W' sb s cb tb nc nt Dc Dt :=
 ⟨h.inn.same (fun k hk=>hb.block k (hN.1 k hk)),h.gl.same hb.size (fun k hk=>hb.block k (hN.2.2.2.2 k hk)),h.low,(hb.block _ hN.2.1).trans h.blk,owns_same h.cm (hb.block _ hN.2.2.1),owns_same h.tm (hb.block _ hN.2.2.2.1),h.ncb,h.ntb,h.gcb,h.gtb,h.gsb,h.ne⟩
theorem SGo.low {S:Nat → Prop} {s s':PSt} {w w1 w2:World} (h:SGo S s s' w w1) (hb:Below w.heap.size w1 w2):SGo S s s' w w2 :=
 ⟨⟨hb.os.trans h.gr.os,hb.tape.trans h.gr.tape,hb.output.trans h.gr.output,Nat.le_trans h.gr.size hb.size,fun k hk hn=>(hb.block k hk).trans (h.gr.block k hk hn)⟩,h.own,h.b⟩
theorem Tryz.infoBlob:(Tryz.prog.info? 73).map (fun i=>(i.zero,i.size,i.bytes)) = some (some (.agg #[.string ⟨#[]⟩,.int .i64 0]),2,24):=by kernel_rfl
set_option linter.unusedSimpArgs false in
theorem bBlobs_many (xb sb:Nat) (s:PSt) (cb tb nc:Nat) (l:List TE) (cl:List (List Nat)) (dl:List DV) (w:World) (hx:BSt w xb sb) (hG:¬ isG xb) (h:StW w sb s cb tb nc l.length (cD cl) (tD l)) (hok:∀ d ∈ cl,DigOk d) (hr:RiseK DV.key dl) (hmem:∀ x,x ∈ dl ↔ x.1 ∈ cl) (hsz:cl.length ≤ 100000000) (hsd:dl.length ≤ 1000000) :
  Calls Tryz.prog 32 #[.pointer (some ⟨xb,0,none⟩)] w fun e w'=>∃ v,e = .returned (.tuple #[v,.int .i64 0]) ∧ w'.ownsRow w.heap.size 73 2 v dl.length (dl.flatMap (blC s.ds)) ∧ SGo (sS xb sb cb) s s w w' ∧ BSt w' xb sb ∧ StW w' sb s cb tb nc l.length (cD cl) (tD l):=by
 have hx:BLk w xb sb 0:=hx
 have c0:w.cell? ⟨xb,0,none⟩ = some (.int .i32 0):=cell_of_row _ _ 0 _ _ _ hx
 have f0:w.frozen? ⟨xb,0,none⟩ = false:=frozen_of_row _ _ 0 _ _ hx
 obtain ⟨W,hW⟩ : ∃ W,W = w.setCell ⟨xb,0,none⟩ (.int .i32 1):=⟨_,rfl⟩
 have hst:StW W sb s cb tb nc l.length (cD cl) (tD l):=by rw [hW];exact h.lock hx hG
 have hxw:BLk W xb sb 1:=by rw [hW];exact hx.set 1
 have hfw:SGo (sS xb sb cb) s s w W:=by rw [hW];exact SGo.lock
 have hzw:W.heap.size = w.heap.size:=by rw [hW];simp
 have HD:=hide (digests_any sb s cb tb nc l.length (tD l) cl dl W hst hok hr hmem hsz)
 have HLK:=hide (lock_free Tryz.muLib ⟨xb,0,none⟩ w c0 f0)
 have HW:=hide hW
 have HST:=hide hst
 have HXW:=hide hxw
 have HFW:=hide hfw
 have HZW:=hide hzw
 have HNL:=hide (show (∀ k,s.own k → k < W.heap.size) ∧ sb < W.heap.size ∧ cb < W.heap.size ∧ tb < W.heap.size ∧ ∀ k,isG k → k < W.heap.size from ⟨fun k hk=>hst.inn.lt hk,lt_heap hst.blk,hst.cm.lt,hst.tm.lt,fun k hk=>hst.gl.lt hk⟩)
 have c2:W.cell? ⟨xb,2,none⟩ = some (.pointer (some ⟨sb,0,none⟩)):=cell_of_row _ _ 2 _ _ _ hxw
 obtain ⟨i0,hi,hz0,hz1,hz2⟩:=info_parts Tryz.infoBlob
 have hz71:=(zero_of_info Tryz.info117).1
 clear hx c0 f0 hst hxw hfw hW h hok hr hmem hzw
 go_enter_defers Tryz.func32,Tryz.ntmps32
 go_wp2_with fail
 refine (HLK.out).mono ?_
 rintro _ W1 ⟨rfl,hW1⟩
 have hW1:W1 = W:=hW1.trans HW.out.symm
 rw [hW1]
 dsimp only
 clear hW1 HLK HW
 go_wp2_with fail
 refine (HD.out).mono ?_
 rintro _ w1 ⟨v,rfl,hrow,hb1⟩
 dsimp only
 obtain ⟨so,sc,rfl⟩:=own_sl hrow
 have hgt:0 < dl.length → ∃ g,so = some ⟨g,0,none⟩:=fun hp=>by
  obtain ⟨_,⟨h1,h2⟩ | ⟨g,cap,cur,h1,_⟩⟩:=hrow
  ·omega
  ·injection h1 with h1
   exact ⟨g,h1⟩
 have HGT:=hide hgt
 have HROW:=hide hrow
 have HB1:=hide hb1
 clear hgt hrow hb1 HD c2
 go_wp2_with fail
 go_loopw [4,22] (fun lv iv wr=>∃ (j:Nat),j ≤ dl.length ∧ iv = .int .i64 ((j:Nat):Int) ∧ wr.ownsRow W.heap.size 73 2 lv j ((dl.take j).flatMap (blC s.ds)) ∧ SGo (sS xb sb cb) s s w wr ∧ BLk wr xb sb 1 ∧ StW wr sb s cb tb nc l.length (cD cl) (tD l) ∧ wr.ownsRow W.heap.size 117 32 (.slice so dl.length sc) dl.length (dl.flatMap DV.enc) ∧ W.heap.size ≤ wr.heap.size) (fun _ iv _=>dl.length - (intOf iv).toNat)
 case atStart=>exact ⟨0,Nat.zero_le _,rfl,World.ownsRow_nil _ _ _ _,HFW.out.trans (SGo.of_below HB1.out),HXW.out.later HB1.out,HST.out.later HB1.out,HROW.out,HB1.out.size⟩
 case round =>
  obtain ⟨j,hj,rfl,hown,hgo,hxl,hst,hrw,hzr⟩:=hrel
  have HOWN:=hide hown
  have HGO:=hide hgo
  have HXL:=hide hxl
  have HSTR:=hide hst
  have HRW:=hide hrw
  clear hown hgo hxl hst hrw
  by_cases hlt:j < dl.length
  ·obtain ⟨g,hg⟩:=HGT.out (by omega)
   subst hg
   have hrr:=rowD_at HRW.out hlt
   obtain ⟨d,hd⟩ : ∃ d,d = (dl[j]'hlt):=⟨_,rfl⟩
   rw [← hd] at hrr
   have HRR:=hide hrr
   have HDD:=hide hd
   have hds:=d.2.1
   have hltd:=d.2.2
   have d1:decide (((j:Nat):Int) < ((dl.length:Nat):Int)) = true:=decide_eq_true (by omega)
   obtain ⟨X,hX⟩ : ∃ X,X = wr.alloc (.cells (cells8 d.1) 117):=⟨_,rfl⟩
   have hbo:Below wr.heap.size wr X:=by rw [hX];exact (Below.refl _ _).alloc (Nat.le_refl _) _
   have hrx:X.heap[wr.heap.size]? = some (.cells (cells8 d.1) 117 (0,0)):=by rw [hX];exact heap_alloc_new _ _
   have HX:=hide hX
   have HBO:=hide hbo
   have HRX:=hide hrx
   clear hrr hd hX hbo hrx
   go_wp2_with (first | (refine wpList_load_mid rfl 117 _ rfl g (j * 32) rfl (cells8 d.1).toList _ HRR.out Tryz.underlying117 rfl (size72 d.1 hds) ?_) | (refine wpList_store_row rfl 117 _ _ rfl wr.heap.size _ rfl rfl 117 _ (heap_alloc_new _ _) (size40 _ hds) (by rw [cells8_size,cells8_size,hds];rfl) (cells8_one _) ?_;rw [World.setRow_alloc_new,← HX.out]))
   obtain ⟨yb,hyb⟩ : ∃ yb,yb = wr.heap.size:=⟨_,rfl⟩
   rw [← hyb] at HRX ⊢
   have HYB:=hide hyb
   clear hyb
   have hdr:Below X.heap.size X X.drew:=(Below.refl _ _).drew
   have hx0:=HXL.out.later HBO.out
   have hs0:=HSTR.out.later HBO.out
   have hS0:X.drew.cell? ⟨xb,2,none⟩ = some (.pointer (some ⟨sb,0,none⟩)) ∧ X.drew.rangeAt yb 0 (cells8 d.1).toList:=⟨cell_of_row _ _ 2 _ _ _ (hx0.later hdr),con_r ((hdr.block _ (lt_heap HRX.out)).trans HRX.out)⟩
   have u72:=Tryz.underlying117
   have i72:=size72 d.1 hds
   have HTX:Hid (∀ W,Calls Tryz.prog 66 #[.agg (cells8 d.1)] W fun e w'=>e = .returned (.string (dtx d.1)) ∧ Below W.heap.size W w'):=hide (fun W=>text_any d.1 W hds hltd)
   have HSI:=hide (fun Y hY=>size_any sb s d.1 Y hY hds hltd)
   have HBC:=hide (show blC s.ds d = [.string (dtx d.1),.int .i64 (((rdD s.ds (cPath d.1)).getD ⟨#[]⟩).size:Int)] from rfl)
   generalize hT:dtx d.1 = T at HTX HBC
   generalize hZ:(((rdD s.ds (cPath d.1)).getD ⟨#[]⟩).size:Int) = Z at HSI HBC
   have HX0:=hide hx0
   have HS0:=hide hs0
   clear hx0 hs0 hT hZ
   dsimp only [Act.put]
   refine wp_region_noPanic ?_
   refine wp_region_held_drew (S:=fun w'=>w'.cell? ⟨xb,2,none⟩ = some (.pointer (some ⟨sb,0,none⟩)) ∧ w'.rangeAt yb 0 (cells8 d.1).toList) (by kernel_rfl) hS0 (fun hHeld=>?_)
   refine wpAnyH_take (i:=0) (v:=u4) rfl (by kernel_rfl) (by kernel_rfl) (by kernel_rfl) (fun _ _ _ h=>h) (Or.inl ⟨by rfl,fun _ _=>rfl⟩) (by assumption) ?_
   simp only [Act.put,List.setIfInBounds_toArray,List.set_cons_zero,List.set_cons_succ]
   refine wpAnyH_take (i:=1) (v:=.agg (cells8 d.1).toList.toArray) rfl (by kernel_rfl) (by kernel_rfl) (by kernel_rfl) (fun _ _ _ h=>h) (yieldsIf_load_mid (by rfl) _ _ rfl yb 0 rfl (cells8 d.1).toList _ (fun w h=>h.2) u72 rfl i72) (by assumption) ?_
   simp only [Act.put,List.setIfInBounds_toArray,List.set_cons_zero,List.set_cons_succ]
   refine wpAnyH_take (i:=3) (v:=.pointer (some ⟨xb,0,none⟩)) rfl (by kernel_rfl) (by kernel_rfl) (by kernel_rfl) (fun _ _ _ h=>h) (Or.inl ⟨by rfl,fun _ _=>rfl⟩) (by assumption) ?_
   simp only [Act.put,List.setIfInBounds_toArray,List.set_cons_zero,List.set_cons_succ]
   refine wpAnyH_take (i:=4) (v:=.pointer (some ⟨xb,0,none⟩)) rfl (by kernel_rfl) (by kernel_rfl) (by kernel_rfl) (fun _ _ _ h=>h) (Or.inl ⟨by rfl,fun _ _=>rfl⟩) (by assumption) ?_
   simp only [Act.put,List.setIfInBounds_toArray,List.set_cons_zero,List.set_cons_succ]
   refine wpAnyH_take (i:=5) (v:=.pointer (some ⟨xb,2,none⟩)) rfl (by kernel_rfl) (by kernel_rfl) (by kernel_rfl) (fun _ _ _ h=>h) (Or.inl ⟨by rfl,fun _ _=>rfl⟩) (by assumption) ?_
   simp only [Act.put,List.setIfInBounds_toArray,List.set_cons_zero,List.set_cons_succ]
   refine wpAnyH_take (i:=6) (v:=.pointer (some ⟨sb,0,none⟩)) rfl (by kernel_rfl) (by kernel_rfl) (by kernel_rfl) (fun _ _ _ h=>h) (Or.inl ⟨by rfl,fun wq hSw=>by have c2:=hSw.1;go_simp⟩) (by assumption) ?_
   simp only [Act.put,List.setIfInBounds_toArray,List.set_cons_zero,List.set_cons_succ]
   refine wpAnyH_take (i:=7) (v:=.agg (cells8 d.1).toList.toArray) rfl (by kernel_rfl) (by kernel_rfl) (by kernel_rfl) (fun _ _ _ h=>h) (yieldsIf_load_mid (by rfl) _ _ rfl yb 0 rfl (cells8 d.1).toList _ (fun w h=>h.2) u72 rfl i72) (by assumption) ?_
   simp only [Act.put,List.setIfInBounds_toArray,List.set_cons_zero,List.set_cons_succ]
   rw [show (cells8 d.1).toList.toArray = cells8 d.1 from rfl]
   refine wpAnyH_ready (rs:=[2]) (by kernel_rfl) (by simp) ?_
   refine AllReadyH.cons rfl (fun K hK=>?_) AllReadyH.nil
   go_simp
   (go_at_call 66;refine (HTX.out _).mono ?_;rintro _ w2 ⟨rfl,hb2⟩;have hb3:Below X.heap.size X w2:=hdr.trans hb2;have hr2:=(hb3.block _ (lt_heap HRX.out)).trans HRX.out;have hx2:=HX0.out.later hb3;have hs2:=HS0.out.later hb3)
   refine hK _ _ ⟨cell_of_row _ _ 2 _ _ _ hx2,con_r hr2⟩ (fun hHeld=>?_)
   refine wpAnyH_ready (rs:=[8]) (by kernel_rfl) (by simp) ?_
   refine AllReadyH.cons rfl (fun K hK=>?_) AllReadyH.nil
   go_simp
   (go_at_call 67;refine (HSI.out _ hs2.on).mono ?_;rintro _ w3 ⟨rfl,hg3⟩;have hr3:=(hg3.gr.block _ (lt_heap hr2) (fun e=>by have:=HNL.out.1 _ e;have:=HYB.out;omega)).trans hr2;have hx3:=BLk.sgo (S:=fun _=>False) hx2 hs2 (SGo.of_go hg3) (fun k hk=>hk.elim);have hs3:=hs2.go hg3)
   refine hK _ _ ⟨cell_of_row _ _ 2 _ _ _ hx3,con_r hr3⟩ (fun hHeld=>?_)
   refine wpAnyH_ready (rs:=[9]) (by kernel_rfl) (by simp) ?_
   refine AllReadyH.cons rfl (fun K hK=>?_) AllReadyH.nil
   go_simp
   refine hK _ _ ⟨cell_of_row _ _ 2 _ _ _ hx3,con_r hr3⟩ (fun hHeld=>?_)
   refine wpAnyH_ready (rs:=[10]) (by kernel_rfl) (by simp) ?_
   refine AllReadyH.cons rfl (fun K hK=>?_) AllReadyH.nil
   go_simp
   have hba:Below w3.heap.size w3 (w3.alloc (.cells #[.string T,.int .i64 Z] 73)):=(Below.refl _ _).alloc (Nat.le_refl _) _
   obtain ⟨w4,hw4⟩ : ∃ w4,w4 = w3.alloc (.cells #[.string T,.int .i64 Z] 73):=⟨_,rfl⟩
   have hrb:w4.heap[w3.heap.size]? = some (.cells #[.string T,.int .i64 Z] 73 (0,0)):=by rw [hw4];exact heap_alloc_new _ _
   rw [← hw4] at hba ⊢
   have hr4:=(hba.block _ (lt_heap hr3)).trans hr3
   have hx4:=hx3.later hba
   have hs4:=hs3.later hba
   have hz4:W.heap.size ≤ w4.heap.size:=by have:=HBO.out.size;have:=hb3.size;have:=hg3.gr.size;have:=hba.size;omega
   have HKR:=hide (show ∀ (B:Nat) (e:TypeId) (k:Nat) (v:Value) (m:Nat) (xs:List Value),W.heap.size ≤ B → wr.ownsRow B e k v m xs → w4.ownsRow B e k v m xs from fun B e k v m xs hB ho=>ownsRow_later (own_same (ownsRow_later (ownsRow_later ho HBO.out) hb3) (fun x hx hl=>hg3.gr.block x hl (fun e2=>by
    have h1:=own_ge ho x hx
    have h2:=HNL.out.1 x e2
    omega))) hba)
   have hown4:=HKR.out _ _ _ _ _ _ (Nat.le_refl _) HOWN.out
   have hrw4:=HKR.out _ _ _ _ _ _ (Nat.le_refl _) HRW.out
   refine hK _ _ ⟨cell_of_row _ _ 2 _ _ _ hx4,con_r hr4⟩ (fun hHeld=>?_)
   refine wpAnyH_ready (rs:=[11]) (by kernel_rfl) (by simp) ?_
   refine AllReadyH.cons rfl (fun K hK=>?_) AllReadyH.nil
   rw [if_pos (by rfl)]
   refine wp_append_own _ _ _ 69 rfl W.heap.size 73 i0 _ 2 24 Tryz.underlying69 hi hz0 hz1 hz2 rfl (by decide) u4 j _ rfl hown4 ⟨w3.heap.size,0,none⟩ 1 1 [.string T,.int .i64 Z] rfl rfl (row_cells hrb) (by simp [Value.oneCell']) (by unfold maxLen;omega) (by omega) hz4 ?_
   intro v5 w5 hv5 hg5 _
   have hob:∀ (k:Nat) (cur:Array Value) (T2:TypeId),T2 ≠ 73 → w4.heap[k]? = some (.cells cur T2 (0,0)) → w5.heap[k]? = some (.cells cur T2 (0,0)):=fun k cur T2 hne hk=>(hg5.block k (lt_heap hk) (fun e=>by
    obtain ⟨c,hc⟩:=own_obj hown4 k e.symm
    rw [hk] at hc
    injection hc with hc
    injection hc with _ hc
    exact hne hc)).trans hk
   have hr5:=hob _ _ _ (by decide) hr4
   have hx5:BLk w5 xb sb 1:=hob _ _ _ (by decide) hx4
   have hge:∀ k,u4.ownBlock = some k → W.heap.size ≤ k:=own_ge hown4
   have hb5:Below W.heap.size w4 w5:=⟨hg5.os,hg5.tape,hg5.output,hg5.size,fun k hk=>hg5.block k (by omega) (fun e=>by have:=hge k e.symm;omega)⟩
   have hs5:=hs4.lowN HNL.out hb5
   have hrw5:w5.ownsRow W.heap.size 117 32 (.slice (some ⟨g,0,none⟩) dl.length sc) dl.length (dl.flatMap DV.enc):=own_same hrw4 (fun k hk _=>by
    obtain ⟨c,hc⟩:=own_obj hrw4 k hk
    exact (hob _ _ _ (by decide) hc).trans hc.symm)
   have hgo5:SGo (sS xb sb cb) s s w w5:=((((HGO.out.trans (SGo.of_below HBO.out)).trans (SGo.of_below hb3)).trans (SGo.of_go hg3)).trans (SGo.of_below hba)).low (by rw [← HZW.out];exact hb5)
   refine hK _ _ ⟨cell_of_row _ _ 2 _ _ _ hx5,con_r hr5⟩ (fun hHeld=>?_)
   simp only [Act.put,List.setIfInBounds_toArray,List.set_cons_zero,List.set_cons_succ]
   refine wpAnyH_take (i:=12) (oi:={ dst:=some 4,op:=Op.assign (Operand.tmp 37),type:=69,pos := "store.go:161",after:=_,guard:=none }) (v:=v5) rfl (by kernel_rfl) (by kernel_rfl) (by kernel_rfl) (fun _ _ _ h=>h) (Or.inl ⟨by rfl,fun _ _=>rfl⟩) (by assumption) ?_
   simp only [Act.put,List.setIfInBounds_toArray,List.set_cons_zero,List.set_cons_succ]
   refine wpAnyH_done (by kernel_rfl) ?_ _
   refine NoPanic.normal ?_
   obtain ⟨so5,sc5,rfl⟩:=own_sl hv5
   have HV5:=hide hv5
   have HGO5:=hide hgo5
   have HX5:=hide hx5
   have HS5:=hide hs5
   have HRW5:=hide hrw5
   have HZ5:=hide (Nat.le_trans hz4 hb5.size)
   clear hv5 hgo5 hx5 hs5 hrw5 hg5 hob hr5 hge hb5 hown4 hrw4 hr4 hx4 hs4 hz4 hrb hba hw4 hr3 hx3 hs3 hg3 hr2 hx2 hs2 hb2 hb3 hS0 hdr u72 i72 hHeld
   go_wp2_with fail
   refine ⟨⟨j + 1,hlt,by simp,?_,HGO5.out,HX5.out,HS5.out,HRW5.out,HZ5.out⟩,by simp only [intOf];omega⟩
   have e9:(dl.take (j + 1)).flatMap (blC s.ds) = (dl.take j).flatMap (blC s.ds) ++ [.string T,.int .i64 Z]:=by
    rw [List.take_add_one,List.getElem?_eq_getElem hlt,List.flatMap_append,← HDD.out]
    show _ ++ (blC s.ds d ++ []) = _
    rw [HBC.out,List.append_nil]
   rw [e9]
   exact HV5.out
  ·have d1:decide (((j:Nat):Int) < ((dl.length:Nat):Int)) = false:=decide_eq_false (by omega)
   have hjn:j = dl.length:=by omega
   subst hjn
   obtain ⟨so5,sc5,rfl⟩:=own_sl HOWN.out
   go_wp2_with fail
   refine leaves_cons (f:=58) (args:=#[.pointer (some ⟨xb,0,none⟩)]) (by simp) (by simp [go_sem]) ?_
   refine (unlock_deferred Tryz.muLib ⟨xb,0,none⟩ .returning _ (cell_of_row _ _ 0 _ _ _ HXL.out) (frozen_of_row _ _ 0 _ _ HXL.out)).mono ?_
   rintro e u' w6 ⟨rfl,rfl,rfl⟩
   have hrow9:wr.ownsRow w.heap.size 73 2 (.slice so5 dl.length sc5) dl.length (dl.flatMap (blC s.ds)):=by
    have:=HOWN.out
    rw [List.take_length] at this
    rwa [← HZW.out]
   exact ⟨_,results_tmp2 rfl _ _ _,_,rfl,own_lock hrow9 HXL.out (by decide),HGO.out.trans SGo.lock,HXL.out.set 0,HSTR.out.lock HXL.out hG⟩
end Go.Proofs.YtncigfibncmioaaGreatDoor
namespace Go.Proofs.YtncigfibncmioaaGreatDoor
open Go.RowKit
theorem row_flat {α:Type} {enc:α → List Value} {k:Nat} (hk:∀ x,(enc x).length = k) {w:World} {B:Nat} {e:TypeId} {v:Value} {l:List α} {n:Nat} (h:w.ownsRow B e k v n (l.flatMap enc)) (hn:n = l.length) {i:Nat} (hi:i < l.length):∃ g c,v = .slice (some ⟨g,0,none⟩) n c ∧ ∀ j x,(enc (l[i]'hi))[j]? = some x → w.cell? ⟨g,i * k + j,none⟩ = some x:=by
 subst hn
 obtain ⟨_,⟨h1,h2⟩ | ⟨g,cap,cur,rfl,_,hg,_,_,hsz,htk⟩⟩:=h
 ·omega
 ·refine ⟨g,cap,rfl,fun j x hx=>?_⟩
  have hjk:j < k:=by
   have:=(List.getElem?_eq_some_iff.1 hx).1
   rwa [hk] at this
  have hlt:i * k + j < l.length * k:=by
   have:(i + 1) * k ≤ l.length * k:=Nat.mul_le_mul_right _ hi
   rw [Nat.add_mul] at this
   omega
  rw [cell_of_row _ _ _ _ _ _ hg]
  have e1:cur[i * k + j]? = (l.flatMap enc)[i * k + j]?:=by
   rw [← htk,List.getElem?_take,if_pos hlt]
   simp
  rw [e1,← List.getElem?_drop,flat_drop hk l i,List.drop_eq_getElem_cons hi,List.flatMap_cons,List.getElem?_append_left (by rw [hk];exact hjk)]
  exact hx
end Go.Proofs.YtncigfibncmioaaGreatDoor
namespace Go.Proofs.YtncigfibncmioaaGreatDoor
set_option maxHeartbeats 1000000
set_option maxRecDepth 100000
open Go.RowKit Go.Shelf Go.Sort Go.Lib Go.Maps
theorem untagged_any (sb:Nat) (s:PSt) (cb tb nc:Nat) (l:List TE) (cl:List (List Nat)) (dl:List DV) (w:World) (h:StW w sb s cb tb nc l.length (cD cl) (tD l)) (hokt:∀ t ∈ l,t.Ok) (hok:∀ d ∈ cl,DigOk d) (hr:RiseK DV.key dl) (hmem:∀ x,x ∈ dl ↔ x.1 ∈ cl) (hsz:cl.length ≤ 100000000) (hsd:dl.length ≤ 100000000) :
  Calls Tryz.prog 119 #[.pointer (some ⟨sb,0,none⟩)] w fun e w'=>∃ v,e = .returned v ∧ w'.ownsRow w.heap.size 117 32 v (unT l dl).length ((unT l dl).flatMap DV.enc) ∧ Below w.heap.size w w':=by
 have HD:=hide (digests_any sb s cb tb nc l.length (tD l) cl dl w h hok hr hmem hsz)
 have hmf:∀ (fn:Fn) (first cap:Array Value) (w:World),(Instr.makeFunc fn first cap).run Tryz.prog w = .ok (.func fn first cap) w:=fun _ _ _ _=>rfl
 have H:=hide h
 have HOK:=hide hokt
 clear h hokt hok hr hmem
 go_enter Tryz.func119,Tryz.ntmps119
 go_wp2_with fail
 refine (HD.out).mono ?_
 rintro _ w1 ⟨v,rfl,hrow,hb⟩
 dsimp only
 obtain ⟨so,sc,rfl⟩:=own_sl hrow
 have HDL:=hide (delD_any sb s cb tb nc (cD cl) l w.heap.size so sc dl w w1 H.out hb (Nat.le_refl _) HOK.out hrow hsd)
 clear hrow hb HD
 go_wp2_with fail
 refine (HDL.out).mono ?_
 rintro _ w2 ⟨v2,rfl,hrow2,hb2⟩
 dsimp only
 have HR2:=hide hrow2
 have HB2:=hide hb2
 clear hrow2 hb2 HDL
 go_wp2_with fail
 go_ret
 exact ⟨_,rfl,HR2.out,HB2.out⟩
end Go.Proofs.YtncigfibncmioaaGreatDoor
