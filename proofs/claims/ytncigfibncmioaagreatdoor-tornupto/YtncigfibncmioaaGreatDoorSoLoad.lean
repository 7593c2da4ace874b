/-
  PROVED HERE: digest.Compare: the order of the digests' bytes.
-/
import Derived.Lib.BytesEntry
import Derived.Test.YtncigfibncmioaaGreatDoorSoEntry
import Derived.Test.YtncigfibncmioaaGreatDoorBmRef
set_option maxHeartbeats 4000000
set_option maxRecDepth 100000
namespace Go.Proofs.YtncigfibncmioaaGreatDoor
open Go.RowKit Go.Shelf Go.Maps Go.Sort Go.Lib
theorem QqE (xs ys:List Nat) (a b:Nat) (ca cb:Nat) (w:World) (ha:w.heap[a]? = some (.cells (ah xs) 117 (0,0))) (hb:w.heap[b]? = some (.cells (ah ys) 117 (0,0))) :
  (Extern.BytealgCompare.compare #[.slice (some ⟨a,0,none⟩) xs.length ca,.slice (some ⟨b,0,none⟩) ys.length cb]).run Tryz.prog w = .ok (.int .i64 (compareBytes (dB xs).data.toList (dB ys).data.toList)) w:=by
 have one:∀ (zs:List Nat) (g:Nat),w.heap[g]? = some (.cells (ah zs) 117 (0,0))->(Extern.Bytes.loadBytes ⟨g,0,none⟩ zs.length .empty).run Tryz.prog w = .ok (dB zs) w:=by
  intro zs g hg;have h1:=run_loadBytesX (P:=Tryz.prog) w (zs.map fun n=>((n:Nat):Int)) ⟨g,0,none⟩ .empty (fun j x hj=>by
   have e:(⟨g,0,none⟩ : Addr).add j=⟨g,j,none⟩:=by unfold Addr.add;split<;>simp_all
   rw [e,cell_of_row _ _ j _ _ _ hg];rw [List.getElem?_map] at hj
   cases hz:zs[j]? with
   | none=>rw [hz] at hj;cases hj
   | some n =>
    rw [hz] at hj;injection hj with hj
    unfold ah;simp [hz,hj])
  rw [List.length_map] at h1;rw [h1];congr 1;apply ByteArray.ext;unfold dB bytesOf;simp
 change Sem.run Tryz.prog (do pure (goInt (Extern.BytealgCompare.cmp (<- Extern.Bytes.bytesOf (.slice (some ⟨a,0,none⟩) xs.length ca)) (<- Extern.Bytes.bytesOf (.slice (some ⟨b,0,none⟩) ys.length cb))))) w=_
 simp only [Extern.Bytes.bytesOf,Sem.run_bind,Sem.run_pure,Result.andThen,one xs a ha,one ys b hb];rw [cmp_eq];rfl
theorem QfX (xs ys:List Nat) (a b:Nat) (ca cb:Nat) (w:World) (ha:w.heap[a]? = some (.cells (ah xs) 117 (0,0))) (hb:w.heap[b]? = some (.cells (ah ys) 117 (0,0))) :
  Calls Tryz.prog 162 #[.slice (some ⟨a,0,none⟩) xs.length ca,.slice (some ⟨b,0,none⟩) ys.length cb] w fun e w'=>e = .returned (.int .i64 (compareBytes (dB xs).data.toList (dB ys).data.toList))/\w'=w:=by
 have HR:=aa (QqE xs ys a b ca cb w ha hb);clear ha hb;go_enter Tryz.func162,Tryz.ntmps162;go_wp2;rw [run_callFunc_extern Tryz.func210 (by kernel_rfl) (by kernel_rfl) (by kernel_rfl) (e:=Extern.BytealgCompare.compare) (by kernel_rfl),HR.out];simp only [Result.andThen];rw [Oper.upon_value];go_wp2;go_ret;exact ⟨rfl,rfl⟩
theorem QjU (x y:DV) (w:World):Calls Tryz.prog 106 #[.agg (DV.enc x).toArray,.agg (DV.enc y).toArray] w fun e w'=>e = .returned (.int .i64 (compareBytes (dB x.1).data.toList (dB y.1).data.toList))/\∃ q os',w'=grow (w.drewN q) os':=by
 obtain ⟨X,hX⟩ : ∃ X,X=(w.alloc (.cells (ah x.1) 117)).alloc (.cells (ah y.1) 117):=⟨_,rfl⟩;have r1:X.drew.heap[w.heap.size]? = some (.cells (ah x.1) 117 (0,0)):=by
  rw [hX];show ((w.alloc (.cells (ah x.1) 117)).alloc (.cells (ah y.1) 117)).heap[w.heap.size]? = _;rw [Below.heap_alloc _ _ _ (by simp)];exact heap_alloc_new _ _
 have r2:X.drew.heap[w.heap.size+1]? = some (.cells (ah y.1) 117 (0,0)):=by
  rw [hX];have:=heap_alloc_new (w.alloc (.cells (ah x.1) 117)) (.cells (ah y.1) 117);rw [size_alloc] at this;exact this
 have wH:=aa (fun ca cb=>QfX x.1 y.1 w.heap.size (w.heap.size+1) ca cb X.drew r1 r2);rw [x.2.1,y.2.1] at wH;have HX:=aa hX;simp only [DV.enc,Array.toArray_toList];clear r1 r2 hX;go_enter Tryz.func106,Tryz.ntmps106;go_upto_region 1 with fail
 rw [<- HX.out]
 go_region_held3 (fun _=>True) (first|trivial|go_keep) ((first|(go_at_call 162;refine (wH.out _ _).mono ?_;rintro _ w1 ⟨rfl,rfl⟩)))
 go_wp2_with fail;go_ret;exact ⟨rfl,1,_,by rw [HX.out,alloc_eq_grow,alloc_eq_grow,grow_grow];rfl⟩
def DV.key (x:DV):ByteArray:=dB x.1
def DV.cf (x y:DV):Int:=compareBytes (dB x.1).data.toList (dB y.1).data.toList
theorem QoI:∀ a b:List UInt8,decide (compareBytes a b<0)=Op.bytesLess a b
 | [],[]=>rfl
 | [],_::_=>rfl
 | _::_,[]=>rfl
 | x::a,y::b=>by
  rw [MG];unfold compareBytes
  by_cases h1:x<y
  ·simp [h1]
  ·by_cases h2:y<x
   ·simp [h1,h2]
   ·simp only [h1,h2,if_false];exact QoI a b
theorem DV.lt (x y:DV):ltOf DV.cf x y=bJ (DV.key x) (DV.key y):=by
 rw [gX];exact QoI _ _
theorem DV.cg (x:DV):(DV.enc x).length=32:=by
 unfold DV.enc;rw [Array.length_toList,aY,x.2.1]
theorem DV.pI (x:DV):∀ v∈DV.enc x,v.oneCell'=true:=fun v hv=>Array.all_eq_true_iff_forall_mem.1 (dQ x.1) v (by simpa [DV.enc] using hv)
instance:Inhabited DV:=⟨⟨Sha.zeros 32,Sha.af _,fun i=>by
 have:∀ x∈Sha.zeros 32,x<256:=by decide
 rw [List.getD_eq_getElem?_getD]
 cases h:(Sha.zeros 32)[i]? with
 | none=>decide
 | some x=>exact this x (List.mem_of_getElem? h)⟩⟩
theorem QqF (blk off size:Nat) (w:World):CmpLays Tryz.prog 106 #[] DV.enc 32 DV.cf blk off size w:=fun _ _ _ _ x y=>QjU x y _
theorem QoJ (B:Nat) (so:Option Addr) (sc:Nat) (l ts:List DV) (w:World) (h:w.ownsRow B 117 32 (.slice so ts.length sc) ts.length (ts.flatMap DV.enc)) (hl:aq DV.key l) (hn:ts.Nodup) (hm:∀ x,x∈ts ↔ x∈l) (hsz:ts.length<=1000000000) :
  Calls Tryz.prog 160 #[.slice so ts.length sc,.func (.func 106) #[] #[]] w fun e w'=>e = .returned (.tuple #[])/\w'.ownsRow B 117 32 (.slice so l.length sc) l.length (l.flatMap DV.enc)/\w.grownBy w' (Value.slice so ts.length sc).ownBlock/\l.length=ts.length:=by
 have hlen:l.length=ts.length:=Nat.le_antisymm (xo (Ep hl) (fun x hx=>(hm x).2 hx)) (xo hn (fun x hx=>(hm x).1 hx));have h':=h;obtain ⟨_,⟨h1,h2⟩|⟨g,cap,cur,h1,hB,hg,_⟩⟩:=h'
 ·injection h1 with h1 Uq Hf
  subst h1;subst Hf;have Hg:ts = []:=List.length_eq_zero_iff.1 h2;subst Hg;have hl0:l = []:=List.length_eq_zero_iff.1 hlen;subst hl0;exact (Qpm none 0 0 (by decide) _ w).mono fun e w' ⟨he,hw⟩=>⟨he,by rw [hw];exact h,by rw [hw];exact ⟨rfl,rfl,rfl,Nat.le_refl _,fun _ _ _=>rfl⟩,rfl⟩
 ·injection h1 with h1 Uq Hf
  subst h1;subst Hf;have eg:∀ args w,(callFunc 106 args).run Tryz.prog w = .ok (.enter 106 args) w:=enters_of Tryz.func106 (by kernel_rfl) rfl;have hcon:=AnyQ.slices_SortFunc Tryz.Hh 32 Tryz.isAgg117 Tryz.sizeOf117 DV.enc DV.cg DV.pI DV.cf (Qj2 DV.lt) 106 #[] g 0 sc ts.toArray w eg (QqF g 0 _ w) (Qj1 DV.cg (by decide) h) (ax hg) (by simp;omega);rw [show ts.toArray.size=ts.length by simp] at hcon;refine hcon.mono fun e w' ⟨he,d',n,os,hp,hs,hw⟩=>?_
  have hd:=QoY DV.lt hl hn hm (by simpa using hp) (by simpa using hs);have rR:d'=l.toArray:=by rw [<- hd]
  subst rR;obtain ⟨r1,r2⟩:=QhV (n:=n) (os:=os) DV.cg (by decide) h hlen;rw [<- hw] at r1 r2;exact ⟨he,r1,r2,hlen⟩
open Go.RowKit Go.Shelf Go.Sort Go.Lib Go.Maps
theorem QfY (tb nn Bm:Nat) (cl:List (List Nat)) (dl:List DV) (w:World) (h:CM w tb nn (cD cl)) (hm:w.cell? ⟨Bm,0,none⟩=some (.map (some tb))) (aF:∀ d∈cl,gz d) (hr:aq DV.key dl) (bc:∀ x,x∈dl ↔ x.1∈cl) (hsz:cl.length<=100000000) :
  Calls Tryz.prog 104 #[.func (.func 161) #[] #[.pointer (some ⟨Bm,0,none⟩)],.func (.func 106) #[] #[]] w fun e w'=>∃ v,e = .returned v/\w'.ownsRow w.heap.size 117 32 v dl.length (dl.flatMap DV.enc)/\Below w.heap.size w w':=by
 have Uy:aq dK cl:=GQ h rY;have a8:dl.length<=cl.length:=by
  have:=xo (l:=dl.map (·.1)) (m:=cl) (by
   have h1:(dl.map (·.1)).Pairwise (·≠·):=by
    rw [List.pairwise_map];exact (Ep hr).imp fun {a b} hab e=>hab (Subtype.ext e)
   exact h1) (fun x hx=>by
   obtain ⟨y,hy,rfl⟩:=List.mem_map.1 hx;exact (bc y).1 hy)
  rwa [List.length_map] at this
 have HC:=aa (callsIn_wide.1 (QkN 8 (by decide) 161 #[.pointer (some ⟨Bm,0,none⟩)] (enters_of Tryz.func161 (by kernel_rfl) rfl) (Uz cl) cl.length hsz w (QkO Fence.wide 6 trivial rfl (by decide) Bm tb nn cl aF w hm h)));have HR:=aa hr;have HM:=aa bc;clear h hm hr bc Uy aF;go_enter Tryz.func104,Tryz.ntmps104;go_wp2_with fail;refine (HC.out).mono ?_;rintro _ w1 ⟨v,xs,rfl,hV,hrow,hb⟩;dsimp only;obtain ⟨so,sc,rfl⟩:=jG hrow;have wz:∀ x,x∈xs ↔ x∈dl:=fun x=>(hV.2 x).trans (HM.out x).symm
 have hlen:dl.length=xs.length:=Nat.le_antisymm (xo (Ep HR.out) (fun x hx=>(wz x).2 hx)) (xo hV.1 (fun x hx=>(wz x).1 hx));have DR:=aa (QoJ w.heap.size so sc dl xs w1 hrow HR.out hV.1 wz (by omega));have HG:=aa (fun k hk=>su hrow k hk);have HB:=aa hb;clear hrow hV hb HC wz hlen;go_wp2_with fail;refine (DR.out).mono ?_;rintro _ w2 ⟨rfl,hrow2,hg2,hl2⟩;dsimp only;rw [<- hl2];have fL:=aa hrow2;have cL:=aa (HB.out.grown hg2 HB.out.size (fun k e=>HG.out k e));clear hrow2 hg2 hl2 DR HG HB;go_wp2_with fail;go_ret;exact ⟨_,rfl,fL.out,cL.out⟩
theorem W9 (sb:Nat) (s:ai) (cb tb nc nt:Nat) (Dt:DataW Value) (cl:List (List Nat)) (dl:List DV) (w:World) (h:aI w sb s cb tb nc nt (cD cl) Dt) (aF:∀ d∈cl,gz d) (hr:aq DV.key dl) (bc:∀ x,x∈dl ↔ x.1∈cl) (hsz:cl.length<=100000000) :
  Calls Tryz.prog 65 #[.pointer (some ⟨sb,0,none⟩)] w fun e w'=>∃ v,e = .returned v/\w'.ownsRow w.heap.size 117 32 v dl.length (dl.flatMap DV.enc)/\Below w.heap.size w w':=by
 have MV:=aa (callsIn_wide.1 (keys_in Fence.wide 3 trivial rfl (some cb) w));have c1:=cell_of_row _ _ 1 _ _ _ h.blk;have H:=aa h.cm;have Fb:∀ (fn:Fn) (first cap:Array Value) (w:World),(Instr.makeFunc fn first cap).run Tryz.prog w = .ok (.func fn first cap) w:=fun _ _ _ _=>rfl
 have fH:=aa aF;have HR:=aa hr;have HM:=aa bc;clear h aF hr bc;go_enter Tryz.func65,Tryz.ntmps65;go_wp2_with fail;refine (MV.out).mono ?_;rintro _ w1 ⟨rfl,eR⟩;dsimp only;have hb1:Below w.heap.size w w1:=by rw [eR];exact (Below.refl _ _).alloc (Nat.le_refl _) _
 have hx1:w1.heap[w.heap.size]? = some (.cells #[.map (some cb)] 156 (0,0)):=by rw [eR];exact heap_alloc_new _ _
 have MW:=aa (QfY cb nc w.heap.size cl dl w1 (jP H.out (hb1.block _ H.out.lt)) (cell_of_row _ _ 0 _ _ _ hx1) fH.out HR.out HM.out hsz);have br:=aa hb1;clear hb1 hx1 eR MV;go_wp2_with fail;refine (MW.out).mono ?_;rintro _ w2 ⟨v,rfl,hrow,hb⟩;dsimp only;have HB:=aa hb;have eE:=aa hrow;clear hb hrow MW;go_wp2_with fail;go_ret;have hz:=br.out.size;exact ⟨_,rfl,eE.out.ez hz,br.out.trans (HB.out.mono hz)⟩
open Go.RowKit Go.Shelf Go.Sort Go.Lib Go.Maps
theorem Od {w:World} {B g n sc:Nat} {dl:List DV} (h:w.ownsRow B 117 32 (.slice (some ⟨g,0,none⟩) n sc) dl.length (dl.flatMap DV.enc)) {i:Nat} (hi:i<dl.length):w.rangeAt g (i * 32) (ah (dl[i]'hi).1).toList:=by
 obtain ⟨_,⟨h1,_⟩|⟨g',cap',cur,h1,_,hg,_,_,hsz,cN⟩⟩:=h
 ·cases h1
 ·injection h1 with h1 _ h2
  injection h1 with h1
  injection h1 with h1
  subst h1;intro j v hj;have aaA:j<32:=by
   have:=(List.getElem?_eq_some_iff.1 hj).1;rwa [Array.length_toList,aY,(dl[i]'hi).2.1] at this
  rw [cell_of_row _ _ _ _ _ _ hg];have hlt:i * 32+j<dl.length * 32:=by
   have:(i+1) * 32<=dl.length * 32:=Nat.mul_le_mul_right _ hi;omega
  have e1:cur[i * 32+j]? = (dl.flatMap DV.enc)[i * 32+j]?:=by
   rw [<- cN,List.getElem?_take,if_pos hlt];simp
  rw [e1,JJ DV.enc 32 DV.cg (by decide) dl _ hlt];have e2:(i * 32+j) / 32=i:=by omega
  have e3:(i * 32+j) % 32=j:=by omega
  rw [e2,e3,getElem!_pos dl i hi];have e4:(DV.enc (dl[i]'hi))[j]? = some v:=hj;obtain ⟨h5,h6⟩:=List.getElem?_eq_some_iff.1 e4;rw [getElem!_pos _ j h5,h6]
def ua (l:List TE) (dl:List DV):Int:=match dl.findIdx? (fun x=>bD x.1 l) with|some i=>(i:Int)|none => -1
theorem QqV (sb:Nat) (s:ai) (cb tb nc:Nat) (Dc:DataW Value) (l:List TE) (B:Nat) (so:Option Addr) (sc:Nat) (dl:List DV) (w:World) (h:aI w sb s cb tb nc l.length Dc (tD l)) (aF:∀ t∈l,t.Ok) (hrow:w.ownsRow B 117 32 (.slice so dl.length sc) dl.length (dl.flatMap DV.enc)) (hsz:dl.length<=100000000) :
  Calls Tryz.prog 214 #[.slice so dl.length sc,.func (.func 75) #[.pointer (some ⟨sb,0,none⟩)] #[]] w fun e w'=>e = .returned (.int .i64 (ua l dl))/\Below w.heap.size w w':=by
 have H:=aa h;have fH:=aa aF;have aA:=aa hrow;clear h aF hrow;go_enter Tryz.func214,Tryz.ntmps214;go_wp2_with fail;have Dm:0<dl.length->∃ g,so=some ⟨g,0,none⟩:=fun hp=>by
  obtain ⟨_,⟨h1,h2⟩|⟨g,cap,cur,h1,_⟩⟩:=aA.out
  ·omega
  ·injection h1 with h1
   exact ⟨g,h1⟩
 have wG:=aa Dm;clear Dm
 go_loopw [8] (fun iv wr=>∃ (j:Nat),j<=dl.length/\iv = .int .i64 ((j:Nat):Int)/\Below w.heap.size w wr/\(∀ i (hi:i<dl.length),i<j->bD (dl[i]'hi).1 l=false)) (fun iv _=>dl.length - (intOf iv).toNat)
 case atStart=>exact ⟨0,Nat.zero_le _,rfl,Below.refl _ _,fun i hi h=>by omega⟩
 case round =>
  obtain ⟨j,hj,rfl,hb,Gb⟩:=hrel;have HB:=aa hb;have Ll:=aa Gb;clear hb Gb
  by_cases hlt:j<dl.length
  ·obtain ⟨g,hg⟩:=wG.out (by omega);subst hg;have hst:=H.out.later HB.out;have iI:=Od (gA aA.out HB.out) hlt;obtain ⟨d,hd⟩ : ∃ d,d=(dl[j]'hlt):=⟨_,rfl⟩;rw [<- hd] at iI;have gm:=aa iI;have eQ:=aa (Og sb s cb tb nc Dc l d.1 wr hst fH.out d.2.1 d.2.2);have HD:=aa hd;have a8:=d.2.1;have d1:decide (((j:Nat):Int)<((dl.length:Nat):Int))=true:=decide_eq_true (by omega);clear hst iI hd;go_wp2_with (first|(refine wpList_load_mid rfl 117 _ rfl g (j * 32) rfl (ah d.1).toList _ gm.out Tryz.underlying117 rfl (jl d.1 a8) ?_));refine (eQ.out).mono ?_;rintro _ w2 ⟨rfl,hb2⟩;dsimp only;have cL:=aa (HB.out.trans (hb2.mono HB.out.size));clear hb2 eQ
   cases CU:bD d.1 l with
   | true =>
    have iN:dl.findIdx? (fun x=>bD x.1 l)=some j:=by
     rw [List.findIdx?_eq_some_iff_getElem];refine ⟨hlt,by rw [<- HD.out];exact CU,fun i hi=>?_⟩;rw [Ll.out i (by omega) hi];decide
    have HIX:=aa iN;clear iN CU;go_wp2_with fail;go_ret;refine ⟨?_,cL.out⟩;unfold ua;rw [HIX.out];rfl
   | false =>
    have MO:=aa CU;clear CU;go_wp2_with fail;refine ⟨⟨j+1,hlt,by simp,cL.out,fun i hi JG=>?_⟩,by simp only [intOf];omega⟩
    by_cases U8:i<j
    ·exact Ll.out i hi U8
    ·have:i=j:=by omega
     subst this;rw [<- HD.out];exact MO.out
  ·have ly:j=dl.length:=by omega
   have d1:decide (((j:Nat):Int)<((dl.length:Nat):Int))=false:=decide_eq_false (by omega);have Ut:=aa ly;clear ly;go_wp2_with fail;go_ret;refine ⟨?_,HB.out⟩;have:dl.findIdx? (fun x=>bD x.1 l)=none:=by
    rw [List.findIdx?_eq_none_iff];intro x hx;obtain ⟨i,hi,rfl⟩:=List.mem_iff_getElem.1 hx;exact Ll.out i hi (by rw [Ut.out];exact hi)
   unfold ua;rw [this];rfl
open Go.RowKit Go.Shelf Go.Sort Go.Lib Go.Maps
section
variable {α:Type} {enc:α->List Value} {k:Nat}
theorem QjV (hk:∀ x,(enc x).length=k):∀ (l:List α) (i:Nat),(l.flatMap enc).take (i * k)=(l.take i).flatMap enc
 | [],i=>by simp
 | x::l,0=>by simp
 | x::l,i+1=>by
  rw [List.flatMap_cons,List.take_succ_cons,List.flatMap_cons,<- QjV hk l i,List.take_append,hk,List.take_of_length_le (by rw [hk,Nat.add_mul];omega)];congr 2;rw [Nat.add_mul];omega
theorem QjW (hk:∀ x,(enc x).length=k):∀ (l:List α) (i:Nat),(l.flatMap enc).drop (i * k)=(l.drop i).flatMap enc
 | [],i=>by simp
 | x::l,0=>by simp
 | x::l,i+1=>by
  rw [List.flatMap_cons,List.drop_succ_cons,<- QjW hk l i,List.drop_append,hk,List.drop_of_length_le (by rw [hk,Nat.add_mul];omega),List.nil_append];congr 1;rw [Nat.add_mul];omega
end
theorem QqH {w:World} {B g n sc:Nat} {xs:List DV} (h:w.ownsRow B 117 32 (.slice (some ⟨g,0,none⟩) n sc) n (xs.flatMap DV.enc)) (hn:xs.length=n) {i:Nat} (hi:i<n) (v:DV) :
  (w.setCells g (i * 32) (DV.enc v)).ownsRow B 117 32 (.slice (some ⟨g,0,none⟩) n sc) n ((xs.set i v).flatMap DV.enc)/\w.there g (i * 32) (DV.enc v).length:=by
 obtain ⟨hl,⟨h1,_⟩|⟨g',cap',cur,h1,hB,hg,hc,hcm,hsz,cN⟩⟩:=h
 ·cases h1
 ·injection h1 with h1 _ h2
  injection h1 with h1
  injection h1 with h1
  subst h1;subst h2;have hle:(i+1) * 32<=sc * 32:=Nat.mul_le_mul_right _ (by omega);have aau:(i+1) * 32<=n * 32:=Nat.mul_le_mul_right _ hi;have hlen:=DV.cg v;obtain ⟨cur',r1,r2,r3,r4,r5⟩:=KO g 117 (DV.enc v) (i * 32) w cur hg (by rw [hlen,hsz];omega);refine ⟨⟨by rw [Hk DV.enc 32 DV.cg,List.length_set,hn],.inr ⟨g,sc,cur',rfl,hB,r1,hc,hcm,by rw [r2,hsz],?_⟩⟩,fun j hj=>?_⟩
  ·refine List.ext_getElem? fun t=>?_
   by_cases ht:t<n * 32
   ·rw [List.getElem?_take,if_pos ht,Array.getElem?_toList,JJ DV.enc 32 DV.cg (by decide) _ t (by rw [List.length_set,hn];exact ht)];have hold:cur[t]? = some ((DV.enc xs[t / 32]!)[t % 32]!):=by
     rw [<- JJ DV.enc 32 DV.cg (by decide) xs t (by rw [hn];exact ht),<- cN,List.getElem?_take,if_pos ht,Array.getElem?_toList]
    have hq:t / 32<xs.length:=by omega
    by_cases Ml:t / 32=i
    ·have e1:(xs.set i v)[t / 32]! = v:=by
      rw [getElem!_pos (xs.set i v) (t / 32) (by rw [List.length_set];exact hq)];simp [Ml]
     rw [e1];have e2:i * 32+t % 32=t:=by omega
     have:=r4 (t % 32) (by rw [hlen];omega);rw [e2] at this;rw [this,List.getElem?_eq_getElem (by rw [hlen];omega),getElem!_pos (DV.enc v) (t % 32) (by rw [hlen];omega)]
    ·have e1:(xs.set i v)[t / 32]! = xs[t / 32]! := by
      rw [getElem!_pos (xs.set i v) (t / 32) (by rw [List.length_set];exact hq),getElem!_pos xs (t / 32) hq];rw [List.getElem_set_ne (Ne.symm Ml)]
     rw [e1,<- hold]
     rcases Nat.lt_or_ge t (i * 32) with hlt|rM
     ·exact r3 t hlt
     ·exact r5 t (by rw [hlen];omega)
   ·rw [List.getElem?_eq_none (by rw [List.length_take];exact Nat.le_trans (Nat.min_le_left _ _) (by omega)),List.getElem?_eq_none (by rw [Hk DV.enc 32 DV.cg,List.length_set,hn];omega)]
  ·have pY:i * 32+j<cur.size:=by rw [hsz];rw [hlen] at hj;omega
   exact ⟨by rw [cell_of_row _ _ _ _ _ _ hg,Array.getElem?_eq_getElem pY];rfl,frozen_of_row _ _ _ _ _ hg⟩
theorem QqI {w:World} {B g n sc:Nat} {xs:List DV} (h:w.ownsRow B 117 32 (.slice (some ⟨g,0,none⟩) n sc) n (xs.flatMap DV.enc)) (hn:xs.length=n) {i:Nat} (hi:i<=n) (zs:List Value) (hz:zs.length=(n - i) * 32) :
  (w.setCells g (i * 32) zs).ownsRow B 117 32 (.slice (some ⟨g,0,none⟩) i sc) i ((xs.take i).flatMap DV.enc)/\w.there g (i * 32) zs.length/\B<=g:=by
 obtain ⟨hl,⟨h1,_⟩|⟨g',cap',cur,h1,hB,hg,hc,hcm,hsz,cN⟩⟩:=h
 ·cases h1
 ·injection h1 with h1 _ h2
  injection h1 with h1
  injection h1 with h1
  subst h1;subst h2;have hle:n * 32<=sc * 32:=Nat.mul_le_mul_right _ hc;have qV:i * 32+(n - i) * 32=n * 32:=by rw [<- Nat.add_mul];congr 1;omega
  obtain ⟨cur',r1,r2,r3,r4,r5⟩:=KO g 117 zs (i * 32) w cur hg (by rw [hz,hsz];omega);refine ⟨⟨by rw [Hk DV.enc 32 DV.cg,List.length_take,hn,Nat.min_eq_left hi],.inr ⟨g,sc,cur',rfl,hB,r1,by omega,hcm,by rw [r2,hsz],?_⟩⟩,fun j hj=>?_,hB⟩
  ·rw [<- QjV DV.cg,<- cN];refine List.ext_getElem? fun t=>?_
   rw [List.getElem?_take,List.getElem?_take]
   by_cases ht:t<i * 32
   ·rw [if_pos ht,if_pos ht,Array.getElem?_toList,r3 t ht,List.getElem?_take,if_pos (by omega),Array.getElem?_toList]
   ·rw [if_neg ht,if_neg ht]
  ·have pY:i * 32+j<cur.size:=by rw [hsz];rw [hz] at hj;omega
   exact ⟨by rw [cell_of_row _ _ _ _ _ _ hg,Array.getElem?_eq_getElem pY];rfl,frozen_of_row _ _ _ _ _ hg⟩
def zD (m:Nat):List Value:=(Builtin.zeroCells (ah (Sha.zeros 32)) m).toList
theorem QuG (m:Nat):(zD m).length=m * 32:=by
 unfold zD Builtin.zeroCells;simp [aY,Sha.af]
theorem QuH (m:Nat):∀ v∈zD m,v.oneCell'=true:=by
 intro v hv;unfold zD Builtin.zeroCells at hv;simp only [Array.mem_toList_iff,Array.mem_map] at hv;obtain ⟨t,_,rfl⟩:=hv;have hlt:t % (ah (Sha.zeros 32)).size<(ah (Sha.zeros 32)).size:=Nat.mod_lt _ (by rw [aY,Sha.af];decide);rw [getElem!_pos (ah (Sha.zeros 32)) _ hlt];exact Array.all_eq_true_iff_forall_mem.1 (dQ _) _ (Array.getElem_mem hlt)
theorem QmU (w:World) (ty:TypeId) (g i m c:Nat) (hm:0<m) (ht:w.there g (i * 32) (zD m).length) :
  (Builtin.clear_ #[121] ty #[.slice (some ⟨g,i * 32,none⟩) m c]).run Tryz.prog w = .ok (.tuple #[]) (w.setCells g (i * 32) (zD m)):=by
 have hst:=run_storeCells_cells (P:=Tryz.prog) g (i * 32) (zD m) 0 w (fun j hj=>by simpa using (ht j hj).1) (fun j hj=>by simpa using (ht j hj).2) (QuH m);simp only [Nat.add_zero] at hst;have hzv:=(zero_of_info Tryz.bY).1;obtain ⟨q,rfl⟩ : ∃ q,m=q+1:=⟨m - 1,by omega⟩;have e:(Builtin.zeroCells (Value.agg (ah (Sha.zeros 32))).cells (q+1)).toList=zD (q+1):=rfl;simp [Builtin.clear_,run_underlying Tryz.underlying121,hzv,e,hst]
def dp (l:List TE) (dl:List DV):List DV:=dl.filter fun x=>!bD x.1 l
theorem QqJ (sb:Nat) (s:ai) (cb tb nc:Nat) (Dc:DataW Value) (l:List TE) (B:Nat) (so:Option Addr) (sc:Nat) (dl:List DV) (w0 w:World) (h0:aI w0 sb s cb tb nc l.length Dc (tD l)) (hb0:Below w0.heap.size w0 w) (rI:w0.heap.size<=B) (aF:∀ t∈l,t.Ok) (hrow:w.ownsRow B 117 32 (.slice so dl.length sc) dl.length (dl.flatMap DV.enc)) (hsz:dl.length<=100000000) :
  Calls Tryz.prog 170 #[.slice so dl.length sc,.func (.func 75) #[.pointer (some ⟨sb,0,none⟩)] #[]] w fun e w'=>∃ v,e = .returned v/\w'.ownsRow B 117 32 v (dp l dl).length ((dp l dl).flatMap DV.enc)/\Below w0.heap.size w0 w':=by
 have HI:=aa (QqV sb s cb tb nc Dc l B so sc dl w (h0.later hb0) aF hrow hsz);have H0:=aa h0;have fH:=aa aF;have aA:=aa hrow;have ir:=aa hb0;clear h0 aF hrow hb0
 cases iN:dl.findIdx? (fun x=>bD x.1 l) with
 | none =>
  have hq:ua l dl = -1:=by unfold ua;rw [iN]
  rw [hq] at HI;have JA:dp l dl=dl:=by
   unfold dp;rw [List.filter_eq_self];intro x hx;rw [List.findIdx?_eq_none_iff.1 iN x hx];rfl
  rw [JA];clear hq iN JA;go_enter Tryz.func170,Tryz.ntmps170;go_wp2_with fail;refine (HI.out).mono ?_;rintro _ w1 ⟨rfl,hb⟩;dsimp only;have br:=aa hb;clear hb HI;go_wp2_with fail;go_ret;exact ⟨_,rfl,gA aA.out br.out,ir.out.trans (br.out.mono ir.out.size)⟩
 | some i0 =>
  have hq:ua l dl=(i0:Int):=by unfold ua;rw [iN]
  rw [hq] at HI;obtain ⟨hi0,PR,MK⟩:=List.findIdx?_eq_some_iff_getElem.1 iN;obtain ⟨g,hg⟩ : ∃ g,so=some ⟨g,0,none⟩:=by
   obtain ⟨_,⟨h1,h2⟩|⟨g,cap,cur,h1,_⟩⟩:=aA.out
   ·omega
   ·injection h1 with h1
    exact ⟨g,h1⟩
  subst hg;have zR:dl.take i0=dp l (dl.take (i0+1)):=by
   unfold dp;rw [List.take_add_one,List.filter_append,List.getElem?_eq_getElem hi0];have e1:List.filter (fun x=>!bD x.1 l) (dl.take i0)=dl.take i0:=by
    rw [List.filter_eq_self];intro x hx;obtain ⟨i,hi,rfl⟩:=List.mem_iff_getElem.1 hx;rw [List.length_take] at hi;have:=MK i (by omega);rw [List.getElem_take];simpa using this
   rw [e1];simp [PR]
  have HST:=aa zR;have Bq:((i0:Int) == -1)=false:=by simp
  have vN:¬ ((i0:Nat):Int) = -1:=by omega
  clear hq iN PR MK zR;go_enter Tryz.func170,Tryz.ntmps170;go_wp2_with fail;refine (HI.out).mono ?_;rintro _ w1 ⟨rfl,hb⟩;dsimp only;have br:=aa (ir.out.trans (hb.mono ir.out.size));have ki:=aa (gA aA.out hb);clear hb HI aA ir;go_wp2_with fail;have Ur:dl.length<=sc:=by
   obtain ⟨_,⟨h1,h2⟩|⟨g',cap,cur,h1,_,_,hc,_⟩⟩:=ki.out
   ·cases h1
   ·injection h1 with _ _ h1
    rw [h1];exact hc
  have aav:sc<=maxLen:=by
   obtain ⟨_,⟨h1,h2⟩|⟨g',cap,cur,h1,_,_,_,hc,_⟩⟩:=ki.out
   ·cases h1
   ·injection h1 with _ _ h1
    rw [h1];exact hc
  obtain ⟨n,hn⟩ : ∃ n,n=dl.length:=⟨_,rfl⟩;rw [<- hn] at hi0 hsz Ur ki ⊢;have HN:=aa hn;clear hn Bq vN;have ji:=(zero_of_info Tryz.bY).1
  go_loopw [5,6] (fun iv jv wr=>∃ (i j:Nat) (xs:List DV),iv = .int .i64 ((i:Nat):Int)/\jv = .int .i64 ((j:Nat):Int)/\i<j/\j<=n/\xs.length=n/\xs.take i=dp l (dl.take j)/\xs.drop j=dl.drop j/\wr.ownsRow B 117 32 (.slice (some ⟨g,0,none⟩) n sc) n (xs.flatMap DV.enc)/\Below w0.heap.size w0 wr) (fun _ jv _=>n - (intOf jv).toNat)
  case atStart=>exact ⟨i0,i0+1,dl,rfl,by simp,by omega,by omega,HN.out.symm,HST.out,rfl,ki.out,br.out⟩
  case round =>
   obtain ⟨i,j,xs,rfl,rfl,JG,ly,Ka,cN,hdp,kF,lu⟩:=hrel;have nu:=aa cN;have HDP:=aa hdp;have eE:=aa kF;have gG:=aa lu;have sr:=aa Ka;clear cN hdp kF lu Ka ki br HST
   by_cases hlt:j<n
   ·have PS:j<xs.length:=by rw [sr.out];exact hlt
    have PT:j<dl.length:=by rw [<- HN.out];exact hlt
    have hxd:xs[j]'PS=dl[j]'PT:=by
     have:=congrArg (fun q=>q[0]?) HDP.out;simp only [List.getElem?_drop,Nat.add_zero,List.getElem?_eq_getElem PS,List.getElem?_eq_getElem PT] at this;injection this
    have iI:=Od (by rw [sr.out];exact eE.out) PS;obtain ⟨d,hd⟩ : ∃ d,d=(xs[j]'PS):=⟨_,rfl⟩;rw [<- hd] at iI;have hdd:d=dl[j]'PT:=hd.trans hxd;have gm:=aa iI;have iB:=aa hdd;have a8:=d.2.1;have d1:decide (((j:Nat):Int)<((n:Nat):Int))=true:=decide_eq_true (by omega);obtain ⟨X,hX⟩ : ∃ X,X=wr.alloc (.cells (ah d.1) 117):=⟨_,rfl⟩;have jH:Below wr.heap.size wr X:=by rw [hX];exact (Below.refl _ _).alloc (Nat.le_refl _) _
    have iC:X.heap[wr.heap.size]? = some (.cells (ah d.1) 117 (0,0)):=by rw [hX];exact heap_alloc_new _ _
    have e8:=aa iC;have HX:=aa hX;have nI:=aa (gG.out.trans (jH.mono gG.out.size));have uu:=aa (gA eE.out jH);have eQ:=aa (Og sb s cb tb nc Dc l d.1 X (H0.out.later nI.out) fH.out d.2.1 d.2.2);clear iI hd hxd hdd hX jH iC;go_wp2_with (first|(refine wpList_load_mid rfl 117 _ rfl g (j * 32) rfl (ah d.1).toList _ gm.out Tryz.underlying117 rfl (jl d.1 a8) ?_)|(refine wpList_store_row rfl 117 _ _ rfl wr.heap.size _ rfl rfl 117 _ (heap_alloc_new _ _) (bL _ a8) (by rw [aY,aY,a8];rfl) (dQ _) ?_;rw [World.setRow_alloc_new,<- HX.out])|(refine wpList_load_row rfl 117 _ rfl wr.heap.size rfl 117 _ _ _ e8.out Tryz.underlying117 rfl (bL _ a8) ?_));refine (eQ.out).mono ?_;rintro _ w2 ⟨rfl,hb2⟩;dsimp only;have hr2:=gA uu.out hb2;have ML:=nI.out.trans (hb2.mono nI.out.size);have MM:=(hb2.block _ (ax e8.out)).trans e8.out;have fL:=aa hr2;have MN:=aa ML;have Us:=aa MM;obtain ⟨o1,o2⟩:=QqH hr2 sr.out (show i<n by omega) d;have wN:=aa o1;have qi:=aa o2;have hgB:B<=g:=su hr2 g rfl;have EA:xs.drop (j+1)=dl.drop (j+1):=by
     have:=congrArg (fun q=>q.drop 1) HDP.out;simpa [List.drop_drop] using this
    have Ey:=aa EA;have qJ:dl.take (j+1)=dl.take j ++ [d]:=by
     rw [List.take_add_one,List.getElem?_eq_getElem PT,iB.out];rfl
    have PU:=aa qJ;clear hb2 hr2 ML MM o1 o2 EA qJ eQ
    cases CU:bD d.1 l with
    | true =>
     have MO:=aa CU;clear CU;go_wp2_with fail;refine ⟨⟨i,j+1,xs,rfl,by simp,by omega,hlt,sr.out,?_,Ey.out,fL.out,MN.out⟩,by simp only [intOf];omega⟩;rw [PU.out,nu.out];unfold dp;rw [List.filter_append];simp [MO.out]
    | false =>
     have MO:=aa CU;clear CU;go_wp2_with (first|(refine wpList_load_row rfl 117 _ rfl wr.heap.size rfl 117 _ _ _ Us.out Tryz.underlying117 rfl (bL _ a8) ?_)|(refine wpList_store_mid rfl 117 _ _ rfl g (i * 32) (ah d.1) rfl rfl qi.out (bL _ a8) (dQ _) ?_));refine ⟨⟨i+1,j+1,xs.set i d,by simp,by simp,by omega,hlt,by rw [List.length_set];exact sr.out,?_,?_,wN.out,MN.out.trans (Au (Nat.le_trans rI hgB) _ _ _)⟩,by simp only [intOf];omega⟩
     ·have iN:i<xs.length:=by rw [sr.out];omega
      rw [List.take_add_one,List.take_set_of_le (Nat.le_refl _),nu.out,PU.out];unfold dp;rw [List.filter_append];simp [MO.out,iN]
     ·rw [List.drop_set_of_lt (by omega)];exact Ey.out
   ·have d1:decide (((j:Nat):Int)<((n:Nat):Int))=false:=decide_eq_false (by omega);have MP:j=n:=by omega
    have Ut:=aa MP;obtain ⟨c1,c2,c3⟩:=QqI eE.out sr.out (show i<=n by omega) (zD (n - i)) (QuG _);have aaw:=fun ty c=>QmU wr ty g i (n - i) c (by omega) c2
    have pR:=aa c1;have Sb:=aa c3;clear c1 c2 c3 MP;go_wp2_with fail;go_ret;have hu:dp l dl=xs.take i:=by
     rw [nu.out,Ut.out,HN.out,List.take_length]
    have hl:(xs.take i).length=i:=by rw [List.length_take,sr.out];omega
    rw [hu,hl];exact ⟨_,rfl,pR.out,gG.out.trans (Au (Nat.le_trans rI Sb.out) _ _ _)⟩
open Go.RowKit Go.MuLone
def xA (D:DS) (x:DV):List Value:=[.string (fV x.1),.int .i64 (((cr D (bW x.1)).getD ⟨#[]⟩).size:Int)]
theorem aI.jO {W W':World} {sb:Nat} {s:ai} {cb tb nc nt N:Nat} {Dc Dt:DataW Value} (h:aI W sb s cb tb nc nt Dc Dt) (hN:(∀ k,s.own k->k<N)/\sb<N/\cb<N/\tb<N/\∀ k,gj k->k<N) (hb:Below N W W'):aI W' sb s cb tb nc nt Dc Dt :=
 ⟨h.ay.same (fun k hk=>hb.block k (hN.1 k hk)),h.gl.same hb.size (fun k hk=>hb.block k (hN.2.2.2.2 k hk)),h.low,(hb.block _ hN.2.1).trans h.blk,jP h.cm (hb.block _ hN.2.2.1),jP h.tm (hb.block _ hN.2.2.2.1),h.sk,h.sq,h.rJ,h.vq,h.rK,h.ne⟩
theorem ar.low {S:Nat->Prop} {s s':ai} {w w1 w2:World} (h:ar S s s' w w1) (hb:Below w.heap.size w1 w2):ar S s s' w w2 :=
 ⟨⟨hb.os.trans h.gr.os,hb.tape.trans h.gr.tape,hb.output.trans h.gr.output,Nat.le_trans h.gr.size hb.size,fun k hk hn=>(hb.block k hk).trans (h.gr.block k hk hn)⟩,h.own,h.b⟩
theorem Tryz.xB:(Tryz.prog.info? 73).map (fun i=>(i.zero,i.size,i.bytes))=some (some (.agg #[.string ⟨#[]⟩,.int .i64 0]),2,24):=by kernel_rfl
set_option linter.unusedSimpArgs false in
theorem Qke (xb sb:Nat) (s:ai) (cb tb nc:Nat) (l:List TE) (cl:List (List Nat)) (dl:List DV) (w:World) (hx:ej w xb sb) (hG:¬ gj xb) (h:aI w sb s cb tb nc l.length (cD cl) (tD l)) (aF:∀ d∈cl,gz d) (hr:aq DV.key dl) (bc:∀ x,x∈dl ↔ x.1∈cl) (hsz:cl.length<=100000000) (xC:dl.length<=1000000) :
  Calls Tryz.prog 32 #[.pointer (some ⟨xb,0,none⟩)] w fun e w'=>∃ v,e = .returned (.tuple #[v,.int .i64 0])/\w'.ownsRow w.heap.size 73 2 v dl.length (dl.flatMap (xA s.ds))/\ar (sS xb sb cb) s s w w'/\ej w' xb sb/\aI w' sb s cb tb nc l.length (cD cl) (tD l):=by
 have hx:dx w xb sb 0:=hx;have c0:w.cell? ⟨xb,0,none⟩=some (.int .i32 0):=cell_of_row _ _ 0 _ _ _ hx;have f0:w.frozen? ⟨xb,0,none⟩=false:=frozen_of_row _ _ 0 _ _ hx;obtain ⟨W,hW⟩ : ∃ W,W=w.setCell ⟨xb,0,none⟩ (.int .i32 1):=⟨_,rfl⟩;have hst:aI W sb s cb tb nc l.length (cD cl) (tD l):=by rw [hW];exact h.lock hx hG
 have bV:dx W xb sb 1:=by rw [hW];exact hx.set 1
 have hfw:ar (sS xb sb cb) s s w W:=by rw [hW];exact ar.lock
 have J9:W.heap.size=w.heap.size:=by rw [hW];simp
 have HD:=aa (W9 sb s cb tb nc l.length (tD l) cl dl W hst aF hr bc hsz);have di:=aa (lock_free Tryz.aX ⟨xb,0,none⟩ w c0 f0);have HW:=aa hW;have HST:=aa hst;have eD:=aa bV;have fW:=aa hfw;have Oc:=aa J9;have Dl:=aa (show (∀ k,s.own k->k<W.heap.size)/\sb<W.heap.size/\cb<W.heap.size/\tb<W.heap.size/\∀ k,gj k->k<W.heap.size from ⟨fun k hk=>hst.ay.lt hk,ax hst.blk,hst.cm.lt,hst.tm.lt,fun k hk=>hst.gl.lt hk⟩);have c2:W.cell? ⟨xb,2,none⟩=some (.pointer (some ⟨sb,0,none⟩)):=cell_of_row _ _ 2 _ _ _ bV;obtain ⟨i0,hi,hz0,hz1,hz2⟩:=info_parts Tryz.xB;have ji:=(zero_of_info Tryz.bY).1;clear hx c0 f0 hst bV hfw hW h aF hr bc J9
 go_enter_defers Tryz.func32,Tryz.ntmps32
 go_wp2_with fail;refine (di.out).mono ?_;rintro _ W1 ⟨rfl,hW1⟩;have hW1:W1=W:=hW1.trans HW.out.symm;rw [hW1];dsimp only;clear hW1 di HW;go_wp2_with fail;refine (HD.out).mono ?_;rintro _ w1 ⟨v,rfl,hrow,hb1⟩;dsimp only;obtain ⟨so,sc,rfl⟩:=jG hrow;have Dm:0<dl.length->∃ g,so=some ⟨g,0,none⟩:=fun hp=>by
  obtain ⟨_,⟨h1,h2⟩|⟨g,cap,cur,h1,_⟩⟩:=hrow
  ·omega
  ·injection h1 with h1
   exact ⟨g,h1⟩
 have wG:=aa Dm;have aA:=aa hrow;have br:=aa hb1;clear Dm hrow hb1 HD c2;go_wp2_with fail
 go_loopw [4,22] (fun lv iv wr=>∃ (j:Nat),j<=dl.length/\iv = .int .i64 ((j:Nat):Int)/\wr.ownsRow W.heap.size 73 2 lv j ((dl.take j).flatMap (xA s.ds))/\ar (sS xb sb cb) s s w wr/\dx wr xb sb 1/\aI wr sb s cb tb nc l.length (cD cl) (tD l)/\wr.ownsRow W.heap.size 117 32 (.slice so dl.length sc) dl.length (dl.flatMap DV.enc)/\W.heap.size<=wr.heap.size) (fun _ iv _=>dl.length - (intOf iv).toNat)
 case atStart=>exact ⟨0,Nat.zero_le _,rfl,World.ownsRow_nil _ _ _ _,fW.out.trans (ar.ae br.out),eD.out.later br.out,HST.out.later br.out,aA.out,br.out.size⟩
 case round =>
  obtain ⟨j,hj,rfl,hown,hgo,Ka,hst,kF,Xa⟩:=hrel;have jk:=aa hown;have cQ:=aa hgo;have sr:=aa Ka;have kG:=aa hst;have eE:=aa kF;clear hown hgo Ka hst kF
  by_cases hlt:j<dl.length
  ·obtain ⟨g,hg⟩:=wG.out (by omega);subst hg;have iI:=Od eE.out hlt;obtain ⟨d,hd⟩ : ∃ d,d=(dl[j]'hlt):=⟨_,rfl⟩;rw [<- hd] at iI;have gm:=aa iI;have iB:=aa hd;have aJ:=d.2.1;have xD:=d.2.2;have d1:decide (((j:Nat):Int)<((dl.length:Nat):Int))=true:=decide_eq_true (by omega);obtain ⟨X,hX⟩ : ∃ X,X=wr.alloc (.cells (ah d.1) 117):=⟨_,rfl⟩;have bh:Below wr.heap.size wr X:=by rw [hX];exact (Below.refl _ _).alloc (Nat.le_refl _) _
   have Dn:X.heap[wr.heap.size]? = some (.cells (ah d.1) 117 (0,0)):=by rw [hX];exact heap_alloc_new _ _
   have HX:=aa hX;have cI:=aa bh;have uu:=aa Dn;clear iI hd hX bh Dn;go_wp2_with (first|(refine wpList_load_mid rfl 117 _ rfl g (j * 32) rfl (ah d.1).toList _ gm.out Tryz.underlying117 rfl (jl d.1 aJ) ?_)|(refine wpList_store_row rfl 117 _ _ rfl wr.heap.size _ rfl rfl 117 _ (heap_alloc_new _ _) (bL _ aJ) (by rw [aY,aY,aJ];rfl) (dQ _) ?_;rw [World.setRow_alloc_new,<- HX.out]));obtain ⟨yb,lK⟩ : ∃ yb,yb=wr.heap.size:=⟨_,rfl⟩;rw [<- lK] at uu ⊢;have Oe:=aa lK;clear lK;have hdr:Below X.heap.size X X.drew:=(Below.refl _ _).drew;have hx0:=sr.out.later cI.out;have hs0:=kG.out.later cI.out;have bA:X.drew.cell? ⟨xb,2,none⟩=some (.pointer (some ⟨sb,0,none⟩))/\X.drew.rangeAt yb 0 (ah d.1).toList:=⟨cell_of_row _ _ 2 _ _ _ (hx0.later hdr),eF ((hdr.block _ (ax uu.out)).trans uu.out)⟩;have u72:=Tryz.underlying117;have i72:=jl d.1 aJ;have IQ:Hid (∀ W,Calls Tryz.prog 66 #[.agg (ah d.1)] W fun e w'=>e = .returned (.string (fV d.1))/\Below W.heap.size W w'):=aa (fun W=>IU d.1 W aJ xD);have Xb:=aa (fun Y hY=>Xc sb s d.1 Y hY aJ xD);have wH:=aa (show xA s.ds d = [.string (fV d.1),.int .i64 (((cr s.ds (bW d.1)).getD ⟨#[]⟩).size:Int)] from rfl);generalize hT:fV d.1=T at IQ wH;generalize hZ:(((cr s.ds (bW d.1)).getD ⟨#[]⟩).size:Int)=Z at Xb wH;have HX0:=aa hx0;have HS0:=aa hs0;clear hx0 hs0 hT hZ;dsimp only [Act.put];refine wp_region_noPanic ?_;refine wp_region_held_drew (S:=fun w'=>w'.cell? ⟨xb,2,none⟩=some (.pointer (some ⟨sb,0,none⟩))/\w'.rangeAt yb 0 (ah d.1).toList) (by kernel_rfl) bA (fun hHeld=>?_);refine wpAnyH_take (i:=0) (v:=u4) rfl (by kernel_rfl) (by kernel_rfl) (by kernel_rfl) (fun _ _ _ h=>h) (Or.inl ⟨by rfl,fun _ _=>rfl⟩) (by assumption) ?_;simp only [Act.put,List.setIfInBounds_toArray,List.set_cons_zero,List.set_cons_succ];refine wpAnyH_take (i:=1) (v:=.agg (ah d.1).toList.toArray) rfl (by kernel_rfl) (by kernel_rfl) (by kernel_rfl) (fun _ _ _ h=>h) (yieldsIf_load_mid (by rfl) _ _ rfl yb 0 rfl (ah d.1).toList _ (fun w h=>h.2) u72 rfl i72) (by assumption) ?_;simp only [Act.put,List.setIfInBounds_toArray,List.set_cons_zero,List.set_cons_succ];refine wpAnyH_take (i:=3) (v:=.pointer (some ⟨xb,0,none⟩)) rfl (by kernel_rfl) (by kernel_rfl) (by kernel_rfl) (fun _ _ _ h=>h) (Or.inl ⟨by rfl,fun _ _=>rfl⟩) (by assumption) ?_;simp only [Act.put,List.setIfInBounds_toArray,List.set_cons_zero,List.set_cons_succ];refine wpAnyH_take (i:=4) (v:=.pointer (some ⟨xb,0,none⟩)) rfl (by kernel_rfl) (by kernel_rfl) (by kernel_rfl) (fun _ _ _ h=>h) (Or.inl ⟨by rfl,fun _ _=>rfl⟩) (by assumption) ?_;simp only [Act.put,List.setIfInBounds_toArray,List.set_cons_zero,List.set_cons_succ];refine wpAnyH_take (i:=5) (v:=.pointer (some ⟨xb,2,none⟩)) rfl (by kernel_rfl) (by kernel_rfl) (by kernel_rfl) (fun _ _ _ h=>h) (Or.inl ⟨by rfl,fun _ _=>rfl⟩) (by assumption) ?_;simp only [Act.put,List.setIfInBounds_toArray,List.set_cons_zero,List.set_cons_succ];refine wpAnyH_take (i:=6) (v:=.pointer (some ⟨sb,0,none⟩)) rfl (by kernel_rfl) (by kernel_rfl) (by kernel_rfl) (fun _ _ _ h=>h) (Or.inl ⟨by rfl,fun wq hSw=>by have c2:=hSw.1;go_simp⟩) (by assumption) ?_;simp only [Act.put,List.setIfInBounds_toArray,List.set_cons_zero,List.set_cons_succ];refine wpAnyH_take (i:=7) (v:=.agg (ah d.1).toList.toArray) rfl (by kernel_rfl) (by kernel_rfl) (by kernel_rfl) (fun _ _ _ h=>h) (yieldsIf_load_mid (by rfl) _ _ rfl yb 0 rfl (ah d.1).toList _ (fun w h=>h.2) u72 rfl i72) (by assumption) ?_;simp only [Act.put,List.setIfInBounds_toArray,List.set_cons_zero,List.set_cons_succ];rw [show (ah d.1).toList.toArray=ah d.1 from rfl];refine wpAnyH_ready (rs:=[2]) (by kernel_rfl) (by simp) ?_;refine AllReadyH.cons rfl (fun K hK=>?_) AllReadyH.nil;go_simp
   (go_at_call 66;refine (IQ.out _).mono ?_;rintro _ w2 ⟨rfl,hb2⟩;have hb3:Below X.heap.size X w2:=hdr.trans hb2;have hr2:=(hb3.block _ (ax uu.out)).trans uu.out;have hx2:=HX0.out.later hb3;have hs2:=HS0.out.later hb3)
   refine hK _ _ ⟨cell_of_row _ _ 2 _ _ _ hx2,eF hr2⟩ (fun hHeld=>?_);refine wpAnyH_ready (rs:=[8]) (by kernel_rfl) (by simp) ?_;refine AllReadyH.cons rfl (fun K hK=>?_) AllReadyH.nil;go_simp
   (go_at_call 67;refine (Xb.out _ hs2.on).mono ?_;rintro _ w3 ⟨rfl,hg3⟩;have hr3:=(hg3.gr.block _ (ax hr2) (fun e=>by have:=Dl.out.1 _ e;have:=Oe.out;omega)).trans hr2;have hx3:=dx.Bh (S:=fun _=>False) hx2 hs2 (ar.aZ hg3) (fun k hk=>hk.elim);have hs3:=hs2.go hg3)
   refine hK _ _ ⟨cell_of_row _ _ 2 _ _ _ hx3,eF hr3⟩ (fun hHeld=>?_);refine wpAnyH_ready (rs:=[9]) (by kernel_rfl) (by simp) ?_;refine AllReadyH.cons rfl (fun K hK=>?_) AllReadyH.nil;go_simp;refine hK _ _ ⟨cell_of_row _ _ 2 _ _ _ hx3,eF hr3⟩ (fun hHeld=>?_);refine wpAnyH_ready (rs:=[10]) (by kernel_rfl) (by simp) ?_;refine AllReadyH.cons rfl (fun K hK=>?_) AllReadyH.nil;go_simp;have nB:Below w3.heap.size w3 (w3.alloc (.cells #[.string T,.int .i64 Z] 73)):=(Below.refl _ _).alloc (Nat.le_refl _) _;obtain ⟨w4,hw4⟩ : ∃ w4,w4=w3.alloc (.cells #[.string T,.int .i64 Z] 73):=⟨_,rfl⟩;have mZ:w4.heap[w3.heap.size]? = some (.cells #[.string T,.int .i64 Z] 73 (0,0)):=by rw [hw4];exact heap_alloc_new _ _
   rw [<- hw4] at nB ⊢;have hr4:=(nB.block _ (ax hr3)).trans hr3;have Q7:=hx3.later nB;have rL:=hs3.later nB;have oy:W.heap.size<=w4.heap.size:=by have:=cI.out.size;have:=hb3.size;have:=hg3.gr.size;have:=nB.size;omega
   have Xd:=aa (show ∀ (B:Nat) (e:TypeId) (k:Nat) (v:Value) (m:Nat) (xs:List Value),W.heap.size<=B->wr.ownsRow B e k v m xs->w4.ownsRow B e k v m xs from fun B e k v m xs hB ho=>gA (jQ (gA (gA ho cI.out) hb3) (fun x hx hl=>hg3.gr.block x hl (fun e2=>by
    have h1:=su ho x hx;have h2:=Dl.out.1 x e2;omega))) nB)
   have uw:=Xd.out _ _ _ _ _ _ (Nat.le_refl _) jk.out;have qa:=Xd.out _ _ _ _ _ _ (Nat.le_refl _) eE.out;refine hK _ _ ⟨cell_of_row _ _ 2 _ _ _ Q7,eF hr4⟩ (fun hHeld=>?_);refine wpAnyH_ready (rs:=[11]) (by kernel_rfl) (by simp) ?_;refine AllReadyH.cons rfl (fun K hK=>?_) AllReadyH.nil;rw [if_pos (by rfl)];refine wp_append_own _ _ _ 69 rfl W.heap.size 73 i0 _ 2 24 Tryz.underlying69 hi hz0 hz1 hz2 rfl (by decide) u4 j _ rfl uw ⟨w3.heap.size,0,none⟩ 1 1 [.string T,.int .i64 Z] rfl rfl (Kb mZ) (by simp [Value.oneCell']) (by unfold maxLen;omega) (by omega) oy ?_;intro v5 w5 IV dR _;have ux:∀ (k:Nat) (cur:Array Value) (T2:TypeId),T2≠73->w4.heap[k]? = some (.cells cur T2 (0,0))->w5.heap[k]? = some (.cells cur T2 (0,0)):=fun k cur T2 hne hk=>(dR.block k (ax hk) (fun e=>by
    obtain ⟨c,hc⟩:=eO uw k e.symm;rw [hk] at hc;injection hc with hc
    injection hc with _ hc
    exact hne hc)).trans hk
   have vr:=ux _ _ _ (by decide) hr4;have Q8:dx w5 xb sb 1:=ux _ _ _ (by decide) Q7;have rM:∀ k,u4.ownBlock=some k->W.heap.size<=k:=su uw;have bI:Below W.heap.size w4 w5:=⟨dR.os,dR.tape,dR.output,dR.size,fun k hk=>dR.block k (by omega) (fun e=>by have:=rM k e.symm;omega)⟩;have hs5:=rL.jO Dl.out bI;have Kc:w5.ownsRow W.heap.size 117 32 (.slice (some ⟨g,0,none⟩) dl.length sc) dl.length (dl.flatMap DV.enc):=jQ qa (fun k hk _=>by
    obtain ⟨c,hc⟩:=eO qa k hk;exact (ux _ _ _ (by decide) hc).trans hc.symm)
   have Kd:ar (sS xb sb cb) s s w w5:=((((cQ.out.trans (ar.ae cI.out)).trans (ar.ae hb3)).trans (ar.aZ hg3)).trans (ar.ae nB)).low (by rw [<- Oc.out];exact bI);refine hK _ _ ⟨cell_of_row _ _ 2 _ _ _ Q8,eF vr⟩ (fun hHeld=>?_);simp only [Act.put,List.setIfInBounds_toArray,List.set_cons_zero,List.set_cons_succ];refine wpAnyH_take (i:=12) (oi:={ dst:=some 4,op:=Op.assign (Operand.tmp 37),type:=69,pos := "store.go:161",after:=_,guard:=none }) (v:=v5) rfl (by kernel_rfl) (by kernel_rfl) (by kernel_rfl) (fun _ _ _ h=>h) (Or.inl ⟨by rfl,fun _ _=>rfl⟩) (by assumption) ?_
   simp only [Act.put,List.setIfInBounds_toArray,List.set_cons_zero,List.set_cons_succ];refine wpAnyH_done (by kernel_rfl) ?_ _;refine NoPanic.normal ?_;obtain ⟨Xe,Xf,rfl⟩:=jG IV;have HV5:=aa IV;have Q9:=aa Kd;have ey:=aa Q8;have gP:=aa hs5;have Bi:=aa Kc;have HZ5:=aa (Nat.le_trans oy bI.size);clear IV Kd Q8 hs5 Kc dR ux vr rM bI uw qa hr4 Q7 rL oy mZ nB hw4 hr3 hx3 hs3 hg3 hr2 hx2 hs2 hb2 hb3 bA hdr u72 i72 hHeld;go_wp2_with fail;refine ⟨⟨j+1,hlt,by simp,?_,Q9.out,ey.out,gP.out,Bi.out,HZ5.out⟩,by simp only [intOf];omega⟩;have e9:(dl.take (j+1)).flatMap (xA s.ds)=(dl.take j).flatMap (xA s.ds) ++ [.string T,.int .i64 Z]:=by
    rw [List.take_add_one,List.getElem?_eq_getElem hlt,List.flatMap_append,<- iB.out];show _++(xA s.ds d ++ [])=_;rw [wH.out,List.append_nil]
   rw [e9];exact HV5.out
  ·have d1:decide (((j:Nat):Int)<((dl.length:Nat):Int))=false:=decide_eq_false (by omega);have ly:j=dl.length:=by omega
   subst ly;obtain ⟨Xe,Xf,rfl⟩:=jG jk.out;go_wp2_with fail;refine leaves_cons (f:=58) (args:=#[.pointer (some ⟨xb,0,none⟩)]) (by simp) (by simp [go_sem]) ?_;refine (unlock_deferred Tryz.aX ⟨xb,0,none⟩ .returning _ (cell_of_row _ _ 0 _ _ _ sr.out) (frozen_of_row _ _ 0 _ _ sr.out)).mono ?_;rintro e u' w6 ⟨rfl,rfl,rfl⟩;have Ke:wr.ownsRow w.heap.size 73 2 (.slice Xe dl.length Xf) dl.length (dl.flatMap (xA s.ds)):=by
    have:=jk.out;rw [List.take_length] at this;rwa [<- Oc.out]
   exact ⟨_,results_tmp2 rfl _ _ _,_,rfl,Xg Ke sr.out (by decide),cQ.out.trans ar.lock,sr.out.set 0,kG.out.lock sr.out hG⟩
end Go.Proofs.YtncigfibncmioaaGreatDoor
namespace Go.Proofs.YtncigfibncmioaaGreatDoor
open Go.RowKit
theorem Pn {α:Type} {enc:α->List Value} {k:Nat} (hk:∀ x,(enc x).length=k) {w:World} {B:Nat} {e:TypeId} {v:Value} {l:List α} {n:Nat} (h:w.ownsRow B e k v n (l.flatMap enc)) (hn:n=l.length) {i:Nat} (hi:i<l.length):∃ g c,v = .slice (some ⟨g,0,none⟩) n c/\∀ j x,(enc (l[i]'hi))[j]? = some x->w.cell? ⟨g,i * k+j,none⟩=some x:=by
 subst hn;obtain ⟨_,⟨h1,h2⟩|⟨g,cap,cur,rfl,_,hg,_,_,hsz,cN⟩⟩:=h
 ·omega
 ·refine ⟨g,cap,rfl,fun j x hx=>?_⟩;have hjk:j<k:=by
   have:=(List.getElem?_eq_some_iff.1 hx).1;rwa [hk] at this
  have hlt:i * k+j<l.length * k:=by
   have:(i+1) * k<=l.length * k:=Nat.mul_le_mul_right _ hi;rw [Nat.add_mul] at this;omega
  rw [cell_of_row _ _ _ _ _ _ hg];have e1:cur[i * k+j]? = (l.flatMap enc)[i * k+j]?:=by
   rw [<- cN,List.getElem?_take,if_pos hlt];simp
  rw [e1,<- List.getElem?_drop,QjW hk l i,List.drop_eq_getElem_cons hi,List.flatMap_cons,List.getElem?_append_left (by rw [hk];exact hjk)];exact hx
end Go.Proofs.YtncigfibncmioaaGreatDoor
namespace Go.Proofs.YtncigfibncmioaaGreatDoor
open Go.RowKit Go.Shelf Go.Sort Go.Lib Go.Maps
theorem QfP (sb:Nat) (s:ai) (cb tb nc:Nat) (l:List TE) (cl:List (List Nat)) (dl:List DV) (w:World) (h:aI w sb s cb tb nc l.length (cD cl) (tD l)) (qd:∀ t∈l,t.Ok) (aF:∀ d∈cl,gz d) (hr:aq DV.key dl) (bc:∀ x,x∈dl ↔ x.1∈cl) (hsz:cl.length<=100000000) (xC:dl.length<=100000000) :
  Calls Tryz.prog 119 #[.pointer (some ⟨sb,0,none⟩)] w fun e w'=>∃ v,e = .returned v/\w'.ownsRow w.heap.size 117 32 v (dp l dl).length ((dp l dl).flatMap DV.enc)/\Below w.heap.size w w':=by
 have HD:=aa (W9 sb s cb tb nc l.length (tD l) cl dl w h aF hr bc hsz);have Fb:∀ (fn:Fn) (first cap:Array Value) (w:World),(Instr.makeFunc fn first cap).run Tryz.prog w = .ok (.func fn first cap) w:=fun _ _ _ _=>rfl
 have H:=aa h;have fH:=aa qd;clear h qd aF hr bc;go_enter Tryz.func119,Tryz.ntmps119;go_wp2_with fail;refine (HD.out).mono ?_;rintro _ w1 ⟨v,rfl,hrow,hb⟩;dsimp only;obtain ⟨so,sc,rfl⟩:=jG hrow;have HDL:=aa (QqJ sb s cb tb nc (cD cl) l w.heap.size so sc dl w w1 H.out hb (Nat.le_refl _) fH.out hrow xC);clear hrow hb HD;go_wp2_with fail;refine (HDL.out).mono ?_;rintro _ w2 ⟨v2,rfl,hrow2,hb2⟩;dsimp only;have fL:=aa hrow2;have cL:=aa hb2;clear hrow2 hb2 HDL;go_wp2_with fail;go_ret;exact ⟨_,rfl,fL.out,cL.out⟩
open Go.RowKit
def TE.en (t:TE):En:=⟨t.n,fV t.d,t.z.toNat⟩
theorem QqW {t:TE} (h:t.Ok):En.aP t.en=(aT t.n t.d t.z).toList:=by
 unfold En.aP TE.en;dsimp only;rw [Eg t.d h.len h.lt,show ((t.z.toNat:Nat):Int)=t.z by have:=h.z0;omega]
theorem QuR (e:En):(En.aP e).length=34:=by
 unfold En.aP;rw [Array.length_toList,eh _ _ _ (jm _)]
theorem aI.Vd {W W':World} {sb:Nat} {s:ai} {cb tb nc nt n':Nat} {Dc Dt D':DataW Value} (h:aI W sb s cb tb nc nt Dc Dt) (hg:W.grownBy W' (some tb)) (hc:TM W' tb n' D'):aI W' sb s cb tb nc n' Dc D':=by
 have hne:∀ {k:Nat},k≠tb->k<W.heap.size->W'.heap[k]? = W.heap[k]?:=fun hk hl=>hg.block _ hl (fun e=>hk (by injection e))
 refine ⟨h.ay.same (fun k hk=>hne (fun e=>h.sq (e ▸ hk)) (h.ay.lt hk)),h.gl.same hg.size (fun k hk=>hne (fun e=>h.vq (e ▸ hk)) (h.gl.lt hk)),h.low,(hne (fun e=>?_) (ax h.blk)).trans h.blk,jP h.cm (hne (fun e=>h.ne e) h.cm.lt),hc,h.sk,h.sq,h.rJ,h.vq,h.rK,h.ne⟩;obtain ⟨es,clock,h1,_⟩:=h.tm;rw [<- e,h.blk] at h1
 cases h1
theorem QlU:∀ {l:List TE} {t:TE},(∀ x∈l,bJ x.n t.n=true)->ag TE.n t l=l ++ [t]
 | [],_,_=>rfl
 | e::l,t,h=>by
  have h1:=h e (by simp);unfold ag;rw [if_neg (pg h1),if_neg (by rw [Bool.not_eq_true];cases h2:bJ t.n e.n with
   | false=>rfl
   | true=>have:=uA h1 h2;rw [mo] at this;cases this),QlU (fun x hx=>h x (by simp [hx]))]
  rfl
theorem QqX {l:List TE} (hr:lF l) {j:Nat} (hj:j<l.length):ag TE.n (l[j]'hj) (l.take j)=l.take (j+1):=by
 rw [List.take_add_one,List.getElem?_eq_getElem hj];refine QlU (fun x hx=>?_);obtain ⟨i,hi,rfl⟩:=List.mem_iff_getElem.1 hx;rw [List.length_take] at hi;rw [List.getElem_take];exact List.pairwise_iff_getElem.1 hr i j (by omega) hj (by omega)
def eK (l:List DE):List (List Nat):=l.foldl (fun c e=>if jg e.path then ag dK (ou e.path) c else c) []
theorem QqY (l:List DE) (e:DE):eK (l ++ [e])=if jg e.path then ag dK (ou e.path) (eK l) else eK l:=by
 unfold eK;rw [List.foldl_append];rfl
theorem Qc (p:ByteArray):gz (ou p):=by
 refine ⟨Ve p,fun i=>?_⟩;unfold ou
 split
 ·exact sA _ i
 ·rw [Sha.zeros,List.getD_eq_getElem?_getD,List.getElem?_replicate]
  split<;>simp
set_option linter.unusedSimpArgs false in
theorem Qd (sb:Nat) (s:ai) (cb tb:Nat) (p t:ByteArray) (c:Nat) (l:List TE) (w:World) (h:aI w sb s cb tb 0 0 (.map []) (.map [])) (hp:p.size<=9223372036854775807) (eo:cr s.ds p=some t) (ht:t.size<=2000) (hr:kT t = .ok (l.map TE.en) c) (aF:∀ x∈l,x.Ok) (ba:lF l) (h8:l.length<=8) (hn:s.R.now.length<=1000000) :
  Calls Tryz.prog 140 #[.pointer (some ⟨sb,0,none⟩),.string p] w fun e w'=>e = .returned (.tuple #[])/\ar (fun k=>k=cb∨k=tb) s s w w'/\∃ nc,nc<=1000000/\aI w' sb s cb tb nc l.length (cD (eK s.R.now)) (tD l):=by
 have na:=aa (Ot s p w h.ay hp);rw [eo] at na;dsimp only [Option.getD,Option.isSome] at na;have HR:=aa hr;have fH:=aa aF;have HRS:=aa ba;have H:=aa h;have c0:=cell_of_row _ _ 0 _ _ _ h.blk;have oy:=(zero_of_info Tryz.bY).1;have KC:=(zero_of_info Tryz.cY).1;clear h hr aF ba eo;go_enter Tryz.func140,Tryz.ntmps140;go_wp2_with fail;refine (na.out).mono ?_;rintro _ w1 ⟨v,k,rfl, -, -,hg1,EL⟩;dsimp only;have tq:aC s s w w1:=⟨rfl,EL,hg1,fun k hk=>.inl hk⟩;have bT:=aa (ar.aZ (S:=fun k=>k=cb∨k=tb) tq);have ij:=aa (H.out.go tq);have AE:=aa (fun W=>Zq t W ht);clear tq hg1 EL na c0;go_wp2_with fail;refine (AE.out _).mono ?_;rintro e2 w2 ⟨hb2,Vc⟩;have I4:∃ oa cap,e2 = .returned (.slice oa l.length cap)/\w2.ownsRow w1.heap.size 193 34 (.slice oa l.length cap) l.length ((l.map TE.en).flatMap En.aP):=by
  rcases Vc with ⟨es,c',v',h1,h2,h3, -⟩|⟨pp,h1, -⟩
  ·rw [HR.out] at h1;injection h1 with h1
   subst h1;rw [List.length_map] at h3;obtain ⟨oa,cap,h4⟩:=jG h3;exact ⟨oa,cap,by rw [h2,h4],by rw [h4] at h3;exact h3⟩
  ·rw [HR.out] at h1
   cases h1
 obtain ⟨oa,cap,rfl,hrow⟩:=I4;clear Vc;dsimp only;have bP:=aa (bT.out.trans (ar.ae hb2));have fg:=aa (ij.out.later hb2);have aA:=aa hrow;have hw2:w1.heap.size<=w2.heap.size:=hb2.size;have HB:=aa (show ∀ k,s.own k∨k=sb∨k=cb∨k=tb->k<w1.heap.size from fun k hk=>by
  rcases hk with e|e|e|e
  ·exact ij.out.ay.lt e
  ·rw [e];exact ax ij.out.blk
  ·rw [e];exact ij.out.cm.lt
  ·rw [e];exact ij.out.tm.lt)
 obtain ⟨q,hq⟩ : ∃ q,q=l.length:=⟨_,rfl⟩;rw [<- hq] at h8 ⊢;rw [<- hq] at aA;have HQ:=aa hq;clear hb2 hrow AE HR bT hq;go_wp2_with fail
 go_loopw [24] (fun iv wr=>∃ (j:Nat),j<=q/\iv = .int .i64 ((j:Nat):Int)/\ar (fun k=>k=cb∨k=tb) s s w wr/\aI wr sb s cb tb 0 j (.map []) (tD (l.take j))/\wr.ownsRow w1.heap.size 193 34 (.slice oa q cap) q ((l.map TE.en).flatMap En.aP)/\w1.heap.size<=wr.heap.size) (fun iv _=>q - (intOf iv).toNat)
 case atStart=>exact ⟨0,Nat.zero_le _,rfl,bP.out,fg.out,aA.out,hw2⟩
 case round =>
  obtain ⟨j,hj,rfl,hgo,hst,kF,Xa⟩:=hrel;have cQ:=aa hgo;have HST:=aa hst;have eE:=aa kF;clear hgo hst
  by_cases hlt:j<q
  ·have eN:j<l.length:=by rw [<- HQ.out];exact hlt
   have hjm:j<(l.map TE.en).length:=by rw [List.length_map];exact eN
   obtain ⟨g,c1,e1,hc⟩:=Pn (enc:=En.aP) (k:=34) QuR kF (by rw [List.length_map];exact HQ.out) hjm;injection e1 with e1 _ ec
   subst e1;subst ec;rw [List.getElem_map,QqW (fH.out _ (List.getElem_mem eN))] at hc;have nu:=aa (QqX HRS.out eN);have Qe:=fH.out _ (List.getElem_mem eN);generalize l[j]'eN=t at hc nu Qe;have gL:wr.rangeAt g (j * 34) (aT t.n t.d t.z).toList:=fun i x hx=>hc i x hx
   have EJ:=aa gL;have a8:=Qe.len;obtain ⟨X,hX⟩ : ∃ X,X=wr.alloc (.cells (aT t.n t.d t.z) 193):=⟨_,rfl⟩;have bh:Below wr.heap.size wr X:=by rw [hX];exact (Below.refl _ _).alloc (Nat.le_refl _) _
   have Dn:X.heap[wr.heap.size]? = some (.cells (aT t.n t.d t.z) 193 (0,0)):=by rw [hX];exact heap_alloc_new _ _
   have HX:=aa hX;have cI:=aa bh;have uu:=aa Dn;have d1:decide (((j:Nat):Int)<((q:Nat):Int))=true:=decide_eq_true (by omega);have Oj:=aa Qe;clear hX bh Dn hc kF gL eN hjm Qe;go_wp2_with (first|(refine wpList_load_mid rfl 193 _ rfl g (j * 34) rfl (aT t.n t.d t.z).toList _ EJ.out Tryz.underlying193 rfl (by rw [Array.length_toList];exact gW _ _ _ a8) ?_)|(refine wpList_store_row rfl 193 _ _ rfl wr.heap.size _ rfl rfl 193 _ (heap_alloc_new _ _) (gW _ _ _ a8) (by rw [eh _ _ _ a8,eh _ _ _ (Sha.af _)]) (Array.all_eq_true_iff_forall_mem.2 fun u hu=>mj _ _ _ u (by simpa using hu)) ?_;rw [World.setRow_alloc_new,<- HX.out]));obtain ⟨yb,lK⟩ : ∃ yb,yb=wr.heap.size:=⟨_,rfl⟩;rw [<- lK] at uu ⊢;have Oe:=aa lK;clear lK;have hdr:Below X.heap.size X X.drew:=(Below.refl _ _).drew;have h6:=(HST.out.later cI.out).later hdr;have eZ:=(hdr.block _ (ax uu.out)).trans uu.out;obtain ⟨w6,hrun,jc,bQ⟩:=World.ownsMap.update h6.tm tZ Tryz.underlying157 (by unfold maxLen;omega) (MX t.n (by have:=Oj.out.n;omega)) (show fG (.agg (aT t.n t.d t.z))=some (.held (.agg (aT t.n t.d t.z)),[]) from rfl);have kH:=(bQ.block _ (ax eZ) (fun e=>by
    injection e with e
    obtain ⟨es,clock,h1,_⟩:=h6.tm;rw [<- e,eZ] at h1
    cases h1)).trans eZ
   have h7:=h6.Vd bQ jc;have bA:X.drew.cell? ⟨sb,2,none⟩=some (.map (some tb))/\X.drew.cell? ⟨yb,0,none⟩=some (.string t.n)/\X.drew.rangeAt yb 0 (aT t.n t.d t.z).toList:=⟨cell_of_row _ _ 2 _ _ _ h6.blk,cell_of_row _ _ 0 _ _ _ eZ,fun i x hx=>by rw [cell_of_row _ _ (0+i) _ _ _ eZ,Nat.zero_add];simpa using hx⟩;have nV:w6.cell? ⟨sb,2,none⟩=some (.map (some tb))/\w6.cell? ⟨yb,0,none⟩=some (.string t.n)/\w6.rangeAt yb 0 (aT t.n t.d t.z).toList:=⟨cell_of_row _ _ 2 _ _ _ h7.blk,cell_of_row _ _ 0 _ _ _ kH,fun i x hx=>by rw [cell_of_row _ _ (0+i) _ _ _ kH,Nat.zero_add];simpa using hx⟩;have u71:=Tryz.underlying193;have i71:(Tryz.prog.info? 193).map (·.size)=some (aT t.n t.d t.z).toList.length:=by rw [Array.length_toList];exact gW _ _ _ a8
   have Ni:ar (fun k=>k=cb∨k=tb) s s w w6:=((cQ.out.trans (ar.ae cI.out)).trans (ar.ae hdr)).trans (ar.cW bQ (fun r e=>by injection e with e;exact .inr e.symm));have Nj:w6.ownsRow w1.heap.size 193 34 (.slice (some ⟨g,0,none⟩) q cap) q ((l.map TE.en).flatMap En.aP):=jQ (gA (gA eE.out cI.out) hdr) (fun k hk hl=>bQ.block k hl (fun e=>by
    injection e with e
    have h1:=su eE.out k hk;have h2:=HB.out k (.inr (.inr (.inr e)));omega))
   have OA:w1.heap.size<=w6.heap.size:=by have:=cI.out.size;have:=hdr.size;have:=bQ.size;omega
   have Nk:aI w6 sb s cb tb 0 (j+1) (.map []) (tD (l.take (j+1))):=by
    have e9:(tD (l.take j)).put (.string t.n.data.toList) (.held (.agg (aT t.n t.d t.z)))=tD (l.take (j+1)):=by
     rw [<- nu.out];exact Jy (key:=TE.n) (val:=TE.v) t (l.take j) (List.Pairwise.sublist (List.take_sublist _ _) HRS.out)
    rw [<- e9];exact h7
   have lG:=aa Ni;have Vf:=aa Nj;have jR:=aa Nk;clear h6 jc bQ eZ kH h7 Ni Nj Nk hdr;generalize hE:aT t.n t.d t.z=E at *;generalize t.n=N1 at *;clear hE
   (try dsimp only [Act.put])
   refine wp_region_noPanic ?_;refine wp_region_held_drew (S:=fun w'=>w'.cell? ⟨sb,2,none⟩=some (.map (some tb))/\w'.cell? ⟨yb,0,none⟩=some (.string N1)/\w'.rangeAt yb 0 E.toList) (by kernel_rfl) bA (fun hHeld=>?_);refine wpAnyH_take (i:=0) (v:=.pointer (some ⟨sb,0,none⟩)) rfl (by kernel_rfl) (by kernel_rfl) (by kernel_rfl) (fun _ _ _ h=>h) (Or.inl ⟨by rfl,fun _ _=>rfl⟩) (by assumption) ?_;simp only [Act.put,List.setIfInBounds_toArray,List.set_cons_zero,List.set_cons_succ];refine wpAnyH_take (i:=1) (v:=.pointer (some ⟨sb,0,none⟩)) rfl (by kernel_rfl) (by kernel_rfl) (by kernel_rfl) (fun _ _ _ h=>h) (Or.inl ⟨by rfl,fun _ _=>rfl⟩) (by assumption) ?_;simp only [Act.put,List.setIfInBounds_toArray,List.set_cons_zero,List.set_cons_succ];refine wpAnyH_take (i:=2) (v:=.pointer (some ⟨sb,2,none⟩)) rfl (by kernel_rfl) (by kernel_rfl) (by kernel_rfl) (fun _ _ _ h=>h) (Or.inl ⟨by rfl,fun _ _=>rfl⟩) (by assumption) ?_;simp only [Act.put,List.setIfInBounds_toArray,List.set_cons_zero,List.set_cons_succ];refine wpAnyH_take (i:=3) (v:=.map (some tb)) rfl (by kernel_rfl) (by kernel_rfl) (by kernel_rfl) (fun _ _ _ h=>h) (Or.inl ⟨by rfl,fun wq hSw=>by have c2:=hSw.1;go_simp⟩) (by assumption) ?_;simp only [Act.put,List.setIfInBounds_toArray,List.set_cons_zero,List.set_cons_succ];refine wpAnyH_take (i:=4) (v:=.pointer (some ⟨yb,0,none⟩)) rfl (by kernel_rfl) (by kernel_rfl) (by kernel_rfl) (fun _ _ _ h=>h) (Or.inl ⟨by rfl,fun _ _=>rfl⟩) (by assumption) ?_;simp only [Act.put,List.setIfInBounds_toArray,List.set_cons_zero,List.set_cons_succ];refine wpAnyH_take (i:=5) (v:=.string N1) rfl (by kernel_rfl) (by kernel_rfl) (by kernel_rfl) (fun _ _ _ h=>h) (Or.inl ⟨by rfl,fun wq hSw=>by have c2:=hSw.2.1;go_simp⟩) (by assumption) ?_;simp only [Act.put,List.setIfInBounds_toArray,List.set_cons_zero,List.set_cons_succ];refine wpAnyH_take (i:=6) (v:=.agg E.toList.toArray) rfl (by kernel_rfl) (by kernel_rfl) (by kernel_rfl) (fun _ _ _ h=>h) (yieldsIf_load_mid (by rfl) _ _ rfl yb 0 rfl E.toList _ (fun w h=>h.2.2) u71 rfl i71) (by assumption) ?_;simp only [Act.put,List.setIfInBounds_toArray,List.set_cons_zero,List.set_cons_succ];rw [show E.toList.toArray=E by simp];refine wpAnyH_ready (rs:=[7]) (by kernel_rfl) (by simp) ?_;refine AllReadyH.cons rfl (fun K hK=>?_) AllReadyH.nil;go_simp;refine hK _ _ nV (fun hHeld=>?_);refine wpAnyH_done (by kernel_rfl) ?_ _;refine NoPanic.normal ?_;clear hrun bA nV u71 i71;go_wp2_with fail;exact ⟨⟨j+1,hlt,by simp,lG.out,jR.out,Vf.out,OA⟩,by simp only [intOf];omega⟩
  ·have d1:decide (((j:Nat):Int)<((q:Nat):Int))=false:=decide_eq_false (by omega);have ly:j=q:=by omega
   subst ly;have lA:l.take j=l:=List.take_of_length_le (by rw [<- HQ.out];exact Nat.le_refl _);rw [lA] at HST;have c2:=cell_of_row _ _ 0 _ _ _ HST.out.blk;have xh:=aa (OE s.b s.R s.mb s.lb s.cv _ HST.out.ay.is (by omega));have hwr:=Xa;clear kF lA eE;go_wp2_with fail;refine (xh.out).mono ?_;rintro _ w3 ⟨v3,rfl,hrow,hb3⟩;dsimp only;obtain ⟨ov,cp,hv⟩:=jG hrow;subst hv;have EM:=aa hrow;have gq:=aa (cQ.out.trans (ar.ae hb3));have eT:=aa (HST.out.later hb3);have hz3:wr.heap.size<=w3.heap.size:=hb3.size;obtain ⟨n,kP⟩ : ∃ n,n=s.R.now.length:=⟨_,rfl⟩;rw [<- kP] at hn ⊢;have Dl:=aa kP;obtain ⟨W0,hW0⟩ : ∃ W0,W0=wr.heap.size:=⟨_,rfl⟩;rw [<- hW0] at EM;have ir:=aa (show ∀ k,s.own k∨k=sb∨k=cb∨k=tb->k<W0 from fun k hk=>by have:=HB.out k hk;omega);have Vg:W0<=w3.heap.size:=by omega
   clear hrow hb3 xh c2 kP hW0 hz3 cQ HST;go_wp2_with fail
   go_loopw [42] (fun iv wx=>∃ (i nc:Nat),i<=n/\nc<=i/\iv = .int .i64 ((i:Nat):Int)/\ar (fun k=>k=cb∨k=tb) s s w wx/\aI wx sb s cb tb nc j (cD (eK (s.R.now.take i))) (tD l)/\wx.ownsRow W0 9 1 (.slice ov n cp) n (pW s.R.now)/\W0<=wx.heap.size) (fun iv _=>n - (intOf iv).toNat)
   case atStart =>
    refine ⟨0,0,Nat.zero_le _,Nat.le_refl _,rfl,gq.out,eT.out,?_,Vg⟩;have:=EM.out;rw [<- Dl.out] at this;exact this
   case round =>
    obtain ⟨i,nc,hi,iZ,rfl,hgo,hst,kF,Vh⟩:=hrel;have cQ:=aa hgo;have HST:=aa hst;have eE:=aa kF;clear hgo hst
    by_cases AU:i<n
    ·have kW:i<s.R.now.length:=by rw [<- Dl.out];exact AU
     have jB:wr.ownsRow W0 9 1 (.slice ov n cp) s.R.now.length (pW s.R.now):=by rw [<- Dl.out];exact kF
     obtain ⟨o2,pk,e2,iR⟩:=Jk jB;obtain ⟨g,rfl,hc⟩:=iR i kW;injection e2 with e2 e3 e4
     subst e2;have cN:s.R.now.take (i+1)=s.R.now.take i ++ [s.R.now.getD i gV]:=by
      rw [List.take_add_one,List.getElem?_eq_getElem kW,List.getD_eq_getElem?_getD,List.getElem?_eq_getElem kW];rfl
     have iX:=aa (show eK (s.R.now.take (i+1))=if jg (s.R.now.getD i gV).path then ag dK (ou (s.R.now.getD i gV).path) (eK (s.R.now.take i)) else eK (s.R.now.take i) by rw [cN];exact QqY _ _);generalize Qf:eK (s.R.now.take (i+1))=C2 at iX;have iM:=aa Qf;clear Qf;generalize eK (s.R.now.take i)=C1 at iX HST;generalize (s.R.now.getD i gV).path=pp at hc iX;have Vi:=aa (QfS pp wr);have a8:=Ve pp;have pZ:=Qc pp;generalize ou pp=ds at iX Vi a8 pZ;have d2:decide (((i:Nat):Int)<((n:Nat):Int))=true:=decide_eq_true (by omega);clear kF jB iR e3 e4 cN kW;go_wp2_with fail;refine (Vi.out).mono ?_;rintro _ w4 ⟨rfl,hb4⟩;dsimp only;have fI:Below wr.heap.size wr (w4.alloc (.cells (ah ds) 117)):=hb4.alloc hb4.size _;obtain ⟨X,hX⟩ : ∃ X,X=w4.alloc (.cells (ah ds) 117):=⟨_,rfl⟩;have Dn:X.heap[w4.heap.size]? = some (.cells (ah ds) 117 (0,0)):=by rw [hX];exact heap_alloc_new _ _
     rw [<- hX] at fI;have HX:=aa hX;have uu:=aa Dn;have gI:=aa (cQ.out.trans (ar.ae fI));have gP:=aa (HST.out.later fI);have Cp:=aa (gA eE.out fI);have KC:W0<=X.heap.size:=Nat.le_trans Vh fI.size;clear hX fI Dn hb4 Vi hc
     cases uL:jg pp with
     | false =>
      rw [uL] at iX;have KH:C2=C1:=iX.out;subst KH;go_wp2_with (refine wpList_store_row rfl 117 _ _ rfl w4.heap.size _ rfl rfl 117 _ (heap_alloc_new _ _) (bL _ a8) (by rw [aY,aY,a8,Sha.af]) (dQ _) ?_;rw [World.setRow_alloc_new,<- HX.out]);exact ⟨⟨i+1,nc,by omega,by omega,by simp,gI.out,by rw [iM.out];exact gP.out,Cp.out,KC⟩,by simp only [intOf];omega⟩
     | true =>
      rw [uL] at iX;have KH:C2=ag dK ds C1:=iX.out;subst KH;go_wp2_with (refine wpList_store_row rfl 117 _ _ rfl w4.heap.size _ rfl rfl 117 _ (heap_alloc_new _ _) (bL _ a8) (by rw [aY,aY,a8,Sha.af]) (dQ _) ?_;rw [World.setRow_alloc_new,<- HX.out]);have hdr:Below X.heap.size X X.drew:=(Below.refl _ _).drew;have h6:=gP.out.later hdr;have eZ:=(hdr.block _ (ax uu.out)).trans uu.out;obtain ⟨w6,hrun,jc,bQ⟩:=World.ownsMap.update h6.cm rY Tryz.underlying156 (by unfold maxLen;omega) (EB ds pZ.1 pZ.2) (show fG (.agg #[])=some (.held (.agg #[]),[]) from rfl);have h7:=h6.pJ bQ jc;have kH:=(bQ.block _ (ax eZ) (fun e=>by
       injection e with e
       obtain ⟨es,clock,h1,_⟩:=h6.cm;rw [<- e,eZ] at h1
       cases h1)).trans eZ
      obtain ⟨yb,lK⟩ : ∃ yb,yb=w4.heap.size:=⟨_,rfl⟩;rw [<- lK] at eZ kH ⊢;have bA:X.drew.cell? ⟨sb,1,none⟩=some (.map (some cb))/\X.drew.rangeAt yb 0 (ah ds).toList:=⟨cell_of_row _ _ 1 _ _ _ h6.blk,eF eZ⟩;have nV:w6.cell? ⟨sb,1,none⟩=some (.map (some cb))/\w6.rangeAt yb 0 (ah ds).toList:=⟨cell_of_row _ _ 1 _ _ _ h7.blk,eF kH⟩;have CE:∀ w,(Instr.build 100 #[]).run Tryz.prog w = .ok (.agg #[]) w:=fun w=>by kernel_rfl
      have u72:=Tryz.underlying117;have i72:=jl ds a8;have lG:=aa (((gI.out.trans (ar.ae hdr))).trans (ar.cW bQ (fun r e=>by injection e with e;exact .inl e.symm)));have jR:=aa (show aI w6 sb s cb tb (nc+1) j (cD (ag dK ds C1)) (tD l) by
       have Uy:aq dK C1:=GQ h6.cm rY;have e9:(cD C1).put (dy ds) (.held (.agg #[]))=cD (ag dK ds C1):=by
        rw [Ei];exact Jy (key:=dK) (val:=fun _=>.agg #[]) ds C1 Uy
       rw [<- e9];exact h7)
      have Vf:=aa (show w6.ownsRow W0 9 1 (.slice (some ⟨g,0,none⟩) n cp) n (pW s.R.now) from jQ (gA Cp.out hdr) (fun k hk hl=>bQ.block k hl (fun e=>by
       injection e with e
       have h1:=su Cp.out k hk;have h2:=ir.out k (.inr (.inr (.inl e)));omega)))
      have OA:W0<=w6.heap.size:=by have:=hdr.size;have:=bQ.size;omega
      clear h6 jc bQ eZ kH h7 hdr lK
      go_region_held3 (fun w'=>w'.cell? ⟨sb,1,none⟩=some (.map (some cb))/\w'.rangeAt yb 0 (ah ds).toList) (first|exact bA|exact nV|go_keep) (fail)
      clear hrun CE u72 i72 bA nV;go_wp2_with fail;exact ⟨⟨i+1,nc+1,by omega,by omega,by simp,lG.out,by rw [iM.out];exact jR.out,Vf.out,OA⟩,by simp only [intOf];omega⟩
    ·have d2:decide (((i:Nat):Int)<((n:Nat):Int))=false:=decide_eq_false (by omega);have cJ:i=n:=by omega
     subst cJ;have lA:s.R.now.take i=s.R.now:=List.take_of_length_le (by rw [<- Dl.out];exact Nat.le_refl _);rw [lA] at HST;clear kF lA;go_wp2_with fail
     go_end0
     exact ⟨rfl,cQ.out,nc,by omega,by rw [<- HQ.out];exact HST.out⟩
end Go.Proofs.YtncigfibncmioaaGreatDoor
