/-
  PROVED HERE: what sorted gives of whatever tags: all of them, rising.
-/
import Derived.Test.YtncigfibncmioaaGreatDoorSmLays
import Derived.Test.YtncigfibncmioaaGreatDoorStCont
import Derived.Test.YtncigfibncmioaaGreatDoorSmDig
import Derived.Test.YtncigfibncmioaaGreatDoorBsKept
namespace Go.Proofs.YtncigfibncmioaaGreatDoor
set_option maxHeartbeats 1000000
set_option maxRecDepth 100000
open Go.RowKit Go.Shelf Go.Sort Go.Lib
theorem sort_is {α:Type} [Inhabited α] {key:α→ByteArray} {cf:α→α→Int} (hcf:∀ x y,ltOf cf x y=lessB (key x) (key y)) {l ts:List α} {d':Array α} (hl:RiseK key l) (hn:ts.Nodup) (hm:∀ x,x∈ts ↔ x∈l) (hp:PermIn 0 ts.toArray.size ts.toArray d') (hs:SortedIn (ltOf cf) 0 ts.toArray.size d'):d'.toList=l:=by
 obtain ⟨h1,_,h2⟩:=hp
 have e1:d'.extract 0 ts.toArray.size=d':=by rw [← h1];simp
 have e2:ts.toArray.extract 0 ts.toArray.size=ts.toArray:=by simp
 rw [e1,e2] at h2
 have hperm:d'.toList.Perm ts:=h2
 have hnd:d'.toList.Nodup:=hperm.symm.nodup hn
 have hmem:∀ x,x∈d'.toList ↔ x∈l:=fun x=>(hperm.mem_iff).trans (hm x)
 refine riseK_same ?_ hl hmem
 unfold RiseK
 rw [List.pairwise_iff_getElem]
 intro i j hi hj hij
 have hlt:=hs i j (Nat.zero_le _) hij (by rw [← h1];simpa using hj)
 rw [hcf,getElem!_pos d' j (by simpa using hj),getElem!_pos d' i (by simpa using hi)] at hlt
 have hne:key d'.toList[i]≠key d'.toList[j]:=fun e=>by
  have h3:=riseK_inj hl ((hmem _).1 (List.getElem_mem hi)) ((hmem _).1 (List.getElem_mem hj)) e
  have:=(List.nodup_iff_pairwise_ne.1 hnd)
  rw [List.pairwise_iff_getElem] at this
  exact this i j hi hj hij h3
 rcases less_total hne with h4|h4
 ·exact h4
 ·simp only [Array.getElem_toList] at h4
  rw [h4] at hlt
  cases hlt
def cmpS (a b:ByteArray):Int:=if lessB a b then -1 else if lessB b a then 1 else 0
theorem isNaN_s (a:ByteArray) (w:World):Calls Tryz.prog 218 #[.string a] w fun e w'=>e = .returned (.bool false)∧w'=w:=by
 go_enter Tryz.func218,Tryz.ntmps218
 go_wp2_with fail
 go_ret
 exact ⟨by simp,rfl⟩
theorem cmpS_any (a b:ByteArray) (w:World):Calls Tryz.prog 175 #[.string a,.string b] w fun e w'=>e = .returned (.int .i64 (cmpS a b))∧w'=w:=by
 have HA:=hide (isNaN_s a)
 have HB:=hide (isNaN_s b)
 go_enter Tryz.func175,Tryz.ntmps175
 go_wp2_with fail
 refine (HA.out _).mono ?_
 rintro _ w1 ⟨rfl,rfl⟩
 dsimp only
 go_wp2_with fail
 refine (HB.out _).mono ?_
 rintro _ w2 ⟨rfl,rfl⟩
 dsimp only
 cases h1:lessB a b with
 | true =>
  have e1:Op.bytesLess a.toList b.toList=true:=h1
  go_wp2_with fail
  go_ret
  exact ⟨by simp [cmpS,h1],rfl⟩
 | false =>
  have e1:Op.bytesLess a.toList b.toList=false:=h1
  by_cases hab:a=b
  ·have e2:(a.toList == b.toList)=true:=by rw [hab];simp
   have HAB:=hide hab
   clear hab
   go_wp2_with fail
   go_ret
   exact ⟨by rw [HAB.out];simp [cmpS,less_irrefl],rfl⟩
  ·have e2:(a.toList == b.toList)=false:=by
    rw [beq_eq_false_iff_ne]
    exact fun e=>hab ((toList_inj a b).1 e)
   have h2:lessB b a=true:=(less_total hab).resolve_left (by rw [h1];simp)
   have H2:=hide h2
   clear hab h2
   go_wp2_with fail
   go_ret
   exact ⟨by simp [cmpS,h1,H2.out],rfl⟩
theorem cmpS_lt (a b:ByteArray):decide (cmpS a b<0)=lessB a b:=by
 unfold cmpS
 cases h1:lessB a b with
 | true=>simp
 | false=>cases h2:lessB b a<;>simp
theorem lessB_swo {α:Type} {key:α→ByteArray} {cf:α→α→Int} (hcf:∀ x y,ltOf cf x y=lessB (key x) (key y)):SWO (ltOf cf) where
 irrefl x:=by rw [hcf];exact less_irrefl _
 trans x y z h1 h2:=by rw [hcf] at *;exact less_trans h1 h2
 ntrans x y z h1 h2:=by
  rw [hcf] at *
  by_cases e1:key x=key y
  ·rw [e1];exact h2
  ·by_cases e2:key y=key z
   ·rw [← e2];exact h1
   ·have l1:lessB (key y) (key x)=true:=(less_total e1).resolve_left (by rw [h1];simp)
    have l2:lessB (key z) (key y)=true:=(less_total e2).resolve_left (by rw [h2];simp)
    cases h3:lessB (key x) (key z) with
    | false=>rfl
    | true =>
     have:=less_trans h3 (less_trans l2 l1)
     rw [less_irrefl] at this
     cases this
abbrev OT:={ t:TE // t.Ok }
instance:Inhabited OT:=⟨⟨te0,te0_ok⟩⟩
def TE.cs (t:TE):List Value:=(ecellsOf t.n t.d t.z).toList
def OT.enc (x:OT):List Value:=x.1.cs
theorem OT.enc_len (x:OT):(OT.enc x).length=34:=by
 unfold OT.enc TE.cs
 rw [Array.length_toList,ecellsOf_size _ _ _ x.2.len]
theorem OT.enc_one (x:OT):∀ v∈OT.enc x,v.oneCell'=true:=fun v hv=>ecellsOf_one _ _ _ v hv
def OT.key (x:OT):ByteArray:=x.1.n
def OT.cf (x y:OT):Int:=cmpS x.1.n y.1.n
theorem OT.lt (x y:OT):ltOf OT.cf x y=lessB (OT.key x) (OT.key y):=cmpS_lt _ _
theorem sorted1_any (x y:OT) (w:World):Calls Tryz.prog 174 #[.agg (OT.enc x).toArray,.agg (OT.enc y).toArray] w fun e w'=>e = .returned (.int .i64 (OT.cf x y))∧∃ q os',w'=grow (w.drewN q) os':=by
 have HC:=hide (cmpS_any x.1.n y.1.n)
 have hx:=x.2.len
 have hy:=y.2.len
 have hX1:(w.alloc (.cells (ecellsOf x.1.n x.1.d x.1.z) 193)).heap[w.heap.size]? = some (.cells (ecellsOf x.1.n x.1.d x.1.z) 193 (0,0)):=heap_alloc_new _ _
 have hent:Ent w (w.alloc (.cells (ecellsOf x.1.n x.1.d x.1.z) 193)) w.heap.size x.1.n x.1.d x.1.z:=⟨hX1,(Below.refl _ _).alloc (Nat.le_refl _) _⟩
 have c1:=cell_later ((Below.refl _ _).alloc (Nat.le_refl _) (.cells (ecellsOf y.1.n y.1.d y.1.z) 193)) (hent.out hx).1
 have hY1:((w.alloc (.cells (ecellsOf x.1.n x.1.d x.1.z) 193)).alloc (.cells (ecellsOf y.1.n y.1.d y.1.z) 193)).heap[w.heap.size+1]? = some (.cells (ecellsOf y.1.n y.1.d y.1.z) 193 (0,0)):=by
  have:=heap_alloc_new (w.alloc (.cells (ecellsOf x.1.n x.1.d x.1.z) 193)) (.cells (ecellsOf y.1.n y.1.d y.1.z) 193)
  rwa [size_alloc] at this
 have hent2:Ent (w.alloc (.cells (ecellsOf x.1.n x.1.d x.1.z) 193)) ((w.alloc (.cells (ecellsOf x.1.n x.1.d x.1.z) 193)).alloc (.cells (ecellsOf y.1.n y.1.d y.1.z) 193)) (w.heap.size+1) y.1.n y.1.d y.1.z:=⟨hY1,(Below.refl _ _).alloc (Nat.le_refl _) _⟩
 have c2:=(hent2.out hy).1
 clear hX1 hent hY1 hent2
 simp only [OT.enc,TE.cs,Array.toArray_toList]
 go_enter Tryz.func174,Tryz.ntmps174
 go_wp2_with fail
 refine (HC.out _).mono ?_
 rintro _ w1 ⟨rfl,rfl⟩
 dsimp only
 go_wp2_with fail
 go_ret
 exact ⟨rfl,0,_,by rw [alloc_eq_grow,alloc_eq_grow,grow_grow];rfl⟩
theorem cmpLaysE (blk off size:Nat) (w:World):CmpLays Tryz.prog 174 #[] OT.enc 34 OT.cf blk off size w:=fun _ _ _ _ x y=>sorted1_any x y _

theorem sortE_any (B:Nat) (so:Option Addr) (sc:Nat) (l ts:List OT) (w:World) (h:w.ownsRow B 193 34 (.slice so ts.length sc) ts.length (ts.flatMap OT.enc)) (hl:RiseK OT.key l) (hn:ts.Nodup) (hm:∀ x,x∈ts ↔ x∈l) (hsz:ts.length≤1000000000) :
  Calls Tryz.prog 216 #[.slice so ts.length sc,.func (.func 174) #[] #[]] w fun e w'=>e = .returned (.tuple #[])∧w'.ownsRow B 193 34 (.slice so l.length sc) l.length (l.flatMap OT.enc)∧w.grownBy w' (Value.slice so ts.length sc).ownBlock∧l.length=ts.length:=by
 have hlen:l.length=ts.length:=Nat.le_antisymm (nodup_len (riseK_nodup hl) (fun x hx=>(hm x).2 hx)) (nodup_len hn (fun x hx=>(hm x).1 hx))
 have h':=h
 obtain ⟨_,⟨h1,h2⟩|⟨g,cap,cur,h1,hB,hg,_⟩⟩:=h'
 ·injection h1 with h1 h1a h1b
  subst h1
  subst h1b
  have hts:ts = []:=List.length_eq_zero_iff.1 h2
  subst hts
  have hl0:l = []:=List.length_eq_zero_iff.1 hlen
  subst hl0
  exact (sortE_one none 0 0 (by decide) _ w).mono fun e w' ⟨he,hw⟩=>⟨he,by rw [hw];exact h,by rw [hw];exact ⟨rfl,rfl,rfl,Nat.le_refl _,fun _ _ _=>rfl⟩,rfl⟩
 ·injection h1 with h1 h1a h1b
  subst h1
  subst h1b
  have eg:∀ args w,(callFunc 174 args).run Tryz.prog w = .ok (.enter 174 args) w:=enters_of Tryz.func174 (by kernel_rfl) rfl
  have hcon:=AnyQ.slices_SortFunc Tryz.laysSE 34 Tryz.isAgg193 Tryz.sizeOf193 OT.enc OT.enc_len OT.enc_one OT.cf (lessB_swo OT.lt) 174 #[] g 0 sc ts.toArray w eg (cmpLaysE g 0 _ w) (holds_row OT.enc_len (by decide) h) (lt_heap hg) (by simp;omega)
  rw [show ts.toArray.size=ts.length by simp] at hcon
  refine hcon.mono fun e w' ⟨he,d',n,os,hp,hs,hw⟩=>?_
  have hd:=sort_is OT.lt hl hn hm (by simpa using hp) (by simpa using hs)
  have hd':d'=l.toArray:=by rw [← hd]
  subst hd'
  obtain ⟨r1,r2⟩:=row_sorted (n:=n) (os:=os) OT.enc_len (by decide) h hlen
  rw [← hw] at r1 r2
  exact ⟨he,r1,r2,hlen⟩
set_option maxHeartbeats 1000000
set_option maxRecDepth 100000
open Go.RowKit Go.Shelf Go.Sort Go.Lib
def oks (l:List TE) (h:∀ t∈l,t.Ok):List OT:=l.attach.map fun t=>⟨t.1,h t.1 t.2⟩
theorem oks_val (l:List TE) (h:∀ t∈l,t.Ok):(oks l h).map (·.1)=l:=by
 unfold oks
 rw [List.map_map]
 exact List.attach_map_subtype_val l
theorem oks_mem {l:List TE} {h:∀ t∈l,t.Ok} {x:OT}:x∈oks l h ↔ x.1∈l:=by
 constructor
 ·intro hx
  rw [← oks_val l h]
  exact List.mem_map_of_mem hx
 ·intro hx
  rw [← oks_val l h] at hx
  obtain ⟨y,hy,e⟩:=List.mem_map.1 hx
  rwa [← Subtype.ext e]
theorem oks_rise {l:List TE} {h:∀ t∈l,t.Ok} (hr:RiseT l):RiseK OT.key (oks l h):=by
 have h1:((oks l h).map (·.1)).Pairwise (fun x y=>lessB x.n y.n=true):=by rw [oks_val];exact hr
 unfold RiseK
 rw [List.pairwise_map] at h1
 exact h1
theorem oks_flat (l:List TE) (h:∀ t∈l,t.Ok):(oks l h).flatMap OT.enc=l.flatMap TE.cs:=by
 conv=>rhs;rw [← oks_val l h]
 rw [List.flatMap_map]
 rfl
theorem oks_len (l:List TE) (h:∀ t∈l,t.Ok):(oks l h).length=l.length:=by
 conv=>rhs;rw [← oks_val l h]
 rw [List.length_map]
theorem nodup_of_map {α β:Type} (f:α→β) {l:List α} (h:(l.map f).Nodup):l.Nodup:=by
 have h:(l.map f).Pairwise (·≠·):=h
 rw [List.pairwise_map] at h
 exact h.imp fun {a b} hab e=>hab (by rw [e])
theorem allV_ots {l:List TE} {xs:List EV} (h:AllV (tD l) xs) (hr:RiseT l) (hok:∀ t∈l,t.Ok):∃ ts:List OT,ts.Nodup∧(∀ x,x∈ts ↔ x.1∈l)∧xs.flatMap EV.cs=ts.flatMap OT.enc∧xs.length=ts.length:=by
 obtain ⟨ps,hp,hv,rfl⟩:=h
 rw [strKeys_tD] at hp
 let g:List UInt8 × EV→OT:=fun p=>⟨lookT ⟨p.1.toArray⟩ l,lookT_ok hok⟩
 have key:∀ p∈ps,∃ t∈l,t.n.data.toList=p.1∧(g p).1=t∧p.2.1=t.v:=by
  intro p hp1
  have h1:p.1∈l.map fun t=>t.n.data.toList:=hp.mem_iff.1 (List.mem_map_of_mem hp1)
  obtain ⟨t,ht,e⟩:=List.mem_map.1 h1
  have e2:(⟨p.1.toArray⟩ : ByteArray)=t.n:=by rw [← e]
  refine ⟨t,ht,e,?_,?_⟩
  ·show lookT ⟨p.1.toArray⟩ l=t
   rw [e2]
   unfold lookT
   rw [findK_mem hr ht]
   rfl
  ·have h2:=hv p hp1 .nil
   rw [show Lit.string p.1=kOf t.n by unfold kOf;rw [e],mD_at,findK_mem hr ht] at h2
   injection h2 with h2
   exact h2.symm
 have hnm:(ps.map g).map (fun x=>x.1.n.data.toList)=ps.map (·.1):=by
  rw [List.map_map]
  refine List.map_congr_left fun p hp1=>?_
  obtain ⟨t,_,e,e2,_⟩:=key p hp1
  simp only [Function.comp_apply,e2,e]
 refine ⟨ps.map g,?_,fun x=>⟨fun hx=>?_,fun hx=>?_⟩,?_,by rw [List.length_map,List.length_map]⟩
 ·refine nodup_of_map (fun x:OT=>x.1.n.data.toList) ?_
  rw [hnm]
  refine hp.symm.nodup ?_
  have h1:(l.map fun t=>t.n.data.toList).Pairwise (·≠·):=by
   rw [List.pairwise_map]
   refine hr.imp fun {a b} hab e=>?_
   have:a.n=b.n:=ByteArray.ext (Array.ext' e)
   rw [this,less_irrefl] at hab
   cases hab
  exact h1
 ·obtain ⟨p,hp1,rfl⟩:=List.mem_map.1 hx
  obtain ⟨t,ht,_,e2,_⟩:=key p hp1
  rw [e2]
  exact ht
 ·have h1:x.1.n.data.toList∈ps.map (·.1):=hp.mem_iff.2 (List.mem_map_of_mem (f:=fun t:TE=>t.n.data.toList) hx)
  obtain ⟨p,hp1,e⟩:=List.mem_map.1 h1
  obtain ⟨t,ht,e1,e2,_⟩:=key p hp1
  have e3:t=x.1:=riseK_inj hr ht hx (ByteArray.ext (Array.ext' (by rw [e1,e])))
  exact List.mem_map.2 ⟨p,hp1,Subtype.ext (by rw [e2,e3])⟩
 ·rw [List.flatMap_map,List.flatMap_map]
  have:∀ (qs:List (List UInt8 × EV)),(∀ p∈qs,p∈ps)→(qs.flatMap fun a=>EV.cs a.2)=qs.flatMap fun a=>OT.enc (g a):=by
   intro qs
   induction qs with
   | nil=>intro _;rfl
   | cons p qs ih =>
    intro hq
    rw [List.flatMap_cons,List.flatMap_cons,ih (fun x hx=>hq x (by simp [hx]))]
    congr 1
    obtain ⟨t,_,_,e2,e3⟩:=key p (hq p (by simp))
    unfold EV.cs OT.enc
    rw [e3,e2]
    rfl
  exact this ps (fun _ h=>h)
theorem sortedFunc_many (tb Bm:Nat) (l:List TE) (w:World) (h:TL w tb l) (hm:w.cell? ⟨Bm,0,none⟩=some (.map (some tb))) (hok:∀ t∈l,t.Ok) (hsz:l.length≤1000) :
  Calls Tryz.prog 172 #[.func (.func 217) #[] #[.pointer (some ⟨Bm,0,none⟩)],.func (.func 174) #[] #[]] w fun e w'=>∃ v,e = .returned v∧w'.ownsRow w.heap.size 193 34 v l.length (l.flatMap TE.cs)∧Below w.heap.size w w':=by
 have hr:=h.rise
 have HC:=hide (callsIn_wide.1 (collect_in 8 (by decide) 217 #[.pointer (some ⟨Bm,0,none⟩)] (enters_of Tryz.func217 (by kernel_rfl) rfl) (AllV (tD l)) (Maps.size (tD l)) (by rw [mD_size];exact hsz) w (vals_stops Fence.wide 6 trivial rfl (by decide) Bm tb l.length (tD l) (allE_tD hr hok) w hm h)))
 have HR:=hide hr
 have HOK:=hide hok
 clear h hm hr hok
 go_enter Tryz.func172,Tryz.ntmps172
 go_wp2_with fail
 refine (HC.out).mono ?_
 rintro _ w1 ⟨v,xs,rfl,hV,hrow,hb⟩
 dsimp only
 obtain ⟨ts,hn,hmm,hfl,hln⟩:=allV_ots hV HR.out HOK.out
 rw [hfl,hln] at hrow
 obtain ⟨so,sc,rfl⟩:=own_sl hrow
 have hlen:(oks l HOK.out).length=ts.length:=Nat.le_antisymm (nodup_len (riseK_nodup (oks_rise HR.out)) (fun x hx=>(hmm x).2 (oks_mem.1 hx))) (nodup_len hn (fun x hx=>oks_mem.2 ((hmm x).1 hx)))
 have HSO:=hide (sortE_any w.heap.size so sc (oks l HOK.out) ts w1 hrow (oks_rise HR.out) hn (fun x=>(hmm x).trans oks_mem.symm) (by rw [← hlen,oks_len];omega))
 have HG:=hide (fun k hk=>own_ge hrow k hk)
 have HB:=hide hb
 clear hrow hV hb HC hn hmm hfl hln hlen
 go_wp2_with fail
 refine (HSO.out).mono ?_
 rintro _ w2 ⟨rfl,hrow2,hg2,hl2⟩
 dsimp only
 rw [← hl2,oks_len]
 rw [oks_flat,oks_len] at hrow2
 have HR2:=hide hrow2
 have HB2:=hide (HB.out.grown hg2 HB.out.size (fun k e=>HG.out k e))
 clear hrow2 hg2 hl2 HSO HG HB
 go_wp2_with fail
 go_ret
 exact ⟨_,rfl,HR2.out,HB2.out⟩
theorem sorted_many (tb:Nat) (l:List TE) (w:World) (h:TL w tb l) (hok:∀ t∈l,t.Ok) (hsz:l.length≤1000) :
  Calls Tryz.prog 122 #[.map (some tb)] w fun e w'=>∃ v,e = .returned v∧w'.ownsRow w.heap.size 193 34 v l.length (l.flatMap TE.cs)∧Below w.heap.size w w':=by
 have HVL:=hide (callsIn_wide.1 (vals_in Fence.wide 3 trivial rfl (some tb) w))
 have H:=hide h
 have HE:=hide hok
 have HS:=hide hsz
 have hmf:∀ (fn:Fn) (first cap:Array Value) (w:World),(Instr.makeFunc fn first cap).run Tryz.prog w = .ok (.func fn first cap) w:=fun _ _ _ _=>rfl
 clear h hok hsz
 go_enter Tryz.func122,Tryz.ntmps122
 go_wp2_with fail
 refine (HVL.out).mono ?_
 rintro _ w1 ⟨rfl,hw1⟩
 dsimp only
 have hb1:Below w.heap.size w w1:=by rw [hw1];exact (Below.refl _ _).alloc (Nat.le_refl _) _
 have hx1:w1.heap[w.heap.size]? = some (.cells #[.map (some tb)] 157 (0,0)):=by rw [hw1];exact heap_alloc_new _ _
 have HSF:=hide (sortedFunc_many tb w.heap.size l w1 (H.out.same (hb1.block _ H.out.lt)) (cell_of_row _ _ 0 _ _ _ hx1) HE.out HS.out)
 have HB1:=hide hb1
 clear hb1 hx1 hw1 HVL
 go_wp2_with fail
 refine (HSF.out).mono ?_
 rintro _ w2 ⟨v,rfl,hrow,hb⟩
 dsimp only
 have HR:=hide hrow
 have HB:=hide hb
 clear hrow hb HSF
 go_wp2_with fail
 go_ret
 have hz:=HB1.out.size
 exact ⟨_,rfl,HR.out.mono_base hz,HB1.out.trans (HB.out.mono hz)⟩
set_option maxHeartbeats 4000000
set_option maxRecDepth 100000
open Go.RowKit
theorem write_none (sb:Nat) (oa:Option Addr) (c:Nat) (w:World) :
  Calls Tryz.prog 138 #[.pointer (some ⟨sb,0,none⟩),.slice oa 0 c] w fun e w'=>e = .returned .nilIface∧Below w.heap.size w w':=by
 have k1:=three1 w (.cells #[.pointer (some ⟨sb,0,none⟩)] 92) #[.nilIface] 94 (.cells #[.int .i64 0] 3)
 have hb2:Below w.heap.size w ((w.alloc (.cells #[.pointer (some ⟨sb,0,none⟩)] 92)).alloc (.cells #[.nilIface] 94)):=((Below.refl _ _).alloc (Nat.le_refl _) _).alloc (by simp) _
 have k2:((w.alloc (.cells #[.pointer (some ⟨sb,0,none⟩)] 92)).alloc (.cells #[.nilIface] 94)).heap[w.heap.size+1]? = some (.cells #[.nilIface] 94 (0,0)):=by
  have:=heap_alloc_new (w.alloc (.cells #[.pointer (some ⟨sb,0,none⟩)] 92)) (.cells #[.nilIface] 94)
  rwa [size_alloc] at this
 have HB:=hide hb2
 have HK:=hide k2
 have c2:=cell_of_row _ _ 0 _ _ _ k2
 have z2:=frozen_of_row _ _ 0 _ _ k2
 clear hb2 k1 k2
 go_enter_defers Tryz.func138,Tryz.ntmps138
 go_wp2_with fail
 refine ⟨.nilIface,?_,rfl,HB.out⟩
 simp [results,Tryz.results138,go_sem,c2]
structure SGo (S:Nat→Prop) (s s':PSt) (w w':World):Prop where
 gr:Gr (fun k=>s.own k∨S k) w w'
 own:∀ k,s'.own k→s.own k∨w.heap.size≤k
 b:s'.b=s.b
theorem SGo.trans {S:Nat→Prop} {s s1 s2:PSt} {w w1 w2:World} (h1:SGo S s s1 w w1) (h2:SGo S s1 s2 w1 w2):SGo S s s2 w w2:=by
 refine ⟨⟨h2.gr.os.trans h1.gr.os,h2.gr.tape.trans h1.gr.tape,h2.gr.output.trans h1.gr.output,Nat.le_trans h1.gr.size h2.gr.size,fun k hk hn=>?_⟩,fun k hk=>?_,h2.b.trans h1.b⟩
 ·refine (h2.gr.block k (Nat.lt_of_lt_of_le hk h1.gr.size) (fun hs=>?_)).trans (h1.gr.block k hk hn)
  rcases hs with hs|hs
  ·rcases h1.own k hs with h3|h3
   ·exact hn (.inl h3)
   ·omega
  ·exact hn (.inr hs)
 ·rcases h2.own k hk with h3|h3
  ·exact h1.own k h3
  ·exact .inr (Nat.le_trans h1.gr.size h3)
theorem SGo.of_below {S:Nat→Prop} {s:PSt} {w w':World} (h:Below w.heap.size w w'):SGo S s s w w':=⟨Gr.of_below h,fun _ hk=>.inl hk,rfl⟩
theorem SGo.of_go {S:Nat→Prop} {s s':PSt} {w w':World} (h:PGo s s' w w'):SGo S s s' w w':=⟨h.gr.mono fun _ _ hk=>.inl hk,h.own,h.b⟩
theorem SGo.of_grown {S:Nat→Prop} {s:PSt} {w w':World} {row:Option Nat} (h:w.grownBy w' row) (hS:∀ r,row=some r→S r):SGo S s s w w':=⟨⟨h.os,h.tape,h.output,h.size,fun k hk hn=>h.block k hk (fun e=>hn (.inr (hS k e.symm)))⟩,fun _ hk=>.inl hk,rfl⟩
theorem SGo.of_set {S:Nat→Prop} {s:PSt} {w:World} {b i:Nat} {v:Value} (hS:S b):SGo S s s w (w.setCell ⟨b,i,none⟩ v):=⟨⟨rfl,rfl,rfl,by simp,fun k _ hn=>heap_setCell_other _ _ _ _ (fun e=>hn (.inr (by rw [show k=b from e];exact hS)))⟩,fun _ hk=>.inl hk,rfl⟩
theorem SGo.mono {S S':Nat→Prop} {s s':PSt} {w w':World} (h:SGo S s s' w w') (hS:∀ k,k<w.heap.size→S k→S' k):SGo S' s s' w w':=⟨h.gr.mono fun k hk hs=>hs.elim .inl (fun h=>.inr (hS k hk h)),h.own,h.b⟩
def TE.tg (t:TE):Tg:=⟨t.n,dtx t.d,t.z⟩
def idxX (l:List TE):ByteArray:=⟨(prTo (l.map TE.tg) l.length ++ [93,125]).toArray⟩
theorem flat_tg {l:List TE} (h:∀ t∈l,t.Ok):l.flatMap TE.cs=(l.map TE.tg).flatMap Tg.ecells:=by
 induction l with
 | nil=>rfl
 | cons t l ih =>
  have h2:TE.cs t=Tg.ecells t.tg:=by
   have:=h t (by simp)
   show (ecellsOf t.n t.d t.z).toList=(ecellsOf t.n (rd (dtx t.d)) t.z).toList
   rw [rd_dtx t.d this.len this.lt]
  rw [List.flatMap_cons,List.map_cons,List.flatMap_cons,ih (fun x hx=>h x (by simp [hx])),h2]
theorem tg_len {l:List TE} (h:∀ t∈l,t.Ok):∀ k,k<l.length→((l.map TE.tg).getD k default).name.size≤20∧0≤((l.map TE.tg).getD k default).size∧((l.map TE.tg).getD k default).size≤300:=by
 intro k hk
 have h1:(l.map TE.tg).getD k default=(l[k]'hk).tg:=by
  rw [List.getD_eq_getElem?_getD,List.getElem?_map,List.getElem?_eq_getElem hk]
  rfl
 rw [h1]
 have:=h _ (List.getElem_mem hk)
 exact ⟨this.n,this.z0,this.z1⟩
theorem idxX_size {l:List TE} (h:∀ t∈l,t.Ok) (h8:l.length≤8):(idxX l).size≤2000:=by
 have h1:=prTo_len (l.map TE.tg) l.length (tg_len h)
 unfold idxX
 rw [bytes_size,List.length_append]
 simp only [List.length_cons,List.length_nil]
 omega
def WrZ (D:DS) (fl:List (ByteArray × ByteArray)) (k:Int) (D':DS):Prop:=if fl = [] then k=0∧D'=D else WrR D fl k D'
def chF (fl:List (ByteArray × ByteArray)) (l l2:List TE):List (ByteArray × ByteArray):=if l2=l then fl else fl ++ [(indexP,idxX l2)]
theorem write_z (sb:Nat) (s:PSt) (v:Value) (fl:List (ByteArray × ByteArray)) (w:World) {L C B:Nat} (h:On w sb s) (hfl:FlAt w v fl) (hf:DFit s.ds L C B) (hb:Bud (L+100) (C+100) (B+40000)) (hn:fl.length≤10) (hp:∀ f∈fl,f.1.size≤1000∧f.2.size≤2000) :
  Calls Tryz.prog 138 #[.pointer (some ⟨sb,0,none⟩),v] w fun e w'=>∃ ev k s',e = .returned ev∧ErrV w' ev k∧PGo s s' w w'∧WrZ s.ds fl k s'.ds:=by
 by_cases h0:fl = []
 ·subst h0
  obtain ⟨oa,c,rfl,_⟩:=hfl
  refine (write_none sb oa c w).mono fun e w' ⟨he,hb⟩=>⟨.nilIface,0,s,he,.inl ⟨rfl,rfl⟩,PGo.refl h.inn hb,?_⟩
  unfold WrZ
  rw [if_pos rfl]
  exact ⟨rfl,rfl⟩
 ·refine (write_any sb s v fl w h hfl hf ?_ h0 (by omega) (fun f hfm=>⟨(hp f hfm).1,Nat.le_trans (hp f hfm).2 (by decide)⟩)).mono fun e w' ⟨ev,k,s',h1,h2,h3,h4⟩=>⟨ev,k,s',h1,h2,h3,?_⟩
  ·have h1:=szs_wr_le (M:=2000) fl (fun f hfm=>(hp f hfm).2)
   have h2:=wrS_len fl
   have h3:=biS_len fl
   exact hb.mono (by omega) (by omega) (by omega)
  ·unfold WrZ
   rw [if_neg h0]
   exact h4
theorem change_any (sb:Nat) (s:PSt) (cb tb nc t2 Bf:Nat) (Dc:DataW Value) (fv:Value) (fl:List (ByteArray × ByteArray)) (l l2:List TE) (w:World) {L C B:Nat} (h:StW w sb s cb tb nc l.length Dc (tD l))
  (htm:TL w t2 l2) (hown2:¬ s.own t2) (hG2:¬ isG t2) (hc2:cb≠t2) (hrow:w.ownsRow Bf 222 2 fv fl.length (flCells fl)) (hBf:Bf≤w.heap.size) (hGB:∀ k,isG k→k<Bf) (hfl:fl.length≤5) (hfp:∀ f∈fl,f.1.size≤1000∧f.2.size≤2000)
  (hok:∀ t∈l,t.Ok) (hok2:∀ t∈l2,t.Ok) (h8:l2.length≤8) (hf:DFit s.ds L C B) (hb:Bud (L+100) (C+100) (B+40000)) :
  Calls Tryz.prog 114 #[.pointer (some ⟨sb,0,none⟩),fv,.map (some t2)] w fun e w'=>∃ ev k s',e = .returned ev∧ErrV w' ev k∧SGo (fun k=>k=sb∨Bf≤k) s s' w w'∧WrZ s.ds (chF fl l l2) k s'.ds ∧
   (k=0→StW w' sb s' cb t2 nc l2.length Dc (tD l2))∧(k≠0→StW w' sb s' cb tb nc l.length Dc (tD l)):=by
 have HEQ:=hide (equal_any t2 tb l2 l w htm h.tm hok2 hok)
 obtain ⟨fo,fc,rfl⟩:=own_sl hrow
 have c2:=cell_of_row _ _ 2 _ _ _ h.blk
 have H:=hide h
 have HTM:=hide htm
 have HROW:=hide hrow
 have HFP:=hide hfp
 have HOK2:=hide hok2
 clear h htm hrow hfp hok hok2
 go_enter Tryz.func114,Tryz.ntmps114
 go_wp2_with fail
 refine (HEQ.out).mono ?_
 rintro _ w0 ⟨rfl,hb0⟩
 dsimp only
 clear HEQ c2
 -- what stands behind the files: the write and what follows it
 have hend:∀ (W:World) (v3:Value) (fl3:List (ByteArray × ByteArray)),StW W sb s cb tb nc l.length Dc (tD l)→TL W t2 l2→W.ownsRow Bf 222 2 v3 fl3.length (flCells fl3)→fl3.length≤10→(∀ f∈fl3,f.1.size≤1000∧f.2.size≤2000)→SGo (fun k=>k=sb∨Bf≤k) s s w W →
   Calls Tryz.prog 138 #[.pointer (some ⟨sb,0,none⟩),v3] W fun e w'=>∃ ev k s',e = .returned ev∧ErrV w' ev k∧SGo (fun k=>k=sb∨Bf≤k) s s' w w'∧WrZ s.ds fl3 k s'.ds∧StW w' sb s' cb tb nc l.length Dc (tD l)∧TL w' t2 l2∧¬ s'.own t2:=by
  intro W v3 fl3 h3 h4 h5 h6 h7 h8
  refine (write_z sb s v3 fl3 W h3.on (fl_at h5) hf hb h6 h7).mono fun e w' ⟨ev,k,s',e1,e2,e3,e4⟩=>⟨ev,k,s',e1,e2,h8.trans (SGo.of_go e3),e4,h3.go e3,h4.same (e3.gr.block _ h4.lt hown2),fun e=>?_⟩
  rcases e3.own _ e with e|e
  ·exact hown2 e
  ·have:=h4.lt;omega
 have HEND:=hide hend
 clear hend hf hb
 by_cases hll:l2=l
 ·have HCH:=hide (show ∀ (k:Int) (D:DS),WrZ s.ds fl k D→WrZ s.ds (chF fl l l2) k D from fun _ _ h=>by unfold chF;rw [if_pos hll];exact h)
  have HCALL:=hide (HEND.out w0 (.slice fo fl.length fc) fl (H.out.later hb0) (HTM.out.same (hb0.block _ HTM.out.lt)) (ownsRow_later HROW.out hb0) (by omega) HFP.out (SGo.of_below hb0))
  rw [decide_eq_true hll]
  clear hll hb0 HEND
  go_wp2_with fail
  refine (HCALL.out).mono ?_
  rintro _ w5 ⟨ev,k,s',rfl,hev,hsg,hwz,h5,t5,hown5⟩
  dsimp only
  have H5:=hide h5
  have T5:=hide t5
  have HSG:=hide hsg
  have HWZ:=hide hwz
  have HO5:=hide hown5
  clear h5 t5 hsg hwz hown5 HCALL
  rcases hev with ⟨rfl,rfl⟩|⟨hk0,sv,nm,rfl,hsv⟩
  ·have c5:=cell_of_row _ _ 2 _ _ _ H5.out.blk
   have z5:=frozen_of_row _ _ 2 _ _ H5.out.blk
   go_wp2_with fail
   go_ret
   exact ⟨_,0,s',rfl,.inl ⟨rfl,rfl⟩,HSG.out.trans (SGo.of_set (.inl rfl)),HCH.out _ _ HWZ.out,fun _=>H5.out.setTags T5.out HO5.out hG2 hc2,fun h=>absurd rfl h⟩
  ·have HSV:=hide hsv
   clear hsv
   go_wp2_with fail
   go_ret
   exact ⟨_,k,s',rfl,.inr ⟨hk0,sv,nm,rfl,HSV.out⟩,HSG.out,HCH.out _ _ HWZ.out,fun h=>absurd h hk0,fun _=>H5.out⟩
 ·have HCH:=hide (show ∀ (k:Int) (D:DS),WrZ s.ds (fl ++ [(indexP,idxX l2)]) k D→WrZ s.ds (chF fl l l2) k D from fun _ _ h=>by unfold chF;rw [if_neg hll];exact h)
  rw [decide_eq_false hll]
  have H0:=hide (H.out.later hb0)
  have T0:=hide (HTM.out.same (hb0.block _ HTM.out.lt))
  have R0:=hide (ownsRow_later HROW.out hb0)
  have HB0:=hide hb0
  have HSD:=hide (sorted_many t2 l2 w0 T0.out HOK2.out (by omega))
  clear hll hb0 HROW
  go_wp2_with fail
  refine (HSD.out).mono ?_
  rintro _ w1 ⟨v1,rfl,hrow1,hb1⟩
  dsimp only
  rw [flat_tg HOK2.out] at hrow1
  have h1:=H0.out.later hb1
  have HPR:=hide (print_core v1 (l2.map TE.tg) w1 l2.length (by simp) h8 _ hrow1 (tg_len HOK2.out) h1.gl.tab)
  have HB1:=hide hb1
  clear hrow1 hb1 h1 HSD
  go_wp2_with fail
  refine (HPR.out).mono ?_
  rintro _ w2 ⟨rfl,hb2⟩
  dsimp only
  have HB2:=hide (HB1.out.trans (hb2.mono HB1.out.size))
  have hox:(⟨(prTo (l2.map TE.tg) l2.length ++ [93,125]).toArray⟩ : ByteArray)=idxX l2:=rfl
  rw [hox]
  clear hb2 HB1 HPR hox
  have HXS:=hide (idxX_size HOK2.out h8)
  generalize hX:idxX l2=X at HXS HCH
  clear hX
  obtain ⟨i0,hi,hz0,hz1,hz2⟩:=info_parts Tryz.infoFile
  have HEC:=hide (new_cells w2 #[.string ⟨#[105,110,100,101,120]⟩,.string X] 222)
  have HRA:=hide (ownsRow_later (ownsRow_later R0.out HB2.out) ((Below.refl w2.heap.size w2).alloc (Nat.le_refl _) (.cells #[.string ⟨#[105,110,100,101,120]⟩,.string X] 222)))
  have hzz:=HB2.out.size
  have hz00:=HB0.out.size
  go_wp2_with (refine wpList_append_own _ rfl _ _ 223 rfl Bf 222 i0 _ 2 32 Tryz.underlying223 hi hz0 hz1 hz2 rfl (by decide) _ fl.length _ rfl HRA.out _ 1 1 [.string ⟨#[105,110,100,101,120]⟩,.string X] rfl rfl HEC.out (by simp [Value.oneCell']) (by unfold maxLen;omega) (by omega) (by simp;omega) ?_;rintro v3 w3 hv3 hg3 -;have HV3:=hide hv3;have HG3:=hide hg3;clear hv3 hg3)
  have hfr3:w3.ownsRow Bf 222 2 v3 (fl ++ [(indexP,X)]).length (flCells (fl ++ [(indexP,X)])):=by
   have:=HV3.out
   rw [List.length_append]
   simpa [flCells,indexP] using this
  have h4:StW w3 sb s cb tb nc l.length Dc (tD l):=((H0.out.later HB2.out).later ((Below.refl _ _).alloc (Nat.le_refl _) _)).row HG3.out (fun r e=>⟨own_obj HRA.out r e,fun hG=>by have:=hGB r hG;have:=own_ge HRA.out r e;omega⟩)
  have t4:TL w3 t2 l2:=by
   have t1:TL (w2.alloc (.cells #[.string ⟨#[105,110,100,101,120]⟩,.string X] 222)) t2 l2:=World.ownsMap.alloc (owns_same T0.out (HB2.out.block _ T0.out.lt)) _
   refine t1.same (HG3.out.block _ t1.lt (fun e=>?_))
   obtain ⟨es,clock,h1,_⟩:=t1
   obtain ⟨cur,h2⟩:=own_obj HRA.out _ e.symm
   rw [h1] at h2
   cases h2
  have HCALL:=hide (HEND.out w3 v3 (fl ++ [(indexP,X)]) h4 t4 hfr3 (by simp;omega) (fun f hfm=>by
   rcases List.mem_append.1 hfm with hfm|hfm
   ·exact HFP.out f hfm
   ·simp only [List.mem_singleton] at hfm
    subst hfm
    exact ⟨show indexP.size≤1000 by decide,HXS.out⟩) (((SGo.of_below HB0.out).trans (SGo.of_below (HB2.out))).trans ((SGo.of_below ((Below.refl _ _).alloc (Nat.le_refl _) _)).trans (SGo.of_grown HG3.out (fun r e=>.inr (own_ge HRA.out r e))))))
  clear HEND hfr3 h4 t4 HG3 HV3 HRA HEC
  go_wp2_with fail
  refine (HCALL.out).mono ?_
  rintro _ w5 ⟨ev,k,s',rfl,hev,hsg,hwz,h5,t5,hown5⟩
  dsimp only
  have H5:=hide h5
  have T5:=hide t5
  have HSG:=hide hsg
  have HWZ:=hide hwz
  have HO5:=hide hown5
  clear h5 t5 hsg hwz hown5 HCALL
  rcases hev with ⟨rfl,rfl⟩|⟨hk0,sv,nm,rfl,hsv⟩
  ·have c5:=cell_of_row _ _ 2 _ _ _ H5.out.blk
   have z5:=frozen_of_row _ _ 2 _ _ H5.out.blk
   go_wp2_with fail
   go_ret
   exact ⟨_,0,s',rfl,.inl ⟨rfl,rfl⟩,HSG.out.trans (SGo.of_set (.inl rfl)),HCH.out _ _ HWZ.out,fun _=>H5.out.setTags T5.out HO5.out hG2 hc2,fun h=>absurd rfl h⟩
  ·have HSV:=hide hsv
   clear hsv
   go_wp2_with fail
   go_ret
   exact ⟨_,k,s',rfl,.inr ⟨hk0,sv,nm,rfl,HSV.out⟩,HSG.out,HCH.out _ _ HWZ.out,fun h=>absurd h hk0,fun _=>H5.out⟩
set_option maxHeartbeats 4000000
set_option maxRecDepth 100000
open Go.RowKit
def kpF (D:DS) (ds:List Nat) (b:ByteArray):List (ByteArray × ByteArray):=match conR D ds with|some _=>[]|none=>[(cPath ds,b)]
def kpB (D:DS) (ds:List Nat) (b:ByteArray):ByteArray:=(conR D ds).getD b
theorem keep_any (sb:Nat) (s:PSt) (cb tb nc t1:Nat) (Dc:DataW Value) (l l1:List TE) (b:ByteArray) (ds:List Nat) (w:World) {L C B:Nat} (h:StW w sb s cb tb nc l.length Dc (tD l))
  (htm:TL w t1 l1) (hnt:¬ s.own t1) (hb300:b.size≤300) (hc300:∀ t,conR s.ds ds=some t→t.size≤300) (hnc:nc≤100000000) (hrd:∀ t,rdD s.ds (cPath ds)=some t→t.size≤140737488351232)
  (hok:∀ t∈l,t.Ok) (hok1:∀ t∈l1,t.Ok) (h8:l1.length≤8) (hds:ds.length=32) (hlt:∀ i,ds.getD i 0<256) (hf:DFit s.ds L C B) (hb:Bud (L+100) (C+100) (B+40000)) :
  Calls Tryz.prog 102 #[.pointer (some ⟨sb,0,none⟩),.agg (cells8 ds),.string b,.map (some t1)] w fun e w'=>∃ ev k s',e = .returned ev∧ErrV w' ev k∧SGo (fun k=>k=sb∨k=cb) s s' w w'∧WrZ s.ds (chF (kpF s.ds ds b) l (szT ds (kpB s.ds ds b).size l1)) k s'.ds ∧
   (k=0→∃ t2,w.heap.size≤t2∧StW w' sb s' cb t2 (nc+1) (szT ds (kpB s.ds ds b).size l1).length (dPut Dc ds) (tD (szT ds (kpB s.ds ds b).size l1)))∧(k≠0→StW w' sb s' cb tb nc l.length Dc (tD l)):=by
 have hbo:Below w.heap.size w (w.alloc (.cells (cells8 ds) 117)):=(Below.refl _ _).alloc (Nat.le_refl _) _
 have hrow:(w.alloc (.cells (cells8 ds) 117)).heap[w.heap.size]? = some (.cells (cells8 ds) 117 (0,0)):=heap_alloc_new _ _
 obtain ⟨W,hW⟩ : ∃ W,W=w.alloc (.cells (cells8 ds) 117):=⟨_,rfl⟩
 rw [← hW] at hbo hrow
 have hst:=h.later hbo
 have HC:=hide (content_any sb s ds W hst.on hds hlt hrd)
 have H0:=hide h
 have HST:=hide hst
 have HW:=hide hW
 have HBO:=hide hbo
 have HROW:=hide hrow
 have HTM:=hide htm
 have HNT:=hide hnt
 have HN:=hide (fun (k:Nat) (hk:s.own k)=>h.inn.lt hk)
 have HF:=hide hf
 have HBU:=hide hb
 have HOK:=hide hok
 have HOK1:=hide hok1
 have hsbw:=lt_heap h.blk
 clear h hst hW hbo hrow htm hrd hf hb hnt hok hok1
 cases hcon:conR s.ds ds with
 | none =>
  have HKF:=hide (show kpF s.ds ds b = [(cPath ds,b)] by unfold kpF;rw [hcon])
  have HKB:=hide (show kpB s.ds ds b=b by unfold kpB;rw [hcon];rfl)
  rw [HKF.out,HKB.out]
  rw [hcon] at HC
  clear hcon
  go_enter Tryz.func102,Tryz.ntmps102
  go_upto_region 1 with fail
  rw [← HW.out]
  go_wp2_with (refine wpList_load_row rfl 117 _ rfl w.heap.size rfl 117 _ _ _ HROW.out Tryz.underlying117 rfl (size40 _ hds) ?_)
  refine (HC.out).mono ?_
  rintro _ w1 ⟨rfl,hg1⟩
  dsimp only [Option.getD,Option.isSome]
  have HG1:=hide hg1
  have HR1:=hide ((hg1.gr.block _ (lt_heap HROW.out) (fun e=>by have:=HN.out _ e;omega)).trans HROW.out)
  have HCP:=hide (contentPath_any ds w1 hds hlt)
  clear hg1 HC
  go_wp2_with (refine wpList_load_row rfl 117 _ rfl w.heap.size rfl 117 _ _ _ HR1.out Tryz.underlying117 rfl (size40 _ hds) ?_)
  refine (HCP.out).mono ?_
  rintro _ w2 ⟨rfl,hb2⟩
  dsimp only
  have HB2:=hide hb2
  have HR2:=hide ((hb2.block _ (lt_heap HR1.out)).trans HR1.out)
  obtain ⟨i0,hi,hz0,hz1,hz2⟩:=info_parts Tryz.infoFile
  obtain ⟨P,hP⟩ : ∃ P,P=cPath ds:=⟨_,rfl⟩
  rw [← hP]
  have HP:=hide hP
  have HEC:=hide (new_cells w2 #[.string P,.string b] 222)
  have hwz:w.heap.size≤w2.heap.size:=by have:=HBO.out.size;have:=HG1.out.gr.size;have:=hb2.size;omega
  have hw1:=lt_heap HROW.out
  have hwz2:W.heap.size≤w2.heap.size:=by have:=HG1.out.gr.size;have:=hb2.size;omega
  clear hb2 hP HCP
  go_wp2_with (first|(refine wpList_load_row rfl 117 _ rfl w.heap.size rfl 117 _ _ _ HR3.out Tryz.underlying117 rfl (size40 _ hds) ?_)|(refine wpList_append_own _ rfl _ _ 223 rfl W.heap.size 222 i0 _ 2 32 Tryz.underlying223 hi hz0 hz1 hz2 rfl (by decide) (.slice none 0 0) 0 [] rfl (World.ownsRow_nil _ _ _ _) _ 1 1 [.string P,.string b] rfl rfl HEC.out (by simp [Value.oneCell']) (by unfold maxLen;omega) (by omega) (by simp;omega) ?_;rintro v3 w3 hv3 hg3 -;have HV3:=hide hv3;have HG3:=hide hg3;have HR3:=hide ((hg3.block _ (by have:=lt_heap HR2.out;simp;omega) (fun e=>by cases e)).trans ((((Below.refl w2.heap.size w2).alloc (Nat.le_refl _) _).block _ (lt_heap HR2.out)).trans HR2.out));clear hv3 hg3))
  have h3:StW w3 sb s cb tb nc l.length Dc (tD l):=(((HST.out.go HG1.out).later HB2.out).later ((Below.refl _ _).alloc (Nat.le_refl _) _)).row HG3.out (fun r e=>by cases e)
  have f3:SGo (fun k=>k=sb∨k=cb∨w.heap.size≤k) s s w w3:=((((SGo.of_below HBO.out).trans (SGo.of_go HG1.out)).trans (SGo.of_below HB2.out)).trans (SGo.of_below ((Below.refl _ _).alloc (Nat.le_refl _) _))).trans (SGo.of_grown HG3.out (fun r e=>by cases e))
  have t3:TL w3 t1 l1:=by
   have a1:=HTM.out.same (HBO.out.block _ HTM.out.lt)
   have a2:=a1.same (HG1.out.gr.block _ a1.lt (fun e=>HNT.out e))
   have a3:=a2.same (HB2.out.block _ a2.lt)
   have a4:TL _ t1 l1:=World.ownsMap.alloc a3 (.cells #[.string P,.string b] 222)
   exact a4.same (HG3.out.block _ a4.lt (fun e=>by cases e))
  have r3:w3.ownsRow W.heap.size 222 2 v3 [(P,b)].length (flCells [(P,b)]):=HV3.out
  have hs3:W.heap.size≤w3.heap.size:=by have:=HG3.out.size;simp at this;omega
  have HFLP:=hide (show ∀ f∈[(P,b)],f.1.size≤1000∧f.2.size≤2000 from fun f hfm=>by
   simp only [List.mem_singleton] at hfm
   subst hfm
   refine ⟨?_,show b.size≤2000 by omega⟩
   rw [HP.out]
   exact cPath_size ds)
  have hz300:(0:Int)≤(b.size:Int)∧(b.size:Int)≤300:=by omega
  have HSZ:=hide (sized_any t1 l1 ds b.size w3 t3 HOK1.out hds hlt (by omega))
  have H3:=hide h3
  have F3:=hide f3
  have R3:=hide r3
  clear h3 f3 t3 r3 HV3 HG3 HEC
  refine (HSZ.out).mono ?_
  rintro _ w4 ⟨t2,rfl,ht2,htm2,hb4⟩
  dsimp only
  have HT2:=hide (show w.heap.size≤t2 by have:=HBO.out.size;omega)
  have hbf:W.heap.size≤w4.heap.size:=by have:=hb4.size;omega
  have HL2:=hide (show (szT ds b.size l1).length=l1.length by simp [szT])
  have HCH:=hide (change_any sb s cb tb nc t2 W.heap.size Dc v3 [(P,b)] l (szT ds b.size l1) w4 (H3.out.later hb4) htm2 (fun e=>by have:=H3.out.inn.lt e;omega) (fun e=>by have:=H3.out.gl.lt e;omega) (fun e=>by have:=H3.out.cm.lt;omega) (ownsRow_later R3.out hb4) hbf (fun k hk=>HST.out.gl.lt hk) (by simp) HFLP.out HOK.out (szT_ok HOK1.out hz300) (by rw [HL2.out];exact h8) HF.out HBU.out)
  have F4:=hide (F3.out.trans (SGo.of_below hb4))
  have HR4:=hide ((hb4.block _ (lt_heap HR3.out)).trans HR3.out)
  clear htm2 hb4 HSZ R3
  go_wp2_with fail
  refine (HCH.out).mono ?_
  rintro _ w5 ⟨ev,k,s',rfl,hev,hft,hwr,h50,h51⟩
  dsimp only
  have F5:=hide (F4.out.trans (hft.mono (fun k hk hs=>by rcases hs with hs|hs;exact .inl hs;exact .inr (.inr (by omega)))))
  have HR5:=hide ((hft.gr.block _ (lt_heap HR4.out) (fun e=>by
   rcases e with e|e|e
   ·have:=HN.out _ e;omega
   ·omega
   ·omega)).trans HR4.out)
  have HWR:=hide hwr
  have H50:=hide h50
  have H51:=hide h51
  clear hft hwr h50 h51 HCH
  have HFIN:=hide (show ∀ (X:World),SGo (fun k=>k=sb∨k=cb∨w.heap.size≤k) s s' w X→SGo (fun k=>k=sb∨k=cb) s s' w X from fun X hX=>hX.mono (fun k hk hs=>by rcases hs with hs|hs|hs;exact .inl hs;exact .inr hs;omega))
  rcases hev with ⟨rfl,rfl⟩|⟨hk0,sv,nm,rfl,hsv⟩
  ·have h5:=H50.out rfl
   have hdr:Below w5.heap.size w5 w5.drew:=(Below.refl _ _).drew
   have h6:=h5.later hdr
   have hS0:w5.drew.cell? ⟨sb,1,none⟩=some (.map (some cb))∧w5.drew.rangeAt w.heap.size 0 (cells8 ds).toList:=⟨cell_of_row _ _ 1 _ _ _ h6.blk,con_r ((hdr.block _ (lt_heap HR5.out)).trans HR5.out)⟩
   obtain ⟨w6,hrun,hm6,hg6⟩:=World.ownsMap.update h6.cm dig_keyed Tryz.underlying156 (by unfold maxLen;omega) (key_dig ds hds hlt) (show heldR (.agg #[])=some (.held (.agg #[]),[]) from rfl)
   have hr6:=(hdr.block _ (lt_heap HR5.out)).trans HR5.out
   have hS6:w6.cell? ⟨sb,1,none⟩=some (.map (some cb))∧w6.rangeAt w.heap.size 0 (cells8 ds).toList:=⟨cell_of_row _ _ 1 _ _ _ (h6.putC hg6 hm6).blk,con_r ((hg6.block _ (lt_heap hr6) (fun e=>by
    injection e with e
    obtain ⟨es,clock,h1,_⟩:=h6.cm
    rw [← e,hr6] at h1
    cases h1)).trans hr6)⟩
   have H6:=hide h6
   have HM6:=hide hm6
   have HG6:=hide hg6
   have hbu:∀ w,(Instr.build 100 #[]).run Tryz.prog w = .ok (.agg #[]) w:=fun w=>by kernel_rfl
   have u72:=Tryz.underlying117
   have i72:=size72 ds hds
   clear h5 h6 hm6 hg6
   go_wp2_with fail
   go_region_held3 (fun w'=>w'.cell? ⟨sb,1,none⟩=some (.map (some cb))∧w'.rangeAt w.heap.size 0 (cells8 ds).toList) (first|exact hS0|exact hS6|go_keep) (fail)
   clear hrun hbu u72 i72 hS0 hS6 hr6
   go_wp2_with fail
   go_ret
   have F6:=HFIN.out _ (F5.out.trans ((SGo.of_below hdr).trans (SGo.of_grown HG6.out (fun r e=>by injection e with e;exact .inr (.inl e.symm)))))
   exact ⟨_,0,s',rfl,.inl ⟨rfl,rfl⟩,F6,(by rw [← HP.out];exact HWR.out),fun _=>⟨t2,HT2.out,H6.out.putC HG6.out HM6.out⟩,fun h=>absurd rfl h⟩
  ·have HSV:=hide hsv
   clear hsv
   go_wp2_with fail
   go_ret
   exact ⟨_,k,s',rfl,.inr ⟨hk0,sv,nm,rfl,HSV.out⟩,HFIN.out _ F5.out,(by rw [← HP.out];exact HWR.out),fun h=>absurd h hk0,fun _=>H51.out hk0⟩
 | some t =>
  have HKF:=hide (show kpF s.ds ds b = [] by unfold kpF;rw [hcon])
  have HKB:=hide (show kpB s.ds ds b=t by unfold kpB;rw [hcon];rfl)
  rw [HKF.out,HKB.out]
  rw [hcon] at hc300
  rw [hcon] at HC
  clear hcon
  go_enter Tryz.func102,Tryz.ntmps102
  go_upto_region 1 with fail
  rw [← HW.out]
  go_wp2_with (refine wpList_load_row rfl 117 _ rfl w.heap.size rfl 117 _ _ _ HROW.out Tryz.underlying117 rfl (size40 _ hds) ?_)
  refine (HC.out).mono ?_
  rintro _ w1 ⟨rfl,hg1⟩
  dsimp only [Option.getD,Option.isSome]
  have HG1:=hide hg1
  have HR1:=hide ((hg1.gr.block _ (lt_heap HROW.out) (fun e=>by have:=HN.out _ e;omega)).trans HROW.out)
  have h3:StW w1 sb s cb tb nc l.length Dc (tD l):=HST.out.go HG1.out
  have f3:SGo (fun k=>k=sb∨k=cb∨w.heap.size≤k) s s w w1:=(SGo.of_below HBO.out).trans (SGo.of_go HG1.out)
  have t3:TL w1 t1 l1:=by
   have a1:=HTM.out.same (HBO.out.block _ HTM.out.lt)
   exact a1.same (HG1.out.gr.block _ a1.lt (fun e=>HNT.out e))
  have r3:w1.ownsRow W.heap.size 222 2 (.slice none 0 0) ([]:List (ByteArray × ByteArray)).length (flCells []):=World.ownsRow_nil _ _ _ _
  have hs3:W.heap.size≤w1.heap.size:=HG1.out.gr.size
  have hw1:=lt_heap HROW.out
  have HFLP:=hide (show ∀ f∈([]:List (ByteArray × ByteArray)),f.1.size≤1000∧f.2.size≤2000 from fun f hfm=>by cases hfm)
  have hz300:(0:Int)≤(t.size:Int)∧(t.size:Int)≤300:=by have:=hc300 t rfl;omega
  have HSZ:=hide (sized_any t1 l1 ds t.size w1 t3 HOK1.out hds hlt (by omega))
  have H3:=hide h3
  have F3:=hide f3
  have R3:=hide r3
  have HR3:=HR1
  clear h3 f3 t3 r3 hg1 HC
  go_wp2_with (refine wpList_load_row rfl 117 _ rfl w.heap.size rfl 117 _ _ _ HR3.out Tryz.underlying117 rfl (size40 _ hds) ?_)
  refine (HSZ.out).mono ?_
  rintro _ w4 ⟨t2,rfl,ht2,htm2,hb4⟩
  dsimp only
  have HT2:=hide (show w.heap.size≤t2 by have:=HBO.out.size;omega)
  have hbf:W.heap.size≤w4.heap.size:=by have:=hb4.size;omega
  have HL2:=hide (show (szT ds t.size l1).length=l1.length by simp [szT])
  have HCH:=hide (change_any sb s cb tb nc t2 W.heap.size Dc (.slice none 0 0) [] l (szT ds t.size l1) w4 (H3.out.later hb4) htm2 (fun e=>by have:=H3.out.inn.lt e;omega) (fun e=>by have:=H3.out.gl.lt e;omega) (fun e=>by have:=H3.out.cm.lt;omega) (ownsRow_later R3.out hb4) hbf (fun k hk=>HST.out.gl.lt hk) (by simp) HFLP.out HOK.out (szT_ok HOK1.out hz300) (by rw [HL2.out];exact h8) HF.out HBU.out)
  have F4:=hide (F3.out.trans (SGo.of_below hb4))
  have HR4:=hide ((hb4.block _ (lt_heap HR3.out)).trans HR3.out)
  clear htm2 hb4 HSZ R3
  go_wp2_with fail
  refine (HCH.out).mono ?_
  rintro _ w5 ⟨ev,k,s',rfl,hev,hft,hwr,h50,h51⟩
  dsimp only
  have F5:=hide (F4.out.trans (hft.mono (fun k hk hs=>by rcases hs with hs|hs;exact .inl hs;exact .inr (.inr (by omega)))))
  have HR5:=hide ((hft.gr.block _ (lt_heap HR4.out) (fun e=>by
   rcases e with e|e|e
   ·have:=HN.out _ e;omega
   ·omega
   ·omega)).trans HR4.out)
  have HWR:=hide hwr
  have H50:=hide h50
  have H51:=hide h51
  clear hft hwr h50 h51 HCH
  have HFIN:=hide (show ∀ (X:World),SGo (fun k=>k=sb∨k=cb∨w.heap.size≤k) s s' w X→SGo (fun k=>k=sb∨k=cb) s s' w X from fun X hX=>hX.mono (fun k hk hs=>by rcases hs with hs|hs|hs;exact .inl hs;exact .inr hs;omega))
  rcases hev with ⟨rfl,rfl⟩|⟨hk0,sv,nm,rfl,hsv⟩
  ·have h5:=H50.out rfl
   have hdr:Below w5.heap.size w5 w5.drew:=(Below.refl _ _).drew
   have h6:=h5.later hdr
   have hS0:w5.drew.cell? ⟨sb,1,none⟩=some (.map (some cb))∧w5.drew.rangeAt w.heap.size 0 (cells8 ds).toList:=⟨cell_of_row _ _ 1 _ _ _ h6.blk,con_r ((hdr.block _ (lt_heap HR5.out)).trans HR5.out)⟩
   obtain ⟨w6,hrun,hm6,hg6⟩:=World.ownsMap.update h6.cm dig_keyed Tryz.underlying156 (by unfold maxLen;omega) (key_dig ds hds hlt) (show heldR (.agg #[])=some (.held (.agg #[]),[]) from rfl)
   have hr6:=(hdr.block _ (lt_heap HR5.out)).trans HR5.out
   have hS6:w6.cell? ⟨sb,1,none⟩=some (.map (some cb))∧w6.rangeAt w.heap.size 0 (cells8 ds).toList:=⟨cell_of_row _ _ 1 _ _ _ (h6.putC hg6 hm6).blk,con_r ((hg6.block _ (lt_heap hr6) (fun e=>by
    injection e with e
    obtain ⟨es,clock,h1,_⟩:=h6.cm
    rw [← e,hr6] at h1
    cases h1)).trans hr6)⟩
   have H6:=hide h6
   have HM6:=hide hm6
   have HG6:=hide hg6
   have hbu:∀ w,(Instr.build 100 #[]).run Tryz.prog w = .ok (.agg #[]) w:=fun w=>by kernel_rfl
   have u72:=Tryz.underlying117
   have i72:=size72 ds hds
   clear h5 h6 hm6 hg6
   go_wp2_with fail
   go_region_held3 (fun w'=>w'.cell? ⟨sb,1,none⟩=some (.map (some cb))∧w'.rangeAt w.heap.size 0 (cells8 ds).toList) (first|exact hS0|exact hS6|go_keep) (fail)
   clear hrun hbu u72 i72 hS0 hS6 hr6
   go_wp2_with fail
   go_ret
   have F6:=HFIN.out _ (F5.out.trans ((SGo.of_below hdr).trans (SGo.of_grown HG6.out (fun r e=>by injection e with e;exact .inr (.inl e.symm)))))
   exact ⟨_,0,s',rfl,.inl ⟨rfl,rfl⟩,F6,HWR.out,fun _=>⟨t2,HT2.out,H6.out.putC HG6.out HM6.out⟩,fun h=>absurd rfl h⟩
  ·have HSV:=hide hsv
   clear hsv
   go_wp2_with fail
   go_ret
   exact ⟨_,k,s',rfl,.inr ⟨hk0,sv,nm,rfl,HSV.out⟩,HFIN.out _ F5.out,HWR.out,fun h=>absurd h hk0,fun _=>H51.out hk0⟩
set_option maxHeartbeats 2000000
set_option maxRecDepth 100000
open Go.RowKit
theorem size_any (sb:Nat) (s:PSt) (ds:List Nat) (w:World) (h:On w sb s) (hds:ds.length=32) (hlt:∀ i,ds.getD i 0<256) :
  Calls Tryz.prog 67 #[.pointer (some ⟨sb,0,none⟩),.agg (cells8 ds)] w fun e w'=>e = .returned (.int .i64 (((rdD s.ds (cPath ds)).getD ⟨#[]⟩).size:Int))∧PGo s s w w':=by
 have hbo:Below w.heap.size w (w.alloc (.cells (cells8 ds) 117)):=(Below.refl _ _).alloc (Nat.le_refl _) _
 have hrow:(w.alloc (.cells (cells8 ds) 117)).heap[w.heap.size]? = some (.cells (cells8 ds) 117 (0,0)):=heap_alloc_new _ _
 obtain ⟨W,hW⟩ : ∃ W,W=w.alloc (.cells (cells8 ds) 117):=⟨_,rfl⟩
 rw [← hW] at hbo hrow
 have hon:=h.later hbo
 obtain ⟨cv,tv,hbl⟩:=hon.sb
 have c0:W.cell? ⟨sb,0,none⟩=some (.pointer (some ⟨s.b,0,none⟩)):=cell_of_row _ _ 0 _ _ _ hbl
 have HCP:=hide (contentPath_any ds W.drew hds hlt)
 have HR:=hide (fun (w':World) (hb':Below W.heap.size W w')=>dkRead s (cPath ds) w' (hon.inn.later hb') (Nat.le_trans (cPath_size ds) (by decide)))
 have H0:=hide h
 have HON:=hide hon
 have HW:=hide hW
 have HBO:=hide hbo
 have HROW:=hide hrow
 have HN:=hide (fun (k:Nat) (hk:s.own k)=>h.inn.lt hk)
 clear h hon hbl hW hbo hrow
 go_enter Tryz.func67,Tryz.ntmps67
 go_upto_region 1 with fail
 rw [← HW.out]
 obtain ⟨xb,hxb⟩ : ∃ xb,xb=w.heap.size:=⟨_,rfl⟩
 rw [← hxb] at HROW HN ⊢
 have HXB:=hide hxb
 clear hxb
 have hS0:=con_s (HON.out.later (Below.refl W.heap.size W).drew) ((((Below.refl W.heap.size W).drew).block _ (lt_heap HROW.out)).trans HROW.out)
 have u72:=Tryz.underlying117
 have i72:=size72 ds hds
 go_region_held3 (fun w'=>w'.cell? ⟨sb,0,none⟩=some (.pointer (some ⟨s.b,0,none⟩))∧w'.rangeAt xb 0 (cells8 ds).toList) (first|exact hS3|exact hS2|exact hS0|go_keep) ((first|(go_at_call 107;refine (HCP.out).mono ?_;rintro _ w1 ⟨rfl,hb1⟩;have hb3:Below W.heap.size W w1:=((Below.refl W.heap.size W).drew).trans hb1;have hr2:=(hb3.block _ (lt_heap HROW.out)).trans HROW.out;have hS2:=con_s (HON.out.later hb3) hr2)|(go_at_call 80;refine (HR.out _ hb3).mono ?_;rintro _ w2 ⟨v,k,rfl,hv,hk,hg,hi⟩;have hr3:=(hg.block _ (lt_heap hr2) (fun e=>by have:=HN.out _ e;omega)).trans hr2;have hS3:=con_s ((HON.out.later hb3).go ⟨rfl,hi,hg,fun _ hk=>.inl hk⟩) hr3)))
 have hgo:PGo s s w1 w2:=⟨rfl,hi,hg,fun _ hk=>.inl hk⟩
 have HGO:=hide (((PGo.refl H0.out.inn HBO.out).trans (PGo.refl HON.out.inn hb3)).trans hgo)
 have HR2:=hide hr3
 have HGL2:=hide ((HON.out.later hb3).go hgo).gl
 clear hgo hg hi HR hS0 hS2 hS3 hr2 hr3 hb1 hb3 HCP c0 u72 i72
 clear hk hv HR2 HGL2
 go_wp2_with fail
 go_ret
 exact ⟨rfl,HGO.out⟩
theorem untag_any (sb:Nat) (s:PSt) (cb tb nc:Nat) (Dc:DataW Value) (l:List TE) (name:ByteArray) (w:World) {L C B:Nat} (h:StW w sb s cb tb nc l.length Dc (tD l)) (hok:∀ t∈l,t.Ok) (h8:l.length≤8) (hn:name.size≤1000000) (hf:DFit s.ds L C B) (hb:Bud (L+100) (C+100) (B+40000)) :
  Calls Tryz.prog 74 #[.pointer (some ⟨sb,0,none⟩),.string name] w fun e w'=>∃ ev k s',e = .returned ev∧ErrV w' ev k∧SGo (fun k=>k=sb) s s' w w'∧WrZ s.ds (chF [] l (delK TE.n name l)) k s'.ds ∧
   (k=0→∃ t2,w.heap.size≤t2∧StW w' sb s' cb t2 nc (delK TE.n name l).length Dc (tD (delK TE.n name l)))∧(k≠0→StW w' sb s' cb tb nc l.length Dc (tD l)):=by
 have HCL:=hide (tclone_any tb l.length (tD l) w h.tm)
 have c2:=cell_of_row _ _ 2 _ _ _ h.blk
 have H:=hide h
 have HOK:=hide hok
 have HF:=hide hf
 have HB:=hide hb
 clear h hok hf hb
 go_enter Tryz.func74,Tryz.ntmps74
 go_wp2_with fail
 refine (HCL.out).mono ?_
 rintro _ w1 ⟨rfl,htm1,hb1⟩
 dsimp only
 have HT1:=hide htm1
 have HB1:=hide hb1
 clear htm1 hb1 HCL c2
 go_wp2_with (refine wpList_delete_own _ rfl _ _ 157 9 rfl 193 str_keyed Tryz.underlying157 heldR w.heap.size l.length (tD l) rfl HT1.out _ (kOf name) rfl (key_str name hn) ?_;intro w2 hm2 hg2)
 have hgr2:w1.grownBy w2 (some w.heap.size):=hg2.grown
 have t2:TL w2 w.heap.size (delK TE.n name l):=by
  rw [mD_del] at hm2
  exact tl_tight hm2
 have hB2:Below w.heap.size w w2:=HB1.out.grown hgr2 HB1.out.size (fun k e=>by injection e with e;omega)
 have h2:=H.out.later hB2
 have HCH:=hide (change_any sb s cb tb nc w.heap.size w2.heap.size Dc (.slice none 0 0) [] l (delK TE.n name l) w2 h2 t2 (fun e=>by have:=H.out.inn.lt e;omega) (fun e=>by have:=H.out.gl.lt e;omega) (fun e=>by have:=H.out.cm.lt;omega) (World.ownsRow_nil _ _ _ _) (Nat.le_refl _) (fun k hk=>h2.gl.lt hk) (by simp) (fun f hf=>by cases hf) HOK.out (fun t ht=>HOK.out t (delK_mem.1 ht).1) (Nat.le_trans (delK_len _ _) h8) HF.out HB.out)
 have HB2:=hide hB2
 clear h2 t2 hgr2 hg2 hm2 hB2
 refine (HCH.out).mono ?_
 rintro _ w5 ⟨ev,k,s',rfl,hev,hft,hwr,h50,h51⟩
 dsimp only
 have hsg:SGo (fun k=>k=sb) s s' w w5:=((SGo.of_below HB2.out).trans (hft.mono (S':=fun k=>k=sb∨w.heap.size≤k) (fun k hk hs=>hs.imp id (fun h=>by have:=HB2.out.size;omega)))).mono (fun k hk hs=>by rcases hs with hs|hs;exact hs;omega)
 have HSG:=hide hsg
 have HWR:=hide hwr
 have H50:=hide h50
 have H51:=hide h51
 have HEV:=hide hev
 clear hev hft hwr h50 h51 hsg HCH
 go_wp2_with fail
 go_ret
 exact ⟨_,k,s',rfl,HEV.out,HSG.out,HWR.out,fun hk=>⟨_,Nat.le_refl _,H50.out hk⟩,H51.out⟩
set_option maxHeartbeats 4000000
set_option maxRecDepth 100000
open Go.RowKit
def puT (D:DS) (ds:List Nat) (name b:ByteArray) (l:List TE):List TE:=szT ds (kpB D ds b).size (insK TE.n ⟨name,ds,0⟩ l)
set_option linter.unusedSimpArgs false in
theorem pub_any (sb:Nat) (s:PSt) (cb tb nc:Nat) (Dc:DataW Value) (l:List TE) (name b:ByteArray) (w:World) {L C B:Nat} (h:StW w sb s cb tb nc l.length Dc (tD l))
  (hb300:b.size≤300) (hc300:∀ t,conR s.ds (dOfB b)=some t→t.size≤300) (hnc:nc≤100000000) (hrd:∀ t,rdD s.ds (cPath (dOfB b))=some t→t.size≤140737488351232) (hok:∀ t∈l,t.Ok)
  (hn:name.size≤20) (h8:l.length≤8) (h8':(insK TE.n ⟨name,dOfB b,0⟩ l).length≤8) (hf:DFit s.ds L C B) (hb:Bud (L+100) (C+100) (B+40000)) :
  Calls Tryz.prog 62 #[.pointer (some ⟨sb,0,none⟩),.string name,.string b] w fun e w'=>∃ ev k s',e = .returned (.tuple #[.agg (cells8 (dOfB b)),ev])∧ErrV w' ev k∧SGo (fun k=>k=sb∨k=cb) s s' w w'∧WrZ s.ds (chF (kpF s.ds (dOfB b) b) l (puT s.ds (dOfB b) name b l)) k s'.ds ∧
   (k=0→∃ t2,w.heap.size≤t2∧StW w' sb s' cb t2 (nc+1) (puT s.ds (dOfB b) name b l).length (dPut Dc (dOfB b)) (tD (puT s.ds (dOfB b) name b l)))∧(k≠0→StW w' sb s' cb tb nc l.length Dc (tD l)):=by
 have hds:=dOfB_len b
 have hlt:=dOfB_lt b
 have HOF:=hide (fun W (hb:Below w.heap.size w W)=>of_any b W (by omega) (h.gl.later hb).hk)
 obtain ⟨ds,hd⟩ : ∃ ds,ds=dOfB b:=⟨_,rfl⟩
 have hd':Sha.digest (Sha.state b.data.toList)=ds:=hd.symm
 have HOF2:Hid (∀ W,Below w.heap.size w W→Calls Tryz.prog 71 #[.string b] W fun e w'=>e = .returned (.agg (cells8 ds))∧Below W.heap.size W w'):=hide (fun W hW=>by rw [← hd'];exact HOF.out W hW)
 clear HOF
 rw [← hd] at hc300 hrd hds hlt h8' ⊢
 have hrise:RiseT l:=TL.rise h.tm
 have HTW:Hid (∀ W,StW W sb s cb tb nc l.length Dc (tD l)→Calls Tryz.prog 103 #[.pointer (some ⟨sb,0,none⟩),.string name,.agg (cells8 ds)] W fun e w'=>∃ b,e = .returned (.map (some b))∧W.heap.size≤b∧TL w' b (insK TE.n ⟨name,ds,0⟩ l)∧Below W.heap.size W w'):=hide (fun W hW=>(tagsWith_any sb s cb tb nc l.length Dc (tD l) name ds W hW hds (by omega) (by omega)).mono fun e w' ⟨b,h1,h2,h3,h4⟩=>⟨b,h1,h2,by
  have h5:TM w' b (l.length+1) ((tD l).put (kOf (⟨name,ds,0⟩ : TE).n) (.held (⟨name,ds,0⟩ : TE).v)):=h3
  rw [mD_put _ _ hrise] at h5
  exact tl_tight h5,h4⟩)
 have hok1:∀ t∈insK TE.n ⟨name,ds,0⟩ l,t.Ok:=fun t ht=>by
  rcases insK_mem ht with rfl|ht
  ·exact ⟨hn,hds,hlt,Int.le_refl _,by show (0:Int)≤300;decide⟩
  ·exact hok t ht
 have HKP:=hide (fun W t1 hW ht hno=>keep_any sb s cb tb nc t1 Dc l (insK TE.n ⟨name,ds,0⟩ l) b ds W hW ht hno hb300 hc300 hnc hrd hok hok1 h8' hds hlt hf hb)
 have H:=hide h
 have HD:=hide hd
 have HNS:=hide (show ∀ k,w.heap.size≤k→¬ (s.own k∨(k=sb∨k=cb)) from fun k hk e=>by
  rcases e with e|e|e
  ·have:=h.inn.lt e;omega
  ·have:=lt_heap h.blk;omega
  ·have:=h.cm.lt;omega)
 clear h hc300 hrd hf hb hd hd' hok hok1 h8' hrise
 have hz32:Sha.zeros 32=List.replicate 32 0:=rfl
 go_enter Tryz.func62,Tryz.ntmps62
 go_upto_region 2 with (first|(go_at_call 71;refine (HOF2.out _ (by exact (Below.refl _ _).alloc (Nat.le_refl _) _)).mono ?_;rintro _ w1 ⟨rfl,hb1⟩)|(refine wpList_store_row rfl 117 _ _ rfl w1.heap.size _ rfl rfl 117 _ (heap_alloc_new _ _) (size40 _ hds) (by rw [cells8_size,hds];rfl) (cells8_one _) ?_;rw [World.setRow_alloc_new]))
 have hz0:(w.alloc (.cells (cells8 (Sha.zeros 32)) 117)).heap[w.heap.size]? = some (.cells (cells8 (Sha.zeros 32)) 117 (0,0)):=heap_alloc_new _ _
 have hb0:Below w.heap.size w (w.alloc (.cells (cells8 (Sha.zeros 32)) 117)):=(Below.refl _ _).alloc (Nat.le_refl _) _
 have hr1:w1.heap[w.heap.size]? = some (.cells (cells8 (Sha.zeros 32)) 117 (0,0)):=(hb1.block _ (lt_heap hz0)).trans hz0
 have hbw1:Below w.heap.size w w1:=hb0.trans (hb1.mono hb0.size)
 obtain ⟨W,hW⟩ : ∃ W,W=(w1.alloc (.cells (cells8 ds) 117)).drew:=⟨_,rfl⟩
 have hBW:Below w1.heap.size w1 W:=by rw [hW];exact ((Below.refl _ _).alloc (Nat.le_refl _) _).drew
 have hrow:W.heap[w1.heap.size]? = some (.cells (cells8 ds) 117 (0,0)):=by rw [hW];exact heap_alloc_new _ _
 have hrr:=(hBW.block _ (lt_heap hr1)).trans hr1
 have hbW:Below w.heap.size w W:=hbw1.trans (hBW.mono hbw1.size)
 have HBW:=hide hbW
 have HROW:=hide hrow
 have HRR:=hide hrr
 have hlr:=lt_heap hr1
 have hst:=H.out.later hbW
 have HST:=hide hst
 have HTW2:=hide (HTW.out W hst)
 have hS0:=And.intro (con_r hrow) (con_t hrr (Sha.zeros_len _) ds hds)
 have u72:=Tryz.underlying117
 have i72:=size72 ds hds
 obtain ⟨xb,hxb⟩ : ∃ xb,xb=w1.heap.size:=⟨_,rfl⟩
 obtain ⟨rb,hrb⟩ : ∃ rb,rb=w.heap.size:=⟨_,rfl⟩
 rw [hW] at hS0
 clear hbW hrow hrr hst hBW hz0 hb0 hr1 hbw1 hb1 HTW
 rw [← hrb] at hS0 HRR
 rw [← hxb] at hS0 HROW
 dsimp only [Act.put]
 rw [← hrb,← hxb]
 have HWH:=hide hW
 have HXB:=hide hxb
 have HRB:=hide hrb
 have hlr2:rb<xb:=by rw [hrb,hxb];omega
 clear hW hxb hrb hlr
 refine wp_region_held_drew (S:=fun w'=>w'.rangeAt xb 0 (cells8 ds).toList∧w'.there rb 0 (cells8 ds).toList.length) (by kernel_rfl) hS0 (fun hHeld=>?_)
 refine wpAnyH_take (i:=0) (v:=.agg (cells8 ds).toList.toArray) rfl (by kernel_rfl) (by kernel_rfl) (by kernel_rfl) (fun _ _ _ h=>h) (yieldsIf_load_mid (by rfl) _ _ rfl xb 0 rfl (cells8 ds).toList _ (fun w h=>h.1) u72 rfl i72) (by assumption) ?_
 simp only [Act.put,List.setIfInBounds_toArray,List.set_cons_zero,List.set_cons_succ]
 refine wpAnyH_take (i:=1) (v:=.pointer (some ⟨sb,0,none⟩)) rfl (by kernel_rfl) (by kernel_rfl) (by kernel_rfl) (fun _ _ _ h=>h) (Or.inl ⟨by rfl,fun _ _=>rfl⟩) (by assumption) ?_
 simp only [Act.put,List.setIfInBounds_toArray,List.set_cons_zero,List.set_cons_succ]
 refine wpAnyH_take (i:=2) (v:=.agg (cells8 ds).toList.toArray) rfl (by kernel_rfl) (by kernel_rfl) (by kernel_rfl) (fun _ _ _ h=>h) (yieldsIf_load_mid (by rfl) _ _ rfl xb 0 rfl (cells8 ds).toList _ (fun w h=>h.1) u72 rfl i72) (by assumption) ?_
 simp only [Act.put,List.setIfInBounds_toArray,List.set_cons_zero,List.set_cons_succ]
 refine wpAnyH_take (i:=3) (v:=.string b) rfl (by kernel_rfl) (by kernel_rfl) (by kernel_rfl) (fun _ _ _ h=>h) (Or.inl ⟨by rfl,fun _ _=>rfl⟩) (by assumption) ?_
 simp only [Act.put,List.setIfInBounds_toArray,List.set_cons_zero,List.set_cons_succ]
 refine wpAnyH_take (i:=4) (v:=.pointer (some ⟨sb,0,none⟩)) rfl (by kernel_rfl) (by kernel_rfl) (by kernel_rfl) (fun _ _ _ h=>h) (Or.inl ⟨by rfl,fun _ _=>rfl⟩) (by assumption) ?_
 simp only [Act.put,List.setIfInBounds_toArray,List.set_cons_zero,List.set_cons_succ]
 refine wpAnyH_take (i:=5) (v:=.string name) rfl (by kernel_rfl) (by kernel_rfl) (by kernel_rfl) (fun _ _ _ h=>h) (Or.inl ⟨by rfl,fun _ _=>rfl⟩) (by assumption) ?_
 simp only [Act.put,List.setIfInBounds_toArray,List.set_cons_zero,List.set_cons_succ]
 refine wpAnyH_take (i:=6) (v:=.agg (cells8 ds).toList.toArray) rfl (by kernel_rfl) (by kernel_rfl) (by kernel_rfl) (fun _ _ _ h=>h) (yieldsIf_load_mid (by rfl) _ _ rfl xb 0 rfl (cells8 ds).toList _ (fun w h=>h.1) u72 rfl i72) (by assumption) ?_
 simp only [Act.put,List.setIfInBounds_toArray,List.set_cons_zero,List.set_cons_succ]
 rw [show (cells8 ds).toList.toArray=cells8 ds from rfl]
 rw [← HWH.out]
 refine wpAnyH_ready (rs:=[7]) (by kernel_rfl) (by simp) ?_
 refine AllReadyH.cons rfl (fun K hK=>?_) AllReadyH.nil
 go_simp
 (go_at_call 103;refine (HTW2.out).mono ?_;rintro _ w2 ⟨t1,rfl,ht1,htm1,hb2⟩;have hr2:=(hb2.block _ (lt_heap HROW.out)).trans HROW.out;have hq2:=(hb2.block _ (lt_heap HRR.out)).trans HRR.out;have hS2:=And.intro (con_r hr2) (con_t hq2 (Sha.zeros_len _) ds hds))
 refine hK _ _ hS2 (fun hHeld=>?_)
 refine wpAnyH_ready (rs:=[8]) (by kernel_rfl) (by simp) ?_
 refine AllReadyH.cons rfl (fun K hK=>?_) AllReadyH.nil
 go_simp
 (go_at_call 102;refine (HKP.out _ _ (HST.out.later hb2) htm1 (fun e=>by have:=HST.out.inn.lt e;omega)).mono ?_;rintro _ w3 ⟨ev,k,s',rfl,hev,hft,hwr,h30,h31⟩;have hr3:=(hft.gr.block _ (lt_heap hr2) (HNS.out xb (by have:=HRB.out;omega))).trans hr2;have hq3:=(hft.gr.block _ (lt_heap hq2) (HNS.out rb (by have:=HRB.out;omega))).trans hq2;have hS3:=And.intro (con_r hr3) (con_t hq3 (Sha.zeros_len _) ds hds))
 refine hK _ _ hS3 (fun hHeld=>?_)
 refine wpAnyH_ready (rs:=[9]) (by kernel_rfl) (by simp) ?_
 refine AllReadyH.cons rfl (fun K hK=>?_) AllReadyH.nil
 rw [if_pos (by rfl)]
 refine wp_store_mid 117 _ _ rfl rb 0 (cells8 ds) rfl rfl hS3.2 (size40 _ hds) (cells8_one ds) ?_
 refine hK _ _ ⟨World.rangeAt_setCells_apart hS3.1 rb 0 _ (.inl (by omega)),World.there_setCells hS3.2 rb 0 _⟩ (fun hHeld=>?_)
 simp only [Act.put,List.setIfInBounds_toArray,List.set_cons_zero,List.set_cons_succ]
 refine wpAnyH_take (i:=10) (oi:={ dst:=some 7,op:=Op.assign (Operand.tmp 19),type:=94,pos := "change.go:20",after:=_,guard:=none }) (v:=ev) rfl (by kernel_rfl) (by kernel_rfl) (by kernel_rfl) (fun _ _ _ h=>h) (Or.inl ⟨by rfl,fun _ _=>rfl⟩) (by assumption) ?_
 simp only [Act.put,List.setIfInBounds_toArray,List.set_cons_zero,List.set_cons_succ]
 refine wpAnyH_done (by kernel_rfl) ?_ _
 obtain ⟨w4,hw4⟩ : ∃ w4,w4=w3.setCells rb 0 (cells8 ds).toList:=⟨_,rfl⟩
 have hs4:∀ k,k≠rb→w4.heap[k]? = w3.heap[k]?:=fun k hk=>by rw [hw4];exact heap_setCells_other _ _ _ hk
 have hz4:w3.heap.size≤w4.heap.size:=by rw [hw4];exact (below_sets (B:=0) (Nat.zero_le rb) (cells8 ds).toList 0 w3).size
 have hq4:w4.heap[rb]? = some (.cells (cells8 ds) 117 (0,0)):=by rw [hw4];exact dig_set hq3 (Sha.zeros_len _) ds hds
 have HQ4:=hide hq4
 have hr4:w4.rangeAt rb 0 (cells8 ds).toList:=by rw [hw4];exact World.rangeAt_setCells_same w3 rb 0 _ hS3.2
 have hbb:=below_sets (B:=0) (Nat.zero_le rb) (cells8 ds).toList 0 w3
 rw [← hw4] at hbb ⊢
 have HS4:=hide hs4
 have HZ4:=hide hz4
 have HR4:=hide hr4
 have HBB:=hide hbb
 have HEV:=hide hev
 have HFT:=hide ((SGo.of_below (HBW.out.trans (hb2.mono HBW.out.size))).trans hft)
 have HQ3:=hide hq3
 have HWR:=hide hwr
 have H30:=hide h30
 have HSZ2:=hide hb2.size
 have H31:=hide h31
 have hGr:¬ isG rb:=fun e=>by have:=H.out.gl.lt e;have:=HRB.out;omega
 clear hq4 hw4 hs4 hz4 hr4 hbb hev hft hwr h30 h31 hS3 hS2 hS0 hr3 hq3 hr2 hq2 hb2 htm1 ht1 hHeld
 go_wp2_with (refine wpList_load_mid rfl 117 _ rfl rb 0 rfl (cells8 ds).toList _ HR4.out Tryz.underlying117 rfl (size72 ds hds) ?_)
 refine bodyPost_ret (results_cell_tmp Tryz.results62 _ _ rb 117 _ (0,0) _ ev rfl rfl HQ4.out Tryz.underlying117 rfl (size40 _ hds)) rfl ?_
 refine ⟨ev,rfl,k,HEV.out.far HQ3.out HS4.out,s',?_,HWR.out,fun hk=>?_,fun hk=>(H31.out hk).far HZ4.out HQ3.out hGr HS4.out⟩
 ·exact ⟨⟨HBB.out.os.trans HFT.out.gr.os,HBB.out.tape.trans HFT.out.gr.tape,HBB.out.output.trans HFT.out.gr.output,Nat.le_trans HFT.out.gr.size HZ4.out,fun k hk hn=>(HS4.out k (fun e=>by have:=HRB.out;omega)).trans (HFT.out.gr.block k hk hn)⟩,HFT.out.own,HFT.out.b⟩
 ·obtain ⟨t2,ht2,hst⟩:=H30.out hk
  exact ⟨t2,Nat.le_trans HBW.out.size (Nat.le_trans HSZ2.out ht2),hst.far HZ4.out HQ3.out hGr HS4.out⟩
set_option maxHeartbeats 4000000
set_option maxRecDepth 100000
open Go.RowKit
theorem hasTag_any (sb:Nat) (s:PSt) (cb tb nc:Nat) (Dc:DataW Value) (l:List TE) (name:ByteArray) (w:World) (h:StW w sb s cb tb nc l.length Dc (tD l)) (hok:∀ t∈l,t.Ok) (hn:name.size≤1000000) :
  Calls Tryz.prog 73 #[.pointer (some ⟨sb,0,none⟩),.string name] w fun e w'=>e = .returned (.bool (findK TE.n name l).isSome)∧Below w.heap.size w w':=by
 have HST:=hide h
 have hz71:=(zero_of_info Tryz.info71b).1
 have c2:=cell_of_row _ _ 2 _ _ _ h.blk
 have HT:Hid (TL w tb l):=hide h.tm
 obtain ⟨u,hu⟩ : ∃ u,u=lookT name l:=⟨_,rfl⟩
 have hud:u.d.length=32:=by rw [hu];exact (lookT_ok hok).len
 have HU:=hide hu
 obtain ⟨b,hbb⟩ : ∃ b,b=(findK TE.n name l).isSome:=⟨_,rfl⟩
 have HBB:=hide hbb
 rw [← hbb]
 clear h hok hu hbb
 go_enter Tryz.func73,Tryz.ntmps73
 go_wp2_with (first|(refine wpList_lookT rfl _ _ rfl tb l rfl HT.out name rfl hn ?_;rw [← HU.out,← HBB.out])|(refine wpList_store_row rfl 193 _ _ rfl w.heap.size _ rfl rfl 193 _ (heap_alloc_new _ _) (size71 _ _ _ hud) (by rw [ecellsOf_size _ _ _ hud,ecellsOf_size _ _ _ (Sha.zeros_len _)]) (Array.all_eq_true_iff_forall_mem.2 fun u hu=>ecellsOf_one _ _ _ u (by simpa using hu)) ?_;rw [World.setRow_alloc_new]))
 go_ret
 exact ⟨rfl,(Below.refl _ _).alloc (Nat.le_refl _) _⟩
theorem mayTag_any (sb:Nat) (s:PSt) (cb tb nc:Nat) (Dc:DataW Value) (l:List TE) (name:ByteArray) (w:World) (h:StW w sb s cb tb nc l.length Dc (tD l)) (hok:∀ t∈l,t.Ok) (hn:name.size≤1000000) :
  Calls Tryz.prog 60 #[.pointer (some ⟨sb,0,none⟩),.string name] w fun e w'=>e = .returned (.bool ((findK TE.n name l).isSome || decide (l.length<8)))∧Below w.heap.size w w':=by
 have HT:=hide (hasTag_any sb s cb tb nc Dc l name w h hok hn)
 have HST:=hide h
 clear h hok
 go_enter Tryz.func60,Tryz.ntmps60
 go_wp2_with fail
 refine (HT.out).mono ?_
 rintro _ w1 ⟨rfl,hb1⟩
 dsimp only
 have h1:=HST.out.later hb1
 have c2:=cell_of_row _ _ 2 _ _ _ h1.blk
 have l2:=h1.tm.len Tryz.underlying157
 rw [mD_size] at l2
 have HB1:=hide hb1
 cases hf:(findK TE.n name l).isSome with
 | true =>
  have HFF:=hide hf
  clear hb1 h1 HT hf
  go_wp2_with fail
  go_ret
  exact ⟨by rw [HFF.out];rfl,HB1.out⟩
 | false =>
  have HFF:=hide hf
  by_cases h8:l.length<8
  ·have hd:decide (((l.length:Nat):Int)<8)=true:=decide_eq_true (by omega)
   have H8:=hide h8
   clear hb1 h1 HT hf h8
   go_wp2_with fail
   go_ret
   exact ⟨by rw [HFF.out,decide_eq_true H8.out];rfl,HB1.out⟩
  ·have hd:decide (((l.length:Nat):Int)<8)=false:=decide_eq_false (by omega)
   have H8:=hide h8
   clear hb1 h1 HT hf h8
   go_wp2_with fail
   go_ret
   exact ⟨by rw [HFF.out,decide_eq_false H8.out];rfl,HB1.out⟩
def tagd (ds:List Nat) (l:List TE):Bool:=l.any fun t=>decide (t.d=ds)
theorem isTagged_any (sb:Nat) (s:PSt) (cb tb nc:Nat) (Dc:DataW Value) (l:List TE) (ds:List Nat) (w:World) (h:StW w sb s cb tb nc l.length Dc (tD l)) (hok:∀ t∈l,t.Ok) (hds:ds.length=32) (hlt:∀ i,ds.getD i 0<256) :
  Calls Tryz.prog 75 #[.pointer (some ⟨sb,0,none⟩),.agg (cells8 ds)] w fun e w'=>e = .returned (.bool (tagd ds l))∧Below w.heap.size w w':=by
 have hbo:Below w.heap.size w (w.alloc (.cells (cells8 ds) 117)):=(Below.refl _ _).alloc (Nat.le_refl _) _
 have hrow:(w.alloc (.cells (cells8 ds) 117)).heap[w.heap.size]? = some (.cells (cells8 ds) 117 (0,0)):=heap_alloc_new _ _
 obtain ⟨W,hW⟩ : ∃ W,W=w.alloc (.cells (cells8 ds) 117):=⟨_,rfl⟩
 rw [← hW] at hbo hrow
 have hst:=h.later hbo
 have c2:=cell_of_row _ _ 2 _ _ _ hst.blk
 have HTM:Hid (TL W tb l):=hide hst.tm
 have HW:=hide hW
 have HBO:=hide hbo
 have HROW:=hide hrow
 have HRISE:=hide (TL.rise hst.tm)
 have HOK:=hide hok
 have hltt:tb<W.heap.size:=hst.tm.lt
 have hltw:=lt_heap hrow
 have hz71:=(zero_of_info Tryz.info71b).1
 have htbw:tb<w.heap.size:=h.tm.lt
 clear h hst hW hbo hrow hok
 go_enter Tryz.func75,Tryz.ntmps75
 go_upto_region 1 with fail
 rw [← HW.out]
 go_wp2_with (at_range;refine wpList_range_own _ rfl _ 157 rfl 9 193 str_keyed Tryz.underlying157 heldR tb l.length (tD l) rfl HTM.out ?_;intro w2 hrg2 hg2 hs2)
 go_frame
 have HRG:=hide hrg2
 have hB2:Below w.heap.size w w2:=HBO.out.grown (hg2.but none) HBO.out.size (fun k e=>by cases e)
 have HB2:=hide hB2
 have HR2:=hide ((hg2.block _ (lt_heap HROW.out) (by simp)).trans HROW.out)
 clear hrg2 hg2 hB2 c2
 go_loopw [] (fun wr=>∃ left cnt,wr.ranges Tryz.prog 9 heldR tb W.heap.size l.length (tD l) left cnt∧Below w.heap.size w wr∧W.heap.size+1≤wr.heap.size∧wr.heap[w.heap.size]? = some (.cells (cells8 ds) 117 (0,0))∧(∀ kl,left kl=true→Maps.has (tD l) kl=true)∧(∀ t∈l,left (kOf t.n)=false→t.d≠ds)) (fun wr=>wr.rangeLeft tb W.heap.size)
 case atStart=>exact ⟨_,_,HRG.out,HB2.out,by omega,HR2.out,fun kl h=>h,fun t ht h=>by rw [mD_has,findK_mem HRISE.out ht] at h;cases h⟩
 case round =>
  obtain ⟨left,cnt,hrg,hb,hsz,hdr,hlf,hin⟩:=hrel
  have HB:=hide hb
  have HRGR:=hide hrg
  have HDR:=hide hdr
  have HLF:=hide hlf
  have HIN:=hide hin
  clear hb hdr hlf hin
  go_wp2_with (at_next;refine wpList_next_ranges _ rfl _ rfl 9 str_keyed heldR Value.string (fun c:Value=>c) (fun key kl hkey=>str_inv Tryz.underlying9 hkey) (fun v y hv=>⟨v,rfl⟩) tb W.heap.size _ _ _ _ rfl HRGR.out ?_ ?_)
  ·intro _ hl0
   have hfin:tagd ds l=false:=by
    unfold tagd
    rw [List.any_eq_false]
    intro t ht
    have:=HIN.out t ht (hl0 _)
    simp [this]
   have HFIN:=hide hfin
   clear hrg hl0 hfin
   go_wp2_with fail
   go_ret
   exact ⟨by rw [HFIN.out];rfl,HB.out⟩
  ·intro x c kl d ps w3 cnt1 hkey hlk hv hat hrg1 hltc hg1 hs1 hen
   obtain ⟨t,ht,rfl⟩:=mD_any (HLF.out kl hlk)
   have hxn:x=t.n:=by
    have:=str_key Tryz.underlying9 hkey
    unfold kOf at this
    injection this with this
    exact (ByteArray.ext (Array.ext' this)).symm
   subst hxn
   have hc:c=t.v:=by
    have h1:=hat .nil
    have h2:d = .held c:=by
     unfold heldR at hv
     injection hv with hv
     injection hv with hv
     exact hv.symm
    simp only [h2] at h1
    rw [mD_at,findK_mem HRISE.out ht] at h1
    injection h1 with h1
    exact h1.symm
   have hc:c = .agg (ecellsOf t.n t.d t.z):=hc
   subst hc
   have htok:=HOK.out t ht
   have htd:=htok.len
   have htn:=htok.n
   have HTLT:=hide htok.lt
   clear htok
   have hb3:Below w.heap.size w w3:=HB.out.grown hg1 HB.out.size (fun k hk=>by injection hk with hk;omega)
   have hd3:w3.heap[w.heap.size]? = some (.cells (cells8 ds) 117 (0,0)):=(hg1.block _ (lt_heap HDR.out) (fun e=>by injection e with e;omega)).trans HDR.out
   obtain ⟨X,hX⟩ : ∃ X,X=w3.alloc (.cells (ecellsOf t.n t.d t.z) 193):=⟨_,rfl⟩
   have hX1:X.heap[w3.heap.size]? = some (.cells (ecellsOf t.n t.d t.z) 193 (0,0)):=by rw [hX];exact heap_alloc_new _ _
   have hBx:Below w3.heap.size w3 X:=by rw [hX];exact (Below.refl _ _).alloc (Nat.le_refl _) _
   have hent:Ent w3 X w3.heap.size t.n t.d t.z:=⟨hX1,hBx⟩
   obtain ⟨n0,n1,n2⟩:=hent.out htd
   have hd4:X.heap[w.heap.size]? = some (.cells (cells8 ds) 117 (0,0)):=(hBx.block _ (lt_heap hd3)).trans hd3
   have HRGX:=hide (show X.ranges Tryz.prog 9 heldR tb W.heap.size l.length (tD l) (fun z=>left z && !z.sameKey (kOf t.n)) cnt1 from by rw [hX];exact hrg1.alloc _)
   have HBX:=hide (hb3.trans (hBx.mono hb3.size))
   have HX:=hide hX
   have HD4:=hide hd4
   have HN1:=hide n1
   have HLT:=hide hltc
   have HHT:=hide ht
   have hsz3:W.heap.size+1≤X.heap.size:=by have:=hBx.size;omega
   clear hBx hs1 hrg hrg1 hkey hlk hv hat hltc hg1 hb3 hd3 hX1 hent n1 hd4 hX ht n0 n2
   cases hdd:decide (t.d=ds) with
   | true =>
    have hfin:tagd ds l=true:=List.any_eq_true.2 ⟨t,HHT.out,hdd⟩
    have HFIN:=hide hfin
    clear hfin
    go_wp2_with (first|(refine wpList_store_row rfl 193 _ _ rfl w3.heap.size _ rfl rfl 193 _ (heap_alloc_new _ _) (size71 _ _ _ htd) (by rw [ecellsOf_size _ _ _ htd,ecellsOf_size _ _ _ (Sha.zeros_len _)]) (Array.all_eq_true_iff_forall_mem.2 fun u hu=>ecellsOf_one _ _ _ u (by simpa using hu)) ?_;rw [World.setRow_alloc_new,← HX.out])|(refine wpList_load_mid rfl 117 _ rfl w3.heap.size 1 rfl (cells8 t.d).toList _ HN1.out Tryz.underlying117 rfl (by rw [Array.length_toList];exact size40 _ htd) ?_)|(refine wpList_load_row rfl 117 _ rfl w.heap.size rfl 117 _ _ _ HD4.out Tryz.underlying117 rfl (size40 _ hds) ?_)|(refine wpList_eqDig rfl _ _ _ rfl t.d ds htd hds HTLT.out hlt rfl rfl ?_;rw [hdd]))
    go_ret
    exact ⟨by rw [HFIN.out];rfl,HBX.out⟩
   | false =>
    go_wp2_with (first|(refine wpList_store_row rfl 193 _ _ rfl w3.heap.size _ rfl rfl 193 _ (heap_alloc_new _ _) (size71 _ _ _ htd) (by rw [ecellsOf_size _ _ _ htd,ecellsOf_size _ _ _ (Sha.zeros_len _)]) (Array.all_eq_true_iff_forall_mem.2 fun u hu=>ecellsOf_one _ _ _ u (by simpa using hu)) ?_;rw [World.setRow_alloc_new,← HX.out])|(refine wpList_load_mid rfl 117 _ rfl w3.heap.size 1 rfl (cells8 t.d).toList _ HN1.out Tryz.underlying117 rfl (by rw [Array.length_toList];exact size40 _ htd) ?_)|(refine wpList_load_row rfl 117 _ rfl w.heap.size rfl 117 _ _ _ HD4.out Tryz.underlying117 rfl (size40 _ hds) ?_)|(refine wpList_eqDig rfl _ _ _ rfl t.d ds htd hds HTLT.out hlt rfl rfl ?_;rw [hdd]))
    refine ⟨?_,?_⟩
    ·(repeat apply Exists.intro)
     refine ⟨?rel,rfl⟩
     refine ⟨_,cnt1,HRGX.out,HBX.out,hsz3,HD4.out,fun kl h=>HLF.out kl (by simp at h;exact h.1),fun t' ht' hl'=>?_⟩
     by_cases hn:t'.n=t.n
     ·rw [riseK_inj HRISE.out ht' HHT.out hn]
      exact of_decide_eq_false hdd
     ·refine HIN.out t' ht' ?_
      rw [kOf_same,decide_eq_false hn] at hl'
      simpa using hl'
    ·rw [HRGX.out.left_eq,HRGR.out.left_eq]
     exact HLT.out
set_option maxHeartbeats 2000000
set_option maxRecDepth 100000
open Go.RowKit
theorem delete_any (sb:Nat) (s:PSt) (cb tb nc nt:Nat) (Dc Dt:DataW Value) (ds:List Nat) (w:World) {L C B:Nat} (h:StW w sb s cb tb nc nt Dc Dt) (hds:ds.length=32) (hlt:∀ i,ds.getD i 0<256) (hf:DFit s.ds L C B) (hb:Bud (L+10) (C+10) B) :
  Calls Tryz.prog 76 #[.pointer (some ⟨sb,0,none⟩),.agg (cells8 ds)] w fun e w'=>∃ ev k s' m,e = .returned ev∧ErrV w' ev k∧SGo (fun k=>k=cb) s s' w w'∧Ran s.ds [sRm (cPath ds),sSd] k m s'.ds∧((m=0∧k≠0∧StW w' sb s' cb tb nc nt Dc Dt)∨(0<m∧StW w' sb s' cb tb nc nt (Dc.del (dKey ds)) Dt)):=by
 have hbo:Below w.heap.size w (w.alloc (.cells (cells8 ds) 117)):=(Below.refl _ _).alloc (Nat.le_refl _) _
 have hrow:(w.alloc (.cells (cells8 ds) 117)).heap[w.heap.size]? = some (.cells (cells8 ds) 117 (0,0)):=heap_alloc_new _ _
 obtain ⟨W,hW⟩ : ∃ W,W=w.alloc (.cells (cells8 ds) 117):=⟨_,rfl⟩
 rw [← hW] at hbo hrow
 have hon:=(h.later hbo).on
 have HCP:=hide (contentPath_any ds W.drew hds hlt)
 have HR:=hide (fun (w':World) (hb':Below W.heap.size W w')=>dkRemove s (cPath ds) w' (hon.inn.later hb') hf (hb.mono (by omega) (by omega) (Nat.le_refl _)) (Nat.le_trans (cPath_size ds) (by decide)))
 have H0:=hide h
 have HON:=hide hon
 have HST:=hide (h.later hbo)
 have HW:=hide hW
 have HBO:=hide hbo
 have HROW:=hide hrow
 have HN:=hide (fun (k:Nat) (hk:s.own k)=>h.inn.lt hk)
 have HF:=hide hf
 have HBU:=hide hb
 clear h hon hW hbo hrow hf hb
 go_enter Tryz.func76,Tryz.ntmps76
 go_upto_region 1 with fail
 rw [← HW.out]
 obtain ⟨xb,hxb⟩ : ∃ xb,xb=w.heap.size:=⟨_,rfl⟩
 rw [← hxb] at HROW HN ⊢
 have HXB:=hide hxb
 clear hxb
 have hS0:=con_s (HON.out.later (Below.refl W.heap.size W).drew) ((((Below.refl W.heap.size W).drew).block _ (lt_heap HROW.out)).trans HROW.out)
 have u72:=Tryz.underlying117
 have i72:=size72 ds hds
 go_region_held3 (fun w'=>w'.cell? ⟨sb,0,none⟩=some (.pointer (some ⟨s.b,0,none⟩))∧w'.rangeAt xb 0 (cells8 ds).toList) (first|exact hS3|exact hS2|exact hS0|go_keep) ((first|(go_at_call 107;refine (HCP.out).mono ?_;rintro _ w1 ⟨rfl,hb1⟩;have hb3:Below W.heap.size W w1:=((Below.refl W.heap.size W).drew).trans hb1;have hr2:=(hb3.block _ (lt_heap HROW.out)).trans HROW.out;have hS2:=con_s (HON.out.later hb3) hr2)|(go_at_call 117;refine (HR.out _ hb3).mono ?_;rintro _ w2 ⟨v,k,s1,rfl,hv,hg,hst⟩;have hr3:=(hg.gr.block _ (lt_heap hr2) (fun e=>by have:=HN.out _ e;omega)).trans hr2;have hS3:=(show w2.cell? ⟨sb,0,none⟩=some (.pointer (some ⟨s.b,0,none⟩))∧w2.rangeAt xb 0 (cells8 ds).toList by rw [← hg.b];exact con_s ((HON.out.later hb3).go hg) hr3))))
 have HSW:=hide ((HST.out.later hb3).go hg)
 have HGO:=hide (((SGo.of_below HBO.out).trans (SGo.of_below hb3)).trans (SGo.of_go (S:=fun k=>k=cb) hg))
 have HR3:=hide hr3
 have HRM:=hide hst
 have hsb1:=hg.b
 clear hst HR hS0 hS2 hS3 hr2 hr3 hb1 hb3 HCP u72 i72 hg
 rcases hv with ⟨h0,rfl⟩|⟨h0,sv,nm,rfl,hse⟩
 ·have hdr:Below w2.heap.size w2 w2.drew:=(Below.refl _ _).drew
  have h6:=HSW.out.later hdr
  have hr6:=(hdr.block _ (lt_heap HR3.out)).trans HR3.out
  have hS0:w2.drew.cell? ⟨sb,1,none⟩=some (.map (some cb))∧w2.drew.rangeAt xb 0 (cells8 ds).toList:=⟨cell_of_row _ _ 1 _ _ _ h6.blk,con_r hr6⟩
  obtain ⟨w6,hrun,hm6,ht6⟩:=World.ownsMap.drop h6.cm dig_keyed Tryz.underlying156 (key_dig ds hds hlt) 0
  have hg6:=ht6.grown
  have hS6:w6.cell? ⟨sb,1,none⟩=some (.map (some cb))∧w6.rangeAt xb 0 (cells8 ds).toList:=⟨cell_of_row _ _ 1 _ _ _ (h6.putC hg6 hm6).blk,con_r ((hg6.block _ (lt_heap hr6) (fun e=>by
   injection e with e
   obtain ⟨es,clock,h1,_⟩:=h6.cm
   rw [← e,hr6] at h1
   cases h1)).trans hr6)⟩
  have H7:=hide (h6.putC hg6 hm6)
  have HG7:=hide (HGO.out.trans ((SGo.of_below hdr).trans (SGo.of_grown hg6 (fun r e=>by injection e with e;exact e.symm))))
  have u72:=Tryz.underlying117
  have i72:=size72 ds hds
  have HK0:=hide h0
  clear h6 hm6 hg6 ht6 hdr h0
  go_wp2_with fail
  go_region_held3 (fun w'=>w'.cell? ⟨sb,1,none⟩=some (.map (some cb))∧w'.rangeAt xb 0 (cells8 ds).toList) (first|exact hS0|exact hS6|go_keep) (fail)
  clear hrun u72 i72 hS0 hS6 hr6
  have c0:=cell_of_row _ _ 0 _ _ _ H7.out.blk
  have hstr:stR s.ds (sRm (cPath ds)) 0 s1.ds:=by rw [← HK0.out];exact HRM.out
  have HSTR:=hide hstr
  have HSD:=hide (dkSyncDir s1 w6 H7.out.inn (HF.out.st hstr) (HBU.out.mono (by omega) (by omega) (by show B+0≤B;omega)))
  rw [hsb1] at HSD
  clear hstr
  go_wp2_with fail
  refine (HSD.out).mono ?_
  rintro _ w8 ⟨v8,k8,s8,rfl,hv8,hg8,hst8⟩
  dsimp only
  have H8:=hide (H7.out.go hg8)
  have HG8:=hide (HG7.out.trans (SGo.of_go hg8))
  have HV8:=hide hv8
  have HS8:=hide hst8
  clear hv8 hg8 hst8 HSD
  go_wp2_with fail
  go_ret
  refine ⟨_,k8,s8,_,rfl,HV8.out,HG8.out,⟨0,s1.ds,HSTR.out,.inr ⟨rfl,_,rfl,Ran.one HS8.out⟩⟩,.inr ⟨Nat.succ_pos _,H8.out⟩⟩
 ·have HSE:=hide hse
  clear hse
  go_wp2_with fail
  go_ret
  exact ⟨_,k,s1,0,rfl,.inr ⟨h0,sv,nm,rfl,HSE.out⟩,HGO.out,⟨k,s1.ds,HRM.out,.inl ⟨h0,rfl,rfl,rfl⟩⟩,.inl ⟨rfl,h0,HSW.out⟩⟩
end Go.Proofs.YtncigfibncmioaaGreatDoor
