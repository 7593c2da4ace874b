/-
  PROVED HERE: what sorted gives of whatever tags: all of them, rising.
-/
import Derived.Test.YtncigfibncmioaaGreatDoorSmLays
import Derived.Test.YtncigfibncmioaaGreatDoorSmDig
set_option maxHeartbeats 4000000
set_option maxRecDepth 100000
namespace Go.Proofs.YtncigfibncmioaaGreatDoor
open Go.RowKit Go.Shelf Go.Sort Go.Lib
theorem QoY {α:Type} [Inhabited α] {key:α->ByteArray} {cf:α->α->Int} (oG:∀ x y,ltOf cf x y=bJ (key x) (key y)) {l ts:List α} {d':Array α} (hl:aq key l) (hn:ts.Nodup) (hm:∀ x,x∈ts ↔ x∈l) (hp:PermIn 0 ts.toArray.size ts.toArray d') (hs:SortedIn (ltOf cf) 0 ts.toArray.size d'):d'.toList=l:=by
 obtain ⟨h1,_,h2⟩:=hp;have e1:d'.extract 0 ts.toArray.size=d':=by rw [<- h1];simp
 have e2:ts.toArray.extract 0 ts.toArray.size=ts.toArray:=by simp
 rw [e1,e2] at h2;have qT:d'.toList.Perm ts:=h2;have M4:d'.toList.Nodup:=qT.symm.nodup hn;have bc:∀ x,x∈d'.toList ↔ x∈l:=fun x=>(qT.mem_iff).trans (hm x)
 refine TZ ?_ hl bc;unfold aq;rw [List.pairwise_iff_getElem];intro i j hi hj JG;have hlt:=hs i j (Nat.zero_le _) JG (by rw [<- h1];simpa using hj);rw [oG,getElem!_pos d' j (by simpa using hj),getElem!_pos d' i (by simpa using hi)] at hlt;have hne:key d'.toList[i]≠key d'.toList[j]:=fun e=>by
  have h3:=Eu hl ((bc _).1 (List.getElem_mem hi)) ((bc _).1 (List.getElem_mem hj)) e;have:=(List.nodup_iff_pairwise_ne.1 M4);rw [List.pairwise_iff_getElem] at this;exact this i j hi hj JG h3
 rcases Fk hne with h4|h4
 ·exact h4
 ·simp only [Array.getElem_toList] at h4;rw [h4] at hlt
  cases hlt
def ug (a b:ByteArray):Int:=if bJ a b then -1 else if bJ b a then 1 else 0
theorem QoZ (a:ByteArray) (w:World):Calls Tryz.prog 218 #[.string a] w fun e w'=>e = .returned (.bool false)/\w'=w:=by
 go_enter Tryz.func218,Tryz.ntmps218;go_wp2_with fail;go_ret;exact ⟨by simp,rfl⟩
theorem QqR (a b:ByteArray) (w:World):Calls Tryz.prog 175 #[.string a,.string b] w fun e w'=>e = .returned (.int .i64 (ug a b))/\w'=w:=by
 have HA:=aa (QoZ a);have HB:=aa (QoZ b);go_enter Tryz.func175,Tryz.ntmps175;go_wp2_with fail;refine (HA.out _).mono ?_;rintro _ w1 ⟨rfl,rfl⟩;dsimp only;go_wp2_with fail;refine (HB.out _).mono ?_;rintro _ w2 ⟨rfl,rfl⟩;dsimp only
 cases h1:bJ a b with
 | true =>
  have e1:Op.bytesLess a.toList b.toList=true:=h1;go_wp2_with fail;go_ret;exact ⟨by simp [ug,h1],rfl⟩
 | false =>
  have e1:Op.bytesLess a.toList b.toList=false:=h1
  by_cases hab:a=b
  ·have e2:(a.toList == b.toList)=true:=by rw [hab];simp
   have Pj:=aa hab;clear hab;go_wp2_with fail;go_ret;exact ⟨by rw [Pj.out];simp [ug,mo],rfl⟩
  ·have e2:(a.toList == b.toList)=false:=by
    rw [beq_eq_false_iff_ne];exact fun e=>hab ((toList_inj a b).1 e)
   have h2:bJ b a=true:=(Fk hab).resolve_left (by rw [h1];simp);have H2:=aa h2;clear hab h2;go_wp2_with fail;go_ret;exact ⟨by simp [ug,h1,H2.out],rfl⟩
theorem Qs8 (a b:ByteArray):decide (ug a b<0)=bJ a b:=by
 unfold ug
 cases h1:bJ a b with
 | true=>simp
 | false=>cases h2:bJ b a<;>simp
theorem Qj2 {α:Type} {key:α->ByteArray} {cf:α->α->Int} (oG:∀ x y,ltOf cf x y=bJ (key x) (key y)):SWO (ltOf cf) where
 irrefl x:=by rw [oG];exact mo _
 trans x y z h1 h2:=by rw [oG] at *;exact uA h1 h2
 ntrans x y z h1 h2:=by
  rw [oG] at *
  by_cases e1:key x=key y
  ·rw [e1];exact h2
  ·by_cases e2:key y=key z
   ·rw [<- e2];exact h1
   ·have l1:bJ (key y) (key x)=true:=(Fk e1).resolve_left (by rw [h1];simp);have l2:bJ (key z) (key y)=true:=(Fk e2).resolve_left (by rw [h2];simp)
    cases h3:bJ (key x) (key z) with
    | false=>rfl
    | true =>
     have:=uA h3 (uA l2 l1);rw [mo] at this
     cases this
abbrev OT:={ t:TE // t.Ok }
instance:Inhabited OT:=⟨⟨JK,QrT⟩⟩
def TE.cs (t:TE):List Value:=(aT t.n t.d t.z).toList
def OT.enc (x:OT):List Value:=x.1.cs
theorem OT.cg (x:OT):(OT.enc x).length=34:=by
 unfold OT.enc TE.cs;rw [Array.length_toList,eh _ _ _ x.2.len]
theorem OT.pI (x:OT):∀ v∈OT.enc x,v.oneCell'=true:=fun v hv=>mj _ _ _ v hv
def OT.key (x:OT):ByteArray:=x.1.n
def OT.cf (x y:OT):Int:=ug x.1.n y.1.n
theorem OT.lt (x y:OT):ltOf OT.cf x y=bJ (OT.key x) (OT.key y):=Qs8 _ _
theorem QkP (x y:OT) (w:World):Calls Tryz.prog 174 #[.agg (OT.enc x).toArray,.agg (OT.enc y).toArray] w fun e w'=>e = .returned (.int .i64 (OT.cf x y))/\∃ q os',w'=grow (w.drewN q) os':=by
 have HC:=aa (QqR x.1.n y.1.n);have hx:=x.2.len;have hy:=y.2.len;have AV:(w.alloc (.cells (aT x.1.n x.1.d x.1.z) 193)).heap[w.heap.size]? = some (.cells (aT x.1.n x.1.d x.1.z) 193 (0,0)):=heap_alloc_new _ _;have bX:nT w (w.alloc (.cells (aT x.1.n x.1.d x.1.z) 193)) w.heap.size x.1.n x.1.d x.1.z:=⟨AV,(Below.refl _ _).alloc (Nat.le_refl _) _⟩;have c1:=cell_later ((Below.refl _ _).alloc (Nat.le_refl _) (.cells (aT y.1.n y.1.d y.1.z) 193)) (bX.out hx).1;have hY1:((w.alloc (.cells (aT x.1.n x.1.d x.1.z) 193)).alloc (.cells (aT y.1.n y.1.d y.1.z) 193)).heap[w.heap.size+1]? = some (.cells (aT y.1.n y.1.d y.1.z) 193 (0,0)):=by
  have:=heap_alloc_new (w.alloc (.cells (aT x.1.n x.1.d x.1.z) 193)) (.cells (aT y.1.n y.1.d y.1.z) 193);rwa [size_alloc] at this
 have EI:nT (w.alloc (.cells (aT x.1.n x.1.d x.1.z) 193)) ((w.alloc (.cells (aT x.1.n x.1.d x.1.z) 193)).alloc (.cells (aT y.1.n y.1.d y.1.z) 193)) (w.heap.size+1) y.1.n y.1.d y.1.z:=⟨hY1,(Below.refl _ _).alloc (Nat.le_refl _) _⟩;have c2:=(EI.out hy).1;clear AV bX hY1 EI;simp only [OT.enc,TE.cs,Array.toArray_toList];go_enter Tryz.func174,Tryz.ntmps174;go_wp2_with fail;refine (HC.out _).mono ?_;rintro _ w1 ⟨rfl,rfl⟩;dsimp only;go_wp2_with fail;go_ret;exact ⟨rfl,0,_,by rw [alloc_eq_grow,alloc_eq_grow,grow_grow];rfl⟩
theorem QqS (blk off size:Nat) (w:World):CmpLays Tryz.prog 174 #[] OT.enc 34 OT.cf blk off size w:=fun _ _ _ _ x y=>QkP x y _
theorem Qo0 (B:Nat) (so:Option Addr) (sc:Nat) (l ts:List OT) (w:World) (h:w.ownsRow B 193 34 (.slice so ts.length sc) ts.length (ts.flatMap OT.enc)) (hl:aq OT.key l) (hn:ts.Nodup) (hm:∀ x,x∈ts ↔ x∈l) (hsz:ts.length<=1000000000) :
  Calls Tryz.prog 216 #[.slice so ts.length sc,.func (.func 174) #[] #[]] w fun e w'=>e = .returned (.tuple #[])/\w'.ownsRow B 193 34 (.slice so l.length sc) l.length (l.flatMap OT.enc)/\w.grownBy w' (Value.slice so ts.length sc).ownBlock/\l.length=ts.length:=by
 have hlen:l.length=ts.length:=Nat.le_antisymm (xo (Ep hl) (fun x hx=>(hm x).2 hx)) (xo hn (fun x hx=>(hm x).1 hx));have h':=h;obtain ⟨_,⟨h1,h2⟩|⟨g,cap,cur,h1,hB,hg,_⟩⟩:=h'
 ·injection h1 with h1 Uq Hf
  subst h1;subst Hf;have Hg:ts = []:=List.length_eq_zero_iff.1 h2;subst Hg;have hl0:l = []:=List.length_eq_zero_iff.1 hlen;subst hl0;exact (Qpl none 0 0 (by decide) _ w).mono fun e w' ⟨he,hw⟩=>⟨he,by rw [hw];exact h,by rw [hw];exact ⟨rfl,rfl,rfl,Nat.le_refl _,fun _ _ _=>rfl⟩,rfl⟩
 ·injection h1 with h1 Uq Hf
  subst h1;subst Hf;have eg:∀ args w,(callFunc 174 args).run Tryz.prog w = .ok (.enter 174 args) w:=enters_of Tryz.func174 (by kernel_rfl) rfl;have hcon:=AnyQ.slices_SortFunc Tryz.Hr 34 Tryz.isAgg193 Tryz.sizeOf193 OT.enc OT.cg OT.pI OT.cf (Qj2 OT.lt) 174 #[] g 0 sc ts.toArray w eg (QqS g 0 _ w) (Qj1 OT.cg (by decide) h) (ax hg) (by simp;omega);rw [show ts.toArray.size=ts.length by simp] at hcon;refine hcon.mono fun e w' ⟨he,d',n,os,hp,hs,hw⟩=>?_
  have hd:=QoY OT.lt hl hn hm (by simpa using hp) (by simpa using hs);have rR:d'=l.toArray:=by rw [<- hd]
  subst rR;obtain ⟨r1,r2⟩:=QhV (n:=n) (os:=os) OT.cg (by decide) h hlen;rw [<- hw] at r1 r2;exact ⟨he,r1,r2,hlen⟩
open Go.RowKit Go.Shelf Go.Sort Go.Lib
def C0 (l:List TE) (h:∀ t∈l,t.Ok):List OT:=l.attach.map fun t=>⟨t.1,h t.1 t.2⟩
theorem Ng (l:List TE) (h:∀ t∈l,t.Ok):(C0 l h).map (·.1)=l:=by
 unfold C0;rw [List.map_map];exact List.attach_map_subtype_val l
theorem U6 {l:List TE} {h:∀ t∈l,t.Ok} {x:OT}:x∈C0 l h ↔ x.1∈l:=by
 constructor
 ·intro hx;rw [<- Ng l h];exact List.mem_map_of_mem hx
 ·intro hx;rw [<- Ng l h] at hx;obtain ⟨y,hy,e⟩:=List.mem_map.1 hx;rwa [<- Subtype.ext e]
theorem QlR {l:List TE} {h:∀ t∈l,t.Ok} (hr:lF l):aq OT.key (C0 l h):=by
 have h1:((C0 l h).map (·.1)).Pairwise (fun x y=>bJ x.n y.n=true):=by rw [Ng];exact hr
 unfold aq;rw [List.pairwise_map] at h1;exact h1
theorem QqT (l:List TE) (h:∀ t∈l,t.Ok):(C0 l h).flatMap OT.enc=l.flatMap TE.cs:=by
 conv=>rhs;rw [<- Ng l h]
 rw [List.flatMap_map];rfl
theorem U7 (l:List TE) (h:∀ t∈l,t.Ok):(C0 l h).length=l.length:=by
 conv=>rhs;rw [<- Ng l h]
 rw [List.length_map]
theorem Qj3 {α β:Type} (f:α->β) {l:List α} (h:(l.map f).Nodup):l.Nodup:=by
 have h:(l.map f).Pairwise (·≠·):=h;rw [List.pairwise_map] at h;exact h.imp fun {a b} hab e=>hab (by rw [e])
theorem QqU {l:List TE} {xs:List EV} (h:Hv (tD l) xs) (hr:lF l) (aF:∀ t∈l,t.Ok):∃ ts:List OT,ts.Nodup/\(∀ x,x∈ts ↔ x.1∈l)/\xs.flatMap EV.cs=ts.flatMap OT.enc/\xs.length=ts.length:=by
 obtain ⟨ps,hp,hv,rfl⟩:=h;rw [Qm1] at hp
 let g:List UInt8 × EV->OT:=fun p=>⟨wo ⟨p.1.toArray⟩ l,Um aF⟩
 have key:∀ p∈ps,∃ t∈l,t.n.data.toList=p.1/\(g p).1=t/\p.2.1=t.v:=by
  intro p jF;have h1:p.1∈l.map fun t=>t.n.data.toList:=hp.mem_iff.1 (List.mem_map_of_mem jF)
  obtain ⟨t,ht,e⟩:=List.mem_map.1 h1;have e2:(⟨p.1.toArray⟩ : ByteArray)=t.n:=by rw [<- e]
  refine ⟨t,ht,e,?_,?_⟩
  ·show wo ⟨p.1.toArray⟩ l=t;rw [e2];unfold wo;rw [lD hr ht];rfl
  ·have h2:=hv p jF .nil;rw [show Lit.string p.1=bk t.n by unfold bk;rw [e],JI,lD hr ht] at h2;injection h2 with h2
   exact h2.symm
 have OQ:(ps.map g).map (fun x=>x.1.n.data.toList)=ps.map (·.1):=by
  rw [List.map_map];refine List.map_congr_left fun p jF=>?_
  obtain ⟨t,_,e,e2,_⟩:=key p jF;simp only [Function.comp_apply,e2,e]
 refine ⟨ps.map g,?_,fun x=>⟨fun hx=>?_,fun hx=>?_⟩,?_,by rw [List.length_map,List.length_map]⟩
 ·refine Qj3 (fun x:OT=>x.1.n.data.toList) ?_;rw [OQ];refine hp.symm.nodup ?_;have h1:(l.map fun t=>t.n.data.toList).Pairwise (·≠·):=by
   rw [List.pairwise_map];refine hr.imp fun {a b} hab e=>?_
   have:a.n=b.n:=ByteArray.ext (Array.ext' e);rw [this,mo] at hab
   cases hab
  exact h1
 ·obtain ⟨p,jF,rfl⟩:=List.mem_map.1 hx;obtain ⟨t,ht,_,e2,_⟩:=key p jF;rw [e2];exact ht
 ·have h1:x.1.n.data.toList∈ps.map (·.1):=hp.mem_iff.2 (List.mem_map_of_mem (f:=fun t:TE=>t.n.data.toList) hx);obtain ⟨p,jF,e⟩:=List.mem_map.1 h1;obtain ⟨t,ht,e1,e2,_⟩:=key p jF;have e3:t=x.1:=Eu hr ht hx (ByteArray.ext (Array.ext' (by rw [e1,e])));exact List.mem_map.2 ⟨p,jF,Subtype.ext (by rw [e2,e3])⟩
 ·rw [List.flatMap_map,List.flatMap_map];have:∀ (qs:List (List UInt8 × EV)),(∀ p∈qs,p∈ps)->(qs.flatMap fun a=>EV.cs a.2)=qs.flatMap fun a=>OT.enc (g a):=by
   intro qs
   induction qs with
   | nil=>intro _;rfl
   | cons p qs ih =>
    intro hq;rw [List.flatMap_cons,List.flatMap_cons,ih (fun x hx=>hq x (by simp [hx]))];congr 1;obtain ⟨t,_,_,e2,e3⟩:=key p (hq p (by simp));unfold EV.cs OT.enc;rw [e3,e2];rfl
  exact this ps (fun _ h=>h)
theorem QgY (tb Bm:Nat) (l:List TE) (w:World) (h:TL w tb l) (hm:w.cell? ⟨Bm,0,none⟩=some (.map (some tb))) (aF:∀ t∈l,t.Ok) (hsz:l.length<=1000) :
  Calls Tryz.prog 172 #[.func (.func 217) #[] #[.pointer (some ⟨Bm,0,none⟩)],.func (.func 174) #[] #[]] w fun e w'=>∃ v,e = .returned v/\w'.ownsRow w.heap.size 193 34 v l.length (l.flatMap TE.cs)/\Below w.heap.size w w':=by
 have hr:=h.rise;have HC:=aa (callsIn_wide.1 (collect_in 8 (by decide) 217 #[.pointer (some ⟨Bm,0,none⟩)] (enters_of Tryz.func217 (by kernel_rfl) rfl) (Hv (tD l)) (Maps.size (tD l)) (by rw [JH];exact hsz) w (Qna Fence.wide 6 trivial rfl (by decide) Bm tb l.length (tD l) (Qs9 hr aF) w hm h)));have HR:=aa hr;have fH:=aa aF;clear h hm hr aF;go_enter Tryz.func172,Tryz.ntmps172;go_wp2_with fail;refine (HC.out).mono ?_;rintro _ w1 ⟨v,xs,rfl,hV,hrow,hb⟩;dsimp only;obtain ⟨ts,hn,wz,gZ,Nd⟩:=QqU hV HR.out fH.out;rw [gZ,Nd] at hrow;obtain ⟨so,sc,rfl⟩:=jG hrow;have hlen:(C0 l fH.out).length=ts.length:=Nat.le_antisymm (xo (Ep (QlR HR.out)) (fun x hx=>(wz x).2 (U6.1 hx))) (xo hn (fun x hx=>U6.2 ((wz x).1 hx)));have DR:=aa (Qo0 w.heap.size so sc (C0 l fH.out) ts w1 hrow (QlR HR.out) hn (fun x=>(wz x).trans U6.symm) (by rw [<- hlen,U7];omega));have HG:=aa (fun k hk=>su hrow k hk);have HB:=aa hb;clear hrow hV hb HC hn wz gZ Nd hlen;go_wp2_with fail;refine (DR.out).mono ?_;rintro _ w2 ⟨rfl,hrow2,hg2,hl2⟩;dsimp only;rw [<- hl2,U7];rw [QqT,U7] at hrow2;have fL:=aa hrow2;have cL:=aa (HB.out.grown hg2 HB.out.size (fun k e=>HG.out k e));clear hrow2 hg2 hl2 DR HG HB;go_wp2_with fail;go_ret;exact ⟨_,rfl,fL.out,cL.out⟩
theorem Xv (tb:Nat) (l:List TE) (w:World) (h:TL w tb l) (aF:∀ t∈l,t.Ok) (hsz:l.length<=1000) :
  Calls Tryz.prog 122 #[.map (some tb)] w fun e w'=>∃ v,e = .returned v/\w'.ownsRow w.heap.size 193 34 v l.length (l.flatMap TE.cs)/\Below w.heap.size w w':=by
 have MV:=aa (callsIn_wide.1 (Qtr Fence.wide 3 trivial rfl (some tb) w));have H:=aa h;have HE:=aa aF;have HS:=aa hsz;have Fb:∀ (fn:Fn) (first cap:Array Value) (w:World),(Instr.makeFunc fn first cap).run Tryz.prog w = .ok (.func fn first cap) w:=fun _ _ _ _=>rfl
 clear h aF hsz;go_enter Tryz.func122,Tryz.ntmps122;go_wp2_with fail;refine (MV.out).mono ?_;rintro _ w1 ⟨rfl,eR⟩;dsimp only;have hb1:Below w.heap.size w w1:=by rw [eR];exact (Below.refl _ _).alloc (Nat.le_refl _) _
 have hx1:w1.heap[w.heap.size]? = some (.cells #[.map (some tb)] 157 (0,0)):=by rw [eR];exact heap_alloc_new _ _
 have MW:=aa (QgY tb w.heap.size l w1 (H.out.same (hb1.block _ H.out.lt)) (cell_of_row _ _ 0 _ _ _ hx1) HE.out HS.out);have br:=aa hb1;clear hb1 hx1 eR MV;go_wp2_with fail;refine (MW.out).mono ?_;rintro _ w2 ⟨v,rfl,hrow,hb⟩;dsimp only;have HR:=aa hrow;have HB:=aa hb;clear hrow hb MW;go_wp2_with fail;go_ret;have hz:=br.out.size;exact ⟨_,rfl,HR.out.ez hz,br.out.trans (HB.out.mono hz)⟩
open Go.RowKit
theorem QmS (sb:Nat) (oa:Option Addr) (c:Nat) (w:World) :
  Calls Tryz.prog 138 #[.pointer (some ⟨sb,0,none⟩),.slice oa 0 c] w fun e w'=>e = .returned .nilIface/\Below w.heap.size w w':=by
 have k1:=Fa w (.cells #[.pointer (some ⟨sb,0,none⟩)] 92) #[.nilIface] 94 (.cells #[.int .i64 0] 3);have hb2:Below w.heap.size w ((w.alloc (.cells #[.pointer (some ⟨sb,0,none⟩)] 92)).alloc (.cells #[.nilIface] 94)):=((Below.refl _ _).alloc (Nat.le_refl _) _).alloc (by simp) _;have k2:((w.alloc (.cells #[.pointer (some ⟨sb,0,none⟩)] 92)).alloc (.cells #[.nilIface] 94)).heap[w.heap.size+1]? = some (.cells #[.nilIface] 94 (0,0)):=by
  have:=heap_alloc_new (w.alloc (.cells #[.pointer (some ⟨sb,0,none⟩)] 92)) (.cells #[.nilIface] 94);rwa [size_alloc] at this
 have HB:=aa hb2;have HK:=aa k2;have c2:=cell_of_row _ _ 0 _ _ _ k2;have z2:=frozen_of_row _ _ 0 _ _ k2;clear hb2 k1 k2
 go_enter_defers Tryz.func138,Tryz.ntmps138
 go_wp2_with fail;refine ⟨.nilIface,?_,rfl,HB.out⟩;simp [results,Tryz.results138,go_sem,c2]
structure ar (S:Nat->Prop) (s s':ai) (w w':World):Prop where
 gr:Gr (fun k=>s.own k∨S k) w w'
 own:∀ k,s'.own k->s.own k∨w.heap.size<=k
 b:s'.b=s.b
theorem ar.trans {S:Nat->Prop} {s s1 s2:ai} {w w1 w2:World} (h1:ar S s s1 w w1) (h2:ar S s1 s2 w1 w2):ar S s s2 w w2:=by
 refine ⟨⟨h2.gr.os.trans h1.gr.os,h2.gr.tape.trans h1.gr.tape,h2.gr.output.trans h1.gr.output,Nat.le_trans h1.gr.size h2.gr.size,fun k hk hn=>?_⟩,fun k hk=>?_,h2.b.trans h1.b⟩
 ·refine (h2.gr.block k (Nat.lt_of_lt_of_le hk h1.gr.size) (fun hs=>?_)).trans (h1.gr.block k hk hn)
  rcases hs with hs|hs
  ·rcases h1.own k hs with h3|h3
   ·exact hn (.inl h3)
   ·omega
  ·exact hn (.inr hs)
 ·rcases h2.own k hk with h3|h3
  ·exact h1.own k h3
  ·exact .inr (Nat.le_trans h1.gr.size h3)
theorem ar.ae {S:Nat->Prop} {s:ai} {w w':World} (h:Below w.heap.size w w'):ar S s s w w':=⟨Gr.ae h,fun _ hk=>.inl hk,rfl⟩
theorem ar.aZ {S:Nat->Prop} {s s':ai} {w w':World} (h:aC s s' w w'):ar S s s' w w':=⟨h.gr.mono fun _ _ hk=>.inl hk,h.own,h.b⟩
theorem ar.cW {S:Nat->Prop} {s:ai} {w w':World} {row:Option Nat} (h:w.grownBy w' row) (hS:∀ r,row=some r->S r):ar S s s w w':=⟨⟨h.os,h.tape,h.output,h.size,fun k hk hn=>h.block k hk (fun e=>hn (.inr (hS k e.symm)))⟩,fun _ hk=>.inl hk,rfl⟩
theorem ar.sH {S:Nat->Prop} {s:ai} {w:World} {b i:Nat} {v:Value} (hS:S b):ar S s s w (w.setCell ⟨b,i,none⟩ v):=⟨⟨rfl,rfl,rfl,by simp,fun k _ hn=>heap_setCell_other _ _ _ _ (fun e=>hn (.inr (by rw [show k=b from e];exact hS)))⟩,fun _ hk=>.inl hk,rfl⟩
theorem ar.mono {S S':Nat->Prop} {s s':ai} {w w':World} (h:ar S s s' w w') (hS:∀ k,k<w.heap.size->S k->S' k):ar S' s s' w w':=⟨h.gr.mono fun k hk hs=>hs.elim .inl (fun h=>.inr (hS k hk h)),h.own,h.b⟩
def TE.tg (t:TE):Tg:=⟨t.n,fV t.d,t.z⟩
def aL (l:List TE):ByteArray:=⟨(dM (l.map TE.tg) l.length ++ [93,125]).toArray⟩
theorem Xw {l:List TE} (h:∀ t∈l,t.Ok):l.flatMap TE.cs=(l.map TE.tg).flatMap Tg.aP:=by
 induction l with
 | nil=>rfl
 | cons t l ih =>
  have h2:TE.cs t=Tg.aP t.tg:=by
   have:=h t (by simp);show (aT t.n t.d t.z).toList=(aT t.n (rd (fV t.d)) t.z).toList;rw [Eg t.d this.len this.lt]
  rw [List.flatMap_cons,List.map_cons,List.flatMap_cons,ih (fun x hx=>h x (by simp [hx])),h2]
theorem QrS {l:List TE} (h:∀ t∈l,t.Ok):∀ k,k<l.length->((l.map TE.tg).getD k default).name.size<=20/\0<=((l.map TE.tg).getD k default).size/\((l.map TE.tg).getD k default).size<=300:=by
 intro k hk;have h1:(l.map TE.tg).getD k default=(l[k]'hk).tg:=by
  rw [List.getD_eq_getElem?_getD,List.getElem?_map,List.getElem?_eq_getElem hk];rfl
 rw [h1];have:=h _ (List.getElem_mem hk);exact ⟨this.n,this.z0,this.z1⟩
theorem vZ {l:List TE} (h:∀ t∈l,t.Ok) (h8:l.length<=8):(aL l).size<=2000:=by
 have h1:=TF (l.map TE.tg) l.length (QrS h);unfold aL;rw [sP,List.length_append];simp only [List.length_cons,List.length_nil];omega
def gK (D:DS) (fl:List (ByteArray × ByteArray)) (k:Int) (D':DS):Prop:=if fl = [] then k=0/\D'=D else MA D fl k D'
def ng (fl:List (ByteArray × ByteArray)) (l l2:List TE):List (ByteArray × ByteArray):=if l2=l then fl else fl ++ [(bB,aL l2)]
theorem QsZ (sb:Nat) (s:ai) (v:Value) (fl:List (ByteArray × ByteArray)) (w:World) {L C B:Nat} (h:On w sb s) (gZ:mS w v fl) (hf:au s.ds L C B) (hb:cZ (L+100) (C+100) (B+40000)) (hn:fl.length<=10) (hp:∀ f∈fl,f.1.size<=1000/\f.2.size<=2000) :
  Calls Tryz.prog 138 #[.pointer (some ⟨sb,0,none⟩),v] w fun e w'=>∃ ev k s',e = .returned ev/\bR w' ev k/\aC s s' w w'/\gK s.ds fl k s'.ds:=by
 by_cases h0:fl = []
 ·subst h0;obtain ⟨oa,c,rfl,_⟩:=gZ;refine (QmS sb oa c w).mono fun e w' ⟨he,hb⟩=>⟨.nilIface,0,s,he,.inl ⟨rfl,rfl⟩,aC.refl h.ay hb,?_⟩
  unfold gK;rw [if_pos rfl];exact ⟨rfl,rfl⟩
 ·refine (Qj9 sb s v fl w h gZ hf ?_ h0 (by omega) (fun f iO=>⟨(hp f iO).1,Nat.le_trans (hp f iO).2 (by decide)⟩)).mono fun e w' ⟨ev,k,s',h1,h2,h3,h4⟩=>⟨ev,k,s',h1,h2,h3,?_⟩
  ·have h1:=Qpa (M:=2000) fl (fun f iO=>(hp f iO).2);have h2:=JC fl;have h3:=Ue fl;exact hb.mono (by omega) (by omega) (by omega)
  ·unfold gK;rw [if_neg h0];exact h4
theorem PK (sb:Nat) (s:ai) (cb tb nc t2 Bf:Nat) (Dc:DataW Value) (fv:Value) (fl:List (ByteArray × ByteArray)) (l l2:List TE) (w:World) {L C B:Nat} (h:aI w sb s cb tb nc l.length Dc (tD l))
  (kz:TL w t2 l2) (hown2:¬ s.own t2) (MB:¬ gj t2) (hc2:cb≠t2) (hrow:w.ownsRow Bf 222 2 fv fl.length (AZ fl)) (SV:Bf<=w.heap.size) (hGB:∀ k,gj k->k<Bf) (gZ:fl.length<=5) (MC:∀ f∈fl,f.1.size<=1000/\f.2.size<=2000)
  (aF:∀ t∈l,t.Ok) (Hc:∀ t∈l2,t.Ok) (h8:l2.length<=8) (hf:au s.ds L C B) (hb:cZ (L+100) (C+100) (B+40000)) :
  Calls Tryz.prog 114 #[.pointer (some ⟨sb,0,none⟩),fv,.map (some t2)] w fun e w'=>∃ ev k s',e = .returned ev/\bR w' ev k/\ar (fun k=>k=sb∨Bf<=k) s s' w w'/\gK s.ds (ng fl l l2) k s'.ds /\
   (k=0->aI w' sb s' cb t2 nc l2.length Dc (tD l2))/\(k≠0->aI w' sb s' cb tb nc l.length Dc (tD l)):=by
 have HEQ:=aa (QoS t2 tb l2 l w kz h.tm Hc aF);obtain ⟨fo,fc,rfl⟩:=jG hrow;have c2:=cell_of_row _ _ 2 _ _ _ h.blk;have H:=aa h;have oO:=aa kz;have aA:=aa hrow;have CN:=aa MC;have CO:=aa Hc;clear h kz hrow MC aF Hc;go_enter Tryz.func114,Tryz.ntmps114;go_wp2_with fail;refine (HEQ.out).mono ?_;rintro _ w0 ⟨rfl,hb0⟩;dsimp only;clear HEQ c2
 -- what stands behind the files: the write and what follows it
 have hend:∀ (W:World) (v3:Value) (Hd:List (ByteArray × ByteArray)),aI W sb s cb tb nc l.length Dc (tD l)->TL W t2 l2->W.ownsRow Bf 222 2 v3 Hd.length (AZ Hd)->Hd.length<=10->(∀ f∈Hd,f.1.size<=1000/\f.2.size<=2000)->ar (fun k=>k=sb∨Bf<=k) s s w W ->
   Calls Tryz.prog 138 #[.pointer (some ⟨sb,0,none⟩),v3] W fun e w'=>∃ ev k s',e = .returned ev/\bR w' ev k/\ar (fun k=>k=sb∨Bf<=k) s s' w w'/\gK s.ds Hd k s'.ds/\aI w' sb s' cb tb nc l.length Dc (tD l)/\TL w' t2 l2/\¬ s'.own t2:=by
  intro W v3 Hd h3 h4 h5 h6 h7 h8;refine (QsZ sb s v3 Hd W h3.on (QvI h5) hf hb h6 h7).mono fun e w' ⟨ev,k,s',e1,e2,e3,e4⟩=>⟨ev,k,s',e1,e2,h8.trans (ar.aZ e3),e4,h3.go e3,h4.same (e3.gr.block _ h4.lt hown2),fun e=>?_⟩
  rcases e3.own _ e with e|e
  ·exact hown2 e
  ·have:=h4.lt;omega
 have CP:=aa hend;clear hend hf hb
 by_cases He:l2=l
 ·have qM:=aa (show ∀ (k:Int) (D:DS),gK s.ds fl k D->gK s.ds (ng fl l l2) k D from fun _ _ h=>by unfold ng;rw [if_pos He];exact h);have rk:=aa (CP.out w0 (.slice fo fl.length fc) fl (H.out.later hb0) (oO.out.same (hb0.block _ oO.out.lt)) (gA aA.out hb0) (by omega) CN.out (ar.ae hb0));rw [decide_eq_true He];clear He hb0 CP;go_wp2_with fail;refine (rk.out).mono ?_;rintro _ w5 ⟨ev,k,s',rfl,cj,rT,Fc,h5,t5,cU⟩;dsimp only;have H5:=aa h5;have T5:=aa t5;have CQ:=aa rT;have MD:=aa Fc;have Up:=aa cU;clear h5 t5 rT Fc cU rk
  rcases cj with ⟨rfl,rfl⟩|⟨bu,sv,nm,rfl,dw⟩
  ·have c5:=cell_of_row _ _ 2 _ _ _ H5.out.blk;have z5:=frozen_of_row _ _ 2 _ _ H5.out.blk;go_wp2_with fail;go_ret;exact ⟨_,0,s',rfl,.inl ⟨rfl,rfl⟩,CQ.out.trans (ar.sH (.inl rfl)),qM.out _ _ MD.out,fun _=>H5.out.vg T5.out Up.out MB hc2,fun h=>absurd rfl h⟩
  ·have gB:=aa dw;clear dw;go_wp2_with fail;go_ret;exact ⟨_,k,s',rfl,.inr ⟨bu,sv,nm,rfl,gB.out⟩,CQ.out,qM.out _ _ MD.out,fun h=>absurd h bu,fun _=>H5.out⟩
 ·have qM:=aa (show ∀ (k:Int) (D:DS),gK s.ds (fl ++ [(bB,aL l2)]) k D->gK s.ds (ng fl l l2) k D from fun _ _ h=>by unfold ng;rw [if_neg He];exact h);rw [decide_eq_false He];have H0:=aa (H.out.later hb0);have T0:=aa (oO.out.same (hb0.block _ oO.out.lt));have R0:=aa (gA aA.out hb0);have ir:=aa hb0;have j1:=aa (Xv t2 l2 w0 T0.out CO.out (by omega));clear He hb0 aA;go_wp2_with fail;refine (j1.out).mono ?_;rintro _ w1 ⟨v1,rfl,eX,hb1⟩;dsimp only;rw [Xw CO.out] at eX;have h1:=H0.out.later hb1;have xq:=aa (OX v1 (l2.map TE.tg) w1 l2.length (by simp) h8 _ eX (QrS CO.out) h1.gl.tab);have br:=aa hb1;clear eX hb1 h1 j1;go_wp2_with fail;refine (xq.out).mono ?_;rintro _ w2 ⟨rfl,hb2⟩;dsimp only;have cL:=aa (br.out.trans (hb2.mono br.out.size));have hox:(⟨(dM (l2.map TE.tg) l2.length ++ [93,125]).toArray⟩ : ByteArray)=aL l2:=rfl;rw [hox];clear hb2 br xq hox;have HXS:=aa (vZ CO.out h8);generalize hX:aL l2=X at HXS qM;clear hX;obtain ⟨i0,hi,hz0,hz1,hz2⟩:=info_parts Tryz.rr;have CR:=aa (PL w2 #[.string ⟨#[105,110,100,101,120]⟩,.string X] 222);have vI:=aa (gA (gA R0.out cL.out) ((Below.refl w2.heap.size w2).alloc (Nat.le_refl _) (.cells #[.string ⟨#[105,110,100,101,120]⟩,.string X] 222)));have hzz:=cL.out.size;have aat:=ir.out.size;go_wp2_with (refine wpList_append_own _ rfl _ _ 223 rfl Bf 222 i0 _ 2 32 Tryz.underlying223 hi hz0 hz1 hz2 rfl (by decide) _ fl.length _ rfl vI.out _ 1 1 [.string ⟨#[105,110,100,101,120]⟩,.string X] rfl rfl CR.out (by simp [Value.oneCell']) (by unfold maxLen;omega) (by omega) (by simp;omega) ?_;rintro v3 w3 hv3 hg3 -;have ME:=aa hv3;have gq:=aa hg3;clear hv3 hg3);have MF:w3.ownsRow Bf 222 2 v3 (fl ++ [(bB,X)]).length (AZ (fl ++ [(bB,X)])):=by
   have:=ME.out;rw [List.length_append];simpa [AZ,bB] using this
  have h4:aI w3 sb s cb tb nc l.length Dc (tD l):=((H0.out.later cL.out).later ((Below.refl _ _).alloc (Nat.le_refl _) _)).row gq.out (fun r e=>⟨eO vI.out r e,fun hG=>by have:=hGB r hG;have:=su vI.out r e;omega⟩);have t4:TL w3 t2 l2:=by
   have t1:TL (w2.alloc (.cells #[.string ⟨#[105,110,100,101,120]⟩,.string X] 222)) t2 l2:=World.ownsMap.alloc (jP T0.out (cL.out.block _ T0.out.lt)) _;refine t1.same (gq.out.block _ t1.lt (fun e=>?_));obtain ⟨es,clock,h1,_⟩:=t1;obtain ⟨cur,h2⟩:=eO vI.out _ e.symm;rw [h1] at h2
   cases h2
  have rk:=aa (CP.out w3 v3 (fl ++ [(bB,X)]) h4 t4 MF (by simp;omega) (fun f iO=>by
   rcases List.mem_append.1 iO with iO|iO
   ·exact CN.out f iO
   ·simp only [List.mem_singleton] at iO;subst iO;exact ⟨show bB.size<=1000 by decide,HXS.out⟩) (((ar.ae ir.out).trans (ar.ae (cL.out))).trans ((ar.ae ((Below.refl _ _).alloc (Nat.le_refl _) _)).trans (ar.cW gq.out (fun r e=>.inr (su vI.out r e))))))
  clear CP MF h4 t4 gq ME vI CR;go_wp2_with fail;refine (rk.out).mono ?_;rintro _ w5 ⟨ev,k,s',rfl,cj,rT,Fc,h5,t5,cU⟩;dsimp only;have H5:=aa h5;have T5:=aa t5;have CQ:=aa rT;have MD:=aa Fc;have Up:=aa cU;clear h5 t5 rT Fc cU rk
  rcases cj with ⟨rfl,rfl⟩|⟨bu,sv,nm,rfl,dw⟩
  ·have c5:=cell_of_row _ _ 2 _ _ _ H5.out.blk;have z5:=frozen_of_row _ _ 2 _ _ H5.out.blk;go_wp2_with fail;go_ret;exact ⟨_,0,s',rfl,.inl ⟨rfl,rfl⟩,CQ.out.trans (ar.sH (.inl rfl)),qM.out _ _ MD.out,fun _=>H5.out.vg T5.out Up.out MB hc2,fun h=>absurd rfl h⟩
  ·have gB:=aa dw;clear dw;go_wp2_with fail;go_ret;exact ⟨_,k,s',rfl,.inr ⟨bu,sv,nm,rfl,gB.out⟩,CQ.out,qM.out _ _ MD.out,fun h=>absurd h bu,fun _=>H5.out⟩
open Go.RowKit
def oY (D:DS) (ds:List Nat) (b:ByteArray):List (ByteArray × ByteArray):=match eG D ds with|some _=>[]|none=>[(bW ds,b)]
def j6 (D:DS) (ds:List Nat) (b:ByteArray):ByteArray:=(eG D ds).getD b
theorem QlM (sb:Nat) (s:ai) (cb tb nc t1:Nat) (Dc:DataW Value) (l l1:List TE) (b:ByteArray) (ds:List Nat) (w:World) {L C B:Nat} (h:aI w sb s cb tb nc l.length Dc (tD l))
  (kz:TL w t1 l1) (tP:¬ s.own t1) (iD:b.size<=300) (ee:∀ t,eG s.ds ds=some t->t.size<=300) (iZ:nc<=100000000) (eo:∀ t,cr s.ds (bW ds)=some t->t.size<=140737488351232)
  (aF:∀ t∈l,t.Ok) (ry:∀ t∈l1,t.Ok) (h8:l1.length<=8) (aJ:ds.length=32) (hlt:∀ i,ds.getD i 0<256) (hf:au s.ds L C B) (hb:cZ (L+100) (C+100) (B+40000)) :
  Calls Tryz.prog 102 #[.pointer (some ⟨sb,0,none⟩),.agg (ah ds),.string b,.map (some t1)] w fun e w'=>∃ ev k s',e = .returned ev/\bR w' ev k/\ar (fun k=>k=sb∨k=cb) s s' w w'/\gK s.ds (ng (oY s.ds ds b) l (gT ds (j6 s.ds ds b).size l1)) k s'.ds /\
   (k=0->∃ t2,w.heap.size<=t2/\aI w' sb s' cb t2 (nc+1) (gT ds (j6 s.ds ds b).size l1).length (qg Dc ds) (tD (gT ds (j6 s.ds ds b).size l1)))/\(k≠0->aI w' sb s' cb tb nc l.length Dc (tD l)):=by
 have bh:Below w.heap.size w (w.alloc (.cells (ah ds) 117)):=(Below.refl _ _).alloc (Nat.le_refl _) _;have hrow:(w.alloc (.cells (ah ds) 117)).heap[w.heap.size]? = some (.cells (ah ds) 117 (0,0)):=heap_alloc_new _ _;obtain ⟨W,hW⟩ : ∃ W,W=w.alloc (.cells (ah ds) 117):=⟨_,rfl⟩;rw [<- hW] at bh hrow;have hst:=h.later bh;have HC:=aa (Xk sb s ds W hst.on aJ hlt eo);have H0:=aa h;have HST:=aa hst;have HW:=aa hW;have cI:=aa bh;have aA:=aa hrow;have oO:=aa kz;have HNT:=aa tP;have HN:=aa (fun (k:Nat) (hk:s.own k)=>h.ay.lt hk);have HF:=aa hf;have uY:=aa hb;have fH:=aa aF;have ub:=aa ry;have aax:=ax h.blk;clear h hst hW bh hrow kz eo hf hb tP aF ry
 cases hcon:eG s.ds ds with
 | none =>
  have UH:=aa (show oY s.ds ds b = [(bW ds,b)] by unfold oY;rw [hcon]);have UI:=aa (show j6 s.ds ds b=b by unfold j6;rw [hcon];rfl);rw [UH.out,UI.out];rw [hcon] at HC;clear hcon;go_enter Tryz.func102,Tryz.ntmps102;go_upto_region 1 with fail
  rw [<- HW.out];go_wp2_with (refine wpList_load_row rfl 117 _ rfl w.heap.size rfl 117 _ _ _ aA.out Tryz.underlying117 rfl (bL _ aJ) ?_);refine (HC.out).mono ?_;rintro _ w1 ⟨rfl,hg1⟩;dsimp only [Option.getD,Option.isSome];have bT:=aa hg1;have ki:=aa ((hg1.gr.block _ (ax aA.out) (fun e=>by have:=HN.out _ e;omega)).trans aA.out);have mL:=aa (MQ ds w1 aJ hlt);clear hg1 HC;go_wp2_with (refine wpList_load_row rfl 117 _ rfl w.heap.size rfl 117 _ _ _ ki.out Tryz.underlying117 rfl (bL _ aJ) ?_);refine (mL.out).mono ?_;rintro _ w2 ⟨rfl,hb2⟩;dsimp only;have cL:=aa hb2;have fL:=aa ((hb2.block _ (ax ki.out)).trans ki.out);obtain ⟨i0,hi,hz0,hz1,hz2⟩:=info_parts Tryz.rr;obtain ⟨P,hP⟩ : ∃ P,P=bW ds:=⟨_,rfl⟩;rw [<- hP];have HP:=aa hP;have CR:=aa (PL w2 #[.string P,.string b] 222);have Fc:w.heap.size<=w2.heap.size:=by have:=cI.out.size;have:=bT.out.gr.size;have:=hb2.size;omega
  have eR:=ax aA.out;have aay:W.heap.size<=w2.heap.size:=by have:=bT.out.gr.size;have:=hb2.size;omega
  clear hb2 hP mL;go_wp2_with (first|(refine wpList_load_row rfl 117 _ rfl w.heap.size rfl 117 _ _ _ oz.out Tryz.underlying117 rfl (bL _ aJ) ?_)|(refine wpList_append_own _ rfl _ _ 223 rfl W.heap.size 222 i0 _ 2 32 Tryz.underlying223 hi hz0 hz1 hz2 rfl (by decide) (.slice none 0 0) 0 [] rfl (World.ownsRow_nil _ _ _ _) _ 1 1 [.string P,.string b] rfl rfl CR.out (by simp [Value.oneCell']) (by unfold maxLen;omega) (by omega) (by simp;omega) ?_;rintro v3 w3 hv3 hg3 -;have ME:=aa hv3;have gq:=aa hg3;have oz:=aa ((hg3.block _ (by have:=ax fL.out;simp;omega) (fun e=>by cases e)).trans ((((Below.refl w2.heap.size w2).alloc (Nat.le_refl _) _).block _ (ax fL.out)).trans fL.out));clear hv3 hg3));have h3:aI w3 sb s cb tb nc l.length Dc (tD l):=(((HST.out.go bT.out).later cL.out).later ((Below.refl _ _).alloc (Nat.le_refl _) _)).row gq.out (fun r e=>by cases e);have f3:ar (fun k=>k=sb∨k=cb∨w.heap.size<=k) s s w w3:=((((ar.ae cI.out).trans (ar.aZ bT.out)).trans (ar.ae cL.out)).trans (ar.ae ((Below.refl _ _).alloc (Nat.le_refl _) _))).trans (ar.cW gq.out (fun r e=>by cases e));have t3:TL w3 t1 l1:=by
   have a1:=oO.out.same (cI.out.block _ oO.out.lt);have a2:=a1.same (bT.out.gr.block _ a1.lt (fun e=>HNT.out e));have a3:=a2.same (cL.out.block _ a2.lt);have a4:TL _ t1 l1:=World.ownsMap.alloc a3 (.cells #[.string P,.string b] 222);exact a4.same (gq.out.block _ a4.lt (fun e=>by cases e))
  have r3:w3.ownsRow W.heap.size 222 2 v3 [(P,b)].length (AZ [(P,b)]):=ME.out;have hs3:W.heap.size<=w3.heap.size:=by have:=gq.out.size;simp at this;omega
  have Ho:=aa (show ∀ f∈[(P,b)],f.1.size<=1000/\f.2.size<=2000 from fun f iO=>by
   simp only [List.mem_singleton] at iO;subst iO;refine ⟨?_,show b.size<=2000 by omega⟩;rw [HP.out];exact MR ds)
  have kr:(0:Int)<=(b.size:Int)/\(b.size:Int)<=300:=by omega
  have nG:=aa (UJ t1 l1 ds b.size w3 t3 ub.out aJ hlt (by omega));have H3:=aa h3;have F3:=aa f3;have R3:=aa r3;clear h3 f3 t3 r3 ME gq CR;refine (nG.out).mono ?_;rintro _ w4 ⟨t2,rfl,fU,rz,hb4⟩;dsimp only;have jM:=aa (show w.heap.size<=t2 by have:=cI.out.size;omega);have UK:W.heap.size<=w4.heap.size:=by have:=hb4.size;omega
  have Ex:=aa (show (gT ds b.size l1).length=l1.length by simp [gT]);have qM:=aa (PK sb s cb tb nc t2 W.heap.size Dc v3 [(P,b)] l (gT ds b.size l1) w4 (H3.out.later hb4) rz (fun e=>by have:=H3.out.ay.lt e;omega) (fun e=>by have:=H3.out.gl.lt e;omega) (fun e=>by have:=H3.out.cm.lt;omega) (gA R3.out hb4) UK (fun k hk=>HST.out.gl.lt hk) (by simp) Ho.out fH.out (UL ub.out kr) (by rw [Ex.out];exact h8) HF.out uY.out);have F4:=aa (F3.out.trans (ar.ae hb4));have sU:=aa ((hb4.block _ (ax oz.out)).trans oz.out);clear rz hb4 nG R3;go_wp2_with fail;refine (qM.out).mono ?_;rintro _ w5 ⟨ev,k,s',rfl,cj,cP,hwr,h50,zS⟩;dsimp only;have F5:=aa (F4.out.trans (cP.mono (fun k hk hs=>by rcases hs with hs|hs;exact .inl hs;exact .inr (.inr (by omega)))));have mG:=aa ((cP.gr.block _ (ax sU.out) (fun e=>by
   rcases e with e|e|e
   ·have:=HN.out _ e;omega
   ·omega
   ·omega)).trans sU.out)
  have iK:=aa hwr;have Hp:=aa h50;have Hq:=aa zS;clear cP hwr h50 zS qM;have bG:=aa (show ∀ (X:World),ar (fun k=>k=sb∨k=cb∨w.heap.size<=k) s s' w X->ar (fun k=>k=sb∨k=cb) s s' w X from fun X hX=>hX.mono (fun k hk hs=>by rcases hs with hs|hs|hs;exact .inl hs;exact .inr hs;omega))
  rcases cj with ⟨rfl,rfl⟩|⟨bu,sv,nm,rfl,dw⟩
  ·have h5:=Hp.out rfl;have hdr:Below w5.heap.size w5 w5.drew:=(Below.refl _ _).drew;have h6:=h5.later hdr;have bA:w5.drew.cell? ⟨sb,1,none⟩=some (.map (some cb))/\w5.drew.rangeAt w.heap.size 0 (ah ds).toList:=⟨cell_of_row _ _ 1 _ _ _ h6.blk,eF ((hdr.block _ (ax mG.out)).trans mG.out)⟩;obtain ⟨w6,hrun,jc,bQ⟩:=World.ownsMap.update h6.cm rY Tryz.underlying156 (by unfold maxLen;omega) (EB ds aJ hlt) (show fG (.agg #[])=some (.held (.agg #[]),[]) from rfl);have eZ:=(hdr.block _ (ax mG.out)).trans mG.out;have nV:w6.cell? ⟨sb,1,none⟩=some (.map (some cb))/\w6.rangeAt w.heap.size 0 (ah ds).toList:=⟨cell_of_row _ _ 1 _ _ _ (h6.pJ bQ jc).blk,eF ((bQ.block _ (ax eZ) (fun e=>by
    injection e with e
    obtain ⟨es,clock,h1,_⟩:=h6.cm;rw [<- e,eZ] at h1
    cases h1)).trans eZ)⟩
   have H6:=aa h6;have UM:=aa jc;have lG:=aa bQ;have CE:∀ w,(Instr.build 100 #[]).run Tryz.prog w = .ok (.agg #[]) w:=fun w=>by kernel_rfl
   have u72:=Tryz.underlying117;have i72:=jl ds aJ;clear h5 h6 jc bQ;go_wp2_with fail
   go_region_held3 (fun w'=>w'.cell? ⟨sb,1,none⟩=some (.map (some cb))/\w'.rangeAt w.heap.size 0 (ah ds).toList) (first|exact bA|exact nV|go_keep) (fail)
   clear hrun CE u72 i72 bA nV eZ;go_wp2_with fail;go_ret;have F6:=bG.out _ (F5.out.trans ((ar.ae hdr).trans (ar.cW lG.out (fun r e=>by injection e with e;exact .inr (.inl e.symm)))));exact ⟨_,0,s',rfl,.inl ⟨rfl,rfl⟩,F6,(by rw [<- HP.out];exact iK.out),fun _=>⟨t2,jM.out,H6.out.pJ lG.out UM.out⟩,fun h=>absurd rfl h⟩
  ·have gB:=aa dw;clear dw;go_wp2_with fail;go_ret;exact ⟨_,k,s',rfl,.inr ⟨bu,sv,nm,rfl,gB.out⟩,bG.out _ F5.out,(by rw [<- HP.out];exact iK.out),fun h=>absurd h bu,fun _=>Hq.out bu⟩
 | some t =>
  have UH:=aa (show oY s.ds ds b = [] by unfold oY;rw [hcon]);have UI:=aa (show j6 s.ds ds b=t by unfold j6;rw [hcon];rfl);rw [UH.out,UI.out];rw [hcon] at ee;rw [hcon] at HC;clear hcon;go_enter Tryz.func102,Tryz.ntmps102;go_upto_region 1 with fail
  rw [<- HW.out];go_wp2_with (refine wpList_load_row rfl 117 _ rfl w.heap.size rfl 117 _ _ _ aA.out Tryz.underlying117 rfl (bL _ aJ) ?_);refine (HC.out).mono ?_;rintro _ w1 ⟨rfl,hg1⟩;dsimp only [Option.getD,Option.isSome];have bT:=aa hg1;have ki:=aa ((hg1.gr.block _ (ax aA.out) (fun e=>by have:=HN.out _ e;omega)).trans aA.out);have h3:aI w1 sb s cb tb nc l.length Dc (tD l):=HST.out.go bT.out;have f3:ar (fun k=>k=sb∨k=cb∨w.heap.size<=k) s s w w1:=(ar.ae cI.out).trans (ar.aZ bT.out);have t3:TL w1 t1 l1:=by
   have a1:=oO.out.same (cI.out.block _ oO.out.lt);exact a1.same (bT.out.gr.block _ a1.lt (fun e=>HNT.out e))
  have r3:w1.ownsRow W.heap.size 222 2 (.slice none 0 0) ([]:List (ByteArray × ByteArray)).length (AZ []):=World.ownsRow_nil _ _ _ _;have hs3:W.heap.size<=w1.heap.size:=bT.out.gr.size;have eR:=ax aA.out;have Ho:=aa (show ∀ f∈([]:List (ByteArray × ByteArray)),f.1.size<=1000/\f.2.size<=2000 from fun f iO=>by cases iO);have kr:(0:Int)<=(t.size:Int)/\(t.size:Int)<=300:=by have:=ee t rfl;omega
  have nG:=aa (UJ t1 l1 ds t.size w1 t3 ub.out aJ hlt (by omega));have H3:=aa h3;have F3:=aa f3;have R3:=aa r3;have oz:=ki;clear h3 f3 t3 r3 hg1 HC;go_wp2_with (refine wpList_load_row rfl 117 _ rfl w.heap.size rfl 117 _ _ _ oz.out Tryz.underlying117 rfl (bL _ aJ) ?_);refine (nG.out).mono ?_;rintro _ w4 ⟨t2,rfl,fU,rz,hb4⟩;dsimp only;have jM:=aa (show w.heap.size<=t2 by have:=cI.out.size;omega);have UK:W.heap.size<=w4.heap.size:=by have:=hb4.size;omega
  have Ex:=aa (show (gT ds t.size l1).length=l1.length by simp [gT]);have qM:=aa (PK sb s cb tb nc t2 W.heap.size Dc (.slice none 0 0) [] l (gT ds t.size l1) w4 (H3.out.later hb4) rz (fun e=>by have:=H3.out.ay.lt e;omega) (fun e=>by have:=H3.out.gl.lt e;omega) (fun e=>by have:=H3.out.cm.lt;omega) (gA R3.out hb4) UK (fun k hk=>HST.out.gl.lt hk) (by simp) Ho.out fH.out (UL ub.out kr) (by rw [Ex.out];exact h8) HF.out uY.out);have F4:=aa (F3.out.trans (ar.ae hb4));have sU:=aa ((hb4.block _ (ax oz.out)).trans oz.out);clear rz hb4 nG R3;go_wp2_with fail;refine (qM.out).mono ?_;rintro _ w5 ⟨ev,k,s',rfl,cj,cP,hwr,h50,zS⟩;dsimp only;have F5:=aa (F4.out.trans (cP.mono (fun k hk hs=>by rcases hs with hs|hs;exact .inl hs;exact .inr (.inr (by omega)))));have mG:=aa ((cP.gr.block _ (ax sU.out) (fun e=>by
   rcases e with e|e|e
   ·have:=HN.out _ e;omega
   ·omega
   ·omega)).trans sU.out)
  have iK:=aa hwr;have Hp:=aa h50;have Hq:=aa zS;clear cP hwr h50 zS qM;have bG:=aa (show ∀ (X:World),ar (fun k=>k=sb∨k=cb∨w.heap.size<=k) s s' w X->ar (fun k=>k=sb∨k=cb) s s' w X from fun X hX=>hX.mono (fun k hk hs=>by rcases hs with hs|hs|hs;exact .inl hs;exact .inr hs;omega))
  rcases cj with ⟨rfl,rfl⟩|⟨bu,sv,nm,rfl,dw⟩
  ·have h5:=Hp.out rfl;have hdr:Below w5.heap.size w5 w5.drew:=(Below.refl _ _).drew;have h6:=h5.later hdr;have bA:w5.drew.cell? ⟨sb,1,none⟩=some (.map (some cb))/\w5.drew.rangeAt w.heap.size 0 (ah ds).toList:=⟨cell_of_row _ _ 1 _ _ _ h6.blk,eF ((hdr.block _ (ax mG.out)).trans mG.out)⟩;obtain ⟨w6,hrun,jc,bQ⟩:=World.ownsMap.update h6.cm rY Tryz.underlying156 (by unfold maxLen;omega) (EB ds aJ hlt) (show fG (.agg #[])=some (.held (.agg #[]),[]) from rfl);have eZ:=(hdr.block _ (ax mG.out)).trans mG.out;have nV:w6.cell? ⟨sb,1,none⟩=some (.map (some cb))/\w6.rangeAt w.heap.size 0 (ah ds).toList:=⟨cell_of_row _ _ 1 _ _ _ (h6.pJ bQ jc).blk,eF ((bQ.block _ (ax eZ) (fun e=>by
    injection e with e
    obtain ⟨es,clock,h1,_⟩:=h6.cm;rw [<- e,eZ] at h1
    cases h1)).trans eZ)⟩
   have H6:=aa h6;have UM:=aa jc;have lG:=aa bQ;have CE:∀ w,(Instr.build 100 #[]).run Tryz.prog w = .ok (.agg #[]) w:=fun w=>by kernel_rfl
   have u72:=Tryz.underlying117;have i72:=jl ds aJ;clear h5 h6 jc bQ;go_wp2_with fail
   go_region_held3 (fun w'=>w'.cell? ⟨sb,1,none⟩=some (.map (some cb))/\w'.rangeAt w.heap.size 0 (ah ds).toList) (first|exact bA|exact nV|go_keep) (fail)
   clear hrun CE u72 i72 bA nV eZ;go_wp2_with fail;go_ret;have F6:=bG.out _ (F5.out.trans ((ar.ae hdr).trans (ar.cW lG.out (fun r e=>by injection e with e;exact .inr (.inl e.symm)))));exact ⟨_,0,s',rfl,.inl ⟨rfl,rfl⟩,F6,iK.out,fun _=>⟨t2,jM.out,H6.out.pJ lG.out UM.out⟩,fun h=>absurd rfl h⟩
  ·have gB:=aa dw;clear dw;go_wp2_with fail;go_ret;exact ⟨_,k,s',rfl,.inr ⟨bu,sv,nm,rfl,gB.out⟩,bG.out _ F5.out,iK.out,fun h=>absurd h bu,fun _=>Hq.out bu⟩
open Go.RowKit
theorem Xc (sb:Nat) (s:ai) (ds:List Nat) (w:World) (h:On w sb s) (aJ:ds.length=32) (hlt:∀ i,ds.getD i 0<256) :
  Calls Tryz.prog 67 #[.pointer (some ⟨sb,0,none⟩),.agg (ah ds)] w fun e w'=>e = .returned (.int .i64 (((cr s.ds (bW ds)).getD ⟨#[]⟩).size:Int))/\aC s s w w':=by
 have bh:Below w.heap.size w (w.alloc (.cells (ah ds) 117)):=(Below.refl _ _).alloc (Nat.le_refl _) _;have hrow:(w.alloc (.cells (ah ds) 117)).heap[w.heap.size]? = some (.cells (ah ds) 117 (0,0)):=heap_alloc_new _ _;obtain ⟨W,hW⟩ : ∃ W,W=w.alloc (.cells (ah ds) 117):=⟨_,rfl⟩;rw [<- hW] at bh hrow;have iA:=h.later bh;obtain ⟨cv,tv,hbl⟩:=iA.sb;have c0:W.cell? ⟨sb,0,none⟩=some (.pointer (some ⟨s.b,0,none⟩)):=cell_of_row _ _ 0 _ _ _ hbl;have mL:=aa (MQ ds W.drew aJ hlt);have HR:=aa (fun (w':World) (hb':Below W.heap.size W w')=>Ot s (bW ds) w' (iA.ay.later hb') (Nat.le_trans (MR ds) (by decide)));have H0:=aa h;have eY:=aa iA;have HW:=aa hW;have cI:=aa bh;have aA:=aa hrow;have HN:=aa (fun (k:Nat) (hk:s.own k)=>h.ay.lt hk);clear h iA hbl hW bh hrow;go_enter Tryz.func67,Tryz.ntmps67;go_upto_region 1 with fail
 rw [<- HW.out];obtain ⟨xb,gF⟩ : ∃ xb,xb=w.heap.size:=⟨_,rfl⟩;rw [<- gF] at aA HN ⊢;have A4:=aa gF;clear gF;have bA:=xr (eY.out.later (Below.refl W.heap.size W).drew) ((((Below.refl W.heap.size W).drew).block _ (ax aA.out)).trans aA.out);have u72:=Tryz.underlying117;have i72:=jl ds aJ
 go_region_held3 (fun w'=>w'.cell? ⟨sb,0,none⟩=some (.pointer (some ⟨s.b,0,none⟩))/\w'.rangeAt xb 0 (ah ds).toList) (first|exact eb|exact ie|exact bA|go_keep) ((first|(go_at_call 107;refine (mL.out).mono ?_;rintro _ w1 ⟨rfl,hb1⟩;have hb3:Below W.heap.size W w1:=((Below.refl W.heap.size W).drew).trans hb1;have hr2:=(hb3.block _ (ax aA.out)).trans aA.out;have ie:=xr (eY.out.later hb3) hr2)|(go_at_call 80;refine (HR.out _ hb3).mono ?_;rintro _ w2 ⟨v,k,rfl,hv,hk,hg,hi⟩;have hr3:=(hg.block _ (ax hr2) (fun e=>by have:=HN.out _ e;omega)).trans hr2;have eb:=xr ((eY.out.later hb3).go ⟨rfl,hi,hg,fun _ hk=>.inl hk⟩) hr3)))
 have hgo:aC s s w1 w2:=⟨rfl,hi,hg,fun _ hk=>.inl hk⟩;have cQ:=aa (((aC.refl H0.out.ay cI.out).trans (aC.refl eY.out.ay hb3)).trans hgo);have fL:=aa hr3;have Hx:=aa ((eY.out.later hb3).go hgo).gl;clear hgo hg hi HR bA ie eb hr2 hr3 hb1 hb3 mL c0 u72 i72;clear hk hv fL Hx;go_wp2_with fail;go_ret;exact ⟨rfl,cQ.out⟩
theorem Qo1 (sb:Nat) (s:ai) (cb tb nc:Nat) (Dc:DataW Value) (l:List TE) (name:ByteArray) (w:World) {L C B:Nat} (h:aI w sb s cb tb nc l.length Dc (tD l)) (aF:∀ t∈l,t.Ok) (h8:l.length<=8) (hn:name.size<=1000000) (hf:au s.ds L C B) (hb:cZ (L+100) (C+100) (B+40000)) :
  Calls Tryz.prog 74 #[.pointer (some ⟨sb,0,none⟩),.string name] w fun e w'=>∃ ev k s',e = .returned ev/\bR w' ev k/\ar (fun k=>k=sb) s s' w w'/\gK s.ds (ng [] l (aB TE.n name l)) k s'.ds /\
   (k=0->∃ t2,w.heap.size<=t2/\aI w' sb s' cb t2 nc (aB TE.n name l).length Dc (tD (aB TE.n name l)))/\(k≠0->aI w' sb s' cb tb nc l.length Dc (tD l)):=by
 have qP:=aa (U3 tb l.length (tD l) w h.tm);have c2:=cell_of_row _ _ 2 _ _ _ h.blk;have H:=aa h;have fH:=aa aF;have HF:=aa hf;have HB:=aa hb;clear h aF hf hb;go_enter Tryz.func74,Tryz.ntmps74;go_wp2_with fail;refine (qP.out).mono ?_;rintro _ w1 ⟨rfl,iV,hb1⟩;dsimp only;have jb:=aa iV;have br:=aa hb1;clear iV hb1 qP c2;go_wp2_with (refine wpList_delete_own _ rfl _ _ 157 9 rfl 193 tZ Tryz.underlying157 fG w.heap.size l.length (tD l) rfl jb.out _ (bk name) rfl (MX name hn) ?_;intro w2 j8 hg2);have Nh:w1.grownBy w2 (some w.heap.size):=hg2.grown;have t2:TL w2 w.heap.size (aB TE.n name l):=by
  rw [QrU] at j8;exact P4 j8
 have km:Below w.heap.size w w2:=br.out.grown Nh br.out.size (fun k e=>by injection e with e;omega);have h2:=H.out.later km;have qM:=aa (PK sb s cb tb nc w.heap.size w2.heap.size Dc (.slice none 0 0) [] l (aB TE.n name l) w2 h2 t2 (fun e=>by have:=H.out.ay.lt e;omega) (fun e=>by have:=H.out.gl.lt e;omega) (fun e=>by have:=H.out.cm.lt;omega) (World.ownsRow_nil _ _ _ _) (Nat.le_refl _) (fun k hk=>h2.gl.lt hk) (by simp) (fun f hf=>by cases hf) fH.out (fun t ht=>fH.out t (jA.1 ht).1) (Nat.le_trans (Jz _ _) h8) HF.out HB.out);have cL:=aa km;clear h2 t2 Nh hg2 j8 km;refine (qM.out).mono ?_;rintro _ w5 ⟨ev,k,s',rfl,cj,cP,hwr,h50,zS⟩;dsimp only;have rT:ar (fun k=>k=sb) s s' w w5:=((ar.ae cL.out).trans (cP.mono (S':=fun k=>k=sb∨w.heap.size<=k) (fun k hk hs=>hs.imp id (fun h=>by have:=cL.out.size;omega)))).mono (fun k hk hs=>by rcases hs with hs|hs;exact hs;omega);have CQ:=aa rT;have iK:=aa hwr;have Hp:=aa h50;have Hq:=aa zS;have xP:=aa cj;clear cj cP hwr h50 zS rT qM;go_wp2_with fail;go_ret;exact ⟨_,k,s',rfl,xP.out,CQ.out,iK.out,fun hk=>⟨_,Nat.le_refl _,Hp.out hk⟩,Hq.out⟩
open Go.RowKit
def sF (D:DS) (ds:List Nat) (name b:ByteArray) (l:List TE):List TE:=gT ds (j6 D ds b).size (ag TE.n ⟨name,ds,0⟩ l)
set_option linter.unusedSimpArgs false in
theorem Qs4 (sb:Nat) (s:ai) (cb tb nc:Nat) (Dc:DataW Value) (l:List TE) (name b:ByteArray) (w:World) {L C B:Nat} (h:aI w sb s cb tb nc l.length Dc (tD l))
  (iD:b.size<=300) (ee:∀ t,eG s.ds (ak b)=some t->t.size<=300) (iZ:nc<=100000000) (eo:∀ t,cr s.ds (bW (ak b))=some t->t.size<=140737488351232) (aF:∀ t∈l,t.Ok)
  (hn:name.size<=20) (h8:l.length<=8) (xM:(ag TE.n ⟨name,ak b,0⟩ l).length<=8) (hf:au s.ds L C B) (hb:cZ (L+100) (C+100) (B+40000)) :
  Calls Tryz.prog 62 #[.pointer (some ⟨sb,0,none⟩),.string name,.string b] w fun e w'=>∃ ev k s',e = .returned (.tuple #[.agg (ah (ak b)),ev])/\bR w' ev k/\ar (fun k=>k=sb∨k=cb) s s' w w'/\gK s.ds (ng (oY s.ds (ak b) b) l (sF s.ds (ak b) name b l)) k s'.ds /\
   (k=0->∃ t2,w.heap.size<=t2/\aI w' sb s' cb t2 (nc+1) (sF s.ds (ak b) name b l).length (qg Dc (ak b)) (tD (sF s.ds (ak b) name b l)))/\(k≠0->aI w' sb s' cb tb nc l.length Dc (tD l)):=by
 have aJ:=E8 b;have hlt:=Dr b;have CX:=aa (fun W (hb:Below w.heap.size w W)=>OO b W (by omega) (h.gl.later hb).hk);obtain ⟨ds,hd⟩ : ∃ ds,ds=ak b:=⟨_,rfl⟩;have rR:Sha.digest (Sha.state b.data.toList)=ds:=hd.symm;have Hs:Hid (∀ W,Below w.heap.size w W->Calls Tryz.prog 71 #[.string b] W fun e w'=>e = .returned (.agg (ah ds))/\Below W.heap.size W w'):=aa (fun W hW=>by rw [<- rR];exact CX.out W hW);clear CX;rw [<- hd] at ee eo aJ hlt xM ⊢;have ba:lF l:=TL.rise h.tm;have PZ:Hid (∀ W,aI W sb s cb tb nc l.length Dc (tD l)->Calls Tryz.prog 103 #[.pointer (some ⟨sb,0,none⟩),.string name,.agg (ah ds)] W fun e w'=>∃ b,e = .returned (.map (some b))/\W.heap.size<=b/\TL w' b (ag TE.n ⟨name,ds,0⟩ l)/\Below W.heap.size W w'):=aa (fun W hW=>(QfT sb s cb tb nc l.length Dc (tD l) name ds W hW aJ (by omega) (by omega)).mono fun e w' ⟨b,h1,h2,h3,h4⟩=>⟨b,h1,h2,by
  have h5:TM w' b (l.length+1) ((tD l).put (bk (⟨name,ds,0⟩ : TE).n) (.held (⟨name,ds,0⟩ : TE).v)):=h3;rw [Jy _ _ ba] at h5;exact P4 h5,h4⟩)
 have ry:∀ t∈ag TE.n ⟨name,ds,0⟩ l,t.Ok:=fun t ht=>by
  rcases ln ht with rfl|ht
  ·exact ⟨hn,aJ,hlt,Int.le_refl _,by show (0:Int)<=300;decide⟩
  ·exact aF t ht
 have wK:=aa (fun W t1 hW ht hno=>QlM sb s cb tb nc t1 Dc l (ag TE.n ⟨name,ds,0⟩ l) b ds W hW ht hno iD ee iZ eo aF ry xM aJ hlt hf hb);have H:=aa h;have HD:=aa hd;have A5:=aa (show ∀ k,w.heap.size<=k->¬ (s.own k∨(k=sb∨k=cb)) from fun k hk e=>by
  rcases e with e|e|e
  ·have:=h.ay.lt e;omega
  ·have:=ax h.blk;omega
  ·have:=h.cm.lt;omega)
 clear h ee eo hf hb hd rR aF ry xM ba;have UU:Sha.zeros 32=List.replicate 32 0:=rfl;go_enter Tryz.func62,Tryz.ntmps62;go_upto_region 2 with (first|(go_at_call 71;refine (Hs.out _ (by exact (Below.refl _ _).alloc (Nat.le_refl _) _)).mono ?_;rintro _ w1 ⟨rfl,hb1⟩)|(refine wpList_store_row rfl 117 _ _ rfl w1.heap.size _ rfl rfl 117 _ (heap_alloc_new _ _) (bL _ aJ) (by rw [aY,aJ];rfl) (dQ _) ?_;rw [World.setRow_alloc_new]))
 have hz0:(w.alloc (.cells (ah (Sha.zeros 32)) 117)).heap[w.heap.size]? = some (.cells (ah (Sha.zeros 32)) 117 (0,0)):=heap_alloc_new _ _;have hb0:Below w.heap.size w (w.alloc (.cells (ah (Sha.zeros 32)) 117)):=(Below.refl _ _).alloc (Nat.le_refl _) _;have hr1:w1.heap[w.heap.size]? = some (.cells (ah (Sha.zeros 32)) 117 (0,0)):=(hb1.block _ (ax hz0)).trans hz0;have gJ:Below w.heap.size w w1:=hb0.trans (hb1.mono hb0.size);obtain ⟨W,hW⟩ : ∃ W,W=(w1.alloc (.cells (ah ds) 117)).drew:=⟨_,rfl⟩;have sD:Below w1.heap.size w1 W:=by rw [hW];exact ((Below.refl _ _).alloc (Nat.le_refl _) _).drew
 have hrow:W.heap[w1.heap.size]? = some (.cells (ah ds) 117 (0,0)):=by rw [hW];exact heap_alloc_new _ _
 have iI:=(sD.block _ (ax hr1)).trans hr1;have iL:Below w.heap.size w W:=gJ.trans (sD.mono gJ.size);have gG:=aa iL;have aA:=aa hrow;have gm:=aa iI;have Bo:=ax hr1;have hst:=H.out.later iL;have HST:=aa hst;have UW:=aa (PZ.out W hst);have bA:=And.intro (eF hrow) (M7 iI (Sha.af _) ds aJ);have u72:=Tryz.underlying117;have i72:=jl ds aJ;obtain ⟨xb,gF⟩ : ∃ xb,xb=w1.heap.size:=⟨_,rfl⟩;obtain ⟨rb,mZ⟩ : ∃ rb,rb=w.heap.size:=⟨_,rfl⟩;rw [hW] at bA;clear iL hrow iI hst sD hz0 hb0 hr1 gJ hb1 PZ;rw [<- mZ] at bA gm;rw [<- gF] at bA aA;dsimp only [Act.put];rw [<- mZ,<- gF];have FE:=aa hW;have A4:=aa gF;have vv:=aa mZ;have UX:rb<xb:=by rw [mZ,gF];omega
 clear hW gF mZ Bo;refine wp_region_held_drew (S:=fun w'=>w'.rangeAt xb 0 (ah ds).toList/\w'.there rb 0 (ah ds).toList.length) (by kernel_rfl) bA (fun hHeld=>?_);refine wpAnyH_take (i:=0) (v:=.agg (ah ds).toList.toArray) rfl (by kernel_rfl) (by kernel_rfl) (by kernel_rfl) (fun _ _ _ h=>h) (yieldsIf_load_mid (by rfl) _ _ rfl xb 0 rfl (ah ds).toList _ (fun w h=>h.1) u72 rfl i72) (by assumption) ?_;simp only [Act.put,List.setIfInBounds_toArray,List.set_cons_zero,List.set_cons_succ];refine wpAnyH_take (i:=1) (v:=.pointer (some ⟨sb,0,none⟩)) rfl (by kernel_rfl) (by kernel_rfl) (by kernel_rfl) (fun _ _ _ h=>h) (Or.inl ⟨by rfl,fun _ _=>rfl⟩) (by assumption) ?_;simp only [Act.put,List.setIfInBounds_toArray,List.set_cons_zero,List.set_cons_succ];refine wpAnyH_take (i:=2) (v:=.agg (ah ds).toList.toArray) rfl (by kernel_rfl) (by kernel_rfl) (by kernel_rfl) (fun _ _ _ h=>h) (yieldsIf_load_mid (by rfl) _ _ rfl xb 0 rfl (ah ds).toList _ (fun w h=>h.1) u72 rfl i72) (by assumption) ?_;simp only [Act.put,List.setIfInBounds_toArray,List.set_cons_zero,List.set_cons_succ];refine wpAnyH_take (i:=3) (v:=.string b) rfl (by kernel_rfl) (by kernel_rfl) (by kernel_rfl) (fun _ _ _ h=>h) (Or.inl ⟨by rfl,fun _ _=>rfl⟩) (by assumption) ?_;simp only [Act.put,List.setIfInBounds_toArray,List.set_cons_zero,List.set_cons_succ];refine wpAnyH_take (i:=4) (v:=.pointer (some ⟨sb,0,none⟩)) rfl (by kernel_rfl) (by kernel_rfl) (by kernel_rfl) (fun _ _ _ h=>h) (Or.inl ⟨by rfl,fun _ _=>rfl⟩) (by assumption) ?_;simp only [Act.put,List.setIfInBounds_toArray,List.set_cons_zero,List.set_cons_succ];refine wpAnyH_take (i:=5) (v:=.string name) rfl (by kernel_rfl) (by kernel_rfl) (by kernel_rfl) (fun _ _ _ h=>h) (Or.inl ⟨by rfl,fun _ _=>rfl⟩) (by assumption) ?_;simp only [Act.put,List.setIfInBounds_toArray,List.set_cons_zero,List.set_cons_succ];refine wpAnyH_take (i:=6) (v:=.agg (ah ds).toList.toArray) rfl (by kernel_rfl) (by kernel_rfl) (by kernel_rfl) (fun _ _ _ h=>h) (yieldsIf_load_mid (by rfl) _ _ rfl xb 0 rfl (ah ds).toList _ (fun w h=>h.1) u72 rfl i72) (by assumption) ?_;simp only [Act.put,List.setIfInBounds_toArray,List.set_cons_zero,List.set_cons_succ];rw [show (ah ds).toList.toArray=ah ds from rfl];rw [<- FE.out];refine wpAnyH_ready (rs:=[7]) (by kernel_rfl) (by simp) ?_;refine AllReadyH.cons rfl (fun K hK=>?_) AllReadyH.nil;go_simp
 (go_at_call 103;refine (UW.out).mono ?_;rintro _ w2 ⟨t1,rfl,AD,iV,hb2⟩;have hr2:=(hb2.block _ (ax aA.out)).trans aA.out;have A6:=(hb2.block _ (ax gm.out)).trans gm.out;have ie:=And.intro (eF hr2) (M7 A6 (Sha.af _) ds aJ))
 refine hK _ _ ie (fun hHeld=>?_);refine wpAnyH_ready (rs:=[8]) (by kernel_rfl) (by simp) ?_;refine AllReadyH.cons rfl (fun K hK=>?_) AllReadyH.nil;go_simp
 (go_at_call 102;refine (wK.out _ _ (HST.out.later hb2) iV (fun e=>by have:=HST.out.ay.lt e;omega)).mono ?_;rintro _ w3 ⟨ev,k,s',rfl,cj,cP,hwr,M8,M9⟩;have hr3:=(cP.gr.block _ (ax hr2) (A5.out xb (by have:=vv.out;omega))).trans hr2;have nD:=(cP.gr.block _ (ax A6) (A5.out rb (by have:=vv.out;omega))).trans A6;have eb:=And.intro (eF hr3) (M7 nD (Sha.af _) ds aJ))
 refine hK _ _ eb (fun hHeld=>?_);refine wpAnyH_ready (rs:=[9]) (by kernel_rfl) (by simp) ?_;refine AllReadyH.cons rfl (fun K hK=>?_) AllReadyH.nil;rw [if_pos (by rfl)];refine wp_store_mid 117 _ _ rfl rb 0 (ah ds) rfl rfl eb.2 (bL _ aJ) (dQ ds) ?_;refine hK _ _ ⟨World.rangeAt_setCells_apart eb.1 rb 0 _ (.inl (by omega)),World.there_setCells eb.2 rb 0 _⟩ (fun hHeld=>?_);simp only [Act.put,List.setIfInBounds_toArray,List.set_cons_zero,List.set_cons_succ];refine wpAnyH_take (i:=10) (oi:={ dst:=some 7,op:=Op.assign (Operand.tmp 19),type:=94,pos := "change.go:20",after:=_,guard:=none }) (v:=ev) rfl (by kernel_rfl) (by kernel_rfl) (by kernel_rfl) (fun _ _ _ h=>h) (Or.inl ⟨by rfl,fun _ _=>rfl⟩) (by assumption) ?_
 simp only [Act.put,List.setIfInBounds_toArray,List.set_cons_zero,List.set_cons_succ];refine wpAnyH_done (by kernel_rfl) ?_ _;obtain ⟨w4,hw4⟩ : ∃ w4,w4=w3.setCells rb 0 (ah ds).toList:=⟨_,rfl⟩;have rL:∀ k,k≠rb->w4.heap[k]? = w3.heap[k]?:=fun k hk=>by rw [hw4];exact yg _ _ _ hk
 have oy:w3.heap.size<=w4.heap.size:=by rw [hw4];exact (Au (B:=0) (Nat.zero_le rb) (ah ds).toList 0 w3).size
 have Na:w4.heap[rb]? = some (.cells (ah ds) 117 (0,0)):=by rw [hw4];exact Qph nD (Sha.af _) ds aJ
 have UY:=aa Na;have hr4:w4.rangeAt rb 0 (ah ds).toList:=by rw [hw4];exact World.rangeAt_setCells_same w3 rb 0 _ eb.2
 have nw:=Au (B:=0) (Nat.zero_le rb) (ah ds).toList 0 w3;rw [<- hw4] at nw ⊢;have gS:=aa rL;have Ht:=aa oy;have sU:=aa hr4;have pV:=aa nw;have xP:=aa cj;have oo:=aa ((ar.ae (gG.out.trans (hb2.mono gG.out.size))).trans cP);have vx:=aa nD;have iK:=aa hwr;have UZ:=aa M8;have U0:=aa hb2.size;have U1:=aa M9;have Nb:¬ gj rb:=fun e=>by have:=H.out.gl.lt e;have:=vv.out;omega
 clear Na hw4 rL oy hr4 nw cj cP hwr M8 M9 eb ie bA hr3 nD hr2 A6 hb2 iV AD hHeld;go_wp2_with (refine wpList_load_mid rfl 117 _ rfl rb 0 rfl (ah ds).toList _ sU.out Tryz.underlying117 rfl (jl ds aJ) ?_);refine bodyPost_ret (results_cell_tmp Tryz.results62 _ _ rb 117 _ (0,0) _ ev rfl rfl UY.out Tryz.underlying117 rfl (bL _ aJ)) rfl ?_;refine ⟨ev,rfl,k,xP.out.far vx.out gS.out,s',?_,iK.out,fun hk=>?_,fun hk=>(U1.out hk).far Ht.out vx.out Nb gS.out⟩
 ·exact ⟨⟨pV.out.os.trans oo.out.gr.os,pV.out.tape.trans oo.out.gr.tape,pV.out.output.trans oo.out.gr.output,Nat.le_trans oo.out.gr.size Ht.out,fun k hk hn=>(gS.out k (fun e=>by have:=vv.out;omega)).trans (oo.out.gr.block k hk hn)⟩,oo.out.own,oo.out.b⟩
 ·obtain ⟨t2,fU,hst⟩:=UZ.out hk;exact ⟨t2,Nat.le_trans gG.out.size (Nat.le_trans U0.out fU),hst.far Ht.out vx.out Nb gS.out⟩
open Go.RowKit
theorem Re (sb:Nat) (s:ai) (cb tb nc:Nat) (Dc:DataW Value) (l:List TE) (name:ByteArray) (w:World) (h:aI w sb s cb tb nc l.length Dc (tD l)) (aF:∀ t∈l,t.Ok) (hn:name.size<=1000000) :
  Calls Tryz.prog 73 #[.pointer (some ⟨sb,0,none⟩),.string name] w fun e w'=>e = .returned (.bool (aQ TE.n name l).isSome)/\Below w.heap.size w w':=by
 have HST:=aa h;have ji:=(zero_of_info Tryz.cY).1;have c2:=cell_of_row _ _ 2 _ _ _ h.blk;have HT:Hid (TL w tb l):=aa h.tm;obtain ⟨u,hu⟩ : ∃ u,u=wo name l:=⟨_,rfl⟩;have zK:u.d.length=32:=by rw [hu];exact (Um aF).len
 have HU:=aa hu;obtain ⟨b,nw⟩ : ∃ b,b=(aQ TE.n name l).isSome:=⟨_,rfl⟩;have pV:=aa nw;rw [<- nw];clear h aF hu nw;go_enter Tryz.func73,Tryz.ntmps73;go_wp2_with (first|(refine PH rfl _ _ rfl tb l rfl HT.out name rfl hn ?_;rw [<- HU.out,<- pV.out])|(refine wpList_store_row rfl 193 _ _ rfl w.heap.size _ rfl rfl 193 _ (heap_alloc_new _ _) (gW _ _ _ zK) (by rw [eh _ _ _ zK,eh _ _ _ (Sha.af _)]) (Array.all_eq_true_iff_forall_mem.2 fun u hu=>mj _ _ _ u (by simpa using hu)) ?_;rw [World.setRow_alloc_new]));go_ret;exact ⟨rfl,(Below.refl _ _).alloc (Nat.le_refl _) _⟩
theorem Oi (sb:Nat) (s:ai) (cb tb nc:Nat) (Dc:DataW Value) (l:List TE) (name:ByteArray) (w:World) (h:aI w sb s cb tb nc l.length Dc (tD l)) (aF:∀ t∈l,t.Ok) (hn:name.size<=1000000) :
  Calls Tryz.prog 60 #[.pointer (some ⟨sb,0,none⟩),.string name] w fun e w'=>e = .returned (.bool ((aQ TE.n name l).isSome || decide (l.length<8)))/\Below w.heap.size w w':=by
 have HT:=aa (Re sb s cb tb nc Dc l name w h aF hn);have HST:=aa h;clear h aF;go_enter Tryz.func60,Tryz.ntmps60;go_wp2_with fail;refine (HT.out).mono ?_;rintro _ w1 ⟨rfl,hb1⟩;dsimp only;have h1:=HST.out.later hb1;have c2:=cell_of_row _ _ 2 _ _ _ h1.blk;have l2:=h1.tm.len Tryz.underlying157;rw [JH] at l2;have br:=aa hb1
 cases hf:(aQ TE.n name l).isSome with
 | true =>
  have PI:=aa hf;clear hb1 h1 HT hf;go_wp2_with fail;go_ret;exact ⟨by rw [PI.out];rfl,br.out⟩
 | false =>
  have PI:=aa hf
  by_cases h8:l.length<8
  ·have hd:decide (((l.length:Nat):Int)<8)=true:=decide_eq_true (by omega);have H8:=aa h8;clear hb1 h1 HT hf h8;go_wp2_with fail;go_ret;exact ⟨by rw [PI.out,decide_eq_true H8.out];rfl,br.out⟩
  ·have hd:decide (((l.length:Nat):Int)<8)=false:=decide_eq_false (by omega);have H8:=aa h8;clear hb1 h1 HT hf h8;go_wp2_with fail;go_ret;exact ⟨by rw [PI.out,decide_eq_false H8.out];rfl,br.out⟩
def bD (ds:List Nat) (l:List TE):Bool:=l.any fun t=>decide (t.d=ds)
theorem Og (sb:Nat) (s:ai) (cb tb nc:Nat) (Dc:DataW Value) (l:List TE) (ds:List Nat) (w:World) (h:aI w sb s cb tb nc l.length Dc (tD l)) (aF:∀ t∈l,t.Ok) (aJ:ds.length=32) (hlt:∀ i,ds.getD i 0<256) :
  Calls Tryz.prog 75 #[.pointer (some ⟨sb,0,none⟩),.agg (ah ds)] w fun e w'=>e = .returned (.bool (bD ds l))/\Below w.heap.size w w':=by
 have bh:Below w.heap.size w (w.alloc (.cells (ah ds) 117)):=(Below.refl _ _).alloc (Nat.le_refl _) _;have hrow:(w.alloc (.cells (ah ds) 117)).heap[w.heap.size]? = some (.cells (ah ds) 117 (0,0)):=heap_alloc_new _ _;obtain ⟨W,hW⟩ : ∃ W,W=w.alloc (.cells (ah ds) 117):=⟨_,rfl⟩;rw [<- hW] at bh hrow;have hst:=h.later bh;have c2:=cell_of_row _ _ 2 _ _ _ hst.blk;have oO:Hid (TL W tb l):=aa hst.tm;have HW:=aa hW;have cI:=aa bh;have aA:=aa hrow;have gy:=aa (TL.rise hst.tm);have fH:=aa aF;have Un:tb<W.heap.size:=hst.tm.lt;have Uo:=ax hrow;have ji:=(zero_of_info Tryz.cY).1;have aas:tb<w.heap.size:=h.tm.lt;clear h hst hW bh hrow aF;go_enter Tryz.func75,Tryz.ntmps75;go_upto_region 1 with fail
 rw [<- HW.out];go_wp2_with (at_range;refine wpList_range_own _ rfl _ 157 rfl 9 193 tZ Tryz.underlying157 fG tb l.length (tD l) rfl oO.out ?_;intro w2 hrg2 hg2 hs2)
 go_frame
 have GG:=aa hrg2;have km:Below w.heap.size w w2:=cI.out.grown (hg2.but none) cI.out.size (fun k e=>by cases e);have cL:=aa km;have fL:=aa ((hg2.block _ (ax aA.out) (by simp)).trans aA.out);clear hrg2 hg2 km c2
 go_loopw [] (fun wr=>∃ left cnt,wr.ranges Tryz.prog 9 fG tb W.heap.size l.length (tD l) left cnt/\Below w.heap.size w wr/\W.heap.size+1<=wr.heap.size/\wr.heap[w.heap.size]? = some (.cells (ah ds) 117 (0,0))/\(∀ kl,left kl=true->Maps.has (tD l) kl=true)/\(∀ t∈l,left (bk t.n)=false->t.d≠ds)) (fun wr=>wr.rangeLeft tb W.heap.size)
 case atStart=>exact ⟨_,_,GG.out,cL.out,by omega,fL.out,fun kl h=>h,fun t ht h=>by rw [Mu,lD gy.out ht] at h;cases h⟩
 case round =>
  obtain ⟨left,cnt,hrg,hb,hsz,hdr,nj,cJ⟩:=hrel;have HB:=aa hb;have iu:=aa hrg;have Ey:=aa hdr;have zL:=aa nj;have kZ:=aa cJ;clear hb hdr nj cJ;go_wp2_with (at_next;refine wpList_next_ranges _ rfl _ rfl 9 tZ fG Value.string (fun c:Value=>c) (fun key kl hkey=>Ls Tryz.underlying9 hkey) (fun v y hv=>⟨v,rfl⟩) tb W.heap.size _ _ _ _ rfl iu.out ?_ ?_)
  ·intro _ hl0;have aV:bD ds l=false:=by
    unfold bD;rw [List.any_eq_false];intro t ht;have:=kZ.out t ht (hl0 _);simp [this]
   have bG:=aa aV;clear hrg hl0 aV;go_wp2_with fail;go_ret;exact ⟨by rw [bG.out];rfl,HB.out⟩
  ·intro x c kl d ps w3 cnt1 hkey hlk hv hat hrg1 rj hg1 hs1 hen;obtain ⟨t,ht,rfl⟩:=Mw (zL.out kl hlk);have Mx:x=t.n:=by
    have:=Lt Tryz.underlying9 hkey;unfold bk at this;injection this with this
    exact (ByteArray.ext (Array.ext' this)).symm
   subst Mx;have hc:c=t.v:=by
    have h1:=hat .nil;have h2:d = .held c:=by
     unfold fG at hv;injection hv with hv
     injection hv with hv
     exact hv.symm
    simp only [h2] at h1;rw [JI,lD gy.out ht] at h1;injection h1 with h1
    exact h1.symm
   have hc:c = .agg (aT t.n t.d t.z):=hc;subst hc;have cn:=fH.out t ht;have je:=cn.len;have htn:=cn.n;have zM:=aa cn.lt;clear cn;have hb3:Below w.heap.size w w3:=HB.out.grown hg1 HB.out.size (fun k hk=>by injection hk with hk;omega);have nR:w3.heap[w.heap.size]? = some (.cells (ah ds) 117 (0,0)):=(hg1.block _ (ax Ey.out) (fun e=>by injection e with e;omega)).trans Ey.out;obtain ⟨X,hX⟩ : ∃ X,X=w3.alloc (.cells (aT t.n t.d t.z) 193):=⟨_,rfl⟩;have AV:X.heap[w3.heap.size]? = some (.cells (aT t.n t.d t.z) 193 (0,0)):=by rw [hX];exact heap_alloc_new _ _
   have zN:Below w3.heap.size w3 X:=by rw [hX];exact (Below.refl _ _).alloc (Nat.le_refl _) _
   have bX:nT w3 X w3.heap.size t.n t.d t.z:=⟨AV,zN⟩;obtain ⟨n0,n1,n2⟩:=bX.out je;have AW:X.heap[w.heap.size]? = some (.cells (ah ds) 117 (0,0)):=(zN.block _ (ax nR)).trans nR;have wu:=aa (show X.ranges Tryz.prog 9 fG tb W.heap.size l.length (tD l) (fun z=>left z && !z.sameKey (bk t.n)) cnt1 from by rw [hX];exact hrg1.alloc _);have nI:=aa (hb3.trans (zN.mono hb3.size));have HX:=aa hX;have Ez:=aa AW;have My:=aa n1;have pB:=aa rj;have AY:=aa ht;have zO:W.heap.size+1<=X.heap.size:=by have:=zN.size;omega
   clear zN hs1 hrg hrg1 hkey hlk hv hat rj hg1 hb3 nR AV bX n1 AW hX ht n0 n2
   cases hdd:decide (t.d=ds) with
   | true =>
    have aV:bD ds l=true:=List.any_eq_true.2 ⟨t,AY.out,hdd⟩;have bG:=aa aV;clear aV;go_wp2_with (first|(refine wpList_store_row rfl 193 _ _ rfl w3.heap.size _ rfl rfl 193 _ (heap_alloc_new _ _) (gW _ _ _ je) (by rw [eh _ _ _ je,eh _ _ _ (Sha.af _)]) (Array.all_eq_true_iff_forall_mem.2 fun u hu=>mj _ _ _ u (by simpa using hu)) ?_;rw [World.setRow_alloc_new,<- HX.out])|(refine wpList_load_mid rfl 117 _ rfl w3.heap.size 1 rfl (ah t.d).toList _ My.out Tryz.underlying117 rfl (by rw [Array.length_toList];exact bL _ je) ?_)|(refine wpList_load_row rfl 117 _ rfl w.heap.size rfl 117 _ _ _ Ez.out Tryz.underlying117 rfl (bL _ aJ) ?_)|(refine PJ rfl _ _ _ rfl t.d ds je aJ zM.out hlt rfl rfl ?_;rw [hdd]));go_ret;exact ⟨by rw [bG.out];rfl,nI.out⟩
   | false =>
    go_wp2_with (first|(refine wpList_store_row rfl 193 _ _ rfl w3.heap.size _ rfl rfl 193 _ (heap_alloc_new _ _) (gW _ _ _ je) (by rw [eh _ _ _ je,eh _ _ _ (Sha.af _)]) (Array.all_eq_true_iff_forall_mem.2 fun u hu=>mj _ _ _ u (by simpa using hu)) ?_;rw [World.setRow_alloc_new,<- HX.out])|(refine wpList_load_mid rfl 117 _ rfl w3.heap.size 1 rfl (ah t.d).toList _ My.out Tryz.underlying117 rfl (by rw [Array.length_toList];exact bL _ je) ?_)|(refine wpList_load_row rfl 117 _ rfl w.heap.size rfl 117 _ _ _ Ez.out Tryz.underlying117 rfl (bL _ aJ) ?_)|(refine PJ rfl _ _ _ rfl t.d ds je aJ zM.out hlt rfl rfl ?_;rw [hdd]));refine ⟨?_,?_⟩
    ·(repeat apply Exists.intro)
     refine ⟨?rel,rfl⟩;refine ⟨_,cnt1,wu.out,nI.out,zO,Ez.out,fun kl h=>zL.out kl (by simp at h;exact h.1),fun t' Mz hl'=>?_⟩
     by_cases hn:t'.n=t.n
     ·rw [Eu gy.out Mz AY.out hn];exact of_decide_eq_false hdd
     ·refine kZ.out t' Mz ?_;rw [rW,decide_eq_false hn] at hl';simpa using hl'
    ·rw [wu.out.left_eq,iu.out.left_eq];exact pB.out
open Go.RowKit
theorem QmV (sb:Nat) (s:ai) (cb tb nc nt:Nat) (Dc Dt:DataW Value) (ds:List Nat) (w:World) {L C B:Nat} (h:aI w sb s cb tb nc nt Dc Dt) (aJ:ds.length=32) (hlt:∀ i,ds.getD i 0<256) (hf:au s.ds L C B) (hb:cZ (L+10) (C+10) B) :
  Calls Tryz.prog 76 #[.pointer (some ⟨sb,0,none⟩),.agg (ah ds)] w fun e w'=>∃ ev k s' m,e = .returned ev/\bR w' ev k/\ar (fun k=>k=cb) s s' w w'/\bM s.ds [fM (bW ds),gQ] k m s'.ds/\((m=0/\k≠0/\aI w' sb s' cb tb nc nt Dc Dt)∨(0<m/\aI w' sb s' cb tb nc nt (Dc.del (dy ds)) Dt)):=by
 have bh:Below w.heap.size w (w.alloc (.cells (ah ds) 117)):=(Below.refl _ _).alloc (Nat.le_refl _) _;have hrow:(w.alloc (.cells (ah ds) 117)).heap[w.heap.size]? = some (.cells (ah ds) 117 (0,0)):=heap_alloc_new _ _;obtain ⟨W,hW⟩ : ∃ W,W=w.alloc (.cells (ah ds) 117):=⟨_,rfl⟩;rw [<- hW] at bh hrow;have iA:=(h.later bh).on;have mL:=aa (MQ ds W.drew aJ hlt);have HR:=aa (fun (w':World) (hb':Below W.heap.size W w')=>Rm s (bW ds) w' (iA.ay.later hb') hf (hb.mono (by omega) (by omega) (Nat.le_refl _)) (Nat.le_trans (MR ds) (by decide)));have H0:=aa h;have eY:=aa iA;have HST:=aa (h.later bh);have HW:=aa hW;have cI:=aa bh;have aA:=aa hrow;have HN:=aa (fun (k:Nat) (hk:s.own k)=>h.ay.lt hk);have HF:=aa hf;have uY:=aa hb;clear h iA hW bh hrow hf hb;go_enter Tryz.func76,Tryz.ntmps76;go_upto_region 1 with fail
 rw [<- HW.out];obtain ⟨xb,gF⟩ : ∃ xb,xb=w.heap.size:=⟨_,rfl⟩;rw [<- gF] at aA HN ⊢;have A4:=aa gF;clear gF;have bA:=xr (eY.out.later (Below.refl W.heap.size W).drew) ((((Below.refl W.heap.size W).drew).block _ (ax aA.out)).trans aA.out);have u72:=Tryz.underlying117;have i72:=jl ds aJ
 go_region_held3 (fun w'=>w'.cell? ⟨sb,0,none⟩=some (.pointer (some ⟨s.b,0,none⟩))/\w'.rangeAt xb 0 (ah ds).toList) (first|exact eb|exact ie|exact bA|go_keep) ((first|(go_at_call 107;refine (mL.out).mono ?_;rintro _ w1 ⟨rfl,hb1⟩;have hb3:Below W.heap.size W w1:=((Below.refl W.heap.size W).drew).trans hb1;have hr2:=(hb3.block _ (ax aA.out)).trans aA.out;have ie:=xr (eY.out.later hb3) hr2)|(go_at_call 117;refine (HR.out _ hb3).mono ?_;rintro _ w2 ⟨v,k,s1,rfl,hv,hg,hst⟩;have hr3:=(hg.gr.block _ (ax hr2) (fun e=>by have:=HN.out _ e;omega)).trans hr2;have eb:=(show w2.cell? ⟨sb,0,none⟩=some (.pointer (some ⟨s.b,0,none⟩))/\w2.rangeAt xb 0 (ah ds).toList by rw [<- hg.b];exact xr ((eY.out.later hb3).go hg) hr3))))
 have Fw:=aa ((HST.out.later hb3).go hg);have cQ:=aa (((ar.ae cI.out).trans (ar.ae hb3)).trans (ar.aZ (S:=fun k=>k=cb) hg));have oz:=aa hr3;have lp:=aa hst;have Uu:=hg.b;clear hst HR bA ie eb hr2 hr3 hb1 hb3 mL u72 i72 hg
 rcases hv with ⟨h0,rfl⟩|⟨h0,sv,nm,rfl,iY⟩
 ·have hdr:Below w2.heap.size w2 w2.drew:=(Below.refl _ _).drew;have h6:=Fw.out.later hdr;have eZ:=(hdr.block _ (ax oz.out)).trans oz.out;have bA:w2.drew.cell? ⟨sb,1,none⟩=some (.map (some cb))/\w2.drew.rangeAt xb 0 (ah ds).toList:=⟨cell_of_row _ _ 1 _ _ _ h6.blk,eF eZ⟩;obtain ⟨w6,hrun,jc,MS⟩:=World.ownsMap.drop h6.cm rY Tryz.underlying156 (EB ds aJ hlt) 0;have bQ:=MS.grown;have nV:w6.cell? ⟨sb,1,none⟩=some (.map (some cb))/\w6.rangeAt xb 0 (ah ds).toList:=⟨cell_of_row _ _ 1 _ _ _ (h6.pJ bQ jc).blk,eF ((bQ.block _ (ax eZ) (fun e=>by
   injection e with e
   obtain ⟨es,clock,h1,_⟩:=h6.cm;rw [<- e,eZ] at h1
   cases h1)).trans eZ)⟩
  have H7:=aa (h6.pJ bQ jc);have kn:=aa (cQ.out.trans ((ar.ae hdr).trans (ar.cW bQ (fun r e=>by injection e with e;exact e.symm))));have u72:=Tryz.underlying117;have i72:=jl ds aJ;have uy:=aa h0;clear h6 jc bQ MS hdr h0;go_wp2_with fail
  go_region_held3 (fun w'=>w'.cell? ⟨sb,1,none⟩=some (.map (some cb))/\w'.rangeAt xb 0 (ah ds).toList) (first|exact bA|exact nV|go_keep) (fail)
  clear hrun u72 i72 bA nV eZ;have c0:=cell_of_row _ _ 0 _ _ _ H7.out.blk;have dP:fK s.ds (fM (bW ds)) 0 s1.ds:=by rw [<- uy.out];exact lp.out
  have kG:=aa dP;have j1:=aa (Dx s1 w6 H7.out.ay (HF.out.st dP) (uY.out.mono (by omega) (by omega) (by show B+0<=B;omega)));rw [Uu] at j1;clear dP;go_wp2_with fail;refine (j1.out).mono ?_;rintro _ w8 ⟨v8,k8,s8,rfl,EC,jL,ru⟩;dsimp only;have H8:=aa (H7.out.go jL);have oH:=aa (kn.out.trans (ar.aZ jL));have MT:=aa EC;have Hl:=aa ru;clear EC jL ru j1;go_wp2_with fail;go_ret;refine ⟨_,k8,s8,_,rfl,MT.out,oH.out,⟨0,s1.ds,kG.out,.inr ⟨rfl,_,rfl,bM.one Hl.out⟩⟩,.inr ⟨Nat.succ_pos _,H8.out⟩⟩
 ·have rv:=aa iY;clear iY;go_wp2_with fail;go_ret;exact ⟨_,k,s1,0,rfl,.inr ⟨h0,sv,nm,rfl,rv.out⟩,cQ.out,⟨k,s1.ds,lp.out,.inl ⟨h0,rfl,rfl,rfl⟩⟩,.inl ⟨rfl,h0,Fw.out⟩⟩
end Go.Proofs.YtncigfibncmioaaGreatDoor
