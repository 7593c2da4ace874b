/-
  PROVED HERE: what Content of a store answers.
-/
import Derived.Test.YtncigfibncmioaaGreatDoorSmEnt
set_option maxHeartbeats 4000000
set_option maxRecDepth 100000
namespace Go.Proofs.YtncigfibncmioaaGreatDoor
open Go.RowKit
def eG (D:DS) (ds:List Nat):Option ByteArray:=(cr D (bW ds)).filter fun t=>decide (Sha.digest (Sha.state t.data.toList)=ds)
theorem MR (ds:List Nat):(bW ds).size<=1000:=by
 unfold bW;rw [sP,List.length_append,Sha.bq];show Hm.length+_<=_;have:Hm.length=6:=rfl;omega
theorem xr {w:World} {sb xb:Nat} {s:ai} {ds:List Nat} (h:On w sb s) (hr:w.heap[xb]? = some (.cells (ah ds) 117 (0,0))):w.cell? ⟨sb,0,none⟩=some (.pointer (some ⟨s.b,0,none⟩))/\w.rangeAt xb 0 (ah ds).toList:=by
 obtain ⟨cv,tv,hbl⟩:=h.sb;refine ⟨cell_of_row _ _ 0 _ _ _ hbl,fun j v hj=>?_⟩;rw [cell_of_row _ _ (0+j) _ _ _ hr,Nat.zero_add];simpa using hj
theorem eF {w:World} {xb:Nat} {ds:List Nat} (hr:w.heap[xb]? = some (.cells (ah ds) 117 (0,0))):w.rangeAt xb 0 (ah ds).toList:=fun j v hj=>by
 rw [cell_of_row _ _ (0+j) _ _ _ hr,Nat.zero_add];simpa using hj
theorem jl (ds:List Nat) (h:ds.length=32):(Tryz.prog.info? 117).map (·.size)=some (ah ds).toList.length:=by rw [Array.length_toList];exact bL _ h
theorem Xk (sb:Nat) (s:ai) (ds:List Nat) (w:World) (h:On w sb s) (aJ:ds.length=32) (hlt:∀ i,ds.getD i 0<256) (hsz:∀ t,cr s.ds (bW ds)=some t->t.size<=140737488351232) :
  Calls Tryz.prog 70 #[.pointer (some ⟨sb,0,none⟩),.agg (ah ds)] w fun e w'=>e = .returned (.tuple #[.string ((eG s.ds ds).getD ⟨#[]⟩),.bool (eG s.ds ds).isSome])/\aC s s w w':=by
 have bh:Below w.heap.size w (w.alloc (.cells (ah ds) 117)):=(Below.refl _ _).alloc (Nat.le_refl _) _;have hrow:(w.alloc (.cells (ah ds) 117)).heap[w.heap.size]? = some (.cells (ah ds) 117 (0,0)):=heap_alloc_new _ _;obtain ⟨W,hW⟩ : ∃ W,W=w.alloc (.cells (ah ds) 117):=⟨_,rfl⟩;rw [<- hW] at bh hrow;have iA:=h.later bh;obtain ⟨cv,tv,hbl⟩:=iA.sb;have c0:W.cell? ⟨sb,0,none⟩=some (.pointer (some ⟨s.b,0,none⟩)):=cell_of_row _ _ 0 _ _ _ hbl;have mL:=aa (MQ ds W.drew aJ hlt);have HR:=aa (fun (w':World) (hb':Below W.heap.size W w')=>Ot s (bW ds) w' (iA.ay.later hb') (Nat.le_trans (MR ds) (by decide)));have H0:=aa h;have eY:=aa iA;have HW:=aa hW;have cI:=aa bh;have aA:=aa hrow;have nG:=aa hsz;have HN:=aa (fun (k:Nat) (hk:s.own k)=>h.ay.lt hk);clear h iA hbl hW bh hrow hsz;go_enter Tryz.func70,Tryz.ntmps70;go_upto_region 1 with fail
 rw [<- HW.out];obtain ⟨xb,gF⟩ : ∃ xb,xb=w.heap.size:=⟨_,rfl⟩;rw [<- gF] at aA HN ⊢;have A4:=aa gF;clear gF;have bA:=xr (eY.out.later (Below.refl W.heap.size W).drew) ((((Below.refl W.heap.size W).drew).block _ (ax aA.out)).trans aA.out);have u72:=Tryz.underlying117;have i72:=jl ds aJ
 go_region_held3 (fun w'=>w'.cell? ⟨sb,0,none⟩=some (.pointer (some ⟨s.b,0,none⟩))/\w'.rangeAt xb 0 (ah ds).toList) (first|exact eb|exact ie|exact bA|go_keep) ((first|(go_at_call 107;refine (mL.out).mono ?_;rintro _ w1 ⟨rfl,hb1⟩;have hb3:Below W.heap.size W w1:=((Below.refl W.heap.size W).drew).trans hb1;have hr2:=(hb3.block _ (ax aA.out)).trans aA.out;have ie:=xr (eY.out.later hb3) hr2)|(go_at_call 80;refine (HR.out _ hb3).mono ?_;rintro _ w2 ⟨v,k,rfl,hv,hk,hg,hi⟩;have hr3:=(hg.block _ (ax hr2) (fun e=>by have:=HN.out _ e;omega)).trans hr2;have eb:=xr ((eY.out.later hb3).go ⟨rfl,hi,hg,fun _ hk=>.inl hk⟩) hr3)))
 have hgo:aC s s w1 w2:=⟨rfl,hi,hg,fun _ hk=>.inl hk⟩;have cQ:=aa (((aC.refl H0.out.ay cI.out).trans (aC.refl eY.out.ay hb3)).trans hgo);have fL:=aa hr3;have Hx:=aa ((eY.out.later hb3).go hgo).gl;clear hgo hg hi HR bA ie eb hr2 hr3 hb1 hb3 mL c0 u72 i72
 rcases hv with ⟨h0,rfl⟩|⟨h0,sv,nm,rfl, -⟩
 ·have hs:=hk.1 h0;obtain ⟨t,ht⟩:=Option.isSome_iff_exists.1 hs;have CX:=aa (OO t w2.drew (nG.out t ht) (Hx.out.later (Below.refl _ _).drew).hk);rw [ht];dsimp only [Option.getD];have HT:=aa ht;clear hk h0 hs ht;obtain ⟨D,hD⟩ : ∃ D,D=Sha.digest (Sha.state t.data.toList):=⟨_,rfl⟩;have hl:D.length=32:=by rw [hD];exact Sha.bm _ _
  have Vz:∀ i,D.getD i 0<256:=by rw [hD];exact fun i=>Sha.jV _ _ i
  rw [<- hD] at CX;have HD:=aa hD;clear hD;have u72:=Tryz.underlying117;have i72:=jl ds aJ;have bA:=eF ((((Below.refl w2.heap.size w2).drew).block _ (ax fL.out)).trans fL.out);have heq:∀ w,(Op.equalIn 10000 117 (.agg (ah D)) (.agg (ah ds))).run Tryz.prog w = .ok (decide (D=ds)) w:=fun w=>UB 9998 D ds hl aJ Vz hlt w
  go_wp2_with fail
  go_region_held3 (fun w'=>w'.rangeAt xb 0 (ah ds).toList) (first|exact eb|exact bA|go_keep) ((go_at_call 71;refine (CX.out).mono ?_;rintro _ w3 ⟨rfl,hb3⟩;have hb4:Below w2.heap.size w2 w3:=((Below.refl w2.heap.size w2).drew).trans hb3;have hr3:=(hb4.block _ (ax fL.out)).trans fL.out;have eb:=eF hr3))
  have Cz:=aa (cQ.out.trans (aC.refl cQ.out.ay hb4));clear hb3 hb4 hr3 eb bA CX heq
  by_cases hq:D=ds
  ·have NC:(!decide (D=ds))=false:=by simp [hq]
   have hc:eG s.ds ds=some t:=by
    unfold eG;rw [HT.out];simp [<- HD.out,hq]
   have HC:=aa hc;clear hc;rw [NC];clear hq NC;go_wp2_with fail;refine bodyPost_ret (results_tmp2 rfl _ _ _) rfl ?_;rw [HC.out];exact ⟨rfl,Cz.out⟩
  ·have NC:(!decide (D=ds))=true:=by simp [hq]
   have hc:eG s.ds ds=none:=by
    unfold eG;rw [HT.out];simp [<- HD.out,hq]
   have HC:=aa hc;clear hc;rw [NC];clear hq NC;go_wp2_with fail;refine bodyPost_ret (results_tmp2 rfl _ _ _) rfl ?_;rw [HC.out];exact ⟨rfl,Cz.out⟩
 ·have hs:cr s.ds (bW ds)=none:=by
   cases hq:cr s.ds (bW ds) with
   | none=>rfl
   | some t=>exact absurd (hk.2 (by rw [hq];rfl)) h0
  have hc:eG s.ds ds=none:=by unfold eG;rw [hs];rfl
  clear hk;have u72:=Tryz.underlying117;have i72:=jl ds aJ;have bA:=eF ((((Below.refl w2.heap.size w2).drew).block _ (ax fL.out)).trans fL.out);have HC:=aa hc;clear hc;clear u72 i72 bA;go_wp2_with fail
  go_region
  go_wp2_with fail;refine bodyPost_ret (results_tmp2 rfl _ _ _) rfl ?_;rw [HC.out];exact ⟨rfl,cQ.out.trans (aC.refl cQ.out.ay (Below.refl _ _).drew)⟩
open Go.RowKit Go.Shelf
def mR (ds:List Nat) (z:Int) (t:TE):TE:=if t.d=ds then { t with z:=z } else t
def gT (ds:List Nat) (z:Int) (l:List TE):List TE:=l.map (mR ds z)
def pL (ds:List Nat) (z:Int) (left:Lit->Bool) (l:List TE):List TE:=l.map fun t=>if left (bk t.n)=true then t else mR ds z t
theorem Nc (ds:List Nat) (z:Int) (t:TE):(mR ds z t).n=t.n:=by unfold mR;split<;>rfl
theorem Qs6 (ds:List Nat) (z:Int) (left:Lit->Bool) (l:List TE):(pL ds z left l).length=l.length:=by simp [pL]
theorem Qs7 {ds:List Nat} {z:Int} {left:Lit->Bool} {l:List TE} (h:∀ t∈l,left (bk t.n)=true):pL ds z left l=l:=by
 unfold pL
 conv=>rhs;rw [<- List.map_id l]
 exact List.map_congr_left fun t ht=>by rw [if_pos (h t ht)];rfl
theorem QqO {ds:List Nat} {z:Int} {left:Lit->Bool} {l:List TE} (h:∀ kl,left kl=false):pL ds z left l=gT ds z l:=by
 unfold pL gT;exact List.map_congr_left fun t ht=>by rw [h];rfl
theorem QlQ {ds:List Nat} {z:Int} {left:Lit->Bool} {l:List TE} (h:lF l):lF (pL ds z left l):=by
 unfold pL lF aq;rw [List.pairwise_map];refine h.imp ?_;intro a b hab;have:∀ t:TE,(if left (bk t.n)=true then t else mR ds z t).n=t.n:=fun t=>by split;rfl;exact Nc ds z t
 rw [this,this];exact hab
theorem UL {ds:List Nat} {z:Int} {l:List TE} (h:∀ t∈l,t.Ok) (hz:0<=z/\z<=300):∀ t∈gT ds z l,t.Ok:=by
 intro t ht;obtain ⟨u,hu,rfl⟩:=List.mem_map.1 ht;have hk:=h u hu;unfold mR
 split
 ·exact ⟨hk.n,hk.len,hk.lt,hz.1,hz.2⟩
 ·exact hk
theorem QqP {ds:List Nat} {z:Int} {left left':Lit->Bool} {l:List TE} (hr:lF l) {t:TE} (ht:t∈l) (hl':∀ u∈l,left' (bk u.n)=if u.n=t.n then false else left (bk u.n)) :
  pL ds z left' l=(pL ds z left l).map fun e=>if e.n=t.n then mR ds z t else e:=by
 unfold pL;rw [List.map_map];refine List.map_congr_left fun u hu=>?_
 have hn:∀ t:TE,(if left (bk t.n)=true then t else mR ds z t).n=t.n:=fun t=>by split;rfl;exact Nc ds z t
 simp only [Function.comp_apply,hn,hl' u hu]
 by_cases h:u.n=t.n
 ·have:u=t:=Eu hr hu ht h;subst this;simp
 ·simp [h]
theorem QqQ {ds:List Nat} {z:Int} {left left':Lit->Bool} {l:List TE} (hr:lF l) {t:TE} (ht:t∈l) (hd:t.d≠ds) (hl':∀ u∈l,left' (bk u.n)=if u.n=t.n then false else left (bk u.n)) :
  pL ds z left' l=pL ds z left l:=by
 unfold pL;refine List.map_congr_left fun u hu=>?_
 rw [hl' u hu]
 by_cases h:u.n=t.n
 ·have:u=t:=Eu hr hu ht h;subst this;simp [mR,hd]
 ·simp [h]
theorem UJ (tb:Nat) (l:List TE) (ds:List Nat) (z':Int) (w:World) (h:TL w tb l) (aF:∀ t∈l,t.Ok) (aJ:ds.length=32) (hlt:∀ i,ds.getD i 0<256) (Nd:l.length<=1000) :
  Calls Tryz.prog 115 #[.map (some tb),.agg (ah ds),.int .i64 z'] w fun e w'=>∃ b,e = .returned (.map (some b))/\w.heap.size<=b/\TL w' b (gT ds z' l)/\Below w.heap.size w w':=by
 have ba:lF l:=TL.rise h;have qP:=aa (U3 tb l.length (tD l));have bh:Below w.heap.size w (w.alloc (.cells (ah ds) 117)):=(Below.refl _ _).alloc (Nat.le_refl _) _;have hrow:(w.alloc (.cells (ah ds) 117)).heap[w.heap.size]? = some (.cells (ah ds) 117 (0,0)):=heap_alloc_new _ _;have kz:TM _ tb l.length (tD l):=jP h (bh.block _ (TL.lt h));obtain ⟨W,hW⟩ : ∃ W,W=w.alloc (.cells (ah ds) 117):=⟨_,rfl⟩;rw [<- hW] at bh hrow kz;have oO:=aa kz;have HW:=aa hW;have cI:=aa bh;have aA:=aa hrow;clear h bh kz hW hrow;have ji:=(zero_of_info Tryz.cY).1;go_enter Tryz.func115,Tryz.ntmps115;go_upto_region 1 with fail
 rw [<- HW.out];go_wp2_with fail;refine (qP.out _ oO.out).mono ?_;rintro _ w1 ⟨rfl,iV,hb1⟩;dsimp only;have wB:=aa iV;have Nf:=aa (show TM w1 tb l.length (tD l) from jP oO.out (hb1.block _ oO.out.lt));have br:=aa hb1;clear iV hb1 qP;go_wp2_with (at_range;refine wpList_range_own _ rfl _ 157 rfl 9 193 tZ Tryz.underlying157 fG tb l.length (tD l) rfl Nf.out ?_;intro w2 hrg2 hg2 hs2)
 go_frame
 have GG:=aa hrg2;have km:Below w.heap.size w w2:=(cI.out.trans (br.out.mono cI.out.size)).grown (hg2.but none) (by have:=cI.out.size;have:=br.out.size;omega) (fun k e=>by cases e);have cL:=aa km;have jM:=aa (show TM w2 W.heap.size l.length (tD l) from jP wB.out (hg2.block _ wB.out.lt (by simp)));have fL:=aa ((hg2.block _ (by have:=ax aA.out;have:=br.out.size;omega) (by simp)).trans ((br.out.block _ (ax aA.out)).trans aA.out));have J7:=wB.out.lt;have aaz:=Nf.out.lt;have Un:=oO.out.lt;have Uo:=cI.out.size;have vk:=ax aA.out;have gy:=aa ba;have fH:=aa aF;clear hrg2 hg2 km ba aF
 go_loopw [] (fun wr=>∃ left cnt,wr.ranges Tryz.prog 9 fG tb w1.heap.size l.length (tD l) left cnt/\Below w.heap.size w wr/\w1.heap.size+1<=wr.heap.size/\wr.heap[w.heap.size]? = some (.cells (ah ds) 117 (0,0))/\(∀ kl,left kl=true->Maps.has (tD l) kl=true)/\TL wr W.heap.size (pL ds z' left l)) (fun wr=>wr.rangeLeft tb w1.heap.size)
 case atStart=>exact ⟨_,_,GG.out,cL.out,by omega,fL.out,fun kl h=>h,by
  rw [Qs7 (fun t ht=>by rw [Mu,lD gy.out ht];rfl)];exact jM.out⟩
 case round =>
  obtain ⟨left,cnt,hrg,hb,hsz,hdr,nj,lA⟩:=hrel;have HB:=aa hb;have iu:=aa hrg;have Ey:=aa hdr;have zL:=aa nj;have U4:=aa lA;clear hb hdr nj lA;go_wp2_with (at_next;refine wpList_next_ranges _ rfl _ rfl 9 tZ fG Value.string (fun c:Value=>c) (fun key kl hkey=>Ls Tryz.underlying9 hkey) (fun v y hv=>⟨v,rfl⟩) tb w1.heap.size _ _ _ _ rfl iu.out ?_ ?_)
  ·intro _ hl0;have aV:TL wr W.heap.size (gT ds z' l):=by
    have:=U4.out;rwa [QqO hl0] at this
   have bG:=aa aV;clear hrg hl0 aV;go_wp2_with fail;go_ret;exact ⟨_,rfl,by omega,bG.out,HB.out⟩
  ·intro x c kl d ps w3 cnt1 hkey hlk hv hat hrg1 rj hg1 hs1 hen;obtain ⟨t,ht,rfl⟩:=Mw (zL.out kl hlk);have Mx:x=t.n:=by
    have:=Lt Tryz.underlying9 hkey;unfold bk at this;injection this with this
    exact (ByteArray.ext (Array.ext' this)).symm
   subst Mx;have hc:c=t.v:=by
    have h1:=hat .nil;have h2:d = .held c:=by
     unfold fG at hv;injection hv with hv
     injection hv with hv
     exact hv.symm
    simp only [h2] at h1;rw [JI,lD gy.out ht] at h1;injection h1 with h1
    exact h1.symm
   have hc:c = .agg (aT t.n t.d t.z):=hc;subst hc;have cn:=fH.out t ht;have je:=cn.len;have htn:=cn.n;have zM:=aa cn.lt;clear cn;have hb3:Below w.heap.size w w3:=HB.out.grown hg1 (by omega) (fun k hk=>by injection hk with hk;omega);have nR:w3.heap[w.heap.size]? = some (.cells (ah ds) 117 (0,0)):=(hg1.block _ (ax Ey.out) (fun e=>by injection e with e;omega)).trans Ey.out;have JP:TL w3 W.heap.size (pL ds z' left l):=U4.out.same (hg1.block _ U4.out.lt (fun e=>by injection e with e;omega));have AV:(w3.alloc (.cells (aT t.n t.d t.z) 193)).heap[w3.heap.size]? = some (.cells (aT t.n t.d t.z) 193 (0,0)):=heap_alloc_new _ _;have bX:nT w3 (w3.alloc (.cells (aT t.n t.d t.z) 193)) w3.heap.size t.n t.d t.z:=⟨AV,(Below.refl _ _).alloc (Nat.le_refl _) _⟩;obtain ⟨n0,n1,n2⟩:=bX.out je;have n3:=frozen_of_row _ _ 33 _ _ AV;have AW:(w3.alloc (.cells (aT t.n t.d t.z) 193)).heap[w.heap.size]? = some (.cells (ah ds) 117 (0,0)):=(bX.below.block _ (ax nR)).trans nR;have iY:=Qm9 t.n t.d t.z z' je;have zN:∀ q,Below w3.heap.size w3 (w3.alloc (.cells (aT t.n t.d q) 193)):=fun q=>(Below.refl _ _).alloc (Nat.le_refl _) _
   have hX2:(w3.alloc (.cells (aT t.n t.d z') 193)).heap[w3.heap.size]? = some (.cells (aT t.n t.d z') 193 (0,0)):=heap_alloc_new _ _;have Jw:=aa (fun q=>show TL (w3.alloc (.cells (aT t.n t.d q) 193)) W.heap.size (pL ds z' left l) from JP.same ((zN q).block _ JP.lt));have CZ:=aa (fun q=>hrg1.alloc (.cells (aT t.n t.d q) 193));have lN:=aa (fun q=>show Below w.heap.size w (w3.alloc (.cells (aT t.n t.d q) 193)) from hb3.trans ((zN q).mono hb3.size));have U5:=aa (fun q=>show (w3.alloc (.cells (aT t.n t.d q) 193)).heap[w.heap.size]? = some (.cells (ah ds) 117 (0,0)) from ((zN q).block _ (ax nR)).trans nR);have di:=aa (show ∀ u∈l,∀ kl',kl'=bk u.n->(left kl' && !kl'.sameKey (bk t.n))=if u.n=t.n then false else left (bk u.n) from fun u hu kl' hk=>by
    subst hk;rw [rW]
    by_cases h:u.n=t.n
    ·simp [h]
    ·simp [h])
   have HX1:=aa AV;have HX2:=aa hX2;have Ez:=aa AW;have My:=aa n1;have pB:=aa rj;have AY:=aa ht;have zO:w1.heap.size+1<=w3.heap.size:=by omega
   clear zN hs1 hrg hrg1 hkey hlk hv hat rj hg1 hb3 nR JP AV bX n1 AW hX2 ht
   by_cases hdd:t.d=ds
   ·have Fj:decide (t.d=ds)=true:=decide_eq_true hdd;have iB:=aa hdd;clear hdd;go_wp2_with (first|(refine wpList_store_row rfl 193 _ _ rfl w3.heap.size _ rfl rfl 193 _ (heap_alloc_new _ _) (gW _ _ _ je) (by rw [eh _ _ _ je,eh _ _ _ (Sha.af _)]) (Array.all_eq_true_iff_forall_mem.2 fun u hu=>mj _ _ _ u (by simpa using hu)) ?_;rw [World.setRow_alloc_new])|(refine wpList_load_mid rfl 117 _ rfl w3.heap.size 1 rfl (ah t.d).toList _ My.out Tryz.underlying117 rfl (by rw [Array.length_toList];exact bL _ je) ?_)|(refine wpList_load_row rfl 117 _ rfl w.heap.size rfl 117 _ _ _ Ez.out Tryz.underlying117 rfl (bL _ aJ) ?_)|(refine PJ rfl _ _ _ rfl t.d ds je aJ zM.out hlt rfl rfl ?_;rw [Fj])|(refine wpList_load_row rfl 193 _ rfl w3.heap.size rfl 193 _ _ _ HX2.out Tryz.underlying193 rfl (gW _ _ _ je) ?_)|(refine wpList_mapUpdate_own _ rfl _ _ _ 157 rfl 9 193 tZ Tryz.underlying157 fG W.heap.size _ _ rfl (Jw.out z') (by rw [Qs6];unfold maxLen;omega) _ _ (.string t.n.data.toList) rfl rfl (MX t.n (by omega)) _ [] rfl ?_;intro w6 jc bQ))
    go_roundw
    case rel =>
     have KC:=(lN.out z').size;refine ⟨_,⟨cnt1,(CZ.out z').kept bQ (fun e=>by injection e with e;omega) (fun e=>by injection e with e;omega)⟩,(lN.out z').grown bQ (by omega) (fun k hk=>by injection hk with hk;omega),by have:=bQ.size;simp only [size_alloc] at this;omega,(bQ.block _ (ax (U5.out z')) (fun e=>by injection e with e;omega)).trans (U5.out z'),fun kl h=>zL.out kl (by simp at h;exact h.1),?_⟩;have Hg:mR ds z' t=⟨t.n,t.d,z'⟩:=by unfold mR;rw [if_pos iB.out]
     have h7:TM w6 W.heap.size ((pL ds z' left l).length+1) ((tD (pL ds z' left l)).put (bk (mR ds z' t).n) (.held (mR ds z' t).v)):=by rw [Hg];exact jc
     rw [Jy _ _ (QlQ gy.out),Ux (QlQ gy.out) ⟨if left (bk t.n)=true then t else mR ds z' t,List.mem_map_of_mem AY.out,by rw [Nc];split;rfl;exact Nc _ _ _⟩] at h7;have h8:=P4 h7;rw [QqP gy.out AY.out (fun u hu=>di.out u hu _ rfl)];rw [Nc] at h8;exact h8
    case measure =>
     rw [((CZ.out z').kept bQ (fun e=>by injection e with e;omega) (fun e=>by injection e with e;omega)).left_eq,iu.out.left_eq];exact pB.out
   ·have Fj:decide (t.d=ds)=false:=decide_eq_false hdd;have iB:=aa hdd;clear hdd;go_wp2_with (first|(refine wpList_store_row rfl 193 _ _ rfl w3.heap.size _ rfl rfl 193 _ (heap_alloc_new _ _) (gW _ _ _ je) (by rw [eh _ _ _ je,eh _ _ _ (Sha.af _)]) (Array.all_eq_true_iff_forall_mem.2 fun u hu=>mj _ _ _ u (by simpa using hu)) ?_;rw [World.setRow_alloc_new])|(refine wpList_load_mid rfl 117 _ rfl w3.heap.size 1 rfl (ah t.d).toList _ My.out Tryz.underlying117 rfl (by rw [Array.length_toList];exact bL _ je) ?_)|(refine wpList_load_row rfl 117 _ rfl w.heap.size rfl 117 _ _ _ Ez.out Tryz.underlying117 rfl (bL _ aJ) ?_)|(refine PJ rfl _ _ _ rfl t.d ds je aJ zM.out hlt rfl rfl ?_;rw [Fj]));refine ⟨?_,?measure⟩
    ·iterate 16 (apply Exists.intro)
     refine ⟨?rel,rfl⟩;refine ⟨_,cnt1,CZ.out t.z,lN.out t.z,by simp only [size_alloc];omega,U5.out t.z,fun kl h=>zL.out kl (by simp at h;exact h.1),?_⟩;rw [QqQ gy.out AY.out iB.out (fun u hu=>di.out u hu _ rfl)];exact Jw.out t.z
    ·rw [(CZ.out t.z).left_eq,iu.out.left_eq];exact pB.out
open Go.RowKit Go.Shelf
theorem UC:∀ {m l:List TE},lF l->lF m->(∀ t∈l,t∈m)->l.Sublist m
 | [],l,_,_,h=>by
  cases l with
  | nil=>exact .slnil
  | cons e es=>exact absurd (h e (by simp)) (by simp)
 | f::fs,l,hl,hm,h=>by
  obtain ⟨m1,m2⟩:=List.pairwise_cons.1 hm
  cases l with
  | nil=>exact List.nil_sublist _
  | cons e es =>
   obtain ⟨l1,l2⟩:=List.pairwise_cons.1 hl
   by_cases he:e=f
   ·subst he;exact (UC l2 m2 (fun t ht=>(List.mem_cons.1 (h t (by simp [ht]))).resolve_left (fun e2=>by
     subst e2;have:=l1 t ht;rw [mo] at this
     cases this))).cons_cons e
   ·have ED:e∈fs:=(List.mem_cons.1 (h e (by simp))).resolve_left he;refine (UC hl m2 (fun t ht=>(List.mem_cons.1 (h t ht)).resolve_left (fun e2=>?_))).cons f;subst e2
    rcases List.mem_cons.1 ht with rfl|ht
    ·exact he rfl
    ·have:=uA (m1 e ED) (l1 t ht);rw [mo] at this
     cases this
theorem Qs2 {l m:List TE} (hl:lF l) (hm:lF m) (hlen:l.length=m.length) (h:∀ t∈l,t∈m):l=m:=(UC hl hm h).eq_of_length hlen
theorem QoS (b1 b2:Nat) (l m:List TE) (w:World) (h1:TL w b1 l) (h2:TL w b2 m) (zJ:∀ t∈l,t.Ok) (CV:∀ t∈m,t.Ok) :
  Calls Tryz.prog 165 #[.map (some b1),.map (some b2)] w fun e w'=>e = .returned (.bool (decide (l=m)))/\Below w.heap.size w w':=by
 by_cases hlen:l.length=m.length
 ·have l1:=World.ownsMap.len h1 Tryz.underlying157;have l2:=World.ownsMap.len h2 Tryz.underlying157;rw [JH] at l1 l2;rw [<- hlen] at l2;have H1:=aa h1;have H2:=aa h2;have wN:=aa zJ;have qi:=aa CV;have HLEN:=aa hlen;clear h1 h2 zJ CV hlen;go_enter Tryz.func165,Tryz.ntmps165;go_wp2_with (at_range;refine wpList_range_own _ rfl _ 157 rfl 9 193 tZ Tryz.underlying157 fG b1 l.length (tD l) rfl H1.out ?_;intro w2 hrg2 hg2 hs2)
  go_frame
  have GG:=aa hrg2;have km:Below w.heap.size w w2:=(Below.refl _ _).grown (hg2.but none) (Nat.le_refl _) (fun k e=>by cases e);have cL:=aa km;have ki:=aa H1.out.rise;have fL:=aa H2.out.rise;have J7:=H1.out.lt;have vk:=H2.out.lt;clear hrg2 hg2 km;have ji:=(zero_of_info Tryz.cY).1
  go_loopw [] (fun wr=>∃ left cnt,wr.ranges Tryz.prog 9 fG b1 w.heap.size l.length (tD l) left cnt/\Below w.heap.size w wr/\(∀ kl,left kl=true->Maps.has (tD l) kl=true)/\(∀ t∈l,left (bk t.n)=false->t∈m)) (fun wr=>wr.rangeLeft b1 w.heap.size)
  case atStart=>exact ⟨_,_,GG.out,cL.out,fun kl h=>h,fun t ht h=>by rw [Mu,lD ki.out ht] at h;cases h⟩
  case round =>
   obtain ⟨left,cnt,hrg,hb,nj,cJ⟩:=hrel;have HB:=aa hb;have iu:=aa hrg;have zL:=aa nj;have kZ:=aa cJ;clear hb nj cJ;go_wp2_with (at_next;refine wpList_next_ranges _ rfl _ rfl 9 tZ fG Value.string (fun c:Value=>c) (fun key kl hkey=>Ls Tryz.underlying9 hkey) (fun v y hv=>⟨v,rfl⟩) b1 w.heap.size _ _ _ _ rfl iu.out ?_ ?_)
   ·intro _ hl0;have vF:l=m:=Qs2 ki.out fL.out HLEN.out (fun t ht=>kZ.out t ht (hl0 _));have MZ:=aa vF;clear hrg hl0 vF;go_wp2_with fail;go_ret;exact ⟨by rw [decide_eq_true MZ.out];rfl,HB.out⟩
   ·intro x c kl d ps w3 cnt1 hkey hlk hv hat hrg1 rj hg1 hs1 hen;obtain ⟨t,ht,rfl⟩:=Mw (zL.out kl hlk);have Mx:x=t.n:=by
     have:=Lt Tryz.underlying9 hkey;unfold bk at this;injection this with this
     exact (ByteArray.ext (Array.ext' this)).symm
    subst Mx;have hc:c=t.v:=by
     have h1:=hat .nil;have h2:d = .held c:=by
      unfold fG at hv;injection hv with hv
      injection hv with hv
      exact hv.symm
     simp only [h2] at h1;rw [JI,lD ki.out ht] at h1;injection h1 with h1
     exact h1.symm
    have hc:c = .agg (aT t.n t.d t.z):=hc;subst hc;have cn:=wN.out t ht;have je:=cn.len;have htn:=cn.n;have hb3:Below w.heap.size w w3:=HB.out.grown hg1 HB.out.size (fun k hk=>by injection hk with hk;omega);have HT:=aa (show TL w3 b2 m from H2.out.same (hb3.block _ vk));have j7:=aa hb3;have vJ:=aa cn;have AY:=aa ht;have UD:=aa hen;clear cn ht hb3;obtain ⟨X,hX⟩ : ∃ X,X=w3.alloc (.cells (aT t.n t.d t.z) 193):=⟨_,rfl⟩;have jH:Below w3.heap.size w3 X:=by rw [hX];exact (Below.refl _ _).alloc (Nat.le_refl _) _
    have iC:X.heap[w3.heap.size]? = some (.cells (aT t.n t.d t.z) 193 (0,0)):=by rw [hX];exact heap_alloc_new _ _
    have UE:=aa (show TL X b2 m from HT.out.same (jH.block _ HT.out.lt));have HX:=aa hX;have e8:=aa iC;have nI:=aa jH;have vS:=aa hrg1;have pB:=aa rj;clear hX jH iC hrg hrg1 rj hs1 hg1 hkey hlk hv hat;obtain ⟨u,hu⟩ : ∃ u,u=wo t.n m:=⟨_,rfl⟩;have Hn:u.Ok:=by rw [hu];exact Um qi.out
    have zK:=Hn.len;obtain ⟨Y,hY⟩ : ∃ Y,Y=X.alloc (.cells (aT u.n u.d u.z) 193):=⟨_,rfl⟩;have UF:Below X.heap.size X Y:=by rw [hY];exact (Below.refl _ _).alloc (Nat.le_refl _) _
    have hYr:Y.heap[X.heap.size]? = some (.cells (aT u.n u.d u.z) 193 (0,0)):=by rw [hY];exact heap_alloc_new _ _
    have HYX:=aa ((UF.block _ (ax e8.out)).trans e8.out);have HYR:=aa hYr;have HY:=aa hY;have UG:=aa (j7.out.trans ((nI.out.mono j7.out.size).trans (UF.mono (Nat.le_trans j7.out.size nI.out.size))));have M0:=aa (show Y.ranges Tryz.prog 9 fG b1 w.heap.size l.length (tD l) (fun z=>left z && !z.sameKey (bk t.n)) cnt1 from by
     rw [HY.out];have:=vS.out.alloc (.cells (aT t.n t.d t.z) 193);rw [<- HX.out] at this;exact this.alloc _)
    have M3:=aa Hn;have HU:=aa hu;clear Hn UF hYr hY hu
    cases hf:aQ TE.n t.n m with
    | none =>
     have hsome:(aQ TE.n t.n m).isSome=false:=by rw [hf];rfl
     have vF:¬ l=m:=fun e=>tL hf t (by rw [<- e];exact AY.out) rfl
     have MZ:=aa vF;clear vF hf;go_wp2_with (first|(refine wpList_store_row rfl 193 _ _ rfl w3.heap.size _ rfl rfl 193 _ (heap_alloc_new _ _) (gW _ _ _ je) (by rw [eh _ _ _ je,eh _ _ _ (Sha.af _)]) (Array.all_eq_true_iff_forall_mem.2 fun u hu=>mj _ _ _ u (by simpa using hu)) ?_;rw [World.setRow_alloc_new,<- HX.out])|(refine PH rfl _ _ rfl b2 m rfl UE.out t.n rfl (by omega) ?_;rw [hsome,<- HU.out])|(refine wpList_store_row rfl 193 _ _ rfl X.heap.size _ rfl rfl 193 _ (heap_alloc_new _ _) (gW _ _ _ zK) (by rw [eh _ _ _ zK,eh _ _ _ (Sha.af _)]) (Array.all_eq_true_iff_forall_mem.2 fun u hu=>mj _ _ _ u (by simpa using hu)) ?_;rw [World.setRow_alloc_new,<- HY.out]));go_ret;exact ⟨by rw [decide_eq_false MZ.out];rfl,UG.out⟩
    | some u' =>
     have hsome:(aQ TE.n t.n m).isSome=true:=by rw [hf];rfl
     have PY:u=u':=by rw [HU.out];unfold wo;rw [hf];rfl
     by_cases JL:t=u
     ·have hne:(!decide (t=u))=false:=by rw [decide_eq_true JL];rfl
      have oO:=aa (show t∈m by rw [JL,PY];exact (tT hf).1);clear hf PY JL;go_wp2_with (first|(refine wpList_store_row rfl 193 _ _ rfl w3.heap.size _ rfl rfl 193 _ (heap_alloc_new _ _) (gW _ _ _ je) (by rw [eh _ _ _ je,eh _ _ _ (Sha.af _)]) (Array.all_eq_true_iff_forall_mem.2 fun u hu=>mj _ _ _ u (by simpa using hu)) ?_;rw [World.setRow_alloc_new,<- HX.out])|(refine PH rfl _ _ rfl b2 m rfl UE.out t.n rfl (by omega) ?_;rw [hsome,<- HU.out])|(refine wpList_store_row rfl 193 _ _ rfl X.heap.size _ rfl rfl 193 _ (heap_alloc_new _ _) (gW _ _ _ zK) (by rw [eh _ _ _ zK,eh _ _ _ (Sha.af _)]) (Array.all_eq_true_iff_forall_mem.2 fun u hu=>mj _ _ _ u (by simpa using hu)) ?_;rw [World.setRow_alloc_new,<- HY.out])|(refine PX rfl 193 _ rfl w3.heap.size rfl 193 _ _ _ HYX.out Tryz.underlying193 rfl (gW _ _ _ je) ?_)|(refine PX rfl 193 _ rfl X.heap.size rfl 193 _ _ _ HYR.out Tryz.underlying193 rfl (gW _ _ _ zK) ?_)|(refine Qfg rfl _ _ _ rfl t u vJ.out M3.out rfl rfl ?_;rw [hne]));refine ⟨⟨_,cnt1,M0.out,UG.out,fun kl h=>zL.out kl (by simp at h;exact h.1),fun t' Mz hl'=>?_⟩,?_⟩
      ·by_cases hn:t'.n=t.n
       ·rw [Eu ki.out Mz AY.out hn];exact oO.out
       ·refine kZ.out t' Mz ?_;rw [rW,decide_eq_false hn] at hl';simpa using hl'
      ·rw [M0.out.left_eq,iu.out.left_eq];exact pB.out
     ·have hne:(!decide (t=u))=true:=by rw [decide_eq_false JL];rfl
      have vF:¬ l=m:=fun e=>JL (by
       have h1:=lD fL.out (show t∈m by rw [<- e];exact AY.out);rw [hf] at h1;injection h1 with h1
       rw [PY,h1])
      have MZ:=aa vF;clear hf PY JL vF;go_wp2_with (first|(refine wpList_store_row rfl 193 _ _ rfl w3.heap.size _ rfl rfl 193 _ (heap_alloc_new _ _) (gW _ _ _ je) (by rw [eh _ _ _ je,eh _ _ _ (Sha.af _)]) (Array.all_eq_true_iff_forall_mem.2 fun u hu=>mj _ _ _ u (by simpa using hu)) ?_;rw [World.setRow_alloc_new,<- HX.out])|(refine PH rfl _ _ rfl b2 m rfl UE.out t.n rfl (by omega) ?_;rw [hsome,<- HU.out])|(refine wpList_store_row rfl 193 _ _ rfl X.heap.size _ rfl rfl 193 _ (heap_alloc_new _ _) (gW _ _ _ zK) (by rw [eh _ _ _ zK,eh _ _ _ (Sha.af _)]) (Array.all_eq_true_iff_forall_mem.2 fun u hu=>mj _ _ _ u (by simpa using hu)) ?_;rw [World.setRow_alloc_new,<- HY.out])|(refine PX rfl 193 _ rfl w3.heap.size rfl 193 _ _ _ HYX.out Tryz.underlying193 rfl (gW _ _ _ je) ?_)|(refine PX rfl 193 _ rfl X.heap.size rfl 193 _ _ _ HYR.out Tryz.underlying193 rfl (gW _ _ _ zK) ?_)|(refine Qfg rfl _ _ _ rfl t u vJ.out M3.out rfl rfl ?_;rw [hne]));go_ret;exact ⟨by rw [decide_eq_false MZ.out];rfl,UG.out⟩
 ·have hne:¬ l=m:=fun e=>hlen (by rw [e])
  rw [decide_eq_false hne];exact (QkW b1 b2 l.length m.length (tD l) (tD m) w h1 h2 (by rw [JH,JH];exact hlen)).mono fun e w' ⟨he,hw⟩=>⟨he,by rw [hw];exact Below.refl _ _⟩
end Go.Proofs.YtncigfibncmioaaGreatDoor
namespace Go.Proofs.YtncigfibncmioaaGreatDoor
open Go.RowKit
theorem aI.pJ {W W':World} {sb:Nat} {s:ai} {cb tb nc nt n':Nat} {Dc Dt D':DataW Value} (h:aI W sb s cb tb nc nt Dc Dt) (hg:W.grownBy W' (some cb)) (hc:CM W' cb n' D'):aI W' sb s cb tb n' nt D' Dt:=by
 have hne:∀ {k:Nat},k≠cb->k<W.heap.size->W'.heap[k]? = W.heap[k]?:=fun hk hl=>hg.block _ hl (fun e=>hk (by injection e))
 refine ⟨h.ay.same (fun k hk=>hne (fun e=>h.sk (e ▸ hk)) (h.ay.lt hk)),h.gl.same hg.size (fun k hk=>hne (fun e=>h.rJ (e ▸ hk)) (h.gl.lt hk)),h.low,(hne (fun e=>?_) (ax h.blk)).trans h.blk,hc,jP h.tm (hne (fun e=>h.ne e.symm) h.tm.lt),h.sk,h.sq,h.rJ,h.vq,h.rK,h.ne⟩;obtain ⟨es,clock,h1,_⟩:=h.cm;rw [<- e,h.blk] at h1
 cases h1
def qg (Dc:DataW Value) (ds:List Nat):DataW Value:=Dc.put (dy ds) (.held (.agg #[]))
theorem aI.far {W W':World} {sb:Nat} {s:ai} {cb tb nc nt r:Nat} {Dc Dt:DataW Value} {cur:Array Value} (h:aI W sb s cb tb nc nt Dc Dt) (hsz:W.heap.size<=W'.heap.size) (hr:W.heap[r]? = some (.cells cur 117 (0,0))) (hG:¬ gj r) (hs:∀ k,k≠r->W'.heap[k]? = W.heap[k]?):aI W' sb s cb tb nc nt Dc Dt:=by
 have hne:∀ {x n:Nat} {k:TypeId} {D:DataW Value},W.ownsMap Tryz.prog k fG x n D->x≠r:=by
  rintro x n k D ⟨es,clock,h1,_⟩ rfl;rw [hr] at h1
  cases h1
 refine ⟨h.ay.same (fun k hk=>hs k (fun e=>?_)),h.gl.same hsz (fun k hk=>hs k (fun e=>hG (e ▸ hk))),h.low,(hs sb (ja h.blk hr (by decide))).trans h.blk,jP h.cm (hs _ (hne h.cm)),jP h.tm (hs _ (hne h.tm)),h.sk,h.sq,h.rJ,h.vq,h.rK,h.ne⟩;subst e
 rcases h.ay.typed hk hr with h3|h3|h3|h3<;>exact absurd h3 (by decide)
theorem bR.far {W W':World} {ev:Value} {k:Int} {r:Nat} {cur:Array Value} (h:bR W ev k) (hr:W.heap[r]? = some (.cells cur 117 (0,0))) (hs:∀ k,k≠r->W'.heap[k]? = W.heap[k]?):bR W' ev k:=by
 rcases h with h|⟨h0,sv,nm,h1,h2⟩
 ·exact .inl h
 ·exact .inr ⟨h0,sv,nm,h1,(hs _ (ja h2 hr (by decide))).trans h2⟩
theorem M7 {w:World} {r:Nat} {zs:List Nat} (hr:w.heap[r]? = some (.cells (ah zs) 117 (0,0))) (hz:zs.length=32) (ds:List Nat) (aJ:ds.length=32):w.there r 0 (ah ds).toList.length:=by
 intro j hj;rw [Array.length_toList,aY,aJ] at hj;refine ⟨?_,frozen_of_row w r _ _ _ hr⟩;rw [cell_of_row w r (0+j) _ _ _ hr,Array.getElem?_eq_getElem (by rw [aY,hz];omega)];rfl
theorem Qph {w:World} {r:Nat} {zs:List Nat} (hr:w.heap[r]? = some (.cells (ah zs) 117 (0,0))) (hz:zs.length=32) (ds:List Nat) (aJ:ds.length=32):(w.setCells r 0 (ah ds).toList).heap[r]? = some (.cells (ah ds) 117 (0,0)):=by
 have hl:(ah ds).toList.length=32:=by rw [Array.length_toList,aY,aJ]
 have hs:(ah zs).size=32:=by rw [aY,hz]
 obtain ⟨cur',h1,h2,h3,h4,h5⟩:=KO r 117 (ah ds).toList 0 w _ hr (by omega);rw [h1];have hc:cur'=ah ds:=by
  apply Array.ext_getElem?;intro j
  rcases Nat.lt_or_ge j 32 with hj|hj
  ·have:=h4 j (by omega);rw [Nat.zero_add] at this;rw [this];simp
  ·rw [h5 j (by omega),Array.getElem?_eq_none (by omega),Array.getElem?_eq_none (by rw [aY,aJ];omega)]
 rw [hc]
def ak (b:ByteArray):List Nat:=Sha.digest (Sha.state b.data.toList)
theorem E8 (b:ByteArray):(ak b).length=32:=Sha.bm _ _
theorem Dr (b:ByteArray):∀ i,(ak b).getD i 0<256:=fun i=>Sha.jV _ _ i
end Go.Proofs.YtncigfibncmioaaGreatDoor
namespace Go.Proofs.YtncigfibncmioaaGreatDoor
open Go.RowKit
theorem Tryz.zZ (w:World):(zeroValue 100).run Tryz.prog w = .ok (.agg #[]) w:=by kernel_rfl
def xE (D:DataW Value):Prop:=∀ kl v,D.atKey kl (.held (.agg #[])) = .held v->v = .agg #[]
theorem Xj (sb:Nat) (s:ai) (cb tb nc nt:Nat) (Dc Dt:DataW Value) (ds:List Nat) (w:World) (h:aI w sb s cb tb nc nt Dc Dt) (hu:xE Dc) (aJ:ds.length=32) (hlt:∀ i,ds.getD i 0<256) :
  Calls Tryz.prog 110 #[.pointer (some ⟨sb,0,none⟩),.agg (ah ds)] w fun e w'=>e = .returned (.bool (Maps.has Dc (dy ds)))/\Below w.heap.size w w':=by
 have bh:Below w.heap.size w (w.alloc (.cells (ah ds) 117)):=(Below.refl _ _).alloc (Nat.le_refl _) _;have hrow:(w.alloc (.cells (ah ds) 117)).heap[w.heap.size]? = some (.cells (ah ds) 117 (0,0)):=heap_alloc_new _ _;obtain ⟨W,hW⟩ : ∃ W,W=w.alloc (.cells (ah ds) 117):=⟨_,rfl⟩;rw [<- hW] at bh hrow;have hst:=h.later bh;have aA:=aa hrow;have HW:=aa hW;have cI:=aa bh;have HST:=aa hst;clear h hst hW bh hrow;go_enter Tryz.func110,Tryz.ntmps110;go_upto_region 1 with fail
 rw [<- HW.out];have hdr:Below W.heap.size W W.drew:=(Below.refl _ _).drew;have h6:=HST.out.later hdr;have bA:W.drew.cell? ⟨sb,1,none⟩=some (.map (some cb))/\W.drew.rangeAt w.heap.size 0 (ah ds).toList:=⟨cell_of_row _ _ 1 _ _ _ h6.blk,eF ((hdr.block _ (ax aA.out)).trans aA.out)⟩;obtain ⟨v,ps,hrun,hv⟩:=World.ownsMap.look_ok h6.cm rY Tryz.underlying156 (Tryz.zZ _) (show fG (.agg #[])=some (.held (.agg #[]),[]) from rfl) (EB ds aJ hlt);have hv2:v = .agg #[]:=hu (dy ds) v (by
  unfold fG at hv;injection hv with hv
  injection hv with hv
  exact hv.symm)
 subst hv2;have u72:=Tryz.underlying117;have i72:=jl ds aJ;have Ip:Below W.heap.size W (W.alloc (.cells #[] 100)).drew:=((Below.refl _ _).alloc (Nat.le_refl _) _).drew;have h7:=HST.out.later Ip;have hS1:(W.alloc (.cells #[] 100)).drew.cell? ⟨sb,1,none⟩=some (.map (some cb))/\(W.alloc (.cells #[] 100)).drew.rangeAt w.heap.size 0 (ah ds).toList:=⟨cell_of_row _ _ 1 _ _ _ h7.blk,eF ((Ip.block _ (ax aA.out)).trans aA.out)⟩;obtain ⟨v,ps,aab,vn⟩:=World.ownsMap.look_ok h7.cm rY Tryz.underlying156 (Tryz.zZ _) (show fG (.agg #[])=some (.held (.agg #[]),[]) from rfl) (EB ds aJ hlt);have hv2:v = .agg #[]:=hu (dy ds) v (by
  unfold fG at vn;injection vn with vn
  injection vn with vn
  exact vn.symm)
 subst hv2;clear h6 h7 hv vn
 go_region_held3 (fun w'=>w'.cell? ⟨sb,1,none⟩=some (.map (some cb))/\w'.rangeAt w.heap.size 0 (ah ds).toList) (first|exact bA|exact hS1|go_keep) (fail)
 all_goals
  go_wp2_with fail;go_ret;exact ⟨rfl,cI.out.trans (Ip.mono cI.out.size)⟩
open Go.RowKit
theorem bR.later {w w':World} {ev:Value} {k:Int} (h:bR w ev k) (hb:Below w.heap.size w w'):bR w' ev k:=by
 rcases h with h|⟨h0,sv,nm,h1,h2⟩
 ·exact .inl h
 ·exact .inr ⟨h0,sv,nm,h1,(hb.block _ (ax h2)).trans h2⟩
theorem Xo (ds:List Nat) (ev:Value) (k:Int) (w:World) (cj:bR w ev k) (hg:Gl w) (aJ:ds.length=32) (hlt:∀ i,ds.getD i 0<256) :
  Calls Tryz.prog 61 #[.agg (ah ds),ev] w fun e w'=>e = .returned (.tuple #[.string (if k=0 then fV ds else ⟨#[]⟩),.int .i64 k])/\Below w.heap.size w w':=by
 have bh:Below w.heap.size w (w.alloc (.cells (ah ds) 117)):=(Below.refl _ _).alloc (Nat.le_refl _) _;have hrow:(w.alloc (.cells (ah ds) 117)).heap[w.heap.size]? = some (.cells (ah ds) 117 (0,0)):=heap_alloc_new _ _;obtain ⟨W,hW⟩ : ∃ W,W=w.alloc (.cells (ah ds) 117):=⟨_,rfl⟩;rw [<- hW] at bh hrow;have wJ:=aa (IW (cj.later bh) (hg.later bh).err);have IQ:=aa (IU ds W aJ hlt);have aA:=aa hrow;have HW:=aa hW;have cI:=aa bh;clear hg hW bh hrow
 rcases cj with ⟨rfl,rfl⟩|⟨bu,sv,nm,rfl,dw⟩
 ·go_enter Tryz.func61,Tryz.ntmps61;go_upto_region 1 with fail
  rw [<- HW.out];go_wp2_with (refine wpList_load_row rfl 117 _ rfl w.heap.size rfl 117 _ _ _ aA.out Tryz.underlying117 rfl (bL _ aJ) ?_);refine (IQ.out).mono ?_;rintro _ w1 ⟨rfl,hb1⟩;dsimp only;have br:=aa hb1;clear hb1 IQ wJ;go_wp2_with fail;refine bodyPost_ret (results_tmp2 rfl _ _ _) rfl ?_;exact ⟨rfl,cI.out.trans (br.out.mono cI.out.size)⟩
 ·have gB:=aa dw;clear dw;go_enter Tryz.func61,Tryz.ntmps61;go_upto_region 1 with fail
  rw [<- HW.out];go_wp2_with fail;refine (wJ.out).mono ?_;rintro _ w1 ⟨rfl,hb1⟩;dsimp only;have br:=aa hb1;clear hb1 IQ wJ;go_wp2_with fail;refine bodyPost_ret (results_tmp2 rfl _ _ _) rfl ?_;exact ⟨rfl,cI.out.trans (br.out.mono cI.out.size)⟩
end Go.Proofs.YtncigfibncmioaaGreatDoor
