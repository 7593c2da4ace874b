/-
  PROVED HERE: in which shape a crash leaves a store's disk that broke in the midst of a change, a Delete, a Prune; no walk.
-/
import Derived.Test.YtncigfibncmioaaGreatDoorSaAsk
set_option maxHeartbeats 4000000
set_option maxRecDepth 100000
namespace Go.Proofs.YtncigfibncmioaaGreatDoor
open Go.RowKit
def mY:List FF:=[⟨p0,⟨#[]⟩,1⟩]
theorem Qu6 {D:DS} {r:Int} {B:Nat} (h:Wh D mY r B):False:=by
 obtain ⟨g,hg,h1,h2⟩:=h.find (x:=⟨p0,⟨#[]⟩,1⟩) (by simp [mY]);have h3:=(h.dS g (h.ay _ (r6 hg))).2.2;rw [h1,h2] at h3;exact absurd h3 (by decide)
theorem QM {n:Nat} {A A':aN}:cA n A A' mY:=fun F' h=>by
 match F',h with
 | [b],h =>
  obtain ⟨⟨_,n,h2,h3,_⟩,_⟩:=h;have h2:(1:Int)<=(n:Int):=h2;have h3:n<=0:=h3;omega
 | _::_::_,h=>exact h.2.elim
theorem QrZ {r:Int} {B:Nat} {t:bU} {F:List FF}:Mv r B mY t F:=fun _ _ _ h _=>(Qu6 h).elim
theorem Qpw {n:Nat} {A A':aN} {r:Int} {B:Nat}:∀ l,uj (cA n A A') r B mY l
 | []=>QM
 | _::l=>⟨QM,mY,QrZ,Qpw l⟩
theorem QN {n:Nat} {A A':aN} {r:Int} {B:Nat} {tb:Nat->List bU}:∀ l i,z8 (cA n A A') r B tb i mY l
 | [],_=>QM
 | _::l,i=>⟨QM,fun _=>Qpw _,mY,QrZ,QN l (i+1)⟩
theorem Mv.full {r:Int} {B:Nat} {F G:List FF} {p dt:ByteArray} (hp:aK p=true) (hf:aQ FF.p p F=none) (hB:dt.size<=B) (hr:r<(dZ F:Int)+(dt.size:Int)):Mv r B F (oB p dt) G:=fun D D' k h hs=>by
 rcases h.ap hs hp hf hB with ⟨h1,_⟩|⟨_,h2,h3⟩
 ·omega
 ·exact .inr ⟨rfl,h2,h3⟩
theorem Qpx {c b:ByteArray} (hc:aK c=true):∀ t∈jq [(c,b)],pj t=true:=by
 rw [P9];have h0:=kA;intro t ht;simp only [List.mem_cons,List.not_mem_nil,or_false] at ht
 rcases ht with rfl|rfl|rfl|rfl
 ·exact h0
 ·exact h0
 ·show (aK p0 && aK c)=true;rw [h0,hc];rfl
 ·rfl
theorem Qu7 (c b q X:ByteArray):jq [(c,b),(q,X)] = [oB p0 b,oB p1 X,oC p0,oC p1,gv p0 c,gv p1 q,gQ]:=by
 rw [<- BJ,<- vB];rfl
theorem Qpy {c b q X:ByteArray} (hc:aK c=true) (hq:aK q=true):∀ t∈jq [(c,b),(q,X)],pj t=true:=by
 rw [Qu7];have h0:=kA;have h1:=pM;intro t ht;simp only [List.mem_cons,List.not_mem_nil,or_false] at ht
 rcases ht with rfl|rfl|rfl|rfl|rfl|rfl|rfl
 ·exact h0
 ·exact h1
 ·exact h0
 ·exact h1
 ·show (aK p0 && aK c)=true;rw [h0,hc];rfl
 ·show (aK p1 && aK q)=true;rw [h1,hq];rfl
 ·rfl
section
variable {n:Nat} {D D':DS} {A A':aN} {r k:Int} {c b q X:ByteArray}
theorem Ql5 (h:dY (aH D) (fA A) r 2000) (hc:aK c=true) (zb:p0≠c) (hB:b.size<=2000) (hA':ag FF.p (ff c b) (fA A)=fA A') (hw:gK D [(c,b)] k D'):Gd (cA n A (if (dD A:Int)+(b.size:Int)<=r then A' else A)) r 2000 (aH D'):=by
 have hr:=h.wh.ei
 by_cases hroom:(dD A:Int)+(b.size:Int)<=r
 ·rw [if_pos hroom];exact QO (by simp) (Qpx hc) h cA.rest (QtP hr (uV A) hc zb hB cA.rest cA.one cA.one (by rw [hA'];exact cA.rG)) hw
 ·rw [if_neg hroom];refine QO (by simp) (Qpx hc) h cA.rest ?_ hw;rw [P9];exact ⟨cA.rest,fun _=>cA.rest,mY,Mv.full kA (uV A) hB (by show r<(dD A:Int)+_;omega),QN _ _⟩
theorem Qri {l':List TE} (h:dY (aH D) (fA A) r 2000) (hc:aK c=true) (hc0:p0≠c) (hc1:p1≠c) (hB:b.size<=2000) (hX:(aL l').size<=2000) (hA1:ag FF.p (ff c b) (fA A)=fA ⟨A'.cs,A.tg⟩) (hA':ag FF.p (ff bB (aL l')) (fA ⟨A'.cs,A.tg⟩)=fA A') (PR:A'.tg=l') (hw:gK D [(c,b),(bB,aL l')] k D') :
  Gd (cA n A (if (dD A:Int)+((b.size+(aL l').size:Nat):Int)<=r then A' else A)) r 2000 (aH D'):=by
 have hr:=h.wh.ei;have r9:p0≠p1:=by decide
 by_cases hroom:(dD A:Int)+((b.size+(aL l').size:Nat):Int)<=r
 ·rw [if_pos hroom];refine QO (by simp) (Qpy hc uW) h cA.rest (QtQ hr (uV A) (xj A) hc uW hc0 hc1 (by decide) hB hX cA.rest cA.one (fun y z hz=>cA.two (by rcases hz with e|e<;>omega)) ?_ ?_) hw
  ·rw [hA1];exact cA.Aa PR
  ·rw [hA1,hA'];exact cA.rG
 ·rw [if_neg hroom];refine QO (by simp) (Qpy hc uW) h cA.rest ?_ hw;rw [Qu7]
  by_cases h1:(dD A:Int)+(b.size:Int)<=r
  ·have jF:aQ FF.p p1 (ag FF.p ⟨p0,b,0⟩ (fA A))=none:=by
    rw [fw _ _ hr,if_neg (fun e=>r9 e.symm)];exact xj A
   have qV:dZ (ag FF.p ⟨p0,b,0⟩ (fA A))=dZ (fA A)+b.size:=QlT hr (uV A);refine ⟨cA.rest,fun _=>cA.rest,_,Mv.ap kA (uV A) hB,cA.one,fun _=>?_,mY,Mv.full pM jF hX (by rw [qV];have e:dD A=dZ (fA A):=rfl;omega),QN _ _⟩;show uj _ r 2000 _ (tV 1);rw [Qa];exact ⟨cA.one,fA A,(Mv.rm (x:=⟨p0,b,0⟩) kA (ot hr _)).eq (Ba (x:=⟨p0,b,0⟩) hr (uV A)),cA.rest,_,Mv.sd,cA.rest⟩
  ·exact ⟨cA.rest,fun _=>cA.rest,mY,Mv.full kA (uV A) hB (by show r<(dD A:Int)+_;omega),QN _ _⟩
end
theorem Qrj {n:Nat} {D D':DS} {A:aN} {r k:Int} (h:dY (aH D) (fA A) r 2000) (g:aG A) (hs:(dD A:Int)<=r) (nb:Option ByteArray) (tM:∀ b,nb=some b->b.size<=300) (l':List TE) (aF:∀ t∈l',t.Ok) (h8:l'.length<=8) (hw:gK D (ng (AO nb) A.tg l') k D') :
  Gd (cA n A (if (dD A:Int)+((jz nb+iy A.tg l':Nat):Int)<=r then ⟨ia A.cs nb,l'⟩ else A)) r 2000 (aH D'):=by
 have hX:=vZ aF h8;have e1:∀ b,aK (kC b)=true:=fun b=>yl _
 have n0:p0≠bB:=by decide
 unfold ng at hw;unfold iy
 cases nb with
 | none =>
  by_cases hl:l'=A.tg
  ·rw [if_pos hl] at hw ⊢;subst hl;have hw:gK D [] k D':=hw;unfold gK at hw;rw [if_pos rfl] at hw;rw [hw.2,if_pos (by show (dD A:Int)+((0+0:Nat):Int)<=r;omega)];exact ⟨h.hi cA.rest,_,h.wh,cA.rest⟩
  ·rw [if_neg hl] at hw ⊢;have:=Ql5 (n:=n) (A':=⟨A.cs,l'⟩) h uW n0 hX (Mq g.rise l') hw;have e:((jz none+(aL l').size:Nat):Int)=((aL l').size:Int):=by show ((0+(aL l').size:Nat):Int)=_;omega
   rw [e];exact this
 | some b =>
  have hb3:=tM b rfl
  by_cases hl:l'=A.tg
  ·rw [if_pos hl] at hw ⊢;subst hl;have:=Ql5 (n:=n) (A':=⟨ag kC b A.cs,A.tg⟩) h (e1 b) (Mn b) (by omega) (Pv g.rise b) hw;have e:((jz (some b)+0:Nat):Int)=(b.size:Int):=by show ((b.size+0:Nat):Int)=_;omega
   rw [e];exact this
  ·rw [if_neg hl] at hw ⊢;exact Qri (A':=⟨ag kC b A.cs,l'⟩) h (e1 b) (Mn b) (Ps b) (by omega) hX (Pv g.rise b) (Mq (A:=⟨ag kC b A.cs,A.tg⟩) (eA b g.rise) l') rfl hw
theorem Qrk {n:Nat} {D D':DS} {A:aN} {r k:Int} {m:Nat} {b:ByteArray} (h:dY (aH D) (fA A) r 2000) (g:aG A) (hb:b∈A.cs) (hr:bM D [fM (kC b),gQ] k m D'):k=0/\Gd (cA n A ⟨aB kC (kC b) A.cs,A.tg⟩) r 2000 (aH D'):=by
 have hx:fC b∈fA A:=by unfold fA;exact List.mem_append.2 (.inl (List.mem_map_of_mem hb))
 have hp:aK (kC b)=true:=yl _;refine Ql7 (l:=[fM (kC b),gQ]) (F:=fA A) (fun t ht=>?_) (fun t ht=>?_) h.wh (h.hi cA.rest) ⟨cA.rest,fA ⟨aB kC (kC b) A.cs,A.tg⟩,(Mv.rm (x:=fC b) hp hx).eq (TU g.rise b),cA.rG,_,Mv.sd,cA.rG⟩ hr
 ·simp only [List.mem_cons,List.not_mem_nil,or_false] at ht
  rcases ht with rfl|rfl
  ·show (2:Nat)≠0;decide
  ·decide
 ·simp only [List.mem_cons,List.not_mem_nil,or_false] at ht
  rcases ht with rfl|rfl
  ·exact hp
  ·rfl
def lH (cs:List ByteArray) (tg:List TE):List FF:=ag FF.p (ff cS ⟨#[]⟩) (aB FF.p bo (fA ⟨cs,tg⟩))
theorem JY {cs:List ByteArray} {tg:List TE} (h:aq kC cs):aq FF.p (aB FF.p bo (fA ⟨cs,tg⟩)):=iT _ (pG (A:=⟨cs,tg⟩) h)
theorem Qty {cs:List ByteArray} {tg:List TE} (h:aq kC cs) (b:ByteArray):aB FF.p (kC b) (lH cs tg)=lH (aB kC (kC b) cs) tg:=by
 unfold lH;rw [Qmi (JY h) (show (ff cS ⟨#[]⟩).p≠kC b from Ne.symm (TY b))];congr 1;rw [<- show aB FF.p (kC b) (fA ⟨cs,tg⟩)=fA ⟨aB kC (kC b) cs,tg⟩ from TU (A:=⟨cs,tg⟩) h b];unfold aB;rw [List.filter_filter,List.filter_filter];refine List.filter_congr fun x _=>?_
 rw [Bool.and_comm]
theorem Qu8 {cs:List ByteArray} {tg:List TE} (h:aq kC cs) {b:ByteArray} (hb:b∈cs):fC b∈lH cs tg:=by
 refine CY (JY h) (U2 (show fC b∈fA ⟨cs,tg⟩ from ?_) (Pr b)) (TY b);unfold fA;exact List.mem_append.2 (.inl (List.mem_map_of_mem hb))
theorem Qtz {cs:List ByteArray} {tg:List TE} (h:aq kC cs):ag FF.p (ff bo ⟨#[]⟩) (aB FF.p cS (lH cs tg))=fA ⟨cs,tg⟩:=by
 have hr:=pG (A:=⟨cs,tg⟩) h;have hj:(ff bo ⟨#[]⟩)∈fA ⟨cs,tg⟩:=by unfold fA oL;simp
 unfold lH;have hp:aQ FF.p cS (aB FF.p bo (fA ⟨cs,tg⟩))=none:=by
  rw [qX]
  split
  ·rfl
  ·exact AQ _
 rw [show aB FF.p cS (ag FF.p (ff cS ⟨#[]⟩) (aB FF.p bo (fA ⟨cs,tg⟩)))=aB FF.p bo (fA ⟨cs,tg⟩) from Ba (x:=ff cS ⟨#[]⟩) (JY h) hp];refine rZ (eA _ (iT _ hr)) hr (fun n=>?_);rw [fw _ _ (iT _ hr),qX]
 by_cases hn:n=bo
 ·subst hn;have h2:=lD hr hj;rw [show (ff bo ⟨#[]⟩).p=bo from rfl] at h2;rw [h2];simp [ff]
 ·simp [ff,hn]
theorem QP {P:List FF->Prop} {r:Int} {B:Nat} {tg:List TE}:∀ (ul:List DV) (cs:List ByteArray),aq kC cs->(∀ cs',aq kC cs'->cs'.length<=cs.length->cs'.filter (fun b=>bD (ak b) tg)=cs.filter (fun b=>bD (ak b) tg)->P (lH cs' tg))->P (fA ⟨cs.filter (fun b=>bD (ak b) tg),tg⟩)->ul.Nodup->(∀ d∈ul,bD d.1 tg=false/\∃ b∈cs,d.1=ak b)->(∀ b∈cs,bD (ak b) tg=false->∃ d∈ul,d.1=ak b) ->
  xv P r B (lH cs tg) (oN ul ++ [gv cS bo,gQ]) (fA ⟨cs.filter (fun b=>bD (ak b) tg),tg⟩)
 | [],cs,hr,hP,hE,_,_,hend=>by
  have hall:cs.filter (fun b=>bD (ak b) tg)=cs:=List.filter_eq_self.2 fun b hb=>by
   cases ht:bD (ak b) tg with
   | true=>rfl
   | false =>
    obtain ⟨d,hd,_⟩:=hend b hb ht
    cases hd
  have hP0:=hP cs hr (Nat.le_refl _) rfl;rw [hall] at hE ⊢;exact ⟨hP0,fA ⟨cs,tg⟩,(Mv.rn (p:=cS) (q:=bo) (t:=⟨#[]⟩) (y:=((⟨#[]⟩ : ByteArray).size:Int)) (by decide) (by decide) (by decide) (ot (JY hr) (ff cS ⟨#[]⟩))).eq (Qtz hr),hE,_,Mv.sd,hE,rfl⟩
 | d::ul,cs,hr,hP,hE,hn,JM,hend=>by
  obtain ⟨n1,n2⟩:=List.nodup_cons.1 hn;obtain ⟨ht,b,hb,hd⟩:=JM d (by simp);have hkb:bW d.1=kC b:=by unfold kC;rw [hd]
  have th:(aB kC (kC b) cs).filter (fun b=>bD (ak b) tg)=cs.filter (fun b=>bD (ak b) tg):=by
   unfold aB;rw [List.filter_filter];refine List.filter_congr fun x _=>?_
   by_cases hx:kC x=kC b
   ·have e:ak x=d.1:=(Mj hx).trans hd.symm;rw [e,ht];rfl
   ·simp [hx]
  have ih:=QP (r:=r) (B:=B) ul (aB kC (kC b) cs) (iT _ hr) (fun cs' h1 h2 h3=>hP cs' h1 (Nat.le_trans h2 (Jz _ _)) (h3.trans th)) (by rw [th];exact hE) n2 (fun e he=>by
   obtain ⟨a1,y,hy,a2⟩:=JM e (by simp [he]);refine ⟨a1,y,jA.2 ⟨hy,fun e2=>n1 ?_⟩,a2⟩;have e3:e=d:=Subtype.ext (a2.trans ((Mj e2).trans hd.symm));rw [<- e3];exact he) (fun x hx hxt=>by
   obtain ⟨x1,x2⟩:=jA.1 hx;obtain ⟨e,he,a2⟩:=hend x x1 hxt
   rcases List.mem_cons.1 he with rfl|he
   ·exact absurd (by unfold kC;rw [<- a2,hd]) x2
   ·exact ⟨e,he,a2⟩)
  rw [th] at ih;refine ⟨hP cs hr (Nat.le_refl _) rfl,lH (aB kC (kC b) cs) tg,?_,ih⟩;show Mv r B (lH cs tg) (fM (bW d.1)) _;rw [hkb];exact (Mv.rm (x:=fC b) (yl _) (Qu8 hr hb)).eq (Qty hr b)
theorem V6 {cs:List ByteArray} {tg:List TE} (h:aq kC cs):(dp tg (cs.map nz)).Nodup/\(∀ d∈dp tg (cs.map nz),bD d.1 tg=false/\∃ b∈cs,d.1=ak b)/\∀ b∈cs,bD (ak b) tg=false->∃ d∈dp tg (cs.map nz),d.1=ak b:=by
 refine ⟨(QlC (A:=⟨cs,tg⟩) h).sublist List.filter_sublist,fun d hd=>?_,fun b hb ht=>?_⟩
 ·obtain ⟨d1,d2⟩:=List.mem_filter.1 hd;exact ⟨by simpa using d2,(AL (A:=⟨cs,tg⟩)).1 d1⟩
 ·exact ⟨nz b,List.mem_filter.2 ⟨(AL (A:=⟨cs,tg⟩)).2 ⟨b,hb,tJ b⟩,by rw [tJ,ht];rfl⟩,tJ b⟩
theorem V7 (ul:List DV):(∀ t∈mQ ul,t.k≠0)/\∀ t∈mQ ul,pj t=true:=by
 have Hu:aK bo=true:=by decide
 have dV:aK cS=true:=by decide
 refine ⟨fun t ht=>?_,fun t ht=>?_⟩
 ·simp only [mQ,oN,List.mem_append,List.mem_cons,List.mem_map,List.not_mem_nil,or_false] at ht
  rcases ht with ⟨d,_,rfl⟩|rfl|rfl
  ·show (2:Nat)≠0;decide
  ·show (3:Nat)≠0;decide
  ·decide
 ·simp only [mQ,oN,List.mem_append,List.mem_cons,List.mem_map,List.not_mem_nil,or_false] at ht
  rcases ht with ⟨d,_,rfl⟩|rfl|rfl
  ·exact yl _
  ·show (aK cS && aK bo)=true;rw [Hu,dV];rfl
  ·rfl
theorem Qnb {n:Nat} {D D':DS} {A:aN} {r k:Int} {m:Nat} (h:dY (aH D) (fA A) r 2000) (g:aG A) (Nd:A.cs.length<=n) (hr:bM D (Dp (dp A.tg (iw A))) k m D'):k=0/\Gd (cA n A ⟨nX A,A.tg⟩) r 2000 (aH D'):=by
 have Hu:aK bo=true:=by decide
 have dV:aK cS=true:=by decide
 have hj:(⟨bo,⟨#[]⟩,((⟨#[]⟩ : ByteArray).size:Int)⟩ : FF)∈fA A:=by unfold fA oL;simp [ff]
 obtain ⟨u1,u2,u3⟩:=V6 (tg:=A.tg) g.rise;obtain ⟨o1,o2⟩:=V7 (dp A.tg (iw A));refine Ql7 (l:=Dp (dp A.tg (iw A))) (F:=fA A) (fun t ht=>?_) (fun t ht=>?_) h.wh (h.hi cA.rest) ⟨cA.rest,lH A.cs A.tg,Mv.rn Hu dV (by decide) hj,(QP (P:=cA n A ⟨nX A,A.tg⟩) _ A.cs g.rise (fun cs' h1 h2 h3=>cA.Bb h1 (Nat.le_trans h2 Nd) rfl h3.symm) cA.rG u1 u2 u3).V8⟩ hr
 ·rcases List.mem_cons.1 ht with rfl|ht
  ·show (3:Nat)≠0;decide
  ·exact o1 t ht
 ·rcases List.mem_cons.1 ht with rfl|ht
  ·show (aK bo && aK cS)=true;rw [Hu,dV];rfl
  ·exact o2 t ht
end Go.Proofs.YtncigfibncmioaaGreatDoor
namespace Go.Proofs.YtncigfibncmioaaGreatDoor
open Go.RowKit
def zC (out b:ByteArray):ByteArray:=out++dr b++⟨#[32]⟩++⟨(Lib.itoa (b.size:Int)).toArray⟩++⟨#[32]⟩++⟨(Lib.itoa ((0:Nat):Int)).toArray⟩++⟨#[32]⟩++b++⟨#[59]⟩
def AR (out:ByteArray) (t:TE):ByteArray:=out++t.n++⟨#[32]⟩++fV t.d++⟨#[32]⟩++⟨(Lib.itoa (t.z.toNat:Int)).toArray⟩++⟨#[59]⟩
def GY (A:aN):ByteArray:=A.tg.foldl AR (A.cs.foldl zC ⟨#[]⟩)
theorem Qqw (out b:ByteArray) (hb:b.size<=300):(zC out b).size<=out.size+500:=by
 unfold zC;simp only [I7];have h1:=Es b.size (by omega);have h0:=Es 0 (by omega);have h2:(⟨(Lib.itoa (b.size:Int)).toArray⟩ : ByteArray).size=(Lib.itoa (b.size:Int)).length:=sP _;have h5:(⟨(Lib.itoa ((0:Nat):Int)).toArray⟩ : ByteArray).size=(Lib.itoa ((0:Nat):Int)).length:=sP _;have h3:(⟨#[32]⟩ : ByteArray).size=1:=rfl;have h4:(⟨#[59]⟩ : ByteArray).size=1:=rfl;have h6:(dr b).size=64:=GZ _;omega
theorem Qqx (out:ByteArray) (t:TE) (ht:t.Ok):(AR out t).size<=out.size+500:=by
 unfold AR;simp only [I7];have hz:t.z.toNat<=1000000:=by have:=ht.z1;omega
 have h1:=Es t.z.toNat hz;have h2:(⟨(Lib.itoa (t.z.toNat:Int)).toArray⟩ : ByteArray).size=(Lib.itoa (t.z.toNat:Int)).length:=sP _;have h3:(⟨#[32]⟩ : ByteArray).size=1:=rfl;have h4:(⟨#[59]⟩ : ByteArray).size=1:=rfl;have h6:(fV t.d).size=64:=GZ _;have:=ht.n;omega
theorem QjN {α β:Type} (f:β->α->β) (b:β) (l:List α) {i:Nat} (hi:i<l.length):(l.take (i+1)).foldl f b=f ((l.take i).foldl f b) (l[i]'hi):=by
 rw [List.take_add_one,List.getElem?_eq_getElem hi,List.foldl_append];rfl
section
variable {w:World} {db xb sb cb:Nat} {s:ai} {tb:Nat} {cl:List (List Nat)} {A:aN} {r:Int} {n cu:Nat}
theorem Py (h:SA w db xb sb cb s tb cl A r n cu) (hn:n<=300000) :
  Calls Tryz.prog 13 #[.pointer (some ⟨xb,0,none⟩)] w fun e w'=>e = .returned (.tuple #[.string (GY A),.bool true])/\ar (sS xb sb cb) s s w w'/\SA w' db xb sb cb s tb cl A r n cu:=by
 have GF:=aa (QsM h hn);have Ds:=aa (fun (W:World) (hW:SA W db xb sb cb s tb cl A r n cu)=>QrO hW);have zE:=aa (show ∀ (wa wb:World),ar (sS xb sb cb) s s wa wb->∀ (B:Nat) (e:TypeId) (k:Nat) (v:Value) (m:Nat) (xs:List Value),w.heap.size<=B->wa.ownsRow B e k v m xs->wb.ownsRow B e k v m xs from fun wa wb hg B e k v m xs hB ho=>jQ ho (fun x hx hlt=>hg.gr.block x hlt (fun e2=>by
  have h1:=su ho x hx;have h2:=h.lt x (e2.elim .inl (fun e2=>.inr (.inl e2)));omega)))
 have xm:=aa h.good;have hlen:A.cs.length<=300000:=Nat.le_trans h.len hn;have ht8:=h.good.t8;have T8:=aa (show ∀ (W:World) (i:Nat) (hi:i<A.cs.length),SA W db xb sb cb s tb cl A r n cu->Calls Tryz.prog 34 #[.pointer (some ⟨xb,0,none⟩),.string (dr (A.cs[i]'hi))] W fun e w'=>e = .returned (.tuple #[.string (A.cs[i]'hi),.int .i64 0])/\ar (sS xb sb cb) s s W w'/\SA w' db xb sb cb s tb cl A r n cu from fun W i hi hW=>Quu hW (lD hW.good.rise (List.getElem_mem hi)));obtain ⟨R,hR⟩ : ∃ R,R=GY A:=⟨_,rfl⟩;rw [<- hR];have HR:=aa hR;obtain ⟨m,hm⟩ : ∃ m,m=A.cs.length:=⟨_,rfl⟩;obtain ⟨q,hq⟩ : ∃ q,q=A.tg.length:=⟨_,rfl⟩;rw [<- hm] at hlen;rw [<- hq] at ht8;have HM:=aa hm;have HQ:=aa hq;clear h hR hm hq;go_enter Tryz.func13,Tryz.ntmps13;go_wp2_with fail;refine (GF.out).mono ?_;rintro _ w1 ⟨v1,rfl,eX,hg1,hs1⟩;dsimp only;have jb:=aa (Ds.out w1 hs1);have bT:=aa hg1;have uX:=aa eX;clear eX hg1 hs1 GF Ds;go_wp2_with fail;refine (jb.out).mono ?_;rintro _ w2 ⟨v2,rfl,hrow2,hg2,hs2⟩;dsimp only;have eX:=zE.out w1 w2 hg2 _ _ _ _ _ _ (Nat.le_refl _) uX.out;rw [<- HM.out] at eX;rw [<- HQ.out] at hrow2;obtain ⟨o1,k1,rfl⟩:=jG eX;obtain ⟨o2,k2,rfl⟩:=jG hrow2;have hrow2:=hrow2.ez (bT.out.gr.size:w.heap.size<=w1.heap.size);have ki:=aa eX;have fL:=aa hrow2;have bP:=aa (bT.out.trans hg2);have fg:=aa hs2;clear eX hrow2 hg2 hs2 jb uX bT;go_wp2_with fail
 go_loopw [8,9] (fun ov iv wr=>∃ (j:Nat),j<=m/\iv = .int .i64 ((j:Nat):Int)/\ov = .string ((A.cs.take j).foldl zC ⟨#[]⟩)/\((A.cs.take j).foldl zC ⟨#[]⟩).size<=j * 500/\ar (sS xb sb cb) s s w wr/\SA wr db xb sb cb s tb cl A r n cu/\wr.ownsRow w.heap.size 73 2 (.slice o1 m k1) m (A.cs.flatMap bC)/\wr.ownsRow w.heap.size 83 3 (.slice o2 q k2) q (A.tg.flatMap tC)) (fun _ iv _=>m - (intOf iv).toNat)
 case atStart=>exact ⟨0,Nat.zero_le _,rfl,rfl,Nat.le_refl _,bP.out,fg.out,ki.out,fL.out⟩
 case round =>
  obtain ⟨j,hj,rfl,rfl,hsz,hgo,tU,Cy,jB⟩:=hrel;have cQ:=aa hgo;have Pz:=aa tU;have HW1:=aa Cy;have HW2:=aa jB;clear hgo tU
  by_cases hlt:j<m
  ·have eN:j<A.cs.length:=by rw [<- HM.out];exact hlt
   obtain ⟨g1,c1,e1,hc⟩:=Pn (enc:=bC) (k:=2) (fun x=>rfl) Cy HM.out eN;injection e1 with e1 _ ec
   subst e1;subst ec;have r0:=hc 0 _ rfl;have r1:=hc 1 _ rfl;rw [Nat.add_zero] at r0;have HRF:=aa (show ∀ W:World,W.ownsRow w.heap.size 73 2 (.slice (some ⟨g1,0,none⟩) m k1) m (A.cs.flatMap bC)->W.cell? ⟨g1,j * 2,none⟩=some (.string (dr (A.cs[j]'eN)))/\W.cell? ⟨g1,j * 2+1,none⟩=some (.int .i64 ((A.cs[j]'eN).size:Int)) from fun W hW=>by
    obtain ⟨g3,c3,e3,hc3⟩:=Pn (enc:=bC) (k:=2) (fun x=>rfl) hW HM.out eN;injection e3 with e3 _ _
    injection e3 with e3
    injection e3 with e3
    subst e3;exact ⟨hc3 0 _ rfl,hc3 1 _ rfl⟩)
   have wG:=aa (T8.out wr j eN Pz.out);have cw:=QjN zC ⟨#[]⟩ A.cs eN;have hb3:=xm.out.sz _ (List.getElem_mem eN);have tQ:=Qqw ((A.cs.take j).foldl zC ⟨#[]⟩) (A.cs[j]'eN) hb3;have Ge:(dr (A.cs[j]'eN)).size<=64:=Nat.le_of_eq (GZ _);generalize (A.cs.take j).foldl zC ⟨#[]⟩=O at *;generalize A.cs[j]'eN=b at *;have zF:(A.cs.take (j+1)).foldl zC ⟨#[]⟩=O++dr b++⟨#[32]⟩++⟨(Lib.itoa (b.size:Int)).toArray⟩++⟨#[32]⟩++⟨(Lib.itoa ((0:Nat):Int)).toArray⟩++⟨#[32]⟩++b++⟨#[59]⟩:=cw;have fP:=aa zF;clear cw zF;generalize dr b=H at *;have d1:decide (((j:Nat):Int)<((m:Nat):Int))=true:=decide_eq_true (by omega);clear Cy jB hc eN tQ;go_wp2_with fail;refine (wG.out).mono ?_;rintro _ w3 ⟨rfl,hg3,hs3⟩;dsimp only;have tR:=zE.out wr w3 hg3 _ _ _ _ _ _ (Nat.le_refl _) HW1.out;have qa:=zE.out wr w3 hg3 _ _ _ _ _ _ (Nat.le_refl _) HW2.out;obtain ⟨T9,PA⟩:=HRF.out _ tR;obtain ⟨z,hz⟩ : ∃ z,z=b.size:=⟨_,rfl⟩;have xX:Hid (∀ W,Calls Tryz.prog 41 #[.int .i64 ((z:Nat):Int)] W fun e w'=>e = .returned (.string ⟨(Lib.itoa (b.size:Int)).toArray⟩)/\Below W.heap.size W w'):=aa (fun W=>by rw [hz];exact Kn b.size (by omega) W);have HDZ:Hid (∀ W,Calls Tryz.prog 41 #[.int .i64 0] W fun e w'=>e = .returned (.string ⟨(Lib.itoa ((0:Nat):Int)).toArray⟩)/\Below W.heap.size W w'):=aa (fun W=>Kn 0 (by omega) W);rw [<- hz] at PA;clear hz;have t1:(⟨(Lib.itoa (b.size:Int)).toArray⟩ : ByteArray).size<=21:=by rw [sP];exact Es _ (by omega)
   have t0:(⟨(Lib.itoa ((0:Nat):Int)).toArray⟩ : ByteArray).size<=21:=by rw [sP];exact Es _ (by omega)
   generalize (⟨(Lib.itoa (b.size:Int)).toArray⟩ : ByteArray)=Tx at *;generalize (⟨(Lib.itoa ((0:Nat):Int)).toArray⟩ : ByteArray)=Tz at *;have q1:¬ 9223372036854775807<O.size+H.size:=by omega
   have q2:¬ 9223372036854775807<O.size+H.size+1:=by omega
   have q3:¬ 9223372036854775807<O.size+H.size+1+Tx.size:=by omega
   have q4:¬ 9223372036854775807<O.size+H.size+1+Tx.size+1:=by omega
   have q5:¬ 9223372036854775807<O.size+H.size+1+Tx.size+1+Tz.size:=by omega
   have q6:¬ 9223372036854775807<O.size+H.size+1+Tx.size+1+Tz.size+1:=by omega
   have q7:¬ 9223372036854775807<O.size+H.size+1+Tx.size+1+Tz.size+1+b.size:=by omega
   have q8:¬ 9223372036854775807<O.size+H.size+1+Tx.size+1+Tz.size+1+b.size+1:=by omega
   have Cz:=aa (cQ.out.trans hg3);have Ua:=aa hs3;have xF:=aa tR;have HW4:=aa qa;have hdr:Below w3.heap.size w3 w3.drew:=(Below.refl _ _).drew;have bA:w3.drew.cell? ⟨g1,j * 2,none⟩=some (.string H)/\w3.drew.cell? ⟨g1,j * 2+1,none⟩=some (.int .i64 ((z:Nat):Int)):=⟨cell_later hdr T9,cell_later hdr PA⟩;have qO:=aa T9;have pR:=aa PA;clear hg3 hs3 tR qa T9 PA r0 r1 HRF wG;go_wp2_with fail
   go_region_held3 (fun w'=>w'.cell? ⟨g1,j * 2,none⟩=some (.string H)/\w'.cell? ⟨g1,j * 2+1,none⟩=some (.int .i64 ((z:Nat):Int))) (first|exact bA|exact sM|exact Jv|go_keep) ((first
    | (go_at_call 41;(with_reducible refine (HDZ.out _).mono ?_);rintro _ w5 ⟨rfl,ig⟩;have jT:Below w3.heap.size w3 w5:=bI.trans (ig.mono bI.size);have Jv:w5.cell? ⟨g1,j * 2,none⟩=some (.string H)/\w5.cell? ⟨g1,j * 2+1,none⟩=some (.int .i64 ((z:Nat):Int)):=⟨cell_later jT qO.out,cell_later jT pR.out⟩)
    | (go_at_call 41;(with_reducible refine (xX.out _).mono ?_);rintro _ w4 ⟨rfl,hb4⟩;have bI:Below w3.heap.size w3 w4:=hdr.trans hb4;have sM:w4.cell? ⟨g1,j * 2,none⟩=some (.string H)/\w4.cell? ⟨g1,j * 2+1,none⟩=some (.int .i64 ((z:Nat):Int)):=⟨cell_later bI qO.out,cell_later bI pR.out⟩)))
   have sY:=aa jT;clear hb4 bI ig jT bA sM Jv hdr xX HDZ qO pR;go_wp2_with fail;refine ⟨⟨j+1,by omega,by simp,by rw [fP.out],?_,Cz.out.trans (ar.ae sY.out),Ua.out.later sY.out,gA xF.out sY.out,gA HW4.out sY.out⟩,by simp only [intOf];omega⟩;rw [fP.out];simp only [I7];have h3:(⟨#[32]⟩ : ByteArray).size=1:=rfl;have h4:(⟨#[59]⟩ : ByteArray).size=1:=rfl;omega
  ·have d1:decide (((j:Nat):Int)<((m:Nat):Int))=false:=decide_eq_false (by omega);have ly:j=m:=by omega
   subst ly;have ht:A.cs.take j=A.cs:=List.take_of_length_le (by rw [<- HM.out];exact Nat.le_refl _);rw [ht] at hsz ⊢;clear Cy jB ht;have ir:=aa (show R=A.tg.foldl AR (A.cs.foldl zC ⟨#[]⟩) from HR.out);generalize A.cs.foldl zC ⟨#[]⟩=O at hsz ir ⊢;go_wp2_with fail
   go_loopw [8,12] (fun ov iv wr=>∃ (i:Nat),i<=q/\iv = .int .i64 ((i:Nat):Int)/\ov = .string ((A.tg.take i).foldl AR O)/\((A.tg.take i).foldl AR O).size<=j * 500+i * 500/\ar (sS xb sb cb) s s w wr/\SA wr db xb sb cb s tb cl A r n cu/\wr.ownsRow w.heap.size 83 3 (.slice o2 q k2) q (A.tg.flatMap tC)) (fun _ iv _=>q - (intOf iv).toNat)
   case atStart=>exact ⟨0,Nat.zero_le _,rfl,rfl,by simpa using hsz,cQ.out,Pz.out,HW2.out⟩
   case round =>
    obtain ⟨i,hi,rfl,rfl,kV,hgo,tU,jB⟩:=hrel;have fq:=aa hgo;have Ms:=aa tU;have Cp:=aa jB;clear hgo tU
    by_cases AU:i<q
    ·have kW:i<A.tg.length:=by rw [<- HQ.out];exact AU
     obtain ⟨g2,c2,e2,hc⟩:=Pn (enc:=tC) (k:=3) (fun x=>rfl) jB HQ.out kW;injection e2 with e2 _ ec
     subst e2;subst ec;have r0:=hc 0 _ rfl;have r1:=hc 1 _ rfl;have r2:=hc 2 _ rfl;rw [Nat.add_zero] at r0;have cw:=QjN AR O A.tg kW;have cN:=xm.out.tok _ (List.getElem_mem kW);have tQ:=Qqx ((A.tg.take i).foldl AR O) (A.tg[i]'kW) cN;generalize A.tg[i]'kW=t at *;generalize (A.tg.take i).foldl AR O=P at *;have zF:(A.tg.take (i+1)).foldl AR O=P++t.n++⟨#[32]⟩++fV t.d++⟨#[32]⟩++⟨(Lib.itoa (t.z.toNat:Int)).toArray⟩++⟨#[59]⟩:=cw;have fP:=aa zF;clear cw zF;obtain ⟨z,hz⟩ : ∃ z:Nat,t.z=(z:Int):=⟨t.z.toNat,by have:=cN.z0;omega⟩;have hz3:z<=1000000:=by have:=cN.z1;omega
     rw [hz] at r2;have hzn:t.z.toNat=z:=by omega
     rw [hzn] at fP;have xX:=aa (fun W=>Kn z hz3 W);have t1:(⟨(Lib.itoa (z:Int)).toArray⟩ : ByteArray).size<=21:=by rw [sP];exact Es _ hz3
     generalize (⟨(Lib.itoa (z:Int)).toArray⟩ : ByteArray)=Tx at *;have Bq:=cN.n;have xa:(fV t.d).size<=64:=Nat.le_of_eq (GZ _);generalize fV t.d=D at *;generalize t.n=M at *;have q1:¬ 9223372036854775807<P.size+M.size:=by omega
     have q2:¬ 9223372036854775807<P.size+M.size+1:=by omega
     have q3:¬ 9223372036854775807<P.size+M.size+1+D.size:=by omega
     have q4:¬ 9223372036854775807<P.size+M.size+1+D.size+1:=by omega
     have q5:¬ 9223372036854775807<P.size+M.size+1+D.size+1+Tx.size:=by omega
     have q6:¬ 9223372036854775807<P.size+M.size+1+D.size+1+Tx.size+1:=by omega
     have d2:decide (((i:Nat):Int)<((q:Nat):Int))=true:=decide_eq_true (by omega);have hdr:Below wr.heap.size wr wr.drew:=(Below.refl _ _).drew;have bA:wr.drew.cell? ⟨g2,i * 3,none⟩=some (.string M)/\wr.drew.cell? ⟨g2,i * 3+1,none⟩=some (.string D)/\wr.drew.cell? ⟨g2,i * 3+2,none⟩=some (.int .i64 ((z:Nat):Int)):=⟨cell_later hdr r0,cell_later hdr r1,cell_later hdr r2⟩;have HC:=aa (And.intro r0 (And.intro r1 r2));clear jB hc kW tQ cN hz hzn r0 r1 r2;go_wp2_with fail
     go_region_held3 (fun w'=>w'.cell? ⟨g2,i * 3,none⟩=some (.string M)/\w'.cell? ⟨g2,i * 3+1,none⟩=some (.string D)/\w'.cell? ⟨g2,i * 3+2,none⟩=some (.int .i64 ((z:Nat):Int))) (first|exact bA|exact sM|go_keep) ((go_at_call 41;refine (xX.out _).mono ?_;rintro _ w4 ⟨rfl,hb4⟩;have bI:Below wr.heap.size wr w4:=hdr.trans hb4;have sM:w4.cell? ⟨g2,i * 3,none⟩=some (.string M)/\w4.cell? ⟨g2,i * 3+1,none⟩=some (.string D)/\w4.cell? ⟨g2,i * 3+2,none⟩=some (.int .i64 ((z:Nat):Int)):=⟨cell_later bI HC.out.1,cell_later bI HC.out.2.1,cell_later bI HC.out.2.2⟩))
     have lN:=aa bI;clear hb4 bI bA sM hdr xX HC;go_wp2_with fail;refine ⟨⟨i+1,by omega,by simp,by rw [fP.out],?_,fq.out.trans (ar.ae lN.out),Ms.out.later lN.out,gA Cp.out lN.out⟩,by simp only [intOf];omega⟩;rw [fP.out];simp only [I7];have h3:(⟨#[32]⟩ : ByteArray).size=1:=rfl;have h4:(⟨#[59]⟩ : ByteArray).size=1:=rfl;omega
    ·have d2:decide (((i:Nat):Int)<((q:Nat):Int))=false:=decide_eq_false (by omega);have hiq:i=q:=by omega
     subst hiq;have fU:A.tg.take i=A.tg:=List.take_of_length_le (by rw [<- HQ.out];exact Nat.le_refl _);rw [fU,<- ir.out] at kV ⊢;clear jB fU;go_wp2_with fail;refine bodyPost_ret (results_tmp2 rfl _ _ _) rfl ?_;exact ⟨rfl,fq.out,Ms.out⟩
end
end Go.Proofs.YtncigfibncmioaaGreatDoor
namespace Go.Proofs.YtncigfibncmioaaGreatDoor
open Go.RowKit
def A0:aN:=⟨[],[]⟩
def dN:ByteArray:=⟨#[97,98,99]⟩
def tK:ByteArray:=⟨#[108,97,116,101,115,116]⟩
def A1:aN:=⟨[dN],[⟨tK,ak dN,3⟩]⟩
theorem Qux:aG A0:=⟨List.Pairwise.nil,fun b hb=>(by cases hb),List.Pairwise.nil,fun t ht=>(by cases ht),Nat.zero_le _,fun t ht=>(by cases ht),fun t ht=>(by cases ht)⟩
theorem GN:dD A0=36:=by rw [GP];rfl
theorem Qoq {D:DS} {r:Int} {L C:Nat} (h:I8 D) (hl:D.R.left = -1) (hr:D.R.room=r) (hf:au D L C 36):dY D (fA A0) r 2000:=by
 obtain ⟨⟨y,x,z,hn,fx,fy,fz⟩,h2,h3⟩:=h;have hsz:((aL []).size:Int)=23:=rfl;have Po:iQ D=fA A0:=by
  unfold iQ;rw [hn];show [eu D.fd ⟨bB,y⟩,eu D.fd ⟨bo,x⟩,eu D.fd ⟨bK,z⟩] = [ff bB (aL []),ff bo ⟨#[]⟩,ff bK pX];unfold eu;dsimp only;rw [fx,fy,fz];rfl
 have n1:uC≠⟨#[]⟩:=by decide
 have n2:uC≠pX:=by decide
 have n3:pX≠⟨#[]⟩:=by decide
 have nyx:y≠x:=fun e=>n1 (by have:=fy;rw [e,fx] at this;injection this with this;exact this.symm)
 have nyz:y≠z:=fun e=>n2 (by have:=fy;rw [e,fz] at this;injection this with this;exact this.symm)
 have nxz:x≠z:=fun e=>n3 (by have:=fx;rw [e,fz] at this;injection this)
 refine ⟨⟨Po,hl,hr,fun e he e' vE hb=>?_,hf.cK,hf.cH,hf.er,hf.inv,hf.rise,fun f hf2=>(hf.dS f hf2).mono (by decide),hf.ql⟩,h2,h3,fun f hm=>?_⟩
 ·rw [hn] at he vE;simp only [List.mem_cons,List.not_mem_nil,or_false] at he vE
  rcases he with rfl|rfl|rfl<;>rcases vE with rfl|rfl|rfl<;>first|rfl|exact absurd hb nyx|exact absurd hb.symm nyx|exact absurd hb nyz|exact absurd hb.symm nyz|exact absurd hb nxz|exact absurd hb.symm nxz
 ·rcases xg (show f∈oL [] from hm) with rfl|rfl|rfl<;>rfl
theorem QsN (D:List Nat) (X:ByteArray) (hD:gz D):Pl.run 1099511627776 A0 ⟨dN.size+iy [] [⟨tK,D,3⟩],X,0,⟨[dN],[⟨tK,D,3⟩]⟩⟩=(X,0,⟨[dN],[⟨tK,D,3⟩]⟩):=by
 refine Pl.jy ?_;rw [GN];show ((36:Nat):Int)+((dN.size+iy [] [⟨tK,D,3⟩]:Nat):Int)<=1099511627776;have h4:(aL [⟨tK,D,3⟩]).size<=2000:=vZ (fun t ht=>by
  simp only [List.mem_singleton] at ht;subst ht;exact QuB (by decide) hD.1 hD.2 (by decide) (by decide)) (by simp)
 have h5:iy [] [⟨tK,D,3⟩]<=2000:=by
  unfold iy;rw [if_neg (by simp)];exact h4
 have h6:dN.size=3:=rfl;omega
theorem QsO (b:ByteArray):ia A0.cs (some b) = [b]:=rfl
theorem QlB (b:ByteArray):dn A0 b=none:=rfl
theorem QsP (b:ByteArray):b8 A0 b=some b:=by unfold b8;rw [QlB]
theorem QsQ (m b:ByteArray):nW A0 m b = [⟨m,ak b,(b.size:Int)⟩]:=by
 unfold nW;rw [QlB];rfl
theorem QjH:(pF A0 tK dN).run 1099511627776 A0=(dr dN,0,A1):=by
 have hm:jZ A0 tK=true:=rfl;have hs:(dN.size:Int)=3:=rfl;unfold pF A1;rw [if_pos hm,QsP,QsQ,QsO,hs,show jz (some dN)=dN.size from rfl,show A0.tg = [] from rfl];generalize hD:ak dN=D;have aF:gz D:=by rw [<- hD];exact jN dN
 generalize dr dN=X;exact QsN D X aF
theorem QsR (r:Int) (w:World) (hg:Gl w) (h0:0<=r) (h1:r<=9223372036854775807) :
  Calls Tryz.prog 24 #[.int .i64 r] w fun e w'=>∃ d so,e = .returned (.pointer (some ⟨d,0,none⟩))/\Below w.heap.size w w'/\w.heap.size<=d/\rS w' d so/\(∀ k,so.own k->w.heap.size<=k)/\Er so.ds/\au so.ds 6 0 36/\so.R.left = -1/\so.R.room=r/\so.ds.R.now = []:=by
 refine (QpP r (fun g w'=>∃ so:ai,so.b=g/\Below w.heap.size w w'/\so.In w'/\(∀ k,so.own k->w.heap.size<=k)/\so.ds=⟨⟨r,[],[],[],0, -1⟩,[],so.fd⟩) w ((ZK r w).mono ?_)).mono ?_
 ·rintro e w' ⟨rfl,hb,hpd,hsz⟩;rw [if_neg (by omega)] at hpd;refine ⟨_,rfl,⟨w.heap.size+1+1,w.heap.size,w.heap.size+1,.slice none 0 0,⟨r,[],[],[],0, -1⟩,[],fun _=>(⟨#[]⟩,0),fun _=>.slice none 0 0⟩,rfl,hb,⟨hpd,fun f hf=>(by cases hf),fun f hf=>(by cases hf),fun e he=>(by cases he),fun e he=>(by cases he),fun c hc=>(by cases hc)⟩,fun k hk=>?_,rfl⟩
  rcases hk with e|e|e|e|e|⟨f,hf,e⟩
  ·have e:k=w.heap.size+1+1:=e;omega
  ·have e:k=w.heap.size:=e;omega
  ·have e:k=w.heap.size+1:=e;omega
  ·cases e
  ·cases e
  ·cases hf
 ·rintro e w' ⟨g,w1,rfl,rfl,so,rfl,hb,cJ,hown,aJ⟩;have nB:=hb.alloc hb.size (.cells #[.pointer (some ⟨so.b,0,none⟩)] 90);obtain ⟨e1,e2⟩:=Qt7 r h0 h1 so.fd;rw [<- aJ] at e1 e2;exact ⟨w1.heap.size,so,rfl,nB,hb.size,⟨cJ.later ((Below.refl _ _).alloc (Nat.le_refl _) _),heap_alloc_new _ _,hg.later nB,fun k hk hG=>by have:=hown k hk;have:=hg.lt hG;omega⟩,hown,e1,e2,congrArg (fun D:DS=>D.R.left) aJ,congrArg (fun D:DS=>D.R.room) aJ,congrArg (fun D:DS=>D.R.now) aJ⟩
theorem QrP:dr dN=qw:=YR
section
variable {w:World} {d:Nat} {s:ai} {A:aN} {r:Int} {n cu:Nat}
theorem DQ.file (h:DQ w d s A r n cu) {p t:ByteArray} (hf:aQ FF.p p (fA A)=some (ff p t)):∃ f,aO p s.R.now=some f/\(s.fd f).1=t:=by
 have h1:aQ FF.p p (fA A)=(aO p s.R.now).map fun g=>⟨p,(s.fd g).1,(s.fd g).2⟩:=h.rq.ft.wh.look p
 rw [hf] at h1
 cases h2:aO p s.R.now with
 | none=>rw [h2] at h1;cases h1
 | some f =>
  rw [h2] at h1;injection h1 with h1
  exact ⟨f,rfl,(congrArg FF.t h1).symm⟩
theorem Qj7 (A:aN):aQ FF.p bo (fA A)=some (ff bo ⟨#[]⟩):=by
 rw [uU,GW (fun b=>Pr b)];unfold oL;rw [ib,if_neg (show ¬ (ff bB (aL A.tg)).p=bo by show ¬ bB=bo;decide),ib,if_pos (show (ff bo ⟨#[]⟩).p=bo from rfl)];rfl
theorem Qo5 (g:aG A) {b:ByteArray} (hb:b∈A.cs):aQ FF.p (kC b) (fA A)=some (ff (kC b) b):=by
 rw [uU,lD g.rise hb];rfl
theorem DQ.GM (h:DQ w d s A r n cu):s.R.now.length=A.cs.length+3:=by
 have hv:s.ds.R.now.map (eu s.ds.fd)=fA A:=h.rq.vw;have:=congrArg List.length hv;rw [List.length_map,xn] at this;exact this
theorem DQ.path (h:DQ w d s A r n cu) {k:Nat} (hk:k<A.cs.length):(s.R.now.getD k gV).path=kC (A.cs[k]'hk):=by
 have hv:s.ds.R.now.map (eu s.ds.fd)=fA A:=h.rq.vw;have hl:=h.GM;have h1:(s.ds.R.now.map (eu s.ds.fd))[k]? = (fA A)[k]?:=by rw [hv]
 rw [List.getElem?_map] at h1;have h2:(fA A)[k]? = some (fC (A.cs[k]'hk)):=by
  unfold fA;rw [List.getElem?_append_left (by rw [List.length_map];exact hk),List.getElem?_map,List.getElem?_eq_getElem hk];rfl
 rw [h2,show s.ds.R.now=s.R.now from rfl,List.getElem?_eq_getElem (show k<s.R.now.length by omega)] at h1;injection h1 with h1
 rw [List.getD_eq_getElem?_getD,List.getElem?_eq_getElem (show k<s.R.now.length by omega)];exact congrArg FF.p h1
end
theorem Qo6 (t:ByteArray) (hz:t.size=64):(se++t).size=70/\(se++t).extract 0 6=⟨#[98,108,111,98,115,47]⟩/\(se++t).extract 6 70=t:=by
 have h6:se.size=6:=rfl;have h70:(se++t).size=70:=by rw [ByteArray.size_append,hz,h6]
 exact ⟨h70,ByteArray.extract_append_eq_left h6.symm,ByteArray.extract_append_eq_right h6.symm (by rw [h6,hz])⟩
theorem QlX (b:ByteArray):(kC b).size=70/\(kC b).extract 0 6=⟨#[98,108,111,98,115,47]⟩/\(kC b).extract 6 70=dr b/\(⟨#[98,108,111,98,115,47]⟩ : ByteArray)++dr b=kC b:=by
 have e:kC b=se++dr b:=Qj4 _;have hz:(dr b).size=64:=GZ _;generalize dr b=T at e hz;generalize kC b=P at e;subst e;obtain ⟨h1,h2,h3⟩:=Qo6 T hz;exact ⟨h1,h2,h3,rfl⟩
theorem Qo7 {A:aN} (g:aG A):FX (A.tg.map TE.tg)=aL A.tg/\sX (A.tg.map TE.tg)=0:=by
 have h:xT (A.tg.map TE.tg)=true:=by
  unfold xT;rw [decide_eq_true (show (A.tg.map TE.tg).length<=8 by rw [List.length_map];exact g.t8),decide_eq_true (Qo3 g.tok g.tS g.tr)];rfl
 unfold FX sX;rw [if_pos h,if_pos h];exact ⟨by unfold aL;rw [List.length_map],rfl⟩
theorem Qte {t:TE} (h:t.Ok):(En.tg t.en).told=t.tg:=by
 show (⟨t.n,⟨(Sha.aM (rd (fV t.d)) 32).toArray⟩,((t.z.toNat:Nat):Int)⟩ : Tg)=⟨t.n,fV t.d,t.z⟩;rw [Eg t.d h.len h.lt,Int.toNat_of_nonneg h.z0];rfl
theorem Qq0 {A:aN} (g:aG A):((A.tg.map TE.en).map En.tg).map Tg.told=A.tg.map TE.tg:=by
 rw [List.map_map,List.map_map];exact List.map_congr_left fun t ht=>Qte (g.tok t ht)
theorem Qq1 {A:aN} (g:aG A) {a b:ByteArray} (ha:a∈A.cs) (hb:b∈A.cs) (h:ak a=ak b):a=b:=by
 have h1:=lD g.rise ha;have h2:=lD g.rise hb;have h3:kC a=kC b:=by unfold kC;rw [h]
 rw [h3,h2] at h1;exact (Option.some.inj h1).symm
theorem Qtf {a b:List Nat} (ha:gz a) (hb:gz b) (h:fV a=fV b):a=b:=by
 rw [<- Eg a ha.1 ha.2,<- Eg b hb.1 hb.2,h]
theorem Qm4 {A:aN} (g:aG A) {b:ByteArray} (hb:b∈A.cs):∀ i,i<A.tg.length->((A.tg.map TE.tg).getD i default).dig=dr b->((A.tg.map TE.tg).getD i default).size=(b.size:Int):=fun i hi=>by
 rw [Nl hi];intro h;obtain ⟨b',hb',e1,e2⟩:=g.Cw _ (List.getElem_mem hi);have h1:fV (A.tg[i]'hi).d=fV (ak b):=h;have h2:=Qtf (by rw [e1];exact jN _) (jN b) h1;rw [e1] at h2;have h3:=Qq1 g hb' hb h2;subst h3;exact e2
theorem Qq2 {A:aN} (g:aG A) {i:Nat} (hi:i<A.tg.length):∃ b∈A.cs,((A.tg.map TE.tg).getD i default).dig=dr b:=by
 rw [Nl hi];obtain ⟨b',hb',e1,_⟩:=g.Cw _ (List.getElem_mem hi);exact ⟨b',hb',by show fV (A.tg[i]'hi).d=fV (ak b');rw [e1]⟩
theorem QrV:∀ (l:List Tg) (k:Nat),(l.flatMap Tg.cells)[k]? = (l[k / 3]?).bind fun t=>t.cells[k % 3]?
 | [],k=>by simp
 | t::ts,k=>by
  rw [List.flatMap_cons]
  by_cases hk:k<3
  ·rw [List.getElem?_append_left (by simpa [Tg.cells] using hk),show k / 3=0 by omega,show k % 3=k by omega];rfl
  ·rw [List.getElem?_append_right (by simp [Tg.cells];omega),show t.cells.length=3 from rfl,QrV ts (k - 3),show k / 3=(k - 3) / 3+1 by omega,show (k - 3) % 3=k % 3 by omega];rfl
theorem Vl {w:World} {B n cap:Nat} {oa:Option Addr} {l:List Tg} (h:w.ownsRow B 83 3 (.slice oa n cap) n (l.flatMap Tg.cells)) (hn:l.length=n):TagsAt w oa l:=by
 intro i hi;obtain ⟨hlen,h2⟩:=h
 rcases h2 with ⟨e,h0⟩|⟨g',cap',cur,e,_,hg,_,_,hsz,cN⟩
 ·omega
 ·injection e with e1 _ _
  subst e1;refine ⟨g',0,rfl,?_⟩;intro j v hj;have Zn:j<3:=by
   have:=(List.getElem?_eq_some_iff.1 hj).1;simpa [Tg.cells] using this
  rw [Nat.zero_add,cell_of_row w g' (i * 3+j) _ _ _ hg];have hlt:i * 3+j<n * 3:=by omega
  have e4:cur[i * 3+j]? = (l.flatMap Tg.cells)[i * 3+j]?:=by
   rw [<- cN,List.getElem?_take_of_lt hlt,Array.getElem?_toList]
  rw [e4,QrV,show (i * 3+j) / 3=i by omega,show (i * 3+j) % 3=j by omega,List.getElem?_eq_getElem hi];have e5:l.getD i default=l[i]:=by rw [List.getD_eq_getElem?_getD,List.getElem?_eq_getElem hi];rfl
  rw [e5] at hj;exact hj
theorem QlY {w w':World} {B n:Nat} {v:Value} {xs:List Value} {s s':ai} (h:w.ownsRow B 83 3 v n xs) (hi:s.In w) (hg:aC s s' w w'):w'.ownsRow B 83 3 v n xs:=jQ h (fun k hk _=>by
 obtain ⟨c,hc⟩:=eO h k hk;exact (hg.keeps hi hc (by decide) (by decide) (by decide) (by decide)).trans hc.symm)
theorem Qq3 {A:aN} (g:aG A):∀ i,((A.tg.map TE.tg).getD i default).name.size<=9223372036854775807:=fun i=>by
 by_cases hi:i<A.tg.length
 ·rw [Nl hi];have:=(g.tok _ (List.getElem_mem hi)).n;show (A.tg[i]'hi).n.size<=_;omega
 ·rw [List.getD_eq_getElem?_getD,List.getElem?_eq_none (by rw [List.length_map];omega)];show (⟨#[]⟩ : ByteArray).size<=_;decide
theorem Wn {x:FF}:∀ {F:List FF},(∀ e∈F,bJ x.p e.p=true)->ag FF.p x F=x::F
 | [],_=>rfl
 | e::F,h=>by
  have h1:=h e (by simp);exact (if_neg (fun e1=>pg h1 e1.symm)).trans (if_pos h1)
theorem Wo {A:aN} {x:FF} (h:x∈fA A):bJ p0 x.p=true/\bJ p1 x.p=true:=by
 unfold fA at h
 rcases List.mem_append.1 h with h|h
 ·obtain ⟨b,_,rfl⟩:=List.mem_map.1 h;show bJ p0 (kC b)=true/\bJ p1 (kC b)=true;unfold kC;rw [gX,gX,DG];exact ⟨rfl,rfl⟩
 ·rcases xg h with rfl|rfl|rfl
  ·show bJ p0 bB=true/\bJ p1 bB=true;rw [gX,gX];exact ⟨rfl,rfl⟩
  ·show bJ p0 bo=true/\bJ p1 bo=true;rw [gX,gX];exact ⟨rfl,rfl⟩
  ·show bJ p0 bK=true/\bJ p1 bK=true;rw [gX,gX];exact ⟨rfl,rfl⟩
theorem Qme (A:aN) (t:ByteArray):ag FF.p (ff p0 t) (fA A)=ff p0 t::fA A:=Wn (fun _ he=>(Wo he).1)
theorem Qrq (A:aN) (t u:ByteArray):ag FF.p (ff p1 u) (ag FF.p (ff p0 t) (fA A))=ff p0 t::ff p1 u::fA A:=by
 have h01:bJ p0 p1=true:=by rw [gX];rfl
 have r9:p0≠p1:=by decide
 have n10:¬ bJ p1 p0=true:=by rw [gX];decide
 rw [Qme];have e:ag FF.p (ff p1 u) (ff p0 t::fA A)=ff p0 t::ag FF.p (ff p1 u) (fA A):=(if_neg (show ¬ (ff p0 t).p=(ff p1 u).p from r9)).trans (if_neg (show ¬ bJ (ff p1 u).p (ff p0 t).p=true from n10));rw [e,Wn (x:=ff p1 u) (fun _ he=>(Wo he).2)]
theorem Qvh {A:aN} {x:FF} (h:x∈fA A):eW x.p=false:=by
 unfold fA at h
 rcases List.mem_append.1 h with h|h
 ·obtain ⟨b,_,rfl⟩:=List.mem_map.1 h;show eW (kC b)=false;unfold eW;have:=(rB (jN b)).1;rw [show kC b=bW (ak b) from rfl,this];simp
 ·rcases xg h with rfl|rfl|rfl
  ·show eW bB=false;unfold eW;simp
  ·show eW bo=false;unfold eW;simp
  ·show eW bK=false;unfold eW;simp
theorem J2 (A:aN):(((fA A).map FF.p).reverse.filter eW) = []:=by
 rw [List.filter_eq_nil_iff];intro p hp;rw [List.mem_reverse] at hp;obtain ⟨x,hx,rfl⟩:=List.mem_map.1 hp;rw [Qvh hx];decide
theorem Wp {D:DS} {F:List FF} (hv:iQ D=F):nK eW D.R.now=((F.map FF.p).reverse.filter eW).map fM:=by
 subst hv;unfold nK iQ;rw [List.map_map];rfl
theorem Qvi (A:aN) (t:ByteArray):(((ag FF.p (ff p0 t) (fA A)).map FF.p).reverse.filter eW).map fM = [fM p0]:=by
 have h0:eW p0=true:=by decide +kernel
 rw [Qme,List.map_cons,List.reverse_cons,List.filter_append,J2];show ([p0].filter eW).map fM=_;rw [List.filter_cons_of_pos h0];rfl
theorem Qvj (A:aN) (t u:ByteArray):(((ag FF.p (ff p1 u) (ag FF.p (ff p0 t) (fA A))).map FF.p).reverse.filter eW).map fM = [fM p1,fM p0]:=by
 have h0:eW p0=true:=by decide +kernel
 have h1:eW p1=true:=by decide +kernel
 rw [Qrq,List.map_cons,List.map_cons,List.reverse_cons,List.reverse_cons,List.append_assoc,List.filter_append,J2];show ([p1,p0].filter eW).map fM=_;rw [List.filter_cons_of_pos h1,List.filter_cons_of_pos h0];rfl
def uo (F:List FF):List bU:=((F.map FF.p).reverse.filter eW).map fM
theorem Qr1 {F:List FF} (h:∀ x∈F,aK x.p=true):(∀ t∈uo F ++ [gQ],t.k≠0)/\∀ t∈uo F ++ [gQ],pj t=true:=by
 refine ⟨fun t ht=>?_,fun t ht=>?_⟩
 ·rcases List.mem_append.1 ht with ht|ht
  ·obtain ⟨p,_,rfl⟩:=List.mem_map.1 ht;show (2:Nat)≠0;decide
  ·rw [List.mem_singleton.1 ht];decide
 ·rcases List.mem_append.1 ht with ht|ht
  ·obtain ⟨p,hp,rfl⟩:=List.mem_map.1 ht;have hp:=(List.mem_filter.1 hp).1;rw [List.mem_reverse] at hp;obtain ⟨x,hx,rfl⟩:=List.mem_map.1 hp;exact h x hx
  ·rw [List.mem_singleton.1 ht];rfl
theorem E0 {A:aN} {x:FF} (hx:x∈fA A):aK x.p=true:=by
 unfold fA at hx
 rcases List.mem_append.1 hx with hx|hx
 ·obtain ⟨b,_,rfl⟩:=List.mem_map.1 hx;exact yl _
 ·rcases xg hx with rfl|rfl|rfl
  ·exact uW
  ·show aK bo=true;decide
  ·show aK bK=true;decide
section
variable {n:Nat} {A A':aN} {F:List FF} {r:Int} {B:Nat} {D D':DS}
theorem Sh.path (h:Sh n A F):∀ x∈F,aK x.p=true:=fun x hx=>by
 cases h with
 | rest=>exact E0 hx
 | one t =>
  rcases ln hx with rfl|hx
  ·exact kA
  ·exact E0 hx
 | two t u =>
  rcases ln hx with rfl|hx
  ·exact pM
  ·rcases ln hx with rfl|hx
   ·exact kA
   ·exact E0 hx
 | Aa l =>
  rcases ln hx with rfl|hx
  ·exact pM
  ·exact E0 hx
 | Bb cs h1 h2 h3 =>
  rcases ln hx with rfl|hx
  ·show aK cS=true;decide
  ·exact E0 (jA.1 hx).1
theorem Sh.len (h:Sh n A F) (hl:A.cs.length<=n):F.length<=n+5:=by
 cases h with
 | rest=>rw [xn];omega
 | one t =>
  have:=AP (key:=FF.p) (ff p0 t) (fA A);rw [xn] at this;omega
 | two t u =>
  have h1:=AP (key:=FF.p) (ff p0 t) (fA A);have h2:=AP (key:=FF.p) (ff p1 u) (ag FF.p (ff p0 t) (fA A));rw [xn] at h1;omega
 | Aa l =>
  have:=AP (key:=FF.p) (ff p1 (aL A.tg)) (fA ⟨A.cs,l⟩);rw [xn] at this;have e:(⟨A.cs,l⟩ : aN).cs.length=A.cs.length:=rfl;omega
 | Bb cs h1 h2 h3 =>
  have h4:=AP (key:=FF.p) (ff cS ⟨#[]⟩) (aB FF.p bo (fA ⟨cs,A.tg⟩));have h5:=Jz (key:=FF.p) bo (fA ⟨cs,A.tg⟩);rw [xn] at h5;have e:(⟨cs,A.tg⟩ : aN).cs.length=cs.length:=rfl;omega
theorem Qmf:∀ {F:List FF},(∀ x∈F,x.y<=(x.t.size:Int))->fD F (F.map fun x=>⟨x.p,x.t,(x.t.size:Int)⟩)
 | [],_=>trivial
 | x::_,h=>⟨Qmc (h x (by simp)),Qmf (fun y hy=>h y (by simp [hy]))⟩
theorem Wh.le (h:Wh D F r B):∀ x∈F,x.y<=(x.t.size:Int):=fun x hx=>by
 obtain ⟨g,hg,h1,h2⟩:=h.find hx;have:=(h.dS g (h.ay _ (r6 hg))).2.2;rw [h1,h2] at this;exact this
theorem Wh.paths (h:Wh D F r B) (hs:cA n A A' F):∀ x∈F,aK x.p=true:=fun x hx=>by
 have hm:(⟨x.p,x.t,(x.t.size:Int)⟩ : FF)∈F.map fun x=>⟨x.p,x.t,(x.t.size:Int)⟩:=List.mem_map.2 ⟨x,hx,rfl⟩
 rcases hs _ (Qmf h.le) with h1|h1
 ·exact h1.path (⟨x.p,x.t,(x.t.size:Int)⟩ : FF) hm
 ·exact h1.path (⟨x.p,x.t,(x.t.size:Int)⟩ : FF) hm
theorem QtK {k:Int} (h:vC D k D'):∃ m,bM D (nK eW D.R.now ++ [gQ]) k m D':=by
 obtain ⟨k1,m,D1,h1,h2⟩:=h
 rcases h2 with ⟨a1,a2,a3⟩|⟨a1,a2⟩
 ·rw [a2,a3];exact ⟨m,h1.stop _ a1⟩
 ·rw [a1] at h1;exact ⟨_,h1.app (bM.one a2)⟩
theorem Qr2:∀ {l:List bU},(∀ t∈l,t.k≠0)->eM l=0
 | [],_=>rfl
 | t::l,h=>by
  have e:eM (t::l)=t.sz+eM l:=by simp [eM]
  have e2:t.sz=0:=if_neg (h t (by simp));rw [e,e2,Qr2 (fun x hx=>h x (by simp [hx]))]
theorem au.IC {l:List bU} {L C:Nat} {k:Int} {m:Nat} (h:au D L C B) (hk:∀ t∈l,t.k≠0) (hr:bM D l k m D'):au D' (L+l.length) (C+l.length) B:=by
 have:=h.ran hr;rwa [Qr2 hk] at this
structure kB (n:Nat) (A:aN) (r:Int) (m:Nat) (D:DS) (k:Int) (D':DS):Prop where
 k0:k=0
 gd:Gd (cA n A A) r 2000 (aH D')
 ft:D.R.left = -1->dY D' (fA A) r 2000
 fit:∀ {L C B:Nat},au D L C B->au D' (L+m) (C+m) B
theorem Qh1 (h:D.R.left = -1):aH D=D:=by
 obtain ⟨⟨room,now,safe,aw,count,left⟩,fs,fd⟩:=D;simp only at h;subst h;rfl
theorem NY {hd:List bU} {F1:List FF} {m:Nat} {k:Int} (hw:Wh (aH D) F r 2000) (hi:Hi (aH D) (cA n A A)) (hk:∀ t∈hd,t.k≠0) (ho:∀ t∈hd,pj t=true) (c1:xv (cA n A A) r 2000 F hd F1) (c2:xv (cA n A A) r 2000 F1 (uo F1 ++ [gQ]) (fA A)) (hm:hd.length+(uo F1).length+1<=m) (hr:EZ hd D k D'):kB n A r m D k D':=by
 obtain ⟨k1,m1,D1,h1,h2⟩:=hr;obtain ⟨hk1,hc⟩:=QS hk ho hw hi c1 h1
 rcases h2 with ⟨h2,_⟩|⟨_,hg⟩
 ·exact absurd hk1 h2
 obtain ⟨m2,h3⟩:=QtK hg
 rcases hc with ⟨hl,hgd⟩|⟨eR,EL,jF⟩
 ·obtain ⟨F0,hw0,Lg⟩:=hgd.2;have hv:iQ D1=F0:=hw0.vw;rw [Wp hv] at h3;obtain ⟨e1,e2⟩:=Fz (Qr1 (hw0.paths Lg)).2 hl h3;rw [e2];refine ⟨e1,hgd,fun h=>?_,fun hf=>(hf.IC hk h1).mono (by omega) (by omega) (Nat.le_refl _)⟩;rw [Qh1 h] at hw hi;have:=(JZ hk hw hi c1 h1).2.1.left;rw [hl] at this
  cases this
 ·have hv:iQ D1=F1:=eR.vw;obtain ⟨o1,o2⟩:=Qr1 (eR.paths jF);rw [Wp hv] at h3;obtain ⟨e1,hc2⟩:=QS o1 o2 eR EL c2 h3;refine ⟨e1,?_,fun h=>?_,fun hf=>?_⟩
  ·rcases hc2 with ⟨_,hgd⟩|⟨a1,a2,a3⟩
   ·exact hgd
   ·exact ⟨a2,_,a1,a3⟩
  ·rw [Qh1 h] at hw hi;obtain ⟨_,b1,b2,_⟩:=JZ hk hw hi c1 h1;obtain ⟨_,d1,_,_⟩:=JZ o1 b1 b2 c2 h3;obtain ⟨k9,m9,D9,g1,g2⟩:=hg;rw [Wp hv] at g1
   rcases g2 with ⟨g2,g3,_⟩|⟨_,g2⟩
   ·exact absurd (g3.symm.trans e1) g2
   ·have QE:¬ D9.R.left=0:=fun e9=>by
     have g2:(k,D')=pc D9:=g2;unfold pc at g2;rw [if_pos e9] at g2;injection g2 with _ g2
     have:=d1.left;rw [g2,e9] at this
     cases this
    obtain ⟨_,rfl⟩:=KR g2 QE;exact ⟨d1,rfl,rfl,uq A⟩
  ·have:=(hf.IC hk h1).IC o1 h3;rw [List.length_append,List.length_singleton] at this;exact this.mono (by omega) (by omega) (Nat.le_refl _)
theorem Wq:xv (cA n A A) r B (fA A) (uo (fA A) ++ [gQ]) (fA A):=by
 have e:uo (fA A) = []:=by unfold uo;rw [J2];rfl
 rw [e];exact ⟨cA.rest,_,Mv.sd,cA.rest,rfl⟩
theorem dY.NZ (h:dY (aH D) F r 2000) (hs:Sh n A F):Hi (aH D) (cA n A A):=h.hi hs.E1
theorem Ws {k:Int} (hF:F=fA A∨(∃ t,F=ag FF.p (ff p0 t) (fA A))∨∃ t u,F=ag FF.p (ff p1 u) (ag FF.p (ff p0 t) (fA A))) (h:dY (aH D) F r 2000) (hA:aq kC A.cs) (hr:vC D k D'):kB n A r 3 D k D':=by
 have nA:=pG hA;have hx:EZ [] D k D':=⟨0,0,D,⟨rfl,rfl,rfl⟩,.inr ⟨rfl,hr⟩⟩;have n0:∀ t∈([]:List bU),t.k≠0:=fun t ht=>by cases ht
 have n1:∀ t∈([]:List bU),pj t=true:=fun t ht=>by cases ht
 have e0:uo (fA A) = []:=by unfold uo;rw [J2];rfl
 have hend:xv (cA n A A) r 2000 (fA A) [gQ] (fA A):=⟨cA.rest,_,Mv.sd,cA.rest,rfl⟩
 rcases hF with rfl|⟨t,rfl⟩|⟨t,u,rfl⟩
 ·exact NY (F1:=fA A) h.wh (h.NZ .rest) n0 n1 ⟨cA.rest,rfl⟩ Wq (by rw [e0];decide) hx
 ·have e:uo (ag FF.p (ff p0 t) (fA A)) = [fM p0]:=Qvi A t;refine NY (F1:=ag FF.p (ff p0 t) (fA A)) h.wh (h.NZ (.one t)) n0 n1 ⟨Sh.E1 (.one t),rfl⟩ ?_ (by rw [e];decide) hx;rw [e];exact ⟨Sh.E1 (.one t),fA A,(Mv.rm (x:=ff p0 t) kA (ot nA _)).eq (Ba (x:=ff p0 t) nA (uV A)),hend⟩
 ·have e:uo (ag FF.p (ff p1 u) (ag FF.p (ff p0 t) (fA A))) = [fM p1,fM p0]:=Qvj A t u;have r1:=eA (key:=FF.p) (ff p0 t) nA;have jF:aQ FF.p p1 (ag FF.p (ff p0 t) (fA A))=none:=by
   rw [fw _ _ nA,if_neg (show ¬ p1=(ff p0 t).p by show ¬ p1=p0;decide)];exact xj A
  refine NY (F1:=ag FF.p (ff p1 u) (ag FF.p (ff p0 t) (fA A))) h.wh (h.NZ (.two t u)) n0 n1 ⟨Sh.E1 (.two t u),rfl⟩ ?_ (by rw [e];decide) hx;rw [e];exact ⟨Sh.E1 (.two t u),_,(Mv.rm (x:=ff p1 u) pM (ot r1 _)).eq (Ba (x:=ff p1 u) r1 jF),Sh.E1 (.one t),fA A,(Mv.rm (x:=ff p0 t) kA (ot nA _)).eq (Ba (x:=ff p0 t) nA (uV A)),hend⟩
theorem Qr3 {l:List TE} (hA:aq kC A.cs):Mv r B (ag FF.p (ff p1 (aL A.tg)) (fA ⟨A.cs,l⟩)) (gv p1 bB) (fA A):=by
 have gL:=pG (A:=⟨A.cs,l⟩) hA;refine (Mv.rn pM uW (by decide) (ot gL (ff p1 (aL A.tg)))).eq ?_;show ag FF.p (ff bB (aL A.tg)) (aB FF.p p1 _)=_;rw [show aB FF.p p1 (ag FF.p (ff p1 (aL A.tg)) (fA ⟨A.cs,l⟩))=fA ⟨A.cs,l⟩ from Ba (x:=ff p1 (aL A.tg)) gL (xj _)];exact Mq (A:=⟨A.cs,l⟩) hA A.tg
theorem QX:(∀ t∈[gv p1 bB],t.k≠0)/\∀ t∈[gv p1 bB],pj t=true:=by
 refine ⟨fun t ht=>?_,fun t ht=>?_⟩
 ·rw [List.mem_singleton.1 ht];show (3:Nat)≠0;decide
 ·rw [List.mem_singleton.1 ht];show (aK p1 && aK bB)=true;rw [pM,uW];rfl
theorem QtL {l:List TE} {k:Int} (h:dY (aH D) (ag FF.p (ff p1 (aL A.tg)) (fA ⟨A.cs,l⟩)) r 2000) (hA:aq kC A.cs) (hr:EZ [gv p1 bB] D k D'):kB n A r 3 D k D':=by
 have e0:uo (fA A) = []:=by unfold uo;rw [J2];rfl
 exact NY (F1:=fA A) h.wh (h.NZ (.Aa l)) QX.1 QX.2 ⟨Sh.E1 (.Aa l),fA A,Qr3 hA,cA.rest,rfl⟩ Wq (by rw [e0];decide) hr
theorem QtM {cs:List ByteArray} {k:Int} (h:dY (aH D) (lH cs A.tg) r 2000) (h1:aq kC cs) (h2:cs.length<=n) (h3:A.cs=cs.filter (fun b=>bD (ak b) A.tg)) (hr:EZ (mQ (dp A.tg (cs.map nz))) D k D'):kB n A r (cs.length+3) D k D':=by
 have e0:uo (fA A) = []:=by unfold uo;rw [J2];rfl
 obtain ⟨u1,u2,u3⟩:=V6 (tg:=A.tg) h1;obtain ⟨o1,o2⟩:=V7 (dp A.tg (cs.map nz));have hA:(⟨cs.filter (fun b=>bD (ak b) A.tg),A.tg⟩ : aN)=A:=by rw [<- h3]
 have hc:=QP (P:=cA n A A) (r:=r) (B:=2000) (tg:=A.tg) (dp A.tg (cs.map nz)) cs h1 (fun cs' a1 a2 a3=>Sh.E1 (.Bb cs' a1 (Nat.le_trans a2 h2) (h3.trans a3.symm))) (by rw [hA];exact cA.rest) u1 u2 u3;rw [hA] at hc;refine NY (F1:=fA A) h.wh (h.NZ (.Bb cs h1 h2 h3)) o1 o2 hc Wq ?_ hr;have hl:(dp A.tg (cs.map nz)).length<=(cs.map nz).length:=List.length_filter_le _ _;rw [List.length_map] at hl;rw [e0];unfold mQ oN;rw [List.length_append,List.length_map];show _+2+0+1<=_;omega
end
structure eJ where
 k:Int
 n:Int
 b:Int
def Mc:eJ:=⟨0,0,0⟩
def eJ.ok (t:eJ):Prop:=cE t.k/\cE t.n/\cE t.b
def eJ.cells (t:eJ):List Value:=[.int .i64 t.k,.int .i64 t.n,.int .i64 t.b]
def jx (N:Nat) (w:World) (oa:Option Addr) (l:List eJ):Prop:=∀ i,i<l.length->∃ b o,oa=some ⟨b,o,none⟩/\b<N/\w.rangeAt b (o+i * 3) (l.getD i Mc).cells/\(l.getD i Mc).ok
theorem jx.low {N:Nat} {w w':World} {oa:Option Addr} {l:List eJ} (h:jx N w oa l) (hb:∀ k,k<N->w'.heap[k]? = w.heap[k]?):jx N w' oa l:=fun i hi=>by
 obtain ⟨b,o,h1,h2,h3,h4⟩:=h i hi;exact ⟨b,o,h1,h2,fun j v hj=>(World.cell?_of_block (a:=⟨b,o+i * 3+j,none⟩) (hb b h2)).trans (h3 j v hj),h4⟩
theorem QlA {w w':World} {xb sb cb tb zx:Nat} {s s':ai} {k:Nat} (hg:ar (sS xb sb cb) s s' w w') (ht:zx=tb∨w.heap.size<=zx) (hk:oJ s' xb sb cb zx k):oJ s xb sb cb tb k∨w.heap.size<=k:=by
 rcases hk with e|e|e
 ·exact (hg.own k e).imp .inl id
 ·exact .inl (.inr (.inl e))
 ·rcases ht with ht|ht
  ·exact .inl (.inr (.inr (e.trans ht)))
  ·right
   rw [e];exact ht
theorem wrap_i64 (x:Int):cE (IntKind.i64.wrap x):=by
 unfold cE IntKind.wrap;simp [IntKind.bits,IntKind.signed];omega
end Go.Proofs.YtncigfibncmioaaGreatDoor
