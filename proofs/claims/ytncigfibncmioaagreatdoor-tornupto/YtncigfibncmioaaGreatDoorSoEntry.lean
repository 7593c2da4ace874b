/-
  PROVED HERE: a whole disk's steps, as lists of files; no walk.
-/
import Derived.Test.YtncigfibncmioaaGreatDoorSmDig
import Derived.Test.YtncigfibncmioaaGreatDoorKDecB
set_option maxHeartbeats 4000000
set_option maxRecDepth 100000
namespace Go.Proofs.YtncigfibncmioaaGreatDoor
open Go.RowKit
structure FF where
 p:ByteArray
 t:ByteArray
 y:Int
def eu (fd:Nat->ByteArray × Int) (e:DE):FF:=⟨e.path,(fd e.blk).1,(fd e.blk).2⟩
def iQ (D:DS):List FF:=D.R.now.map (eu D.fd)
def dZ (F:List FF):Nat:=(F.map fun x=>x.t.size).sum
structure Wh (D:DS) (F:List FF) (r:Int) (B:Nat):Prop where
 vw:iQ D=F
 left:D.R.left = -1
 room:D.R.room=r
 inj:∀ e∈D.R.now,∀ e'∈D.R.now,e.blk=e'.blk->e=e'
 ay:∀ e∈D.R.now,e.blk∈D.fs
 cH:∀ e∈D.R.safe,e.blk∈D.fs
 er:∀ c∈D.R.aw,c.blk∈D.fs
 inv:Inv D.R
 rise:bZ D.R.safe
 dS:∀ f∈D.fs,dA B (D.fd f)
 ql:kd D.R.aw
theorem QlP (fd:Nat->ByteArray × Int):∀ l:List DE,gH fd l=dZ (l.map (eu fd))
 | []=>rfl
 | e::es=>by
  show _=((eu fd e::es.map (eu fd)).map fun x=>x.t.size).sum;unfold gH;rw [QlP fd es];simp [dZ,eu]
theorem Wh.used {D:DS} {F:List FF} {r:Int} {B:Nat} (h:Wh D F r B):gH D.fd D.R.now=dZ F:=by rw [QlP,<- h.vw];rfl
theorem Wh.oK {D:DS} {F:List FF} {r:Int} {B:Nat} (h:Wh D F r B):bZ D.R.now:=by
 have:=Fl D.R.aw h.rise;rwa [<- h.inv.go] at this
theorem Wh.ei {D:DS} {F:List FF} {r:Int} {B:Nat} (h:Wh D F r B):aq FF.p F:=by
 rw [<- h.vw];unfold iQ aq;rw [List.pairwise_map];exact h.oK
theorem JN (fd:Nat->ByteArray × Int) (p:ByteArray):∀ l:List DE,aQ FF.p p (l.map (eu fd))=(aO p l).map fun g=>⟨p,(fd g).1,(fd g).2⟩
 | []=>rfl
 | e::es=>by
  rw [List.map_cons,ib,JN fd p es];show _=(if e.path=p then some e.blk else aO p es).map _
  by_cases h:e.path=p
  ·rw [if_pos (show (eu fd e).p=p from h),if_pos h];subst h;rfl
  ·rw [if_neg (show ¬ (eu fd e).p=p from h),if_neg h]
theorem Wh.look {D:DS} {F:List FF} {r:Int} {B:Nat} (h:Wh D F r B) (p:ByteArray):aQ FF.p p F=(aO p D.R.now).map fun g=>⟨p,(D.fd g).1,(D.fd g).2⟩:=by
 rw [<- h.vw];exact JN _ _ _
theorem Wh.find {D:DS} {F:List FF} {r:Int} {B:Nat} (h:Wh D F r B) {x:FF} (hx:x∈F):∃ g,aO x.p D.R.now=some g/\(D.fd g).1=x.t/\(D.fd g).2=x.y:=by
 have:=h.look x.p;rw [lD h.ei hx] at this
 cases hf:aO x.p D.R.now with
 | none=>rw [hf] at this;cases this
 | some g =>
  rw [hf] at this;injection this with this
  exact ⟨g,rfl,by rw [this],by rw [this]⟩
theorem Wh.out {D:DS} {F:List FF} {r:Int} {B:Nat} (h:Wh D F r B) {p:ByteArray} (hp:aQ FF.p p F=none):aO p D.R.now=none:=by
 have:=h.look p;rw [hp] at this
 cases hf:aO p D.R.now with
 | none=>rfl
 | some g=>rw [hf] at this;cases this
theorem Wh.ne {D:DS} {F:List FF} {r:Int} {B:Nat} (h:Wh D F r B):aQ FF.p ⟨#[]⟩ F=none:=by
 rw [<- h.vw];refine Et fun x hx=>?_
 obtain ⟨e,he,rfl⟩:=List.mem_map.1 hx;exact h.inv.kg e he
theorem r6 {p:ByteArray} {g:Nat}:∀ {l:List DE},aO p l=some g->(⟨p,g⟩ : DE)∈l
 | [],h=>by cases h
 | e::es,h=>by
  unfold aO at h
  by_cases he:e.path=p
  ·rw [if_pos he] at h;injection h with h
   subst he h;simp
  ·rw [if_neg he] at h;simp [r6 h]
theorem QqM {l:List DE} (hr:bZ l) {e:DE} (he:e∈l):aO e.path l=some e.blk:=by
 have h1:=lD (key:=FF.p) (l:=l.map (eu fun _=>(⟨#[]⟩,0))) (by unfold aq;rw [List.pairwise_map];exact hr) (List.mem_map_of_mem he)
 induction l with
 | nil=>cases he
 | cons f fs ih =>
  obtain ⟨h2,h3⟩:=List.pairwise_cons.1 hr;unfold aO
  rcases List.mem_cons.1 he with rfl|he
  ·simp
  ·have hne:f.path≠e.path:=fun e1=>by have:=h2 e he;rw [e1,mo] at this;cases this
   rw [if_neg hne];refine ih h3 he ?_;rw [List.map_cons,ib,if_neg (show ¬ (eu _ f).p=(eu _ e).p from hne)] at h1;exact h1
theorem Wh.push {D:DS} {F G:List FF} {r:Int} {B:Nat} (h:Wh D F r B) {c:CH} {Bz:List Nat} {uB:Nat->ByteArray × Int} (hr:aq FF.p G) (hG0:aQ FF.p ⟨#[]⟩ G=none)
  (hG:∀ x,x≠⟨#[]⟩->aQ FF.p x G=(if x=c.too then some c.blk else if x=c.bg then none else aO x D.R.now).map fun g=>⟨x,(uB g).1,(uB g).2⟩)
  (ke:∀ f∈D.fs,f∈Bz) (hb:c.blk∈Bz) (hd:∀ f∈Bz,dA B (uB f)) (hp:c.bg.size<=1000000000/\c.too.size<=1000000000) (hi:c.too=⟨#[]⟩∨(∀ x,aO x D.R.now=some c.blk->x=c.bg)) :
  Wh ⟨dz.wrote { D.R with now:=cC D.R.now c,aw:=D.R.aw ++ [c] },Bz,uB⟩ G r B:=by
 have ha:cC D.R.now c=mq D.R.now c.bg c.too c.blk:=Ov h.inv.kg c;have hinv:Inv { D.R with now:=cC D.R.now c,aw:=D.R.aw ++ [c] }:=by
  have:=h.inv.push c;rw [<- ha] at this;exact this
 have hrN:bZ (cC D.R.now c):=by rw [ha];exact Yp h.oK _ _ _
 have EH:∀ x,x≠⟨#[]⟩->aO x (cC D.R.now c)=if x=c.too then some c.blk else if x=c.bg then none else aO x D.R.now:=fun x hx=>by rw [ha];exact Yq h.oK _ _ _ hx
 have bc:∀ e∈cC D.R.now c,e.path≠⟨#[]⟩/\((e.path=c.too/\e.blk=c.blk)∨(e.path≠c.too/\e.path≠c.bg/\aO e.path D.R.now=some e.blk)):=by
  intro e he;have hne:e.path≠⟨#[]⟩:=hinv.kg e he;have h1:=QqM hrN he;rw [EH _ hne] at h1;refine ⟨hne,?_⟩
  by_cases h2:e.path=c.too
  ·rw [if_pos h2] at h1;injection h1 with h1
   exact .inl ⟨h2,h1.symm⟩
  ·rw [if_neg h2] at h1
   by_cases h3:e.path=c.bg
   ·rw [if_pos h3] at h1
    cases h1
   ·rw [if_neg h3] at h1;exact .inr ⟨h2,h3,h1⟩
 refine ⟨?_,DF h.left,h.room,?_,?_,fun e he=>ke _ (h.cH e he),?_,hinv.wrote,h.rise,hd,?_⟩
 ·refine rZ (key:=FF.p) (by unfold iQ aq;rw [List.pairwise_map];exact hrN) hr (fun x=>?_)
  by_cases hx:x=⟨#[]⟩
  ·subst hx;rw [hG0];refine Et fun y hy=>?_
   obtain ⟨e,he,rfl⟩:=List.mem_map.1 hy;exact hinv.kg e he
  ·rw [hG x hx,<- EH x hx];exact JN _ _ _
 ·intro e he e' vE pA;obtain ⟨n1,m1⟩:=bc e he;obtain ⟨n2,m2⟩:=bc e' vE;have dV:e.path=e'.path:=by
   rcases m1 with ⟨a1,a2⟩|⟨a1,a2,a3⟩
   ·rcases m2 with ⟨b1,b2⟩|⟨b1,b2,b3⟩
    ·rw [a1,b1]
    ·rcases hi with hi|hi
     ·rw [hi] at a1;exact absurd a1 n1
     ·exact absurd (hi _ (by rw [b3,<- pA,a2])) b2
   ·rcases m2 with ⟨b1,b2⟩|⟨b1,b2,b3⟩
    ·rcases hi with hi|hi
     ·rw [hi] at b1;exact absurd b1 n2
     ·exact absurd (hi _ (by rw [a3,pA,b2])) a2
    ·have:=h.inj _ (r6 a3) _ (r6 b3) pA;injection this
  obtain ⟨pe,be⟩:=e;obtain ⟨pe',be'⟩:=e';simp only at dV pA;rw [dV,pA]
 ·intro e he
  rcases (bc e he).2 with ⟨_,a2⟩|⟨_,_,a3⟩
  ·rw [a2];exact hb
  ·exact ke _ (h.ay _ (r6 a3))
 ·intro c' hc'
  rcases List.mem_append.1 hc' with hc'|hc'
  ·exact ke _ (h.er c' hc')
  ·simp only [List.mem_singleton] at hc';subst hc';exact hb
 ·intro c' hc'
  rcases List.mem_append.1 hc' with hc'|hc'
  ·exact h.ql c' hc'
  ·simp only [List.mem_singleton] at hc';subst hc';exact hp
theorem P7 {p:ByteArray} (h:aK p=true):p≠⟨#[]⟩:=by
 rintro rfl
 revert h
 decide
theorem JO {p:ByteArray} (h:aK p=true):p.size<=80:=by
 simp [aK] at h;omega
theorem Wh.ap {D D':DS} {F:List FF} {r:Int} {B:Nat} {k:Int} {p dt:ByteArray} (h:Wh D F r B) (hs:fK D (oB p dt) k D') (hp:aK p=true) (hf:aQ FF.p p F=none) (hB:dt.size<=B) :
  ((dZ F:Int)+(dt.size:Int)<=r/\k=0/\Wh D' (ag FF.p ⟨p,dt,0⟩ F) r B)∨(r<(dZ F:Int)+(dt.size:Int)/\k=4/\D'=D):=by
 by_cases hroom:(dZ F:Int)+(dt.size:Int)<=r
 ·obtain ⟨f,hfn,h0,rfl⟩:=KU hs hp (by rw [h.left];decide) (by rw [h.used,h.room];exact hroom) (h.out hf);refine .inl ⟨hroom,h0,?_⟩;have hold:∀ x g,aO x D.R.now=some g->g≠f:=fun x g hx e=>hfn (by rw [<- e];exact h.ay _ (r6 hx))
  refine h.push (c:=⟨⟨#[]⟩,p,f⟩) (eA _ h.ei) ?_ ?_ (fun x hx=>by simp [hx]) (by simp) ?_ ⟨by show (⟨#[]⟩ : ByteArray).size<=_;decide,by have:=JO hp;show p.size<=_;omega⟩ (.inr fun x hx=>absurd rfl (hold x f hx))
  ·rw [fw _ _ h.ei,if_neg (fun e=>P7 hp e.symm)];exact h.ne
  ·intro x hx;rw [fw _ _ h.ei]
   by_cases pK:x=p
   ·subst pK;simp [cB]
   ·rw [if_neg pK,if_neg pK,if_neg hx,h.look x]
    cases hg:aO x D.R.now with
    | none=>rfl
    | some g=>simp [cB,hold x g hg]
  ·intro g hg;unfold cB
   by_cases Bp:g=f
   ·rw [if_pos Bp];exact ⟨hB,by omega,by show (0:Int)<=_;omega⟩
   ·rw [if_neg Bp]
    rcases List.mem_cons.1 hg with hg|hg
    ·exact absurd hg Bp
    ·exact h.dS g hg
 ·obtain ⟨f,hfn,hs⟩ : ∃ f,f ∉ D.fs/\(k,D')=pQ D p dt f:=hs;have Ja:D.R.room - (gH D.fd D.R.now:Int)<(dt.size:Int):=by rw [h.room,h.used];omega
  have hl:¬ D.R.left=0:=by rw [h.left];decide
  simp [pQ,hp,hl,Ja] at hs;exact .inr ⟨by omega,hs.1,hs.2⟩
theorem Wh.sy {D D':DS} {F:List FF} {r:Int} {B:Nat} {k:Int} {p t:ByteArray} {y:Int} (h:Wh D F r B) (hs:fK D (oC p) k D') (hp:aK p=true) (hx:(⟨p,t,y⟩ : FF)∈F) :
  k=0/\Wh D' (ag FF.p ⟨p,t,(t.size:Int)⟩ F) r B:=by
 obtain ⟨g,hg,ht,hy⟩:=h.find hx;obtain ⟨h0,rfl⟩:=KV hs hp (by rw [h.left];decide) hg;simp only at ht;refine ⟨h0,?_,DF h.left,h.room,h.inj,h.ay,h.cH,h.er,h.inv.wrote,h.rise,?_,h.ql⟩
 ·refine rZ (key:=FF.p) (by unfold iQ aq;rw [List.pairwise_map];exact h.oK) (eA _ h.ei) (fun x=>?_);rw [fw _ _ h.ei];show aQ FF.p x (D.R.now.map (eu (cB D.fd g ((D.fd g).1,((D.fd g).1.size:Int)))))=_;rw [JN]
  by_cases pK:x=p
  ·subst pK;rw [if_pos rfl,show aO x D.R.now=some g from hg];simp [cB,ht]
  ·rw [if_neg pK,h.look x]
   cases hf:aO x D.R.now with
   | none=>rfl
   | some f =>
    have AB:f≠g:=fun e=>by
     subst e;have:=h.inj _ (r6 hf) _ (r6 hg) rfl;injection this with this
     exact pK this
    simp [cB,AB]
 ·intro f hf;have hd:=h.dS f hf;unfold uD cB;dsimp only
  by_cases AB:f=g
  ·rw [if_pos AB,<- AB];exact ⟨hd.1,by show (0:Int)<=_;omega,Int.le_refl _⟩
  ·rw [if_neg AB];exact hd
theorem Wh.rn {D D':DS} {F:List FF} {r:Int} {B:Nat} {k:Int} {p q t:ByteArray} {y:Int} (h:Wh D F r B) (hs:fK D (gv p q) k D') (hp:aK p=true) (hq:aK q=true) (oA:p≠q) (hx:(⟨p,t,y⟩ : FF)∈F) :
  k=0/\Wh D' (ag FF.p ⟨q,t,y⟩ (aB FF.p p F)) r B:=by
 obtain ⟨g,hg,ht,hy⟩:=h.find hx;obtain ⟨h0,rfl⟩:=KW hs hp hq oA (by rw [h.left];decide) hg;simp only at ht hy hg;refine ⟨h0,h.push (c:=⟨p,q,g⟩) (eA _ (iT _ h.ei)) ?_ ?_ (fun _ h=>h) (h.ay _ (r6 hg)) h.dS ⟨by have:=JO hp;show p.size<=_;omega,by have:=JO hq;show q.size<=_;omega⟩ (.inr fun x hx2=>?_)⟩
 ·rw [fw _ _ (iT _ h.ei),if_neg (fun e=>P7 hq e.symm),qX,if_neg (fun e=>P7 hp e.symm)];exact h.ne
 ·intro x hx2;rw [fw _ _ (iT _ h.ei),qX,h.look x]
  by_cases hxq:x=q
  ·subst hxq;simp [ht,hy]
  ·simp only [if_neg hxq]
   by_cases pK:x=p
   ·simp [pK]
   ·simp [pK]
 ·have:=h.inj _ (r6 hx2) _ (r6 hg) rfl;injection this
theorem Wh.rm {D D':DS} {F:List FF} {r:Int} {B:Nat} {k:Int} {x:FF} (h:Wh D F r B) (hs:fK D (fM x.p) k D') (hp:aK x.p=true) (hx:x∈F) :
  k=0/\Wh D' (aB FF.p x.p F) r B:=by
 obtain ⟨g,hg,ht,hy⟩:=h.find hx;obtain ⟨h0,rfl⟩:=RQ hs hp (by rw [h.left];decide) hg;refine ⟨h0,h.push (c:=⟨x.p,⟨#[]⟩,g⟩) (iT _ h.ei) ?_ ?_ (fun _ h=>h) (h.ay _ (r6 hg)) h.dS ⟨by have:=JO hp;show x.p.size<=_;omega,by show (⟨#[]⟩ : ByteArray).size<=_;decide⟩ (.inl rfl)⟩
 ·rw [qX,if_neg (fun e=>P7 hp e.symm)];exact h.ne
 ·intro y Ed;rw [qX,h.look y,if_neg Ed]
  by_cases pK:y=x.p
  ·simp [pK]
  ·simp [pK]
theorem Wh.sd {D D':DS} {F:List FF} {r:Int} {B:Nat} {k:Int} (h:Wh D F r B) (hs:fK D gQ k D'):k=0/\Wh D' F r B/\D'.R.safe=D'.R.now/\D'.R.aw = []:=by
 obtain ⟨h0,rfl⟩:=KR hs (by rw [h.left];decide);exact ⟨h0,⟨h.vw,DF h.left,h.room,h.inj,h.ay,h.ay,fun c hc=>(by cases hc),h.inv.sync.wrote,h.oK,h.dS,fun c hc=>(by cases hc)⟩,rfl,rfl⟩
structure dY (D:DS) (F:List FF) (r:Int) (B:Nat):Prop where
 wh:Wh D F r B
 safe:D.R.safe=D.R.now
 aw:D.R.aw = []
 vh:∀ x∈F,x.y=(x.t.size:Int)
theorem dY.fit {D:DS} {F:List FF} {r:Int} {B C:Nat} (h:dY D F r B) (hc0:0<=D.R.count) (hc:D.R.count<=(C:Int)) (gL:0<=r) (hr1:r<=9223372036854775807):au D F.length C B :=
 ⟨by rw [h.aw,h.safe,<- h.wh.vw];simp [iQ],hc0,hc,by rw [h.wh.left];decide,by rw [h.wh.left];decide,by rw [h.wh.room];exact gL,by rw [h.wh.room];exact hr1,h.wh.dS,h.wh.ql,h.wh.inv,h.wh.ay,h.wh.cH,h.wh.er,h.wh.rise⟩
def qw:ByteArray:=⟨#[98,97,55,56,49,54,98,102,56,102,48,49,99,102,101,97,52,49,52,49,52,48,100,101,53,100,97,101,50,50,50,51,98,48,48,51,54,49,97,51,57,54,49,55,55,97,57,99,98,52,49,48,102,102,54,49,102,50,48,48,49,53,97,100]⟩
theorem YR:fV (ak ⟨#[97,98,99]⟩)=qw:=by kernel_rfl
theorem Qt7 (r:Int) (h0:0<=r) (h1:r<=9223372036854775807) (fd:Nat->ByteArray × Int):Er ⟨⟨r,[],[],[],0, -1⟩,[],fd⟩/\au ⟨⟨r,[],[],[],0, -1⟩,[],fd⟩ 6 0 36:=by
 have hinv:Inv ⟨r,[],[],[],0, -1⟩:=⟨rfl,fun e he=>by cases he⟩;have hr:bZ []:=List.Pairwise.nil;refine ⟨⟨⟨fun m=>.inl ?_,fun m e he=>?_,fun f hf=>(by cases hf),hr,hinv⟩,rfl⟩,⟨Nat.zero_le _,Int.le_refl _,Int.le_refl _,Int.le_refl _,(by show (-1:Int)<=_;omega),h0,h1,fun f hf=>(by cases hf),fun c hc=>(by cases hc),hinv,fun e he=>(by cases he),fun e he=>(by cases he),fun c hc=>(by cases hc),hr⟩⟩
 ·show aO bK (fh [] (List.take m []))=none;rw [List.take_nil];rfl
 ·have he:e∈fh [] (List.take m []):=he;rw [List.take_nil] at he
  cases he
theorem QnD {w:World} {B:Nat} {v:Value} {x y z:Value} (h:w.ownsRow B 83 3 v 1 [x,y,z]):∃ g c,v = .slice (some ⟨g,0,none⟩) 1 c/\B<=g/\w.cell? ⟨g,0,none⟩=some x/\w.cell? ⟨g,1,none⟩=some y/\w.cell? ⟨g,2,none⟩=some z:=by
 obtain ⟨hlen,h2⟩:=h
 rcases h2 with ⟨_,h2⟩|⟨g,cap,cur,rfl,hB,hg,_,_,hsz,cN⟩
 ·cases h2
 ·have key:∀ j,j<3->cur[j]? = ([x,y,z]:List Value)[j]?:=by
   intro j hj;rw [<- cN,List.getElem?_take,if_pos (by omega)];simp
  refine ⟨g,cap,rfl,hB,?_,?_,?_⟩
  ·rw [cell_of_row _ _ 0 _ _ _ hg,key 0 (by omega)];rfl
  ·rw [cell_of_row _ _ 1 _ _ _ hg,key 1 (by omega)];rfl
  ·rw [cell_of_row _ _ 2 _ _ _ hg,key 2 (by omega)];rfl
end Go.Proofs.YtncigfibncmioaaGreatDoor
namespace Go.Proofs.YtncigfibncmioaaGreatDoor
open Go.RowKit Go.Shelf Go.Maps Go.Sort
abbrev DV:={ d:List Nat // gz d }
def DV.enc (x:DV):List Value:=(ah x.1).toList
def Uz (cl:List (List Nat)) (xs:List DV):Prop:=xs.Nodup/\∀ x,x∈xs ↔ x.1∈cl
theorem QqK (F:Fence) (n:Nat) (hf:F.fn 161) (hro:F.round=none) (hn:1<=n) (l Bm b nn:Nat) (cl:List (List Nat)) (aF:∀ d∈cl,gz d) (J Jx:List DV->World->Prop)
  (hY:∀ pre x W,J pre W->pre.length<cl.length->YieldAt F (n - 1) Tryz.prog l #[.agg (ah x.1)] W fun e W' =>
   (e = .returned (.bool true)/\J (pre ++ [x]) W'/\KeepsWalks W W')∨(e = .returned (.bool false)/\Jx (pre ++ [x]) W'))
  (W:World) (hJ:AbidesFrom W.heap.size J) (hm:W.cell? ⟨Bm,0,none⟩=some (.map (some b))) (hown:CM W b nn (cD cl)) (h0:J [] W) :
  CallsIn F n Tryz.prog 161 #[.func (.yield l) #[] #[],.pointer (some ⟨Bm,0,none⟩)] W fun e W'=>(∃ v,e = .returned v) /\
   ((∃ xs,Uz cl xs/\J xs W')∨(∃ pre,True/\Jx pre W')):=by
 have ba:aq dK cl:=GQ hown rY;have ji:=(zero_of_info Tryz.bY).1;refine callsIn_of_wp Tryz.func161 rfl hf ?_ hro;simp only [Tryz.ntmps161,List.size_toArray,List.length_cons,List.length_nil,Nat.reduceAdd,Nat.reduceSub,Array.replicate_succ,Array.replicate_zero,List.push_toArray,List.append_toArray,List.nil_append,List.cons_append]
 gi_wp2_with (first
  | (gi_at_range;refine wpListIn_range_own _ rfl _ 156 rfl 117 100 rY Tryz.underlying156 _ b nn _ rfl hown ?_;intro w0 hrg0 hg0 hs0)
  | gi_in)
 go_frame
 gi_loopw [] (fun wr=>∃ (left:Lit->Bool) (cnt:Nat) (ps:List DV),wr.ranges Tryz.prog 117 fG b W.heap.size nn (cD cl) left cnt/\ps.length+cnt<=cl.length/\ps.Nodup/\(∀ x∈ps,x.1∈cl)/\(∀ kl,left kl=true->Maps.has (cD cl) kl=true)/\(∀ d (hd:d∈cl),left (dy d)=false ↔ (⟨d,aF d hd⟩ : DV)∈ps)/\J ps wr)
  (fun wr=>wr.rangeLeft b W.heap.size)
 case atStart =>
  exact ⟨_,_,[],hrg0,by rw [JH];simp,List.nodup_nil,fun x hx=>(by cases hx),fun kl h=>h,fun d hd=>(by
   rw [Ub aF (aF d hd)];simp [hd]),hJ [] W w0 none h0 hg0 (fun r e=>by cases e)⟩
 case round =>
  obtain ⟨left,cnt,ps,hrg,hcs,M4,cJ,nj,wA,hJs⟩:=hrel
  gi_wp2_with (first
   | (gi_at_next;refine wpListIn_next_ranges _ rfl _ rfl 117 rY fG (fun c:Value=>c) (fun c:Value=>c) (fun key kl hk=>⟨key,rfl⟩) (fun v y hv=>⟨v,rfl⟩) b W.heap.size nn _ _ _ rfl hrg ?_ ?_)
   | gi_in)
  ·intro hc0 hl0
   gi_wp2
   go_end0
   exact ⟨⟨_,rfl⟩,.inl ⟨ps,⟨M4,fun x=>⟨cJ x,fun hx=>(wA x.1 hx).1 (hl0 _)⟩⟩,hJs⟩⟩
  ·intro x c kl yd yp w2 cnt2 hkey hlk hv hat hrg2 hlt hg2 hs2 hen;obtain ⟨d,hd,rfl⟩:=Mw (nj kl hlk);have iz:=aF d hd;have hx:x = .agg (ah d):=rY.inj hkey (by rw [<- Ei];exact EB d iz.1 iz.2);subst hx;have hJ2:J ps w2:=hJ _ wr w2 (some W.heap.size) hJs hg2 (fun r e=>by cases e;exact ⟨Nat.le_refl _,hrg.iter_walk⟩);obtain ⟨X,hX⟩ : ∃ X,X=w2.alloc (.cells (ah d) 117):=⟨_,rfl⟩;have hJ3:J ps X:=by rw [hX];exact hJ _ w2 _ none hJ2 (World.grownBy_alloc _ _ _) (fun r e=>by cases e)
   have iC:X.heap[w2.heap.size]? = some (.cells (ah d) 117 (0,0)):=by rw [hX];exact heap_alloc_new _ _
   have ud:=hrg2.alloc (.cells (ah d) 117);rw [<- hX] at ud;obtain ⟨fn,tmps,assign,body,hy,hR⟩:=hY ps ⟨d,iz⟩ X hJ3 (by omega);have HX:=aa hX;have e8:=aa iC;have wu:=aa ud;have aJ:=iz.1;clear hs2 hX iC ud hJ2 hJ3;dsimp only at hy
   gi_wp2_with (first
    | (refine PN rfl 117 _ _ rfl w2.heap.size _ rfl rfl 117 _ (heap_alloc_new _ _) (bL _ aJ) (by rw [aY,aY,aJ];rfl) (dQ _) ?_;rw [World.setRow_alloc_new,<- HX.out])
    | (refine PO rfl 117 _ rfl w2.heap.size rfl 117 _ _ _ e8.out Tryz.underlying117 rfl (bL _ aJ) ?_)
    | gi_in)
   refine hR.mono ?_;rintro e W3 (⟨rfl,hJ3,hk3⟩|⟨rfl,zU⟩)
   ·gi_wp2
    have hrg3:=wu.out.of_walks hk3;have mn:(⟨d,iz⟩ : DV) ∉ ps:=fun h=>by
     have:=(wA d hd).2 h;rw [Ei] at this;rw [this] at hlk
     cases hlk
    go_roundw
    case rel =>
     refine ⟨_,cnt2,ps ++ [⟨d,iz⟩],hrg3,by simp;omega,List.nodup_append.2 ⟨M4,by simp,fun a ha b hb e=>mn (by simp only [List.mem_singleton] at hb;rw [<- hb,<- e];exact ha)⟩,fun y hy=>?_,fun kl h=>nj kl (by simp at h;exact h.1),fun d' rR=>?_,hJ3⟩
     ·rcases List.mem_append.1 hy with hy|hy
      ·exact cJ y hy
      ·simp only [List.mem_singleton] at hy;rw [hy];exact hd
     ·rw [Ei,rW,<- Ei]
      by_cases e:dK d'=dK d
      ·have e':d'=d:=GS (aF d' rR) iz e;subst e';simp
      ·have e':d'≠d:=fun h=>e (by rw [h])
       rw [decide_eq_false e];simp only [Bool.not_false,Bool.and_true,List.mem_append,List.mem_singleton,Subtype.mk.injEq,e',or_false];exact wA d' rR
    case measure=>rw [hrg3.left_eq,hrg.left_eq];exact hlt
   ·gi_wp2
    refine bodyPost_ret (results_none rfl _ _ _) rfl ?_;exact ⟨⟨_,rfl⟩,.inr ⟨_,trivial,zU⟩⟩
theorem QkO (F:Fence) (n:Nat) (hf:F.fn 161) (hro:F.round=none) (hn:1<=n) (Bm b nn:Nat) (cl:List (List Nat)) (aF:∀ d∈cl,gz d) (w:World) (hm:w.cell? ⟨Bm,0,none⟩=some (.map (some b))) (hown:CM w b nn (cD cl)) :
  SeqStopsK F n Tryz.prog 161 #[.pointer (some ⟨Bm,0,none⟩)] (fun x:DV=>#[.agg (ah x.1)]) KeepsWalks (Uz cl) (fun _=>True) cl.length w:=fun l J Jx W hW hJ _ hY h0 =>
 QqK F n hf hro hn l Bm b nn cl aF J Jx hY W hJ (cell_later hW hm) (jP hown (hW.block b hown.lt)) h0
end Go.Proofs.YtncigfibncmioaaGreatDoor
namespace Go.Proofs.YtncigfibncmioaaGreatDoor
open Go.RowKit
def ff (p t:ByteArray):FF:=⟨p,t,(t.size:Int)⟩
theorem P9 (c b:ByteArray):jq [(c,b)] = [oB p0 b,oC p0,gv p0 c,gQ]:=by
 rw [<- BJ];rfl
theorem Qa:tV 1 = [fM p0,gQ]:=by
 rw [<- BJ];rfl
theorem bM.step2 {D D':DS} {t:bU} {l:List bU} {k:Int} {n:Nat} (P:DS->Prop) (h:bM D (t::l) k n D') (he:∀ k1 X,fK D t k1 X->k1=0/\P X):∃ D1 m,P D1/\n=m+1/\bM D1 l k m D':=by
 obtain ⟨k1,D1,h1,h2⟩:=h;obtain ⟨rfl,hP⟩:=he k1 D1 h1
 rcases h2 with ⟨h2,_⟩|⟨_,m,hm,h3⟩
 ·exact absurd rfl h2
 ·exact ⟨D1,m,hP,hm,h3⟩
theorem kA:aK p0=true:=by decide
theorem pM:aK p1=true:=by decide
theorem QlT {F:List FF} (hr:aq FF.p F) {x:FF} (hx:aQ FF.p x.p F=none):dZ (ag FF.p x F)=dZ F+x.t.size:=by
 unfold dZ;rw [T3 _ _ hr,JB (tL hx)];omega
theorem ot {F:List FF} (hr:aq FF.p F) (x:FF):x∈ag FF.p x F:=by
 have:=fw (key:=FF.p) x.p x hr;rw [if_pos rfl] at this;exact (tT this).1
theorem CY {F:List FF} (hr:aq FF.p F) {x y:FF} (hy:y∈F) (Cl:y.p≠x.p):y∈ag FF.p x F:=by
 have:=fw (key:=FF.p) y.p x hr;rw [if_neg Cl,lD hr hy] at this;exact (tT this).1
theorem U2 {F:List FF} {p:ByteArray} {y:FF} (hy:y∈F) (Cl:y.p≠p):y∈aB FF.p p F:=jA.2 ⟨hy,Cl⟩
theorem U9 {F:List FF} (h:∀ x∈F,x.y=(x.t.size:Int)) (c b:ByteArray):∀ x∈ag FF.p (ff c b) F,x.y=(x.t.size:Int):=by
 intro x hx
 rcases ln hx with rfl|hx
 ·rfl
 ·exact h x hx
theorem QuM {D D':DS} {F:List FF} {r:Int} {B:Nat} {k:Int} {c b:ByteArray} (h:dY D F r B) (h0:aQ FF.p p0 F=none) (hc:aK c=true) (zb:p0≠c) (hB:b.size<=B) (hw:MA D [(c,b)] k D') :
  ((dZ F:Int)+(b.size:Int)<=r/\k=0/\dY D' (ag FF.p (ff c b) F) r B)∨(r<(dZ F:Int)+(b.size:Int)/\k=4/\dY D' F r B):=by
 obtain ⟨m,D1,hr,DD⟩:=hw;rw [P9] at hr;have lq:=h.wh.ei;obtain ⟨k1,A,hs,h2⟩:=hr
 rcases h.wh.ap hs kA h0 hB with ⟨hroom,rfl,hA⟩|⟨hroom,rfl,rfl⟩
 ·refine .inl ⟨hroom,?_⟩
  rcases h2 with ⟨h2,_⟩|⟨_,m1,rfl,hr⟩
  ·exact absurd rfl h2
  obtain ⟨E,m2,hE,_,hr1⟩:=hr.step2 (fun X=>Wh X (ag FF.p ⟨p0,b,(b.size:Int)⟩ (ag FF.p ⟨p0,b,0⟩ F)) r B) (fun k1 X hs=>hA.sy hs kA (ot lq _));obtain ⟨G,m3,hG,_,hr2⟩:=hr1.step2 (fun X=>Wh X (ag FF.p (ff c b) (aB FF.p p0 (ag FF.p ⟨p0,b,(b.size:Int)⟩ (ag FF.p ⟨p0,b,0⟩ F)))) r B) (fun k1 X hs=>hE.rn hs kA hc zb (ot (eA _ lq) _));obtain ⟨H,m4,hH,_,hr3⟩:=hr2.step2 (fun X=>Wh X (ag FF.p (ff c b) (aB FF.p p0 (ag FF.p ⟨p0,b,(b.size:Int)⟩ (ag FF.p ⟨p0,b,0⟩ F)))) r B/\X.R.safe=X.R.now/\X.R.aw = []) (fun k1 X hs=>hG.sd hs);obtain ⟨rfl,_,rfl⟩:=hr3;have he:ag FF.p (ff c b) (aB FF.p p0 (ag FF.p ⟨p0,b,(b.size:Int)⟩ (ag FF.p ⟨p0,b,0⟩ F)))=ag FF.p (ff c b) F:=by
   have r1:=eA (key:=FF.p) ⟨p0,b,0⟩ lq;have r2:=eA (key:=FF.p) ⟨p0,b,(b.size:Int)⟩ r1;refine rZ (eA _ (iT _ r2)) (eA _ lq) (fun n=>?_);rw [fw _ _ (iT _ r2),fw _ _ lq,qX,fw _ _ r1,fw _ _ lq]
   by_cases hn:n=p0
   ·subst hn;simp [h0]
   ·simp [hn]
  rw [he] at hH
  rcases DD with ⟨_,rfl⟩|⟨h,_⟩
  ·exact ⟨rfl,hH.1,hH.2.1,hH.2.2,U9 h.vh c b⟩
  ·exact absurd rfl h
 ·rcases h2 with ⟨_,rfl,rfl,rfl⟩|⟨h2,_⟩
  ·refine .inr ⟨hroom,rfl,?_⟩
   rcases DD with ⟨h4,_⟩|⟨_,hI⟩
   ·cases h4
   ·rw [Nat.zero_min] at hI;have:D'=D1:=hI;rw [this];exact h
  ·cases h2
theorem QuN {D D':DS} {F:List FF} {r:Int} {B:Nat} {k:Int} {c b q X:ByteArray} (h:dY D F r B) (h0:aQ FF.p p0 F=none) (h1:aQ FF.p p1 F=none) (hc:aK c=true) (hq:aK q=true) (hc0:p0≠c) (hc1:p1≠c) (hq0:p0≠q) (Hy:p1≠q) (hB:b.size<=B) (hX:X.size<=B) (hw:MA D [(c,b),(q,X)] k D') :
  ((dZ F:Int)+(b.size:Int)+(X.size:Int)<=r/\k=0/\dY D' (ag FF.p (ff q X) (ag FF.p (ff c b) F)) r B)∨(r<(dZ F:Int)+(b.size:Int)+(X.size:Int)/\k=4/\dY D' F r B):=by
 obtain ⟨m,D1,hr,DD⟩:=hw;have Va:jq [(c,b),(q,X)] = [oB p0 b,oB p1 X,oC p0,oC p1,gv p0 c,gv p1 q,gQ]:=by
  rw [<- BJ,<- vB];rfl
 rw [Va] at hr;have lq:=h.wh.ei;have r9:p0≠p1:=by decide
 obtain ⟨k1,A,hs,h2⟩:=hr
 rcases h.wh.ap hs kA h0 hB with ⟨hroom,rfl,hA⟩|⟨hroom,rfl,rfl⟩
 ·rcases h2 with ⟨h2,_⟩|⟨_,m1,rfl,hr⟩
  ·exact absurd rfl h2
  obtain ⟨k2,E,hs,h2⟩:=hr;have r1:=eA (key:=FF.p) ⟨p0,b,0⟩ lq;have qV:dZ (ag FF.p ⟨p0,b,0⟩ F)=dZ F+b.size:=QlT lq h0;have jF:aQ FF.p p1 (ag FF.p ⟨p0,b,0⟩ F)=none:=by
   rw [fw _ _ lq,if_neg (fun e=>r9 e.symm)];exact h1
  rcases hA.ap hs pM jF hX with ⟨uh,rfl,hE⟩|⟨uh,rfl,rfl⟩
  ·refine .inl ⟨by rw [qV] at uh;omega,?_⟩
   rcases h2 with ⟨h2,_⟩|⟨_,m2,rfl,hr⟩
   ·exact absurd rfl h2
   have r2:=eA (key:=FF.p) ⟨p1,X,0⟩ r1;obtain ⟨G,m3,hG,_,hr4⟩:=hr.step2 (fun Y=>Wh Y (ag FF.p ⟨p0,b,(b.size:Int)⟩ (ag FF.p ⟨p1,X,0⟩ (ag FF.p ⟨p0,b,0⟩ F))) r B) (fun k1 Y hs=>hE.sy hs kA (CY r1 (ot lq ⟨p0,b,0⟩) r9));have r3:=eA (key:=FF.p) ⟨p0,b,(b.size:Int)⟩ r2;obtain ⟨H,m4,hH,_,vr⟩:=hr4.step2 (fun Y=>Wh Y (ag FF.p ⟨p1,X,(X.size:Int)⟩ (ag FF.p ⟨p0,b,(b.size:Int)⟩ (ag FF.p ⟨p1,X,0⟩ (ag FF.p ⟨p0,b,0⟩ F)))) r B) (fun k1 Y hs=>hG.sy hs pM (CY r2 (ot r1 ⟨p1,X,0⟩) (Ne.symm r9)));have r4:=eA (key:=FF.p) ⟨p1,X,(X.size:Int)⟩ r3;obtain ⟨I,m5,hI,_,eZ⟩:=vr.step2 (fun Y=>Wh Y (ag FF.p (ff c b) (aB FF.p p0 (ag FF.p ⟨p1,X,(X.size:Int)⟩ (ag FF.p ⟨p0,b,(b.size:Int)⟩ (ag FF.p ⟨p1,X,0⟩ (ag FF.p ⟨p0,b,0⟩ F)))))) r B) (fun k1 Y hs=>hH.rn hs kA hc hc0 (CY r3 (ot r2 ⟨p0,b,(b.size:Int)⟩) r9));have r5:=eA (key:=FF.p) (ff c b) (iT p0 r4);obtain ⟨J,m6,hJ,_,kH⟩:=eZ.step2 (fun Y=>Wh Y (ag FF.p (ff q X) (aB FF.p p1 (ag FF.p (ff c b) (aB FF.p p0 (ag FF.p ⟨p1,X,(X.size:Int)⟩ (ag FF.p ⟨p0,b,(b.size:Int)⟩ (ag FF.p ⟨p1,X,0⟩ (ag FF.p ⟨p0,b,0⟩ F)))))))) r B) (fun k1 Y hs=>hI.rn hs pM hq Hy (CY (iT _ r4) (U2 (ot r3 ⟨p1,X,(X.size:Int)⟩) (Ne.symm r9)) hc1));have he:ag FF.p (ff q X) (aB FF.p p1 (ag FF.p (ff c b) (aB FF.p p0 (ag FF.p ⟨p1,X,(X.size:Int)⟩ (ag FF.p ⟨p0,b,(b.size:Int)⟩ (ag FF.p ⟨p1,X,0⟩ (ag FF.p ⟨p0,b,0⟩ F)))))))=ag FF.p (ff q X) (ag FF.p (ff c b) F):=by
    refine rZ (eA _ (iT _ r5)) (eA _ (eA _ lq)) (fun n=>?_);rw [fw _ _ (iT _ r5),fw _ _ (eA _ lq),qX,fw _ _ (iT _ r4),fw _ _ lq,qX,fw _ _ r3,fw _ _ r2,fw _ _ r1,fw _ _ lq]
    by_cases yr:n=p0
    ·subst yr;simp [ff,hc0,hq0,r9,h0]
    ·by_cases Bq:n=p1
     ·subst Bq;simp [ff,hc1,Hy,h1]
     ·simp only [ff,yr,Bq,if_false]
      by_cases hnq:n=q
      ·simp only [hnq,if_true]
      ·simp only [hnq,if_false]
       by_cases iZ:n=c
       ·simp only [iZ,if_true]
       ·simp only [iZ,if_false]
   rw [he] at hJ;obtain ⟨K,m7,hK,_,wZ⟩:=kH.step2 (fun Y=>Wh Y (ag FF.p (ff q X) (ag FF.p (ff c b) F)) r B/\Y.R.safe=Y.R.now/\Y.R.aw = []) (fun k1 Y hs=>hJ.sd hs);obtain ⟨rfl,_,rfl⟩:=wZ
   rcases DD with ⟨_,rfl⟩|⟨h,_⟩
   ·exact ⟨rfl,hK.1,hK.2.1,hK.2.2,U9 (U9 h.vh c b) q X⟩
   ·exact absurd rfl h
  ·refine .inr ⟨by rw [qV] at uh;omega,?_⟩
   rcases h2 with ⟨_,rfl,rfl,rfl⟩|⟨h2,_⟩
   ·refine ⟨rfl,?_⟩
    rcases DD with ⟨h4,_⟩|⟨_,hI⟩
    ·cases h4
    ·have:min (0+1) [(c,b),(q,X)].length=1:=rfl;rw [this,Qa] at hI;obtain ⟨k3,G,hs3,k4,H,rL,rfl⟩:=hI;obtain ⟨_,hG⟩:=hA.rm (x:=⟨p0,b,0⟩) hs3 kA (ot lq _);obtain ⟨_,hH,hs,hc⟩:=hG.sd rL;have he:aB FF.p p0 (ag FF.p ⟨p0,b,0⟩ F)=F:=by
      refine rZ (iT _ r1) lq (fun n=>?_);rw [qX,fw _ _ lq]
      by_cases hn:n=p0
      ·subst hn;simp [h0]
      ·simp [hn]
     rw [show (⟨p0,b,0⟩ : FF).p=p0 from rfl,he] at hH;exact ⟨hH,hs,hc,h.vh⟩
   ·cases h2
 ·rcases h2 with ⟨_,rfl,rfl,rfl⟩|⟨h2,_⟩
  ·refine .inr ⟨by omega,rfl,?_⟩
   rcases DD with ⟨h4,_⟩|⟨_,hI⟩
   ·cases h4
   ·rw [Nat.zero_min] at hI;have:D'=D1:=hI;rw [this];exact h
  ·cases h2
theorem YT (s:ai) (d:Nat) (w:World) (h:rS w d s) (hl:s.R.now.length<=100000000) :
  Calls Tryz.prog 22 #[.pointer (some ⟨d,0,none⟩)] w fun e w'=>∃ v,e = .returned (.tuple #[v,.int .i64 0])/\w'.ownsRow w.heap.size 9 1 v s.R.now.length (pW s.R.now)/\Below w.heap.size w w' :=
 Qvr d s.b (fun v w'=>w'.ownsRow w.heap.size 9 1 v s.R.now.length (pW s.R.now)/\Below w.heap.size w w') w h.bd (OE s.b s.R s.mb s.lb s.cv w h.ay.is hl)
theorem KP (s:ai) (d f:Nat) (p:ByteArray) (w:World) (h:rS w d s) (hp:aK p=true) (hf:aO p s.R.now=some f) :
  Calls Tryz.prog 43 #[.pointer (some ⟨d,0,none⟩),.string p] w fun e w'=>e = .returned (.tuple #[.string (s.fd f).1,.int .i64 0])/\aC s s w w':=by
 have fJ:p.size<=9223372036854775807:=by
  simp only [aK,Bool.and_eq_true,decide_eq_true_eq] at hp;omega
 refine (Qvs s d p w 0 (fun s1=>s1=s) (s.fd f).1 h.bd h.gl.err ((Ym s p w h.ay fJ).mono ?_)).mono ?_
 ·rintro e w' ⟨v,t,rfl,_,_,h3⟩;obtain ⟨h4,rfl⟩:=h3 f hp hf;exact ⟨v,rfl,h4⟩
 ·rintro e w' ⟨rfl,_,h3⟩;obtain ⟨s1,hg,rfl⟩:=h3 rfl;exact ⟨rfl,hg⟩
def yj (fd:Nat->ByteArray × Int) (out:ByteArray) (e:DE):ByteArray:=out++e.path++⟨#[32]⟩++⟨(Lib.itoa ((fd e.blk).1.size:Int)).toArray⟩++⟨#[32]⟩++(fd e.blk).1++⟨#[59]⟩
def hT (fd:Nat->ByteArray × Int) (l:List DE):ByteArray:=l.foldl (yj fd) ⟨#[]⟩
theorem Qsr (fd:Nat->ByteArray × Int) (l:List DE) (e:DE):hT fd (l ++ [e])=yj fd (hT fd l) e:=by
 unfold hT;rw [List.foldl_append];rfl
theorem I7 (a b:ByteArray):(a++b).size=a.size+b.size:=ByteArray.size_append
theorem KQ {w w':World} {B n:Nat} {v:Value} {xs:List Value} {s s':ai} (h:w.ownsRow B 9 1 v n xs) (hi:s.In w) (hg:aC s s' w w'):w'.ownsRow B 9 1 v n xs:=jQ h (fun k hk _=>by
 obtain ⟨c,hc⟩:=eO h k hk;exact (hg.keeps hi hc (by decide) (by decide) (by decide) (by decide)).trans hc.symm)
end Go.Proofs.YtncigfibncmioaaGreatDoor
namespace Go.Proofs.YtncigfibncmioaaGreatDoor
open Go.RowKit Go.Shelf Go.Maps Go.Sort
attribute [local go_sem] Oper.semAt_some
theorem QqG:(Tryz.prog.info? 117).map (fun i=>(i.zero,i.size,i.bytes))=some (some (.agg (ah (Sha.zeros 32))),32,32):=by kernel_rfl
theorem QmT (x0 x1 x2 x3 x4 x5 x6 x7 x8 x9 lO lQ lR kJ lS lT lU lV lW lX lY lZ l4 l5 l6 l7 l9 ma mf mg mh mi:Value) (w:World):(Instr.buildSlice 121 1 #[(0,.agg #[x0,x1,x2,x3,x4,x5,x6,x7,x8,x9,lO,lQ,lR,kJ,lS,lT,lU,lV,lW,lX,lY,lZ,l4,l5,l6,l7,l9,ma,mf,mg,mh,mi])]).run Tryz.prog w = .ok (.slice (some ⟨w.heap.size,0,none⟩) 1 1) (w.alloc (.cells #[x0,x1,x2,x3,x4,x5,x6,x7,x8,x9,lO,lQ,lR,kJ,lS,lT,lU,lV,lW,lX,lY,lZ,l4,l5,l6,l7,l9,ma,mf,mg,mh,mi] 117)):=by kernel_rfl
theorem QuF (ds:List Nat) (h:ds.length=32) (w:World):(Instr.buildSlice 121 1 #[(0,.agg (ah ds))]).run Tryz.prog w = .ok (.slice (some ⟨w.heap.size,0,none⟩) 1 1) (w.alloc (.cells (ah ds) 117)):=by
 obtain ⟨x0,x1,x2,x3,x4,x5,x6,x7,x8,x9,lO,lQ,lR,kJ,lS,lT,lU,lV,lW,lX,lY,lZ,l4,l5,l6,l7,l9,ma,mf,mg,mh,mi,rfl⟩:=IZ ds h;exact QmT _ _ _ _ _ _ _ _ _ _ _ _ _ _ _ _ _ _ _ _ _ _ _ _ _ _ _ _ _ _ _ _ w
def DAI (w:World) (pre:List DV) (W:World):Prop:=∃ sv,W.heap[w.heap.size]? = some (.cells #[sv] 121 (0,0))/\W.ownsRow w.heap.size 117 32 sv pre.length (pre.flatMap DV.enc)/\Below w.heap.size w W
theorem QgQ {F:Fence} {m:Nat} {ops:Array Oper} {rest:List Oper} {op:Oper} {a:Act} {w:World} {Q:Exit->Act->World->Prop} (hgd:op.guard=none) (x:Operand) (ho:op.op = .buildSlice 121 1 #[(0,x)])
  (ds:List Nat) (hl:ds.length=32) (hx:a.eval x = .agg (ah ds))
  (h:wpListIn F m Tryz.prog ops Q rest (a.put op.dst (.slice (some ⟨w.heap.size,0,none⟩) 1 1)) (w.alloc (.cells (ah ds) 117))):wpListIn F m Tryz.prog ops Q (op::rest) a w:=by
 refine wpListIn_plain hgd fun K hK'=>?_
 have hr:=QuF ds hl w;unfold Oper.wpIn;refine ⟨?_,?_⟩
 ·simp [Oper.about,ho]
 ·rw [Oper.semAt_plain F _ _ (by rw [ho];intro c hc';cases hc')];unfold execOp;simp only [ho,hx,List.map_toArray,List.map_cons,List.map_nil,Sem.run_bind,Sem.run_pure,hr,Result.andThen_ok];exact hK' _ _ h
theorem QoK (w:World) (B:Nat) (hB:w.heap.size<=B):OwnFrom B (DAI w):=by
 rintro pre X Y row ⟨sv,h1,h2,h3⟩ hgr hr;have key:∀ (k:Nat) (cur:Array Value) (T:TypeId),X.heap[k]? = some (.cells cur T (0,0))->Y.heap[k]? = X.heap[k]?:=fun k cur T hc=>hgr.block k (ax hc) (fun e=>by
  obtain ⟨o,x2,x3⟩:=(hr k e.symm).2;rw [hc] at x2
  cases x2
  cases x3)
 refine ⟨sv,(key _ _ _ h1).trans h1,jQ h2 (fun k hk _=>?_),h3.grown hgr h3.size (fun k e=>by have:=(hr k e).1;omega)⟩;obtain ⟨c,hc⟩:=eO h2 k hk;exact key _ _ _ hc
def DAX (w:World) (g:Nat) (lb:Array Value) (x:DV) (a:Act) (W:World):Prop:=∃ vb,w.heap.size<vb/\a = { tmps:=#[.slice none 0 0,.func (.func g) #[] lb,.pointer (some ⟨w.heap.size,0,none⟩),undef,.slice none 0 0,.pointer (some ⟨vb,0,none⟩),.func (.func g) #[] lb,.agg (ah x.1),undef,undef,undef,undef,undef],defers:=[] }/\W.heap[vb]? = some (.cells (ah x.1) 117 (0,0))
theorem Qs0 (w:World) (g:Nat) (lb:Array Value) (B:Nat) (x:DV) (a:Act):OwnFrom B (fun (_:Unit) W=>DAX w g lb x a W):=by
 rintro _ X Y row ⟨vb,h0,h1,h2⟩ hgr hr;exact ⟨vb,h0,h1,(hgr.block vb (ax h2) (fun e=>by
  obtain ⟨o,x2,x3⟩:=(hr vb e.symm).2;rw [h2] at x2
  cases x2
  cases x3)).trans h2⟩
theorem Qiw (n:Nat) (hn:5<=n) (g:Nat) (lb:Array Value) (eg:∀ args w,(callFunc g args).run Tryz.prog w = .ok (.enter g args) w) (S:List DV->Prop) (N:Nat) (hN:N<=100000000) (w:World)
  (hseq:SeqStopsK Fence.wide (n - 1) Tryz.prog g lb (fun x:DV=>#[.agg (ah x.1)]) KeepsWalks S (fun _=>True) N w) :
  CallsIn Fence.wide n Tryz.prog 207 #[.slice none 0 0,.func (.func g) #[] lb] w fun e w'=>∃ v xs,e = .returned v/\S xs/\w'.ownsRow w.heap.size 117 32 v xs.length (xs.flatMap DV.enc)/\Below w.heap.size w w':=by
 have ji:=(zero_of_info Tryz.bY).1;obtain ⟨i0,hi,hz0,hz1,hz2⟩:=info_parts QqG;refine callsIn_of_wp_marks Tryz.func207 rfl trivial ?_ rfl;simp only [Tryz.ntmps207,List.size_toArray,List.length_cons,List.length_nil,Nat.reduceAdd,Nat.reduceSub,Array.replicate_succ,Array.replicate_zero,List.push_toArray,List.append_toArray,List.nil_append,List.cons_append]
 gi_wp2_with fail
 obtain ⟨w1,eR⟩ : ∃ w1,w1=w.alloc (.cells #[.slice none 0 0] 121):=⟨_,rfl⟩;have hb1:Below w.heap.size w w1:=by rw [eR];exact (Below.refl _ _).alloc (Nat.le_refl _) _
 have hx1:w1.heap[w.heap.size]? = some (.cells #[.slice none 0 0] 121 (0,0)):=by rw [eR];exact heap_alloc_new _ _
 have hs1:w1.heap.size=w.heap.size+1:=by rw [eR,size_alloc]
 rw [<- eR];refine wpIn_rangeFunc_ownH (F:=Fence.wide) (n:=n) rfl (by omega) (gf:=g) (lb:=lb) rfl trivial eg hseq KeepsWalks.trans (walksK_b (w:=w1)) hb1 (fun _=>rfl)
  (DAI w) (fun _ _ _=>False) (QoK w _ (by omega)) (fun _ _ _ _ _ h _ _=>h.elim)
  ⟨_,hx1,World.ownsRow_nil _ _ _ _,hb1⟩ (DAX w g lb) (Qs0 w g lb _) ?assign ?body ?done ?stop
 case assign =>
  rintro l pre ⟨ds,iz⟩ W K hI hK;have aJ:=iz.1;have hgr:=World.grownBy_alloc W (.cells (ah ds) 117) none;have MH:=QoK w W.heap.size (by obtain ⟨sv,i1,i2,i3⟩:=hI;exact i3.size) pre W _ none hI hgr (fun r e=>by cases e);have MI:w.heap.size<W.heap.size:=by
   obtain ⟨sv,i1,i2,i3⟩:=hI;exact ax i1
  have HK:=aa (hK _ (W.alloc (.cells (ah ds) 117)) ⟨by simp,fun k o _ hk _=>(Below.heap_alloc _ _ _ (ax hk)).trans hk⟩ ⟨by simp,fun k o hk _=>(Below.heap_alloc _ _ _ (ax hk)).trans hk⟩ MH ⟨W.heap.size,MI,rfl,heap_alloc_new _ _⟩);clear hI MH hK hgr
  gi_wp2_with (first
   | (refine PN rfl 117 _ _ rfl W.heap.size _ rfl rfl 117 _ (heap_alloc_new _ _) (bL _ aJ) (by rw [aY,aY,aJ];rfl) (dQ _) ?_;rw [World.setRow_alloc_new])
   | gi_in)
  exact HK.out
 case body =>
  rintro l pre ⟨ds,iz⟩ a' W hl ⟨r,hr⟩ ⟨sv,i1,i2,i3⟩ ⟨vb,MI,rfl,hv⟩ hlen;have aJ:=iz.1;obtain ⟨so,sc,rfl⟩:=jG i2;have ce:=cell_of_row _ _ 0 _ _ _ i1;have nk:=aa i2;have A3:=aa i1;have zP:=aa i3;have HV:=aa hv;have MJ:w.heap.size<W.heap.size:=ax i1;have Hj:Hid (∀ w2:World,(W.alloc (.cells (ah ds) 117)).grownBy w2 (Value.slice so pre.length sc).ownBlock->w2.heap[w.heap.size]? = some (.cells #[.slice so pre.length sc] 121 (0,0))):=aa (fun w2 hg2=>by
   refine (hg2.block _ (by rw [size_alloc];omega) (fun e=>?_)).trans ((Below.heap_alloc _ _ _ MJ).trans i1);obtain ⟨c,hc⟩:=eO i2 _ e.symm;rw [i1] at hc;injection hc with hc
   injection hc with _ hc
   exact absurd hc (by decide))
  have CR:=aa (PL W (ah ds) 117);clear i1 i2 i3 hv;dsimp only
  gi_wp2_with (first
   | (refine PO rfl 117 _ rfl vb rfl 117 _ _ _ HV.out Tryz.underlying117 rfl (bL _ aJ) ?_)
   | (refine QgQ rfl _ rfl ds aJ rfl ?_)
   | (refine wpListIn_append_own _ rfl _ _ 121 rfl w.heap.size 117 i0 _ 32 32 Tryz.underlying121 hi hz0 hz1 hz2 (show (ah (Sha.zeros 32)).size=32 by rw [aY];rfl) (by decide) _ pre.length _ rfl (gA nk.out ((Below.refl _ _).alloc (Nat.le_refl _) _)) _ 1 1 (ah ds).toList rfl (by rw [Array.length_toList,aY,aJ]) CR.out (fun v hv=>Array.all_eq_true_iff_forall_mem.1 (dQ ds) v (by simpa using hv)) (by unfold maxLen;omega) (by omega) (by simp;omega) ?_;rintro v2 w2 hv2 hg2 -;obtain ⟨CS,CT,rfl⟩:=jG hv2;have fI:=Hj.out w2 hg2;have cb:=cell_of_row _ _ 0 _ _ _ fI;have fb:=frozen_of_row _ _ 0 _ _ fI;have qj:=aa hv2;have bP:=aa hg2;have nI:=aa fI;clear hv2 hg2 fI)
   | gi_in)
  have zQ:∀ (k:Nat) (o:Obj),W.heap[k]? = some o->o.isCells=false->(w2.setCell ⟨w.heap.size,0,none⟩ (.slice CS (pre.length+1) CT)).heap[k]? = some o:=by
   intro k o hk ho;rw [heap_setCell_other _ _ _ _ (fun e=>?_)]
   ·refine (bP.out.block k (by rw [size_alloc];have:=ax hk;omega) (fun e=>?_)).trans ((Below.heap_alloc _ _ _ (ax hk)).trans hk);obtain ⟨c,hc⟩:=eO nk.out _ e.symm;rw [hc] at hk
    cases hk
    cases ho
   ·have e:k=w.heap.size:=e;subst e;rw [A3.out] at hk
    cases hk
    cases ho
  have hsz:W.heap.size<=(w2.setCell ⟨w.heap.size,0,none⟩ (.slice CS (pre.length+1) CT)).heap.size:=by
   have:=bP.out.size;simp only [size_alloc] at this;simp;omega
  refine ⟨⟨hsz,fun k o _ hk ho=>zQ k o hk ho⟩,⟨hsz,fun k o hk ho=>zQ k o hk (Obj.not_cells_of_walk ho)⟩,.slice CS (pre.length+1) CT,?_,?_,?_⟩
  ·rw [heap_setCell_same _ w.heap.size 0 _ _ _ nI.out];rfl
  ·have hrow:=jQ (w':=w2.setCell ⟨w.heap.size,0,none⟩ (.slice CS (pre.length+1) CT)) qj.out (fun k hk _=>heap_setCell_other _ _ _ _ (fun e=>by
    have e:k=w.heap.size:=e;subst e;obtain ⟨c,hc⟩:=eO qj.out _ hk;rw [nI.out] at hc;injection hc with hc
    injection hc with _ hc
    exact absurd hc (by decide)))
   rw [List.flatMap_append,List.length_append];simp only [List.flatMap_cons,List.flatMap_nil,List.append_nil];exact hrow
  ·have h1:Below w.heap.size w w2:=(zP.out.alloc zP.out.size _).grown bP.out (by rw [size_alloc];omega) (fun k e=>su nk.out k e);exact ⟨h1.os,h1.tape,h1.output,by simpa using h1.size,fun k hk=>(heap_setCell_other _ _ _ _ (fun e=>by have e:k=w.heap.size:=e;omega)).trans (h1.block k hk)⟩
 case done =>
  rintro D xs W hD hS ⟨sv,i1,i2,i3⟩ hK;obtain ⟨so,sc,rfl⟩:=jG i2;have ce:=cell_of_row _ _ 0 _ _ _ i1;have nk:=aa i2;have zP:=aa i3;have A3:=aa i1;clear i1 i2 i3
  gi_wp2
  refine ⟨by simp,.inl ⟨_,_,rfl,run_takeDeferred hK,?_⟩⟩;refine ⟨_,results_tmp rfl _ _ _,_,xs,rfl,hS,jQ nk.out (fun k hk _=>World.putObj_heap_other (fun e=>?_)),zP.out.grown (PQ _ _ _) zP.out.size (fun k e=>by injection e with e;omega)⟩;subst e;obtain ⟨c,hc⟩:=eO nk.out k hk;rw [hc] at hK
  cases hK
 case stop =>
  rintro D c pre W hD _ h;exact h.elim
theorem QkN (n:Nat) (hn:6<=n) (g:Nat) (lb:Array Value) (eg:∀ args w,(callFunc g args).run Tryz.prog w = .ok (.enter g args) w) (S:List DV->Prop) (N:Nat) (hN:N<=100000000) (w:World)
  (hseq:SeqStopsK Fence.wide (n - 1 - 1) Tryz.prog g lb (fun x:DV=>#[.agg (ah x.1)]) KeepsWalks S (fun _=>True) N w) :
  CallsIn Fence.wide n Tryz.prog 159 #[.func (.func g) #[] lb] w fun e w'=>∃ v xs,e = .returned v/\S xs/\w'.ownsRow w.heap.size 117 32 v xs.length (xs.flatMap DV.enc)/\Below w.heap.size w w':=by
 have f1:Fence.wide.fn 207:=trivial;have HA:=aa (Qiw (n - 1) (by omega) g lb eg S N hN w hseq);refine callsIn_of_wp Tryz.func159 rfl trivial ?_ rfl;simp only [Tryz.ntmps159,List.size_toArray,List.length_cons,List.length_nil,Nat.reduceAdd,Nat.reduceSub,Array.replicate_succ,Array.replicate_zero,List.push_toArray,List.append_toArray,List.nil_append,List.cons_append]
 gi_wp2_with fail
 refine ⟨fun _=>by omega,?_⟩;refine (HA.out).mono ?_;rintro _ w1 ⟨v,xs,rfl,h1,h2,h3⟩;dsimp only;have H2:=aa h2;clear h2
 gi_wp2_with fail
 go_ret;exact ⟨_,xs,rfl,h1,H2.out,h3⟩
open Go.RowKit
theorem Qo2 (so:Option Addr) (c n:Nat) (l:List Tg) (t:ByteArray) (z:Int) (w:World) (hn:l.length=n) (hl:n<=1000) (ha:TagsAt w so l) (aF:∀ i,i<n->(l.getD i default).dig=t->(l.getD i default).size=z) :
  Calls Tryz.prog 46 #[.slice so n c,.string t,.int .i64 z] w fun e w'=>e = .returned (.bool true)/\Below w.heap.size w w':=by
 have HA:=aa ha;have HN:=aa hn;have fH:=aa aF;clear ha hn aF;go_enter Tryz.func46,Tryz.ntmps46;go_wp2_with fail
 go_loopw [7] (fun iv w'=>∃ j:Nat,j<=n/\iv = .int .i64 ((j:Nat):Int)/\Below w.heap.size w w') (fun iv _=>n - (intOf iv).toNat)
 case atStart=>exact ⟨0,Nat.zero_le _,rfl,Below.refl _ _⟩
 case round =>
  obtain ⟨j,hj,rfl,hb⟩:=hrel;have HB:=aa hb
  by_cases hlt:j<n
  ·obtain ⟨b1,o1,rfl,x1⟩:=HA.out j (by rw [HN.out];exact hlt);have x2:=rangeAt_later hb x1;have hk:=fH.out j hlt;generalize l.getD j default=tx at x2 hk;obtain ⟨n1,d1,z1⟩:=tx;have c2:=x2 1 _ rfl;have c3:=x2 2 _ rfl;dsimp only at hk;clear x1 x2 hb;have d9:decide (((j:Nat):Int)<((n:Nat):Int))=true:=decide_eq_true (by omega)
   by_cases he:d1=t
   ·subst he;have hk2:=hk rfl;subst hk2;clear hk;go_wp2_with fail;exact ⟨⟨j+1,by omega,by simp,HB.out⟩,by simp only [intOf];omega⟩
   ·clear hk;have Vc:¬ d1.toList=t.toList:=fun e=>he ((toList_inj _ _).1 e)
    go_wp2_with fail;exact ⟨⟨j+1,by omega,by simp,HB.out⟩,by simp only [intOf];omega⟩
  ·have d9:decide (((j:Nat):Int)<((n:Nat):Int))=false:=decide_eq_false (by omega);clear hb;go_wp2_with fail;go_ret;exact ⟨rfl,HB.out⟩
end Go.Proofs.YtncigfibncmioaaGreatDoor
