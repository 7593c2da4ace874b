/-
  PROVED HERE: a whole disk's steps, as lists of files; no walk.
-/
import Derived.Test.YtncigfibncmioaaGreatDoorSmDig
import Derived.Test.YtncigfibncmioaaGreatDoorSmKey
import Derived.Test.YtncigfibncmioaaGreatDoorKDecB
import Derived.Test.YtncigfibncmioaaGreatDoorStCont
namespace Go.Proofs.YtncigfibncmioaaGreatDoor
open Go.RowKit
structure FF where
 p:ByteArray
 t:ByteArray
 y:Int
def vwE (fd:Nat→ByteArray × Int) (e:DE):FF:=⟨e.path,(fd e.blk).1,(fd e.blk).2⟩
def vwL (D:DS):List FF:=D.R.now.map (vwE D.fd)
def sumF (F:List FF):Nat:=(F.map fun x=>x.t.size).sum
structure Wh (D:DS) (F:List FF) (r:Int) (B:Nat):Prop where
 vw:vwL D=F
 left:D.R.left = -1
 room:D.R.room=r
 inj:∀ e∈D.R.now,∀ e'∈D.R.now,e.blk=e'.blk→e=e'
 inn:∀ e∈D.R.now,e.blk∈D.fs
 isafe:∀ e∈D.R.safe,e.blk∈D.fs
 ichg:∀ c∈D.R.chg,c.blk∈D.fs
 inv:Inv D.R
 rise:Rise D.R.safe
 dat:∀ f∈D.fs,FitB B (D.fd f)
 chf:ChFit D.R.chg
theorem usedE_vw (fd:Nat→ByteArray × Int):∀ l:List DE,usedE fd l=sumF (l.map (vwE fd))
 | []=>rfl
 | e::es=>by
  show _=((vwE fd e::es.map (vwE fd)).map fun x=>x.t.size).sum
  unfold usedE
  rw [usedE_vw fd es]
  simp [sumF,vwE]
theorem Wh.used {D:DS} {F:List FF} {r:Int} {B:Nat} (h:Wh D F r B):usedE D.fd D.R.now=sumF F:=by rw [usedE_vw,← h.vw];rfl
theorem Wh.riseN {D:DS} {F:List FF} {r:Int} {B:Nat} (h:Wh D F r B):Rise D.R.now:=by
 have:=go_rise D.R.chg h.rise
 rwa [← h.inv.go] at this
theorem Wh.riseF {D:DS} {F:List FF} {r:Int} {B:Nat} (h:Wh D F r B):RiseK FF.p F:=by
 rw [← h.vw]
 unfold vwL RiseK
 rw [List.pairwise_map]
 exact h.riseN
theorem findK_vw (fd:Nat→ByteArray × Int) (p:ByteArray):∀ l:List DE,findK FF.p p (l.map (vwE fd))=(findE p l).map fun g=>⟨p,(fd g).1,(fd g).2⟩
 | []=>rfl
 | e::es=>by
  rw [List.map_cons,findK_cons,findK_vw fd p es]
  show _=(if e.path=p then some e.blk else findE p es).map _
  by_cases h:e.path=p
  ·rw [if_pos (show (vwE fd e).p=p from h),if_pos h]
   subst h
   rfl
  ·rw [if_neg (show ¬ (vwE fd e).p=p from h),if_neg h]
theorem Wh.look {D:DS} {F:List FF} {r:Int} {B:Nat} (h:Wh D F r B) (p:ByteArray):findK FF.p p F=(findE p D.R.now).map fun g=>⟨p,(D.fd g).1,(D.fd g).2⟩:=by
 rw [← h.vw]
 exact findK_vw _ _ _
theorem Wh.find {D:DS} {F:List FF} {r:Int} {B:Nat} (h:Wh D F r B) {x:FF} (hx:x∈F):∃ g,findE x.p D.R.now=some g∧(D.fd g).1=x.t∧(D.fd g).2=x.y:=by
 have:=h.look x.p
 rw [findK_mem h.riseF hx] at this
 cases hf:findE x.p D.R.now with
 | none=>rw [hf] at this;cases this
 | some g =>
  rw [hf] at this
  injection this with this
  exact ⟨g,rfl,by rw [this],by rw [this]⟩
theorem Wh.out {D:DS} {F:List FF} {r:Int} {B:Nat} (h:Wh D F r B) {p:ByteArray} (hp:findK FF.p p F=none):findE p D.R.now=none:=by
 have:=h.look p
 rw [hp] at this
 cases hf:findE p D.R.now with
 | none=>rfl
 | some g=>rw [hf] at this;cases this
theorem Wh.ne {D:DS} {F:List FF} {r:Int} {B:Nat} (h:Wh D F r B):findK FF.p ⟨#[]⟩ F=none:=by
 rw [← h.vw]
 refine findK_out fun x hx=>?_
 obtain ⟨e,he,rfl⟩:=List.mem_map.1 hx
 exact h.inv.nowNe e he
theorem findE_in {p:ByteArray} {g:Nat}:∀ {l:List DE},findE p l=some g→(⟨p,g⟩ : DE)∈l
 | [],h=>by cases h
 | e::es,h=>by
  unfold findE at h
  by_cases he:e.path=p
  ·rw [if_pos he] at h
   injection h with h
   subst he h
   simp
  ·rw [if_neg he] at h
   simp [findE_in h]
theorem in_findE {l:List DE} (hr:Rise l) {e:DE} (he:e∈l):findE e.path l=some e.blk:=by
 have h1:=findK_mem (key:=FF.p) (l:=l.map (vwE fun _=>(⟨#[]⟩,0))) (by unfold RiseK;rw [List.pairwise_map];exact hr) (List.mem_map_of_mem he)
 induction l with
 | nil=>cases he
 | cons f fs ih =>
  obtain ⟨h2,h3⟩:=List.pairwise_cons.1 hr
  unfold findE
  rcases List.mem_cons.1 he with rfl|he
  ·simp
  ·have hne:f.path≠e.path:=fun e1=>by have:=h2 e he;rw [e1,less_irrefl] at this;cases this
   rw [if_neg hne]
   refine ih h3 he ?_
   rw [List.map_cons,findK_cons,if_neg (show ¬ (vwE _ f).p=(vwE _ e).p from hne)] at h1
   exact h1
theorem Wh.push {D:DS} {F G:List FF} {r:Int} {B:Nat} (h:Wh D F r B) {c:CH} {fs':List Nat} {fd':Nat→ByteArray × Int} (hr:RiseK FF.p G) (hG0:findK FF.p ⟨#[]⟩ G=none)
  (hG:∀ x,x≠⟨#[]⟩→findK FF.p x G=(if x=c.too then some c.blk else if x=c.frm then none else findE x D.R.now).map fun g=>⟨x,(fd' g).1,(fd' g).2⟩)
  (hfs:∀ f∈D.fs,f∈fs') (hb:c.blk∈fs') (hd:∀ f∈fs',FitB B (fd' f)) (hp:c.frm.size≤1000000000∧c.too.size≤1000000000) (hi:c.too=⟨#[]⟩∨(∀ x,findE x D.R.now=some c.blk→x=c.frm)) :
  Wh ⟨RDk.wrote { D.R with now:=applyE D.R.now c,chg:=D.R.chg ++ [c] },fs',fd'⟩ G r B:=by
 have ha:applyE D.R.now c=afterE D.R.now c.frm c.too c.blk:=applyE_after h.inv.nowNe c
 have hinv:Inv { D.R with now:=applyE D.R.now c,chg:=D.R.chg ++ [c] }:=by
  have:=h.inv.push c
  rw [← ha] at this
  exact this
 have hrN:Rise (applyE D.R.now c):=by rw [ha];exact after_rise h.riseN _ _ _
 have hfind:∀ x,x≠⟨#[]⟩→findE x (applyE D.R.now c)=if x=c.too then some c.blk else if x=c.frm then none else findE x D.R.now:=fun x hx=>by rw [ha];exact after_find h.riseN _ _ _ hx
 have hmem:∀ e∈applyE D.R.now c,e.path≠⟨#[]⟩∧((e.path=c.too∧e.blk=c.blk)∨(e.path≠c.too∧e.path≠c.frm∧findE e.path D.R.now=some e.blk)):=by
  intro e he
  have hne:e.path≠⟨#[]⟩:=hinv.nowNe e he
  have h1:=in_findE hrN he
  rw [hfind _ hne] at h1
  refine ⟨hne,?_⟩
  by_cases h2:e.path=c.too
  ·rw [if_pos h2] at h1
   injection h1 with h1
   exact .inl ⟨h2,h1.symm⟩
  ·rw [if_neg h2] at h1
   by_cases h3:e.path=c.frm
   ·rw [if_pos h3] at h1
    cases h1
   ·rw [if_neg h3] at h1
    exact .inr ⟨h2,h3,h1⟩
 refine ⟨?_,wrote_whole h.left,h.room,?_,?_,fun e he=>hfs _ (h.isafe e he),?_,hinv.wrote,h.rise,hd,?_⟩
 ·refine riseK_ext (key:=FF.p) (by unfold vwL RiseK;rw [List.pairwise_map];exact hrN) hr (fun x=>?_)
  by_cases hx:x=⟨#[]⟩
  ·subst hx
   rw [hG0]
   refine findK_out fun y hy=>?_
   obtain ⟨e,he,rfl⟩:=List.mem_map.1 hy
   exact hinv.nowNe e he
  ·rw [hG x hx,← hfind x hx]
   exact findK_vw _ _ _
 ·intro e he e' he' hbe
  obtain ⟨n1,m1⟩:=hmem e he
  obtain ⟨n2,m2⟩:=hmem e' he'
  have hpp:e.path=e'.path:=by
   rcases m1 with ⟨a1,a2⟩|⟨a1,a2,a3⟩
   ·rcases m2 with ⟨b1,b2⟩|⟨b1,b2,b3⟩
    ·rw [a1,b1]
    ·rcases hi with hi|hi
     ·rw [hi] at a1;exact absurd a1 n1
     ·exact absurd (hi _ (by rw [b3,← hbe,a2])) b2
   ·rcases m2 with ⟨b1,b2⟩|⟨b1,b2,b3⟩
    ·rcases hi with hi|hi
     ·rw [hi] at b1;exact absurd b1 n2
     ·exact absurd (hi _ (by rw [a3,hbe,b2])) a2
    ·have:=h.inj _ (findE_in a3) _ (findE_in b3) hbe
     injection this
  obtain ⟨pe,be⟩:=e
  obtain ⟨pe',be'⟩:=e'
  simp only at hpp hbe
  rw [hpp,hbe]
 ·intro e he
  rcases (hmem e he).2 with ⟨_,a2⟩|⟨_,_,a3⟩
  ·rw [a2];exact hb
  ·exact hfs _ (h.inn _ (findE_in a3))
 ·intro c' hc'
  rcases List.mem_append.1 hc' with hc'|hc'
  ·exact hfs _ (h.ichg c' hc')
  ·simp only [List.mem_singleton] at hc'
   subst hc'
   exact hb
 ·intro c' hc'
  rcases List.mem_append.1 hc' with hc'|hc'
  ·exact h.chf c' hc'
  ·simp only [List.mem_singleton] at hc'
   subst hc'
   exact hp
theorem path_ne {p:ByteArray} (h:isPathB p=true):p≠⟨#[]⟩:=by
 rintro rfl
 revert h
 decide
theorem path_size {p:ByteArray} (h:isPathB p=true):p.size≤80:=by
 simp [isPathB] at h
 omega
theorem Wh.ap {D D':DS} {F:List FF} {r:Int} {B:Nat} {k:Int} {p dt:ByteArray} (h:Wh D F r B) (hs:stR D (sAp p dt) k D') (hp:isPathB p=true) (hf:findK FF.p p F=none) (hB:dt.size≤B) :
  ((sumF F:Int)+(dt.size:Int)≤r∧k=0∧Wh D' (insK FF.p ⟨p,dt,0⟩ F) r B)∨(r<(sumF F:Int)+(dt.size:Int)∧k=4∧D'=D):=by
 by_cases hroom:(sumF F:Int)+(dt.size:Int)≤r
 ·obtain ⟨f,hfn,h0,rfl⟩:=st_ap hs hp (by rw [h.left];decide) (by rw [h.used,h.room];exact hroom) (h.out hf)
  refine .inl ⟨hroom,h0,?_⟩
  have hold:∀ x g,findE x D.R.now=some g→g≠f:=fun x g hx e=>hfn (by rw [← e];exact h.inn _ (findE_in hx))
  refine h.push (c:=⟨⟨#[]⟩,p,f⟩) (riseK_ins _ h.riseF) ?_ ?_ (fun x hx=>by simp [hx]) (by simp) ?_ ⟨by show (⟨#[]⟩ : ByteArray).size≤_;decide,by have:=path_size hp;show p.size≤_;omega⟩ (.inr fun x hx=>absurd rfl (hold x f hx))
  ·rw [findK_ins _ _ h.riseF,if_neg (fun e=>path_ne hp e.symm)]
   exact h.ne
  ·intro x hx
   rw [findK_ins _ _ h.riseF]
   by_cases hxp:x=p
   ·subst hxp
    simp [setNd]
   ·rw [if_neg hxp,if_neg hxp,if_neg hx,h.look x]
    cases hg:findE x D.R.now with
    | none=>rfl
    | some g=>simp [setNd,hold x g hg]
  ·intro g hg
   unfold setNd
   by_cases hgf:g=f
   ·rw [if_pos hgf]
    exact ⟨hB,by omega,by show (0:Int)≤_;omega⟩
   ·rw [if_neg hgf]
    rcases List.mem_cons.1 hg with hg|hg
    ·exact absurd hg hgf
    ·exact h.dat g hg
 ·obtain ⟨f,hfn,hs⟩ : ∃ f,f ∉ D.fs∧(k,D')=apD D p dt f:=hs
  have hr':D.R.room - (usedE D.fd D.R.now:Int)<(dt.size:Int):=by rw [h.room,h.used];omega
  have hl:¬ D.R.left=0:=by rw [h.left];decide
  simp [apD,hp,hl,hr'] at hs
  exact .inr ⟨by omega,hs.1,hs.2⟩
theorem Wh.sy {D D':DS} {F:List FF} {r:Int} {B:Nat} {k:Int} {p t:ByteArray} {y:Int} (h:Wh D F r B) (hs:stR D (sSy p) k D') (hp:isPathB p=true) (hx:(⟨p,t,y⟩ : FF)∈F) :
  k=0∧Wh D' (insK FF.p ⟨p,t,(t.size:Int)⟩ F) r B:=by
 obtain ⟨g,hg,ht,hy⟩:=h.find hx
 obtain ⟨h0,rfl⟩:=st_sy hs hp (by rw [h.left];decide) hg
 simp only at ht
 refine ⟨h0,?_,wrote_whole h.left,h.room,h.inj,h.inn,h.isafe,h.ichg,h.inv.wrote,h.rise,?_,h.chf⟩
 ·refine riseK_ext (key:=FF.p) (by unfold vwL RiseK;rw [List.pairwise_map];exact h.riseN) (riseK_ins _ h.riseF) (fun x=>?_)
  rw [findK_ins _ _ h.riseF]
  show findK FF.p x (D.R.now.map (vwE (setNd D.fd g ((D.fd g).1,((D.fd g).1.size:Int)))))=_
  rw [findK_vw]
  by_cases hxp:x=p
  ·subst hxp
   rw [if_pos rfl,show findE x D.R.now=some g from hg]
   simp [setNd,ht]
  ·rw [if_neg hxp,h.look x]
   cases hf:findE x D.R.now with
   | none=>rfl
   | some f =>
    have hfg:f≠g:=fun e=>by
     subst e
     have:=h.inj _ (findE_in hf) _ (findE_in hg) rfl
     injection this with this
     exact hxp this
    simp [setNd,hfg]
 ·intro f hf
  have hd:=h.dat f hf
  unfold wroteD setNd
  dsimp only
  by_cases hfg:f=g
  ·rw [if_pos hfg,← hfg]
   exact ⟨hd.1,by show (0:Int)≤_;omega,Int.le_refl _⟩
  ·rw [if_neg hfg]
   exact hd
theorem Wh.rn {D D':DS} {F:List FF} {r:Int} {B:Nat} {k:Int} {p q t:ByteArray} {y:Int} (h:Wh D F r B) (hs:stR D (sRn p q) k D') (hp:isPathB p=true) (hq:isPathB q=true) (hpq:p≠q) (hx:(⟨p,t,y⟩ : FF)∈F) :
  k=0∧Wh D' (insK FF.p ⟨q,t,y⟩ (delK FF.p p F)) r B:=by
 obtain ⟨g,hg,ht,hy⟩:=h.find hx
 obtain ⟨h0,rfl⟩:=st_rn hs hp hq hpq (by rw [h.left];decide) hg
 simp only at ht hy hg
 refine ⟨h0,h.push (c:=⟨p,q,g⟩) (riseK_ins _ (riseK_del _ h.riseF)) ?_ ?_ (fun _ h=>h) (h.inn _ (findE_in hg)) h.dat ⟨by have:=path_size hp;show p.size≤_;omega,by have:=path_size hq;show q.size≤_;omega⟩ (.inr fun x hx2=>?_)⟩
 ·rw [findK_ins _ _ (riseK_del _ h.riseF),if_neg (fun e=>path_ne hq e.symm),findK_del,if_neg (fun e=>path_ne hp e.symm)]
  exact h.ne
 ·intro x hx2
  rw [findK_ins _ _ (riseK_del _ h.riseF),findK_del,h.look x]
  by_cases hxq:x=q
  ·subst hxq
   simp [ht,hy]
  ·simp only [if_neg hxq]
   by_cases hxp:x=p
   ·simp [hxp]
   ·simp [hxp]
 ·have:=h.inj _ (findE_in hx2) _ (findE_in hg) rfl
  injection this
theorem Wh.rm {D D':DS} {F:List FF} {r:Int} {B:Nat} {k:Int} {x:FF} (h:Wh D F r B) (hs:stR D (sRm x.p) k D') (hp:isPathB x.p=true) (hx:x∈F) :
  k=0∧Wh D' (delK FF.p x.p F) r B:=by
 obtain ⟨g,hg,ht,hy⟩:=h.find hx
 obtain ⟨h0,rfl⟩:=st_rm hs hp (by rw [h.left];decide) hg
 refine ⟨h0,h.push (c:=⟨x.p,⟨#[]⟩,g⟩) (riseK_del _ h.riseF) ?_ ?_ (fun _ h=>h) (h.inn _ (findE_in hg)) h.dat ⟨by have:=path_size hp;show x.p.size≤_;omega,by show (⟨#[]⟩ : ByteArray).size≤_;decide⟩ (.inl rfl)⟩
 ·rw [findK_del,if_neg (fun e=>path_ne hp e.symm)]
  exact h.ne
 ·intro y hy2
  rw [findK_del,h.look y,if_neg hy2]
  by_cases hxp:y=x.p
  ·simp [hxp]
  ·simp [hxp]
theorem Wh.sd {D D':DS} {F:List FF} {r:Int} {B:Nat} {k:Int} (h:Wh D F r B) (hs:stR D sSd k D'):k=0∧Wh D' F r B∧D'.R.safe=D'.R.now∧D'.R.chg = []:=by
 obtain ⟨h0,rfl⟩:=st_sd hs (by rw [h.left];decide)
 exact ⟨h0,⟨h.vw,wrote_whole h.left,h.room,h.inj,h.inn,h.inn,fun c hc=>(by cases hc),h.inv.sync.wrote,h.riseN,h.dat,fun c hc=>(by cases hc)⟩,rfl,rfl⟩
structure Rst (D:DS) (F:List FF) (r:Int) (B:Nat):Prop where
 wh:Wh D F r B
 safe:D.R.safe=D.R.now
 chg:D.R.chg = []
 syn:∀ x∈F,x.y=(x.t.size:Int)
theorem Rst.fit {D:DS} {F:List FF} {r:Int} {B C:Nat} (h:Rst D F r B) (hc0:0≤D.R.count) (hc:D.R.count≤(C:Int)) (hr0:0≤r) (hr1:r≤9223372036854775807):DFit D F.length C B :=
 ⟨by rw [h.chg,h.safe,← h.wh.vw];simp [vwL],hc0,hc,by rw [h.wh.left];decide,by rw [h.wh.left];decide,by rw [h.wh.room];exact hr0,by rw [h.wh.room];exact hr1,h.wh.dat,h.wh.chf,h.wh.inv,h.wh.inn,h.wh.isafe,h.wh.ichg,h.wh.rise⟩
def abcT:ByteArray:=⟨#[98,97,55,56,49,54,98,102,56,102,48,49,99,102,101,97,52,49,52,49,52,48,100,101,53,100,97,101,50,50,50,51,98,48,48,51,54,49,97,51,57,54,49,55,55,97,57,99,98,52,49,48,102,102,54,49,102,50,48,48,49,53,97,100]⟩
theorem abc_known:dtx (dOfB ⟨#[97,98,99]⟩)=abcT:=by kernel_rfl
theorem new_er (r:Int) (h0:0≤r) (h1:r≤9223372036854775807) (fd:Nat→ByteArray × Int):Er ⟨⟨r,[],[],[],0, -1⟩,[],fd⟩∧DFit ⟨⟨r,[],[],[],0, -1⟩,[],fd⟩ 6 0 36:=by
 have hinv:Inv ⟨r,[],[],[],0, -1⟩:=⟨rfl,fun e he=>by cases he⟩
 have hr:Rise []:=List.Pairwise.nil
 refine ⟨⟨⟨fun m=>.inl ?_,fun m e he=>?_,fun f hf=>(by cases hf),hr,hinv⟩,rfl⟩,⟨Nat.zero_le _,Int.le_refl _,Int.le_refl _,Int.le_refl _,(by show (-1:Int)≤_;omega),h0,h1,fun f hf=>(by cases hf),fun c hc=>(by cases hc),hinv,fun e he=>(by cases he),fun e he=>(by cases he),fun c hc=>(by cases hc),hr⟩⟩
 ·show findE layoutP (goE [] (List.take m []))=none
  rw [List.take_nil]
  rfl
 ·have he:e∈goE [] (List.take m []):=he
  rw [List.take_nil] at he
  cases he
theorem own_three {w:World} {B:Nat} {v:Value} {x y z:Value} (h:w.ownsRow B 83 3 v 1 [x,y,z]):∃ g c,v = .slice (some ⟨g,0,none⟩) 1 c∧B≤g∧w.cell? ⟨g,0,none⟩=some x∧w.cell? ⟨g,1,none⟩=some y∧w.cell? ⟨g,2,none⟩=some z:=by
 obtain ⟨hlen,h2⟩:=h
 rcases h2 with ⟨_,h2⟩|⟨g,cap,cur,rfl,hB,hg,_,_,hsz,htk⟩
 ·cases h2
 ·have key:∀ j,j<3→cur[j]? = ([x,y,z]:List Value)[j]?:=by
   intro j hj
   rw [← htk,List.getElem?_take,if_pos (by omega)]
   simp
  refine ⟨g,cap,rfl,hB,?_,?_,?_⟩
  ·rw [cell_of_row _ _ 0 _ _ _ hg,key 0 (by omega)];rfl
  ·rw [cell_of_row _ _ 1 _ _ _ hg,key 1 (by omega)];rfl
  ·rw [cell_of_row _ _ 2 _ _ _ hg,key 2 (by omega)];rfl
end Go.Proofs.YtncigfibncmioaaGreatDoor
namespace Go.Proofs.YtncigfibncmioaaGreatDoor
set_option maxHeartbeats 2000000
set_option maxRecDepth 100000
open Go.RowKit Go.Shelf Go.Maps Go.Sort
abbrev DV:={ d:List Nat // DigOk d }
def DV.enc (x:DV):List Value:=(cells8 x.1).toList
def AllD' (cl:List (List Nat)) (xs:List DV):Prop:=xs.Nodup∧∀ x,x∈xs ↔ x.1∈cl
theorem keysD_in (F:Fence) (n:Nat) (hf:F.fn 161) (hro:F.round=none) (hn:1≤n) (l Bm b nn:Nat) (cl:List (List Nat)) (hok:∀ d∈cl,DigOk d) (J Jx:List DV→World→Prop)
  (hY:∀ pre x W,J pre W→pre.length<cl.length→YieldAt F (n - 1) Tryz.prog l #[.agg (cells8 x.1)] W fun e W' =>
   (e = .returned (.bool true)∧J (pre ++ [x]) W'∧KeepsWalks W W')∨(e = .returned (.bool false)∧Jx (pre ++ [x]) W'))
  (W:World) (hJ:AbidesFrom W.heap.size J) (hm:W.cell? ⟨Bm,0,none⟩=some (.map (some b))) (hown:CM W b nn (cD cl)) (h0:J [] W) :
  CallsIn F n Tryz.prog 161 #[.func (.yield l) #[] #[],.pointer (some ⟨Bm,0,none⟩)] W fun e W'=>(∃ v,e = .returned v) ∧
   ((∃ xs,AllD' cl xs∧J xs W')∨(∃ pre,True∧Jx pre W')):=by
 have hrise:RiseK dK cl:=mD_rise hown dig_keyed
 have hz71:=(zero_of_info Tryz.info117).1
 refine callsIn_of_wp Tryz.func161 rfl hf ?_ hro
 simp only [Tryz.ntmps161,List.size_toArray,List.length_cons,List.length_nil,Nat.reduceAdd,Nat.reduceSub,Array.replicate_succ,Array.replicate_zero,List.push_toArray,List.append_toArray,List.nil_append,List.cons_append]
 gi_wp2_with (first
  | (gi_at_range;refine wpListIn_range_own _ rfl _ 156 rfl 117 100 dig_keyed Tryz.underlying156 _ b nn _ rfl hown ?_;intro w0 hrg0 hg0 hs0)
  | gi_in)
 go_frame
 gi_loopw [] (fun wr=>∃ (left:Lit→Bool) (cnt:Nat) (ps:List DV),wr.ranges Tryz.prog 117 heldR b W.heap.size nn (cD cl) left cnt∧ps.length+cnt≤cl.length∧ps.Nodup∧(∀ x∈ps,x.1∈cl)∧(∀ kl,left kl=true→Maps.has (cD cl) kl=true)∧(∀ d (hd:d∈cl),left (dKey d)=false ↔ (⟨d,hok d hd⟩ : DV)∈ps)∧J ps wr)
  (fun wr=>wr.rangeLeft b W.heap.size)
 case atStart =>
  exact ⟨_,_,[],hrg0,by rw [mD_size];simp,List.nodup_nil,fun x hx=>(by cases hx),fun kl h=>h,fun d hd=>(by
   rw [cD_has hok (hok d hd)]
   simp [hd]),hJ [] W w0 none h0 hg0 (fun r e=>by cases e)⟩
 case round =>
  obtain ⟨left,cnt,ps,hrg,hcs,hnd,hin,hlf,hiff,hJs⟩:=hrel
  gi_wp2_with (first
   | (gi_at_next;refine wpListIn_next_ranges _ rfl _ rfl 117 dig_keyed heldR (fun c:Value=>c) (fun c:Value=>c) (fun key kl hk=>⟨key,rfl⟩) (fun v y hv=>⟨v,rfl⟩) b W.heap.size nn _ _ _ rfl hrg ?_ ?_)
   | gi_in)
  ·intro hc0 hl0
   gi_wp2
   go_end0
   exact ⟨⟨_,rfl⟩,.inl ⟨ps,⟨hnd,fun x=>⟨hin x,fun hx=>(hiff x.1 hx).1 (hl0 _)⟩⟩,hJs⟩⟩
  ·intro x c kl yd yp w2 cnt2 hkey hlk hv hat hrg2 hlt hg2 hs2 hen
   obtain ⟨d,hd,rfl⟩:=mD_any (hlf kl hlk)
   have hdk:=hok d hd
   have hx:x = .agg (cells8 d):=dig_keyed.inj hkey (by rw [← dKey_eq];exact key_dig d hdk.1 hdk.2)
   subst hx
   have hJ2:J ps w2:=hJ _ wr w2 (some W.heap.size) hJs hg2 (fun r e=>by cases e;exact ⟨Nat.le_refl _,hrg.iter_walk⟩)
   obtain ⟨X,hX⟩ : ∃ X,X=w2.alloc (.cells (cells8 d) 117):=⟨_,rfl⟩
   have hJ3:J ps X:=by rw [hX];exact hJ _ w2 _ none hJ2 (World.grownBy_alloc _ _ _) (fun r e=>by cases e)
   have hXr:X.heap[w2.heap.size]? = some (.cells (cells8 d) 117 (0,0)):=by rw [hX];exact heap_alloc_new _ _
   have hrgX:=hrg2.alloc (.cells (cells8 d) 117)
   rw [← hX] at hrgX
   obtain ⟨fn,tmps,assign,body,hy,hR⟩:=hY ps ⟨d,hdk⟩ X hJ3 (by omega)
   have HX:=hide hX
   have HXR:=hide hXr
   have HRGX:=hide hrgX
   have hds:=hdk.1
   clear hs2 hX hXr hrgX hJ2 hJ3
   dsimp only at hy
   gi_wp2_with (first
    | (refine wpListIn_store_row rfl 117 _ _ rfl w2.heap.size _ rfl rfl 117 _ (heap_alloc_new _ _) (size40 _ hds) (by rw [cells8_size,cells8_size,hds];rfl) (cells8_one _) ?_;rw [World.setRow_alloc_new,← HX.out])
    | (refine wpListIn_load_row rfl 117 _ rfl w2.heap.size rfl 117 _ _ _ HXR.out Tryz.underlying117 rfl (size40 _ hds) ?_)
    | gi_in)
   refine hR.mono ?_
   rintro e W3 (⟨rfl,hJ3,hk3⟩|⟨rfl,hJx3⟩)
   ·gi_wp2
    have hrg3:=HRGX.out.of_walks hk3
    have hnew:(⟨d,hdk⟩ : DV) ∉ ps:=fun h=>by
     have:=(hiff d hd).2 h
     rw [dKey_eq] at this
     rw [this] at hlk
     cases hlk
    go_roundw
    case rel =>
     refine ⟨_,cnt2,ps ++ [⟨d,hdk⟩],hrg3,by simp;omega,List.nodup_append.2 ⟨hnd,by simp,fun a ha b hb e=>hnew (by simp only [List.mem_singleton] at hb;rw [← hb,← e];exact ha)⟩,fun y hy=>?_,fun kl h=>hlf kl (by simp at h;exact h.1),fun d' hd'=>?_,hJ3⟩
     ·rcases List.mem_append.1 hy with hy|hy
      ·exact hin y hy
      ·simp only [List.mem_singleton] at hy
       rw [hy]
       exact hd
     ·rw [dKey_eq,kOf_same,← dKey_eq]
      by_cases e:dK d'=dK d
      ·have e':d'=d:=dK_inj (hok d' hd') hdk e
       subst e'
       simp
      ·have e':d'≠d:=fun h=>e (by rw [h])
       rw [decide_eq_false e]
       simp only [Bool.not_false,Bool.and_true,List.mem_append,List.mem_singleton,Subtype.mk.injEq,e',or_false]
       exact hiff d' hd'
    case measure=>rw [hrg3.left_eq,hrg.left_eq];exact hlt
   ·gi_wp2
    refine bodyPost_ret (results_none rfl _ _ _) rfl ?_
    exact ⟨⟨_,rfl⟩,.inr ⟨_,trivial,hJx3⟩⟩
theorem keysD_stops (F:Fence) (n:Nat) (hf:F.fn 161) (hro:F.round=none) (hn:1≤n) (Bm b nn:Nat) (cl:List (List Nat)) (hok:∀ d∈cl,DigOk d) (w:World) (hm:w.cell? ⟨Bm,0,none⟩=some (.map (some b))) (hown:CM w b nn (cD cl)) :
  SeqStopsK F n Tryz.prog 161 #[.pointer (some ⟨Bm,0,none⟩)] (fun x:DV=>#[.agg (cells8 x.1)]) KeepsWalks (AllD' cl) (fun _=>True) cl.length w:=fun l J Jx W hW hJ _ hY h0 =>
 keysD_in F n hf hro hn l Bm b nn cl hok J Jx hY W hJ (cell_later hW hm) (owns_same hown (hW.block b hown.lt)) h0
end Go.Proofs.YtncigfibncmioaaGreatDoor
namespace Go.Proofs.YtncigfibncmioaaGreatDoor
open Go.RowKit
def ff (p t:ByteArray):FF:=⟨p,t,(t.size:Int)⟩
theorem wrS_one (c b:ByteArray):wrS [(c,b)] = [sAp p0 b,sSy p0,sRn p0 c,sSd]:=by
 rw [← bPath0]
 rfl
theorem tbS_one:tbS 1 = [sRm p0,sSd]:=by
 rw [← bPath0]
 rfl
theorem Ran.step2 {D D':DS} {t:Stp} {l:List Stp} {k:Int} {n:Nat} (P:DS→Prop) (h:Ran D (t::l) k n D') (he:∀ k1 X,stR D t k1 X→k1=0∧P X):∃ D1 m,P D1∧n=m+1∧Ran D1 l k m D':=by
 obtain ⟨k1,D1,h1,h2⟩:=h
 obtain ⟨rfl,hP⟩:=he k1 D1 h1
 rcases h2 with ⟨h2,_⟩|⟨_,m,hm,h3⟩
 ·exact absurd rfl h2
 ·exact ⟨D1,m,hP,hm,h3⟩
theorem p0_path:isPathB p0=true:=by decide
theorem p1_path:isPathB p1=true:=by decide
theorem sumF_ins {F:List FF} (hr:RiseK FF.p F) {x:FF} (hx:findK FF.p x.p F=none):sumF (insK FF.p x F)=sumF F+x.t.size:=by
 unfold sumF
 rw [sumK_ins _ _ hr,delK_all (findK_none hx)]
 omega
theorem mem_ins {F:List FF} (hr:RiseK FF.p F) (x:FF):x∈insK FF.p x F:=by
 have:=findK_ins (key:=FF.p) x.p x hr
 rw [if_pos rfl] at this
 exact (findK_some this).1
theorem mem_ins_old {F:List FF} (hr:RiseK FF.p F) {x y:FF} (hy:y∈F) (hxy:y.p≠x.p):y∈insK FF.p x F:=by
 have:=findK_ins (key:=FF.p) y.p x hr
 rw [if_neg hxy,findK_mem hr hy] at this
 exact (findK_some this).1
theorem mem_del {F:List FF} {p:ByteArray} {y:FF} (hy:y∈F) (hxy:y.p≠p):y∈delK FF.p p F:=delK_mem.2 ⟨hy,hxy⟩
theorem syn_ins {F:List FF} (h:∀ x∈F,x.y=(x.t.size:Int)) (c b:ByteArray):∀ x∈insK FF.p (ff c b) F,x.y=(x.t.size:Int):=by
 intro x hx
 rcases insK_mem hx with rfl|hx
 ·rfl
 ·exact h x hx
theorem wr_one {D D':DS} {F:List FF} {r:Int} {B:Nat} {k:Int} {c b:ByteArray} (h:Rst D F r B) (h0:findK FF.p p0 F=none) (hc:isPathB c=true) (hcp:p0≠c) (hB:b.size≤B) (hw:WrR D [(c,b)] k D') :
  ((sumF F:Int)+(b.size:Int)≤r∧k=0∧Rst D' (insK FF.p (ff c b) F) r B)∨(r<(sumF F:Int)+(b.size:Int)∧k=4∧Rst D' F r B):=by
 obtain ⟨m,D1,hr,hor⟩:=hw
 rw [wrS_one] at hr
 have hrF:=h.wh.riseF
 obtain ⟨k1,A,hs,h2⟩:=hr
 rcases h.wh.ap hs p0_path h0 hB with ⟨hroom,rfl,hA⟩|⟨hroom,rfl,rfl⟩
 ·refine .inl ⟨hroom,?_⟩
  rcases h2 with ⟨h2,_⟩|⟨_,m1,rfl,hr⟩
  ·exact absurd rfl h2
  obtain ⟨E,m2,hE,_,hr1⟩:=hr.step2 (fun X=>Wh X (insK FF.p ⟨p0,b,(b.size:Int)⟩ (insK FF.p ⟨p0,b,0⟩ F)) r B) (fun k1 X hs=>hA.sy hs p0_path (mem_ins hrF _))
  obtain ⟨G,m3,hG,_,hr2⟩:=hr1.step2 (fun X=>Wh X (insK FF.p (ff c b) (delK FF.p p0 (insK FF.p ⟨p0,b,(b.size:Int)⟩ (insK FF.p ⟨p0,b,0⟩ F)))) r B) (fun k1 X hs=>hE.rn hs p0_path hc hcp (mem_ins (riseK_ins _ hrF) _))
  obtain ⟨H,m4,hH,_,hr3⟩:=hr2.step2 (fun X=>Wh X (insK FF.p (ff c b) (delK FF.p p0 (insK FF.p ⟨p0,b,(b.size:Int)⟩ (insK FF.p ⟨p0,b,0⟩ F)))) r B∧X.R.safe=X.R.now∧X.R.chg = []) (fun k1 X hs=>hG.sd hs)
  obtain ⟨rfl,_,rfl⟩:=hr3
  have he:insK FF.p (ff c b) (delK FF.p p0 (insK FF.p ⟨p0,b,(b.size:Int)⟩ (insK FF.p ⟨p0,b,0⟩ F)))=insK FF.p (ff c b) F:=by
   have r1:=riseK_ins (key:=FF.p) ⟨p0,b,0⟩ hrF
   have r2:=riseK_ins (key:=FF.p) ⟨p0,b,(b.size:Int)⟩ r1
   refine riseK_ext (riseK_ins _ (riseK_del _ r2)) (riseK_ins _ hrF) (fun n=>?_)
   rw [findK_ins _ _ (riseK_del _ r2),findK_ins _ _ hrF,findK_del,findK_ins _ _ r1,findK_ins _ _ hrF]
   by_cases hn:n=p0
   ·subst hn
    simp [h0]
   ·simp [hn]
  rw [he] at hH
  rcases hor with ⟨_,rfl⟩|⟨h,_⟩
  ·exact ⟨rfl,hH.1,hH.2.1,hH.2.2,syn_ins h.syn c b⟩
  ·exact absurd rfl h
 ·rcases h2 with ⟨_,rfl,rfl,rfl⟩|⟨h2,_⟩
  ·refine .inr ⟨hroom,rfl,?_⟩
   rcases hor with ⟨h4,_⟩|⟨_,hI⟩
   ·cases h4
   ·rw [Nat.zero_min] at hI
    have:D'=D1:=hI
    rw [this]
    exact h
  ·cases h2
theorem wr_two {D D':DS} {F:List FF} {r:Int} {B:Nat} {k:Int} {c b q X:ByteArray} (h:Rst D F r B) (h0:findK FF.p p0 F=none) (h1:findK FF.p p1 F=none) (hc:isPathB c=true) (hq:isPathB q=true) (hc0:p0≠c) (hc1:p1≠c) (hq0:p0≠q) (hq1:p1≠q) (hB:b.size≤B) (hX:X.size≤B) (hw:WrR D [(c,b),(q,X)] k D') :
  ((sumF F:Int)+(b.size:Int)+(X.size:Int)≤r∧k=0∧Rst D' (insK FF.p (ff q X) (insK FF.p (ff c b) F)) r B)∨(r<(sumF F:Int)+(b.size:Int)+(X.size:Int)∧k=4∧Rst D' F r B):=by
 obtain ⟨m,D1,hr,hor⟩:=hw
 have hws:wrS [(c,b),(q,X)] = [sAp p0 b,sAp p1 X,sSy p0,sSy p1,sRn p0 c,sRn p1 q,sSd]:=by
  rw [← bPath0,← bPath1]
  rfl
 rw [hws] at hr
 have hrF:=h.wh.riseF
 have n01:p0≠p1:=by decide
 obtain ⟨k1,A,hs,h2⟩:=hr
 rcases h.wh.ap hs p0_path h0 hB with ⟨hroom,rfl,hA⟩|⟨hroom,rfl,rfl⟩
 ·rcases h2 with ⟨h2,_⟩|⟨_,m1,rfl,hr⟩
  ·exact absurd rfl h2
  obtain ⟨k2,E,hs,h2⟩:=hr
  have r1:=riseK_ins (key:=FF.p) ⟨p0,b,0⟩ hrF
  have hsum:sumF (insK FF.p ⟨p0,b,0⟩ F)=sumF F+b.size:=sumF_ins hrF h0
  have hp1:findK FF.p p1 (insK FF.p ⟨p0,b,0⟩ F)=none:=by
   rw [findK_ins _ _ hrF,if_neg (fun e=>n01 e.symm)]
   exact h1
  rcases hA.ap hs p1_path hp1 hX with ⟨hroom2,rfl,hE⟩|⟨hroom2,rfl,rfl⟩
  ·refine .inl ⟨by rw [hsum] at hroom2;omega,?_⟩
   rcases h2 with ⟨h2,_⟩|⟨_,m2,rfl,hr⟩
   ·exact absurd rfl h2
   have r2:=riseK_ins (key:=FF.p) ⟨p1,X,0⟩ r1
   obtain ⟨G,m3,hG,_,hr4⟩:=hr.step2 (fun Y=>Wh Y (insK FF.p ⟨p0,b,(b.size:Int)⟩ (insK FF.p ⟨p1,X,0⟩ (insK FF.p ⟨p0,b,0⟩ F))) r B) (fun k1 Y hs=>hE.sy hs p0_path (mem_ins_old r1 (mem_ins hrF ⟨p0,b,0⟩) n01))
   have r3:=riseK_ins (key:=FF.p) ⟨p0,b,(b.size:Int)⟩ r2
   obtain ⟨H,m4,hH,_,hr5⟩:=hr4.step2 (fun Y=>Wh Y (insK FF.p ⟨p1,X,(X.size:Int)⟩ (insK FF.p ⟨p0,b,(b.size:Int)⟩ (insK FF.p ⟨p1,X,0⟩ (insK FF.p ⟨p0,b,0⟩ F)))) r B) (fun k1 Y hs=>hG.sy hs p1_path (mem_ins_old r2 (mem_ins r1 ⟨p1,X,0⟩) (Ne.symm n01)))
   have r4:=riseK_ins (key:=FF.p) ⟨p1,X,(X.size:Int)⟩ r3
   obtain ⟨I,m5,hI,_,hr6⟩:=hr5.step2 (fun Y=>Wh Y (insK FF.p (ff c b) (delK FF.p p0 (insK FF.p ⟨p1,X,(X.size:Int)⟩ (insK FF.p ⟨p0,b,(b.size:Int)⟩ (insK FF.p ⟨p1,X,0⟩ (insK FF.p ⟨p0,b,0⟩ F)))))) r B) (fun k1 Y hs=>hH.rn hs p0_path hc hc0 (mem_ins_old r3 (mem_ins r2 ⟨p0,b,(b.size:Int)⟩) n01))
   have r5:=riseK_ins (key:=FF.p) (ff c b) (riseK_del p0 r4)
   obtain ⟨J,m6,hJ,_,hr7⟩:=hr6.step2 (fun Y=>Wh Y (insK FF.p (ff q X) (delK FF.p p1 (insK FF.p (ff c b) (delK FF.p p0 (insK FF.p ⟨p1,X,(X.size:Int)⟩ (insK FF.p ⟨p0,b,(b.size:Int)⟩ (insK FF.p ⟨p1,X,0⟩ (insK FF.p ⟨p0,b,0⟩ F)))))))) r B) (fun k1 Y hs=>hI.rn hs p1_path hq hq1 (mem_ins_old (riseK_del _ r4) (mem_del (mem_ins r3 ⟨p1,X,(X.size:Int)⟩) (Ne.symm n01)) hc1))
   have he:insK FF.p (ff q X) (delK FF.p p1 (insK FF.p (ff c b) (delK FF.p p0 (insK FF.p ⟨p1,X,(X.size:Int)⟩ (insK FF.p ⟨p0,b,(b.size:Int)⟩ (insK FF.p ⟨p1,X,0⟩ (insK FF.p ⟨p0,b,0⟩ F)))))))=insK FF.p (ff q X) (insK FF.p (ff c b) F):=by
    refine riseK_ext (riseK_ins _ (riseK_del _ r5)) (riseK_ins _ (riseK_ins _ hrF)) (fun n=>?_)
    rw [findK_ins _ _ (riseK_del _ r5),findK_ins _ _ (riseK_ins _ hrF),findK_del,findK_ins _ _ (riseK_del _ r4),findK_ins _ _ hrF,findK_del,findK_ins _ _ r3,findK_ins _ _ r2,findK_ins _ _ r1,findK_ins _ _ hrF]
    by_cases hn0:n=p0
    ·subst hn0
     simp [ff,hc0,hq0,n01,h0]
    ·by_cases hn1:n=p1
     ·subst hn1
      simp [ff,hc1,hq1,h1]
     ·simp only [ff,hn0,hn1,if_false]
      by_cases hnq:n=q
      ·simp only [hnq,if_true]
      ·simp only [hnq,if_false]
       by_cases hnc:n=c
       ·simp only [hnc,if_true]
       ·simp only [hnc,if_false]
   rw [he] at hJ
   obtain ⟨K,m7,hK,_,hr8⟩:=hr7.step2 (fun Y=>Wh Y (insK FF.p (ff q X) (insK FF.p (ff c b) F)) r B∧Y.R.safe=Y.R.now∧Y.R.chg = []) (fun k1 Y hs=>hJ.sd hs)
   obtain ⟨rfl,_,rfl⟩:=hr8
   rcases hor with ⟨_,rfl⟩|⟨h,_⟩
   ·exact ⟨rfl,hK.1,hK.2.1,hK.2.2,syn_ins (syn_ins h.syn c b) q X⟩
   ·exact absurd rfl h
  ·refine .inr ⟨by rw [hsum] at hroom2;omega,?_⟩
   rcases h2 with ⟨_,rfl,rfl,rfl⟩|⟨h2,_⟩
   ·refine ⟨rfl,?_⟩
    rcases hor with ⟨h4,_⟩|⟨_,hI⟩
    ·cases h4
    ·have:min (0+1) [(c,b),(q,X)].length=1:=rfl
     rw [this,tbS_one] at hI
     obtain ⟨k3,G,hs3,k4,H,hs4,rfl⟩:=hI
     obtain ⟨_,hG⟩:=hA.rm (x:=⟨p0,b,0⟩) hs3 p0_path (mem_ins hrF _)
     obtain ⟨_,hH,hs,hc⟩:=hG.sd hs4
     have he:delK FF.p p0 (insK FF.p ⟨p0,b,0⟩ F)=F:=by
      refine riseK_ext (riseK_del _ r1) hrF (fun n=>?_)
      rw [findK_del,findK_ins _ _ hrF]
      by_cases hn:n=p0
      ·subst hn
       simp [h0]
      ·simp [hn]
     rw [show (⟨p0,b,0⟩ : FF).p=p0 from rfl,he] at hH
     exact ⟨hH,hs,hc,h.syn⟩
   ·cases h2
 ·rcases h2 with ⟨_,rfl,rfl,rfl⟩|⟨h2,_⟩
  ·refine .inr ⟨by omega,rfl,?_⟩
   rcases hor with ⟨h4,_⟩|⟨_,hI⟩
   ·cases h4
   ·rw [Nat.zero_min] at hI
    have:D'=D1:=hI
    rw [this]
    exact h
  ·cases h2
theorem bList_any (s:PSt) (d:Nat) (w:World) (h:DkW w d s) (hl:s.R.now.length≤100000000) :
  Calls Tryz.prog 22 #[.pointer (some ⟨d,0,none⟩)] w fun e w'=>∃ v,e = .returned (.tuple #[v,.int .i64 0])∧w'.ownsRow w.heap.size 9 1 v s.R.now.length (pathVs s.R.now)∧Below w.heap.size w w' :=
 wList d s.b (fun v w'=>w'.ownsRow w.heap.size 9 1 v s.R.now.length (pathVs s.R.now)∧Below w.heap.size w w') w h.bd (plist_any s.b s.R s.mb s.lb s.cv w h.inn.is hl)
theorem bRead_any (s:PSt) (d f:Nat) (p:ByteArray) (w:World) (h:DkW w d s) (hp:isPathB p=true) (hf:findE p s.R.now=some f) :
  Calls Tryz.prog 43 #[.pointer (some ⟨d,0,none⟩),.string p] w fun e w'=>e = .returned (.tuple #[.string (s.fd f).1,.int .i64 0])∧PGo s s w w':=by
 have hps:p.size≤9223372036854775807:=by
  simp only [isPathB,Bool.and_eq_true,decide_eq_true_eq] at hp
  omega
 refine (wRead s d p w 0 (fun s1=>s1=s) (s.fd f).1 h.bd h.gl.err ((pdRead s p w h.inn hps).mono ?_)).mono ?_
 ·rintro e w' ⟨v,t,rfl,_,_,h3⟩
  obtain ⟨h4,rfl⟩:=h3 f hp hf
  exact ⟨v,rfl,h4⟩
 ·rintro e w' ⟨rfl,_,h3⟩
  obtain ⟨s1,hg,rfl⟩:=h3 rfl
  exact ⟨rfl,hg⟩
def hOne (fd:Nat→ByteArray × Int) (out:ByteArray) (e:DE):ByteArray:=out++e.path++⟨#[32]⟩++⟨(Lib.itoa ((fd e.blk).1.size:Int)).toArray⟩++⟨#[32]⟩++(fd e.blk).1++⟨#[59]⟩
def hT (fd:Nat→ByteArray × Int) (l:List DE):ByteArray:=l.foldl (hOne fd) ⟨#[]⟩
theorem hT_snoc (fd:Nat→ByteArray × Int) (l:List DE) (e:DE):hT fd (l ++ [e])=hOne fd (hT fd l) e:=by
 unfold hT
 rw [List.foldl_append]
 rfl
theorem ba_size (a b:ByteArray):(a++b).size=a.size+b.size:=ByteArray.size_append
theorem row_go {w w':World} {B n:Nat} {v:Value} {xs:List Value} {s s':PSt} (h:w.ownsRow B 9 1 v n xs) (hi:s.In w) (hg:PGo s s' w w'):w'.ownsRow B 9 1 v n xs:=own_same h (fun k hk _=>by
 obtain ⟨c,hc⟩:=own_obj h k hk
 exact (hg.keeps hi hc (by decide) (by decide) (by decide) (by decide)).trans hc.symm)
end Go.Proofs.YtncigfibncmioaaGreatDoor
namespace Go.Proofs.YtncigfibncmioaaGreatDoor
set_option maxHeartbeats 4000000
set_option maxRecDepth 100000
open Go.RowKit Go.Shelf Go.Maps Go.Sort
attribute [local go_sem] Oper.semAt_some
theorem infoDig3:(Tryz.prog.info? 117).map (fun i=>(i.zero,i.size,i.bytes))=some (some (.agg (cells8 (Sha.zeros 32))),32,32):=by kernel_rfl
theorem sliceD_lit (x0 x1 x2 x3 x4 x5 x6 x7 x8 x9 x10 x11 x12 x13 x14 x15 x16 x17 x18 x19 x20 x21 x22 x23 x24 x25 x26 x27 x28 x29 x30 x31:Value) (w:World):(Instr.buildSlice 121 1 #[(0,.agg #[x0,x1,x2,x3,x4,x5,x6,x7,x8,x9,x10,x11,x12,x13,x14,x15,x16,x17,x18,x19,x20,x21,x22,x23,x24,x25,x26,x27,x28,x29,x30,x31])]).run Tryz.prog w = .ok (.slice (some ⟨w.heap.size,0,none⟩) 1 1) (w.alloc (.cells #[x0,x1,x2,x3,x4,x5,x6,x7,x8,x9,x10,x11,x12,x13,x14,x15,x16,x17,x18,x19,x20,x21,x22,x23,x24,x25,x26,x27,x28,x29,x30,x31] 117)):=by kernel_rfl
theorem sliceD (ds:List Nat) (h:ds.length=32) (w:World):(Instr.buildSlice 121 1 #[(0,.agg (cells8 ds))]).run Tryz.prog w = .ok (.slice (some ⟨w.heap.size,0,none⟩) 1 1) (w.alloc (.cells (cells8 ds) 117)):=by
 obtain ⟨x0,x1,x2,x3,x4,x5,x6,x7,x8,x9,x10,x11,x12,x13,x14,x15,x16,x17,x18,x19,x20,x21,x22,x23,x24,x25,x26,x27,x28,x29,x30,x31,rfl⟩:=list32 ds h
 exact sliceD_lit _ _ _ _ _ _ _ _ _ _ _ _ _ _ _ _ _ _ _ _ _ _ _ _ _ _ _ _ _ _ _ _ w
def DAI (w:World) (pre:List DV) (W:World):Prop:=∃ sv,W.heap[w.heap.size]? = some (.cells #[sv] 121 (0,0))∧W.ownsRow w.heap.size 117 32 sv pre.length (pre.flatMap DV.enc)∧Below w.heap.size w W
theorem wpListIn_sliceD {F:Fence} {m:Nat} {ops:Array Oper} {rest:List Oper} {op:Oper} {a:Act} {w:World} {Q:Exit→Act→World→Prop} (hgd:op.guard=none) (x:Operand) (ho:op.op = .buildSlice 121 1 #[(0,x)])
  (ds:List Nat) (hl:ds.length=32) (hx:a.eval x = .agg (cells8 ds))
  (h:wpListIn F m Tryz.prog ops Q rest (a.put op.dst (.slice (some ⟨w.heap.size,0,none⟩) 1 1)) (w.alloc (.cells (cells8 ds) 117))):wpListIn F m Tryz.prog ops Q (op::rest) a w:=by
 refine wpListIn_plain hgd fun K hK'=>?_
 have hr:=sliceD ds hl w
 unfold Oper.wpIn
 refine ⟨?_,?_⟩
 ·simp [Oper.about,ho]
 ·rw [Oper.semAt_plain F _ _ (by rw [ho];intro c hc';cases hc')]
  unfold execOp
  simp only [ho,hx,List.map_toArray,List.map_cons,List.map_nil,Sem.run_bind,Sem.run_pure,hr,Result.andThen_ok]
  exact hK' _ _ h
theorem dai_own (w:World) (B:Nat) (hB:w.heap.size≤B):OwnFrom B (DAI w):=by
 rintro pre X Y row ⟨sv,h1,h2,h3⟩ hgr hr
 have key:∀ (k:Nat) (cur:Array Value) (T:TypeId),X.heap[k]? = some (.cells cur T (0,0))→Y.heap[k]? = X.heap[k]?:=fun k cur T hc=>hgr.block k (lt_heap hc) (fun e=>by
  obtain ⟨o,x2,x3⟩:=(hr k e.symm).2
  rw [hc] at x2
  cases x2
  cases x3)
 refine ⟨sv,(key _ _ _ h1).trans h1,own_same h2 (fun k hk _=>?_),h3.grown hgr h3.size (fun k e=>by have:=(hr k e).1;omega)⟩
 obtain ⟨c,hc⟩:=own_obj h2 k hk
 exact key _ _ _ hc
def DAX (w:World) (g:Nat) (lb:Array Value) (x:DV) (a:Act) (W:World):Prop:=∃ vb,w.heap.size<vb∧a = { tmps:=#[.slice none 0 0,.func (.func g) #[] lb,.pointer (some ⟨w.heap.size,0,none⟩),undef,.slice none 0 0,.pointer (some ⟨vb,0,none⟩),.func (.func g) #[] lb,.agg (cells8 x.1),undef,undef,undef,undef,undef],defers:=[] }∧W.heap[vb]? = some (.cells (cells8 x.1) 117 (0,0))
theorem dax_own (w:World) (g:Nat) (lb:Array Value) (B:Nat) (x:DV) (a:Act):OwnFrom B (fun (_:Unit) W=>DAX w g lb x a W):=by
 rintro _ X Y row ⟨vb,h0,h1,h2⟩ hgr hr
 exact ⟨vb,h0,h1,(hgr.block vb (lt_heap h2) (fun e=>by
  obtain ⟨o,x2,x3⟩:=(hr vb e.symm).2
  rw [h2] at x2
  cases x2
  cases x3)).trans h2⟩
theorem dappendSeq_in (n:Nat) (hn:5≤n) (g:Nat) (lb:Array Value) (eg:∀ args w,(callFunc g args).run Tryz.prog w = .ok (.enter g args) w) (S:List DV→Prop) (N:Nat) (hN:N≤100000000) (w:World)
  (hseq:SeqStopsK Fence.wide (n - 1) Tryz.prog g lb (fun x:DV=>#[.agg (cells8 x.1)]) KeepsWalks S (fun _=>True) N w) :
  CallsIn Fence.wide n Tryz.prog 207 #[.slice none 0 0,.func (.func g) #[] lb] w fun e w'=>∃ v xs,e = .returned v∧S xs∧w'.ownsRow w.heap.size 117 32 v xs.length (xs.flatMap DV.enc)∧Below w.heap.size w w':=by
 have hz71:=(zero_of_info Tryz.info117).1
 obtain ⟨i0,hi,hz0,hz1,hz2⟩:=info_parts infoDig3
 refine callsIn_of_wp_marks Tryz.func207 rfl trivial ?_ rfl
 simp only [Tryz.ntmps207,List.size_toArray,List.length_cons,List.length_nil,Nat.reduceAdd,Nat.reduceSub,Array.replicate_succ,Array.replicate_zero,List.push_toArray,List.append_toArray,List.nil_append,List.cons_append]
 gi_wp2_with fail
 obtain ⟨w1,hw1⟩ : ∃ w1,w1=w.alloc (.cells #[.slice none 0 0] 121):=⟨_,rfl⟩
 have hb1:Below w.heap.size w w1:=by rw [hw1];exact (Below.refl _ _).alloc (Nat.le_refl _) _
 have hx1:w1.heap[w.heap.size]? = some (.cells #[.slice none 0 0] 121 (0,0)):=by rw [hw1];exact heap_alloc_new _ _
 have hs1:w1.heap.size=w.heap.size+1:=by rw [hw1,size_alloc]
 rw [← hw1]
 refine wpIn_rangeFunc_ownH (F:=Fence.wide) (n:=n) rfl (by omega) (gf:=g) (lb:=lb) rfl trivial eg hseq KeepsWalks.trans (walksK_b (w:=w1)) hb1 (fun _=>rfl)
  (DAI w) (fun _ _ _=>False) (dai_own w _ (by omega)) (fun _ _ _ _ _ h _ _=>h.elim)
  ⟨_,hx1,World.ownsRow_nil _ _ _ _,hb1⟩ (DAX w g lb) (dax_own w g lb _) ?assign ?body ?done ?stop
 case assign =>
  rintro l pre ⟨ds,hdk⟩ W K hI hK
  have hds:=hdk.1
  have hgr:=World.grownBy_alloc W (.cells (cells8 ds) 117) none
  have hIX:=dai_own w W.heap.size (by obtain ⟨sv,i1,i2,i3⟩:=hI;exact i3.size) pre W _ none hI hgr (fun r e=>by cases e)
  have hvb:w.heap.size<W.heap.size:=by
   obtain ⟨sv,i1,i2,i3⟩:=hI
   exact lt_heap i1
  have HK:=hide (hK _ (W.alloc (.cells (cells8 ds) 117)) ⟨by simp,fun k o _ hk _=>(Below.heap_alloc _ _ _ (lt_heap hk)).trans hk⟩ ⟨by simp,fun k o hk _=>(Below.heap_alloc _ _ _ (lt_heap hk)).trans hk⟩ hIX ⟨W.heap.size,hvb,rfl,heap_alloc_new _ _⟩)
  clear hI hIX hK hgr
  gi_wp2_with (first
   | (refine wpListIn_store_row rfl 117 _ _ rfl W.heap.size _ rfl rfl 117 _ (heap_alloc_new _ _) (size40 _ hds) (by rw [cells8_size,cells8_size,hds];rfl) (cells8_one _) ?_;rw [World.setRow_alloc_new])
   | gi_in)
  exact HK.out
 case body =>
  rintro l pre ⟨ds,hdk⟩ a' W hl ⟨r,hr⟩ ⟨sv,i1,i2,i3⟩ ⟨vb,hvb,rfl,hv⟩ hlen
  have hds:=hdk.1
  obtain ⟨so,sc,rfl⟩:=own_sl i2
  have ce:=cell_of_row _ _ 0 _ _ _ i1
  have HI2:=hide i2
  have HI1:=hide i1
  have HI3:=hide i3
  have HV:=hide hv
  have hwW:w.heap.size<W.heap.size:=lt_heap i1
  have HBOX:Hid (∀ w2:World,(W.alloc (.cells (cells8 ds) 117)).grownBy w2 (Value.slice so pre.length sc).ownBlock→w2.heap[w.heap.size]? = some (.cells #[.slice so pre.length sc] 121 (0,0))):=hide (fun w2 hg2=>by
   refine (hg2.block _ (by rw [size_alloc];omega) (fun e=>?_)).trans ((Below.heap_alloc _ _ _ hwW).trans i1)
   obtain ⟨c,hc⟩:=own_obj i2 _ e.symm
   rw [i1] at hc
   injection hc with hc
   injection hc with _ hc
   exact absurd hc (by decide))
  have HEC:=hide (new_cells W (cells8 ds) 117)
  clear i1 i2 i3 hv
  dsimp only
  gi_wp2_with (first
   | (refine wpListIn_load_row rfl 117 _ rfl vb rfl 117 _ _ _ HV.out Tryz.underlying117 rfl (size40 _ hds) ?_)
   | (refine wpListIn_sliceD rfl _ rfl ds hds rfl ?_)
   | (refine wpListIn_append_own _ rfl _ _ 121 rfl w.heap.size 117 i0 _ 32 32 Tryz.underlying121 hi hz0 hz1 hz2 (show (cells8 (Sha.zeros 32)).size=32 by rw [cells8_size];rfl) (by decide) _ pre.length _ rfl (ownsRow_later HI2.out ((Below.refl _ _).alloc (Nat.le_refl _) _)) _ 1 1 (cells8 ds).toList rfl (by rw [Array.length_toList,cells8_size,hds]) HEC.out (fun v hv=>Array.all_eq_true_iff_forall_mem.1 (cells8_one ds) v (by simpa using hv)) (by unfold maxLen;omega) (by omega) (by simp;omega) ?_;rintro v2 w2 hv2 hg2 -;obtain ⟨so2,sc2,rfl⟩:=own_sl hv2;have hbx:=HBOX.out w2 hg2;have cb:=cell_of_row _ _ 0 _ _ _ hbx;have fb:=frozen_of_row _ _ 0 _ _ hbx;have HV2:=hide hv2;have HG2:=hide hg2;have HBX:=hide hbx;clear hv2 hg2 hbx)
   | gi_in)
  have hoth:∀ (k:Nat) (o:Obj),W.heap[k]? = some o→o.isCells=false→(w2.setCell ⟨w.heap.size,0,none⟩ (.slice so2 (pre.length+1) sc2)).heap[k]? = some o:=by
   intro k o hk ho
   rw [heap_setCell_other _ _ _ _ (fun e=>?_)]
   ·refine (HG2.out.block k (by rw [size_alloc];have:=lt_heap hk;omega) (fun e=>?_)).trans ((Below.heap_alloc _ _ _ (lt_heap hk)).trans hk)
    obtain ⟨c,hc⟩:=own_obj HI2.out _ e.symm
    rw [hc] at hk
    cases hk
    cases ho
   ·have e:k=w.heap.size:=e
    subst e
    rw [HI1.out] at hk
    cases hk
    cases ho
  have hsz:W.heap.size≤(w2.setCell ⟨w.heap.size,0,none⟩ (.slice so2 (pre.length+1) sc2)).heap.size:=by
   have:=HG2.out.size
   simp only [size_alloc] at this
   simp
   omega
  refine ⟨⟨hsz,fun k o _ hk ho=>hoth k o hk ho⟩,⟨hsz,fun k o hk ho=>hoth k o hk (Obj.not_cells_of_walk ho)⟩,.slice so2 (pre.length+1) sc2,?_,?_,?_⟩
  ·rw [heap_setCell_same _ w.heap.size 0 _ _ _ HBX.out]
   rfl
  ·have hrow:=own_same (w':=w2.setCell ⟨w.heap.size,0,none⟩ (.slice so2 (pre.length+1) sc2)) HV2.out (fun k hk _=>heap_setCell_other _ _ _ _ (fun e=>by
    have e:k=w.heap.size:=e
    subst e
    obtain ⟨c,hc⟩:=own_obj HV2.out _ hk
    rw [HBX.out] at hc
    injection hc with hc
    injection hc with _ hc
    exact absurd hc (by decide)))
   rw [List.flatMap_append,List.length_append]
   simp only [List.flatMap_cons,List.flatMap_nil,List.append_nil]
   exact hrow
  ·have h1:Below w.heap.size w w2:=(HI3.out.alloc HI3.out.size _).grown HG2.out (by rw [size_alloc];omega) (fun k e=>own_ge HI2.out k e)
   exact ⟨h1.os,h1.tape,h1.output,by simpa using h1.size,fun k hk=>(heap_setCell_other _ _ _ _ (fun e=>by have e:k=w.heap.size:=e;omega)).trans (h1.block k hk)⟩
 case done =>
  rintro D xs W hD hS ⟨sv,i1,i2,i3⟩ hK
  obtain ⟨so,sc,rfl⟩:=own_sl i2
  have ce:=cell_of_row _ _ 0 _ _ _ i1
  have HI2:=hide i2
  have HI3:=hide i3
  have HI1:=hide i1
  clear i1 i2 i3
  gi_wp2
  refine ⟨by simp,.inl ⟨_,_,rfl,run_takeDeferred hK,?_⟩⟩
  refine ⟨_,results_tmp rfl _ _ _,_,xs,rfl,hS,own_same HI2.out (fun k hk _=>World.putObj_heap_other (fun e=>?_)),HI3.out.grown (grown_put _ _ _) HI3.out.size (fun k e=>by injection e with e;omega)⟩
  subst e
  obtain ⟨c,hc⟩:=own_obj HI2.out k hk
  rw [hc] at hK
  cases hK
 case stop =>
  rintro D c pre W hD _ h
  exact h.elim
theorem dcollect_in (n:Nat) (hn:6≤n) (g:Nat) (lb:Array Value) (eg:∀ args w,(callFunc g args).run Tryz.prog w = .ok (.enter g args) w) (S:List DV→Prop) (N:Nat) (hN:N≤100000000) (w:World)
  (hseq:SeqStopsK Fence.wide (n - 1 - 1) Tryz.prog g lb (fun x:DV=>#[.agg (cells8 x.1)]) KeepsWalks S (fun _=>True) N w) :
  CallsIn Fence.wide n Tryz.prog 159 #[.func (.func g) #[] lb] w fun e w'=>∃ v xs,e = .returned v∧S xs∧w'.ownsRow w.heap.size 117 32 v xs.length (xs.flatMap DV.enc)∧Below w.heap.size w w':=by
 have f1:Fence.wide.fn 207:=trivial
 have HA:=hide (dappendSeq_in (n - 1) (by omega) g lb eg S N hN w hseq)
 refine callsIn_of_wp Tryz.func159 rfl trivial ?_ rfl
 simp only [Tryz.ntmps159,List.size_toArray,List.length_cons,List.length_nil,Nat.reduceAdd,Nat.reduceSub,Array.replicate_succ,Array.replicate_zero,List.push_toArray,List.append_toArray,List.nil_append,List.cons_append]
 gi_wp2_with fail
 refine ⟨fun _=>by omega,?_⟩
 refine (HA.out).mono ?_
 rintro _ w1 ⟨v,xs,rfl,h1,h2,h3⟩
 dsimp only
 have H2:=hide h2
 clear h2
 gi_wp2_with fail
 go_ret
 exact ⟨_,xs,rfl,h1,H2.out,h3⟩
end Go.Proofs.YtncigfibncmioaaGreatDoor
