/-
  PROVED HERE: in which shape a crash leaves a store's disk that broke in the midst of a change, a Delete, a Prune; no walk.
-/
import Derived.Test.YtncigfibncmioaaGreatDoorSaAsk
import Derived.Test.YtncigfibncmioaaGreatDoorDsGen
import Derived.Test.YtncigfibncmioaaGreatDoorSmDApp
import Derived.Test.YtncigfibncmioaaGreatDoorStCont
import Derived.Test.YtncigfibncmioaaGreatDoorTagsOf
import Derived.Test.YtncigfibncmioaaGreatDoorStTxt
import Derived.Test.YtncigfibncmioaaGreatDoorSoLoad
namespace Go.Proofs.YtncigfibncmioaaGreatDoor
open Go.RowKit
def badF:List FF:=[⟨p0,⟨#[]⟩,1⟩]
theorem bad_no {D:DS} {r:Int} {B:Nat} (h:Wh D badF r B):False:=by
 obtain ⟨g,hg,h1,h2⟩:=h.find (x:=⟨p0,⟨#[]⟩,1⟩) (by simp [badF])
 have h3:=(h.dat g (h.inn _ (findE_in hg))).2.2
 rw [h1,h2] at h3
 exact absurd h3 (by decide)
theorem bad_sh {n:Nat} {A A':Sto}:ShP n A A' badF:=fun F' h=>by
 match F',h with
 | [b],h =>
  obtain ⟨⟨_,n,h2,h3,_⟩,_⟩:=h
  have h2:(1:Int)≤(n:Int):=h2
  have h3:n≤0:=h3
  omega
 | _::_::_,h=>exact h.2.elim
theorem bad_mv {r:Int} {B:Nat} {t:Stp} {F:List FF}:Mv r B badF t F:=fun _ _ _ h _=>(bad_no h).elim
theorem bad_chn {n:Nat} {A A':Sto} {r:Int} {B:Nat}:∀ l,Chn (ShP n A A') r B badF l
 | []=>bad_sh
 | _::l=>⟨bad_sh,badF,bad_mv,bad_chn l⟩
theorem bad_chw {n:Nat} {A A':Sto} {r:Int} {B:Nat} {tb:Nat→List Stp}:∀ l i,Chw (ShP n A A') r B tb i badF l
 | [],_=>bad_sh
 | _::l,i=>⟨bad_sh,fun _=>bad_chn _,badF,bad_mv,bad_chw l (i+1)⟩
theorem Mv.full {r:Int} {B:Nat} {F G:List FF} {p dt:ByteArray} (hp:isPathB p=true) (hf:findK FF.p p F=none) (hB:dt.size≤B) (hr:r<(sumF F:Int)+(dt.size:Int)):Mv r B F (sAp p dt) G:=fun D D' k h hs=>by
 rcases h.ap hs hp hf hB with ⟨h1,_⟩|⟨_,h2,h3⟩
 ·omega
 ·exact .inr ⟨rfl,h2,h3⟩
theorem okS_one {c b:ByteArray} (hc:isPathB c=true):∀ t∈wrS [(c,b)],okS t=true:=by
 rw [wrS_one]
 have h0:=p0_path
 intro t ht
 simp only [List.mem_cons,List.not_mem_nil,or_false] at ht
 rcases ht with rfl|rfl|rfl|rfl
 ·exact h0
 ·exact h0
 ·show (isPathB p0 && isPathB c)=true
  rw [h0,hc]
  rfl
 ·rfl
theorem wrS_2 (c b q X:ByteArray):wrS [(c,b),(q,X)] = [sAp p0 b,sAp p1 X,sSy p0,sSy p1,sRn p0 c,sRn p1 q,sSd]:=by
 rw [← bPath0,← bPath1]
 rfl
theorem okS_two {c b q X:ByteArray} (hc:isPathB c=true) (hq:isPathB q=true):∀ t∈wrS [(c,b),(q,X)],okS t=true:=by
 rw [wrS_2]
 have h0:=p0_path
 have h1:=p1_path
 intro t ht
 simp only [List.mem_cons,List.not_mem_nil,or_false] at ht
 rcases ht with rfl|rfl|rfl|rfl|rfl|rfl|rfl
 ·exact h0
 ·exact h1
 ·exact h0
 ·exact h1
 ·show (isPathB p0 && isPathB c)=true
  rw [h0,hc]
  rfl
 ·show (isPathB p1 && isPathB q)=true
  rw [h1,hq]
  rfl
 ·rfl
section
variable {n:Nat} {D D':DS} {A A':Sto} {r k:Int} {c b q X:ByteArray}
theorem torn_one (h:Rst (offL D) (fA A) r 2000) (hc:isPathB c=true) (hcp:p0≠c) (hB:b.size≤2000) (hA':insK FF.p (ff c b) (fA A)=fA A') (hw:WrZ D [(c,b)] k D'):Gd (ShP n A (if (szA A:Int)+(b.size:Int)≤r then A' else A)) r 2000 (offL D'):=by
 have hr:=h.wh.riseF
 by_cases hroom:(szA A:Int)+(b.size:Int)≤r
 ·rw [if_pos hroom]
  exact torn_write (by simp) (okS_one hc) h ShP.rest (chw_one hr (find_p0 A) hc hcp hB ShP.rest ShP.one ShP.one (by rw [hA'];exact ShP.rest2)) hw
 ·rw [if_neg hroom]
  refine torn_write (by simp) (okS_one hc) h ShP.rest ?_ hw
  rw [wrS_one]
  exact ⟨ShP.rest,fun _=>ShP.rest,badF,Mv.full p0_path (find_p0 A) hB (by show r<(szA A:Int)+_;omega),bad_chw _ _⟩
theorem torn_two {l':List TE} (h:Rst (offL D) (fA A) r 2000) (hc:isPathB c=true) (hc0:p0≠c) (hc1:p1≠c) (hB:b.size≤2000) (hX:(idxX l').size≤2000) (hA1:insK FF.p (ff c b) (fA A)=fA ⟨A'.cs,A.tg⟩) (hA':insK FF.p (ff indexP (idxX l')) (fA ⟨A'.cs,A.tg⟩)=fA A') (htg:A'.tg=l') (hw:WrZ D [(c,b),(indexP,idxX l')] k D') :
  Gd (ShP n A (if (szA A:Int)+((b.size+(idxX l').size:Nat):Int)≤r then A' else A)) r 2000 (offL D'):=by
 have hr:=h.wh.riseF
 have n01:p0≠p1:=by decide
 by_cases hroom:(szA A:Int)+((b.size+(idxX l').size:Nat):Int)≤r
 ·rw [if_pos hroom]
  refine torn_write (by simp) (okS_two hc index_path) h ShP.rest (chw_two hr (find_p0 A) (find_p1 A) hc index_path hc0 hc1 (by decide) hB hX ShP.rest ShP.one (fun y z hz=>ShP.two (by rcases hz with e|e<;>omega)) ?_ ?_) hw
  ·rw [hA1]
   exact ShP.com htg
  ·rw [hA1,hA']
   exact ShP.rest2
 ·rw [if_neg hroom]
  refine torn_write (by simp) (okS_two hc index_path) h ShP.rest ?_ hw
  rw [wrS_2]
  by_cases h1:(szA A:Int)+(b.size:Int)≤r
  ·have hp1:findK FF.p p1 (insK FF.p ⟨p0,b,0⟩ (fA A))=none:=by
    rw [findK_ins _ _ hr,if_neg (fun e=>n01 e.symm)]
    exact find_p1 A
   have hsum:sumF (insK FF.p ⟨p0,b,0⟩ (fA A))=sumF (fA A)+b.size:=sumF_ins hr (find_p0 A)
   refine ⟨ShP.rest,fun _=>ShP.rest,_,Mv.ap p0_path (find_p0 A) hB,ShP.one,fun _=>?_,badF,Mv.full p1_path hp1 hX (by rw [hsum];have e:szA A=sumF (fA A):=rfl;omega),bad_chw _ _⟩
   show Chn _ r 2000 _ (tbS 1)
   rw [tbS_one]
   exact ⟨ShP.one,fA A,(Mv.rm (x:=⟨p0,b,0⟩) p0_path (mem_ins hr _)).eq (del_ins (x:=⟨p0,b,0⟩) hr (find_p0 A)),ShP.rest,_,Mv.sd,ShP.rest⟩
  ·exact ⟨ShP.rest,fun _=>ShP.rest,badF,Mv.full p0_path (find_p0 A) hB (by show r<(szA A:Int)+_;omega),bad_chw _ _⟩
end
theorem torn_chg {n:Nat} {D D':DS} {A:Sto} {r k:Int} (h:Rst (offL D) (fA A) r 2000) (g:GoodA A) (hs:(szA A:Int)≤r) (nb:Option ByteArray) (hnb:∀ b,nb=some b→b.size≤300) (l':List TE) (hok:∀ t∈l',t.Ok) (h8:l'.length≤8) (hw:WrZ D (chF (nbF nb) A.tg l') k D') :
  Gd (ShP n A (if (szA A:Int)+((nbN nb+tgNeed A.tg l':Nat):Int)≤r then ⟨nbC A.cs nb,l'⟩ else A)) r 2000 (offL D'):=by
 have hX:=idxX_size hok h8
 have e1:∀ b,isPathB (kC b)=true:=fun b=>cP_path _
 have n0:p0≠indexP:=by decide
 unfold chF at hw
 unfold tgNeed
 cases nb with
 | none =>
  by_cases hl:l'=A.tg
  ·rw [if_pos hl] at hw ⊢
   subst hl
   have hw:WrZ D [] k D':=hw
   unfold WrZ at hw
   rw [if_pos rfl] at hw
   rw [hw.2,if_pos (by show (szA A:Int)+((0+0:Nat):Int)≤r;omega)]
   exact ⟨h.hi ShP.rest,_,h.wh,ShP.rest⟩
  ·rw [if_neg hl] at hw ⊢
   have:=torn_one (n:=n) (A':=⟨A.cs,l'⟩) h index_path n0 hX (fA_tags g.rise l') hw
   have e:((nbN none+(idxX l').size:Nat):Int)=((idxX l').size:Int):=by show ((0+(idxX l').size:Nat):Int)=_;omega
   rw [e]
   exact this
 | some b =>
  have hb3:=hnb b rfl
  by_cases hl:l'=A.tg
  ·rw [if_pos hl] at hw ⊢
   subst hl
   have:=torn_one (n:=n) (A':=⟨insK kC b A.cs,A.tg⟩) h (e1 b) (kC_p0 b) (by omega) (fA_ins g.rise b) hw
   have e:((nbN (some b)+0:Nat):Int)=(b.size:Int):=by show ((b.size+0:Nat):Int)=_;omega
   rw [e]
   exact this
  ·rw [if_neg hl] at hw ⊢
   exact torn_two (A':=⟨insK kC b A.cs,l'⟩) h (e1 b) (kC_p0 b) (kC_p1 b) (by omega) hX (fA_ins g.rise b) (fA_tags (A:=⟨insK kC b A.cs,A.tg⟩) (riseK_ins b g.rise) l') rfl hw
theorem torn_del {n:Nat} {D D':DS} {A:Sto} {r k:Int} {m:Nat} {b:ByteArray} (h:Rst (offL D) (fA A) r 2000) (g:GoodA A) (hb:b∈A.cs) (hr:Ran D [sRm (kC b),sSd] k m D'):k=0∧Gd (ShP n A ⟨delK kC (kC b) A.cs,A.tg⟩) r 2000 (offL D'):=by
 have hx:fC b∈fA A:=by unfold fA;exact List.mem_append.2 (.inl (List.mem_map_of_mem hb))
 have hp:isPathB (kC b)=true:=cP_path _
 refine torn_ran (l:=[sRm (kC b),sSd]) (F:=fA A) (fun t ht=>?_) (fun t ht=>?_) h.wh (h.hi ShP.rest) ⟨ShP.rest,fA ⟨delK kC (kC b) A.cs,A.tg⟩,(Mv.rm (x:=fC b) hp hx).eq (fA_del g.rise b),ShP.rest2,_,Mv.sd,ShP.rest2⟩ hr
 ·simp only [List.mem_cons,List.not_mem_nil,or_false] at ht
  rcases ht with rfl|rfl
  ·show (2:Nat)≠0;decide
  ·decide
 ·simp only [List.mem_cons,List.not_mem_nil,or_false] at ht
  rcases ht with rfl|rfl
  ·exact hp
  ·rfl
def prF (cs:List ByteArray) (tg:List TE):List FF:=insK FF.p (ff pruningP ⟨#[]⟩) (delK FF.p journalP (fA ⟨cs,tg⟩))
theorem prF_rise {cs:List ByteArray} {tg:List TE} (h:RiseK kC cs):RiseK FF.p (delK FF.p journalP (fA ⟨cs,tg⟩)):=riseK_del _ (fA_rise (A:=⟨cs,tg⟩) h)
theorem prF_del {cs:List ByteArray} {tg:List TE} (h:RiseK kC cs) (b:ByteArray):delK FF.p (kC b) (prF cs tg)=prF (delK kC (kC b) cs) tg:=by
 unfold prF
 rw [del_insO (prF_rise h) (show (ff pruningP ⟨#[]⟩).p≠kC b from Ne.symm (kC_pruning b))]
 congr 1
 rw [← show delK FF.p (kC b) (fA ⟨cs,tg⟩)=fA ⟨delK kC (kC b) cs,tg⟩ from fA_del (A:=⟨cs,tg⟩) h b]
 unfold delK
 rw [List.filter_filter,List.filter_filter]
 refine List.filter_congr fun x _=>?_
 rw [Bool.and_comm]
theorem prF_in {cs:List ByteArray} {tg:List TE} (h:RiseK kC cs) {b:ByteArray} (hb:b∈cs):fC b∈prF cs tg:=by
 refine mem_ins_old (prF_rise h) (mem_del (show fC b∈fA ⟨cs,tg⟩ from ?_) (kC_journal b)) (kC_pruning b)
 unfold fA
 exact List.mem_append.2 (.inl (List.mem_map_of_mem hb))
theorem prF_end {cs:List ByteArray} {tg:List TE} (h:RiseK kC cs):insK FF.p (ff journalP ⟨#[]⟩) (delK FF.p pruningP (prF cs tg))=fA ⟨cs,tg⟩:=by
 have hr:=fA_rise (A:=⟨cs,tg⟩) h
 have hj:(ff journalP ⟨#[]⟩)∈fA ⟨cs,tg⟩:=by unfold fA tailF;simp
 unfold prF
 have hp:findK FF.p pruningP (delK FF.p journalP (fA ⟨cs,tg⟩))=none:=by
  rw [findK_del]
  split
  ·rfl
  ·exact find_pruning _
 rw [show delK FF.p pruningP (insK FF.p (ff pruningP ⟨#[]⟩) (delK FF.p journalP (fA ⟨cs,tg⟩)))=delK FF.p journalP (fA ⟨cs,tg⟩) from del_ins (x:=ff pruningP ⟨#[]⟩) (prF_rise h) hp]
 refine riseK_ext (riseK_ins _ (riseK_del _ hr)) hr (fun n=>?_)
 rw [findK_ins _ _ (riseK_del _ hr),findK_del]
 by_cases hn:n=journalP
 ·subst hn
  have h2:=findK_mem hr hj
  rw [show (ff journalP ⟨#[]⟩).p=journalP from rfl] at h2
  rw [h2]
  simp [ff]
 ·simp [ff,hn]
theorem chz_prune {P:List FF→Prop} {r:Int} {B:Nat} {tg:List TE}:∀ (ul:List DV) (cs:List ByteArray),RiseK kC cs→(∀ cs',RiseK kC cs'→cs'.length≤cs.length→cs'.filter (fun b=>tagd (dOfB b) tg)=cs.filter (fun b=>tagd (dOfB b) tg)→P (prF cs' tg))→P (fA ⟨cs.filter (fun b=>tagd (dOfB b) tg),tg⟩)→ul.Nodup→(∀ d∈ul,tagd d.1 tg=false∧∃ b∈cs,d.1=dOfB b)→(∀ b∈cs,tagd (dOfB b) tg=false→∃ d∈ul,d.1=dOfB b) →
  Chz P r B (prF cs tg) (rmC ul ++ [sRn pruningP journalP,sSd]) (fA ⟨cs.filter (fun b=>tagd (dOfB b) tg),tg⟩)
 | [],cs,hr,hP,hE,_,_,hend=>by
  have hall:cs.filter (fun b=>tagd (dOfB b) tg)=cs:=List.filter_eq_self.2 fun b hb=>by
   cases ht:tagd (dOfB b) tg with
   | true=>rfl
   | false =>
    obtain ⟨d,hd,_⟩:=hend b hb ht
    cases hd
  have hP0:=hP cs hr (Nat.le_refl _) rfl
  rw [hall] at hE ⊢
  exact ⟨hP0,fA ⟨cs,tg⟩,(Mv.rn (p:=pruningP) (q:=journalP) (t:=⟨#[]⟩) (y:=((⟨#[]⟩ : ByteArray).size:Int)) (by decide) (by decide) (by decide) (mem_ins (prF_rise hr) (ff pruningP ⟨#[]⟩))).eq (prF_end hr),hE,_,Mv.sd,hE,rfl⟩
 | d::ul,cs,hr,hP,hE,hn,hul,hend=>by
  obtain ⟨n1,n2⟩:=List.nodup_cons.1 hn
  obtain ⟨ht,b,hb,hd⟩:=hul d (by simp)
  have hkb:cPath d.1=kC b:=by unfold kC;rw [hd]
  have hfe:(delK kC (kC b) cs).filter (fun b=>tagd (dOfB b) tg)=cs.filter (fun b=>tagd (dOfB b) tg):=by
   unfold delK
   rw [List.filter_filter]
   refine List.filter_congr fun x _=>?_
   by_cases hx:kC x=kC b
   ·have e:dOfB x=d.1:=(kC_inj hx).trans hd.symm
    rw [e,ht]
    rfl
   ·simp [hx]
  have ih:=chz_prune (r:=r) (B:=B) ul (delK kC (kC b) cs) (riseK_del _ hr) (fun cs' h1 h2 h3=>hP cs' h1 (Nat.le_trans h2 (delK_len _ _)) (h3.trans hfe)) (by rw [hfe];exact hE) n2 (fun e he=>by
   obtain ⟨a1,y,hy,a2⟩:=hul e (by simp [he])
   refine ⟨a1,y,delK_mem.2 ⟨hy,fun e2=>n1 ?_⟩,a2⟩
   have e3:e=d:=Subtype.ext (a2.trans ((kC_inj e2).trans hd.symm))
   rw [← e3]
   exact he) (fun x hx hxt=>by
   obtain ⟨x1,x2⟩:=delK_mem.1 hx
   obtain ⟨e,he,a2⟩:=hend x x1 hxt
   rcases List.mem_cons.1 he with rfl|he
   ·exact absurd (by unfold kC;rw [← a2,hd]) x2
   ·exact ⟨e,he,a2⟩)
  rw [hfe] at ih
  refine ⟨hP cs hr (Nat.le_refl _) rfl,prF (delK kC (kC b) cs) tg,?_,ih⟩
  show Mv r B (prF cs tg) (sRm (cPath d.1)) _
  rw [hkb]
  exact (Mv.rm (x:=fC b) (cP_path _) (prF_in hr hb)).eq (prF_del hr b)
theorem unT_all {cs:List ByteArray} {tg:List TE} (h:RiseK kC cs):(unT tg (cs.map dvC)).Nodup∧(∀ d∈unT tg (cs.map dvC),tagd d.1 tg=false∧∃ b∈cs,d.1=dOfB b)∧∀ b∈cs,tagd (dOfB b) tg=false→∃ d∈unT tg (cs.map dvC),d.1=dOfB b:=by
 refine ⟨(dl_nodup (A:=⟨cs,tg⟩) h).sublist List.filter_sublist,fun d hd=>?_,fun b hb ht=>?_⟩
 ·obtain ⟨d1,d2⟩:=List.mem_filter.1 hd
  exact ⟨by simpa using d2,(dl_mem (A:=⟨cs,tg⟩)).1 d1⟩
 ·exact ⟨dvC b,List.mem_filter.2 ⟨(dl_mem (A:=⟨cs,tg⟩)).2 ⟨b,hb,dvC_val b⟩,by rw [dvC_val,ht];rfl⟩,dvC_val b⟩
theorem epS_ok (ul:List DV):(∀ t∈epS ul,t.k≠0)∧∀ t∈epS ul,okS t=true:=by
 have hjp:isPathB journalP=true:=by decide
 have hpp:isPathB pruningP=true:=by decide
 refine ⟨fun t ht=>?_,fun t ht=>?_⟩
 ·simp only [epS,rmC,List.mem_append,List.mem_cons,List.mem_map,List.not_mem_nil,or_false] at ht
  rcases ht with ⟨d,_,rfl⟩|rfl|rfl
  ·show (2:Nat)≠0;decide
  ·show (3:Nat)≠0;decide
  ·decide
 ·simp only [epS,rmC,List.mem_append,List.mem_cons,List.mem_map,List.not_mem_nil,or_false] at ht
  rcases ht with ⟨d,_,rfl⟩|rfl|rfl
  ·exact cP_path _
  ·show (isPathB pruningP && isPathB journalP)=true;rw [hjp,hpp];rfl
  ·rfl
theorem torn_prune {n:Nat} {D D':DS} {A:Sto} {r k:Int} {m:Nat} (h:Rst (offL D) (fA A) r 2000) (g:GoodA A) (hln:A.cs.length≤n) (hr:Ran D (prS (unT A.tg (dlA A))) k m D'):k=0∧Gd (ShP n A ⟨taggedC A,A.tg⟩) r 2000 (offL D'):=by
 have hjp:isPathB journalP=true:=by decide
 have hpp:isPathB pruningP=true:=by decide
 have hj:(⟨journalP,⟨#[]⟩,((⟨#[]⟩ : ByteArray).size:Int)⟩ : FF)∈fA A:=by unfold fA tailF;simp [ff]
 obtain ⟨u1,u2,u3⟩:=unT_all (tg:=A.tg) g.rise
 obtain ⟨o1,o2⟩:=epS_ok (unT A.tg (dlA A))
 refine torn_ran (l:=prS (unT A.tg (dlA A))) (F:=fA A) (fun t ht=>?_) (fun t ht=>?_) h.wh (h.hi ShP.rest) ⟨ShP.rest,prF A.cs A.tg,Mv.rn hjp hpp (by decide) hj,(chz_prune (P:=ShP n A ⟨taggedC A,A.tg⟩) _ A.cs g.rise (fun cs' h1 h2 h3=>ShP.pru h1 (Nat.le_trans h2 hln) rfl h3.symm) ShP.rest2 u1 u2 u3).chn⟩ hr
 ·rcases List.mem_cons.1 ht with rfl|ht
  ·show (3:Nat)≠0;decide
  ·exact o1 t ht
 ·rcases List.mem_cons.1 ht with rfl|ht
  ·show (isPathB journalP && isPathB pruningP)=true;rw [hjp,hpp];rfl
  ·exact o2 t ht
end Go.Proofs.YtncigfibncmioaaGreatDoor
namespace Go.Proofs.YtncigfibncmioaaGreatDoor
set_option maxHeartbeats 4000000
set_option maxRecDepth 100000
open Go.RowKit
def A0:Sto:=⟨[],[]⟩
def abcB:ByteArray:=⟨#[97,98,99]⟩
def latestB:ByteArray:=⟨#[108,97,116,101,115,116]⟩
def A1:Sto:=⟨[abcB],[⟨latestB,dOfB abcB,3⟩]⟩
theorem good0:GoodA A0:=⟨List.Pairwise.nil,fun b hb=>(by cases hb),List.Pairwise.nil,fun t ht=>(by cases ht),Nat.zero_le _,fun t ht=>(by cases ht),fun t ht=>(by cases ht)⟩
theorem szA0:szA A0=36:=by rw [szA_eq];rfl
theorem rest3_rst {D:DS} {r:Int} {L C:Nat} (h:Rest3 D) (hl:D.R.left = -1) (hr:D.R.room=r) (hf:DFit D L C 36):Rst D (fA A0) r 2000:=by
 obtain ⟨⟨y,x,z,hn,fx,fy,fz⟩,h2,h3⟩:=h
 have hsz:((idxX []).size:Int)=23:=rfl
 have hvw:vwL D=fA A0:=by
  unfold vwL
  rw [hn]
  show [vwE D.fd ⟨indexP,y⟩,vwE D.fd ⟨journalP,x⟩,vwE D.fd ⟨layoutP,z⟩] = [ff indexP (idxX []),ff journalP ⟨#[]⟩,ff layoutP layoutT]
  unfold vwE
  dsimp only
  rw [fx,fy,fz]
  rfl
 have n1:emptyT≠⟨#[]⟩:=by decide
 have n2:emptyT≠layoutT:=by decide
 have n3:layoutT≠⟨#[]⟩:=by decide
 have nyx:y≠x:=fun e=>n1 (by have:=fy;rw [e,fx] at this;injection this with this;exact this.symm)
 have nyz:y≠z:=fun e=>n2 (by have:=fy;rw [e,fz] at this;injection this with this;exact this.symm)
 have nxz:x≠z:=fun e=>n3 (by have:=fx;rw [e,fz] at this;injection this)
 refine ⟨⟨hvw,hl,hr,fun e he e' he' hb=>?_,hf.inow,hf.isafe,hf.ichg,hf.inv,hf.rise,fun f hf2=>(hf.dat f hf2).mono (by decide),hf.chf⟩,h2,h3,fun f hm=>?_⟩
 ·rw [hn] at he he'
  simp only [List.mem_cons,List.not_mem_nil,or_false] at he he'
  rcases he with rfl|rfl|rfl<;>rcases he' with rfl|rfl|rfl<;>first|rfl|exact absurd hb nyx|exact absurd hb.symm nyx|exact absurd hb nyz|exact absurd hb.symm nyz|exact absurd hb nxz|exact absurd hb.symm nxz
 ·rcases tail_mem (show f∈tailF [] from hm) with rfl|rfl|rfl<;>rfl
theorem run_gen (D:List Nat) (X:ByteArray) (hD:DigOk D):Pl.run 1099511627776 A0 ⟨abcB.size+tgNeed [] [⟨latestB,D,3⟩],X,0,⟨[abcB],[⟨latestB,D,3⟩]⟩⟩=(X,0,⟨[abcB],[⟨latestB,D,3⟩]⟩):=by
 refine Pl.run_yes ?_
 rw [szA0]
 show ((36:Nat):Int)+((abcB.size+tgNeed [] [⟨latestB,D,3⟩]:Nat):Int)≤1099511627776
 have h4:(idxX [⟨latestB,D,3⟩]).size≤2000:=idxX_size (fun t ht=>by
  simp only [List.mem_singleton] at ht
  subst ht
  exact te_ok (by decide) hD.1 hD.2 (by decide) (by decide)) (by simp)
 have h5:tgNeed [] [⟨latestB,D,3⟩]≤2000:=by
  unfold tgNeed
  rw [if_neg (by simp)]
  exact h4
 have h6:abcB.size=3:=rfl
 omega
theorem ins_one (b:ByteArray):nbC A0.cs (some b) = [b]:=rfl
theorem con_none (b:ByteArray):conC A0 b=none:=rfl
theorem new_one (b:ByteArray):newC A0 b=some b:=by unfold newC;rw [con_none]
theorem tag_one (m b:ByteArray):tgNew A0 m b = [⟨m,dOfB b,(b.size:Int)⟩]:=by
 unfold tgNew
 rw [con_none]
 rfl
theorem run_first:(pubPl A0 latestB abcB).run 1099511627776 A0=(hxB abcB,0,A1):=by
 have hm:mayB A0 latestB=true:=rfl
 have hs:(abcB.size:Int)=3:=rfl
 unfold pubPl A1
 rw [if_pos hm,new_one,tag_one,ins_one,hs,show nbN (some abcB)=abcB.size from rfl,show A0.tg = [] from rfl]
 generalize hD:dOfB abcB=D
 have hok:DigOk D:=by rw [← hD];exact dOfB_ok abcB
 generalize hxB abcB=X
 exact run_gen D X hok
theorem bNew_sa (r:Int) (w:World) (hg:Gl w) (h0:0≤r) (h1:r≤9223372036854775807) :
  Calls Tryz.prog 24 #[.int .i64 r] w fun e w'=>∃ d so,e = .returned (.pointer (some ⟨d,0,none⟩))∧Below w.heap.size w w'∧w.heap.size≤d∧DkW w' d so∧(∀ k,so.own k→w.heap.size≤k)∧Er so.ds∧DFit so.ds 6 0 36∧so.R.left = -1∧so.R.room=r∧so.ds.R.now = []:=by
 refine (wNewDisk r (fun g w'=>∃ so:PSt,so.b=g∧Below w.heap.size w w'∧so.In w'∧(∀ k,so.own k→w.heap.size≤k)∧so.ds=⟨⟨r,[],[],[],0, -1⟩,[],so.fd⟩) w ((pnew_any r w).mono ?_)).mono ?_
 ·rintro e w' ⟨rfl,hb,hpd,hsz⟩
  rw [if_neg (by omega)] at hpd
  refine ⟨_,rfl,⟨w.heap.size+1+1,w.heap.size,w.heap.size+1,.slice none 0 0,⟨r,[],[],[],0, -1⟩,[],fun _=>(⟨#[]⟩,0),fun _=>.slice none 0 0⟩,rfl,hb,⟨hpd,fun f hf=>(by cases hf),fun f hf=>(by cases hf),fun e he=>(by cases he),fun e he=>(by cases he),fun c hc=>(by cases hc)⟩,fun k hk=>?_,rfl⟩
  rcases hk with e|e|e|e|e|⟨f,hf,e⟩
  ·have e:k=w.heap.size+1+1:=e;omega
  ·have e:k=w.heap.size:=e;omega
  ·have e:k=w.heap.size+1:=e;omega
  ·cases e
  ·cases e
  ·cases hf
 ·rintro e w' ⟨g,w1,rfl,rfl,so,rfl,hb,hin,hown,hds⟩
  have hba:=hb.alloc hb.size (.cells #[.pointer (some ⟨so.b,0,none⟩)] 90)
  obtain ⟨e1,e2⟩:=new_er r h0 h1 so.fd
  rw [← hds] at e1 e2
  exact ⟨w1.heap.size,so,rfl,hba,hb.size,⟨hin.later ((Below.refl _ _).alloc (Nat.le_refl _) _),heap_alloc_new _ _,hg.later hba,fun k hk hG=>by have:=hown k hk;have:=hg.lt hG;omega⟩,hown,e1,e2,congrArg (fun D:DS=>D.R.left) hds,congrArg (fun D:DS=>D.R.room) hds,congrArg (fun D:DS=>D.R.now) hds⟩
theorem hx_abc:hxB abcB=abcT:=abc_known
theorem within_sa (w:World) (hg:Gl w) :
  Calls Tryz.prog 28 #[.int .i64 1099511627776] w fun e w'=>∃ d xb sb cb s tb cl,e = .returned (.tuple #[.pointer (some ⟨d,0,none⟩),.pointer (some ⟨xb,0,none⟩),.bool false])∧Below w.heap.size w w'∧SA w' d xb sb cb s tb cl A1 1099511627776 3 92∧∀ k,fpr s xb sb cb tb k→w.heap.size≤k:=by
 have HND:=hide (bNew_sa 1099511627776 w hg (by decide) (by decide))
 have HGL:=hide hg
 clear hg
 go_enter Tryz.func28,Tryz.ntmps28
 go_wp2_with fail
 refine (HND.out).mono ?_
 rintro _ w1 ⟨d,so,rfl,hb1,hld,hdk,hown,her,hfit,hleft,hroom,hnow⟩
 dsimp only
 have hnl:so.R.now.length≤6:=hfit.nowLen
 have HOP:=hide (bOpen_new so w1 d hdk.inn hdk.gl hdk.low hfit (show Bud _ _ _ from ⟨by omega,by omega,by omega⟩) her.paths (by unfold rdD;rw [hnow];rfl) hdk.bd)
 have HB1:=hide hb1
 have HDK:=hide hdk
 have HOW:=hide hown
 have HER:=hide her
 have HFI:=hide hfit
 have HLE:=hide hleft
 have HRR:=hide (show so.ds.R.room=1099511627776 from hroom)
 have hN2:w.heap.size≤w1.heap.size:=hb1.size
 clear hb1 hdk hown her hfit hleft hroom hnow hnl HND
 go_wp2_with fail
 refine (HOP.out).mono ?_
 rintro _ w2 ⟨k,s3,sv,rfl,hg3,hop3,hok,hno⟩
 dsimp only
 obtain ⟨rfl,kp3,ea3,r3⟩:=open_pure HER.out (by rw [HRR.out];decide) hop3
 have fit3:=open_fit HER.out (by rw [HRR.out];decide) HFI.out hop3
 obtain ⟨xb,sb,cb,tb,rfl,hbst,hlsb,hlxb,hst⟩:=hok rfl
 have hGx:¬ isG xb:=fun e=>by have:=HGL.out.lt e;omega
 have hroom3:s3.ds.R.room=1099511627776:=by rw [kp3.1,HRR.out]
 have hbd2:BD w2 d s3.b:=(HDK.out.go hg3).bd
 have hsa:SA w2 d xb sb cb s3 tb [] A0 1099511627776 2 70:=⟨hbst,hGx,hst,hbd2,fun d hd=>(by cases hd),fun d=>⟨fun h=>(by cases h),fun ⟨b,hb,_⟩=>(by cases hb)⟩,Nat.zero_le _,rest3_rst (r3 HLE.out) (kp3.2 HLE.out) hroom3 fit3,fit3.c0,by have:=fit3.c1;omega,good0,by rw [szA0];decide,by decide,by decide⟩
 have HB2:=hide (HB1.out.trans (hg3.low (N:=w.heap.size) HOW.out hN2))
 have hfp:∀ k,s3.own k∨sS xb sb cb k→w.heap.size≤k:=fun k hk=>by
  rcases hk with e|e|e|e
  ·exact hg3.ownN HOW.out hN2 k e
  ·omega
  ·omega
  ·omega
 have HFP:=hide hfp
 have HPB:=hide (saPub hsa (by decide) (by decide) latestB abcB (by decide) (by decide +kernel) (by decide))
 have hN3:w.heap.size≤w2.heap.size:=Nat.le_trans hN2 hg3.gr.size
 rw [run_first] at HPB
 have hltb:w.heap.size≤tb:=by omega
 unfold latestB at HPB
 have habc:abcB=⟨#[97,98,99]⟩:=rfl
 clear hop3 kp3 ea3 r3 fit3 hok hno hst hbst hg3 HOP hroom3 hfp hbd2 hsa
 have HPB2:Hid (Calls Tryz.prog 25 #[.pointer (some ⟨xb,0,none⟩),.string ⟨#[108,97,116,101,115,116]⟩,.string ⟨#[97,98,99]⟩] w2 fun e w'=>e = .returned (.tuple #[.string abcT,.int .i64 0])∧SaN w2 w' d xb sb cb s3 tb A1 1099511627776 3 92):=hide (by rw [← hx_abc];exact HPB.out)
 clear HPB habc
 go_wp2_with fail
 refine (HPB2.out).mono ?_
 rintro _ w4 ⟨rfl,s4,tb4,cl4,hg4,ht4,hs4⟩
 dsimp only
 have HB4:=hide (HB2.out.trans (hg4.lowN HFP.out hN3))
 have HF4:=hide (show ∀ k,fpr s4 xb sb cb tb4 k→w.heap.size≤k from fun k hk=>by
  rcases hk with e|e|e
  ·rcases hg4.own k e with e|e
   ·exact HFP.out k (.inl e)
   ·omega
  ·exact HFP.out k (.inr e)
  ·rcases ht4 with ht4|ht4<;>omega)
 have HGT:=hide (saGet hs4 (b:=abcB) (c:=abcB) (findK_mem hs4.good.rise (by simp [A1])))
 rw [hx_abc] at HGT
 have HGT2:Hid (Calls Tryz.prog 34 #[.pointer (some ⟨xb,0,none⟩),.string abcT] w4 fun e w'=>e = .returned (.tuple #[.string ⟨#[97,98,99]⟩,.int .i64 0])∧SGo (sS xb sb cb) s4 s4 w4 w'∧SA w' d xb sb cb s4 tb4 cl4 A1 1099511627776 3 92):=HGT
 have hN4:w.heap.size≤w4.heap.size:=Nat.le_trans hN3 hg4.gr.size
 have hfr:=HF4.out
 clear hg4 ht4 hs4 HPB2 HGT hfr
 unfold abcT at HGT2 ⊢
 go_wp2_with fail
 refine (HGT2.out).mono ?_
 rintro _ w5 ⟨rfl,hg5,hs5⟩
 dsimp only
 have HTG:=hide (saTags hs5)
 have HB5:=hide (HB4.out.trans (hg5.lowN (fun k hk=>HF4.out k (hk.elim .inl (fun e=>.inr (.inl e)))) hN4))
 have hN5:w.heap.size≤w5.heap.size:=Nat.le_trans hN4 hg5.gr.size
 clear hg5 hs5 HGT2 HB4
 go_wp2_with fail
 refine (HTG.out).mono ?_
 rintro _ w6 ⟨v6,rfl,hrow6,hg6,hs6⟩
 dsimp only
 have hcl:A1.tg.flatMap tC = [.string ⟨#[108,97,116,101,115,116]⟩,.string abcT,.int .i64 3]:=by
  have h1:dtx (dOfB abcB)=abcT:=abc_known
  show [Value.string latestB,.string (dtx (dOfB abcB)),.int .i64 3] ++ []=_
  rw [h1]
  rfl
 rw [hcl] at hrow6
 obtain ⟨g,c,rfl, -,r0,r1,r2⟩:=own_three hrow6
 have HB6:=hide (HB5.out.trans (hg6.lowN (fun k hk=>HF4.out k (hk.elim .inl (fun e=>.inr (.inl e)))) hN5))
 have HS6:=hide hs6
 unfold abcT at r1
 clear hg6 hs6 hrow6 hcl HTG HB5
 go_wp2_with fail
 refine bodyPost_ret (results_tmp3 rfl _ _ _) rfl ?_
 exact ⟨d,xb,rfl,HB6.out,sb,cb,s4,tb4,⟨cl4,HS6.out⟩,HF4.out⟩
theorem begun_sa (w:World) (hg:Gl w) :
  Calls Tryz.prog 10 #[] w fun e w'=>∃ d xb sb cb s tb cl,e = .returned (.tuple #[.pointer (some ⟨d,0,none⟩),.pointer (some ⟨xb,0,none⟩)])∧Below w.heap.size w w'∧SA w' d xb sb cb s tb cl A1 1099511627776 3 92∧∀ k,fpr s xb sb cb tb k→w.heap.size≤k:=by
 have HW:=hide (within_sa w hg)
 clear hg
 go_enter Tryz.func10,Tryz.ntmps10
 go_wp2_with fail
 refine (HW.out).mono ?_
 rintro _ w1 ⟨d,xb,sb,cb,s,tb,cl,rfl,hb,hs,hf⟩
 dsimp only
 have HB:=hide hb
 have HS:=hide hs
 have HF:=hide hf
 clear hb hs hf HW
 go_wp2_with fail
 refine bodyPost_ret (results_tmp2 rfl _ _ _) rfl ?_
 exact ⟨d,xb,sb,cb,s,tb,cl,rfl,HB.out,HS.out,HF.out⟩
end Go.Proofs.YtncigfibncmioaaGreatDoor
namespace Go.Proofs.YtncigfibncmioaaGreatDoor
open Go.RowKit
section
variable {w:World} {d:Nat} {s:PSt} {A:Sto} {r:Int} {n cu:Nat}
theorem DQ.lenN (h:DQ w d s A r n cu):s.R.now.length=A.cs.length+3:=by
 have hv:s.ds.R.now.map (vwE s.ds.fd)=fA A:=h.rq.vw
 have:=congrArg List.length hv
 rw [List.length_map,fA_len] at this
 exact this
end
theorem ins_head {x:FF}:∀ {F:List FF},(∀ e∈F,lessB x.p e.p=true)→insK FF.p x F=x::F
 | [],_=>rfl
 | e::F,h=>by
  have h1:=h e (by simp)
  exact (if_neg (fun e1=>less_ne h1 e1.symm)).trans (if_pos h1)
theorem p0_less {A:Sto} {x:FF} (h:x∈fA A):lessB p0 x.p=true∧lessB p1 x.p=true:=by
 unfold fA at h
 rcases List.mem_append.1 h with h|h
 ·obtain ⟨b,_,rfl⟩:=List.mem_map.1 h
  show lessB p0 (kC b)=true∧lessB p1 (kC b)=true
  unfold kC
  rw [less_eq,less_eq,cP_data]
  exact ⟨rfl,rfl⟩
 ·rcases tail_mem h with rfl|rfl|rfl
  ·show lessB p0 indexP=true∧lessB p1 indexP=true;rw [less_eq,less_eq];exact ⟨rfl,rfl⟩
  ·show lessB p0 journalP=true∧lessB p1 journalP=true;rw [less_eq,less_eq];exact ⟨rfl,rfl⟩
  ·show lessB p0 layoutP=true∧lessB p1 layoutP=true;rw [less_eq,less_eq];exact ⟨rfl,rfl⟩
theorem one_list (A:Sto) (t:ByteArray):insK FF.p (ff p0 t) (fA A)=ff p0 t::fA A:=ins_head (fun _ he=>(p0_less he).1)
theorem two_list (A:Sto) (t u:ByteArray):insK FF.p (ff p1 u) (insK FF.p (ff p0 t) (fA A))=ff p0 t::ff p1 u::fA A:=by
 have h01:lessB p0 p1=true:=by rw [less_eq];rfl
 have n01:p0≠p1:=by decide
 have n10:¬ lessB p1 p0=true:=by rw [less_eq];decide
 rw [one_list]
 have e:insK FF.p (ff p1 u) (ff p0 t::fA A)=ff p0 t::insK FF.p (ff p1 u) (fA A):=(if_neg (show ¬ (ff p0 t).p=(ff p1 u).p from n01)).trans (if_neg (show ¬ lessB (ff p1 u).p (ff p0 t).p=true from n10))
 rw [e,ins_head (x:=ff p1 u) (fun _ he=>(p0_less he).2)]
theorem fA_own {A:Sto} {x:FF} (h:x∈fA A):foreignB x.p=false:=by
 unfold fA at h
 rcases List.mem_append.1 h with h|h
 ·obtain ⟨b,_,rfl⟩:=List.mem_map.1 h
  show foreignB (kC b)=false
  unfold foreignB
  have:=(dg_c (dOfB_ok b)).1
  rw [show kC b=cPath (dOfB b) from rfl,this]
  simp
 ·rcases tail_mem h with rfl|rfl|rfl
  ·show foreignB indexP=false;unfold foreignB;simp
  ·show foreignB journalP=false;unfold foreignB;simp
  ·show foreignB layoutP=false;unfold foreignB;simp
theorem fA_rm (A:Sto):(((fA A).map FF.p).reverse.filter foreignB) = []:=by
 rw [List.filter_eq_nil_iff]
 intro p hp
 rw [List.mem_reverse] at hp
 obtain ⟨x,hx,rfl⟩:=List.mem_map.1 hp
 rw [fA_own hx]
 decide
theorem rmS_view {D:DS} {F:List FF} (hv:vwL D=F):rmS foreignB D.R.now=((F.map FF.p).reverse.filter foreignB).map sRm:=by
 subst hv
 unfold rmS vwL
 rw [List.map_map]
 rfl
theorem rm_one (A:Sto) (t:ByteArray):(((insK FF.p (ff p0 t) (fA A)).map FF.p).reverse.filter foreignB).map sRm = [sRm p0]:=by
 have h0:foreignB p0=true:=by decide +kernel
 rw [one_list,List.map_cons,List.reverse_cons,List.filter_append,fA_rm]
 show ([p0].filter foreignB).map sRm=_
 rw [List.filter_cons_of_pos h0]
 rfl
theorem rm_two (A:Sto) (t u:ByteArray):(((insK FF.p (ff p1 u) (insK FF.p (ff p0 t) (fA A))).map FF.p).reverse.filter foreignB).map sRm = [sRm p1,sRm p0]:=by
 have h0:foreignB p0=true:=by decide +kernel
 have h1:foreignB p1=true:=by decide +kernel
 rw [two_list,List.map_cons,List.map_cons,List.reverse_cons,List.reverse_cons,List.append_assoc,List.filter_append,fA_rm]
 show ([p1,p0].filter foreignB).map sRm=_
 rw [List.filter_cons_of_pos h1,List.filter_cons_of_pos h0]
 rfl
def rmF (F:List FF):List Stp:=((F.map FF.p).reverse.filter foreignB).map sRm
theorem rmF_ok {F:List FF} (h:∀ x∈F,isPathB x.p=true):(∀ t∈rmF F ++ [sSd],t.k≠0)∧∀ t∈rmF F ++ [sSd],okS t=true:=by
 refine ⟨fun t ht=>?_,fun t ht=>?_⟩
 ·rcases List.mem_append.1 ht with ht|ht
  ·obtain ⟨p,_,rfl⟩:=List.mem_map.1 ht
   show (2:Nat)≠0
   decide
  ·rw [List.mem_singleton.1 ht]
   decide
 ·rcases List.mem_append.1 ht with ht|ht
  ·obtain ⟨p,hp,rfl⟩:=List.mem_map.1 ht
   have hp:=(List.mem_filter.1 hp).1
   rw [List.mem_reverse] at hp
   obtain ⟨x,hx,rfl⟩:=List.mem_map.1 hp
   exact h x hx
  ·rw [List.mem_singleton.1 ht]
   rfl
theorem fA_path2 {A:Sto} {x:FF} (hx:x∈fA A):isPathB x.p=true:=by
 unfold fA at hx
 rcases List.mem_append.1 hx with hx|hx
 ·obtain ⟨b,_,rfl⟩:=List.mem_map.1 hx
  exact cP_path _
 ·rcases tail_mem hx with rfl|rfl|rfl
  ·exact index_path
  ·show isPathB journalP=true;decide
  ·show isPathB layoutP=true;decide
section
variable {n:Nat} {A A':Sto} {F:List FF} {r:Int} {B:Nat} {D D':DS}
theorem Sh.path (h:Sh n A F):∀ x∈F,isPathB x.p=true:=fun x hx=>by
 cases h with
 | rest=>exact fA_path2 hx
 | one t =>
  rcases insK_mem hx with rfl|hx
  ·exact p0_path
  ·exact fA_path2 hx
 | two t u =>
  rcases insK_mem hx with rfl|hx
  ·exact p1_path
  ·rcases insK_mem hx with rfl|hx
   ·exact p0_path
   ·exact fA_path2 hx
 | com l =>
  rcases insK_mem hx with rfl|hx
  ·exact p1_path
  ·exact fA_path2 hx
 | pru cs h1 h2 h3 =>
  rcases insK_mem hx with rfl|hx
  ·show isPathB pruningP=true;decide
  ·exact fA_path2 (delK_mem.1 hx).1
theorem Sh.len (h:Sh n A F) (hl:A.cs.length≤n):F.length≤n+5:=by
 cases h with
 | rest=>rw [fA_len];omega
 | one t =>
  have:=insK_len (key:=FF.p) (ff p0 t) (fA A)
  rw [fA_len] at this
  omega
 | two t u =>
  have h1:=insK_len (key:=FF.p) (ff p0 t) (fA A)
  have h2:=insK_len (key:=FF.p) (ff p1 u) (insK FF.p (ff p0 t) (fA A))
  rw [fA_len] at h1
  omega
 | com l =>
  have:=insK_len (key:=FF.p) (ff p1 (idxX A.tg)) (fA ⟨A.cs,l⟩)
  rw [fA_len] at this
  have e:(⟨A.cs,l⟩ : Sto).cs.length=A.cs.length:=rfl
  omega
 | pru cs h1 h2 h3 =>
  have h4:=insK_len (key:=FF.p) (ff pruningP ⟨#[]⟩) (delK FF.p journalP (fA ⟨cs,A.tg⟩))
  have h5:=delK_len (key:=FF.p) journalP (fA ⟨cs,A.tg⟩)
  rw [fA_len] at h5
  have e:(⟨cs,A.tg⟩ : Sto).cs.length=cs.length:=rfl
  omega
theorem cutF_syn:∀ {F:List FF},(∀ x∈F,x.y≤(x.t.size:Int))→CutF F (F.map fun x=>⟨x.p,x.t,(x.t.size:Int)⟩)
 | [],_=>trivial
 | x::_,h=>⟨cut_self (h x (by simp)),cutF_syn (fun y hy=>h y (by simp [hy]))⟩
theorem Wh.le (h:Wh D F r B):∀ x∈F,x.y≤(x.t.size:Int):=fun x hx=>by
 obtain ⟨g,hg,h1,h2⟩:=h.find hx
 have:=(h.dat g (h.inn _ (findE_in hg))).2.2
 rw [h1,h2] at this
 exact this
theorem Wh.paths (h:Wh D F r B) (hs:ShP n A A' F):∀ x∈F,isPathB x.p=true:=fun x hx=>by
 have hm:(⟨x.p,x.t,(x.t.size:Int)⟩ : FF)∈F.map fun x=>⟨x.p,x.t,(x.t.size:Int)⟩:=List.mem_map.2 ⟨x,hx,rfl⟩
 rcases hs _ (cutF_syn h.le) with h1|h1
 ·exact h1.path (⟨x.p,x.t,(x.t.size:Int)⟩ : FF) hm
 ·exact h1.path (⟨x.p,x.t,(x.t.size:Int)⟩ : FF) hm
theorem gor_ran {k:Int} (h:GoR D k D'):∃ m,Ran D (rmS foreignB D.R.now ++ [sSd]) k m D':=by
 obtain ⟨k1,m,D1,h1,h2⟩:=h
 rcases h2 with ⟨a1,a2,a3⟩|⟨a1,a2⟩
 ·rw [a2,a3]
  exact ⟨m,h1.stop _ a1⟩
 ·rw [a1] at h1
  exact ⟨_,h1.app (Ran.one a2)⟩
theorem szs_no:∀ {l:List Stp},(∀ t∈l,t.k≠0)→szs l=0
 | [],_=>rfl
 | t::l,h=>by
  have e:szs (t::l)=t.sz+szs l:=by simp [szs]
  have e2:t.sz=0:=if_neg (h t (by simp))
  rw [e,e2,szs_no (fun x hx=>h x (by simp [hx]))]
theorem DFit.ranN {l:List Stp} {L C:Nat} {k:Int} {m:Nat} (h:DFit D L C B) (hk:∀ t∈l,t.k≠0) (hr:Ran D l k m D'):DFit D' (L+l.length) (C+l.length) B:=by
 have:=h.ran hr
 rwa [szs_no hk] at this
structure ShOut (n:Nat) (A:Sto) (r:Int) (m:Nat) (D:DS) (k:Int) (D':DS):Prop where
 k0:k=0
 gd:Gd (ShP n A A) r 2000 (offL D')
 rst:D.R.left = -1→Rst D' (fA A) r 2000
 fit:∀ {L C B:Nat},DFit D L C B→DFit D' (L+m) (C+m) B
theorem offL_whole (h:D.R.left = -1):offL D=D:=by
 obtain ⟨⟨room,now,safe,chg,count,left⟩,fs,fd⟩:=D
 simp only at h
 subst h
 rfl
theorem goX_out {hd:List Stp} {F1:List FF} {m:Nat} {k:Int} (hw:Wh (offL D) F r 2000) (hi:Hi (offL D) (ShP n A A)) (hk:∀ t∈hd,t.k≠0) (ho:∀ t∈hd,okS t=true) (c1:Chz (ShP n A A) r 2000 F hd F1) (c2:Chz (ShP n A A) r 2000 F1 (rmF F1 ++ [sSd]) (fA A)) (hm:hd.length+(rmF F1).length+1≤m) (hr:GoX hd D k D'):ShOut n A r m D k D':=by
 obtain ⟨k1,m1,D1,h1,h2⟩:=hr
 obtain ⟨hk1,hc⟩:=torn_all hk ho hw hi c1 h1
 rcases h2 with ⟨h2,_⟩|⟨_,hg⟩
 ·exact absurd hk1 h2
 obtain ⟨m2,h3⟩:=gor_ran hg
 rcases hc with ⟨hl,hgd⟩|⟨hw1,hi1,hp1⟩
 ·obtain ⟨F0,hw0,hp0⟩:=hgd.2
  have hv:vwL D1=F0:=hw0.vw
  rw [rmS_view hv] at h3
  obtain ⟨e1,e2⟩:=ran_zero (rmF_ok (hw0.paths hp0)).2 hl h3
  rw [e2]
  refine ⟨e1,hgd,fun h=>?_,fun hf=>(hf.ranN hk h1).mono (by omega) (by omega) (Nat.le_refl _)⟩
  rw [offL_whole h] at hw hi
  have:=(chz_ran hk hw hi c1 h1).2.1.left
  rw [hl] at this
  cases this
 ·have hv:vwL D1=F1:=hw1.vw
  obtain ⟨o1,o2⟩:=rmF_ok (hw1.paths hp1)
  rw [rmS_view hv] at h3
  obtain ⟨e1,hc2⟩:=torn_all o1 o2 hw1 hi1 c2 h3
  refine ⟨e1,?_,fun h=>?_,fun hf=>?_⟩
  ·rcases hc2 with ⟨_,hgd⟩|⟨a1,a2,a3⟩
   ·exact hgd
   ·exact ⟨a2,_,a1,a3⟩
  ·rw [offL_whole h] at hw hi
   obtain ⟨_,b1,b2,_⟩:=chz_ran hk hw hi c1 h1
   obtain ⟨_,d1,_,_⟩:=chz_ran o1 b1 b2 c2 h3
   obtain ⟨k9,m9,D9,g1,g2⟩:=hg
   rw [rmS_view hv] at g1
   rcases g2 with ⟨g2,g3,_⟩|⟨_,g2⟩
   ·exact absurd (g3.symm.trans e1) g2
   ·have hl9:¬ D9.R.left=0:=fun e9=>by
     have g2:(k,D')=sdD D9:=g2
     unfold sdD at g2
     rw [if_pos e9] at g2
     injection g2 with _ g2
     have:=d1.left
     rw [g2,e9] at this
     cases this
    obtain ⟨_,rfl⟩:=st_sd g2 hl9
    exact ⟨d1,rfl,rfl,fA_syn A⟩
  ·have:=(hf.ranN hk h1).ranN o1 h3
   rw [List.length_append,List.length_singleton] at this
   exact this.mono (by omega) (by omega) (Nat.le_refl _)
theorem chz_end:Chz (ShP n A A) r B (fA A) (rmF (fA A) ++ [sSd]) (fA A):=by
 have e:rmF (fA A) = []:=by unfold rmF;rw [fA_rm];rfl
 rw [e]
 exact ⟨ShP.rest,_,Mv.sd,ShP.rest,rfl⟩
theorem Rst.hiS (h:Rst (offL D) F r 2000) (hs:Sh n A F):Hi (offL D) (ShP n A A):=h.hi hs.shp
theorem goR_out {k:Int} (hF:F=fA A∨(∃ t,F=insK FF.p (ff p0 t) (fA A))∨∃ t u,F=insK FF.p (ff p1 u) (insK FF.p (ff p0 t) (fA A))) (h:Rst (offL D) F r 2000) (hA:RiseK kC A.cs) (hr:GoR D k D'):ShOut n A r 3 D k D':=by
 have hrA:=fA_rise hA
 have hx:GoX [] D k D':=⟨0,0,D,⟨rfl,rfl,rfl⟩,.inr ⟨rfl,hr⟩⟩
 have n0:∀ t∈([]:List Stp),t.k≠0:=fun t ht=>by cases ht
 have n1:∀ t∈([]:List Stp),okS t=true:=fun t ht=>by cases ht
 have e0:rmF (fA A) = []:=by unfold rmF;rw [fA_rm];rfl
 have hend:Chz (ShP n A A) r 2000 (fA A) [sSd] (fA A):=⟨ShP.rest,_,Mv.sd,ShP.rest,rfl⟩
 rcases hF with rfl|⟨t,rfl⟩|⟨t,u,rfl⟩
 ·exact goX_out (F1:=fA A) h.wh (h.hiS .rest) n0 n1 ⟨ShP.rest,rfl⟩ chz_end (by rw [e0];decide) hx
 ·have e:rmF (insK FF.p (ff p0 t) (fA A)) = [sRm p0]:=rm_one A t
  refine goX_out (F1:=insK FF.p (ff p0 t) (fA A)) h.wh (h.hiS (.one t)) n0 n1 ⟨Sh.shp (.one t),rfl⟩ ?_ (by rw [e];decide) hx
  rw [e]
  exact ⟨Sh.shp (.one t),fA A,(Mv.rm (x:=ff p0 t) p0_path (mem_ins hrA _)).eq (del_ins (x:=ff p0 t) hrA (find_p0 A)),hend⟩
 ·have e:rmF (insK FF.p (ff p1 u) (insK FF.p (ff p0 t) (fA A))) = [sRm p1,sRm p0]:=rm_two A t u
  have r1:=riseK_ins (key:=FF.p) (ff p0 t) hrA
  have hp1:findK FF.p p1 (insK FF.p (ff p0 t) (fA A))=none:=by
   rw [findK_ins _ _ hrA,if_neg (show ¬ p1=(ff p0 t).p by show ¬ p1=p0;decide)]
   exact find_p1 A
  refine goX_out (F1:=insK FF.p (ff p1 u) (insK FF.p (ff p0 t) (fA A))) h.wh (h.hiS (.two t u)) n0 n1 ⟨Sh.shp (.two t u),rfl⟩ ?_ (by rw [e];decide) hx
  rw [e]
  exact ⟨Sh.shp (.two t u),_,(Mv.rm (x:=ff p1 u) p1_path (mem_ins r1 _)).eq (del_ins (x:=ff p1 u) r1 hp1),Sh.shp (.one t),fA A,(Mv.rm (x:=ff p0 t) p0_path (mem_ins hrA _)).eq (del_ins (x:=ff p0 t) hrA (find_p0 A)),hend⟩
theorem mv_com {l:List TE} (hA:RiseK kC A.cs):Mv r B (insK FF.p (ff p1 (idxX A.tg)) (fA ⟨A.cs,l⟩)) (sRn p1 indexP) (fA A):=by
 have hr0:=fA_rise (A:=⟨A.cs,l⟩) hA
 refine (Mv.rn p1_path index_path (by decide) (mem_ins hr0 (ff p1 (idxX A.tg)))).eq ?_
 show insK FF.p (ff indexP (idxX A.tg)) (delK FF.p p1 _)=_
 rw [show delK FF.p p1 (insK FF.p (ff p1 (idxX A.tg)) (fA ⟨A.cs,l⟩))=fA ⟨A.cs,l⟩ from del_ins (x:=ff p1 (idxX A.tg)) hr0 (find_p1 _)]
 exact fA_tags (A:=⟨A.cs,l⟩) hA A.tg
theorem com_ok:(∀ t∈[sRn p1 indexP],t.k≠0)∧∀ t∈[sRn p1 indexP],okS t=true:=by
 refine ⟨fun t ht=>?_,fun t ht=>?_⟩
 ·rw [List.mem_singleton.1 ht]
  show (3:Nat)≠0
  decide
 ·rw [List.mem_singleton.1 ht]
  show (isPathB p1 && isPathB indexP)=true
  rw [p1_path,index_path]
  rfl
theorem goX_com {l:List TE} {k:Int} (h:Rst (offL D) (insK FF.p (ff p1 (idxX A.tg)) (fA ⟨A.cs,l⟩)) r 2000) (hA:RiseK kC A.cs) (hr:GoX [sRn p1 indexP] D k D'):ShOut n A r 3 D k D':=by
 have e0:rmF (fA A) = []:=by unfold rmF;rw [fA_rm];rfl
 exact goX_out (F1:=fA A) h.wh (h.hiS (.com l)) com_ok.1 com_ok.2 ⟨Sh.shp (.com l),fA A,mv_com hA,ShP.rest,rfl⟩ chz_end (by rw [e0];decide) hr
theorem goX_pru {cs:List ByteArray} {k:Int} (h:Rst (offL D) (prF cs A.tg) r 2000) (h1:RiseK kC cs) (h2:cs.length≤n) (h3:A.cs=cs.filter (fun b=>tagd (dOfB b) A.tg)) (hr:GoX (epS (unT A.tg (cs.map dvC))) D k D'):ShOut n A r (cs.length+3) D k D':=by
 have e0:rmF (fA A) = []:=by unfold rmF;rw [fA_rm];rfl
 obtain ⟨u1,u2,u3⟩:=unT_all (tg:=A.tg) h1
 obtain ⟨o1,o2⟩:=epS_ok (unT A.tg (cs.map dvC))
 have hA:(⟨cs.filter (fun b=>tagd (dOfB b) A.tg),A.tg⟩ : Sto)=A:=by rw [← h3]
 have hc:=chz_prune (P:=ShP n A A) (r:=r) (B:=2000) (tg:=A.tg) (unT A.tg (cs.map dvC)) cs h1 (fun cs' a1 a2 a3=>Sh.shp (.pru cs' a1 (Nat.le_trans a2 h2) (h3.trans a3.symm))) (by rw [hA];exact ShP.rest) u1 u2 u3
 rw [hA] at hc
 refine goX_out (F1:=fA A) h.wh (h.hiS (.pru cs h1 h2 h3)) o1 o2 hc chz_end ?_ hr
 have hl:(unT A.tg (cs.map dvC)).length≤(cs.map dvC).length:=List.length_filter_le _ _
 rw [List.length_map] at hl
 rw [e0]
 unfold epS rmC
 rw [List.length_append,List.length_map]
 show _+2+0+1≤_
 omega
end
structure StepV where
 k:Int
 n:Int
 b:Int
def step0:StepV:=⟨0,0,0⟩
def StepV.ok (t:StepV):Prop:=i64r t.k∧i64r t.n∧i64r t.b
def StepV.cells (t:StepV):List Value:=[.int .i64 t.k,.int .i64 t.n,.int .i64 t.b]
def StepsAt (N:Nat) (w:World) (oa:Option Addr) (l:List StepV):Prop:=∀ i,i<l.length→∃ b o,oa=some ⟨b,o,none⟩∧b<N∧w.rangeAt b (o+i * 3) (l.getD i step0).cells∧(l.getD i step0).ok
theorem StepsAt.low {N:Nat} {w w':World} {oa:Option Addr} {l:List StepV} (h:StepsAt N w oa l) (hb:∀ k,k<N→w'.heap[k]? = w.heap[k]?):StepsAt N w' oa l:=fun i hi=>by
 obtain ⟨b,o,h1,h2,h3,h4⟩:=h i hi
 exact ⟨b,o,h1,h2,fun j v hj=>(World.cell?_of_block (a:=⟨b,o+i * 3+j,none⟩) (hb b h2)).trans (h3 j v hj),h4⟩
theorem fpr_next {w w':World} {xb sb cb tb tb':Nat} {s s':PSt} {k:Nat} (hg:SGo (sS xb sb cb) s s' w w') (ht:tb'=tb∨w.heap.size≤tb') (hk:fpr s' xb sb cb tb' k):fpr s xb sb cb tb k∨w.heap.size≤k:=by
 rcases hk with e|e|e
 ·exact (hg.own k e).imp .inl id
 ·exact .inl (.inr (.inl e))
 ·rcases ht with ht|ht
  ·exact .inl (.inr (.inr (e.trans ht)))
  ·right
   rw [e]
   exact ht
theorem wrap_i64 (x:Int):i64r (IntKind.i64.wrap x):=by
 unfold i64r IntKind.wrap
 simp [IntKind.bits,IntKind.signed]
 omega
end Go.Proofs.YtncigfibncmioaaGreatDoor
