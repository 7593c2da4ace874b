/-
  PROVED HERE: the calls of the program's disk in one form each: what a step answers and what the disk holds behind it, as plain functions; no walk.
-/
import Derived.Test.YtncigfibncmioaaGreatDoorPdFit
import Derived.Deep.RegionHeld3
import Derived.Test.YtncigfibncmioaaGreatDoorPdRead
namespace Go.Proofs.YtncigfibncmioaaGreatDoor
open Go.RowKit
structure DS where
 R:RDk
 fs:List Nat
 fd:Nat→ByteArray × Int
def PSt.ds (s:PSt):DS:=⟨s.R,s.fs,s.fd⟩
structure DFit (D:DS) (L C B:Nat):Prop where
 len:D.R.safe.length+D.R.chg.length≤L
 c0:0≤D.R.count
 c1:D.R.count≤(C:Int)
 l0 : -1≤D.R.left
 l1:D.R.left≤9223372036854775807
 r0:0≤D.R.room
 r1:D.R.room≤9223372036854775807
 dat:∀ f∈D.fs,FitB B (D.fd f)
 chf:ChFit D.R.chg
 inv:Inv D.R
 inow:∀ e∈D.R.now,e.blk∈D.fs
 isafe:∀ e∈D.R.safe,e.blk∈D.fs
 ichg:∀ c∈D.R.chg,c.blk∈D.fs
 rise:Rise D.R.safe
theorem FitB.mono {B B':Nat} {x:ByteArray × Int} (h:FitB B x) (hB:B≤B'):FitB B' x:=⟨Nat.le_trans h.1 hB,h.2⟩
theorem DFit.mono {D:DS} {L C B L' C' B':Nat} (h:DFit D L C B) (hL:L≤L') (hC:C≤C') (hB:B≤B'):DFit D L' C' B' :=
 ⟨Nat.le_trans h.len hL,h.c0,by have:=h.c1;omega,h.l0,h.l1,h.r0,h.r1,fun f hf=>(h.dat f hf).mono hB,h.chf,h.inv,h.inow,h.isafe,h.ichg,h.rise⟩
def Bud (L C B:Nat):Prop:=L≤1000000∧C≤100000000000∧B≤1000000
theorem DFit.nowLen {D:DS} {L C B:Nat} (h:DFit D L C B):D.R.now.length≤L:=by
 rw [h.inv.go]
 exact Nat.le_trans (goE_le _ _) h.len
theorem DFit.cnt {D:DS} {L C B:Nat} (h:DFit D L C B) (hb:Bud L C B):Cnt4 D.R:=⟨h.c0,by have:=h.c1;have:=hb.2.1;omega,h.l0,h.l1⟩
theorem DFit.pfit {D:DS} {L C B:Nat} (h:DFit D L C B) (hb:Bud L C B):PFit D.R:=⟨by have:=h.nowLen;have:=hb.1;omega,by have:=h.len;have:=hb.1;omega⟩
theorem DFit.used {D:DS} {L C B:Nat} (h:DFit D L C B) (hb:Bud L C B):usedE D.fd D.R.now≤1000000000000:=by
 have h1:=usedE_mul (nd:=D.fd) (B:=B) (l:=D.R.now) (fun e he=>(h.dat _ (h.inow e he)).1)
 have h2:D.R.now.length * B≤1000000 * 1000000:=Nat.mul_le_mul (Nat.le_trans h.nowLen hb.1) hb.2.2
 omega
def ErrV (w:World) (v:Value) (k:Int):Prop:=(k=0∧v = .nilIface)∨(k≠0∧stepE w v k)
def DRs (s:PSt) (w:World) (X:Int→DS→Prop) (e:Ending) (w':World):Prop:=∃ v k s',e = .returned v∧ErrV w' v k∧PGo s s' w w'∧X k s'.ds
theorem PRet.drs {s:PSt} {w w':World} {k:Int} {P:PSt→Prop} {v:Value} {X:Int→DS→Prop} (h:PRet s w k P v w') (hi:s.In w) (h0:k=0→∀ s1,P s1→X 0 s1.ds) (h1:k≠0→X k s.ds):DRs s w X (.returned v) w':=by
 by_cases hk:k=0
 ·obtain ⟨rfl,s1,hg,hP⟩:=h.2 hk
  exact ⟨_,0,s1,rfl,.inl ⟨rfl,rfl⟩,hg,h0 hk s1 hP⟩
 ·obtain ⟨hs,hb⟩:=h.1 hk
  exact ⟨v,k,s,rfl,.inr ⟨hk,hs⟩,PGo.refl hi hb,h1 hk⟩
def apD (D:DS) (p dt:ByteArray) (f:Nat):Int × DS :=
 if isPathB p=false then (2,D)
 else if D.R.left=0 then (0,D)
 else if D.R.room - (usedE D.fd D.R.now:Int)<(dt.size:Int) then (4,D)
 else match findE p D.R.now with
  | some g=>(0,⟨D.R.wrote,D.fs,setNd D.fd g ((D.fd g).1++dt,(D.fd g).2)⟩)
  | none=>(0,⟨RDk.wrote { D.R with now:=applyE D.R.now ⟨⟨#[]⟩,p,f⟩,chg:=D.R.chg ++ [⟨⟨#[]⟩,p,f⟩] },f::D.fs,setNd D.fd f (dt,0)⟩)
def syD (D:DS) (p:ByteArray):Int × DS :=
 if isPathB p=false then (2,D)
 else if D.R.left=0 then (0,D)
 else match findE p D.R.now with
  | some g=>(0,⟨D.R.wrote,D.fs,setNd D.fd g ((D.fd g).1,((D.fd g).1.size:Int))⟩)
  | none=>(3,D)
def rmD (D:DS) (p:ByteArray):Int × DS :=
 if isPathB p=false then (2,D)
 else if D.R.left=0 then (0,D)
 else match findE p D.R.now with
  | some g=>(0,⟨RDk.wrote { D.R with now:=applyE D.R.now ⟨p,⟨#[]⟩,g⟩,chg:=D.R.chg ++ [⟨p,⟨#[]⟩,g⟩] },D.fs,D.fd⟩)
  | none=>(3,D)
def rnD (D:DS) (p q:ByteArray):Int × DS :=
 if (isPathB p && isPathB q)=false then (2,D)
 else if D.R.left=0 then (0,D)
 else match findE p D.R.now with
  | some g=>(0,⟨RDk.wrote (if p=q then D.R else { D.R with now:=applyE D.R.now ⟨p,q,g⟩,chg:=D.R.chg ++ [⟨p,q,g⟩] }),D.fs,D.fd⟩)
  | none=>(3,D)
def sdD (D:DS):Int × DS :=
 if D.R.left=0 then (0,D)
 else (0,⟨RDk.wrote { D.R with safe:=D.R.now,chg:=[] },D.fs,D.fd⟩)
def rdD (D:DS) (p:ByteArray):Option ByteArray:=if isPathB p=false then none else (findE p D.R.now).map fun f=>(D.fd f).1
theorem ds_eq {s:PSt} {R:RDk} {fs:List Nat} {fd:Nat→ByteArray × Int} (h:s.R=R∧s.fs=fs∧s.fd=fd):s.ds=⟨R,fs,fd⟩:=by
 unfold PSt.ds
 rw [h.1,h.2.1,h.2.2]
theorem dkAppend (s:PSt) (p dt:ByteArray) (w:World) {L C B:Nat} (h:s.In w) (hf:DFit s.ds L C B) (hb:Bud L C B) (hp:p.size≤9223372036854775807) (hdt:dt.size≤1000000) :
  Calls Tryz.prog 189 #[.pointer (some ⟨s.b,0,none⟩),.string p,.string dt] w (DRs s w fun k D'=>∃ f,f ∉ s.fs∧(k,D')=apD s.ds p dt f):=by
 refine (pdAppend s p dt w h hp (hf.cnt hb) (hf.pfit hb) (hf.used hb) hf.r0 hf.r1 (by omega) (fun f hm=>by have h9:(s.fd f).1.size≤B:=(hf.dat f hm).1;have:=hb.2.2;omega)).mono ?_
 rintro _ w' ⟨v,rfl,h1,h2,h3,h4,h5⟩
 have hnew:w.heap.size ∉ s.fs:=fun hm=>by have:=lt_of_row (h.fds _ hm).blk;omega
 by_cases a1:isPathB p=false
 ·exact (h1 a1).drs h (fun e=>by cases e) (fun _=>⟨_,hnew,by unfold apD;rw [if_pos a1]⟩)
 have a1':isPathB p=true:=by simpa using a1
 by_cases a2:s.R.left=0
 ·exact (h2 a1' a2).drs h (fun _ s1 e=>⟨_,hnew,by subst e;unfold apD;rw [if_neg a1,if_pos (show s1.ds.R.left=0 from a2)]⟩) (fun e=>absurd rfl e)
 by_cases a3:s.R.room - (usedE s.fd s.R.now:Int)<(dt.size:Int)
 ·exact (h3 a1' a2 a3).drs h (fun e=>by cases e) (fun _=>⟨_,hnew,by unfold apD;rw [if_neg a1,if_neg (show ¬ s.ds.R.left=0 from a2),if_pos (show s.ds.R.room - (usedE s.ds.fd s.ds.R.now:Int)<(dt.size:Int) from a3)]⟩)
 cases hfd:findE p s.R.now with
 | some g =>
  refine (h4 g a1' a2 a3 hfd).drs h (fun _ s1 e=>⟨_,hnew,?_⟩) (fun e=>absurd rfl e)
  unfold apD
  rw [if_neg a1,if_neg (show ¬ s.ds.R.left=0 from a2),if_neg (show ¬ s.ds.R.room - (usedE s.ds.fd s.ds.R.now:Int)<(dt.size:Int) from a3),show findE p s.ds.R.now=some g from hfd,ds_eq e]
  rfl
 | none =>
  refine (h5 a1' a2 a3 hfd).drs h (fun _ s1 e=>?_) (fun e=>absurd rfl e)
  obtain ⟨f,hlf,e⟩:=e
  refine ⟨f,fun hm=>by have:=lt_of_row (h.fds _ hm).blk;omega,?_⟩
  unfold apD
  rw [if_neg a1,if_neg (show ¬ s.ds.R.left=0 from a2),if_neg (show ¬ s.ds.R.room - (usedE s.ds.fd s.ds.R.now:Int)<(dt.size:Int) from a3),show findE p s.ds.R.now=none from hfd,ds_eq e]
  rfl
theorem dkSync (s:PSt) (p:ByteArray) (w:World) {L C B:Nat} (h:s.In w) (hf:DFit s.ds L C B) (hb:Bud L C B) (hp:p.size≤9223372036854775807) :
  Calls Tryz.prog 229 #[.pointer (some ⟨s.b,0,none⟩),.string p] w (DRs s w fun k D'=>(k,D')=syD s.ds p):=by
 refine (pdSync s p w h hp (hf.cnt hb)).mono ?_
 rintro _ w' ⟨v,rfl,h1,h2,h3,h4⟩
 by_cases a1:isPathB p=false
 ·exact (h1 a1).drs h (fun e=>by cases e) (fun _=>by unfold syD;rw [if_pos a1])
 have a1':isPathB p=true:=by simpa using a1
 by_cases a2:s.R.left=0
 ·exact (h2 a1' a2).drs h (fun _ s1 e=>by subst e;unfold syD;rw [if_neg a1,if_pos (show s1.ds.R.left=0 from a2)]) (fun e=>absurd rfl e)
 cases hfd:findE p s.R.now with
 | some g =>
  refine (h4 g a1' a2 hfd).drs h (fun _ s1 e=>?_) (fun e=>absurd rfl e)
  unfold syD
  rw [if_neg a1,if_neg (show ¬ s.ds.R.left=0 from a2),show findE p s.ds.R.now=some g from hfd,ds_eq e]
  rfl
 | none=>exact (h3 a1' a2 hfd).drs h (fun e=>by cases e) (fun _=>by unfold syD;rw [if_neg a1,if_neg (show ¬ s.ds.R.left=0 from a2),show findE p s.ds.R.now=none from hfd])
theorem dkRemove (s:PSt) (p:ByteArray) (w:World) {L C B:Nat} (h:s.In w) (hf:DFit s.ds L C B) (hb:Bud L C B) (hp:p.size≤9223372036854775807) :
  Calls Tryz.prog 117 #[.pointer (some ⟨s.b,0,none⟩),.string p] w (DRs s w fun k D'=>(k,D')=rmD s.ds p):=by
 refine (pdRemove s p w h hp (hf.cnt hb) (hf.pfit hb)).mono ?_
 rintro _ w' ⟨v,rfl,h1,h2,h3,h4⟩
 by_cases a1:isPathB p=false
 ·exact (h1 a1).drs h (fun e=>by cases e) (fun _=>by unfold rmD;rw [if_pos a1])
 have a1':isPathB p=true:=by simpa using a1
 by_cases a2:s.R.left=0
 ·exact (h2 a1' a2).drs h (fun _ s1 e=>by subst e;unfold rmD;rw [if_neg a1,if_pos (show s1.ds.R.left=0 from a2)]) (fun e=>absurd rfl e)
 cases hfd:findE p s.R.now with
 | some g =>
  refine (h4 g a1' a2 hfd).drs h (fun _ s1 e=>?_) (fun e=>absurd rfl e)
  unfold rmD
  rw [if_neg a1,if_neg (show ¬ s.ds.R.left=0 from a2),show findE p s.ds.R.now=some g from hfd,ds_eq e]
  rfl
 | none=>exact (h3 a1' a2 hfd).drs h (fun e=>by cases e) (fun _=>by unfold rmD;rw [if_neg a1,if_neg (show ¬ s.ds.R.left=0 from a2),show findE p s.ds.R.now=none from hfd])
theorem dkRemoveM (s:PSt) (p:ByteArray) (w:World) {L C B:Nat} (h:s.In w) (hf:DFit s.ds L C B) (hb:Bud L C B) (hp:p.size≤9223372036854775807) :
  Calls Tryz.prog 117 #[.pointer (some ⟨s.b,0,none⟩),.string p] w fun e w'=>∃ v k s',e = .returned v∧ErrV w' v k∧PGo s s' w w'∧(k,s'.ds)=rmD s.ds p∧s'.mb=s.mb∧s'.lb=s.lb:=by
 refine (pdRemoveM s p w h hp (hf.cnt hb) (hf.pfit hb)).mono ?_
 rintro _ w' ⟨v,rfl,h1,h2,h3,h4⟩
 by_cases a1:isPathB p=false
 ·obtain ⟨x1,x2⟩:=(h1 a1).1 (by decide)
  exact ⟨v,2,s,rfl,.inr ⟨by decide,x1⟩,PGo.refl h x2,by unfold rmD;rw [if_pos a1],rfl,rfl⟩
 have a1':isPathB p=true:=by simpa using a1
 by_cases a2:s.R.left=0
 ·obtain ⟨rfl,s1,x1,rfl⟩:=(h2 a1' a2).2 rfl
  exact ⟨_,0,s1,rfl,.inl ⟨rfl,rfl⟩,x1,by unfold rmD;rw [if_neg a1,if_pos (show s1.ds.R.left=0 from a2)],rfl,rfl⟩
 cases hfd:findE p s.R.now with
 | some g =>
  obtain ⟨rfl,s1,x1,e⟩:=(h4 g a1' a2 hfd).2 rfl
  refine ⟨_,0,s1,rfl,.inl ⟨rfl,rfl⟩,x1,?_,e.2.2.2.1,e.2.2.2.2⟩
  unfold rmD
  rw [if_neg a1,if_neg (show ¬ s.ds.R.left=0 from a2),show findE p s.ds.R.now=some g from hfd,ds_eq ⟨e.1,e.2.1,e.2.2.1⟩]
  rfl
 | none =>
  obtain ⟨x1,x2⟩:=(h3 a1' a2 hfd).1 (by decide)
  exact ⟨v,3,s,rfl,.inr ⟨by decide,x1⟩,PGo.refl h x2,by unfold rmD;rw [if_neg a1,if_neg (show ¬ s.ds.R.left=0 from a2),show findE p s.ds.R.now=none from hfd],rfl,rfl⟩
theorem dkRename (s:PSt) (p q:ByteArray) (w:World) {L C B:Nat} (h:s.In w) (hf:DFit s.ds L C B) (hb:Bud L C B) (hp:p.size≤9223372036854775807) (hq:q.size≤9223372036854775807) :
  Calls Tryz.prog 120 #[.pointer (some ⟨s.b,0,none⟩),.string p,.string q] w (DRs s w fun k D'=>(k,D')=rnD s.ds p q):=by
 refine (pdRename s p q w h hp hq (hf.cnt hb) (hf.pfit hb)).mono ?_
 rintro _ w' ⟨v,rfl,h1,h2,h3,h4⟩
 by_cases a1:(isPathB p && isPathB q)=false
 ·exact (h1 a1).drs h (fun e=>by cases e) (fun _=>by unfold rnD;rw [if_pos a1])
 have a1':(isPathB p && isPathB q)=true:=by simpa using a1
 by_cases a2:s.R.left=0
 ·exact (h2 a1' a2).drs h (fun _ s1 e=>by subst e;unfold rnD;rw [if_neg a1,if_pos (show s1.ds.R.left=0 from a2)]) (fun e=>absurd rfl e)
 cases hfd:findE p s.R.now with
 | some g =>
  refine (h4 g a1' a2 hfd).drs h (fun _ s1 e=>?_) (fun e=>absurd rfl e)
  unfold rnD
  rw [if_neg a1,if_neg (show ¬ s.ds.R.left=0 from a2),show findE p s.ds.R.now=some g from hfd,ds_eq e]
  rfl
 | none=>exact (h3 a1' a2 hfd).drs h (fun e=>by cases e) (fun _=>by unfold rnD;rw [if_neg a1,if_neg (show ¬ s.ds.R.left=0 from a2),show findE p s.ds.R.now=none from hfd])
theorem dkSyncDir (s:PSt) (w:World) {L C B:Nat} (h:s.In w) (hf:DFit s.ds L C B) (hb:Bud L C B) :
  Calls Tryz.prog 118 #[.pointer (some ⟨s.b,0,none⟩)] w (DRs s w fun k D'=>(k,D')=sdD s.ds):=by
 have hgo:s.R.chg.foldl applyE s.R.safe=s.R.now:=(goE_apply s.R.chg (l:=s.R.safe) hf.inv.ne).trans hf.inv.go.symm
 refine (pdSyncDir s w h (hf.cnt hb) (by have:=hf.len;have:=hb.1;exact Nat.le_trans hf.len (by omega)) hf.chf (by rw [hgo];exact h.inow)).mono ?_
 rintro _ w' ⟨v,rfl,h1,h2⟩
 by_cases a2:s.R.left=0
 ·exact (h1 a2).drs h (fun _ s1 e=>by subst e;unfold sdD;rw [if_pos (show s1.ds.R.left=0 from a2)]) (fun e=>absurd rfl e)
 ·refine (h2 a2).drs h (fun _ s1 e=>?_) (fun e=>absurd rfl e)
  unfold sdD
  rw [hgo] at e
  rw [if_neg (show ¬ s.ds.R.left=0 from a2),ds_eq e]
  rfl
theorem dkRead (s:PSt) (p:ByteArray) (w:World) (h:s.In w) (hp:p.size≤9223372036854775807) :
  Calls Tryz.prog 80 #[.pointer (some ⟨s.b,0,none⟩),.string p] w fun e w'=>∃ v k,e = .returned (.tuple #[.string ((rdD s.ds p).getD ⟨#[]⟩),v])∧ErrV w' v k∧(k=0 ↔ (rdD s.ds p).isSome=true)∧Gr s.own w w'∧s.In w':=by
 refine (pdRead s p w h hp).mono ?_
 rintro _ w' ⟨v,t,rfl,h1,h2,h3⟩
 by_cases a1:isPathB p=false
 ·obtain ⟨h4,rfl⟩:=h1 a1
  obtain ⟨h5,h6⟩:=h4.1 (by decide)
  exact ⟨v,2,by simp [rdD,a1],.inr ⟨by decide,h5⟩,by simp [rdD,a1],Gr.of_below h6,h.later h6⟩
 have a1':isPathB p=true:=by simpa using a1
 cases hfd:findE p s.R.now with
 | none =>
  obtain ⟨h4,rfl⟩:=h2 a1' hfd
  obtain ⟨h5,h6⟩:=h4.1 (by decide)
  exact ⟨v,3,by simp [rdD,a1',PSt.ds,hfd],.inr ⟨by decide,h5⟩,by simp [rdD,a1',PSt.ds,hfd],Gr.of_below h6,h.later h6⟩
 | some f =>
  obtain ⟨h4,rfl⟩:=h3 f a1' hfd
  obtain ⟨rfl,s1,hg,rfl⟩:=h4.2 rfl
  exact ⟨_,0,by simp [rdD,a1',PSt.ds,hfd],.inl ⟨rfl,rfl⟩,by simp [rdD,a1',PSt.ds,hfd],hg.gr,hg.inn⟩
end Go.Proofs.YtncigfibncmioaaGreatDoor
namespace Go.Proofs.YtncigfibncmioaaGreatDoor
set_option maxHeartbeats 1000000
set_option maxRecDepth 100000
open Go.RowKit
def WRet (s:PSt) (w:World) (k:Int) (P:PSt→Prop) (e:Ending) (w':World):Prop:=e = .returned (.int .i64 k)∧(k≠0→Below w.heap.size w w')∧(k=0→∃ s1,PGo s s1 w w'∧P s1)
def BD (w:World) (d b:Nat):Prop:=w.heap[d]? = some (.cells #[.pointer (some ⟨b,0,none⟩)] 90 (0,0))
theorem wBreak (s:PSt) (d:Nat) (n:Int) (w:World) (k:Int) (P:PSt→Prop) (hd:BD w d s.b) (hg:w.cell? ⟨0,0,none⟩=some errT)
  (h:Calls Tryz.prog 53 #[.pointer (some ⟨s.b,0,none⟩),.int .i64 n] w fun e w'=>∃ v,e = .returned v∧PRet s w k P v w') :
  Calls Tryz.prog 20 #[.pointer (some ⟨d,0,none⟩),.int .i64 n] w (WRet s w k P):=by
 have H:=hide h
 have HG:=hide hg
 have c0:w.cell? ⟨d,0,none⟩=some (.pointer (some ⟨s.b,0,none⟩)):=cell_of_row _ _ 0 _ _ _ hd
 clear h hg hd
 go_enter Tryz.func20,Tryz.ntmps20
 go_wp2_with fail
 refine H.out.mono ?_
 rintro _ w1 ⟨v,rfl,hr⟩
 dsimp only
 have HR:=hide (errno_ret hr HG.out)
 clear hr
 go_wp2_with fail
 refine HR.out.mono ?_
 rintro _ w2 ⟨rfl,hp⟩
 dsimp only
 have HP:=hide hp
 clear hp
 go_wp2_with fail
 go_ret
 exact ⟨rfl,HP.out⟩
theorem wList (d b:Nat) (Q:Value→World→Prop) (w:World) (hd:BD w d b) 
  (h:Calls Tryz.prog 54 #[.pointer (some ⟨b,0,none⟩)] w fun e w'=>∃ v,e = .returned v∧Q v w') :
  Calls Tryz.prog 22 #[.pointer (some ⟨d,0,none⟩)] w fun e w'=>∃ v,e = .returned (.tuple #[v,.int .i64 0])∧Q v w':=by
 have H:=hide h
 have c0:w.cell? ⟨d,0,none⟩=some (.pointer (some ⟨b,0,none⟩)):=cell_of_row _ _ 0 _ _ _ hd
 clear h hd
 go_enter Tryz.func22,Tryz.ntmps22
 go_wp2_with fail
 refine H.out.mono ?_
 rintro _ w1 ⟨v,rfl,hq⟩
 dsimp only
 have HQ:=hide hq
 clear hq
 go_wp2_with fail
 refine bodyPost_ret (results_tmp2 rfl _ _ _) rfl ?_
 exact ⟨v,rfl,HQ.out⟩
theorem wCrash (d b:Nat) (n:Int) (kv:Value) (Q:World→Prop) (w:World) (hd:BD w d b) 
  (h:Calls Tryz.prog 47 #[.pointer (some ⟨b,0,none⟩),.int .i64 n,kv] w fun e w'=>e = .returned (.tuple #[])∧Q w') :
  Calls Tryz.prog 16 #[.pointer (some ⟨d,0,none⟩),.int .i64 n,kv] w fun e w'=>e = .returned (.int .i64 0)∧Q w':=by
 have H:=hide h
 have c0:w.cell? ⟨d,0,none⟩=some (.pointer (some ⟨b,0,none⟩)):=cell_of_row _ _ 0 _ _ _ hd
 clear h hd
 go_enter Tryz.func16,Tryz.ntmps16
 go_wp2_with fail
 refine H.out.mono ?_
 rintro _ w1 ⟨rfl,hq⟩
 dsimp only
 have HQ:=hide hq
 clear hq
 go_wp2_with fail
 go_ret
 exact ⟨rfl,HQ.out⟩
theorem wNewDisk (n:Int) (Q:Nat→World→Prop) (w:World) 
  (h:Calls Tryz.prog 56 #[.int .i64 n] w fun e w'=>∃ g,e = .returned (.pointer (some ⟨g,0,none⟩))∧Q g w') :
  Calls Tryz.prog 24 #[.int .i64 n] w fun e w'=>∃ g w1,e = .returned (.pointer (some ⟨w1.heap.size,0,none⟩))∧w'=w1.alloc (.cells #[.pointer (some ⟨g,0,none⟩)] 90)∧Q g w1:=by
 have H:=hide h
 clear h
 go_enter Tryz.func24,Tryz.ntmps24
 go_wp2_with fail
 refine H.out.mono ?_
 rintro _ w1 ⟨g,rfl,hq⟩
 dsimp only
 have HQ:=hide hq
 clear hq
 go_wp2_with fail
 go_ret
 exact ⟨g,w1,rfl,rfl,HQ.out⟩
theorem wRead (s:PSt) (d:Nat) (p:ByteArray) (w:World) (k:Int) (P:PSt→Prop) (t:ByteArray) (hd:BD w d s.b) (hg:w.cell? ⟨0,0,none⟩=some errT)
  (h:Calls Tryz.prog 80 #[.pointer (some ⟨s.b,0,none⟩),.string p] w fun e w'=>∃ v,e = .returned (.tuple #[.string t,v])∧PRet s w k P v w') :
  Calls Tryz.prog 43 #[.pointer (some ⟨d,0,none⟩),.string p] w fun e w'=>e = .returned (.tuple #[.string t,.int .i64 k])∧(k≠0→Below w.heap.size w w')∧(k=0→∃ s1,PGo s s1 w w'∧P s1):=by
 have H:=hide h
 have HG:=hide hg
 have c0:w.cell? ⟨d,0,none⟩=some (.pointer (some ⟨s.b,0,none⟩)):=cell_of_row _ _ 0 _ _ _ hd
 clear h hg hd
 go_enter Tryz.func43,Tryz.ntmps43
 go_wp2_with fail
 refine H.out.mono ?_
 rintro _ w1 ⟨v,rfl,hr⟩
 dsimp only
 have HR:=hide (errno_ret hr HG.out)
 clear hr
 go_wp2_with fail
 refine HR.out.mono ?_
 rintro _ w2 ⟨rfl,hp⟩
 dsimp only
 have HP:=hide hp
 clear hp
 go_wp2_with fail
 refine bodyPost_ret (results_tmp2 rfl _ _ _) rfl ?_
 exact ⟨rfl,HP.out⟩
end Go.Proofs.YtncigfibncmioaaGreatDoor
namespace Go.Proofs.YtncigfibncmioaaGreatDoor
open Go.RowKit
theorem find_filter (p x:ByteArray):∀ l:List DE,findE x (l.filter (fun e=>!decide (e.path=p)))=if x=p then none else findE x l
 | []=>by simp [findE]
 | e::es=>by
  have ih:=find_filter p x es
  by_cases he:e.path=p
  ·rw [List.filter_cons_of_neg (by simp [he]),ih]
   by_cases hx:x=p
   ·simp [hx]
   ·rw [if_neg hx,if_neg hx]
    conv=>rhs;unfold findE
    rw [if_neg (fun h=>hx (h.symm.trans he))]
  ·rw [List.filter_cons_of_pos (by simp [he])]
   unfold findE
   by_cases hx:e.path=x
   ·rw [if_pos hx,if_pos hx,if_neg (fun h=>he (hx.trans h))]
   ·rw [if_neg hx,if_neg hx,ih]
theorem rise_with (p:ByteArray) (nb:Nat):∀ {l:List DE},Rise l→Rise (withE p (some nb) l false)
 | [],_=>by unfold withE Rise;simp
 | e::es,hr=>by
  obtain ⟨h1,h2⟩:=List.pairwise_cons.1 hr
  have ih:=rise_with p nb h2
  unfold withE
  by_cases he:e.path=p
  ·simp only [he,less_irrefl,Bool.and_false,Bool.false_eq_true,if_false,if_true,List.nil_append,Bool.or_self]
   exact ih
  ·by_cases hl:lessB p e.path=true
   ·simp only [hl,he,Bool.not_false,Bool.and_self,if_true,if_false,Bool.or_true,List.cons_append,List.nil_append]
    rw [withE_done]
    refine List.pairwise_cons.2 ⟨fun x hx=>?_,List.pairwise_cons.2 ⟨fun x hx=>h1 x (List.mem_filter.1 hx).1,h2.filter _⟩⟩
    rcases List.mem_cons.1 hx with rfl|hx
    ·exact hl
    ·exact less_trans hl (h1 x (List.mem_filter.1 hx).1)
   ·have hl':lessB p e.path=false:=by simpa using hl
    simp only [hl',he,Bool.and_false,Bool.false_eq_true,if_false,Bool.or_self,List.nil_append,List.cons_append]
    refine List.pairwise_cons.2 ⟨fun x hx=>?_,ih⟩
    rcases withE_path hx with ⟨h3,_⟩|h3
    ·exact h1 x h3
    ·rw [h3]
     rcases less_total he with h4|h4
     ·exact h4
     ·rw [h4] at hl';cases hl'
theorem after_rise {l:List DE} (hr:Rise l) (frm too:ByteArray) (nb:Nat):Rise (afterE l frm too nb):=by
 unfold afterE
 have h1:Rise (if frm=⟨#[]⟩ then l else withE frm none l true):=by
  split
  ·exact hr
  ·rw [withE_done];exact hr.filter _
 dsimp only
 split
 ·exact h1
 ·exact rise_with _ _ h1
theorem go_rise:∀ (cs:List CH) {l:List DE},Rise l→Rise (goE l cs)
 | [],_,h=>h
 | c::cs,_,h=>go_rise cs (after_rise h c.frm c.too c.blk)
theorem after_find {l:List DE} (hr:Rise l) (frm too:ByteArray) (nb:Nat) {x:ByteArray} (hx:x≠⟨#[]⟩):findE x (afterE l frm too nb)=if x=too then some nb else if x=frm then none else findE x l:=by
 unfold afterE
 have h1:Rise (if frm=⟨#[]⟩ then l else withE frm none l true):=by
  split
  ·exact hr
  ·rw [withE_done];exact hr.filter _
 have h2:findE x (if frm=⟨#[]⟩ then l else withE frm none l true)=if x=frm then none else findE x l:=by
  split
  ·next h=>rw [if_neg (fun e=>hx (e.trans h))]
  ·rw [withE_done,find_filter]
 show findE x (if too=⟨#[]⟩ then (if frm=⟨#[]⟩ then l else withE frm none l true) else withE too (some nb) (if frm=⟨#[]⟩ then l else withE frm none l true) false)=_
 generalize (if frm=⟨#[]⟩ then l else withE frm none l true)=l1 at h1 h2
 by_cases h:too=⟨#[]⟩
 ·rw [if_pos h,h2,if_neg (c:=x=too) (fun e=>hx (e.trans h))]
 ·rw [if_neg h,withE_find _ _ _ h1,h2]
def LF (x:ByteArray) (D:DS):Prop:=∀ m,findE x (goE D.R.safe (D.R.chg.take m))=none
theorem LF.push {x:ByteArray} {D:DS} (h:LF x D) (hr:Rise D.R.safe) (hx:x≠⟨#[]⟩) {c:CH} (hc:c.too≠x) (m:Nat):findE x (goE D.R.safe ((D.R.chg ++ [c]).take m))=none:=by
 rcases Nat.lt_or_ge D.R.chg.length m with hm|hm
 ·rw [List.take_of_length_le (by simp;omega),goE_snoc,after_find (go_rise _ hr) _ _ _ hx,if_neg (fun e=>hc e.symm)]
  split
  ·rfl
  ·have:=h D.R.chg.length
   rwa [List.take_length] at this
 ·rw [List.take_append_of_le_length hm]
  exact h m
theorem wrote_left {R:RDk} (h0 : -1≤R.left) (h1:R.left≤9223372036854775807) : -1≤R.wrote.left∧R.wrote.left≤9223372036854775807:=by
 unfold RDk.wrote
 dsimp only
 split<;>omega
theorem DFit.wrote {D:DS} {L C B B':Nat} {fd':Nat→ByteArray × Int} (h:DFit D L C B) (hd:∀ f∈D.fs,FitB B' (fd' f)):DFit ⟨D.R.wrote,D.fs,fd'⟩ L (C+1) B' :=
 ⟨h.len,by have:=h.c0;show 0≤D.R.count+1;omega,by have:=h.c1;show D.R.count+1≤_;omega,(wrote_left h.l0 h.l1).1,(wrote_left h.l0 h.l1).2,h.r0,h.r1,hd,h.chf,h.inv.wrote,h.inow,h.isafe,h.ichg,h.rise⟩
theorem DFit.pushed {D:DS} {L C B B':Nat} {c:CH} {fs':List Nat} {fd':Nat→ByteArray × Int} (h:DFit D L C B) (hc:c.frm.size≤1000000000∧c.too.size≤1000000000) (hb:c.blk∈fs') (hfs:∀ f∈D.fs,f∈fs') (hd:∀ f∈fs',FitB B' (fd' f)) :
  DFit ⟨RDk.wrote { D.R with now:=applyE D.R.now c,chg:=D.R.chg ++ [c] },fs',fd'⟩ (L+1) (C+1) B':=by
 have ha:applyE D.R.now c=afterE D.R.now c.frm c.too c.blk:=applyE_after h.inv.nowNe c
 refine ⟨?_,by have:=h.c0;show 0≤D.R.count+1;omega,by have:=h.c1;show D.R.count+1≤_;omega,(wrote_left (R:={ D.R with now:=applyE D.R.now c,chg:=D.R.chg ++ [c] }) h.l0 h.l1).1,(wrote_left (R:={ D.R with now:=applyE D.R.now c,chg:=D.R.chg ++ [c] }) h.l0 h.l1).2,h.r0,h.r1,hd,?_,?_,?_,fun e he=>hfs _ (h.isafe e he),?_,h.rise⟩
 ·show D.R.safe.length+(D.R.chg ++ [c]).length≤_
  have:=h.len
  rw [List.length_append,List.length_singleton]
  omega
 ·intro x hx
  rcases List.mem_append.1 hx with hx|hx
  ·exact h.chf x hx
  ·rw [List.mem_singleton.1 hx];exact hc
 ·have:=h.inv.push c
  rw [← ha] at this
  exact this.wrote
 ·intro e he
  have he:e∈applyE D.R.now c:=he
  rcases applyE_mem he with h1|h1
  ·exact hfs _ (h.inow e h1)
  ·rw [h1];exact hb
 ·intro x hx
  rcases List.mem_append.1 hx with hx|hx
  ·exact hfs _ (h.ichg x hx)
  ·rw [List.mem_singleton.1 hx];exact hb
theorem find_in {D:DS} {L C B:Nat} (h:DFit D L C B) {p:ByteArray} {f:Nat} (hf:findE p D.R.now=some f):f∈D.fs:=by
 obtain ⟨e,he,_,rfl⟩:=findE_some hf
 exact h.inow e he
theorem setNd_fit {fs:List Nat} {fd:Nat→ByteArray × Int} {B B':Nat} (h:∀ f∈fs,FitB B (fd f)) (hB:B≤B') {g:Nat} {x:ByteArray × Int} (hx:FitB B' x):∀ f∈fs,FitB B' (setNd fd g x f):=fun f hf=>by
 unfold setNd
 split
 ·exact hx
 ·exact (h f hf).mono hB
theorem DFit.ap {D:DS} {L C B:Nat} (h:DFit D L C B) {p dt:ByteArray} {f:Nat} {k:Int} {D':DS} (he:(k,D')=apD D p dt f):DFit D' (L+1) (C+1) (B+dt.size):=by
 unfold apD at he
 split at he
 ·rw [(Prod.mk.inj he).2];exact h.mono (Nat.le_succ _) (Nat.le_succ _) (Nat.le_add_right _ _)
 ·next a1 =>
  have a1':isPathB p=true:=by simpa using a1
  split at he
  ·rw [(Prod.mk.inj he).2];exact h.mono (Nat.le_succ _) (Nat.le_succ _) (Nat.le_add_right _ _)
  ·split at he
   ·rw [(Prod.mk.inj he).2];exact h.mono (Nat.le_succ _) (Nat.le_succ _) (Nat.le_add_right _ _)
   ·cases hf:findE p D.R.now with
    | some g =>
     rw [hf] at he
     rw [(Prod.mk.inj he).2]
     obtain ⟨x1,x2,x3⟩:=h.dat g (find_in h hf)
     have hx9:FitB (B+dt.size) ((D.fd g).1++dt,(D.fd g).2):=⟨by show ((D.fd g).1++dt).size≤_;rw [ByteArray.size_append];omega,x2,by show (D.fd g).2≤(((D.fd g).1++dt).size:Int);rw [ByteArray.size_append];omega⟩
     exact (h.wrote (setNd_fit h.dat (Nat.le_add_right _ _) hx9)).mono (Nat.le_succ _) (Nat.le_refl _) (Nat.le_refl _)
    | none =>
     rw [hf] at he
     rw [(Prod.mk.inj he).2]
     refine h.pushed (c:=⟨⟨#[]⟩,p,f⟩) ⟨Nat.zero_le _,path_small a1'⟩ (by simp) (fun f hf=>by simp [hf]) (fun g hg=>?_)
     unfold setNd
     split
     ·exact ⟨Nat.le_add_left _ _,Int.le_refl _,Int.natCast_nonneg _⟩
     ·next hne=>exact (h.dat g ((List.mem_cons.1 hg).resolve_left hne)).mono (Nat.le_add_right _ _)
theorem DFit.sy {D:DS} {L C B:Nat} (h:DFit D L C B) {p:ByteArray} {k:Int} {D':DS} (he:(k,D')=syD D p):DFit D' L (C+1) B:=by
 unfold syD at he
 split at he
 ·rw [(Prod.mk.inj he).2];exact h.mono (Nat.le_refl _) (Nat.le_succ _) (Nat.le_refl _)
 ·split at he
  ·rw [(Prod.mk.inj he).2];exact h.mono (Nat.le_refl _) (Nat.le_succ _) (Nat.le_refl _)
  ·cases hf:findE p D.R.now with
   | some g =>
    rw [hf] at he
    rw [(Prod.mk.inj he).2]
    obtain ⟨x1,x2,x3⟩:=h.dat g (find_in h hf)
    exact h.wrote (setNd_fit h.dat (Nat.le_refl _) ⟨x1,Int.natCast_nonneg _,Int.le_refl _⟩)
   | none=>rw [hf] at he;rw [(Prod.mk.inj he).2];exact h.mono (Nat.le_refl _) (Nat.le_succ _) (Nat.le_refl _)
theorem DFit.rm {D:DS} {L C B:Nat} (h:DFit D L C B) {p:ByteArray} {k:Int} {D':DS} (he:(k,D')=rmD D p):DFit D' (L+1) (C+1) B:=by
 unfold rmD at he
 split at he
 ·rw [(Prod.mk.inj he).2];exact h.mono (Nat.le_succ _) (Nat.le_succ _) (Nat.le_refl _)
 ·next a1 =>
  have a1':isPathB p=true:=by simpa using a1
  split at he
  ·rw [(Prod.mk.inj he).2];exact h.mono (Nat.le_succ _) (Nat.le_succ _) (Nat.le_refl _)
  ·cases hf:findE p D.R.now with
   | some g =>
    rw [hf] at he
    rw [(Prod.mk.inj he).2]
    exact h.pushed (c:=⟨p,⟨#[]⟩,g⟩) ⟨path_small a1',Nat.zero_le _⟩ (find_in h hf) (fun _ hf=>hf) h.dat
   | none=>rw [hf] at he;rw [(Prod.mk.inj he).2];exact h.mono (Nat.le_succ _) (Nat.le_succ _) (Nat.le_refl _)
theorem DFit.rn {D:DS} {L C B:Nat} (h:DFit D L C B) {p q:ByteArray} {k:Int} {D':DS} (he:(k,D')=rnD D p q):DFit D' (L+1) (C+1) B:=by
 unfold rnD at he
 split at he
 ·rw [(Prod.mk.inj he).2];exact h.mono (Nat.le_succ _) (Nat.le_succ _) (Nat.le_refl _)
 ·next a1 =>
  have a1':isPathB p=true∧isPathB q=true:=by simpa using a1
  split at he
  ·rw [(Prod.mk.inj he).2];exact h.mono (Nat.le_succ _) (Nat.le_succ _) (Nat.le_refl _)
  ·cases hf:findE p D.R.now with
   | some g =>
    rw [hf] at he
    rw [(Prod.mk.inj he).2]
    by_cases hpq:p=q
    ·rw [if_pos hpq]
     exact (h.wrote h.dat).mono (Nat.le_succ _) (Nat.le_refl _) (Nat.le_refl _)
    ·rw [if_neg hpq]
     exact h.pushed (c:=⟨p,q,g⟩) ⟨path_small a1'.1,path_small a1'.2⟩ (find_in h hf) (fun _ hf=>hf) h.dat
   | none=>rw [hf] at he;rw [(Prod.mk.inj he).2];exact h.mono (Nat.le_succ _) (Nat.le_succ _) (Nat.le_refl _)
theorem DFit.sd {D:DS} {L C B:Nat} (h:DFit D L C B) {k:Int} {D':DS} (he:(k,D')=sdD D):DFit D' L (C+1) B:=by
 unfold sdD at he
 split at he
 ·rw [(Prod.mk.inj he).2];exact h.mono (Nat.le_refl _) (Nat.le_succ _) (Nat.le_refl _)
 ·rw [(Prod.mk.inj he).2]
  refine ⟨?_,by have:=h.c0;show 0≤D.R.count+1;omega,by have:=h.c1;show D.R.count+1≤_;omega,(wrote_left (R:={ D.R with safe:=D.R.now,chg:=[] }) h.l0 h.l1).1,(wrote_left (R:={ D.R with safe:=D.R.now,chg:=[] }) h.l0 h.l1).2,h.r0,h.r1,h.dat,fun c hc=>(by cases hc),h.inv.sync.wrote,h.inow,h.inow,fun c hc=>(by cases hc),?_⟩
  ·exact h.nowLen
  ·show Rise D.R.now
   rw [h.inv.go]
   exact go_rise _ h.rise
structure Stp where
 k:Nat
 p:ByteArray
 q:ByteArray
def sAp (p q:ByteArray):Stp:=⟨0,p,q⟩
def sSy (p:ByteArray):Stp:=⟨1,p,⟨#[]⟩⟩
def sRm (p:ByteArray):Stp:=⟨2,p,⟨#[]⟩⟩
def sRn (p q:ByteArray):Stp:=⟨3,p,q⟩
def sSd:Stp:=⟨4,⟨#[]⟩,⟨#[]⟩⟩
def stR (D:DS) (t:Stp) (k:Int) (D':DS):Prop :=
 match t.k with
 | 0=>∃ f,f ∉ D.fs∧(k,D')=apD D t.p t.q f
 | 1=>(k,D')=syD D t.p
 | 2=>(k,D')=rmD D t.p
 | 3=>(k,D')=rnD D t.p t.q
 | _=>(k,D')=sdD D
def Stp.sz (t:Stp):Nat:=if t.k=0 then t.q.size else 0
theorem DFit.st {D D':DS} {L C B:Nat} {t:Stp} {k:Int} (h:DFit D L C B) (hs:stR D t k D'):DFit D' (L+1) (C+1) (B+t.sz):=by
 obtain ⟨tk,p,q⟩:=t
 unfold stR at hs
 unfold Stp.sz
 match tk with
 | 0 =>
  obtain ⟨f,_,he⟩:=hs
  exact h.ap he
 | 1=>exact (h.sy hs).mono (Nat.le_succ _) (Nat.le_refl _) (Nat.le_add_right _ _)
 | 2=>exact (h.rm hs).mono (Nat.le_refl _) (Nat.le_refl _) (Nat.le_add_right _ _)
 | 3=>exact (h.rn hs).mono (Nat.le_refl _) (Nat.le_refl _) (Nat.le_add_right _ _)
 | n+4=>exact (h.sd hs).mono (Nat.le_succ _) (Nat.le_refl _) (Nat.le_add_right _ _)
def Ran:DS→List Stp→Int→Nat→DS→Prop
 | D,[],k,n,D'=>k=0∧n=0∧D'=D
 | D,t::l,k,n,D'=>∃ k1 D1,stR D t k1 D1∧((k1≠0∧k=k1∧n=0∧D'=D1)∨(k1=0∧∃ m,n=m+1∧Ran D1 l k m D'))
def RanI:DS→List Stp→DS→Prop
 | D,[],D'=>D'=D
 | D,t::l,D'=>∃ k1 D1,stR D t k1 D1∧RanI D1 l D'
theorem Ran.stop:∀ {l:List Stp} {D D':DS} {k:Int} {n:Nat} (l':List Stp),Ran D l k n D'→k≠0→Ran D (l++l') k n D'
 | [],_,_,_,_,_,h,hk=>absurd h.1 hk
 | t::l,D,D',k,n,l',h,hk=>by
  obtain ⟨k1,D1,h1,h2⟩:=h
  refine ⟨k1,D1,h1,?_⟩
  rcases h2 with h2|⟨h2,m,h3,h4⟩
  ·exact .inl h2
  ·exact .inr ⟨h2,m,h3,h4.stop l' hk⟩
theorem Ran.app:∀ {l l':List Stp} {D D1 D':DS} {k:Int} {n m:Nat},Ran D l 0 n D1→Ran D1 l' k m D'→Ran D (l++l') k (n+m) D'
 | [],l',D,D1,D',k,n,m,h,h'=>by
  obtain ⟨_,rfl,rfl⟩:=h
  rw [Nat.zero_add]
  exact h'
 | t::l,l',D,D1,D',k,n,m,h,h'=>by
  obtain ⟨k1,D2,h1,h2⟩:=h
  rcases h2 with ⟨h2,h3,_⟩|⟨h2,j,h3,h4⟩
  ·exact absurd h3.symm h2
  ·exact ⟨k1,D2,h1,.inr ⟨h2,j+m,by omega,h4.app h'⟩⟩
theorem Ran.one {D D':DS} {t:Stp} {k:Int} (h:stR D t k D'):Ran D [t] k (if k=0 then 1 else 0) D':=by
 refine ⟨k,D',h,?_⟩
 by_cases hk:k=0
 ·rw [if_pos hk]
  exact .inr ⟨hk,0,rfl,hk,rfl,rfl⟩
 ·rw [if_neg hk]
  exact .inl ⟨hk,rfl,rfl,rfl⟩
theorem Ran.len:∀ {l:List Stp} {D D':DS} {n:Nat},Ran D l 0 n D'→n=l.length
 | [],_,_,_,h=>h.2.1
 | t::l,D,D',n,h=>by
  obtain ⟨k1,D1,h1,h2⟩:=h
  rcases h2 with ⟨h2,h3,_⟩|⟨_,m,h3,h4⟩
  ·exact absurd h3.symm h2
  ·rw [h3,h4.len];rfl
theorem RanI.snoc:∀ {l:List Stp} {D D1 D':DS} {t:Stp} {k:Int},RanI D l D1→stR D1 t k D'→RanI D (l ++ [t]) D'
 | [],_,_,_,_,_,h,h'=>by
  subst h
  exact ⟨_,_,h',rfl⟩
 | t::l,_,_,_,_,_,h,h'=>by
  obtain ⟨k1,D2,h1,h2⟩:=h
  exact ⟨k1,D2,h1,h2.snoc h'⟩
def szs (l:List Stp):Nat:=(l.map Stp.sz).sum
theorem DFit.ran:∀ {l:List Stp} {D D':DS} {L C B:Nat} {k:Int} {n:Nat},DFit D L C B→Ran D l k n D'→DFit D' (L+l.length) (C+l.length) (B+szs l)
 | [],D,D',L,C,B,k,n,h,hr=>by
  rw [hr.2.2]
  exact h.mono (Nat.le_add_right _ _) (Nat.le_add_right _ _) (Nat.le_add_right _ _)
 | t::l,D,D',L,C,B,k,n,h,hr=>by
  obtain ⟨k1,D1,h1,h2⟩:=hr
  have h3:=h.st h1
  have e1:szs (t::l)=t.sz+szs l:=by simp [szs]
  rw [List.length_cons,e1]
  rcases h2 with ⟨_,_,_,rfl⟩|⟨_,m,_,h4⟩
  ·exact h3.mono (by omega) (by omega) (by omega)
  ·exact (h3.ran h4).mono (by omega) (by omega) (by omega)
theorem DFit.ranI:∀ {l:List Stp} {D D':DS} {L C B:Nat},DFit D L C B→RanI D l D'→DFit D' (L+l.length) (C+l.length) (B+szs l)
 | [],D,D',L,C,B,h,hr=>by
  rw [hr]
  exact h.mono (Nat.le_add_right _ _) (Nat.le_add_right _ _) (Nat.le_add_right _ _)
 | t::l,D,D',L,C,B,h,hr=>by
  obtain ⟨k1,D1,h1,h2⟩:=hr
  have e1:szs (t::l)=t.sz+szs l:=by simp [szs]
  rw [List.length_cons,e1]
  exact ((h.st h1).ranI h2).mono (by omega) (by omega) (by omega)
theorem Bud.mono {L C B L' C' B':Nat} (h:Bud L C B) (hL:L'≤L) (hC:C'≤C) (hB:B'≤B):Bud L' C' B':=⟨Nat.le_trans hL h.1,Nat.le_trans hC h.2.1,Nat.le_trans hB h.2.2⟩
theorem PGo.keeps {s s':PSt} {w w':World} (hg:PGo s s' w w') (h:s.In w) {k:Nat} {cur:Array Value} {T:TypeId} {fr:Nat × Nat} (hk:w.heap[k]? = some (.cells cur T fr)) (h1:T≠150) (h2:T≠214) (h3:T≠154) (h4:T≠5):w'.heap[k]? = some (.cells cur T fr) :=
 (hg.gr.block k (lt_heap hk) (h.notOwn hk h1 h2 h3 h4)).trans hk
end Go.Proofs.YtncigfibncmioaaGreatDoor
