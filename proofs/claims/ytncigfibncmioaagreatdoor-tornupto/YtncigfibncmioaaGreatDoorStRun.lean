/-
  PROVED HERE: the calls of the program's disk in one form each: what a step answers and what the disk holds behind it, as plain functions; no walk.
-/
import Derived.Test.YtncigfibncmioaaGreatDoorPdCopyW
set_option maxHeartbeats 1000000
set_option maxRecDepth 100000
namespace Go.Proofs.YtncigfibncmioaaGreatDoor
open Go.RowKit
structure DS where
 R:dz
 fs:List Nat
 fd:Nat->ByteArray × Int
def ai.ds (s:ai):DS:=⟨s.R,s.fs,s.fd⟩
structure au (D:DS) (L C B:Nat):Prop where
 len:D.R.safe.length+D.R.aw.length<=L
 c0:0<=D.R.count
 c1:D.R.count<=(C:Int)
 l0 : -1<=D.R.left
 l1:D.R.left<=9223372036854775807
 r0:0<=D.R.room
 r1:D.R.room<=9223372036854775807
 dS:∀ f∈D.fs,dA B (D.fd f)
 ql:kd D.R.aw
 inv:Inv D.R
 cK:∀ e∈D.R.now,e.blk∈D.fs
 cH:∀ e∈D.R.safe,e.blk∈D.fs
 er:∀ c∈D.R.aw,c.blk∈D.fs
 rise:bZ D.R.safe
theorem dA.mono {B B':Nat} {x:ByteArray × Int} (h:dA B x) (hB:B<=B'):dA B' x:=⟨Nat.le_trans h.1 hB,h.2⟩
theorem au.mono {D:DS} {L C B L' C' B':Nat} (h:au D L C B) (hL:L<=L') (hC:C<=C') (hB:B<=B'):au D L' C' B' :=
 ⟨Nat.le_trans h.len hL,h.c0,by have:=h.c1;omega,h.l0,h.l1,h.r0,h.r1,fun f hf=>(h.dS f hf).mono hB,h.ql,h.inv,h.cK,h.cH,h.er,h.rise⟩
def cZ (L C B:Nat):Prop:=L<=1000000/\C<=100000000000/\B<=1000000
theorem au.cz {D:DS} {L C B:Nat} (h:au D L C B):D.R.now.length<=L:=by
 rw [h.inv.go];exact Nat.le_trans (Yj _ _) h.len
theorem au.cnt {D:DS} {L C B:Nat} (h:au D L C B) (hb:cZ L C B):kN D.R:=⟨h.c0,by have:=h.c1;have:=hb.2.1;omega,h.l0,h.l1⟩
theorem au.Bx {D:DS} {L C B:Nat} (h:au D L C B) (hb:cZ L C B):qm D.R:=⟨by have:=h.cz;have:=hb.1;omega,by have:=h.len;have:=hb.1;omega⟩
theorem au.used {D:DS} {L C B:Nat} (h:au D L C B) (hb:cZ L C B):gH D.fd D.R.now<=1000000000000:=by
 have h1:=Yk (nd:=D.fd) (B:=B) (l:=D.R.now) (fun e he=>(h.dS _ (h.cK e he)).1);have h2:D.R.now.length * B<=1000000 * 1000000:=Nat.mul_le_mul (Nat.le_trans h.cz hb.1) hb.2.2;omega
def bR (w:World) (v:Value) (k:Int):Prop:=(k=0/\v = .nilIface)∨(k≠0/\o7 w v k)
def xV (s:ai) (w:World) (X:Int->DS->Prop) (e:Ending) (w':World):Prop:=∃ v k s',e = .returned v/\bR w' v k/\aC s s' w w'/\X k s'.ds
theorem aU.o8 {s:ai} {w w':World} {k:Int} {P:ai->Prop} {v:Value} {X:Int->DS->Prop} (h:aU s w k P v w') (hi:s.In w) (h0:k=0->∀ s1,P s1->X 0 s1.ds) (h1:k≠0->X k s.ds):xV s w X (.returned v) w':=by
 by_cases hk:k=0
 ·obtain ⟨rfl,s1,hg,hP⟩:=h.2 hk;exact ⟨_,0,s1,rfl,.inl ⟨rfl,rfl⟩,hg,h0 hk s1 hP⟩
 ·obtain ⟨hs,hb⟩:=h.1 hk;exact ⟨v,k,s,rfl,.inr ⟨hk,hs⟩,aC.refl hi hb,h1 hk⟩
def pQ (D:DS) (p dt:ByteArray) (f:Nat):Int × DS :=
 if aK p=false then (2,D)
 else if D.R.left=0 then (0,D)
 else if D.R.room - (gH D.fd D.R.now:Int)<(dt.size:Int) then (4,D)
 else match aO p D.R.now with
  | some g=>(0,⟨D.R.wrote,D.fs,cB D.fd g ((D.fd g).1++dt,(D.fd g).2)⟩)
  | none=>(0,⟨dz.wrote { D.R with now:=cC D.R.now ⟨⟨#[]⟩,p,f⟩,aw:=D.R.aw ++ [⟨⟨#[]⟩,p,f⟩] },f::D.fs,cB D.fd f (dt,0)⟩)
def qo (D:DS) (p:ByteArray):Int × DS :=
 if aK p=false then (2,D)
 else if D.R.left=0 then (0,D)
 else match aO p D.R.now with
  | some g=>(0,⟨D.R.wrote,D.fs,cB D.fd g ((D.fd g).1,((D.fd g).1.size:Int))⟩)
  | none=>(3,D)
def ni (D:DS) (p:ByteArray):Int × DS :=
 if aK p=false then (2,D)
 else if D.R.left=0 then (0,D)
 else match aO p D.R.now with
  | some g=>(0,⟨dz.wrote { D.R with now:=cC D.R.now ⟨p,⟨#[]⟩,g⟩,aw:=D.R.aw ++ [⟨p,⟨#[]⟩,g⟩] },D.fs,D.fd⟩)
  | none=>(3,D)
def o9 (D:DS) (p q:ByteArray):Int × DS :=
 if (aK p && aK q)=false then (2,D)
 else if D.R.left=0 then (0,D)
 else match aO p D.R.now with
  | some g=>(0,⟨dz.wrote (if p=q then D.R else { D.R with now:=cC D.R.now ⟨p,q,g⟩,aw:=D.R.aw ++ [⟨p,q,g⟩] }),D.fs,D.fd⟩)
  | none=>(3,D)
def pc (D:DS):Int × DS :=
 if D.R.left=0 then (0,D)
 else (0,⟨dz.wrote { D.R with safe:=D.R.now,aw:=[] },D.fs,D.fd⟩)
def cr (D:DS) (p:ByteArray):Option ByteArray:=if aK p=false then none else (aO p D.R.now).map fun f=>(D.fd f).1
theorem Fi {s:ai} {R:dz} {fs:List Nat} {fd:Nat->ByteArray × Int} (h:s.R=R/\s.fs=fs/\s.fd=fd):s.ds=⟨R,fs,fd⟩:=by
 unfold ai.ds;rw [h.1,h.2.1,h.2.2]
theorem QpT (s:ai) (p dt:ByteArray) (w:World) {L C B:Nat} (h:s.In w) (hf:au s.ds L C B) (hb:cZ L C B) (hp:p.size<=9223372036854775807) (Fj:dt.size<=1000000) :
  Calls Tryz.prog 189 #[.pointer (some ⟨s.b,0,none⟩),.string p,.string dt] w (xV s w fun k D'=>∃ f,f ∉ s.fs/\(k,D')=pQ s.ds p dt f):=by
 refine (Qqa s p dt w h hp (hf.cnt hb) (hf.Bx hb) (hf.used hb) hf.r0 hf.r1 (by omega) (fun f hm=>by have h9:(s.fd f).1.size<=B:=(hf.dS f hm).1;have:=hb.2.2;omega)).mono ?_;rintro _ w' ⟨v,rfl,h1,h2,h3,h4,h5⟩;have mn:w.heap.size ∉ s.fs:=fun hm=>by have:=eB (h.fds _ hm).blk;omega
 by_cases a1:aK p=false
 ·exact (h1 a1).o8 h (fun e=>by cases e) (fun _=>⟨_,mn,by unfold pQ;rw [if_pos a1]⟩)
 have gU:aK p=true:=by simpa using a1
 by_cases a2:s.R.left=0
 ·exact (h2 gU a2).o8 h (fun _ s1 e=>⟨_,mn,by subst e;unfold pQ;rw [if_neg a1,if_pos (show s1.ds.R.left=0 from a2)]⟩) (fun e=>absurd rfl e)
 by_cases a3:s.R.room - (gH s.fd s.R.now:Int)<(dt.size:Int)
 ·exact (h3 gU a2 a3).o8 h (fun e=>by cases e) (fun _=>⟨_,mn,by unfold pQ;rw [if_neg a1,if_neg (show ¬ s.ds.R.left=0 from a2),if_pos (show s.ds.R.room - (gH s.ds.fd s.ds.R.now:Int)<(dt.size:Int) from a3)]⟩)
 cases b7:aO p s.R.now with
 | some g =>
  refine (h4 g gU a2 a3 b7).o8 h (fun _ s1 e=>⟨_,mn,?_⟩) (fun e=>absurd rfl e);unfold pQ;rw [if_neg a1,if_neg (show ¬ s.ds.R.left=0 from a2),if_neg (show ¬ s.ds.R.room - (gH s.ds.fd s.ds.R.now:Int)<(dt.size:Int) from a3),show aO p s.ds.R.now=some g from b7,Fi e];rfl
 | none =>
  refine (h5 gU a2 a3 b7).o8 h (fun _ s1 e=>?_) (fun e=>absurd rfl e);obtain ⟨f,nj,e⟩:=e;refine ⟨f,fun hm=>by have:=eB (h.fds _ hm).blk;omega,?_⟩;unfold pQ;rw [if_neg a1,if_neg (show ¬ s.ds.R.left=0 from a2),if_neg (show ¬ s.ds.R.room - (gH s.ds.fd s.ds.R.now:Int)<(dt.size:Int) from a3),show aO p s.ds.R.now=none from b7,Fi e];rfl
theorem Qt3 (s:ai) (p:ByteArray) (w:World) {L C B:Nat} (h:s.In w) (hf:au s.ds L C B) (hb:cZ L C B) (hp:p.size<=9223372036854775807) :
  Calls Tryz.prog 229 #[.pointer (some ⟨s.b,0,none⟩),.string p] w (xV s w fun k D'=>(k,D')=qo s.ds p):=by
 refine (Qun s p w h hp (hf.cnt hb)).mono ?_;rintro _ w' ⟨v,rfl,h1,h2,h3,h4⟩
 by_cases a1:aK p=false
 ·exact (h1 a1).o8 h (fun e=>by cases e) (fun _=>by unfold qo;rw [if_pos a1])
 have gU:aK p=true:=by simpa using a1
 by_cases a2:s.R.left=0
 ·exact (h2 gU a2).o8 h (fun _ s1 e=>by subst e;unfold qo;rw [if_neg a1,if_pos (show s1.ds.R.left=0 from a2)]) (fun e=>absurd rfl e)
 cases b7:aO p s.R.now with
 | some g =>
  refine (h4 g gU a2 b7).o8 h (fun _ s1 e=>?_) (fun e=>absurd rfl e);unfold qo;rw [if_neg a1,if_neg (show ¬ s.ds.R.left=0 from a2),show aO p s.ds.R.now=some g from b7,Fi e];rfl
 | none=>exact (h3 gU a2 b7).o8 h (fun e=>by cases e) (fun _=>by unfold qo;rw [if_neg a1,if_neg (show ¬ s.ds.R.left=0 from a2),show aO p s.ds.R.now=none from b7])
theorem Rm (s:ai) (p:ByteArray) (w:World) {L C B:Nat} (h:s.In w) (hf:au s.ds L C B) (hb:cZ L C B) (hp:p.size<=9223372036854775807) :
  Calls Tryz.prog 117 #[.pointer (some ⟨s.b,0,none⟩),.string p] w (xV s w fun k D'=>(k,D')=ni s.ds p):=by
 refine (Qqh s p w h hp (hf.cnt hb) (hf.Bx hb)).mono ?_;rintro _ w' ⟨v,rfl,h1,h2,h3,h4⟩
 by_cases a1:aK p=false
 ·exact (h1 a1).o8 h (fun e=>by cases e) (fun _=>by unfold ni;rw [if_pos a1])
 have gU:aK p=true:=by simpa using a1
 by_cases a2:s.R.left=0
 ·exact (h2 gU a2).o8 h (fun _ s1 e=>by subst e;unfold ni;rw [if_neg a1,if_pos (show s1.ds.R.left=0 from a2)]) (fun e=>absurd rfl e)
 cases b7:aO p s.R.now with
 | some g =>
  refine (h4 g gU a2 b7).o8 h (fun _ s1 e=>?_) (fun e=>absurd rfl e);unfold ni;rw [if_neg a1,if_neg (show ¬ s.ds.R.left=0 from a2),show aO p s.ds.R.now=some g from b7,Fi e];rfl
 | none=>exact (h3 gU a2 b7).o8 h (fun e=>by cases e) (fun _=>by unfold ni;rw [if_neg a1,if_neg (show ¬ s.ds.R.left=0 from a2),show aO p s.ds.R.now=none from b7])
theorem Qnr (s:ai) (p:ByteArray) (w:World) {L C B:Nat} (h:s.In w) (hf:au s.ds L C B) (hb:cZ L C B) (hp:p.size<=9223372036854775807) :
  Calls Tryz.prog 117 #[.pointer (some ⟨s.b,0,none⟩),.string p] w fun e w'=>∃ v k s',e = .returned v/\bR w' v k/\aC s s' w w'/\(k,s'.ds)=ni s.ds p/\s'.mb=s.mb/\s'.lb=s.lb:=by
 refine (Yl s p w h hp (hf.cnt hb) (hf.Bx hb)).mono ?_;rintro _ w' ⟨v,rfl,h1,h2,h3,h4⟩
 by_cases a1:aK p=false
 ·obtain ⟨x1,x2⟩:=(h1 a1).1 (by decide);exact ⟨v,2,s,rfl,.inr ⟨by decide,x1⟩,aC.refl h x2,by unfold ni;rw [if_pos a1],rfl,rfl⟩
 have gU:aK p=true:=by simpa using a1
 by_cases a2:s.R.left=0
 ·obtain ⟨rfl,s1,x1,rfl⟩:=(h2 gU a2).2 rfl;exact ⟨_,0,s1,rfl,.inl ⟨rfl,rfl⟩,x1,by unfold ni;rw [if_neg a1,if_pos (show s1.ds.R.left=0 from a2)],rfl,rfl⟩
 cases b7:aO p s.R.now with
 | some g =>
  obtain ⟨rfl,s1,x1,e⟩:=(h4 g gU a2 b7).2 rfl;refine ⟨_,0,s1,rfl,.inl ⟨rfl,rfl⟩,x1,?_,e.2.2.2.1,e.2.2.2.2⟩;unfold ni;rw [if_neg a1,if_neg (show ¬ s.ds.R.left=0 from a2),show aO p s.ds.R.now=some g from b7,Fi ⟨e.1,e.2.1,e.2.2.1⟩];rfl
 | none =>
  obtain ⟨x1,x2⟩:=(h3 gU a2 b7).1 (by decide);exact ⟨v,3,s,rfl,.inr ⟨by decide,x1⟩,aC.refl h x2,by unfold ni;rw [if_neg a1,if_neg (show ¬ s.ds.R.left=0 from a2),show aO p s.ds.R.now=none from b7],rfl,rfl⟩
theorem Oq (s:ai) (p q:ByteArray) (w:World) {L C B:Nat} (h:s.In w) (hf:au s.ds L C B) (hb:cZ L C B) (hp:p.size<=9223372036854775807) (hq:q.size<=9223372036854775807) :
  Calls Tryz.prog 120 #[.pointer (some ⟨s.b,0,none⟩),.string p,.string q] w (xV s w fun k D'=>(k,D')=o9 s.ds p q):=by
 refine (Qqi s p q w h hp hq (hf.cnt hb) (hf.Bx hb)).mono ?_;rintro _ w' ⟨v,rfl,h1,h2,h3,h4⟩
 by_cases a1:(aK p && aK q)=false
 ·exact (h1 a1).o8 h (fun e=>by cases e) (fun _=>by unfold o9;rw [if_pos a1])
 have gU:(aK p && aK q)=true:=by simpa using a1
 by_cases a2:s.R.left=0
 ·exact (h2 gU a2).o8 h (fun _ s1 e=>by subst e;unfold o9;rw [if_neg a1,if_pos (show s1.ds.R.left=0 from a2)]) (fun e=>absurd rfl e)
 cases b7:aO p s.R.now with
 | some g =>
  refine (h4 g gU a2 b7).o8 h (fun _ s1 e=>?_) (fun e=>absurd rfl e);unfold o9;rw [if_neg a1,if_neg (show ¬ s.ds.R.left=0 from a2),show aO p s.ds.R.now=some g from b7,Fi e];rfl
 | none=>exact (h3 gU a2 b7).o8 h (fun e=>by cases e) (fun _=>by unfold o9;rw [if_neg a1,if_neg (show ¬ s.ds.R.left=0 from a2),show aO p s.ds.R.now=none from b7])
theorem Dx (s:ai) (w:World) {L C B:Nat} (h:s.In w) (hf:au s.ds L C B) (hb:cZ L C B) :
  Calls Tryz.prog 118 #[.pointer (some ⟨s.b,0,none⟩)] w (xV s w fun k D'=>(k,D')=pc s.ds):=by
 have hgo:s.R.aw.foldl cC s.R.safe=s.R.now:=(Rn s.R.aw (l:=s.R.safe) hf.inv.ne).trans hf.inv.go.symm;refine (Qn3 s w h (hf.cnt hb) (by have:=hf.len;have:=hb.1;exact Nat.le_trans hf.len (by omega)) hf.ql (by rw [hgo];exact h.cK)).mono ?_;rintro _ w' ⟨v,rfl,h1,h2⟩
 by_cases a2:s.R.left=0
 ·exact (h1 a2).o8 h (fun _ s1 e=>by subst e;unfold pc;rw [if_pos (show s1.ds.R.left=0 from a2)]) (fun e=>absurd rfl e)
 ·refine (h2 a2).o8 h (fun _ s1 e=>?_) (fun e=>absurd rfl e);unfold pc;rw [hgo] at e;rw [if_neg (show ¬ s.ds.R.left=0 from a2),Fi e];rfl
theorem Ot (s:ai) (p:ByteArray) (w:World) (h:s.In w) (hp:p.size<=9223372036854775807) :
  Calls Tryz.prog 80 #[.pointer (some ⟨s.b,0,none⟩),.string p] w fun e w'=>∃ v k,e = .returned (.tuple #[.string ((cr s.ds p).getD ⟨#[]⟩),v])/\bR w' v k/\(k=0 ↔ (cr s.ds p).isSome=true)/\Gr s.own w w'/\s.In w':=by
 refine (Ym s p w h hp).mono ?_;rintro _ w' ⟨v,t,rfl,h1,h2,h3⟩
 by_cases a1:aK p=false
 ·obtain ⟨h4,rfl⟩:=h1 a1;obtain ⟨h5,h6⟩:=h4.1 (by decide);exact ⟨v,2,by simp [cr,a1],.inr ⟨by decide,h5⟩,by simp [cr,a1],Gr.ae h6,h.later h6⟩
 have gU:aK p=true:=by simpa using a1
 cases b7:aO p s.R.now with
 | none =>
  obtain ⟨h4,rfl⟩:=h2 gU b7;obtain ⟨h5,h6⟩:=h4.1 (by decide);exact ⟨v,3,by simp [cr,gU,ai.ds,b7],.inr ⟨by decide,h5⟩,by simp [cr,gU,ai.ds,b7],Gr.ae h6,h.later h6⟩
 | some f =>
  obtain ⟨h4,rfl⟩:=h3 f gU b7;obtain ⟨rfl,s1,hg,rfl⟩:=h4.2 rfl;exact ⟨_,0,by simp [cr,gU,ai.ds,b7],.inl ⟨rfl,rfl⟩,by simp [cr,gU,ai.ds,b7],hg.gr,hg.ay⟩
end Go.Proofs.YtncigfibncmioaaGreatDoor
namespace Go.Proofs.YtncigfibncmioaaGreatDoor
open Go.RowKit
def Q5 (s:ai) (w:World) (k:Int) (P:ai->Prop) (e:Ending) (w':World):Prop:=e = .returned (.int .i64 k)/\(k≠0->Below w.heap.size w w')/\(k=0->∃ s1,aC s s1 w w'/\P s1)
def BD (w:World) (d b:Nat):Prop:=w.heap[d]? = some (.cells #[.pointer (some ⟨b,0,none⟩)] 90 (0,0))
theorem QtX (s:ai) (d:Nat) (n:Int) (w:World) (k:Int) (P:ai->Prop) (hd:BD w d s.b) (hg:w.cell? ⟨0,0,none⟩=some lI)
  (h:Calls Tryz.prog 53 #[.pointer (some ⟨s.b,0,none⟩),.int .i64 n] w fun e w'=>∃ v,e = .returned v/\aU s w k P v w') :
  Calls Tryz.prog 20 #[.pointer (some ⟨d,0,none⟩),.int .i64 n] w (Q5 s w k P):=by
 have H:=aa h;have HG:=aa hg;have c0:w.cell? ⟨d,0,none⟩=some (.pointer (some ⟨s.b,0,none⟩)):=cell_of_row _ _ 0 _ _ _ hd;clear h hg hd;go_enter Tryz.func20,Tryz.ntmps20;go_wp2_with fail;refine H.out.mono ?_;rintro _ w1 ⟨v,rfl,hr⟩;dsimp only;have HR:=aa (WX hr HG.out);clear hr;go_wp2_with fail;refine HR.out.mono ?_;rintro _ w2 ⟨rfl,hp⟩;dsimp only;have HP:=aa hp;clear hp;go_wp2_with fail;go_ret;exact ⟨rfl,HP.out⟩
theorem Qvr (d b:Nat) (Q:Value->World->Prop) (w:World) (hd:BD w d b) 
  (h:Calls Tryz.prog 54 #[.pointer (some ⟨b,0,none⟩)] w fun e w'=>∃ v,e = .returned v/\Q v w') :
  Calls Tryz.prog 22 #[.pointer (some ⟨d,0,none⟩)] w fun e w'=>∃ v,e = .returned (.tuple #[v,.int .i64 0])/\Q v w':=by
 have H:=aa h;have c0:w.cell? ⟨d,0,none⟩=some (.pointer (some ⟨b,0,none⟩)):=cell_of_row _ _ 0 _ _ _ hd;clear h hd;go_enter Tryz.func22,Tryz.ntmps22;go_wp2_with fail;refine H.out.mono ?_;rintro _ w1 ⟨v,rfl,hq⟩;dsimp only;have HQ:=aa hq;clear hq;go_wp2_with fail;refine bodyPost_ret (results_tmp2 rfl _ _ _) rfl ?_;exact ⟨v,rfl,HQ.out⟩
theorem QtY (d b:Nat) (n:Int) (kv:Value) (Q:World->Prop) (w:World) (hd:BD w d b) 
  (h:Calls Tryz.prog 47 #[.pointer (some ⟨b,0,none⟩),.int .i64 n,kv] w fun e w'=>e = .returned (.tuple #[])/\Q w') :
  Calls Tryz.prog 16 #[.pointer (some ⟨d,0,none⟩),.int .i64 n,kv] w fun e w'=>e = .returned (.int .i64 0)/\Q w':=by
 have H:=aa h;have c0:w.cell? ⟨d,0,none⟩=some (.pointer (some ⟨b,0,none⟩)):=cell_of_row _ _ 0 _ _ _ hd;clear h hd;go_enter Tryz.func16,Tryz.ntmps16;go_wp2_with fail;refine H.out.mono ?_;rintro _ w1 ⟨rfl,hq⟩;dsimp only;have HQ:=aa hq;clear hq;go_wp2_with fail;go_ret;exact ⟨rfl,HQ.out⟩
theorem WY (d b:Nat) (Q:Nat->World->Prop) (w:World) (hd:BD w d b) 
  (h:Calls Tryz.prog 52 #[.pointer (some ⟨b,0,none⟩)] w fun e w'=>∃ g,e = .returned (.pointer (some ⟨g,0,none⟩))/\Q g w') :
  Calls Tryz.prog 18 #[.pointer (some ⟨d,0,none⟩)] w fun e w'=>∃ g w1,e = .returned (.tuple #[.pointer (some ⟨w1.heap.size,0,none⟩),.int .i64 0])/\w'=w1.alloc (.cells #[.pointer (some ⟨g,0,none⟩)] 90)/\Q g w1:=by
 have H:=aa h;have c0:w.cell? ⟨d,0,none⟩=some (.pointer (some ⟨b,0,none⟩)):=cell_of_row _ _ 0 _ _ _ hd;clear h hd;go_enter Tryz.func18,Tryz.ntmps18;go_wp2_with fail;refine H.out.mono ?_;rintro _ w1 ⟨g,rfl,hq⟩;dsimp only;have HQ:=aa hq;clear hq;go_wp2_with fail;refine bodyPost_ret (results_tmp2 rfl _ _ _) rfl ?_;exact ⟨g,w1,rfl,rfl,HQ.out⟩
theorem QpP (n:Int) (Q:Nat->World->Prop) (w:World) 
  (h:Calls Tryz.prog 56 #[.int .i64 n] w fun e w'=>∃ g,e = .returned (.pointer (some ⟨g,0,none⟩))/\Q g w') :
  Calls Tryz.prog 24 #[.int .i64 n] w fun e w'=>∃ g w1,e = .returned (.pointer (some ⟨w1.heap.size,0,none⟩))/\w'=w1.alloc (.cells #[.pointer (some ⟨g,0,none⟩)] 90)/\Q g w1:=by
 have H:=aa h;clear h;go_enter Tryz.func24,Tryz.ntmps24;go_wp2_with fail;refine H.out.mono ?_;rintro _ w1 ⟨g,rfl,hq⟩;dsimp only;have HQ:=aa hq;clear hq;go_wp2_with fail;go_ret;exact ⟨g,w1,rfl,rfl,HQ.out⟩
theorem Qvs (s:ai) (d:Nat) (p:ByteArray) (w:World) (k:Int) (P:ai->Prop) (t:ByteArray) (hd:BD w d s.b) (hg:w.cell? ⟨0,0,none⟩=some lI)
  (h:Calls Tryz.prog 80 #[.pointer (some ⟨s.b,0,none⟩),.string p] w fun e w'=>∃ v,e = .returned (.tuple #[.string t,v])/\aU s w k P v w') :
  Calls Tryz.prog 43 #[.pointer (some ⟨d,0,none⟩),.string p] w fun e w'=>e = .returned (.tuple #[.string t,.int .i64 k])/\(k≠0->Below w.heap.size w w')/\(k=0->∃ s1,aC s s1 w w'/\P s1):=by
 have H:=aa h;have HG:=aa hg;have c0:w.cell? ⟨d,0,none⟩=some (.pointer (some ⟨s.b,0,none⟩)):=cell_of_row _ _ 0 _ _ _ hd;clear h hg hd;go_enter Tryz.func43,Tryz.ntmps43;go_wp2_with fail;refine H.out.mono ?_;rintro _ w1 ⟨v,rfl,hr⟩;dsimp only;have HR:=aa (WX hr HG.out);clear hr;go_wp2_with fail;refine HR.out.mono ?_;rintro _ w2 ⟨rfl,hp⟩;dsimp only;have HP:=aa hp;clear hp;go_wp2_with fail;refine bodyPost_ret (results_tmp2 rfl _ _ _) rfl ?_;exact ⟨rfl,HP.out⟩
end Go.Proofs.YtncigfibncmioaaGreatDoor
namespace Go.Proofs.YtncigfibncmioaaGreatDoor
open Go.RowKit
theorem Yn (p x:ByteArray):∀ l:List DE,aO x (l.filter (fun e=>!decide (e.path=p)))=if x=p then none else aO x l
 | []=>by simp [aO]
 | e::es=>by
  have ih:=Yn p x es
  by_cases he:e.path=p
  ·rw [List.filter_cons_of_neg (by simp [he]),ih]
   by_cases hx:x=p
   ·simp [hx]
   ·rw [if_neg hx,if_neg hx]
    conv=>rhs;unfold aO
    rw [if_neg (fun h=>hx (h.symm.trans he))]
  ·rw [List.filter_cons_of_pos (by simp [he])];unfold aO
   by_cases hx:e.path=x
   ·rw [if_pos hx,if_pos hx,if_neg (fun h=>he (hx.trans h))]
   ·rw [if_neg hx,if_neg hx,ih]
theorem Yo (p:ByteArray) (nb:Nat):∀ {l:List DE},bZ l->bZ (dc p (some nb) l false)
 | [],_=>by unfold dc bZ;simp
 | e::es,hr=>by
  obtain ⟨h1,h2⟩:=List.pairwise_cons.1 hr;have ih:=Yo p nb h2;unfold dc
  by_cases he:e.path=p
  ·simp only [he,mo,Bool.and_false,Bool.false_eq_true,if_false,if_true,List.nil_append,Bool.or_self];exact ih
  ·by_cases hl:bJ p e.path=true
   ·simp only [hl,he,Bool.not_false,Bool.and_self,if_true,if_false,Bool.or_true,List.cons_append,List.nil_append];rw [Ap];refine List.pairwise_cons.2 ⟨fun x hx=>?_,List.pairwise_cons.2 ⟨fun x hx=>h1 x (List.mem_filter.1 hx).1,h2.filter _⟩⟩
    rcases List.mem_cons.1 hx with rfl|hx
    ·exact hl
    ·exact uA hl (h1 x (List.mem_filter.1 hx).1)
   ·have hl':bJ p e.path=false:=by simpa using hl
    simp only [hl',he,Bool.and_false,Bool.false_eq_true,if_false,Bool.or_self,List.nil_append,List.cons_append];refine List.pairwise_cons.2 ⟨fun x hx=>?_,ih⟩
    rcases Ou hx with ⟨h3,_⟩|h3
    ·exact h1 x h3
    ·rw [h3]
     rcases Fk he with h4|h4
     ·exact h4
     ·rw [h4] at hl';cases hl'
theorem Yp {l:List DE} (hr:bZ l) (bg too:ByteArray) (nb:Nat):bZ (mq l bg too nb):=by
 unfold mq;have h1:bZ (if bg=⟨#[]⟩ then l else dc bg none l true):=by
  split
  ·exact hr
  ·rw [Ap];exact hr.filter _
 dsimp only
 split
 ·exact h1
 ·exact Yo _ _ h1
theorem Fl:∀ (cs:List CH) {l:List DE},bZ l->bZ (fh l cs)
 | [],_,h=>h
 | c::cs,_,h=>Fl cs (Yp h c.bg c.too c.blk)
theorem Yq {l:List DE} (hr:bZ l) (bg too:ByteArray) (nb:Nat) {x:ByteArray} (hx:x≠⟨#[]⟩):aO x (mq l bg too nb)=if x=too then some nb else if x=bg then none else aO x l:=by
 unfold mq;have h1:bZ (if bg=⟨#[]⟩ then l else dc bg none l true):=by
  split
  ·exact hr
  ·rw [Ap];exact hr.filter _
 have h2:aO x (if bg=⟨#[]⟩ then l else dc bg none l true)=if x=bg then none else aO x l:=by
  split
  ·next h=>rw [if_neg (fun e=>hx (e.trans h))]
  ·rw [Ap,Yn]
 show aO x (if too=⟨#[]⟩ then (if bg=⟨#[]⟩ then l else dc bg none l true) else dc too (some nb) (if bg=⟨#[]⟩ then l else dc bg none l true) false)=_;generalize (if bg=⟨#[]⟩ then l else dc bg none l true)=l1 at h1 h2
 by_cases h:too=⟨#[]⟩
 ·rw [if_pos h,h2,if_neg (c:=x=too) (fun e=>hx (e.trans h))]
 ·rw [if_neg h,Yr _ _ _ h1,h2]
def LF (x:ByteArray) (D:DS):Prop:=∀ m,aO x (fh D.R.safe (D.R.aw.take m))=none
theorem LF.push {x:ByteArray} {D:DS} (h:LF x D) (hr:bZ D.R.safe) (hx:x≠⟨#[]⟩) {c:CH} (hc:c.too≠x) (m:Nat):aO x (fh D.R.safe ((D.R.aw ++ [c]).take m))=none:=by
 rcases Nat.lt_or_ge D.R.aw.length m with hm|hm
 ·rw [List.take_of_length_le (by simp;omega),Ro,Yq (Fl _ hr) _ _ _ hx,if_neg (fun e=>hc e.symm)]
  split
  ·rfl
  ·have:=h D.R.aw.length;rwa [List.take_length] at this
 ·rw [List.take_append_of_le_length hm];exact h m
theorem I1 {R:dz} (h0 : -1<=R.left) (h1:R.left<=9223372036854775807) : -1<=R.wrote.left/\R.wrote.left<=9223372036854775807:=by
 unfold dz.wrote;dsimp only
 split<;>omega
theorem au.wrote {D:DS} {L C B B':Nat} {uB:Nat->ByteArray × Int} (h:au D L C B) (hd:∀ f∈D.fs,dA B' (uB f)):au ⟨D.R.wrote,D.fs,uB⟩ L (C+1) B' :=
 ⟨h.len,by have:=h.c0;show 0<=D.R.count+1;omega,by have:=h.c1;show D.R.count+1<=_;omega,(I1 h.l0 h.l1).1,(I1 h.l0 h.l1).2,h.r0,h.r1,hd,h.ql,h.inv.wrote,h.cK,h.cH,h.er,h.rise⟩
theorem au.mr {D:DS} {L C B B':Nat} {c:CH} {Bz:List Nat} {uB:Nat->ByteArray × Int} (h:au D L C B) (hc:c.bg.size<=1000000000/\c.too.size<=1000000000) (hb:c.blk∈Bz) (ke:∀ f∈D.fs,f∈Bz) (hd:∀ f∈Bz,dA B' (uB f)) :
  au ⟨dz.wrote { D.R with now:=cC D.R.now c,aw:=D.R.aw ++ [c] },Bz,uB⟩ (L+1) (C+1) B':=by
 have ha:cC D.R.now c=mq D.R.now c.bg c.too c.blk:=Ov h.inv.kg c;refine ⟨?_,by have:=h.c0;show 0<=D.R.count+1;omega,by have:=h.c1;show D.R.count+1<=_;omega,(I1 (R:={ D.R with now:=cC D.R.now c,aw:=D.R.aw ++ [c] }) h.l0 h.l1).1,(I1 (R:={ D.R with now:=cC D.R.now c,aw:=D.R.aw ++ [c] }) h.l0 h.l1).2,h.r0,h.r1,hd,?_,?_,?_,fun e he=>ke _ (h.cH e he),?_,h.rise⟩
 ·show D.R.safe.length+(D.R.aw ++ [c]).length<=_;have:=h.len;rw [List.length_append,List.length_singleton];omega
 ·intro x hx
  rcases List.mem_append.1 hx with hx|hx
  ·exact h.ql x hx
  ·rw [List.mem_singleton.1 hx];exact hc
 ·have:=h.inv.push c;rw [<- ha] at this;exact this.wrote
 ·intro e he;have he:e∈cC D.R.now c:=he
  rcases Ys he with h1|h1
  ·exact ke _ (h.cK e h1)
  ·rw [h1];exact hb
 ·intro x hx
  rcases List.mem_append.1 hx with hx|hx
  ·exact ke _ (h.er x hx)
  ·rw [List.mem_singleton.1 hx];exact hb
theorem Ow {D:DS} {L C B:Nat} (h:au D L C B) {p:ByteArray} {f:Nat} (hf:aO p D.R.now=some f):f∈D.fs:=by
 obtain ⟨e,he,_,rfl⟩:=Fm hf;exact h.cK e he
theorem Rp {fs:List Nat} {fd:Nat->ByteArray × Int} {B B':Nat} (h:∀ f∈fs,dA B (fd f)) (hB:B<=B') {g:Nat} {x:ByteArray × Int} (hx:dA B' x):∀ f∈fs,dA B' (cB fd g x f):=fun f hf=>by
 unfold cB
 split
 ·exact hx
 ·exact (h f hf).mono hB
theorem au.ap {D:DS} {L C B:Nat} (h:au D L C B) {p dt:ByteArray} {f:Nat} {k:Int} {D':DS} (he:(k,D')=pQ D p dt f):au D' (L+1) (C+1) (B+dt.size):=by
 unfold pQ at he
 split at he
 ·rw [(Prod.mk.inj he).2];exact h.mono (Nat.le_succ _) (Nat.le_succ _) (Nat.le_add_right _ _)
 ·next a1 =>
  have gU:aK p=true:=by simpa using a1
  split at he
  ·rw [(Prod.mk.inj he).2];exact h.mono (Nat.le_succ _) (Nat.le_succ _) (Nat.le_add_right _ _)
  ·split at he
   ·rw [(Prod.mk.inj he).2];exact h.mono (Nat.le_succ _) (Nat.le_succ _) (Nat.le_add_right _ _)
   ·cases hf:aO p D.R.now with
    | some g =>
     rw [hf] at he;rw [(Prod.mk.inj he).2];obtain ⟨x1,x2,x3⟩:=h.dS g (Ow h hf);have hx9:dA (B+dt.size) ((D.fd g).1++dt,(D.fd g).2):=⟨by show ((D.fd g).1++dt).size<=_;rw [ByteArray.size_append];omega,x2,by show (D.fd g).2<=(((D.fd g).1++dt).size:Int);rw [ByteArray.size_append];omega⟩;exact (h.wrote (Rp h.dS (Nat.le_add_right _ _) hx9)).mono (Nat.le_succ _) (Nat.le_refl _) (Nat.le_refl _)
    | none =>
     rw [hf] at he;rw [(Prod.mk.inj he).2];refine h.mr (c:=⟨⟨#[]⟩,p,f⟩) ⟨Nat.zero_le _,Dy gU⟩ (by simp) (fun f hf=>by simp [hf]) (fun g hg=>?_);unfold cB
     split
     ·exact ⟨Nat.le_add_left _ _,Int.le_refl _,Int.natCast_nonneg _⟩
     ·next hne=>exact (h.dS g ((List.mem_cons.1 hg).resolve_left hne)).mono (Nat.le_add_right _ _)
theorem au.sy {D:DS} {L C B:Nat} (h:au D L C B) {p:ByteArray} {k:Int} {D':DS} (he:(k,D')=qo D p):au D' L (C+1) B:=by
 unfold qo at he
 split at he
 ·rw [(Prod.mk.inj he).2];exact h.mono (Nat.le_refl _) (Nat.le_succ _) (Nat.le_refl _)
 ·split at he
  ·rw [(Prod.mk.inj he).2];exact h.mono (Nat.le_refl _) (Nat.le_succ _) (Nat.le_refl _)
  ·cases hf:aO p D.R.now with
   | some g =>
    rw [hf] at he;rw [(Prod.mk.inj he).2];obtain ⟨x1,x2,x3⟩:=h.dS g (Ow h hf);exact h.wrote (Rp h.dS (Nat.le_refl _) ⟨x1,Int.natCast_nonneg _,Int.le_refl _⟩)
   | none=>rw [hf] at he;rw [(Prod.mk.inj he).2];exact h.mono (Nat.le_refl _) (Nat.le_succ _) (Nat.le_refl _)
theorem au.rm {D:DS} {L C B:Nat} (h:au D L C B) {p:ByteArray} {k:Int} {D':DS} (he:(k,D')=ni D p):au D' (L+1) (C+1) B:=by
 unfold ni at he
 split at he
 ·rw [(Prod.mk.inj he).2];exact h.mono (Nat.le_succ _) (Nat.le_succ _) (Nat.le_refl _)
 ·next a1 =>
  have gU:aK p=true:=by simpa using a1
  split at he
  ·rw [(Prod.mk.inj he).2];exact h.mono (Nat.le_succ _) (Nat.le_succ _) (Nat.le_refl _)
  ·cases hf:aO p D.R.now with
   | some g =>
    rw [hf] at he;rw [(Prod.mk.inj he).2];exact h.mr (c:=⟨p,⟨#[]⟩,g⟩) ⟨Dy gU,Nat.zero_le _⟩ (Ow h hf) (fun _ hf=>hf) h.dS
   | none=>rw [hf] at he;rw [(Prod.mk.inj he).2];exact h.mono (Nat.le_succ _) (Nat.le_succ _) (Nat.le_refl _)
theorem au.rn {D:DS} {L C B:Nat} (h:au D L C B) {p q:ByteArray} {k:Int} {D':DS} (he:(k,D')=o9 D p q):au D' (L+1) (C+1) B:=by
 unfold o9 at he
 split at he
 ·rw [(Prod.mk.inj he).2];exact h.mono (Nat.le_succ _) (Nat.le_succ _) (Nat.le_refl _)
 ·next a1 =>
  have gU:aK p=true/\aK q=true:=by simpa using a1
  split at he
  ·rw [(Prod.mk.inj he).2];exact h.mono (Nat.le_succ _) (Nat.le_succ _) (Nat.le_refl _)
  ·cases hf:aO p D.R.now with
   | some g =>
    rw [hf] at he;rw [(Prod.mk.inj he).2]
    by_cases oA:p=q
    ·rw [if_pos oA];exact (h.wrote h.dS).mono (Nat.le_succ _) (Nat.le_refl _) (Nat.le_refl _)
    ·rw [if_neg oA];exact h.mr (c:=⟨p,q,g⟩) ⟨Dy gU.1,Dy gU.2⟩ (Ow h hf) (fun _ hf=>hf) h.dS
   | none=>rw [hf] at he;rw [(Prod.mk.inj he).2];exact h.mono (Nat.le_succ _) (Nat.le_succ _) (Nat.le_refl _)
theorem au.sd {D:DS} {L C B:Nat} (h:au D L C B) {k:Int} {D':DS} (he:(k,D')=pc D):au D' L (C+1) B:=by
 unfold pc at he
 split at he
 ·rw [(Prod.mk.inj he).2];exact h.mono (Nat.le_refl _) (Nat.le_succ _) (Nat.le_refl _)
 ·rw [(Prod.mk.inj he).2];refine ⟨?_,by have:=h.c0;show 0<=D.R.count+1;omega,by have:=h.c1;show D.R.count+1<=_;omega,(I1 (R:={ D.R with safe:=D.R.now,aw:=[] }) h.l0 h.l1).1,(I1 (R:={ D.R with safe:=D.R.now,aw:=[] }) h.l0 h.l1).2,h.r0,h.r1,h.dS,fun c hc=>(by cases hc),h.inv.sync.wrote,h.cK,h.cK,fun c hc=>(by cases hc),?_⟩
  ·exact h.cz
  ·show bZ D.R.now;rw [h.inv.go];exact Fl _ h.rise
structure bU where
 k:Nat
 p:ByteArray
 q:ByteArray
def oB (p q:ByteArray):bU:=⟨0,p,q⟩
def oC (p:ByteArray):bU:=⟨1,p,⟨#[]⟩⟩
def fM (p:ByteArray):bU:=⟨2,p,⟨#[]⟩⟩
def gv (p q:ByteArray):bU:=⟨3,p,q⟩
def gQ:bU:=⟨4,⟨#[]⟩,⟨#[]⟩⟩
def fK (D:DS) (t:bU) (k:Int) (D':DS):Prop :=
 match t.k with
 | 0=>∃ f,f ∉ D.fs/\(k,D')=pQ D t.p t.q f
 | 1=>(k,D')=qo D t.p
 | 2=>(k,D')=ni D t.p
 | 3=>(k,D')=o9 D t.p t.q
 | _=>(k,D')=pc D
def bU.sz (t:bU):Nat:=if t.k=0 then t.q.size else 0
theorem au.st {D D':DS} {L C B:Nat} {t:bU} {k:Int} (h:au D L C B) (hs:fK D t k D'):au D' (L+1) (C+1) (B+t.sz):=by
 obtain ⟨tk,p,q⟩:=t;unfold fK at hs;unfold bU.sz
 match tk with
 | 0 =>
  obtain ⟨f,_,he⟩:=hs;exact h.ap he
 | 1=>exact (h.sy hs).mono (Nat.le_succ _) (Nat.le_refl _) (Nat.le_add_right _ _)
 | 2=>exact (h.rm hs).mono (Nat.le_refl _) (Nat.le_refl _) (Nat.le_add_right _ _)
 | 3=>exact (h.rn hs).mono (Nat.le_refl _) (Nat.le_refl _) (Nat.le_add_right _ _)
 | n+4=>exact (h.sd hs).mono (Nat.le_succ _) (Nat.le_refl _) (Nat.le_add_right _ _)
def bM:DS->List bU->Int->Nat->DS->Prop
 | D,[],k,n,D'=>k=0/\n=0/\D'=D
 | D,t::l,k,n,D'=>∃ k1 D1,fK D t k1 D1/\((k1≠0/\k=k1/\n=0/\D'=D1)∨(k1=0/\∃ m,n=m+1/\bM D1 l k m D'))
def j4:DS->List bU->DS->Prop
 | D,[],D'=>D'=D
 | D,t::l,D'=>∃ k1 D1,fK D t k1 D1/\j4 D1 l D'
theorem bM.stop:∀ {l:List bU} {D D':DS} {k:Int} {n:Nat} (l':List bU),bM D l k n D'->k≠0->bM D (l++l') k n D'
 | [],_,_,_,_,_,h,hk=>absurd h.1 hk
 | t::l,D,D',k,n,l',h,hk=>by
  obtain ⟨k1,D1,h1,h2⟩:=h;refine ⟨k1,D1,h1,?_⟩
  rcases h2 with h2|⟨h2,m,h3,h4⟩
  ·exact .inl h2
  ·exact .inr ⟨h2,m,h3,h4.stop l' hk⟩
theorem bM.app:∀ {l l':List bU} {D D1 D':DS} {k:Int} {n m:Nat},bM D l 0 n D1->bM D1 l' k m D'->bM D (l++l') k (n+m) D'
 | [],l',D,D1,D',k,n,m,h,h'=>by
  obtain ⟨_,rfl,rfl⟩:=h;rw [Nat.zero_add];exact h'
 | t::l,l',D,D1,D',k,n,m,h,h'=>by
  obtain ⟨k1,D2,h1,h2⟩:=h
  rcases h2 with ⟨h2,h3,_⟩|⟨h2,j,h3,h4⟩
  ·exact absurd h3.symm h2
  ·exact ⟨k1,D2,h1,.inr ⟨h2,j+m,by omega,h4.app h'⟩⟩
theorem bM.one {D D':DS} {t:bU} {k:Int} (h:fK D t k D'):bM D [t] k (if k=0 then 1 else 0) D':=by
 refine ⟨k,D',h,?_⟩
 by_cases hk:k=0
 ·rw [if_pos hk];exact .inr ⟨hk,0,rfl,hk,rfl,rfl⟩
 ·rw [if_neg hk];exact .inl ⟨hk,rfl,rfl,rfl⟩
theorem bM.len:∀ {l:List bU} {D D':DS} {n:Nat},bM D l 0 n D'->n=l.length
 | [],_,_,_,h=>h.2.1
 | t::l,D,D',n,h=>by
  obtain ⟨k1,D1,h1,h2⟩:=h
  rcases h2 with ⟨h2,h3,_⟩|⟨_,m,h3,h4⟩
  ·exact absurd h3.symm h2
  ·rw [h3,h4.len];rfl
theorem j4.snoc:∀ {l:List bU} {D D1 D':DS} {t:bU} {k:Int},j4 D l D1->fK D1 t k D'->j4 D (l ++ [t]) D'
 | [],_,_,_,_,_,h,h'=>by
  subst h;exact ⟨_,_,h',rfl⟩
 | t::l,_,_,_,_,_,h,h'=>by
  obtain ⟨k1,D2,h1,h2⟩:=h;exact ⟨k1,D2,h1,h2.snoc h'⟩
def eM (l:List bU):Nat:=(l.map bU.sz).sum
theorem au.ran:∀ {l:List bU} {D D':DS} {L C B:Nat} {k:Int} {n:Nat},au D L C B->bM D l k n D'->au D' (L+l.length) (C+l.length) (B+eM l)
 | [],D,D',L,C,B,k,n,h,hr=>by
  rw [hr.2.2];exact h.mono (Nat.le_add_right _ _) (Nat.le_add_right _ _) (Nat.le_add_right _ _)
 | t::l,D,D',L,C,B,k,n,h,hr=>by
  obtain ⟨k1,D1,h1,h2⟩:=hr;have h3:=h.st h1;have e1:eM (t::l)=t.sz+eM l:=by simp [eM]
  rw [List.length_cons,e1]
  rcases h2 with ⟨_,_,_,rfl⟩|⟨_,m,_,h4⟩
  ·exact h3.mono (by omega) (by omega) (by omega)
  ·exact (h3.ran h4).mono (by omega) (by omega) (by omega)
theorem au.CD:∀ {l:List bU} {D D':DS} {L C B:Nat},au D L C B->j4 D l D'->au D' (L+l.length) (C+l.length) (B+eM l)
 | [],D,D',L,C,B,h,hr=>by
  rw [hr];exact h.mono (Nat.le_add_right _ _) (Nat.le_add_right _ _) (Nat.le_add_right _ _)
 | t::l,D,D',L,C,B,h,hr=>by
  obtain ⟨k1,D1,h1,h2⟩:=hr;have e1:eM (t::l)=t.sz+eM l:=by simp [eM]
  rw [List.length_cons,e1];exact ((h.st h1).CD h2).mono (by omega) (by omega) (by omega)
theorem cZ.mono {L C B L' C' B':Nat} (h:cZ L C B) (hL:L'<=L) (hC:C'<=C) (hB:B'<=B):cZ L' C' B':=⟨Nat.le_trans hL h.1,Nat.le_trans hC h.2.1,Nat.le_trans hB h.2.2⟩
theorem aC.keeps {s s':ai} {w w':World} (hg:aC s s' w w') (h:s.In w) {k:Nat} {cur:Array Value} {T:TypeId} {fr:Nat × Nat} (hk:w.heap[k]? = some (.cells cur T fr)) (h1:T≠150) (h2:T≠214) (h3:T≠154) (h4:T≠5):w'.heap[k]? = some (.cells cur T fr) :=
 (hg.gr.block k (ax hk) (h.gh hk h1 h2 h3 h4)).trans hk
end Go.Proofs.YtncigfibncmioaaGreatDoor
