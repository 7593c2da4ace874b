/-
  PROVED HERE: that valid of the statements answers true of a disk at rest with a store on it, whatever it has.
-/
import Derived.Test.YtncigfibncmioaaGreatDoorRfLaw
set_option maxHeartbeats 8000000
set_option maxRecDepth 100000
namespace Go.Proofs.YtncigfibncmioaaGreatDoor
open Go.RowKit
theorem Qm5 {w:World} {d:Nat} {s:ai} {A:aN} {r:Int} {N cu:Nat} (h:DQ w d s A r N cu) (hN:N<=300000) :
  Calls Tryz.prog 15 #[.pointer (some ⟨d,0,none⟩)] w fun e w'=>e = .returned (.bool true)/\aC s s w w':=by
 have fO:=h.good;obtain ⟨y,f1,fy⟩:=h.file (JR A);obtain ⟨x,f2,fx⟩:=h.file (Qj7 A);obtain ⟨z,f3,fz⟩:=h.file (EN A);have hlen:=h.GM;have hmN:=h.len;have iz:=h.dk;have xh:=aa (YT s d w iz (by omega));have Qh:=aa (fun W (hg:aC s s w W)=>KP s d z bK W (iz.go hg) (by decide) f3);have AE:=aa (fun W (hg:aC s s w W)=>KP s d y bB W (iz.go hg) (by decide) f1);have Qi:=aa (fun W (hg:aC s s w W)=>KP s d x bo W (iz.go hg) (by decide) f2);have HRC:=aa (show ∀ b∈A.cs,∀ W,aC s s w W->Calls Tryz.prog 43 #[.pointer (some ⟨d,0,none⟩),.string (kC b)] W fun e w'=>e = .returned (.tuple #[.string b,.int .i64 0])/\aC s s W w' from fun b hb W hg=>by
  obtain ⟨f,h1,h2⟩:=h.file (Qo5 fO hb);have:=KP s d f (kC b) W (iz.go hg) (yl _) h1;rw [h2] at this;exact this)
 rw [fz] at Qh;rw [fy] at AE;rw [fx] at Qi;obtain ⟨n,hn⟩ : ∃ n,n=s.R.now.length:=⟨_,rfl⟩;obtain ⟨m,hm⟩ : ∃ m,m=A.cs.length:=⟨_,rfl⟩;obtain ⟨q,hq⟩ : ∃ q,q=A.tg.length:=⟨_,rfl⟩;have hq8:q<=8:=by rw [hq];exact fO.t8
 rw [<- hn,<- hm] at hlen;rw [<- hm] at hmN;rw [<- hn] at xh;have tM:n<=300003:=by omega
 have DO:=aa hlen;clear hlen hmN hN;have F7:=aa hn;have HME:=aa hm;have Qj:=aa hq;have H:=aa h;have xm:=aa fO;clear h fO iz fx fy fz f1 f2 f3 hn hm hq;unfold bK at Qh;unfold bB at AE;unfold bo at Qi;obtain ⟨tp,vD⟩:=Qo7 xm.out;have ER:=Qq0 xm.out;obtain ⟨cR,ES⟩:=Ia xm.out;have Vm:=vZ xm.out.tok xm.out.t8;generalize aL A.tg=ET at *;have HTP:=aa tp;have LR:=aa vD;have EU:=aa ER;have zX:=aa ES;clear tp vD ER ES;go_enter Tryz.func15,Tryz.ntmps15;go_wp2_with fail;refine (xh.out).mono ?_;rintro _ w1 ⟨v,rfl,hrow,hb1⟩;dsimp only;obtain ⟨so,sc,rfl⟩:=jG hrow;have bT:=aa (aC.refl H.out.dk.ay hb1);have Nt:=aa hrow;clear hrow hb1 xh;go_wp2_with fail;refine (Qh.out _ bT.out).mono ?_;rintro _ w2 ⟨rfl,hg2⟩;dsimp only;have Nu:=aa (KQ Nt.out bT.out.ay hg2);have bP:=aa (bT.out.trans hg2);clear hg2 Qh Nt;go_wp2_with fail;refine (AE.out _ bP.out).mono ?_;rintro _ w3 ⟨rfl,hg3⟩;dsimp only;have Cv:=aa (KQ Nu.out bP.out.ay hg3);have gq:=aa (bP.out.trans hg3);clear hg3 AE Nu;go_wp2_with fail;refine (Qi.out _ gq.out).mono ?_;rintro _ w4 ⟨rfl,hg4⟩;dsimp only;have Nv:=aa (KQ Cv.out gq.out.ay hg4);have jW:=aa (gq.out.trans hg4);clear hg4 Qi Cv;have hlT:pX=⟨#[123,34,118,101,114,115,105,111,110,34,58,49,125]⟩:=rfl;rw [hlT];have HPA:=aa (QnY ET w4 Vm);clear hlT;go_wp2_with fail;refine (HPA.out).mono ?_;rintro e5 w5 ⟨bI,v5,IV⟩;obtain ⟨o5,c5,rfl,Ic⟩ : ∃ o5 c5,e5 = .returned (.tuple #[.slice o5 q c5,.int .i64 0,.int .i64 0])/\w5.ownsRow w4.heap.size 83 3 (.slice o5 q c5) q ((A.tg.map TE.tg).flatMap Tg.cells):=by
  rcases IV with ⟨es,c,hr,rfl,hrow,_⟩|⟨p,hr,_⟩
  ·rw [zX.out] at hr;injection hr with hr _
   subst hr;rw [EU.out,List.length_map,<- Qj.out] at hrow;obtain ⟨o,c,rfl⟩:=jG hrow;exact ⟨o,c,rfl,hrow⟩
  ·rw [zX.out] at hr
   cases hr
 have Nw:=aa Ic;dsimp only;have dR:aC s s w w5:=jW.out.trans (aC.refl jW.out.ay bI);have Qk:(A.tg.map TE.tg).length=q:=by rw [List.length_map,Qj.out]
 have xq:=aa (Qjh o5 c5 (A.tg.map TE.tg) w5 (Vl Ic Qk) (Qq3 xm.out) ((H.out.dk.go dR).gl.tab));rw [HTP.out,LR.out,Qk] at xq;have gI:=aa dR;have Bi:=aa (gA Nv.out bI);have Ql:=aa Qk;clear bI IV dR HPA Nv Ic zX EU Qk;have d3:decide (((n:Nat):Int)<3)=false:=decide_eq_false (by have:=DO.out;omega);go_wp2_with fail;refine (xq.out).mono ?_;rintro _ w6 ⟨rfl,ig⟩;dsimp only;have lG:=aa (gI.out.trans (aC.refl gI.out.ay ig));have Ie:=aa (gA Bi.out ig);have Ig:=aa (gA Nw.out ig);clear ig xq Bi Nw HTP LR;go_wp2_with fail;clear d3
 go_loopw [16] (fun iv w'=>∃ j:Nat,j<=m/\iv = .int .i64 ((j:Nat):Int)/\aC s s w w'/\w'.ownsRow w.heap.size 9 1 (.slice so n sc) n (pW s.R.now)/\w'.ownsRow w4.heap.size 83 3 (.slice o5 q c5) q ((A.tg.map TE.tg).flatMap Tg.cells)) (fun iv _=>m - (intOf iv).toNat)
 case atStart=>exact ⟨0,Nat.zero_le _,rfl,lG.out,Ie.out,Ig.out⟩
 case round =>
  obtain ⟨j,hj,rfl,hgo,kF,hrt⟩:=hrel;have Qm:=aa hrt;have cQ:=aa hgo;have eE:=aa kF
  by_cases hlt:j<m
  ·have eN:j<A.cs.length:=by rw [<- HME.out];exact hlt
   have ly:j<s.R.now.length:=by rw [<- F7.out];have:=DO.out;omega
   have hpj:=H.out.path eN;have Dq:A.cs[j]'eN∈A.cs:=List.getElem_mem eN;have hbz:=xm.out.sz _ Dq;have HEF:=aa (Qm4 xm.out Dq);have zY:=aa (HRC.out _ Dq wr hgo);have HCE:=aa (show ∀ W:World,W.ownsRow w.heap.size 9 1 (.slice so n sc) n (pW s.R.now)->∃ g,so=some ⟨g,0,none⟩/\W.cell? ⟨g,j,none⟩=some (.string (kC (A.cs[j]'eN))) from fun W hW=>by
    have hW2:W.ownsRow w.heap.size 9 1 (.slice so n sc) s.R.now.length (pW s.R.now):=by rw [<- F7.out];exact hW
    obtain ⟨o2,pk,e2,iR⟩:=Jk hW2;obtain ⟨g,rfl,hc⟩:=iR j ly;injection e2 with e2 _ _
    rw [hpj] at hc;exact ⟨g,e2,hc⟩)
   obtain ⟨u70,u6,uT, -⟩:=QlX (A.cs[j]'eN);have Nx:=aa (fun (W:World) (hg:Gl W)=>Rs (A.cs[j]'eN) W hbz hg);generalize A.cs[j]'eN=bb at *;generalize kC bb=P at *;generalize dr bb=T at *;obtain ⟨g,rfl,r0⟩:=HCE.out wr kF;have pY:j<n:=by have:=DO.out;omega
   have d1:decide (((j:Nat):Int)<((n:Nat):Int) - 3)=true:=decide_eq_true (by have:=DO.out;omega);clear hgo kF hrt lG Ie Ig hpj Dq eN ly;go_wp2_with fail;refine (zY.out).mono ?_;rintro _ w7 ⟨rfl,k6⟩;dsimp only;have kn:=aa (cQ.out.trans k6);have Ih:=aa (KQ eE.out cQ.out.ay k6);have C5:=aa (QlY Qm.out cQ.out.ay k6);clear k6 zY eE Qm r0;obtain ⟨g',e',r7⟩:=HCE.out w7 Ih.out;injection e' with e'
   injection e' with e'
   subst e';have Ny:=(H.out.dk.go kn.out).gl;have Nz:=aa (Nx.out w7.drew (Ny.later (Below.refl w7.heap.size w7).drew));have bA:w7.drew.cell? ⟨g,j,none⟩=some (.string P):=cell_later (Below.refl w7.heap.size w7).drew r7;clear Ny Nx;go_wp2_with fail
   go_region_held3 (fun w'=>w'.cell? ⟨g,j,none⟩=some (.string P)) (first|exact bA|exact eb|go_keep) ((go_at_call 35;refine (Nz.out).mono ?_;rintro _ w8 ⟨rfl,gR⟩;have A8:Below w7.heap.size w7 w8:=((Below.refl w7.heap.size w7).drew).trans gR;have eb:=cell_later A8 r7))
   have r8:=cell_later A8 r7;have oH:=aa (kn.out.trans (aC.refl kn.out.ay A8));have Vn:=aa (gA Ih.out A8);have NA:=aa (gA C5.out A8);have UD:=aa (Qo2 o5 c5 q (A.tg.map TE.tg) T (bb.size:Int) w8 Ql.out (by omega) (Vl NA.out Ql.out) (by rw [Qj.out];exact HEF.out));clear gR A8 bA eb r7 Nz Ih C5 kn;go_wp2_with fail;refine (UD.out).mono ?_;rintro _ w9 ⟨rfl,C6⟩;dsimp only;have Ti:=aa (oH.out.trans (aC.refl oH.out.ay C6));have Vo:=aa (gA Vn.out C6);have Vp:=aa (gA NA.out C6);clear C6 UD r8;go_wp2_with fail;exact ⟨⟨j+1,by omega,by simp,Ti.out,Vo.out,Vp.out⟩,by simp only [intOf];omega⟩
  ·clear hgo kF hrt eE lG Ie Ig;have d1:decide (((j:Nat):Int)<((n:Nat):Int) - 3)=false:=decide_eq_false (by have:=DO.out;omega);go_wp2_with fail
   go_loopw [21] (fun iv w'=>∃ k:Nat,k<=q/\iv = .int .i64 ((k:Nat):Int)/\aC s s w w'/\w'.ownsRow w4.heap.size 83 3 (.slice o5 q c5) q ((A.tg.map TE.tg).flatMap Tg.cells)) (fun iv _=>q - (intOf iv).toNat)
   case atStart=>exact ⟨0,Nat.zero_le _,rfl,cQ.out,Qm.out⟩
   case round =>
    obtain ⟨k,hk,rfl,hgo,hrt⟩:=hrel;have fq:=aa hgo;have Vq:=aa hrt;clear cQ Qm d1
    by_cases hkq:k<q
    ·obtain ⟨bb,Dq,uL⟩:=Qq2 xm.out (show k<A.tg.length by rw [<- Qj.out];exact hkq);obtain ⟨b1,o1,rfl,x1⟩:=Vl hrt Ql.out k (by rw [Ql.out];exact hkq);have c2:=x1 1 _ rfl;rw [uL] at c2;have zY:=aa (HRC.out bb Dq _ hgo);obtain ⟨-, -, -,aaB⟩:=QlX bb;have hz:=Nat.le_of_eq (show (dr bb).size=64 from GZ _);generalize kC bb=P at *;generalize dr bb=T at *;have q6:¬ 9223372036854775807<6+T.size:=by omega
     have d2:decide (((k:Nat):Int)<((q:Nat):Int))=true:=decide_eq_true (by omega);clear hgo hrt x1 uL Dq;go_wp2_with fail;refine (zY.out).mono ?_;rintro _ w7 ⟨rfl,k6⟩;dsimp only;have kn:=aa (fq.out.trans k6);have C5:=aa (QlY Vq.out fq.out.ay k6);clear k6 zY c2;go_wp2_with fail;exact ⟨⟨k+1,by omega,by simp,kn.out,C5.out⟩,by simp only [intOf];omega⟩
    ·have d2:decide (((k:Nat):Int)<((q:Nat):Int))=false:=decide_eq_false (by omega);clear hgo hrt;go_wp2_with fail;go_ret;exact ⟨rfl,fq.out⟩
end Go.Proofs.YtncigfibncmioaaGreatDoor
namespace Go.Proofs.YtncigfibncmioaaGreatDoor
open Go.RowKit
theorem QsY {A:aN} {b:ByteArray} (hb:b.size<=300):jz (b8 A b)<=300:=by
 cases h:b8 A b with
 | none=>exact Nat.zero_le _
 | some x=>exact (Cq hb x h).2
theorem QoG {A:aN} {l:List TE} {cs:List ByteArray} (g:aG ⟨cs,l⟩):iy A.tg l<=2000:=by
 unfold iy
 split
 ·exact Nat.zero_le _
 ·exact vZ g.tok g.t8
theorem QqD {A:aN} (g:aG A) {n b:ByteArray} (hb:b.size<=300) (hn:n.size<=20) (ht:eP n=true):(pF A n b).need<=2300/\(pF A n b).err≠4:=by
 unfold pF
 cases hm:jZ A n with
 | false=>rw [if_neg (by decide)];exact ⟨Nat.zero_le _,by show (12:Int)≠4;decide⟩
 | true =>
  rw [if_pos rfl];have h1:=QsY (A:=A) hb;have h2:=QoG (A:=A) (g.GU hb hn ht hm);refine ⟨?_,by show (0:Int)≠4;decide⟩;show jz (b8 A b)+iy A.tg (nW A n b)<=2300;omega
theorem QkM (r:Int):(pF A0 tK dN).run r A0=(dr dN,0,A1)∨(pF A0 tK dN).run r A0=(⟨#[]⟩,4,A0):=by
 have hf:=QjH;have h1:=QqD Qux (n:=tK) (b:=dN) (by decide) (by decide) (by decide +kernel);rw [Pl.jy (by rw [GN];omega)] at hf
 by_cases h:(dD A0:Int)+((pF A0 tK dN).need:Int)<=r
 ·exact .inl ((Pl.jy h).trans hf)
 ·exact .inr (Pl.zz (by omega))
theorem Bc.mono {RO RO':DS->Int->DS->Prop} {s:ai} {l:List TE} {cl:List (List Nat)} (h:Bc RO s l cl) (hi:∀ k D',RO s.ds k D'->RO' s.ds k D'):Bc RO' s l cl:=fun sb cb tb W hW=>(h sb cb tb W hW).mono (by
 rintro e w' ⟨ev,k,s',a1,a2,a3,a4,a5,a6⟩;exact ⟨ev,k,s',a1,a2,a3,hi _ _ a4,a5,a6⟩)
theorem kB.mono {n m m':Nat} {A:aN} {r k:Int} {D D':DS} (h:kB n A r m D k D') (hm:m<=m'):kB n A r m' D k D':=⟨h.k0,h.gd,h.ft,fun hf=>(h.fit hf).mono (by omega) (by omega) (Nat.le_refl _)⟩
theorem Qrr {D:DS} {F:List FF} (hv:iQ D=F) (d:List Nat):d∈eK D.R.now ↔ ∃ x∈F,jg x.p=true/\d=ou x.p:=by
 subst hv;unfold eK;rw [Nn D.R.now [] List.Pairwise.nil (fun x hx=>by cases hx)]
 constructor
 ·rintro (h1|⟨e,he,h1,h2⟩)
  ·cases h1
  ·exact ⟨eu D.fd e,List.mem_map_of_mem he,h1,h2⟩
 ·rintro ⟨x,hx,h1,h2⟩;obtain ⟨e,he,rfl⟩:=List.mem_map.1 hx;exact .inr ⟨e,he,h1,h2⟩
theorem N0 {D:DS} {F:List FF} {cs:List ByteArray} {tg:List TE} (hv:iQ D=F) (hF:∀ x,jg x.p=true->(x∈F ↔ x∈fA ⟨cs,tg⟩)):∀ d,d∈eK D.R.now ↔ ∃ b∈cs,d=ak b:=fun d=>by
 rw [Qrr hv]
 constructor
 ·rintro ⟨x,hx,h1,h2⟩;have hm:=(hF x h1).1 hx;unfold fA at hm
  rcases List.mem_append.1 hm with hm|hm
  ·obtain ⟨b,hb,rfl⟩:=List.mem_map.1 hm;exact ⟨b,hb,by rw [h2];exact (rB (jN b)).2⟩
  ·rw [Qo4 hm] at h1
   cases h1
 ·rintro ⟨b,hb,h1⟩;have hd:jg (fC b).p=true:=(rB (jN b)).1;refine ⟨fC b,(hF _ hd).2 ?_,hd,?_⟩
  ·unfold fA;exact List.mem_append.2 (.inl (List.mem_map_of_mem hb))
  ·rw [h1];exact (rB (jN b)).2.symm
theorem N2 {F:List FF} (hr:aq FF.p F) {x y:FF} (hy:jg y.p=false) (hx:jg x.p=true):x∈ag FF.p y F ↔ x∈F:=by
 have hne:x.p≠y.p:=fun e=>by rw [e,hy] at hx;cases hx
 constructor
 ·intro h
  rcases ln h with rfl|h
  ·exact absurd rfl hne
  ·exact h
 ·exact fun h=>CY hr h hne
theorem Qvk:jg p0=false:=by decide +kernel
theorem Qvl:jg p1=false:=by decide +kernel
theorem Qnf:jg cS=false:=by decide +kernel
theorem Qng:jg bo=false:=by decide +kernel
theorem Qr4:∀ (l:List DE) (c:List (List Nat)),(l.foldl (fun c e=>if jg e.path then ag dK (ou e.path) c else c) c).length<=c.length+l.length
 | [],c=>Nat.le_refl _
 | e::l,c=>by
  rw [List.foldl_cons];have h1:=Qr4 l (if jg e.path then ag dK (ou e.path) c else c);have h2:(if jg e.path then ag dK (ou e.path) c else c).length<=c.length+1:=by
   split
   ·exact AP _ _
   ·omega
  rw [List.length_cons];omega
theorem QtN (l:List DE):(eK l).length<=l.length:=by
 have:=Qr4 l [];rw [List.length_nil,Nat.zero_add] at this;exact this
theorem QfV {α:Type} {key:α->ByteArray} {t:α}:∀ {l:List α},(∀ e∈l,key e≠key t)->(ag key t l).length=l.length+1
 | [],_=>rfl
 | e::l,h=>by
  have h1:=h e (by simp);unfold ag;rw [if_neg h1]
  split
  ·rfl
  ·rw [List.length_cons,QfV (fun x hx=>h x (by simp [hx])),List.length_cons]
theorem QY (cs:List ByteArray) (tg:List TE):(lH cs tg).length=cs.length+3:=by
 have h1:aB FF.p bo (fA ⟨cs,tg⟩)=cs.map fC ++ [ff bB (aL tg),ff bK pX]:=by
  unfold aB fA;rw [List.filter_append];congr 1;refine List.filter_eq_self.2 fun x hx=>?_
  obtain ⟨b,_,rfl⟩:=List.mem_map.1 hx;have:¬ (fC b).p=bo:=Pr b;simp [this]
 unfold lH;rw [QfV (t:=ff cS ⟨#[]⟩) (fun e he=>?_),h1,List.length_append,List.length_map]
 ·rfl
 ·have hm:=(jA.1 he).1;exact tL (AQ ⟨cs,tg⟩) e hm
theorem ID {F:List FF} (hr:aq FF.p F) {x:FF} {p:ByteArray} (hp:p≠x.p):aQ FF.p p (ag FF.p x F)=aQ FF.p p F:=by rw [fw _ _ hr,if_neg hp]
theorem find_eq {F:List FF} (hr:aq FF.p F) (x:FF):aQ FF.p x.p (ag FF.p x F)=some x:=by rw [fw _ _ hr,if_pos rfl]
section
variable {n:Nat} {s:ai} {A:aN} {F:List FF} {r:Int}
theorem Qr5 {D:DS} {t:ByteArray} (g:aG A) (hv:iQ D=ag FF.p (ff p0 t) (fA A)):JS D A.tg:=by
 have nA:=pG g.rise;obtain ⟨c,hc⟩:=Ia g;have hf:∀ p,p≠p0->aQ FF.p p (ag FF.p (ff p0 t) (fA A))=aQ FF.p p (fA A):=fun p hp=>ID (x:=ff p0 t) nA hp
 refine ⟨⟨aL A.tg,c,?_,vZ g.tok g.t8,hc⟩,g.tok,g.tr,g.t8,?_,?_,?_⟩
 ·rw [j3 hv uW,hf _ (by decide),JR];rfl
 ·rw [vB,j3 hv pM,hf _ (by decide),xj];rfl
 ·rw [j3 hv (by decide),hf _ (by decide),AQ];rfl
 ·rw [j3 hv (by decide),hf _ (by decide),EN];rfl
theorem Qr6 {D:DS} {t u:ByteArray} (g:aG A) (hv:iQ D=ag FF.p (ff p1 u) (ag FF.p (ff p0 t) (fA A))):We D A.tg:=by
 have nA:=pG g.rise;have r1:=eA (key:=FF.p) (ff p0 t) nA;obtain ⟨c,hc⟩:=Ia g;have hf:∀ p,p≠p0->p≠p1->aQ FF.p p (ag FF.p (ff p1 u) (ag FF.p (ff p0 t) (fA A)))=aQ FF.p p (fA A):=fun p h0 h1=>(ID (x:=ff p1 u) r1 h1).trans (ID (x:=ff p0 t) nA h0)
 refine ⟨⟨aL A.tg,c,?_,vZ g.tok g.t8,hc⟩,g.tok,g.tr,g.t8,?_,?_,?_,?_⟩
 ·rw [j3 hv uW,hf _ (by decide) (by decide),JR];rfl
 ·rw [vB,j3 hv pM,show aQ FF.p p1 (ag FF.p (ff p1 u) (ag FF.p (ff p0 t) (fA A)))=some (ff p1 u) from find_eq r1 (ff p1 u)];rfl
 ·rw [BJ,j3 hv kA,ID (x:=ff p1 u) (p:=p0) r1 (by show p0≠p1;decide),show aQ FF.p p0 (ag FF.p (ff p0 t) (fA A))=some (ff p0 t) from find_eq nA (ff p0 t)];rfl
 ·rw [j3 hv (by decide),hf _ (by decide) (by decide),AQ];rfl
 ·rw [j3 hv (by decide),hf _ (by decide) (by decide),EN];rfl
theorem Qr7 {D:DS} {l:List TE} (g:aG A) (hv:iQ D=ag FF.p (ff p1 (aL A.tg)) (fA ⟨A.cs,l⟩)):Wf D A.tg:=by
 have nA:=pG (A:=⟨A.cs,l⟩) g.rise;obtain ⟨c,hc⟩:=Ia g;have hf:∀ p,p≠p1->aQ FF.p p (ag FF.p (ff p1 (aL A.tg)) (fA ⟨A.cs,l⟩))=aQ FF.p p (fA ⟨A.cs,l⟩):=fun p h1=>ID (x:=ff p1 (aL A.tg)) nA h1
 refine ⟨⟨aL A.tg,c,?_,vZ g.tok g.t8,hc⟩,g.tok,g.tr,g.t8,?_,?_,?_⟩
 ·rw [vB,j3 hv pM,show aQ FF.p p1 (ag FF.p (ff p1 (aL A.tg)) (fA ⟨A.cs,l⟩))=some (ff p1 (aL A.tg)) from find_eq nA (ff p1 (aL A.tg))];rfl
 ·rw [BJ,j3 hv kA,hf _ (by decide),uV];rfl
 ·rw [j3 hv (by decide),hf _ (by decide),AQ];rfl
 ·rw [j3 hv (by decide),hf _ (by decide),EN];rfl
theorem Qr8 {D:DS} {cs:List ByteArray} (g:aG A) (h1:aq kC cs) (hv:iQ D=lH cs A.tg):Wj D A.tg:=by
 have nA:=JY (tg:=A.tg) h1;obtain ⟨c,hc⟩:=Ia g;have hf:∀ p,p≠cS->p≠bo->aQ FF.p p (lH cs A.tg)=aQ FF.p p (fA ⟨cs,A.tg⟩):=fun p h0 h1=>by
  unfold lH;rw [ID (x:=ff cS ⟨#[]⟩) nA h0,qX,if_neg h1]
 refine ⟨⟨aL A.tg,c,?_,vZ g.tok g.t8,hc⟩,g.tok,g.tr,g.t8,?_,?_,?_⟩
 ·rw [j3 hv uW,hf _ (by decide) (by decide),JR];rfl
 ·rw [vB,j3 hv pM,hf _ (by decide) (by decide),xj];rfl
 ·rw [j3 hv (by decide),show aQ FF.p cS (lH cs A.tg)=some (ff cS ⟨#[]⟩) from find_eq nA (ff cS ⟨#[]⟩)];rfl
 ·rw [j3 hv (by decide),hf _ (by decide) (by decide),EN];rfl
theorem Sh.lay {D:DS} (hs:Sh n A F) (g:aG A) (hv:iQ D=F):(cr D bK).isSome=true:=by
 cases hs with
 | rest=>rw [j3 hv (by decide),EN];rfl
 | one t=>exact (Qr5 g hv).lay
 | two t u=>exact (Qr6 g hv).lay
 | Aa l=>exact (Qr7 g hv).lay
 | Bb cs h1 h2 h3=>exact (Qr8 g h1 hv).lay
def IE (L:Nat) (F:List FF):Prop:=aQ FF.p cS F=none/\(∀ x∈F,aK x.p=true)/\F.length<=L
theorem QtO {p:ByteArray} (h:aK p=true):p.size<=9223372036854775807:=Nat.le_trans (JO h) (by decide)
theorem Wt {D:DS} (hv:iQ D=F) (hp:∀ x∈F,aK x.p=true):∀ e∈D.R.now,e.path.size<=9223372036854775807:=fun e he=>by
 subst hv;exact QtO (hp (eu D.fd e) (List.mem_map_of_mem he))
theorem QT {D:DS} (hv:iQ D=F):D.R.now.length=F.length:=by
 subst hv;unfold iQ;rw [List.length_map]
theorem Wd {C:Nat} (hs:Sh n A F) (hr:dY (aH s.ds) F r 2000) (g:aG A) (hl:A.cs.length<=n) (hn:n<=300000) (hf:au s.ds (n+5) C 2000) (hC:C<=90000000000):∃ cl,Bc (kB n A r (F.length+3)) s A.tg cl/\(∀ d∈cl,gz d)/\∀ d,d∈cl ↔ ∃ b∈A.cs,d=ak b:=by
 have hv:iQ s.ds=F:=hr.wh.vw;have fJ:∀ e∈s.R.now,e.path.size<=9223372036854775807:=Wt hv hs.path;have kP:s.R.now.length=F.length:=QT hv;have R5:=hs.len hl;have nA:=pG g.rise;have IG:cZ (n+5+s.R.now.length+20) (C+s.R.now.length+20) (2000+36):=⟨by omega,by omega,by omega⟩
 cases hs with
 | rest =>
  refine ⟨eK s.R.now,(Qmd ?_ hf IG fJ).mono (fun k D' h=>(Ws (n:=n) (.inl rfl) hr g.rise h).mono (by omega)),Hz,N0 (tg:=A.tg) hv (fun x _=>Iff.rfl)⟩;obtain ⟨c,hc⟩:=Ia g;refine ⟨⟨aL A.tg,c,?_,vZ g.tok g.t8,hc⟩,g.tok,g.tr,g.t8,?_,?_,?_⟩
  ·rw [j3 hv uW,JR];rfl
  ·rw [vB,j3 hv pM,xj];rfl
  ·rw [j3 hv (by decide),AQ];rfl
  ·rw [j3 hv (by decide),EN];rfl
 | one t=>exact ⟨eK s.R.now,(Qmd (Qr5 g hv) hf IG fJ).mono (fun k D' h=>(Ws (n:=n) (.inr (.inl ⟨t,rfl⟩)) hr g.rise h).mono (by omega)),Hz,N0 (tg:=A.tg) hv (fun x hx=>N2 (y:=ff p0 t) nA Qvk hx)⟩
 | two t u =>
  have r1:=eA (key:=FF.p) (ff p0 t) nA;exact ⟨eK s.R.now,(QtH (Qr6 g hv) hf IG fJ).mono (fun k D' h=>(Ws (n:=n) (.inr (.inr ⟨t,u,rfl⟩)) hr g.rise h).mono (by omega)),Hz,N0 (tg:=A.tg) hv (fun x hx=>(N2 (y:=ff p1 u) r1 Qvl hx).trans (N2 (y:=ff p0 t) nA Qvk hx))⟩
 | Aa l =>
  have hrB:=pG (A:=⟨A.cs,l⟩) g.rise;have hgo:=QtI (s:=s) (Qr7 g hv) (fun k D1 h1=>?_) hf (show cZ _ _ _ from ⟨by omega,by omega,by omega⟩)
  ·rw [vB] at hgo;exact ⟨eK s.R.now,hgo.mono (fun k D' h=>(QtL (n:=n) hr g.rise h).mono (by omega)),Hz,N0 (tg:=l) hv (fun x hx=>N2 (y:=ff p1 (aL A.tg)) hrB Qvl hx)⟩
  ·rw [vB] at h1;have h2:fK s.ds (gv p1 bB) k D1:=h1;have q1:IE (ag FF.p (ff p1 (aL A.tg)) (fA ⟨A.cs,l⟩)).length (ag FF.p (ff p1 (aL A.tg)) (fA ⟨A.cs,l⟩)):=⟨by rw [ID (x:=ff p1 (aL A.tg)) (p:=cS) hrB (by show cS≠p1;decide)];exact AQ _,Sh.path (n:=n) (.Aa l),Nat.le_refl _⟩;have q2:IE (ag FF.p (ff p1 (aL A.tg)) (fA ⟨A.cs,l⟩)).length (fA A):=⟨AQ A,fun x hx=>E0 hx,by
    have h9:(fA A).length=(fA ⟨A.cs,l⟩).length:=by rw [xn,xn]
    rw [h9,Wn (x:=ff p1 (aL A.tg)) (fun _ he=>(Wo he).2),List.length_cons];omega⟩
   obtain ⟨_,hc⟩:=QS QX.1 QX.2 hr.wh (hr.hi q1) ⟨q1,fA A,Qr3 g.rise,q2,rfl⟩ (bM.one h2);have hgd:∃ G,iQ D1=G/\IE (ag FF.p (ff p1 (aL A.tg)) (fA ⟨A.cs,l⟩)).length G:=by
    rcases hc with ⟨_,_,G,hw,hp⟩|⟨hw,_,hp⟩
    ·exact ⟨G,hw.vw,hp⟩
    ·exact ⟨_,hw.vw,hp⟩
   obtain ⟨G,J3,Wu,MB,hG3⟩:=hgd;exact ⟨by rw [j3 J3 (by decide),Wu];rfl,Wt J3 MB,by rw [QT J3];show _<=s.R.now.length;omega⟩
 | Bb cs h1 h2 h3 =>
  have uO:=QY cs A.tg;have hpf:lH cs A.tg=ag FF.p (ff cS ⟨#[]⟩) (aB FF.p bo (fA ⟨cs,A.tg⟩)):=rfl;rw [<- hpf] at hv hr kP R5 ⊢;have hct:∀ d,d∈eK s.R.now ↔ ∃ b∈cs,d=ak b:=N0 (tg:=A.tg) hv (fun x hx=>by
   refine (N2 (y:=ff cS ⟨#[]⟩) (JY h1) Qnf hx).trans ⟨fun h=>(jA.1 h).1,fun h=>jA.2 ⟨h,fun e=>?_⟩⟩;rw [e,Qng] at hx
   cases hx)
  obtain ⟨u1,u2,u3⟩:=V6 (tg:=A.tg) h1;have hfA:(⟨cs.filter (fun b=>bD (ak b) A.tg),A.tg⟩ : aN)=A:=by rw [<- h3]
  have hq:=QtJ (s:=s) (cs.map nz) (Qr8 g h1 hv) (Me (A:=⟨cs,A.tg⟩) h1) (fun x=>by rw [hct];exact AL (A:=⟨cs,A.tg⟩)) (by rw [List.length_map];omega) (by have:=QtN s.R.now;omega) (fun k m D1 oX=>?_) hf (show cZ _ _ _ from ⟨by omega,by omega,by omega⟩) _ (TV _ _)
  ·refine ⟨_,hq.mono (fun k D' h=>(QtM (n:=n) hr h1 h2 h3 h).mono (by omega)),fun d hd=>Hz d ((Mk _ _).1 hd).1,fun d=>?_⟩;rw [Mk,hct,h3]
   constructor
   ·rintro ⟨⟨x,hx,e⟩,hne⟩;refine ⟨x,List.mem_filter.2 ⟨hx,?_⟩,e⟩
    cases ht:bD (ak x) A.tg with
    | true=>rfl
    | false =>
     obtain ⟨u,hu,e2⟩:=u3 x hx ht;exact absurd (by rw [e,e2]) (hne u hu)
   ·rintro ⟨x,hx,e⟩;obtain ⟨x1,x2⟩:=List.mem_filter.1 hx;refine ⟨⟨x,x1,e⟩,fun u hu e2=>?_⟩;have h4:d=u.1:=GS (by rw [e];exact jN x) u.2 e2;have h5:=(u2 u hu).1;rw [<- h4,e,x2] at h5
    cases h5
  ·obtain ⟨o1,o2⟩:=V7 (dp A.tg (cs.map nz));have hP:∀ cs',aq kC cs'->cs'.length<=cs.length->(∀ x∈lH cs' A.tg,aK x.p=true)/\(lH cs' A.tg).length<=(lH cs A.tg).length:=fun cs' _ hl'=>⟨fun x hx=>by
    rcases ln hx with rfl|hx
    ·show aK cS=true;decide
    ·exact E0 (jA.1 hx).1,by rw [QY,QY];omega⟩
   have hch:=QP (P:=fun G=>(∀ x∈G,aK x.p=true)/\G.length<=(lH cs A.tg).length) (r:=r) (B:=2000) (tg:=A.tg) (dp A.tg (cs.map nz)) cs h1 (fun cs' a1 a2 _=>hP cs' a1 a2) ⟨fun x hx=>E0 hx,by
    rw [xn,QY];have:(cs.filter (fun b=>bD (ak b) A.tg)).length<=cs.length:=List.length_filter_le _ _;exact Nat.add_le_add_right this 3⟩ u1 u2 u3
   obtain ⟨_,hc⟩:=QS o1 o2 hr.wh (hr.hi (hP cs h1 (Nat.le_refl _))) hch oX;have hgd:∃ G,iQ D1=G/\(∀ x∈G,aK x.p=true)/\G.length<=(lH cs A.tg).length:=by
    rcases hc with ⟨_,_,G,hw,hp⟩|⟨hw,_,hp⟩
    ·exact ⟨G,hw.vw,hp⟩
    ·exact ⟨_,hw.vw,hp⟩
   obtain ⟨G,J3,Wu,MB⟩:=hgd;exact ⟨Wt J3 Wu,by rw [QT J3];show _<=s.R.now.length;omega⟩
end
theorem SA.TS {w w':World} {db xb sb cb:Nat} {s:ai} {tb:Nat} {cl:List (List Nat)} {A:aN} {r:Int} {n cu:Nat} {s2 GL:ai}
  (h:SA w db xb sb cb s tb cl A r n cu) (h2:s2.In w) (hl2:fN s2) (hg:aC s2 GL w w') (ha:∀ k,oJ s xb sb cb tb k->¬ s2.own k):SA w' db xb sb cb s tb cl A r n cu:=by
 have hb:∀ k,oJ s xb sb cb tb k->k<w.heap.size->w'.heap[k]? = w.heap[k]?:=fun k hk hl=>hg.gr.block k hl (ha k hk)
 have cJ:s.In w':=h.sw.ay.same (fun k hk=>hb k (.inl hk) (h.sw.ay.lt hk));have cX:Gl w':=(h.sw.gl.go hl2 hg).1;refine ⟨(hb xb (.inr (.inl (.inl rfl))) (ax h.st)).trans h.st,h.hG,⟨cJ,cX,h.sw.low,(hb sb (.inr (.inl (.inr (.inl rfl)))) (ax h.sw.blk)).trans h.sw.blk,jP h.sw.cm (hb cb (.inr (.inl (.inr (.inr rfl)))) h.sw.cm.lt),jP h.sw.tm (hb tb (.inr (.inr rfl)) h.sw.tm.lt),h.sw.sk,h.sw.sq,h.sw.rJ,h.sw.vq,h.sw.rK,h.sw.ne⟩,?_,h.ok,h.mem,h.len,h.ft,h.c0,h.c1,h.good,h.use,h.r0,h.r1⟩;exact hg.keeps h2 h.bd (by decide) (by decide) (by decide) (by decide)
theorem QrN {w:World} {d:Nat} {s:ai} {A:aN} {r:Int} {n cu:Nat} (h:DQ w d s A r n cu) (hn:n<=300000) :
  Calls Tryz.prog 14 #[.pointer (some ⟨d,0,none⟩)] w fun e w'=>e = .returned (.string (hF (fA A)))/\aC s s w w':=by
 have Po:s.ds.R.now.map (eu s.ds.fd)=fA A:=h.rq.vw;have bc:∀ e∈s.R.now,eu s.fd e∈fA A:=fun e he=>by rw [<- Po];exact List.mem_map_of_mem he
 have hlen:s.R.now.length<=1000000:=by
  have:=h.GM;have:=h.len;omega
 refine (Qou s d w h.dk hlen (fun e he=>Qov (bc e he)) h.rq.ft.wh.oK (fun e he=>QlE h.good (bc e he))).mono ?_;rintro e w' ⟨rfl,hg⟩;refine ⟨?_,hg⟩;have h2:hT s.fd s.R.now=hF (fA A):=by
  have:=QvC s.ds;rw [show iQ s.ds=fA A from Po] at this;exact this
 rw [h2]
end Go.Proofs.YtncigfibncmioaaGreatDoor
namespace Go.Proofs.YtncigfibncmioaaGreatDoor
open Go.RowKit
theorem QfW (w:World) (hg:Gl w) (r:Int) (gL:0<=r) (hr1:r<=1099511627776) :
  Calls Tryz.prog 28 #[.int .i64 r] w fun e w'=>Below w.heap.size w w'/\((e = .returned (.tuple #[.pointer none,.pointer none,.bool true])/\r≠1099511627776)∨∃ d xb sb cb s tb cl,e = .returned (.tuple #[.pointer (some ⟨d,0,none⟩),.pointer (some ⟨xb,0,none⟩),.bool false])/\SA w' d xb sb cb s tb cl A1 r 3 92/\∀ k,oJ s xb sb cb tb k->w.heap.size<=k):=by
 have Wy:=aa (QsR r w hg gL (by omega));have Du:=aa hg;clear hg;go_enter Tryz.func28,Tryz.ntmps28;go_wp2_with fail;refine (Wy.out).mono ?_;rintro _ w1 ⟨d,so,rfl,hb1,hld,iz,hown,her,lr,rD,hroom,fR⟩;dsimp only
 by_cases Wz:r<36
 ·have jn:=aa (QkL so w1 d iz.ay iz.gl iz.low (by unfold cr;rw [fR];rfl) (by rw [hroom];exact Wz) iz.bd);have br:=aa hb1;have HOW:=aa hown;have Ae:w.heap.size<=w1.heap.size:=hb1.size;clear hb1 iz hown her lr rD hroom fR Wy;go_wp2_with fail;refine (jn.out).mono ?_;rintro _ w2 ⟨rfl,s3,hg3,nR⟩;dsimp only;have cL:=aa (br.out.trans (hg3.low (N:=w.heap.size) HOW.out Ae));clear hg3 nR jn br;go_wp2_with fail;refine bodyPost_ret (results_tmp3 rfl _ _ _) rfl ?_;exact ⟨cL.out,.inl ⟨rfl,by omega⟩⟩
 have kP:so.R.now.length<=6:=lr.cz;have jn:=aa (Qpe so w1 d iz.ay iz.gl iz.low lr (show cZ _ _ _ from ⟨by omega,by omega,by omega⟩) her.paths (by unfold cr;rw [fR];rfl) iz.bd);have br:=aa hb1;have HDK:=aa iz;have HOW:=aa hown;have wJ:=aa her;have HFI:=aa lr;have HLE:=aa rD;have gm:=aa (show so.ds.R.room=r from hroom);have Ae:w.heap.size<=w1.heap.size:=hb1.size;clear hb1 iz hown her lr rD hroom fR kP Wy;go_wp2_with fail;refine (jn.out).mono ?_;rintro _ w2 ⟨k,s3,sv,rfl,hg3,IH,aF,hno⟩;dsimp only;obtain ⟨rfl,WA,ea3,r3⟩:=YX wJ.out (by rw [gm.out];omega) IH;have Dh:=Qp0 wJ.out (by rw [gm.out];omega) HFI.out IH;obtain ⟨xb,sb,cb,tb,rfl,wC,aaD,aaE,hst⟩:=aF rfl;have hGx:¬ gj xb:=fun e=>by have:=Du.out.lt e;omega
 have Ah:s3.ds.R.room=r:=by rw [WA.1,gm.out]
 have xO:BD w2 d s3.b:=(HDK.out.go hg3).bd;have tU:SA w2 d xb sb cb s3 tb [] A0 r 2 70:=⟨wC,hGx,hst,xO,fun d hd=>(by cases hd),fun d=>⟨fun h=>(by cases h),fun ⟨b,hb,_⟩=>(by cases hb)⟩,Nat.zero_le _,Qoq (r3 HLE.out) (WA.2 HLE.out) Ah Dh,Dh.c0,by have:=Dh.c1;omega,Qux,by rw [GN];omega,gL,by omega⟩;have cL:=aa (br.out.trans (hg3.low (N:=w.heap.size) HOW.out Ae));have MC:∀ k,s3.own k∨sS xb sb cb k->w.heap.size<=k:=fun k hk=>by
  rcases hk with e|e|e|e
  ·exact hg3.qx HOW.out Ae k e
  ·omega
  ·omega
  ·omega
 have CN:=aa MC;have j5:=aa (Quz tU (by decide) (by decide) tK dN (by decide) (by decide +kernel) (by decide));have De:w.heap.size<=w2.heap.size:=Nat.le_trans Ae hg3.gr.size;have aaF:w.heap.size<=tb:=by omega
 clear IH WA ea3 r3 Dh aF hno hst wC hg3 jn Ah MC xO tU
 rcases QkM r with hrun|hrun
 rotate_left
 ·have hne:r≠1099511627776:=fun e=>by
   rw [e,QjH] at hrun;have h9:=congrArg (fun x=>x.2.1) hrun;exact absurd h9 (by decide)
  rw [hrun] at j5;have Ai:Hid (Calls Tryz.prog 25 #[.pointer (some ⟨xb,0,none⟩),.string ⟨#[108,97,116,101,115,116]⟩,.string ⟨#[97,98,99]⟩] w2 fun e w'=>e = .returned (.tuple #[.string ⟨#[]⟩,.int .i64 4])/\mP w2 w' d xb sb cb s3 tb A0 r 3 92):=j5;clear j5 hrun;go_wp2_with fail;refine (Ai.out).mono ?_;rintro _ w4 ⟨rfl,s4,JW,QB,hg4,Df,rL⟩;dsimp only;have kI:=aa (cL.out.trans (hg4.jO CN.out De));clear hg4 Df rL Ai cL;go_wp2_with fail;refine bodyPost_ret (results_tmp3 rfl _ _ _) rfl ?_;exact ⟨kI.out,.inl ⟨rfl,hne⟩⟩
 rw [hrun] at j5;have Ai:Hid (Calls Tryz.prog 25 #[.pointer (some ⟨xb,0,none⟩),.string ⟨#[108,97,116,101,115,116]⟩,.string ⟨#[97,98,99]⟩] w2 fun e w'=>e = .returned (.tuple #[.string qw,.int .i64 0])/\mP w2 w' d xb sb cb s3 tb A1 r 3 92):=aa (by rw [<- QrP];exact j5.out);clear j5 hrun;go_wp2_with fail;refine (Ai.out).mono ?_;rintro _ w4 ⟨rfl,s4,JW,QB,hg4,Df,rL⟩;dsimp only;have kI:=aa (cL.out.trans (hg4.jO CN.out De));have jS:=aa (show ∀ k,oJ s4 xb sb cb JW k->w.heap.size<=k from fun k hk=>by
  rcases hk with e|e|e
  ·rcases hg4.own k e with e|e
   ·exact CN.out k (.inl e)
   ·omega
  ·exact CN.out k (.inr e)
  ·rcases Df with Df|Df<;>omega)
 have wG:=aa (Quu rL (b:=dN) (c:=dN) (lD rL.good.rise (by simp [A1])));rw [QrP] at wG;have II:Hid (Calls Tryz.prog 34 #[.pointer (some ⟨xb,0,none⟩),.string qw] w4 fun e w'=>e = .returned (.tuple #[.string ⟨#[97,98,99]⟩,.int .i64 0])/\ar (sS xb sb cb) s4 s4 w4 w'/\SA w' d xb sb cb s4 JW QB A1 r 3 92):=wG;have hN4:w.heap.size<=w4.heap.size:=Nat.le_trans De hg4.gr.size;have hfr:=jS.out;clear hg4 Df rL Ai wG hfr;unfold qw at II ⊢;go_wp2_with fail;refine (II.out).mono ?_;rintro _ w5 ⟨rfl,dR,hs5⟩;dsimp only;have Ds:=aa (QrO hs5);have lN:=aa (kI.out.trans (dR.jO (fun k hk=>jS.out k (hk.elim .inl (fun e=>.inr (.inl e)))) hN4));have NM:w.heap.size<=w5.heap.size:=Nat.le_trans hN4 dR.gr.size;clear dR hs5 II kI;go_wp2_with fail;refine (Ds.out).mono ?_;rintro _ w6 ⟨v6,rfl,ko,bQ,B7⟩;dsimp only;have uO:A1.tg.flatMap tC = [.string ⟨#[108,97,116,101,115,116]⟩,.string qw,.int .i64 3]:=by
  have h1:fV (ak dN)=qw:=YR;show [Value.string tK,.string (fV (ak dN)),.int .i64 3] ++ []=_;rw [h1];rfl
 rw [uO] at ko;obtain ⟨g,c,rfl, -,r0,r1,r2⟩:=QnD ko;have oV:=aa (lN.out.trans (bQ.jO (fun k hk=>jS.out k (hk.elim .inl (fun e=>.inr (.inl e)))) NM));have jR:=aa B7;unfold qw at r1;clear bQ B7 ko uO Ds lN;go_wp2_with fail;refine bodyPost_ret (results_tmp3 rfl _ _ _) rfl ?_;exact ⟨oV.out,.inr ⟨d,xb,rfl,sb,cb,s4,JW,⟨QB,jR.out⟩,jS.out⟩⟩
theorem Qrs (w:World) (hg:Gl w) :
  Calls Tryz.prog 10 #[] w fun e w'=>∃ d xb sb cb s tb cl,e = .returned (.tuple #[.pointer (some ⟨d,0,none⟩),.pointer (some ⟨xb,0,none⟩)])/\Below w.heap.size w w'/\SA w' d xb sb cb s tb cl A1 1099511627776 3 92/\∀ k,oJ s xb sb cb tb k->w.heap.size<=k:=by
 have HW:=aa (QfW w hg 1099511627776 (by decide) (by decide));clear hg;go_enter Tryz.func10,Tryz.ntmps10;go_wp2_with fail;refine (HW.out).mono ?_;rintro _ w1 ⟨hb,⟨_,hne⟩|⟨d,xb,sb,cb,s,tb,cl,rfl,hs,hf⟩⟩
 ·exact absurd rfl hne
 dsimp only;have HB:=aa hb;have HS:=aa hs;have HF:=aa hf;clear hb hs hf HW;go_wp2_with fail;refine bodyPost_ret (results_tmp2 rfl _ _ _) rfl ?_;exact ⟨d,xb,sb,cb,s,tb,cl,rfl,HB.out,HS.out,HF.out⟩
end Go.Proofs.YtncigfibncmioaaGreatDoor
namespace Go.Proofs.YtncigfibncmioaaGreatDoor
open Go.RowKit
structure DH (w:World) (d:Nat) (s:ai) (n:Nat) (A:aN) (r:Int) (cu:Nat):Prop where
 dk:rS w d s
 sh:∃ F,Sh n A F/\dY (aH s.ds) F r 2000
 l0 : -1<=s.ds.R.left
 l1:s.ds.R.left<=9223372036854775807
 c0:0<=s.ds.R.count
 c1:s.ds.R.count<=(cu:Int)
 len:A.cs.length<=n
 good:aG A
 use:(dD A:Int)<=r
 r0:0<=r
 r1:r<=9223372036854775807
structure DM (w:World) (d:Nat) (s:ai) (n:Nat) (A A':aN) (r:Int) (cu:Nat):Prop where
 dk:rS w d s
 gd:Gd (cA n A A') r 2000 (aH s.ds)
 fit:au s.ds (3 * n+100) cu 2000
structure GA (n:Nat) (A:aN) (r:Int):Prop where
 len:A.cs.length<=n
 good:aG A
 use:(dD A:Int)<=r
theorem au.exact {D:DS} {L C B:Nat} (h:au D L C B):au D L D.R.count.toNat B:=⟨h.len,h.c0,by have:=h.c0;omega,h.l0,h.l1,h.r0,h.r1,h.dS,h.ql,h.inv,h.cK,h.cH,h.er,h.rise⟩
theorem au.NS {D:DS} {L C B B':Nat} (h:au D L C B) (hd:∀ f∈D.fs,dA B' (D.fd f)):au D L C B':=⟨h.len,h.c0,h.c1,h.l0,h.l1,h.r0,h.r1,hd,h.ql,h.inv,h.cK,h.cH,h.er,h.rise⟩
section
variable {w:World} {d:Nat} {s:ai} {n:Nat} {A A':aN} {r:Int} {cu:Nat}
theorem DH.ga (h:DH w d s n A r cu):GA n A r:=⟨h.len,h.good,h.use⟩
theorem DH.fit (h:DH w d s n A r cu):au s.ds (n+5) cu 2000:=by
 obtain ⟨F,hs,hr⟩:=h.sh;exact au.zV ((hr.fit (C:=cu) h.c0 h.c1 h.r0 h.r1).mono (hs.len h.len) (Nat.le_refl _) (Nat.le_refl _)) h.l0 h.l1
theorem DH.mono {cv:Nat} (h:DH w d s n A r cu) (hc:cu<=cv):DH w d s n A r cv:=⟨h.dk,h.sh,h.l0,h.l1,h.c0,by have:=h.c1;omega,h.len,h.good,h.use,h.r0,h.r1⟩
theorem DH.go {w':World} (h:DH w d s n A r cu) (hg:aC s s w w'):DH w' d s n A r cu:=⟨h.dk.go hg,h.sh,h.l0,h.l1,h.c0,h.c1,h.len,h.good,h.use,h.r0,h.r1⟩
theorem DH.later {w':World} (h:DH w d s n A r cu) (hb:Below w.heap.size w w'):DH w' d s n A r cu:=h.go (aC.refl h.dk.ay hb)
theorem QtB (h:DH w d s n A r cu) (k:Nat) (hk:k<40) :
  Calls Tryz.prog 20 #[.pointer (some ⟨d,0,none⟩),.int .i64 (k:Int)] w fun e w'=>e = .returned (.int .i64 0)/\∃ s',aC s s' w w'/\DH w' d s' n A r cu:=by
 refine (YS s d (k:Int) w h.dk (by omega)).mono ?_;rintro e w' ⟨rfl,s',hg,hd⟩;obtain ⟨F,h1,h2⟩:=h.sh;refine ⟨rfl,s',hg,h.dk.go hg,⟨F,h1,?_⟩,?_,?_,?_,?_,h.len,h.good,h.use,h.r0,h.r1⟩
 ·rw [hd];exact h2
 ·rw [hd];show (-1:Int)<=(k:Int);omega
 ·rw [hd];show (k:Int)<=_;omega
 ·rw [hd];exact h.c0
 ·rw [hd];exact h.c1
theorem QpC (h:DM w d s n A A' r cu) (hA:GA n A r) (hA':GA n A' r) (hn:n<=300000) (paths:Int) (kv:Value) (ks:List Int) (hk:kh s.own w kv ks) :
  Calls Tryz.prog 16 #[.pointer (some ⟨d,0,none⟩),.int .i64 paths,kv] w fun e w'=>e = .returned (.int .i64 0)/\∃ s',aC s s' w w'/\(DH w' d s' n A r cu∨DH w' d s' n A' r cu)/\s'.ds.R.left = -1:=by
 refine (QhW s d paths kv ks w h.dk hk h.fit (by omega) (by omega)).mono ?_;rintro e w' ⟨rfl,s',hg,hd⟩;obtain ⟨G,F',hG,hc,hr⟩:=QpB h.gd (vT paths s.R.aw.length) ks;rw [<- hd] at hr;have hl:s'.ds.R.left = -1:=hr.wh.left;have Ja:dY (aH s'.ds) F' r 2000:=by rw [JQ hl];exact hr
 have hc0:0<=s'.ds.R.count:=by rw [hd];exact h.fit.c0
 have hc1:s'.ds.R.count<=(cu:Int):=by rw [hd];exact h.fit.c1
 have OG:s'.ds.R.room=r:=hr.wh.room;have NT:s'.ds.R.room=s.ds.R.room:=by rw [hd];rfl
 have gL:0<=r:=by rw [<- OG,NT];exact h.fit.r0
 have hr1:r<=9223372036854775807:=by rw [<- OG,NT];exact h.fit.r1
 refine ⟨rfl,s',hg,?_,hl⟩
 rcases hG F' hc with h1|h1
 ·exact .inl ⟨h.dk.go hg,⟨F',h1,Ja⟩,by rw [hl];decide,by rw [hl];decide,hc0,hc1,hA.len,hA.good,hA.use,gL,hr1⟩
 ·exact .inr ⟨h.dk.go hg,⟨F',h1,Ja⟩,by rw [hl];decide,by rw [hl];decide,hc0,hc1,hA'.len,hA'.good,hA'.use,gL,hr1⟩
theorem VY (h:DH w d s n A r cu) (hn:n<=300000) (gi:cu<=90000000000) :
  Calls Tryz.prog 17 #[.pointer (some ⟨d,0,none⟩)] w fun e w'=>∃ s' xb sb cb tb cl,e = .returned (.tuple #[.pointer (some ⟨xb,0,none⟩),.int .i64 0])/\aC s s' w w'/\DM w' d s' n A A r (cu+n+8)/\(s.ds.R.left = -1->SA w' d xb sb cb s' tb cl A r n (cu+n+8)/\s'.ds.R.count<=s.ds.R.count+((s.R.now.length+3:Nat):Int))/\(w.heap.size<=xb/\w.heap.size<=sb/\w.heap.size<=cb/\w.heap.size<=tb):=by
 obtain ⟨F,hs,hr⟩:=h.sh;obtain ⟨cl,hgo,aF,bc⟩:=Wd hs hr h.good h.len hn h.fit gi;have R5:=hs.len h.len;have kP:s.ds.R.now.length=F.length:=QT hr.wh.vw;have kP:s.R.now.length=F.length:=kP;refine (QpG s A.tg cl w d h.dk.ay h.dk.gl h.dk.low (hs.lay h.good hr.wh.vw) hgo h.dk.bd).mono ?_;rintro e w' ⟨k,s',sv,rfl,hg,hout,hst, -⟩;have bu:=hout.k0;subst bu;obtain ⟨xb,sb,cb,tb,rfl,wC,EK,hlx,hsw⟩:=hst rfl;have lr:=hout.fit h.fit;have NU:=hout.fit h.fit.exact;have hc0:=h.c0;refine ⟨s',xb,sb,cb,tb,cl,rfl,hg,⟨h.dk.go hg,hout.gd,lr.mono (by omega) (by omega) (Nat.le_refl _)⟩,fun hl=>⟨⟨wC,fun e=>by have:=h.dk.gl.lt e;omega,hsw,(h.dk.go hg).bd,aF,bc,h.len,hout.ft hl,lr.c0,?_,h.good,h.use,h.r0,h.r1⟩,?_⟩,hlx,EK.1,EK.2.1,EK.2.2⟩
 ·have:=lr.c1;omega
 ·have:=NU.c1;omega
theorem Qrm {D:DS} {F:List FF} {B:Nat} (h:Wh D F r B):∀ x∈F,x.t.size<=B:=fun x hx=>by
 obtain ⟨g,hg,h1,_⟩:=h.find hx;have:=(h.dS g (h.ay _ (r6 hg))).1;rw [h1] at this;exact this
theorem Qve (h:DH w d s n A r cu) (hn:n<=300000) :
  Calls Tryz.prog 18 #[.pointer (some ⟨d,0,none⟩)] w fun e w'=>∃ d' so,e = .returned (.tuple #[.pointer (some ⟨d',0,none⟩),.int .i64 0])/\Below w.heap.size w w'/\w.heap.size<=d'/\(∀ k,so.own k->w.heap.size<=k)/\DH w' d' so n A r 0/\so.ds.R.left = -1:=by
 have kP:s.R.now.length<=n+5:=h.fit.cz;obtain ⟨F,hs,hr⟩:=h.sh;refine (WY d s.b (fun g w'=>∃ so:ai,so.b=g/\Below w.heap.size w w'/\so.In w'/\(∀ k,so.own k->w.heap.size<=k)/\dY so.ds F r 2000/\so.R.count=0) w h.dk.bd ((ZI s w h.dk.ay h.fit.r0 (by omega) (fun f hf'=>by have:(s.fd f).1.size<=2000:=(h.fit.dS f hf').1;omega)).mono ?_)).mono ?_
 ·rintro e w' ⟨so,ψ,rfl,hb,cJ,hown,hR,hc⟩;obtain ⟨a1,a2⟩:=QlW hr (Qrm hr.wh) cJ hR hc;exact ⟨so.b,rfl,so.cut,rfl,hb,cJ.cut (by rw [hR]) (by rw [hR]),fun k hk=>hown k (cJ.yi hk),a1,a2⟩
 ·rintro e w' ⟨g,w1,rfl,rfl,so,rfl,hb,cJ,hown,e1,e2⟩;have nB:=hb.alloc hb.size (.cells #[.pointer (some ⟨so.b,0,none⟩)] 90);refine ⟨w1.heap.size,so,rfl,nB,hb.size,hown,⟨⟨cJ.later ((Below.refl _ _).alloc (Nat.le_refl _) _),heap_alloc_new _ _,h.dk.gl.later nB,fun k hk hG=>by have:=hown k hk;have:=h.dk.gl.lt hG;omega⟩,⟨F,hs,by rw [JQ e1.wh.left];exact e1⟩,by rw [e1.wh.left];decide,by rw [e1.wh.left];decide,by show 0<=so.R.count;omega,by show so.R.count<=_;omega,h.len,h.good,h.use,h.r0,h.r1⟩,e1.wh.left⟩
end
end Go.Proofs.YtncigfibncmioaaGreatDoor
namespace Go.Proofs.YtncigfibncmioaaGreatDoor
open Go.RowKit
theorem QhT (N:Nat) {w:World} {d:Nat} {s:ai} {A:aN} {r:Int} {n cu:Nat} (paths:Int) (kv:Value) (ks:List Int) (h:DQ w d s A r n cu) (hn:n<=300000) (hown:∀ k,s.own k->N<=k) (PE:N<=w.heap.size) (hka:kh (fun k=>N<=k) w kv ks) :
  Calls Tryz.prog 29 #[.pointer (some ⟨d,0,none⟩),.int .i64 paths,kv] w fun e w'=>e = .returned (.bool true)/\∃ s',aC s s' w w'/\DQ w' d s' A r n cu/\s'.ds.R.left = -1:=by
 have Ul:=aa (QrN h hn);have Ew:=aa (fun W (hg:aC s s w W)=>Qtb (h.go hg) hn paths kv ks ((kh.low hka (hg.low hown PE)).mono hown));have I2:=aa (fun W (s':ai) (hd:DQ W d s' A r n cu)=>QrN hd hn);generalize hF (fA A)=HT at Ul I2;clear h hown PE hka;go_enter Tryz.func29,Tryz.ntmps29;go_wp2_with fail;refine (Ul.out).mono ?_;rintro _ w1 ⟨rfl,hg1⟩;dsimp only;have bT:=aa hg1;clear hg1 Ul;go_wp2_with fail;refine (Ew.out _ bT.out).mono ?_;rintro _ w2 ⟨rfl,s',hg2,mJ,hl2⟩;dsimp only;have bP:=aa (bT.out.trans hg2);have sT:=aa mJ;have Ex:=aa hl2;clear hg2 mJ hl2 Ew;go_wp2_with fail;refine (I2.out _ s' sT.out).mono ?_;rintro _ w3 ⟨rfl,hg3⟩;dsimp only;have PF:=aa (sT.out.go hg3);have gq:=aa (bP.out.trans hg3);clear hg3 I2;go_wp2_with fail;go_ret;exact ⟨rfl,s',gq.out,PF.out,Ex.out⟩
end Go.Proofs.YtncigfibncmioaaGreatDoor
namespace Go.Proofs.YtncigfibncmioaaGreatDoor
open Go.RowKit
structure SK (w:World) (db xb sb cb:Nat) (s:ai) (tb:Nat) (cl:List (List Nat)) (A:aN) (r:Int) (n cu:Nat):Prop where
 st:ej w xb sb
 hG:¬ gj xb
 sw:aI w sb s cb tb cl.length A.tg.length (cD cl) (tD A.tg)
 bd:BD w db s.b
 ok:∀ d∈cl,gz d
 mem:∀ d,d∈cl ↔ ∃ b∈A.cs,d=ak b
 len:A.cs.length<=n
 ft:dY (aH s.ds) (fA A) r 2000
 l0 : -1<=s.ds.R.left
 l1:s.ds.R.left<=9223372036854775807
 c0:0<=s.ds.R.count
 c1:s.ds.R.count<=(cu:Int)
 good:aG A
 use:(dD A:Int)<=r
 r0:0<=r
 r1:r<=9223372036854775807
def Ab (db xb sb cb:Nat) (s:ai) (A X:aN) (r:Int) (n cu:Nat) (W w':World):Prop:=∃ s',ar (sS xb sb cb) s s' W w'/\DM w' db s' (n+1) A X r (cu+n+20)
theorem QtC {D D':DS} {L C B:Nat} {fl:List (ByteArray × ByteArray)} {k:Int} (hf:au D L C B) (h2:fl.length<=2) (hw:gK D fl k D'):∃ B',au D' (L+20) (C+20) B':=by
 unfold gK at hw
 by_cases he:fl = []
 ·rw [if_pos he] at hw;obtain ⟨_,rfl⟩:=hw;exact ⟨B,hf.mono (by omega) (by omega) (Nat.le_refl _)⟩
 ·rw [if_neg he] at hw;obtain ⟨m,D1,hr,h3⟩:=hw;have f1:=hf.ran hr;have h8:=QoC fl h2
  rcases h3 with ⟨_,rfl⟩|⟨_,h3⟩
  ·exact ⟨_,f1.mono (by omega) (by omega) (Nat.le_refl _)⟩
  ·have f2:=f1.CD h3;have h9:=QoD (min m fl.length) (by omega);exact ⟨_,f2.mono (by omega) (by omega) (Nat.le_refl _)⟩
section
variable {w:World} {db xb sb cb:Nat} {s:ai} {tb:Nat} {cl:List (List Nat)} {A:aN} {r:Int} {n cu:Nat}
theorem SK.fit (h:SK w db xb sb cb s tb cl A r n cu):au s.ds (n+3) cu 2000 :=
 au.zV ((h.ft.fit (C:=cu) h.c0 h.c1 h.r0 h.r1).mono (by rw [xn];have:=h.len;omega) (Nat.le_refl _) (Nat.le_refl _)) h.l0 h.l1
theorem SK.later {w':World} (h:SK w db xb sb cb s tb cl A r n cu) (hb:Below w.heap.size w w'):SK w' db xb sb cb s tb cl A r n cu :=
 ⟨(hb.block _ (ax h.st)).trans h.st,h.hG,h.sw.later hb,(hb.block _ (ax h.bd)).trans h.bd,h.ok,h.mem,h.len,h.ft,h.l0,h.l1,h.c0,h.c1,h.good,h.use,h.r0,h.r1⟩
theorem SK.qW (h:SK w db xb sb cb s tb cl A r n cu):cl.length<=n:=by
 have h1:cl.length<=(A.cs.map ak).length:=xo (Ep (GQ h.sw.cm rY)) (fun x hx=>by
  obtain ⟨b,hb,e⟩:=(h.mem x).1 hx;exact List.mem_map.2 ⟨b,hb,e.symm⟩)
 rw [List.length_map] at h1;exact Nat.le_trans h1 h.len
theorem SK.has (h:SK w db xb sb cb s tb cl A r n cu) (b:ByteArray):Maps.has (cD cl) (dy (ak b))=(aQ kC (kC b) A.cs).isSome:=by
 rw [Ub h.ok (jN b)]
 cases hf:aQ kC (kC b) A.cs with
 | none =>
  refine decide_eq_false (fun hm=>?_);obtain ⟨c,hc,e⟩:=(h.mem _).1 hm;exact tL hf c hc (by unfold kC;rw [e])
 | some c =>
  obtain ⟨h1,h2⟩:=Eh hf;exact decide_eq_true ((h.mem _).2 ⟨c,h1,h2.symm⟩)
theorem SK.AK (h:SK w db xb sb cb s tb cl A r n cu) (b:ByteArray):eG s.ds (ak b)=dn A b:=QoA (D:=aH s.ds) h.ft.wh (jN b)
theorem SK.rd (h:SK w db xb sb cb s tb cl A r n cu) (b:ByteArray):cr s.ds (bW (ak b))=dn A b:=TT (D:=aH s.ds) h.ft.wh (ak b)
theorem SK.dX (h:SK w db xb sb cb s tb cl A r n cu) {b t:ByteArray} (ht:dn A b=some t):t.size<=300:=h.good.sz t (Eh ht).1
theorem SK.oY (h:SK w db xb sb cb s tb cl A r n cu) (b:ByteArray):oY s.ds (ak b) b=AO (b8 A b):=by
 unfold Go.Proofs.YtncigfibncmioaaGreatDoor.oY b8;rw [h.AK b]
 cases dn A b with
 | none=>rfl
 | some c=>rfl
theorem SK.j6 (h:SK w db xb sb cb s tb cl A r n cu) (b:ByteArray):j6 s.ds (ak b) b=(dn A b).getD b:=by
 unfold Go.Proofs.YtncigfibncmioaaGreatDoor.j6;rw [h.AK b]
theorem SK.put (h:SK w db xb sb cb s tb cl A r n cu) (b:ByteArray):gT (ak b) (Go.Proofs.YtncigfibncmioaaGreatDoor.j6 s.ds (ak b) b).size A.tg=A.tg:=by
 rw [h.j6 b];exact Mf (h.good.oM b)
theorem SK.sF (h:SK w db xb sb cb s tb cl A r n cu) (m b:ByteArray):sF s.ds (ak b) m b A.tg=nW A m b:=by
 unfold Go.Proofs.YtncigfibncmioaaGreatDoor.sF nW;rw [h.j6 b];exact Mg (h.good.oM b)
theorem SK.zy {w':World} {s':ai} (h:SK w db xb sb cb s tb cl A r n cu) (hg:ar (sS xb sb cb) s s' w w'):BD w' db s'.b:=by
 rw [hg.b];refine (hg.gr.block db (ax h.bd) (fun e=>?_)).trans h.bd;have jI:=h.bd;unfold BD at jI
 rcases e with e|e|e|e
 ·exact h.sw.ay.gh jI (by decide) (by decide) (by decide) (by decide) e
 ·subst e;have h7:=h.st;unfold ej at h7;rw [jI] at h7;injection h7 with h7
  injection h7 with _ h7
  exact absurd h7 (by decide)
 ·subst e;have h7:=h.sw.blk;rw [jI] at h7;injection h7 with h7
  injection h7 with _ h7
  exact absurd h7 (by decide)
 ·subst e;obtain ⟨es,clock,h7,_⟩:=h.sw.cm;rw [jI] at h7
  cases h7
theorem SK.midst {w':World} {s':ai} {X:aN} {C B:Nat} (h:SK w db xb sb cb s tb cl A r n cu) (hg:ar (sS xb sb cb) s s' w w') (cJ:s'.In w'/\Gl w'/\fN s') (hgd:Gd (cA (n+1) A X) r 2000 (aH s'.ds)) (hf:au s'.ds (3 * n+100) C B) (hC:C<=cu+n+20):Ab db xb sb cb s A X r n cu w w':=by
 refine ⟨s',hg,⟨cJ.1,h.zy hg,cJ.2.1,cJ.2.2⟩,hgd,?_⟩;obtain ⟨_,F,hw,_⟩:=hgd;exact (hf.NS (B':=2000) (fun f hf'=>hw.dS f hf')).mono (by omega) hC (Nat.le_refl _)
theorem SK.same {w':World} {nc nt:Nat} {Dc Dt:DataW Value} {t2:Nat} (h:SK w db xb sb cb s tb cl A r n cu) (hg:ar (sS xb sb cb) s s w w') (hst:aI w' sb s cb t2 nc nt Dc Dt):Ab db xb sb cb s A A r n cu w w' :=
 h.midst hg ⟨hst.ay,hst.gl,hst.low⟩ ⟨h.ft.hi cA.rest,_,h.ft.wh,cA.rest⟩ (h.fit.mono (by omega) (Nat.le_refl _) (Nat.le_refl _)) (by omega)
theorem Pl.pO (p:Pl):(p.run r A).2.2=if (dD A:Int)+(p.need:Int)<=r then p.nx else A:=by
 unfold Pl.run
 split<;>rfl
theorem SK.zero (h:SK w db xb sb cb s tb cl A r n cu) (t:ByteArray) (e:Int) (A':aN):(Pl.run r A ⟨0,t,e,A'⟩).2.2=A':=by
 rw [Pl.pO,if_pos (by have:=h.use;show (dD A:Int)+((0:Nat):Int)<=r;omega)]
theorem SK.changed {w':World} {s':ai} {k:Int} {nb:Option ByteArray} {l':List TE} {txt:ByteArray} {e:Int} (h:SK w db xb sb cb s tb cl A r n cu) (hg:ar (sS xb sb cb) s s' w w') (hw:gK s.ds (ng (AO nb) A.tg l') k s'.ds)
  (tM:∀ b,nb=some b->aQ kC (kC b) A.cs=none/\b.size<=300) (hgd:aG ⟨ia A.cs nb,l'⟩) (cJ:s'.In w'/\Gl w'/\fN s') :
  Ab db xb sb cb s A (Pl.run r A ⟨jz nb+iy A.tg l',txt,e,⟨ia A.cs nb,l'⟩⟩).2.2 r n cu w w':=by
 rw [Pl.pO];obtain ⟨B',hf⟩:=QtC h.fit (Qos (AO nb) A.tg l' (Qot nb)) hw;exact h.midst hg cJ (Qrj h.ft h.good h.use nb (fun b hb=>(tM b hb).2) l' hgd.tok hgd.t8 hw) (hf.mono (by omega) (Nat.le_refl _) (Nat.le_refl _)) (by omega)
theorem QU {w':World} {s':ai} {k:Int} {t1 nc nt nc2 nt2:Nat} {Dc Dt Dc2 Dt2:DataW Value} {N:Nat} (h0:k=0->∃ t2,N<=t2/\aI w' sb s' cb t2 nc nt Dc Dt) (h1:k≠0->aI w' sb s' cb t1 nc2 nt2 Dc2 Dt2):s'.In w'/\Gl w'/\fN s':=by
 by_cases hk:k=0
 ·obtain ⟨t2,_,a⟩:=h0 hk;exact ⟨a.ay,a.gl,a.low⟩
 ·have a:=h1 hk;exact ⟨a.ay,a.gl,a.low⟩
theorem Qvf (h:SK w db xb sb cb s tb cl A r n cu) (hn:n<=300000) (gi:cu<=90000000000) (b:ByteArray) (hb:b.size<=300) :
  Calls Tryz.prog 30 #[.pointer (some ⟨xb,0,none⟩),.string b] w fun e w'=>∃ t k,e = .returned (.tuple #[.string t,.int .i64 k])/\Ab db xb sb cb s A ((El A b).run r A).2.2 r n cu w w':=by
 refine (Xp xb sb s cb tb cl.length (cD cl) A.tg b w h.st h.hG h.sw hb (fun t ht=>h.dX ((h.AK b).symm.trans ht)) (by have:=h.qW;omega) (fun t ht=>by have:=h.dX ((h.rd b).symm.trans ht);omega) h.good.tok h.good.t8 h.fit (Em hn gi)).mono ?_;rintro e w' ⟨k,s',rfl,hg,hx,hw,h0,h1⟩;rw [h.oY b,h.put b] at hw;exact ⟨_,k,rfl,h.changed hg hw (Cq hb) (h.good.new hb) (QU h0 h1)⟩
theorem Qvg (h:SK w db xb sb cb s tb cl A r n cu) (hn:n<=300000) (gi:cu<=90000000000) (m b:ByteArray) (hm:m.size<=20) (aW:eP m=true) (hb:b.size<=300) :
  Calls Tryz.prog 25 #[.pointer (some ⟨xb,0,none⟩),.string m,.string b] w fun e w'=>∃ t k,e = .returned (.tuple #[.string t,.int .i64 k])/\Ab db xb sb cb s A ((pF A m b).run r A).2.2 r n cu w w':=by
 unfold pF
 cases bF:jZ A m with
 | false =>
  rw [if_neg (by decide),h.zero];refine (Xm xb sb s cb tb cl.length (cD cl) A.tg m b w h.st h.hG h.sw h.good.tok (by omega) aW hb bF).mono ?_;rintro e w' ⟨rfl,hg,hx,hst⟩;exact ⟨_,_,rfl,h.same hg hst⟩
 | true =>
  rw [if_pos rfl];refine (Xn xb sb s cb tb cl.length (cD cl) A.tg m b w h.st h.hG h.sw h.good.tok aW bF hb (fun t ht=>h.dX ((h.AK b).symm.trans ht)) (by have:=h.qW;omega) (fun t ht=>by have:=h.dX ((h.rd b).symm.trans ht);omega) hm h.good.t8 (Mh h.good bF) h.fit (Em hn gi)).mono ?_;rintro e w' ⟨k,s',rfl,hg,hx,hw,h0,h1⟩;rw [h.oY b,h.sF m b] at hw;exact ⟨_,k,rfl,h.changed hg hw (Cq hb) (h.good.GU hb hm aW bF) (QU h0 h1)⟩
theorem QvQ (h:SK w db xb sb cb s tb cl A r n cu) (hn:n<=300000) (gi:cu<=90000000000) (m b:ByteArray) (hm:m.size<=20) (aW:eP m=true) (hb:b.size<=300) :
  Calls Tryz.prog 36 #[.pointer (some ⟨xb,0,none⟩),.string m,.string (dr b)] w fun e w'=>∃ k,e = .returned (.int .i64 k)/\Ab db xb sb cb s A ((Cr A m b).run r A).2.2 r n cu w w':=by
 have hh:=h.has b;have hu:=Md cl;unfold Cr
 cases hc:dn A b with
 | none =>
  rw [show aQ kC (kC b) A.cs=none from hc] at hh;rw [if_neg (by simp),h.zero];refine (Xq xb sb s cb tb cl.length (cD cl) A.tg m (dr b) w h.st h.hG h.sw (by omega) aW hu (vY b) (by rw [ll];exact hh)).mono ?_;rintro e w' ⟨rfl,hg,hx,hst⟩;exact ⟨_,rfl,h.same hg hst⟩
 | some c =>
  rw [show aQ kC (kC b) A.cs=some c from hc] at hh;rw [if_pos (by simp)]
  cases bF:jZ A m with
  | false =>
   rw [if_neg (by decide),h.zero];refine (Xs xb sb s cb tb cl.length (cD cl) A.tg m (dr b) w h.st h.hG h.sw (by omega) aW h.good.tok hu (vY b) (by rw [ll];exact hh) bF).mono ?_;rintro e w' ⟨rfl,hg,hx,hst⟩;exact ⟨_,rfl,h.same hg hst⟩
  | true =>
   rw [if_pos rfl];refine (Xt xb sb s cb tb cl.length (cD cl) A.tg m (dr b) w h.st h.hG h.sw hm aW h.good.tok hu (vY b) (by rw [ll];exact hh) bF (fun t ht=>by rw [ll] at ht;exact h.dX ((h.rd b).symm.trans ht)) h.good.t8 (Mh h.good bF) h.fit (Em hn gi)).mono ?_;rintro e w' ⟨k,s',rfl,hg,hx,hw,h0,h1⟩;have Pm:wL s.ds (rd (dr b)) m A.tg=nW A m b:=by
    unfold wL nW;rw [ll,h.rd b,hc];have:=Mg (n:=m) (h.good.oM b);rw [hc] at this;exact this
   rw [Pm] at hw;have Eo:=h.good.GU hb hm aW bF;have Mi:b8 A b=none:=by unfold b8;rw [hc]
   rw [Mi] at Eo;exact ⟨k,rfl,h.changed (nb:=none) hg hw (fun b hb=>by cases hb) Eo (QU h0 h1)⟩
theorem QtD (h:SK w db xb sb cb s tb cl A r n cu) (hn:n<=300000) (gi:cu<=90000000000) (m:ByteArray) (hm:m.size<=20) (aW:eP m=true) :
  Calls Tryz.prog 38 #[.pointer (some ⟨xb,0,none⟩),.string m] w fun e w'=>∃ k,e = .returned (.int .i64 k)/\Ab db xb sb cb s A ((Cs A m).run r A).2.2 r n cu w w':=by
 unfold Cs
 cases hf:(aQ TE.n m A.tg).isSome with
 | false =>
  rw [if_neg (by decide),h.zero];refine (Xx xb sb s cb tb cl.length (cD cl) A.tg m w h.st h.hG h.sw h.good.tok (by omega) aW hf).mono ?_;rintro e w' ⟨rfl,hg,hx,hst⟩;exact ⟨_,rfl,h.same hg hst⟩
 | true =>
  rw [if_pos rfl];refine (Xy xb sb s cb tb cl.length (cD cl) A.tg m w h.st h.hG h.sw h.good.tok (by omega) aW hf h.good.t8 h.fit (Em hn gi)).mono ?_;rintro e w' ⟨k,s',rfl,hg,hx,hw,h0,h1⟩;exact ⟨k,rfl,h.changed (nb:=none) hg hw (fun b hb=>by cases hb) (h.good.zA m) (QU h0 h1)⟩
theorem QvR (h:SK w db xb sb cb s tb cl A r n cu) (hn:n<=300000) (gi:cu<=90000000000) (b:ByteArray) :
  Calls Tryz.prog 39 #[.pointer (some ⟨xb,0,none⟩),.string (dr b)] w fun e w'=>∃ k,e = .returned (.int .i64 k)/\Ab db xb sb cb s A ((Ct A b).run r A).2.2 r n cu w w':=by
 have hh:=h.has b;have hu:=Md cl;unfold Ct
 cases hc:dn A b with
 | none =>
  rw [show aQ kC (kC b) A.cs=none from hc] at hh;rw [if_neg (by simp),h.zero];refine (Xr xb sb s cb tb cl.length (cD cl) A.tg (dr b) w h.st h.hG h.sw hu (vY b) (by rw [ll];exact hh)).mono ?_;rintro e w' ⟨rfl,hg,hx,hst⟩;exact ⟨_,rfl,h.same hg hst⟩
 | some c =>
  rw [show aQ kC (kC b) A.cs=some c from hc] at hh;rw [if_pos (by simp)]
  cases ht:bD (ak b) A.tg with
  | true =>
   rw [if_pos rfl,h.zero];refine (Xu xb sb s cb tb cl.length (cD cl) A.tg (dr b) w h.st h.hG h.sw h.good.tok hu (vY b) (by rw [ll];exact hh) (by rw [ll];exact ht)).mono ?_;rintro e w' ⟨rfl,hg,hx,hst⟩;exact ⟨_,rfl,h.same hg hst⟩
  | false =>
   rw [if_neg (by decide),h.zero];refine (Xh xb sb s cb tb cl.length (cD cl) A.tg (dr b) w h.st h.hG h.sw h.good.tok hu (vY b) (by rw [ll];exact hh) (by rw [ll];exact ht) h.fit (show cZ _ _ _ from ⟨by omega,by omega,by omega⟩)).mono ?_;rintro e w' ⟨k,s',m,rfl,hg,hx,hr,gp⟩;rw [ll] at hr;obtain ⟨c1,c2⟩:=Eh hc;have B8:kC c=kC b:=by unfold kC;rw [c2]
   have cJ:s'.In w'/\Gl w'/\fN s':=by
    rcases gp with ⟨_,_,a⟩|⟨_,a⟩<;>exact ⟨a.ay,a.gl,a.low⟩
   obtain ⟨_,hgd⟩:=Qrk (n:=n+1) h.ft h.good c1 (by
    show bM s.ds [fM (kC c),gQ] k m s'.ds;rw [B8];exact hr)
   rw [B8] at hgd;exact ⟨k,rfl,h.midst hg cJ hgd ((h.fit.ran hr).mono (show n+3+2<=_ by omega) (Nat.le_refl _) (Nat.le_refl _)) (show cu+2<=_ by omega)⟩
theorem QtE (h:SK w db xb sb cb s tb cl A r n cu) (hn:n<=300000) (gi:cu<=90000000000) :
  Calls Tryz.prog 40 #[.pointer (some ⟨xb,0,none⟩)] w fun e w'=>∃ (m:Nat) (k:Int),m<=1000000/\e = .returned (.tuple #[.int .i64 (m:Int),.int .i64 k])/\Ab db xb sb cb s A ((GV A).run r A).2.2 r n cu w w':=by
 have hrun:((GV A).run r A).2.2=⟨nX A,A.tg⟩:=h.zero _ _ _;rw [hrun];have a8:(iw A).length<=n:=by unfold iw;rw [List.length_map];exact h.len
 have bc:∀ x,x∈iw A ↔ x.1∈cl:=fun x=>by rw [AL,h.mem]
 have JA:(dp A.tg (iw A)).length<=n:=Nat.le_trans (List.length_filter_le _ _) a8;refine (Xl xb sb s cb tb cl.length A.tg cl (iw A) w h.st h.hG h.sw h.good.tok h.ok (Me h.good.rise) bc (by have:=h.qW;omega) (by omega) h.fit (show cZ _ _ _ from ⟨by omega,by omega,by omega⟩)).mono ?_;rintro e w' ⟨k,s',rfl,hg,hx,gp⟩
 rcases gp with ⟨hu,rfl,rfl,hst⟩|⟨hu,m,hr,hst⟩
 ·refine ⟨(dp A.tg (iw A)).length,0,by omega,by rw [if_pos rfl],?_⟩;have hA:(⟨nX A,A.tg⟩ : aN)=A:=by rw [QgK hu]
  rw [hA];exact h.same hg hst
 ·obtain ⟨rfl,hgd⟩:=Qnb (n:=n+1) h.ft h.good (Nat.le_succ_of_le h.len) hr;have hl:(Dp (dp A.tg (iw A))).length<=n+3:=by simp [Dp,mQ,oN];omega
  exact ⟨(dp A.tg (iw A)).length,0,by omega,by rw [if_pos rfl],h.midst hg ⟨hst.ay,hst.gl,hst.low⟩ hgd ((h.fit.ran hr).mono (by omega) (Nat.le_refl _) (Nat.le_refl _)) (by omega)⟩
theorem SK.doc (h:SK w db xb sb cb s tb cl A r n cu) (X:aN):DB w (fun W=>SK W db xb sb cb s tb cl A r n cu) (fun _ _ W w'=>Ab db xb sb cb s A X r n cu W w') :=
 ⟨h,fun _ _ hW hb=>hW.later hb,fun _ hW=>hW.sw.gl,fun _ _ _ _ _ hb hq=>by
  obtain ⟨s',h1,h2⟩:=hq;exact ⟨s',(ar.ae hb).trans h1,h2⟩,fun _ _ _ _ _ hq hb=>by
  obtain ⟨s',h1,h2⟩:=hq;exact ⟨s',h1.trans (ar.ae hb),h2.dk.later hb,h2.gd,h2.fit⟩,fun _ _ _ _ hq k h1 h2=>by
  obtain ⟨s',hg,_⟩:=hq;exact hg.gr.block k h2 (fun e=>by
   rcases e with e|e|e|e
   ·have:=h.sw.ay.lt e;omega
   ·have:=ax h.st;omega
   ·have:=ax h.sw.blk;omega
   ·have:=h.sw.cm.lt;omega)⟩
theorem QpE (h:SK w db xb sb cb s tb cl A r n cu) (hn:n<=300000) (gi:cu<=90000000000) (K N B:Int) (hK:cE K) (hN:cE N) (hB:cE B) :
  Calls Tryz.prog 11 #[.pointer (some ⟨xb,0,none⟩),.agg #[.int .i64 K,.int .i64 N,.int .i64 B]] w fun e w'=>∃ t k,e = .returned (.tuple #[.string t,.int .i64 k])/\Ab db xb sb cb s A ((nY A K N B).run r A).2.2 r n cu w w':=by
 have h8:=yq K 8 (by decide);have kL:=Km B;have Pq:=FH N;have tP:=Sd N;unfold nY
 match hk:fY K 8,h8 with
 | 0,_=>exact Rt (h.doc _) K N B hK hN hB (.inl hk) (fun W hW=>Qvf hW hn gi (bN B) (by omega))
 | 1,_=>exact Rt (h.doc _) K N B hK hN hB (.inr hk) (fun W hW=>Qvf hW hn gi (bN B) (by omega))
 | 2,_=>exact Yw (h.doc _) K N B hK hN hB hk (fun W hW=>QvQ hW hn gi (gu N) (bN B) (by omega) tP (by omega))
 | 3,_=>exact Yx (h.doc _) K N B hK hN hB hk (fun W hW=>QtD hW hn gi (gu N) (by omega) tP)
 | 4,_=>exact Ru (h.doc _) K N B hK hN hB (.inl hk) (fun W hW=>Qvg hW hn gi (gu N) (bN B) (by omega) tP (by omega))
 | 5,_=>exact Ru (h.doc _) K N B hK hN hB (.inr hk) (fun W hW=>Qvg hW hn gi (gu N) (bN B) (by omega) tP (by omega))
 | 6,_=>exact Yy (h.doc _) K N B hK hN hB hk (fun W hW=>QvR hW hn gi (bN B))
 | 7,_=>exact Yz (h.doc _) K N B hK hN hB hk (fun W hW=>QtE hW hn gi)
theorem QtF (h:SA w db xb sb cb s tb cl A r n cu) (k:Nat) (hk:k<40) :
  Calls Tryz.prog 20 #[.pointer (some ⟨db,0,none⟩),.int .i64 (k:Int)] w fun e w'=>e = .returned (.int .i64 0)/\∃ s',aC s s' w w'/\SK w' db xb sb cb s' tb cl A r n cu:=by
 refine (YS s db (k:Int) w h.dk (by omega)).mono ?_;rintro e w' ⟨rfl,s',hg,hd⟩;have hx:dx w' xb sb 0:=dx.Bh (S:=fun _=>False) h.st h.sw (ar.aZ hg) (fun _ hk=>hk.elim);refine ⟨rfl,s',hg,hx,h.hG,h.sw.go hg,(h.dk.go hg).bd,h.ok,h.mem,h.len,?_,?_,?_,?_,?_,h.good,h.use,h.r0,h.r1⟩
 ·have:=h.ft;rw [<- JQ h.ft.wh.left] at this;rw [hd];exact this
 ·rw [hd];show (-1:Int)<=(k:Int);omega
 ·rw [hd];show (k:Int)<=_;omega
 ·rw [hd];exact h.c0
 ·rw [hd];exact h.c1
def oQ (A:aN) (p:Pl):Prop:=aG p.nx/\p.nx.cs.length<=A.cs.length+1/\dD p.nx<=dD A+p.need
theorem oQ.same (g:aG A) (t:ByteArray) (e:Int):oQ A ⟨0,t,e,A⟩:=⟨g,Nat.le_succ _,Nat.le_refl _⟩
theorem oQ.aw (g:aG A) {nb:Option ByteArray} (tM:∀ b,nb=some b->aQ kC (kC b) A.cs=none) {l':List TE} (t:ByteArray) (e:Int) (hg:aG ⟨ia A.cs nb,l'⟩):oQ A ⟨jz nb+iy A.tg l',t,e,⟨ia A.cs nb,l'⟩⟩:=⟨hg,Qor _ _,QlH g.rise nb tM l'⟩
theorem oQ.run {p:Pl} (g:aG A) (hl:A.cs.length<=n) (hu:(dD A:Int)<=r) (h:oQ A p):GA (n+1) (p.run r A).2.2 r:=by
 rw [Pl.pO]
 split
 ·obtain ⟨h1,h2,h3⟩:=h;exact ⟨by omega,h1,by omega⟩
 ·exact ⟨by omega,g,hu⟩
theorem QtG (g:aG A) (K N B:Int):oQ A (nY A K N B):=by
 have kL:=Km B;have Pq:=FH N;have tP:=Sd N;have hput:oQ A (El A (bN B)):=oQ.aw g (fun x hx=>(Cq (by omega) x hx).1) _ _ (g.new (by omega));have zB:oQ A (pF A (gu N) (bN B)):=by
  unfold pF
  cases bF:jZ A (gu N) with
  | false=>exact oQ.same g _ _
  | true=>exact oQ.aw g (fun x hx=>(Cq (by omega) x hx).1) _ _ (g.GU (by omega) (by omega) tP bF)
 unfold nY
 split
 ·exact hput
 ·exact hput
 ·unfold Cr
  cases hc:dn A (bN B) with
  | none=>exact oQ.same g _ _
  | some c =>
   cases bF:jZ A (gu N) with
   | false=>exact oQ.same g _ _
   | true =>
    have Eo:=g.GU (b:=bN B) (by omega) (by omega) tP bF;have Mi:b8 A (bN B)=none:=by unfold b8;rw [hc]
    rw [Mi] at Eo;exact oQ.aw g (nb:=none) (fun x hx=>by cases hx) _ _ Eo
 ·unfold Cs
  cases hf:(aQ TE.n (gu N) A.tg).isSome with
  | false=>exact oQ.same g _ _
  | true=>exact oQ.aw g (nb:=none) (fun x hx=>by cases hx) _ _ (g.zA _)
 ·exact zB
 ·exact zB
 ·unfold Ct
  cases hc:dn A (bN B) with
  | none=>exact oQ.same g _ _
  | some c =>
   cases ht:bD (ak (bN B)) A.tg with
   | true=>exact oQ.same g _ _
   | false=>exact ⟨g.del ht,Nat.le_succ_of_le (Jz _ _),QoB A _⟩
 ·exact ⟨g.prune,Nat.le_succ_of_le (List.length_filter_le _ _),QjM A⟩
end
end Go.Proofs.YtncigfibncmioaaGreatDoor
