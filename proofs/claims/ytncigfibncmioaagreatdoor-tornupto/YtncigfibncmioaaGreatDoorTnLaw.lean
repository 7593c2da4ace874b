/-
  PROVED HERE: what reopened of the statements answers, of a disk in a shape that a crash has left.
-/
import Derived.Test.YtncigfibncmioaaGreatDoorToDoes
set_option maxHeartbeats 8000000
set_option maxRecDepth 100000
namespace Go.Proofs.YtncigfibncmioaaGreatDoor
open Go.RowKit
theorem DM.later {w w':World} {d:Nat} {s:ai} {n:Nat} {A A':aN} {r:Int} {cu:Nat} (h:DM w d s n A A' r cu) (hb:Below w.heap.size w w'):DM w' d s n A A' r cu:=⟨h.dk.later hb,h.gd,h.fit⟩
theorem DH.far {w w':World} {d:Nat} {s s2 GL:ai} {n:Nat} {A:aN} {r:Int} {cu:Nat} (h:DH w d s n A r cu) (h2:s2.In w) (hl2:fN s2) (hg:aC s2 GL w w') (ha:∀ k,s.own k->¬ s2.own k):DH w' d s n A r cu :=
 ⟨⟨h.dk.ay.same (fun k hk=>hg.gr.block k (h.dk.ay.lt hk) (ha k hk)),hg.keeps h2 h.dk.bd (by decide) (by decide) (by decide) (by decide),(h.dk.gl.go hl2 hg).1,h.dk.low⟩,h.sh,h.l0,h.l1,h.c0,h.c1,h.len,h.good,h.use,h.r0,h.r1⟩
theorem DH.other {w w':World} {d:Nat} {s:ai} {n:Nat} {A:aN} {r:Int} {cu:Nat} {Uc G0 CA CB:Nat} {s2 GL:ai} {G4:Nat} {Jl:List (List Nat)} {A2:aN} {r2:Int} {n2 Ud:Nat}
  (h:DH w d s n A r cu) (h2:SA w Uc G0 CA CB s2 G4 Jl A2 r2 n2 Ud) (hg:ar (sS G0 CA CB) s2 GL w w') (ha:∀ k,s.own k->¬ oJ s2 G0 CA CB G4 k):DH w' d s n A r cu:=by
 have hb:∀ k,s.own k->w'.heap[k]? = w.heap[k]?:=fun k hk=>hg.gr.block k (h.dk.ay.lt hk) (fun e=>ha k hk (e.elim .inl (fun e=>.inr (.inl e))))
 have cX:Gl w':=h.dk.gl.same hg.gr.size (fun k hk=>hg.gr.block k (h.dk.gl.lt hk) (fun e=>by
  rcases e with e|e|e|e
  ·exact h2.sw.low k e hk
  ·exact h2.hG (e ▸ hk)
  ·exact h2.sw.rK (e ▸ hk)
  ·exact h2.sw.rJ (e ▸ hk)))
 exact ⟨⟨h.dk.ay.same hb,(hg.gr.block d (ax h.dk.bd) (h2.gh h.dk.bd (by decide) (by decide) (by decide) (by decide) (by decide) (by decide))).trans h.dk.bd,cX,h.dk.low⟩,h.sh,h.l0,h.l1,h.c0,h.c1,h.len,h.good,h.use,h.r0,h.r1⟩
theorem Qk3 (N:Nat) (s:ai) (d:Nat) (oa:Option Addr) (cc:Nat) (l:List dJ) (w:World) {A:aN} {r:Int} {n cu:Nat} (h:DH w d s n A r cu) (hl0:s.ds.R.left = -1) (hown:∀ k,s.own k->N<=k) (hl:dG N w oa l) (hn:n<=300000) (T:Nat) (hT:n+8<=T) (He:l.length<=1000000) (gi:cu+l.length * T<=89000000000) (PE:N<=w.heap.size) :
  Calls Tryz.prog 19 #[.pointer (some ⟨d,0,none⟩),.slice oa l.length cc] w fun e w'=>∃ xb c s',e = .returned (.tuple #[.pointer (some ⟨xb,0,none⟩),.pointer (some ⟨c,0,none⟩)])/\Below N w w'/\DH w' d s' n A r (cu+l.length * T)/\s'.ds.R.left = -1/\(∀ k,s'.own k->N<=k) /\
   ∃ sb cb tb cl so K,SA w' c xb sb cb so tb cl A r n T/\N<=K/\(∀ k,s'.own k->k<K)/\∀ k,oJ so xb sb cb tb k->K<=k:=by
 have yw:=aa h.ga;have H:=aa h;have HL:=aa hl;have HOW:=aa hown;clear h hl hown;go_enter Tryz.func19,Tryz.ntmps19;go_wp2_with fail
 go_loopw [6] (fun iv wr=>∃ (j:Nat) (s1:ai),iv = .int .i64 ((j:Nat):Int)/\j<=l.length/\DH wr d s1 n A r (cu+j * T)/\s1.ds.R.left = -1/\(∀ k,s1.own k->N<=k)/\Below N w wr) (fun iv _=>l.length - (intOf iv).toNat)
 case atStart=>exact ⟨0,s,rfl,Nat.zero_le _,H.out.mono (Nat.le_add_right _ _),hl0,HOW.out,Below.refl _ _⟩
 case round =>
  obtain ⟨j,s1,rfl,hj,Qb,nj,how,hbl⟩:=hrel;have xu:N<=wr.heap.size:=Nat.le_trans PE hbl.size;have hjT:j * T<=l.length * T:=Nat.mul_le_mul_right T hj;have QW:=aa Qb;have zL:=aa nj;have wN:=aa how;have GF:=aa hbl;have Jn:=HL.out.low hbl.block;clear Qb nj how
  by_cases hlt:j<l.length
  ·obtain ⟨g,o,rfl,hg,c0,c1,c2,hka,aF⟩:=Jn j hlt;generalize l.getD j BM=F at *;have d1:decide (((j:Nat):Int)<((l.length:Nat):Int))=true:=decide_eq_true (by omega);have lz:=aa (vy F.n 40 (by decide) (by decide) aF.1 aF.2);have HKA:=aa hka;clear hbl hka Jn;go_wp2_with fail;refine (lz.out _).mono ?_;rintro _ wp ⟨rfl,z6⟩;rw [z6];dsimp only;have hpl:=yq F.n 40 (by decide);generalize fY F.n 40=m at *;clear z6 lz;have NN:=aa (QtB QW.out m hpl);go_wp2_with fail;refine (NN.out).mono ?_;rintro _ w1 ⟨rfl,s2,hg2,mJ⟩;dsimp only;have pA:Below N wr w1:=hg2.low wN.out xu;have Ae:N<=w1.heap.size:=Nat.le_trans xu hg2.gr.size;have qi:=aa (hg2.qx wN.out xu);have jn:=aa (VY mJ hn (by omega));have cL:=aa (GF.out.trans pA);have pR:=aa (BL pA hg c1);have iM:=aa (BL pA hg c2);have Wl:=aa (kh.low HKA.out pA);clear mJ hg2 pA NN c0 c1 c2;go_wp2_with fail;refine (jn.out).mono ?_;rintro _ w2 ⟨s3,xb,sb,cb,tb,cl,rfl,hg3,nR, -, -⟩;dsimp only;have Af:Below N w1 w2:=hg3.low qi.out Ae;have De:N<=w2.heap.size:=Nat.le_trans Ae hg3.gr.size;have JT:=hg3.qx qi.out Ae;have NW:=kh.low Wl.out Af;have hdr:Below w2.heap.size w2 w2.drew:=(Below.refl _ _).drew;have Ag:Below N w2 w2.drew:=(Below.refl _ _).drew;have Ew:=aa (QpC (nR.later hdr) yw.out yw.out hn F.paths F.kv F.ks ((kh.low NW Ag).mono JT));have bA:=And.intro (BL Ag hg (BL Af hg pR.out)) (BL Ag hg (BL Af hg iM.out));have j7:=aa ((cL.out.trans Af).trans Ag);have Qp:=aa JT;clear Af JT NW hg3 nR jn pR iM hdr Ag;go_wp2_with fail
   go_region_held3 (fun w'=>w'.cell? ⟨g,o+j * 3+1,none⟩=some (.int .i64 F.paths)/\w'.cell? ⟨g,o+j * 3+2,none⟩=some F.kv) (first|exact bA|exact eb|go_keep) ((go_at_call 16;refine (Ew.out).mono ?_;rintro _ w3 ⟨rfl,s4,hg4,AW,hl4⟩;have AW:=AW.elim id id;have hb4:Below N w2.drew w3:=hg4.low Qp.out De;have eb:=And.intro (BL hb4 hg bA.1) (BL hb4 hg bA.2)))
   have Ez:=aa AW;have HL4:=aa hl4;have HO4:=aa (hg4.qx Qp.out De);have kI:=aa (j7.out.trans hb4);clear AW hl4 hg4 hb4 bA eb Ew;go_wp2_with fail;exact ⟨⟨j+1,s4,by simp,by omega,Ez.out.mono (by rw [Nat.succ_mul];omega),HL4.out,HO4.out,kI.out⟩,by simp only [intOf];omega⟩
  ·have eN:j=l.length:=by omega
   have d1:decide (((j:Nat):Int)<((l.length:Nat):Int))=false:=decide_eq_false (by omega);have mL:=aa (Qve QW.out hn);clear hbl Jn;go_wp2_with fail;refine (mL.out).mono ?_;rintro _ w1 ⟨c,so,rfl,hb1,hlc,hown,JX,td⟩;dsimp only;have jn:=aa (VY JX hn (by omega));have br:=aa hb1;have uN:=aa (QW.out.later hb1);have HIC:=aa JX.dk;have Wm:=aa hown;have HLC:=aa td;have Ae:N<=w1.heap.size:=Nat.le_trans xu hb1.size;have pB:=aa (show ∀ k,s1.own k->k<wr.heap.size from fun k hk=>QW.out.dk.ay.lt hk);clear hb1 JX hown td mL;go_wp2_with fail;refine (jn.out).mono ?_;rintro _ w2 ⟨s3,xb,sb,cb,tb,cl,rfl,hg3,nR,tU,tM⟩;dsimp only;have Pz:=aa ((tU HLC.out).1.mono (Nat.le_refl _) (show 0+n+8<=T by omega));have mJ:=uN.out.far HIC.out.ay HIC.out.low hg3 (fun k hk e=>by have:=pB.out k hk;have:=Wm.out k e;omega);have sT:=aa (mJ.mono (show cu+j * T<=cu+l.length * T by omega));have CN:=aa (show ∀ k,oJ s3 xb sb cb tb k->wr.heap.size<=k from fun k hk=>by
    have hz:=br.out.size
    rcases hk with e|e|e
    ·rcases hg3.own k e with e|e
     ·exact Wm.out k e
     ·omega
    ·rcases e with e|e|e<;>omega
    ·omega)
   have HBE:=aa ((GF.out.trans (br.out.mono xu)).trans (hg3.low (fun k hk=>Nat.le_trans xu (Wm.out k hk)) Ae));clear hg3 nR tU mJ tM jn;go_wp2_with fail;refine bodyPost_ret (results_tmp2 rfl _ _ _) rfl ?_;exact ⟨xb,c,s1,rfl,HBE.out,sT.out,zL.out,wN.out,sb,cb,tb,cl,s3,wr.heap.size,Pz.out,xu,pB.out,CN.out⟩
end Go.Proofs.YtncigfibncmioaaGreatDoor
namespace Go.Proofs.YtncigfibncmioaaGreatDoor
open Go.RowKit
theorem Qrd (w:World) (P Q:Obj):∃ W,W=(w.alloc P).alloc Q/\Below w.heap.size w W/\W.heap.size=w.heap.size+2/\W.heap[w.heap.size]? = some P/\W.heap[w.heap.size+1]? = some Q:=by
 refine ⟨_,rfl,((Below.refl _ _).alloc (Nat.le_refl _) _).alloc (by simp) _,by simp,?_,?_⟩
 ·have h1:(w.alloc P).heap[w.heap.size]? = some P:=heap_alloc_new _ _;exact (((Below.refl (w.alloc P).heap.size (w.alloc P)).alloc (Nat.le_refl _) Q).block _ (by simp)).trans h1
 ·have:=heap_alloc_new (w.alloc P) Q;rwa [size_alloc] at this
end Go.Proofs.YtncigfibncmioaaGreatDoor
namespace Go.Proofs.YtncigfibncmioaaGreatDoor
open Go.RowKit
theorem dG.up {N M:Nat} {w:World} {oa:Option Addr} {l:List dJ} (h:dG N w oa l) (hM:N<=M):dG M w oa l:=fun i hi=>by
 obtain ⟨g,o,e,hg,c0,c1,c2,hk,aF⟩:=h i hi;exact ⟨g,o,e,by omega,c0,c1,c2,hk.mono (fun k hk=>by omega),aF⟩
theorem Qtw {x:Int} (h:cE x):RowKit.wrap64 x=x:=by
 obtain ⟨h1,h2⟩:=h;unfold RowKit.wrap64;omega
theorem VM {x:Int} (h:cE x):cE (x.tdiv 2):=by
 obtain ⟨h1,h2⟩:=h
 rcases Int.le_total 0 x with h0|h0
 ·rw [Int.tdiv_eq_ediv_of_nonneg h0];exact ⟨by omega,by omega⟩
 ·have e:x.tdiv 2 = -((-x).tdiv 2):=by rw [Int.neg_tdiv,Int.neg_neg]
  rw [e,Int.tdiv_eq_ediv_of_nonneg (by omega)];exact ⟨by omega,by omega⟩
theorem Qrh (w:World) (oa:Option Addr) (cc:Nat) (l:List eJ) (k9 n9 b9:Int) (fn fp:Int) (kv:Value) (ks:List Int) (ob:Option Addr) (cd:Nat) (fl:List dJ) (little:Int) (hg:Gl w) (hl:jx w.heap.size w oa l) (ok9:cE k9) (on9:cE n9) (ob9:cE b9) (hka:kh (fun k=>w.heap.size<=k) w kv ks) (hfn : -9223372036854775808<=fn/\fn<=9223372036854775807) (gZ:dG w.heap.size w ob fl) (AU:cE little) (hn:l.length+fl.length<=262144) :
  Calls Tryz.prog 8 #[.slice oa l.length cc,.agg #[.int .i64 k9,.int .i64 n9,.int .i64 b9],.agg #[.int .i64 fn,.int .i64 fp,kv],.slice ob fl.length cd,.int .i64 little] w fun e w'=>e = .returned (.bool true)/\Below w.heap.size w w':=by
 obtain ⟨W,hW,iL,OD,gL,hr1⟩:=Qrd w (.cells #[.int .i64 k9,.int .i64 n9,.int .i64 b9] 31) (.cells #[.int .i64 fn,.int .i64 fp,kv] 50);have yV:=aa (Qrs W (hg.later iL));have HL:=aa (hl.low iL.block);have lz:=aa (vy fn 40 (by decide) (by decide) hfn.1 hfn.2);have hpl:=yq fn 40 (by decide);generalize fY fn 40=m at lz hpl;obtain ⟨z2,hz2,hp2⟩ : ∃ z:Int,(z=0∨z=1)/\∀ w,Calls Tryz.prog 21 #[.int .i64 little,.int .i64 2] w fun e w'=>e = .returned (.int .i64 z)/\w'=w:=⟨(fY little 2:Int),by have:=yq little 2 (by decide);omega,fun w=>vy little 2 (by decide) (by decide) AU.1 AU.2 w⟩
 have HP2:=aa hp2;have iK:=aa (show RowKit.wrap64 (little.tdiv 2)=little.tdiv 2 from Qtw (VM AU));have Qw:=aa (vy (little.tdiv 2) 5000 (by decide) (by decide) (VM AU).1 (VM AU).2);have VN:=yq (little.tdiv 2) 5000 (by decide);generalize fY (little.tdiv 2) 5000=p5 at Qw VN;have fH:=aa (And.intro ok9 (And.intro on9 ob9));obtain ⟨N,hN⟩ : ∃ N,N=w.heap.size:=⟨_,rfl⟩;rw [<- hN] at HL hka gZ iL gL hr1 ⊢;obtain ⟨M,hM⟩ : ∃ M,M=W.heap.size:=⟨_,rfl⟩;rw [<- hM] at yV;have hNM:N+2=M:=by omega
 have HK:=aa (show kh (fun k=>M<=k) W kv ks from (kh.low hka iL).mono (fun k hk=>by omega));have Ii:=aa (show dG M W ob fl from (gZ.low iL.block).up (by omega));have HN:=aa hN;have HM:=aa hM;have HW:=aa hW;have gG:=aa iL;have EJ:=aa gL;have ki:=aa hr1;obtain ⟨q,hq⟩ : ∃ q,q=l.length:=⟨_,rfl⟩;rw [<- hq] at hn ⊢;have HQ:=aa hq;clear hg hl hka gZ hN hq hW iL OD gL hr1 ok9 on9 ob9 hfn hM AU hp2;go_enter Tryz.func8,Tryz.ntmps8;go_upto_region 1 with fail
 rw [<- HW.out,<- HN.out];go_wp2_with fail;refine (yV.out).mono ?_;rintro _ w0 ⟨d0,x0,b0,c0,s0,t0,l0,rfl,hb0,hs0,Tk⟩;dsimp only;have Jd:M<=w0.heap.size:=by have:=hb0.size;have:=HM.out;omega
 have ir:=aa hb0;have HG0:=aa hs0.sw.gl;clear hb0 hs0 Tk yV;go_wp2_with fail;refine (HP2.out _).mono ?_;rintro _ wp ⟨rfl,z6⟩;rw [z6];dsimp only;clear z6 HP2
 rcases hz2 with rfl|rfl
 all_goals first
  | (go_wp2_with fail
     rw [iK.out];refine (Qw.out _).mono ?_;rintro _ wp ⟨rfl,z6⟩;rw [z6];dsimp only;clear z6 Qw;go_wp2_with fail;obtain ⟨r,hr⟩ : ∃ r:Int,r=(p5:Int):=⟨_,rfl⟩;have gL:0<=r:=by omega
     have hr1:r<=1099511627776:=by omega
     rw [<- hr];clear hr VN iK)
  | (go_wp2_with fail
     obtain ⟨r,hr⟩ : ∃ r:Int,r=1099511627776:=⟨_,rfl⟩;have gL:0<=r:=by omega
     have hr1:r<=1099511627776:=by omega
     rw [<- hr];clear hr VN Qw iK)
 all_goals (
  have DX:=aa (QfW w0 HG0.out r gL hr1);clear HG0;refine (DX.out).mono ?_;rintro _ w1 ⟨hb1,gp⟩;have hM1:M<=w1.heap.size:=Nat.le_trans Jd hb1.size;have br:=aa (ir.out.trans (hb1.mono Jd))
  rcases gp with ⟨rfl, -⟩|⟨d,xb,sb,cb,s1,t1,l1,rfl,hs1,rE⟩
  ·dsimp only;clear hb1 DX ir;go_wp2_with fail;go_ret;exact ⟨rfl,gG.out.trans (br.out.mono (show N<=M by omega))⟩
  dsimp only;have ij:=aa hs1;have rA:=aa (show ∀ k,oJ s1 xb sb cb t1 k->M<=k from fun k hk=>Nat.le_trans Jd (rE k hk));clear hb1 hs1 rE DX ir;go_wp2_with fail
  go_loopw [17] (fun iv wr=>∃ (j:Nat),j<=q/\iv = .int .i64 ((j:Nat):Int)/\Below M W wr/\M<=wr.heap.size/\∃ s tb cl A,SA wr d xb sb cb s tb cl A r (j+3) (100+j * 262300)/\∀ k,oJ s xb sb cb tb k->M<=k) (fun iv _=>q - (intOf iv).toNat)
  case atStart=>exact ⟨0,Nat.zero_le _,rfl,br.out,hM1,s1,t1,l1,A1,ij.out.mono (Nat.le_refl _) (by decide),rA.out⟩
  case round =>
   obtain ⟨j,hj,rfl,hb,Qx,s,tb,cl,A,h1,rE⟩:=hrel;have HB:=aa hb;have H1:=aa h1;have HF:=aa rE;clear h1 rE hb br ij rA
   by_cases hlt:j<q
   ·have eN:j<l.length:=by rw [<- HQ.out];exact hlt
    obtain ⟨b,o,rfl,hbN,hrg,aF⟩:=(HL.out.low (HB.out.mono (show N<=M by omega)).block) j eN;generalize l.getD j Mc=t at hrg aF;obtain ⟨K,M1,B⟩:=t;obtain ⟨okK,okM,okB⟩:=aF;have uN:=aa (QlD H1.out (by omega) (by omega) K M1 B okK okM okB);generalize (nY A K M1 B).run r A=X at uN;obtain ⟨X1,X2,X3⟩:=X;dsimp only at uN;have z7:(Tryz.prog.info? 31).map (·.size)=some ([.int .i64 K,.int .i64 M1,.int .i64 B]:List Value).length:=by show _=some 3;kernel_rfl
    have gm:=aa (show wr.rangeAt b (o+j * 3) [.int .i64 K,.int .i64 M1,.int .i64 B] from hrg);have d9:decide (((j:Nat):Int)<((q:Nat):Int))=true:=decide_eq_true (by omega);clear hrg eN;go_wp2_with (refine wpList_load_mid rfl 31 _ rfl b (o+j * 3) rfl [.int .i64 K,.int .i64 M1,.int .i64 B] _ gm.out Tryz.underlying31 rfl z7 ?_);refine (uN.out).mono ?_;rintro _ w3 ⟨rfl,s3,t3,l3,hg3,JP,h3⟩;dsimp only;have hf3:∀ k,oJ s3 xb sb cb t3 k->M<=k:=fun k hk=>by
     rcases QlA hg3 JP hk with hk|hk
     ·exact HF.out k hk
     ·omega
    have hb3:Below M wr w3:=hg3.jO (fun k hk=>HF.out k (hk.elim .inl (fun e=>.inr (.inl e)))) Qx;have De:M<=w3.heap.size:=Nat.le_trans Qx hb3.size;have eT:=aa h3;have j7:=aa (HB.out.trans hb3);have iW:=aa hf3;clear hg3 JP h3 hf3 hb3 uN gm H1 HF HB;go_wp2_with fail;exact ⟨⟨j+1,by omega,by simp,j7.out,De,s3,t3,l3,X3,eT.out.mono (by omega) (by omega),iW.out⟩,by simp only [intOf];omega⟩
   ·have d9:decide (((j:Nat):Int)<((q:Nat):Int))=false:=decide_eq_false (by omega);have hlen:=H1.out.len;have yw:=aa (show GA (j+4) A r from ⟨by omega,H1.out.good,H1.out.use⟩);have Qy:=aa (oQ.run (n:=j+3) H1.out.good hlen H1.out.use (QtG H1.out.good k9 n9 b9));have Qz:=aa (fun (V:World) (s2:ai) (h:SK V d xb sb cb s2 tb cl A r (j+3) (100+j * 262300))=>QpE h (by omega) (by omega) k9 n9 b9 fH.out.1 fH.out.2.1 fH.out.2.2);have iB:=aa (fun (V:World) (d2 x2 CA CB:Nat) (s2:ai) (G4:Nat) (Jl:List (List Nat)) (h:SA V d2 x2 CA CB s2 G4 Jl A r (j+3) 1)=>QlD h (by omega) (by omega) k9 n9 b9 fH.out.1 fH.out.2.1 fH.out.2.2);generalize (nY A k9 n9 b9).run r A=X at Qy Qz iB;obtain ⟨X1,X2,X3⟩:=X;dsimp only at Qy Qz iB;have ui:=aa (Py H1.out (by omega));generalize EY:GY A=QA at ui;have NK:=aa EY;clear hlen H1 fH EY;go_wp2_with fail;refine (ui.out).mono ?_;rintro _ w1 ⟨rfl,hg1,h1⟩;dsimp only;have hb1:Below M wr w1:=hg1.jO (fun k hk=>HF.out k (hk.elim .inl (fun e=>.inr (.inl e)))) Qx;have xu:M<=w1.heap.size:=Nat.le_trans Qx hb1.size;have br:=aa (HB.out.trans hb1);have ij:=aa h1;have pB:=aa h1.lt;have mL:=aa (QuO h1.dq (by omega));clear hg1 h1 hb1 ui HB;go_wp2_with fail;refine (mL.out).mono ?_;rintro _ w2 ⟨c2,so,rfl,hb2, -,CV,h2,hl2⟩;dsimp only;have hz2:=hb2.size;have fg:=aa (ij.out.later hb2);have cL:=aa (br.out.trans (hb2.mono xu));have nk:=aa (And.intro h2.dk.ay h2.dk.low);have qi:=aa CV;have Ex:=aa hl2;have jn:=aa (QuQ h2 (by omega) (by omega));clear hb2 CV h2 hl2 mL ij br;go_wp2_with fail;refine (jn.out).mono ?_;rintro _ w3 ⟨s3,x3,VO,VP,tb3,cl3,rfl,hg3, -,hs3,VQ⟩;dsimp only;have hs3:=hs3 Ex.out;have hX3:=fg.out.TS nk.out.1 nk.out.2 hg3 (fun k hk e=>by have:=pB.out k hk;have:=qi.out k e;omega);have hb3:Below w1.heap.size w2 w3:=hg3.low qi.out hz2;have hz3:=hb3.size;have j7:=aa (cL.out.trans (hb3.mono xu));have hf3:∀ k,oJ s3 x3 VO VP tb3 k->w1.heap.size<=k:=fun k hk=>by
     rcases hk with e|e|e
     ·exact hg3.qx qi.out hz2 k e
     ·rcases e with e|e|e<;>omega
     ·omega
    have fF:=aa hX3;have Iw:=aa hs3;have iW:=aa hf3;have PF:=aa (iB.out w3 c2 x3 VO VP s3 tb3 cl3 hs3);have eE:=aa (show w3.heap[N]? = some (.cells #[.int .i64 k9,.int .i64 n9,.int .i64 b9] 31 (0,0)) from (j7.out.block N (by omega)).trans EJ.out);have z7:(Tryz.prog.info? 31).map (·.size)=some (#[.int .i64 k9,.int .i64 n9,.int .i64 b9]:Array Value).size:=by show _=some 3;kernel_rfl
    clear hg3 hs3 hX3 hb3 hf3 VQ jn fg cL nk qi Ex iB;go_wp2_with (refine wpList_load_row rfl 31 _ rfl N rfl 31 _ _ _ eE.out Tryz.underlying31 rfl z7 ?_);refine (PF.out).mono ?_;rintro _ w4 ⟨rfl,s4,JW,QB,hg4,Df,h4⟩;dsimp only;have hX4:=fF.out.other Iw.out hg4 (fun k hk e=>by have:=pB.out k hk;have:=iW.out k e;omega);have De:M<=w3.heap.size:=by omega
    have RD:∀ k,oJ s4 x3 VO VP JW k->w1.heap.size<=k:=fun k hk=>by
     rcases QlA hg4 Df hk with hk|hk
     ·exact iW.out k hk
     ·omega
    have hb4:Below w1.heap.size w3 w4:=hg4.jO (fun k hk=>iW.out k (hk.elim .inl (fun e=>.inr (.inl e)))) (by omega);have oy:=hb4.size;have kI:=aa (j7.out.trans (hb4.mono xu));have lM:=aa hX4;have HT4:=aa h4;have jS:=aa RD;have ui:=aa (Py h4 (by omega));generalize EY:GY X3=SH3 at ui;have NL:=aa EY;clear hg4 Df h4 hX4 RD hb4 EY PF eE fF Iw iW j7;go_wp2_with fail;refine (ui.out).mono ?_;rintro _ w5 ⟨rfl,dR, -⟩;dsimp only;have hX5:=lM.out.other HT4.out dR (fun k hk e=>by have:=pB.out k hk;have:=jS.out k e;omega);have bI:Below w1.heap.size w4 w5:=dR.jO (fun k hk=>jS.out k (hk.elim .inl (fun e=>.inr (.inl e)))) (by omega);have NM:M<=w5.heap.size:=by have:=bI.size;omega
    have lN:=aa (kI.out.trans (bI.mono xu));have NN:=aa (QtF hX5 m hpl);have e0:w5.cell? ⟨N+1,0,none⟩=some (.int .i64 fn):=cell_of_row _ _ 0 _ _ _ ((lN.out.block (N+1) (by omega)).trans ki.out);clear dR hX5 bI hz2 hz3 oy ui lM HT4 jS kI pB;go_wp2_with fail;refine (lz.out _).mono ?_;rintro _ wp ⟨rfl,z6⟩;rw [z6];dsimp only;clear z6 lz e0;go_wp2_with fail;refine (NN.out).mono ?_;rintro _ w6 ⟨rfl,s6,bQ,h6⟩;dsimp only;have ig:Below M w5 w6:=bQ.low (fun k hk=>HF.out k (.inl hk)) NM;have hN6:M<=w6.heap.size:=Nat.le_trans NM ig.size;have oV:=aa (lN.out.trans ig);have Mb:=aa (Qz.out _ s6 h6);have vt:=aa (show ∀ k,s6.own k∨sS xb sb cb k->M<=k from fun k hk=>by
     rcases hk with e|e
     ·exact bQ.qx (fun k hk=>HF.out k (.inl hk)) NM k e
     ·exact HF.out k (.inr (.inl e)))
    have eE:=aa (show w6.heap[N]? = some (.cells #[.int .i64 k9,.int .i64 n9,.int .i64 b9] 31 (0,0)) from (oV.out.block N (by omega)).trans EJ.out);clear bQ h6 ig NN Qz lN HF;go_wp2_with (refine wpList_load_row rfl 31 _ rfl N rfl 31 _ _ _ eE.out Tryz.underlying31 rfl z7 ?_);refine (Mb.out).mono ?_;rintro _ w7 ⟨tx,kx,rfl,s7,k6,h7⟩;dsimp only;have jT:Below M w6 w7:=k6.jO vt.out hN6;have VR:M<=w7.heap.size:=Nat.le_trans hN6 jT.size;have sY:=aa (oV.out.trans jT);have VS:∀ k,s7.own k->M<=k:=fun k hk=>(k6.own k hk).elim (fun e=>vt.out k (.inl e)) (fun e=>by omega)
    have FY:=aa VS;have Ew:=aa (QpC h7 yw.out Qy.out (by omega) fp kv ks ((kh.low HK.out sY.out).mono VS));have wU:w7.heap[N+1]? = some (.cells #[.int .i64 fn,.int .i64 fp,kv] 50 (0,0)):=(sY.out.block (N+1) (by omega)).trans ki.out;have e1:w7.cell? ⟨N+1,1,none⟩=some (.int .i64 fp):=cell_of_row _ _ 1 _ _ _ wU;have e2:w7.cell? ⟨N+1,2,none⟩=some kv:=cell_of_row _ _ 2 _ _ _ wU;clear k6 h7 jT VS wU Mb oV vt eE z7 yw Qy;go_wp2_with fail;refine (Ew.out).mono ?_;rintro _ w8 ⟨rfl,s8,jL,QD,Fv⟩;dsimp only;have gR:Below M w7 w8:=jL.low FY.out VR;have hN8:M<=w8.heap.size:=Nat.le_trans VR gR.size;have Bk:=aa (sY.out.trans gR);obtain ⟨A2,hA2,QD⟩ : ∃ A2,(GY A2=QA∨GY A2=SH3)/\DH w8 d s8 (j+3+1) A2 r (100+j * 262300+(j+3)+20):=QD.elim (fun h=>⟨_,.inl NK.out,h⟩) (fun h=>⟨_,.inr NL.out,h⟩);have HRO:=aa (Qk3 M s8 d ob cd fl w8 QD Fv (jL.qx FY.out VR) (Ii.out.low Bk.out.block) (by omega) 262300 (by omega) (by omega) (by omega) hN8);have VT:=aa hA2;clear jL QD Fv gR e1 e2 hA2 Ew FY sY NK NL;go_wp2_with fail;refine (HRO.out).mono ?_;rintro _ w9 ⟨x9,c9,s9,rfl,A8,h9,QE,ho9,sb9,cb9,tb9,cl9,so9,K9,VU,QF,hlK,hfK⟩;dsimp only;have hN9:M<=w9.heap.size:=Nat.le_trans hN8 A8.size;have HB9:=aa (Bk.out.trans A8);have ui:=aa (Py VU (by omega));generalize EY:GY A2=QG at ui VT;have NP:=aa EY;have H9:=aa h9;have HS9:=aa VU;have VV:=aa ho9;have HL9:=aa QE;have di:=aa hlK;have QH:=aa hfK;clear A8 h9 QE ho9 VU hlK hfK EY HRO Bk;go_wp2_with fail;refine (ui.out).mono ?_;rintro _ wa ⟨rfl,VW,tU⟩;dsimp only;have yu:=H9.out.other HS9.out VW (fun k hk e=>by have:=di.out k hk;have:=QH.out k e;omega);have nB:Below M w9 wa:=VW.jO (fun k hk=>Nat.le_trans QF (QH.out k (hk.elim .inl (fun e=>.inr (.inl e))))) hN9;have hNa:M<=wa.heap.size:=Nat.le_trans hN9 nB.size;have HBa:=aa (HB9.out.trans nB);have HDa:=aa yu;have QI:=aa tU.dq;have HV:=aa (Qm5 tU.dq (by omega));clear VW tU yu nB ui HB9 H9 HS9;go_wp2_with fail;refine (HV.out).mono ?_;rintro _ wb ⟨rfl,hgb⟩;dsimp only;have aF:∀ k,so9.own k->K9<=k:=fun k hk=>QH.out k (.inl hk)
    have vu:=HDa.out.far QI.out.dk.ay QI.out.dk.low hgb (fun k hk e=>by have:=di.out k hk;have:=aF k e;omega);have nw:Below M wa wb:=hgb.low (fun k hk=>Nat.le_trans QF (aF k hk)) hNa;have hNb:M<=wb.heap.size:=Nat.le_trans hNa nw.size;have QJ:=aa (HBa.out.trans nw);have HDb:=aa vu;have QK:=aa (QI.out.go hgb);have rv:=aa (QhT M fp kv ks QK.out (by omega) (fun k hk=>Nat.le_trans QF (aF k hk)) hNb (kh.low HK.out QJ.out));have wU:wb.heap[N+1]? = some (.cells #[.int .i64 fn,.int .i64 fp,kv] 50 (0,0)):=(QJ.out.block (N+1) (by omega)).trans ki.out;have e1:wb.cell? ⟨N+1,1,none⟩=some (.int .i64 fp):=cell_of_row _ _ 1 _ _ _ wU;have e2:wb.cell? ⟨N+1,2,none⟩=some kv:=cell_of_row _ _ 2 _ _ _ wU;have fH:=aa aF;clear hgb vu nw wU aF HV HBa HDa QI;go_wp2_with fail;refine (rv.out).mono ?_;rintro _ wc ⟨rfl,sc,NH, -, -⟩;dsimp only;have JX:=HDb.out.far QK.out.dk.ay QK.out.dk.low NH (fun k hk e=>by have:=di.out k hk;have:=fH.out k e;omega);have jK:Below M wb wc:=NH.low (fun k hk=>Nat.le_trans QF (fH.out k hk)) hNb;have VX:M<=wc.heap.size:=Nat.le_trans hNb jK.size;have HBc:=aa (QJ.out.trans jK);have jn:=aa (VY JX (by omega) (by omega));have VZ:(QG.toList == QA.toList)=true∨((QG.toList == QA.toList)=false/\(QG.toList == SH3.toList)=true):=by
     rcases VT.out with e|e
     ·left;rw [e];simp
     ·cases hc:(QG.toList == QA.toList) with
      | true=>exact .inl rfl
      | false=>right;rw [e];simp
    clear NH JX jK e1 e2 rv HDb QK QJ VT di QH fH
    rcases VZ with h7|⟨h7,h8⟩
    all_goals (
     go_wp2_with fail;refine (jn.out).mono ?_;rintro _ wd ⟨s13,kJ,V0,V1,V2,aaC,rfl,hgd, -,xC,V3⟩;dsimp only;obtain ⟨xC, -⟩:=xC HL9.out;have jI:Below M wc wd:=hgd.low VV.out VX;have hNd:M<=wd.heap.size:=Nat.le_trans VX jI.size;have HBd:=aa (HBc.out.trans jI);have V4:=aa (show ∀ k,oJ s13 kJ V0 V1 V2 k->M<=k from fun k hk=>by
      rcases hk with e|e|e
      ·exact hgd.qx VV.out VX k e
      ·rcases e with e|e|e<;>omega
      ·omega)
     have ui:=aa (Py xC (by omega));rw [NP.out] at ui;clear hgd xC jI V3 jn HBc VV HL9 NP;go_wp2_with fail;refine (ui.out).mono ?_;rintro _ we ⟨rfl,rM,iY⟩;dsimp only;have pA:Below M wd we:=rM.jO (fun k hk=>V4.out k (hk.elim .inl (fun e=>.inr (.inl e)))) hNd;have hNe:M<=we.heap.size:=Nat.le_trans hNd pA.size;have QL:=aa (HBd.out.trans pA);have V5:=aa (show ∀ k,s13.own k->M<=k from fun k hk=>V4.out k (.inl hk));have rv:=aa (QhT M fp kv ks iY.dq (by omega) V5.out hNe (kh.low HK.out QL.out));have wU:we.heap[N+1]? = some (.cells #[.int .i64 fn,.int .i64 fp,kv] 50 (0,0)):=(QL.out.block (N+1) (by omega)).trans ki.out;have e1:we.cell? ⟨N+1,1,none⟩=some (.int .i64 fp):=cell_of_row _ _ 1 _ _ _ wU;have e2:we.cell? ⟨N+1,2,none⟩=some kv:=cell_of_row _ _ 2 _ _ _ wU;clear rM iY pA wU ui HBd V4;go_wp2_with fail;refine (rv.out).mono ?_;rintro _ wf ⟨rfl,sf,Bp, -, -⟩;dsimp only;have HBf:=aa (QL.out.trans (Bp.low V5.out hNe));clear Bp rv QL V5 e1 e2;go_wp2_with fail;go_ret;exact ⟨rfl,gG.out.trans (HBf.out.mono (show N<=M by omega))⟩))
end Go.Proofs.YtncigfibncmioaaGreatDoor
