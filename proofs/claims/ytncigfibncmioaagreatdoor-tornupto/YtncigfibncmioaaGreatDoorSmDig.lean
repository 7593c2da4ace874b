/-
  PROVED HERE: what Publish of the program's store does where there was neither the content nor a tag.
-/
import Derived.Test.YtncigfibncmioaaGreatDoorBsKept
import Derived.Test.YtncigfibncmioaaGreatDoorStLock
import Derived.Test.YtncigfibncmioaaGreatDoorParse
set_option maxHeartbeats 2000000
set_option maxRecDepth 100000
namespace Go.Proofs.YtncigfibncmioaaGreatDoor
open Go.RowKit Go.MuLone
def dx (w:World) (xb sb:Nat) (n:Int):Prop:=w.heap[xb]? = some (.cells #[.int .i32 n,.int .u32 0,.pointer (some ⟨sb,0,none⟩)] 108 (0,0))
theorem aI.lock {W:World} {sb:Nat} {s:ai} {cb tb nc nt xb:Nat} {Dc Dt:DataW Value} {n:Int} {v:Value} (h:aI W sb s cb tb nc nt Dc Dt) (hb:dx W xb sb n) (hG:¬ gj xb):aI (W.setCell ⟨xb,0,none⟩ v) sb s cb tb nc nt Dc Dt :=
 h.put hb (by decide) (h.ay.same (fun k hk=>heap_setCell_other _ _ _ _ (fun e=>by
  have e:k=xb:=e;subst e
  rcases h.ay.typed hk hb with h3|h3|h3|h3<;>exact absurd h3 (by decide)))) hG
theorem dx.set {W:World} {xb sb:Nat} {n:Int} (h:dx W xb sb n) (m:Int):dx (W.setCell ⟨xb,0,none⟩ (.int .i32 m)) xb sb m:=by
 unfold dx;rw [heap_setCell_same _ xb 0 _ _ _ h];rfl
theorem dx.later {W W':World} {xb sb:Nat} {n:Int} (h:dx W xb sb n) (hb:Below W.heap.size W W'):dx W' xb sb n:=(hb.block _ (ax h)).trans h
end Go.Proofs.YtncigfibncmioaaGreatDoor
namespace Go.Proofs.YtncigfibncmioaaGreatDoor
open Go.RowKit Go.MuLone
theorem Kf (xb sb:Nat) (s:ai) (cb tb nc nt:Nat) (Dc Dt:DataW Value) (text:ByteArray) (n:Int) (w:World) (hx:dx w xb sb n) (h:aI w sb s cb tb nc nt Dc Dt) (hu:xE Dc) (hd:fE text=true) (hh:Maps.has Dc (dy (rd text))=true) :
  Calls Tryz.prog 69 #[.pointer (some ⟨xb,0,none⟩),.string text] w fun e w'=>e = .returned (.tuple #[.agg (ah (rd text)),.int .i64 0])/\Below w.heap.size w w':=by
 have na:=aa (fun W=>Kh text W);rw [hd] at na;have sB:=aa (fun W (hb:Below w.heap.size w W)=>Xj sb s cb tb nc nt Dc Dt (rd text) W (h.later hb) hu (jm text) (sA text));rw [hh] at sB;have aJ:=jm text;generalize rd text=ds at *;have HX:=aa hx;have HST:=aa h;clear hx h hu hd hh;go_enter Tryz.func69,Tryz.ntmps69;go_upto_region 2 with (first|(go_at_call 109;refine (na.out _).mono ?_;rintro _ w1 ⟨rfl,hb1⟩)|(refine wpList_store_row rfl 117 _ _ rfl w1.heap.size _ rfl rfl 117 _ (heap_alloc_new _ _) (bL _ aJ) (by rw [aY,aJ];rfl) (dQ _) ?_;rw [World.setRow_alloc_new]))
 have hz0:(w.alloc (.cells (ah (Sha.zeros 32)) 117)).heap[w.heap.size]? = some (.cells (ah (Sha.zeros 32)) 117 (0,0)):=heap_alloc_new _ _;have hb0:Below w.heap.size w (w.alloc (.cells (ah (Sha.zeros 32)) 117)):=(Below.refl _ _).alloc (Nat.le_refl _) _;have hr1:w1.heap[w.heap.size]? = some (.cells (ah (Sha.zeros 32)) 117 (0,0)):=(hb1.block _ (ax hz0)).trans hz0;have gJ:Below w.heap.size w w1:=hb0.trans (hb1.mono hb0.size);obtain ⟨W,hW⟩ : ∃ W,W=w1.alloc (.cells (ah ds) 117):=⟨_,rfl⟩;have sD:Below w1.heap.size w1 W:=by rw [hW];exact (Below.refl _ _).alloc (Nat.le_refl _) _
 have hrow:W.heap[w1.heap.size]? = some (.cells (ah ds) 117 (0,0)):=by rw [hW];exact heap_alloc_new _ _
 have iI:=(sD.block _ (ax hr1)).trans hr1;have iL:Below w.heap.size w W:=gJ.trans (sD.mono gJ.size);have Bo:=ax hr1;rw [<- hW];have c2:W.cell? ⟨xb,2,none⟩=some (.pointer (some ⟨sb,0,none⟩)):=cell_of_row _ _ 2 _ _ _ (HX.out.later iL);have gG:=aa iL;have aA:=aa hrow;have gm:=aa iI;obtain ⟨db,vu⟩ : ∃ db,db=w1.heap.size:=⟨_,rfl⟩;obtain ⟨rb,mZ⟩ : ∃ rb,rb=w.heap.size:=⟨_,rfl⟩;rw [<- vu] at aA Bo ⊢;rw [<- mZ] at gm Bo ⊢;have vv:=aa mZ;clear iL hrow iI sD hz0 hb0 hr1 gJ hb1 hW vu mZ na;go_wp2_with (refine wpList_load_row rfl 117 _ rfl db rfl 117 _ _ _ aA.out Tryz.underlying117 rfl (bL _ aJ) ?_);have hdr:Below W.heap.size W W.drew:=(Below.refl _ _).drew;have bA:W.drew.cell? ⟨xb,2,none⟩=some (.pointer (some ⟨sb,0,none⟩))/\W.drew.rangeAt db 0 (ah ds).toList:=⟨cell_later hdr c2,eF ((hdr.block _ (ax aA.out)).trans aA.out)⟩;have u72:=Tryz.underlying117;have i72:=jl ds aJ;have xK:=aa (sB.out W.drew (gG.out.trans (hdr.mono gG.out.size)))
 go_region_held3 (fun w'=>w'.cell? ⟨xb,2,none⟩=some (.pointer (some ⟨sb,0,none⟩))/\w'.rangeAt db 0 (ah ds).toList) (first|exact bA|exact eb|go_keep) ((go_at_call 110;refine (xK.out).mono ?_;rintro _ w3 ⟨rfl,hb3⟩;have hb4:Below W.heap.size W w3:=hdr.trans hb3;have hr3:=(hb4.block _ (ax aA.out)).trans aA.out;have eb:=And.intro (cell_later hb4 c2) (eF hr3)))
 have nD:=(hb4.block _ (ax gm.out)).trans gm.out;have oz:=aa hr3;have vx:=aa nD;have kI:=aa (gG.out.trans (hb4.mono gG.out.size));clear bA eb hr3 nD hb3 hb4 hdr c2 sB xK u72 i72;go_wp2_with (first|(refine wpList_load_row rfl 117 _ rfl db rfl 117 _ _ _ oz.out Tryz.underlying117 rfl (bL _ aJ) ?_)|(refine wpList_store_row rfl 117 _ _ rfl rb _ rfl rfl 117 _ vx.out (bL _ aJ) (by simp only [aY,aJ,Sha.af]) (dQ _) ?_));have Rb:=kI.out.setRow (g:=rb) (by have:=vv.out;omega) (ah ds);exact bodyPost_ret (results_cell_tmp Tryz.results69 _ _ rb 117 _ (0,0) _ (.int .i64 0) rfl rfl (setRow_heap _ _ _ _ _ _ vx.out) Tryz.underlying117 rfl (bL _ aJ)) rfl ⟨rfl,Rb⟩
end Go.Proofs.YtncigfibncmioaaGreatDoor
namespace Go.Proofs.YtncigfibncmioaaGreatDoor
open Go.RowKit Go.MuLone Go.Shelf Go.Maps Go.Sort
theorem Xg {w:World} {xb sb B size n:Nat} {e:TypeId} {v u:Value} {xs:List Value} {m:Int} (h:w.ownsRow B e size v n xs) (hx:dx w xb sb m) (he:e≠108):(w.setCell ⟨xb,0,none⟩ u).ownsRow B e size v n xs:=by
 obtain ⟨hlen,h2⟩:=h;refine ⟨hlen,?_⟩
 rcases h2 with h2|⟨g,cap,cur,rfl,h3,hg,h4⟩
 ·exact .inl h2
 ·exact .inr ⟨g,cap,cur,rfl,h3,(heap_setCell_other _ _ _ _ (by simpa using ja hg hx he)).trans hg,h4⟩
end Go.Proofs.YtncigfibncmioaaGreatDoor
namespace Go.Proofs.YtncigfibncmioaaGreatDoor
open Go.RowKit Go.MuLone
theorem Xi (xb sb:Nat) (s:ai) (cb tb nc nt:Nat) (Dc Dt:DataW Value) (text:ByteArray) (n:Int) (w:World) (hx:dx w xb sb n) (h:aI w sb s cb tb nc nt Dc Dt) (hu:xE Dc) (hd:fE text=true) (hh:Maps.has Dc (dy (rd text))=false) :
  Calls Tryz.prog 69 #[.pointer (some ⟨xb,0,none⟩),.string text] w fun e w'=>e = .returned (.tuple #[.agg (ah (Sha.zeros 32)),.int .i64 10])/\Below w.heap.size w w':=by
 have na:=aa (fun W=>Kh text W);rw [hd] at na;have sB:=aa (fun W (hb:Below w.heap.size w W)=>Xj sb s cb tb nc nt Dc Dt (rd text) W (h.later hb) hu (jm text) (sA text));rw [hh] at sB;have aJ:=jm text;generalize rd text=ds at *;have HX:=aa hx;have HST:=aa h;clear hx h hu hd hh;go_enter Tryz.func69,Tryz.ntmps69;go_upto_region 2 with (first|(go_at_call 109;refine (na.out _).mono ?_;rintro _ w1 ⟨rfl,hb1⟩)|(refine wpList_store_row rfl 117 _ _ rfl w1.heap.size _ rfl rfl 117 _ (heap_alloc_new _ _) (bL _ aJ) (by rw [aY,aJ];rfl) (dQ _) ?_;rw [World.setRow_alloc_new]))
 have hz0:(w.alloc (.cells (ah (Sha.zeros 32)) 117)).heap[w.heap.size]? = some (.cells (ah (Sha.zeros 32)) 117 (0,0)):=heap_alloc_new _ _;have hb0:Below w.heap.size w (w.alloc (.cells (ah (Sha.zeros 32)) 117)):=(Below.refl _ _).alloc (Nat.le_refl _) _;have hr1:w1.heap[w.heap.size]? = some (.cells (ah (Sha.zeros 32)) 117 (0,0)):=(hb1.block _ (ax hz0)).trans hz0;have gJ:Below w.heap.size w w1:=hb0.trans (hb1.mono hb0.size);obtain ⟨W,hW⟩ : ∃ W,W=w1.alloc (.cells (ah ds) 117):=⟨_,rfl⟩;have sD:Below w1.heap.size w1 W:=by rw [hW];exact (Below.refl _ _).alloc (Nat.le_refl _) _
 have hrow:W.heap[w1.heap.size]? = some (.cells (ah ds) 117 (0,0)):=by rw [hW];exact heap_alloc_new _ _
 have iI:=(sD.block _ (ax hr1)).trans hr1;have iL:Below w.heap.size w W:=gJ.trans (sD.mono gJ.size);have Bo:=ax hr1;rw [<- hW];have c2:W.cell? ⟨xb,2,none⟩=some (.pointer (some ⟨sb,0,none⟩)):=cell_of_row _ _ 2 _ _ _ (HX.out.later iL);have gG:=aa iL;have aA:=aa hrow;have gm:=aa iI;obtain ⟨db,vu⟩ : ∃ db,db=w1.heap.size:=⟨_,rfl⟩;obtain ⟨rb,mZ⟩ : ∃ rb,rb=w.heap.size:=⟨_,rfl⟩;rw [<- vu] at aA Bo ⊢;rw [<- mZ] at gm Bo ⊢;have vv:=aa mZ;clear iL hrow iI sD hz0 hb0 hr1 gJ hb1 hW vu mZ na;go_wp2_with (refine wpList_load_row rfl 117 _ rfl db rfl 117 _ _ _ aA.out Tryz.underlying117 rfl (bL _ aJ) ?_);have hdr:Below W.heap.size W W.drew:=(Below.refl _ _).drew;have bA:W.drew.cell? ⟨xb,2,none⟩=some (.pointer (some ⟨sb,0,none⟩))/\W.drew.rangeAt db 0 (ah ds).toList:=⟨cell_later hdr c2,eF ((hdr.block _ (ax aA.out)).trans aA.out)⟩;have u72:=Tryz.underlying117;have i72:=jl ds aJ;have xK:=aa (sB.out W.drew (gG.out.trans (hdr.mono gG.out.size)))
 go_region_held3 (fun w'=>w'.cell? ⟨xb,2,none⟩=some (.pointer (some ⟨sb,0,none⟩))/\w'.rangeAt db 0 (ah ds).toList) (first|exact bA|exact eb|go_keep) ((go_at_call 110;refine (xK.out).mono ?_;rintro _ w3 ⟨rfl,hb3⟩;have hb4:Below W.heap.size W w3:=hdr.trans hb3;have hr3:=(hb4.block _ (ax aA.out)).trans aA.out;have eb:=And.intro (cell_later hb4 c2) (eF hr3)))
 have nD:=(hb4.block _ (ax gm.out)).trans gm.out;have oz:=aa hr3;have vx:=aa nD;have kI:=aa (gG.out.trans (hb4.mono gG.out.size));clear bA eb hr3 nD hb3 hb4 hdr c2 sB xK u72 i72;go_wp2_with (refine wpList_store_row rfl 117 _ _ rfl rb (ah (Sha.zeros 32)) rfl rfl 117 _ vx.out (bL _ (Sha.af _)) rfl (dQ _) ?_);have Rb:=kI.out.setRow (g:=rb) (by have:=vv.out;omega) (ah (Sha.zeros 32));exact bodyPost_ret (results_cell_tmp Tryz.results69 _ _ rb 117 _ (0,0) _ (.int .i64 10) rfl rfl (setRow_heap _ _ _ _ _ _ vx.out) Tryz.underlying117 rfl (bL _ (Sha.af _))) rfl ⟨rfl,Rb⟩
end Go.Proofs.YtncigfibncmioaaGreatDoor
namespace Go.Proofs.YtncigfibncmioaaGreatDoor
open Go.RowKit Go.Shelf Go.Maps Go.Sort
attribute [local go_sem] Oper.semAt_some
theorem keys_in (F:Fence) (n:Nat) (hf:F.fn 105) (hro:F.round=none) (mb:Option Nat) (w:World) :
  CallsIn F n Tryz.prog 105 #[.map mb] w fun e w'=>e = .returned (.func (.func 161) #[] #[.pointer (some ⟨w.heap.size,0,none⟩)])/\w'=w.alloc (.cells #[.map mb] 156):=by
 refine callsIn_of_wp Tryz.func105 rfl hf ?_ hro;simp only [Tryz.ntmps105,List.size_toArray,List.length_cons,List.length_nil,Nat.reduceAdd,Nat.reduceSub,Array.replicate_succ,Array.replicate_zero,List.push_toArray,List.append_toArray,List.nil_append,List.cons_append]
 gi_wp2
 go_ret;exact ⟨rfl,rfl⟩
end Go.Proofs.YtncigfibncmioaaGreatDoor
namespace Go.Proofs.YtncigfibncmioaaGreatDoor
open Go.RowKit
structure rS (w:World) (d:Nat) (s:ai):Prop where
 ay:s.In w
 bd:BD w d s.b
 gl:Gl w
 low:fN s
theorem rS.go {w w':World} {d:Nat} {s s':ai} (h:rS w d s) (hg:aC s s' w w'):rS w' d s':=by
 obtain ⟨g1,g2⟩:=h.gl.go h.low hg;refine ⟨hg.ay,?_,g1,g2⟩;unfold BD;rw [hg.b];exact hg.keeps h.ay h.bd (by decide) (by decide) (by decide) (by decide)
theorem rS.later {w w':World} {d:Nat} {s:ai} (h:rS w d s) (hb:Below w.heap.size w w'):rS w' d s:=h.go (aC.refl h.ay hb)
theorem YS (s:ai) (d:Nat) (n:Int) (w:World) (h:rS w d s) (hn:0<=n) :
  Calls Tryz.prog 20 #[.pointer (some ⟨d,0,none⟩),.int .i64 n] w fun e w'=>e = .returned (.int .i64 0)/\∃ s',aC s s' w w'/\s'.ds=⟨{ s.R with left:=n },s.fs,s.fd⟩:=by
 refine (QtX s d n w 0 (fun s1=>s1 = { s with R:={ s.R with left:=n } }) h.bd h.gl.err ((QsF s n w h.ay).mono ?_)).mono ?_
 ·rintro e w' ⟨v,rfl,_,h2⟩;exact ⟨v,rfl,h2 (by omega)⟩
 ·rintro e w' ⟨rfl,_,h2⟩;obtain ⟨s1,hg,rfl⟩:=h2 rfl;exact ⟨rfl,_,hg,rfl⟩
def ai.cut (s:ai):ai:={ s with fs:=s.R.now.map DE.blk }
theorem ai.In.cut {s:ai} {w:World} (h:s.In w) (h1:s.R.safe=s.R.now) (h2:s.R.aw = []):s.cut.In w:=by
 have hm:∀ f∈s.cut.fs,f∈s.fs:=fun f hf=>by
  obtain ⟨e,he,rfl⟩:=List.mem_map.1 hf;exact h.cK e he
 refine ⟨h.is,fun f hf=>h.fds f (hm f hf),fun f hf g hg=>h.sep f (hm f hf) g (hm g hg),fun e he=>List.mem_map.2 ⟨e,he,rfl⟩,fun e he=>?_,fun c hc=>?_⟩
 ·have he:e∈s.R.safe:=he;rw [h1] at he;exact List.mem_map.2 ⟨e,he,rfl⟩
 ·have hc:c∈s.R.aw:=hc;rw [h2] at hc
  cases hc
theorem ai.In.yi {s:ai} {w:World} (h:s.In w) {k:Nat} (hk:s.cut.own k):s.own k:=by
 have hm:∀ f∈s.cut.fs,f∈s.fs:=fun f hf=>by
  obtain ⟨e,he,rfl⟩:=List.mem_map.1 hf;exact h.cK e he
 rcases hk with e|e|e|e|e|⟨f,hf,e⟩
 ·exact .inl e
 ·exact .inr (.inl e)
 ·exact .inr (.inr (.inl e))
 ·exact .inr (.inr (.inr (.inl e)))
 ·exact .inr (.inr (.inr (.inr (.inl (hm _ e)))))
 ·exact .inr (.inr (.inr (.inr (.inr ⟨f,hm f hf,e⟩))))
theorem RF:∀ {l:List DE},bZ l->∀ e∈l,aO e.path l=some e.blk
 | [],_,e,he=>by cases he
 | a::l,hr,e,he=>by
  have h1:=List.pairwise_cons.1 hr;show (if a.path=e.path then some a.blk else aO e.path l)=_
  rcases List.mem_cons.1 he with rfl|he
  ·rw [if_pos rfl]
  ·rw [if_neg (pg (h1.1 e he))];exact RF h1.2 e he
theorem au.DI {D:DS} {L C B:Nat} (h:au D L C B) (hd:∀ f∈D.fs,dA 36 (D.fd f)):au D L C 36:=⟨h.len,h.c0,h.c1,h.l0,h.l1,h.r0,h.r1,hd,h.ql,h.inv,h.cK,h.cH,h.er,h.rise⟩
theorem Qp0 {D D':DS} {k:Int} {C:Nat} (h:Er D) (hr:36<=D.R.room) (hf:au D 6 C 36) (hb:KS D k D'):au D' 30 (C+30) 36:=by
 obtain ⟨rfl,_,ea,_⟩:=YX h hr hb;have kP:=hf.cz;have oD:=DJ (fun _=>true) D.R.now;have wU:=DJ eW D.R.now
 rcases hb with ⟨_,h2⟩|⟨_,h2⟩
 ·rcases h2 with ⟨_,h2,_⟩|⟨_,k1,m,D1,h3,h4⟩
  ·exact absurd rfl h2
  ·have f1:=hf.ran h3
   rcases h4 with ⟨h4,h5,_⟩|⟨_,m2,D2,h5,h6⟩
   ·exact absurd h5.symm h4
   ·have f2:=f1.ran h5
    rcases h6 with ⟨_,rfl⟩|⟨h6,_⟩
    ·have hw:(jq Av).length=10:=by rw [YU];rfl
     rw [hw] at f2;exact (f2.DI ea.dS).mono (by omega) (by omega) (Nat.le_refl _)
    ·exact absurd rfl h6
 ·obtain ⟨k1,m,D1,h3,h4⟩:=h2;have f1:=hf.ran h3
  rcases h4 with ⟨h4,h5,_⟩|⟨_,h5⟩
  ·exact absurd h5.symm h4
  ·have f2:=f1.st h5;exact (f2.DI ea.dS).mono (by omega) (by omega) (Nat.le_refl _)
theorem aC.low {N:Nat} {s s':ai} {w w':World} (hg:aC s s' w w') (ho:∀ k,s.own k->N<=k) (hN:N<=w.heap.size):Below N w w':=⟨hg.gr.os,hg.gr.tape,hg.gr.output,hg.gr.size,fun k hk=>hg.gr.block k (by omega) (fun e=>by have:=ho k e;omega)⟩
theorem aC.qx {N:Nat} {s s':ai} {w w':World} (hg:aC s s' w w') (ho:∀ k,s.own k->N<=k) (hN:N<=w.heap.size):∀ k,s'.own k->N<=k:=fun k hk=>(hg.own k hk).elim (ho k) (fun e=>by omega)
theorem Er.paths {D:DS} (h:Er D):∀ e∈D.R.now,e.path.size<=9223372036854775807:=fun e he=>by
 have h1:=h.ea.six 0 e;rw [List.take_zero] at h1;rw [h.now] at he;have h2:=RL (h1 he);simp only [aK,Bool.and_eq_true,decide_eq_true_eq] at h2;omega
theorem BL {N g o:Nat} {w w':World} {u:Value} (hb:Below N w w') (hg:g<N) (h:w.cell? ⟨g,o,none⟩=some u):w'.cell? ⟨g,o,none⟩=some u:=(World.cell?_of_block (a:=⟨g,o,none⟩) (hb.block g hg)).trans h
theorem kh.low {N:Nat} {w w':World} {kv:Value} {ks:List Int} (h:kh (fun k=>N<=k) w kv ks) (hb:Below N w w'):kh (fun k=>N<=k) w' kv ks:=by
 obtain ⟨oa,c,e,hk⟩:=h;refine ⟨oa,c,e,fun j hj=>?_⟩;obtain ⟨g,o,e2,hn,hc⟩:=hk j hj;exact ⟨g,o,e2,hn,BL hb (by omega) hc⟩
structure dJ where
 n:Int
 paths:Int
 kv:Value
 ks:List Int
def BM:dJ:=⟨0,0,.slice none 0 0,[]⟩
def dJ.ok (f:dJ):Prop := -9223372036854775808<=f.n/\f.n<=9223372036854775807
def dG (N:Nat) (w:World) (oa:Option Addr) (l:List dJ):Prop:=∀ i,i<l.length->∃ g o,oa=some ⟨g,o,none⟩/\g<N/\w.cell? ⟨g,o+i * 3,none⟩=some (.int .i64 (l.getD i BM).n)/\w.cell? ⟨g,o+i * 3+1,none⟩=some (.int .i64 (l.getD i BM).paths)/\w.cell? ⟨g,o+i * 3+2,none⟩=some (l.getD i BM).kv/\kh (fun k=>N<=k) w (l.getD i BM).kv (l.getD i BM).ks/\(l.getD i BM).ok
theorem dG.low {N:Nat} {w w':World} {oa:Option Addr} {l:List dJ} (h:dG N w oa l) (hs:∀ k,k<N->w'.heap[k]? = w.heap[k]?):dG N w' oa l:=fun i hi=>by
 obtain ⟨g,o,e,hg,c0,c1,c2,⟨R2,c,e2,hk⟩,aF⟩:=h i hi;refine ⟨g,o,e,hg,(World.cell?_of_block (hs g hg)).trans c0,(World.cell?_of_block (hs g hg)).trans c1,(World.cell?_of_block (hs g hg)).trans c2,⟨R2,c,e2,fun j hj=>?_⟩,aF⟩;obtain ⟨g2,o2,e3,hn,hc⟩:=hk j hj;exact ⟨g2,o2,e3,hn,(World.cell?_of_block (hs g2 (by omega))).trans hc⟩
theorem Qsu (ds:List Nat):(bW ds).size=70:=by
 unfold bW;rw [sP,List.length_append,Sha.bq];rfl
theorem yl (ds:List Nat):aK (bW ds)=true:=by
 simp [aK,Qsu]
theorem DG (ds:List Nat):(bW ds).data.toList=98::108::(([111,98,115,47]:List UInt8)++Sha.aM ds 32):=by
 unfold bW;rfl
theorem OH (ds:List Nat):bJ (bW ds) bB=true:=by rw [gX,DG];rfl
theorem KT (ds:List Nat):bJ (bW ds) bo=true:=by rw [gX,DG];rfl
theorem OI (ds:List Nat):bJ (bW ds) bK=true:=by rw [gX,DG];rfl
def gz (d:List Nat):Prop:=d.length=32/\∀ i,d.getD i 0<256
def dB (d:List Nat):ByteArray:=⟨(d.map UInt8.ofNat).toArray⟩
theorem QoL (d:List Nat):(dB d).data.toList=d.map UInt8.ofNat:=by simp [dB]
def oq:List Nat->List UInt8
 | []=>[]
 | x::l=>Sha.dW (x / 16)::Sha.dW (x % 16)::oq l
theorem QlI:∀ a b:List Nat,oq (a++b)=oq a++oq b
 | [],_=>rfl
 | x::a,b=>by
  show Sha.dW (x / 16)::Sha.dW (x % 16)::oq (a++b)=_;rw [QlI a b];rfl
theorem Uv (ds:List Nat):∀ k,k<=ds.length->Sha.aM ds k=oq (ds.take k)
 | 0,_=>rfl
 | k+1,h=>by
  show Sha.aM ds k++_=_;rw [Uv ds k (by omega),List.take_add_one,QlI,List.getElem?_eq_getElem (show k<ds.length by omega)];congr 1;rw [List.getD_eq_getElem?_getD,List.getElem?_eq_getElem (show k<ds.length by omega)];rfl
theorem PV (a b:Nat) (ha:a<16) (hb:b<16):(decide (Sha.dW a<Sha.dW b))=decide (a<b):=by
 have:∀ i:Fin 16,∀ j:Fin 16,(decide (Sha.dW i.val<Sha.dW j.val))=decide (i.val<j.val):=by decide +kernel
 exact this ⟨a,ha⟩ ⟨b,hb⟩
theorem MG (a b:UInt8) (r s:List UInt8):Op.bytesLess (a::r) (b::s)=if a<b then true else if b<a then false else Op.bytesLess r s:=by
 simp only [Op.bytesLess]
 by_cases h1:a<b
 ·simp [h1]
 ·by_cases h2:b<a
  ·have:¬ a=b:=fun e=>by rw [e] at h2;exact absurd h2 (UInt8.lt_irrefl _)
   simp [h1,h2,this]
  ·have:a=b:=by
    apply UInt8.le_antisymm
    ·exact UInt8.not_lt.1 h2
    ·exact UInt8.not_lt.1 h1
   simp [this]
theorem of_lt {a b:Nat} (ha:a<256) (hb:b<256):(UInt8.ofNat a<UInt8.ofNat b) ↔ a<b:=by
 rw [UInt8.lt_iff_toNat_lt,UInt8.toNat_ofNat',UInt8.toNat_ofNat',Nat.mod_eq_of_lt (by omega),Nat.mod_eq_of_lt (by omega)]
theorem QlJ:∀ a b:List Nat,(∀ x∈a,x<256)->(∀ x∈b,x<256)->a.length=b.length->Op.bytesLess (oq a) (oq b)=Op.bytesLess (a.map UInt8.ofNat) (b.map UInt8.ofNat)
 | [],[],_,_,_=>rfl
 | x::a,y::b,ha,hb,hl=>by
  have ih:=QlJ a b (fun z hz=>ha z (by simp [hz])) (fun z hz=>hb z (by simp [hz])) (by simpa using hl);have hx:=ha x (by simp);have hy:=hb y (by simp);have e1:=PV (x / 16) (y / 16) (by omega) (by omega);have e2:=PV (y / 16) (x / 16) (by omega) (by omega);have e3:=PV (x % 16) (y % 16) (by omega) (by omega);have e4:=PV (y % 16) (x % 16) (by omega) (by omega);simp only [decide_eq_decide] at e1 e2 e3 e4;rw [List.map_cons,List.map_cons];show Op.bytesLess (Sha.dW (x / 16)::Sha.dW (x % 16)::oq a) (Sha.dW (y / 16)::Sha.dW (y % 16)::oq b)=_;rw [MG,MG,MG,ih];simp only [e1,e2,e3,e4,of_lt hx hy,of_lt hy hx]
  by_cases h1:x / 16<y / 16
  ·have:x<y:=by omega
   simp [h1,this]
  ·by_cases h2:y / 16<x / 16
   ·have t1:y<x:=by omega
    have t2:¬ x<y:=by omega
    simp [h1,h2,t1,t2]
   ·have he:x / 16=y / 16:=by omega
    by_cases h3:x % 16<y % 16
    ·have:x<y:=by omega
     simp [h1,h2,h3,this]
    ·by_cases h4:y % 16<x % 16
     ·have t1:y<x:=by omega
      have t2:¬ x<y:=by omega
      simp [h1,h2,h3,h4,t1,t2]
     ·have t1:¬ x<y:=by omega
      have t2:¬ y<x:=by omega
      simp [h1,h2,h3,h4,t1,t2]
theorem QoM {d:List Nat} (h:gz d):∀ x∈d,x<256:=fun x hx=>by
 obtain ⟨i,hi,rfl⟩:=List.mem_iff_getElem.1 hx;have:=h.2 i;rwa [List.getD_eq_getElem?_getD,List.getElem?_eq_getElem hi] at this
theorem QuJ (p:List UInt8) (a b:List UInt8):Op.bytesLess (p++a) (p++b)=Op.bytesLess a b:=by
 induction p with
 | nil=>rfl
 | cons x p ih =>
  rw [List.cons_append,List.cons_append,MG,ih];simp [UInt8.lt_irrefl]
theorem Qs1 {a b:List Nat} (ha:gz a) (hb:gz b):bJ (bW a) (bW b)=bJ (dB a) (dB b):=by
 rw [gX,gX,QoL,QoL];show Op.bytesLess (Hm++Sha.aM a 32) (Hm++Sha.aM b 32)=_;rw [QuJ,Uv a 32 (by rw [ha.1];exact Nat.le_refl _),Uv b 32 (by rw [hb.1];exact Nat.le_refl _),List.take_of_length_le (by rw [ha.1];exact Nat.le_refl _),List.take_of_length_le (by rw [hb.1];exact Nat.le_refl _)];exact QlJ a b (QoM ha) (QoM hb) (by rw [ha.1,hb.1])
theorem Pt {a b:List Nat} (ha:gz a) (hb:gz b) (h:bW a=bW b):a=b:=by
 have h1:=congrArg (fun x=>x.data.toList) h;simp only [bW] at h1;have h2:Sha.aM a 32=Sha.aM b 32:=List.append_cancel_left h1;have h3:=Uw ha.2 hb.2 32 h2;refine List.ext_getElem (by rw [ha.1,hb.1]) fun i hi hj=>?_
 have h4:=h3 i (by rw [ha.1] at hi;exact hi);rwa [List.getD_eq_getElem?_getD,List.getD_eq_getElem?_getD,List.getElem?_eq_getElem hi,List.getElem?_eq_getElem hj] at h4
def dK (ds:List Nat):ByteArray:=⟨(keyBytes (ds.map fun n=>Lit.int .u8 ((n:Nat):Int))).toArray⟩
theorem Ei (ds:List Nat):dy ds=bk (dK ds):=by simp [dy,bk,dK]
theorem GS {a b:List Nat} (ha:gz a) (hb:gz b) (h:dK a=dK b):a=b:=by
 have h1:keyBytes (a.map fun n=>Lit.int .u8 ((n:Nat):Int))=keyBytes (b.map fun n=>Lit.int .u8 ((n:Nat):Int)):=by
  have:=congrArg (fun x=>x.data.toList) h;simpa [dK] using this
 have hl:∀ {d:List Nat},gz d->Tryz.prog.keyLits (Tryz.prog.types.size+1) 117 (ah d).toList=some (d.map fun n=>Lit.int .u8 ((n:Nat):Int)):=by
  intro d hd;have hu:=Tryz.underlying117;have hc:Tryz.prog.cellsOf 117=32:=by kernel_rfl
  rw [show Tryz.prog.types.size=(Tryz.prog.types.size - 1)+1 from by kernel_rfl];unfold Program.keyLits;rw [hu];simp only [];rw [if_pos (by rw [hc,Array.length_toList,aY,hd.1]),MU _ d hd.2 _ (fun i hi=>by rw [hd.1];exact List.mem_range.1 hi)];exact congrArg some (PW d hd.1)
 exact Ql1 (keyLits_inj (hl ha) (hl hb) h1)
theorem xo {α:Type} [DecidableEq α]:∀ {l m:List α},l.Nodup->(∀ x∈l,x∈m)->l.length<=m.length
 | [],_,_,_=>Nat.zero_le _
 | x::l,m,hn,hs=>by
  obtain ⟨h1,h2⟩:=List.nodup_cons.1 hn;have hx:x∈m:=hs x (by simp);have:=xo (m:=m.erase x) h2 (fun y hy=>(List.mem_erase_of_ne (fun e=>h1 (by rw [<- e];exact hy))).2 (hs y (by simp [hy])));rw [List.length_erase_of_mem hx] at this;have hm:0<m.length:=List.length_pos_of_mem hx;simp only [List.length_cons];omega
theorem Ep {α:Type} {key:α->ByteArray} {l:List α} (h:aq key l):l.Nodup:=List.Pairwise.imp (fun {a b} hab e=>by
 subst e;rw [mo] at hab
 cases hab) h
theorem TZ {α:Type} {key:α->ByteArray} {l m:List α} (hl:aq key l) (hm:aq key m) (h:∀ x,x∈l ↔ x∈m):l=m:=by
 refine rZ hl hm (fun n=>?_)
 cases hf:aQ key n l with
 | some t =>
  obtain ⟨h1,h2⟩:=tT hf;rw [<- h2,lD hm ((h t).1 h1)]
 | none =>
  symm
  exact Et fun e he=>tL hf e ((h e).2 he)
abbrev cD (cl:List (List Nat)):DataW Value:=mD dK (fun _=>.agg #[]) cl
theorem Md (cl:List (List Nat)):xE (cD cl):=fun kl v h=>by
 simp only [cD,mD,DataW.atKey] at h
 cases hf:(cl.map (mE dK fun _=>Value.agg #[])).find? (fun x=>x.1.sameKey kl) with
 | none =>
  rw [hf] at h;injection h with h
  exact h.symm
 | some y =>
  rw [hf] at h;obtain ⟨d,_,rfl⟩:=List.mem_map.1 (List.mem_of_find?_eq_some hf);injection h with h
  exact h.symm
theorem Ub {cl:List (List Nat)} (aF:∀ d∈cl,gz d) {d:List Nat} (hd:gz d):Maps.has (cD cl) (dy d)=decide (d∈cl):=by
 rw [Ei,Mu]
 by_cases h:d∈cl
 ·rw [decide_eq_true h]
  cases hf:aQ dK (dK d) cl with
  | some x=>rfl
  | none=>exact absurd rfl (tL hf d h)
 ·rw [decide_eq_false h,Et]
  ·rfl
  ·exact fun e he e2=>h (by rw [<- GS (aF e he) hd e2];exact he)
theorem Ek {α:Type} {key:α->ByteArray} {t x:α} {l:List α} (hk:∀ a∈l,key a=key t->a=t) (hr:aq key l):x∈ag key t l ↔ x=t∨x∈l:=by
 refine ⟨ln,fun h=>?_⟩;have h1:=fw (key x) t hr
 rcases h with rfl|h
 ·rw [if_pos rfl] at h1;exact (tT h1).1
 ·by_cases e:key x=key t
  ·rw [if_pos e] at h1;rw [hk x h e];exact (tT h1).1
  ·rw [if_neg e,lD hr h] at h1;exact (tT h1).1
theorem QjX {α:Type} {key:α->ByteArray} {t:α}:∀ {l:List α},aq key l->(∃ e∈l,key e=key t)->(ag key t l).length=l.length:=fun {l} hr h=>by
 rw [Ux hr h,List.length_map]
end Go.Proofs.YtncigfibncmioaaGreatDoor
