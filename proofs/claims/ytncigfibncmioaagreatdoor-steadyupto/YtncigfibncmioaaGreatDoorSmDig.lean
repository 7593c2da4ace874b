/-
  PROVED HERE: what Publish of the program's store does where there was neither the content nor a tag.
-/
import Derived.Test.YtncigfibncmioaaGreatDoorBsKept
import Derived.Test.YtncigfibncmioaaGreatDoorStLock
import Derived.Test.YtncigfibncmioaaGreatDoorTagsOf
import Derived.Test.YtncigfibncmioaaGreatDoorStDig
import Derived.Test.YtncigfibncmioaaGreatDoorPdFit
import Derived.Deep.RegionHeld3
import Derived.Test.YtncigfibncmioaaGreatDoorKPick
import Derived.Test.YtncigfibncmioaaGreatDoorSmKey
namespace Go.Proofs.YtncigfibncmioaaGreatDoor
open Go.RowKit Go.MuLone
def BLk (w:World) (xb sb:Nat) (n:Int):Prop:=w.heap[xb]? = some (.cells #[.int .i32 n,.int .u32 0,.pointer (some ⟨sb,0,none⟩)] 108 (0,0))
theorem StW.lock {W:World} {sb:Nat} {s:PSt} {cb tb nc nt xb:Nat} {Dc Dt:DataW Value} {n:Int} {v:Value} (h:StW W sb s cb tb nc nt Dc Dt) (hb:BLk W xb sb n) (hG:¬ isG xb):StW (W.setCell ⟨xb,0,none⟩ v) sb s cb tb nc nt Dc Dt :=
 h.put hb (by decide) (h.inn.same (fun k hk=>heap_setCell_other _ _ _ _ (fun e=>by
  have e:k=xb:=e
  subst e
  rcases h.inn.typed hk hb with h3|h3|h3|h3<;>exact absurd h3 (by decide)))) hG
theorem BLk.set {W:World} {xb sb:Nat} {n:Int} (h:BLk W xb sb n) (m:Int):BLk (W.setCell ⟨xb,0,none⟩ (.int .i32 m)) xb sb m:=by
 unfold BLk
 rw [heap_setCell_same _ xb 0 _ _ _ h]
 rfl
theorem BLk.later {W W':World} {xb sb:Nat} {n:Int} (h:BLk W xb sb n) (hb:Below W.heap.size W W'):BLk W' xb sb n:=(hb.block _ (lt_heap h)).trans h
end Go.Proofs.YtncigfibncmioaaGreatDoor
namespace Go.Proofs.YtncigfibncmioaaGreatDoor
set_option maxHeartbeats 2000000
set_option maxRecDepth 100000
open Go.RowKit Go.MuLone
theorem find_there (xb sb:Nat) (s:PSt) (cb tb nc nt:Nat) (Dc Dt:DataW Value) (text:ByteArray) (n:Int) (w:World) (hx:BLk w xb sb n) (h:StW w sb s cb tb nc nt Dc Dt) (hu:UnitC Dc) (hd:isDigB text=true) (hh:Maps.has Dc (dKey (rd text))=true) :
  Calls Tryz.prog 69 #[.pointer (some ⟨xb,0,none⟩),.string text] w fun e w'=>e = .returned (.tuple #[.agg (cells8 (rd text)),.int .i64 0])∧Below w.heap.size w w':=by
 have HRD:=hide (fun W=>read_any text W)
 rw [hd] at HRD
 have HHS:=hide (fun W (hb:Below w.heap.size w W)=>has_any sb s cb tb nc nt Dc Dt (rd text) W (h.later hb) hu (rd_len text) (rd_lt text))
 rw [hh] at HHS
 have hds:=rd_len text
 generalize rd text=ds at *
 have HX:=hide hx
 have HST:=hide h
 clear hx h hu hd hh
 go_enter Tryz.func69,Tryz.ntmps69
 go_upto_region 2 with (first|(go_at_call 109;refine (HRD.out _).mono ?_;rintro _ w1 ⟨rfl,hb1⟩)|(refine wpList_store_row rfl 117 _ _ rfl w1.heap.size _ rfl rfl 117 _ (heap_alloc_new _ _) (size40 _ hds) (by rw [cells8_size,hds];rfl) (cells8_one _) ?_;rw [World.setRow_alloc_new]))
 have hz0:(w.alloc (.cells (cells8 (Sha.zeros 32)) 117)).heap[w.heap.size]? = some (.cells (cells8 (Sha.zeros 32)) 117 (0,0)):=heap_alloc_new _ _
 have hb0:Below w.heap.size w (w.alloc (.cells (cells8 (Sha.zeros 32)) 117)):=(Below.refl _ _).alloc (Nat.le_refl _) _
 have hr1:w1.heap[w.heap.size]? = some (.cells (cells8 (Sha.zeros 32)) 117 (0,0)):=(hb1.block _ (lt_heap hz0)).trans hz0
 have hbw1:Below w.heap.size w w1:=hb0.trans (hb1.mono hb0.size)
 obtain ⟨W,hW⟩ : ∃ W,W=w1.alloc (.cells (cells8 ds) 117):=⟨_,rfl⟩
 have hBW:Below w1.heap.size w1 W:=by rw [hW];exact (Below.refl _ _).alloc (Nat.le_refl _) _
 have hrow:W.heap[w1.heap.size]? = some (.cells (cells8 ds) 117 (0,0)):=by rw [hW];exact heap_alloc_new _ _
 have hrr:=(hBW.block _ (lt_heap hr1)).trans hr1
 have hbW:Below w.heap.size w W:=hbw1.trans (hBW.mono hbw1.size)
 have hlr:=lt_heap hr1
 rw [← hW]
 have c2:W.cell? ⟨xb,2,none⟩=some (.pointer (some ⟨sb,0,none⟩)):=cell_of_row _ _ 2 _ _ _ (HX.out.later hbW)
 have HBW:=hide hbW
 have HROW:=hide hrow
 have HRR:=hide hrr
 obtain ⟨db,hdb⟩ : ∃ db,db=w1.heap.size:=⟨_,rfl⟩
 obtain ⟨rb,hrb⟩ : ∃ rb,rb=w.heap.size:=⟨_,rfl⟩
 rw [← hdb] at HROW hlr ⊢
 rw [← hrb] at HRR hlr ⊢
 have HRB:=hide hrb
 clear hbW hrow hrr hBW hz0 hb0 hr1 hbw1 hb1 hW hdb hrb HRD
 go_wp2_with (refine wpList_load_row rfl 117 _ rfl db rfl 117 _ _ _ HROW.out Tryz.underlying117 rfl (size40 _ hds) ?_)
 have hdr:Below W.heap.size W W.drew:=(Below.refl _ _).drew
 have hS0:W.drew.cell? ⟨xb,2,none⟩=some (.pointer (some ⟨sb,0,none⟩))∧W.drew.rangeAt db 0 (cells8 ds).toList:=⟨cell_later hdr c2,con_r ((hdr.block _ (lt_heap HROW.out)).trans HROW.out)⟩
 have u72:=Tryz.underlying117
 have i72:=size72 ds hds
 have HHS2:=hide (HHS.out W.drew (HBW.out.trans (hdr.mono HBW.out.size)))
 go_region_held3 (fun w'=>w'.cell? ⟨xb,2,none⟩=some (.pointer (some ⟨sb,0,none⟩))∧w'.rangeAt db 0 (cells8 ds).toList) (first|exact hS0|exact hS3|go_keep) ((go_at_call 110;refine (HHS2.out).mono ?_;rintro _ w3 ⟨rfl,hb3⟩;have hb4:Below W.heap.size W w3:=hdr.trans hb3;have hr3:=(hb4.block _ (lt_heap HROW.out)).trans HROW.out;have hS3:=And.intro (cell_later hb4 c2) (con_r hr3)))
 have hq3:=(hb4.block _ (lt_heap HRR.out)).trans HRR.out
 have HR3:=hide hr3
 have HQ3:=hide hq3
 have HB4:=hide (HBW.out.trans (hb4.mono HBW.out.size))
 clear hS0 hS3 hr3 hq3 hb3 hb4 hdr c2 HHS HHS2 u72 i72
 go_wp2_with (first|(refine wpList_load_row rfl 117 _ rfl db rfl 117 _ _ _ HR3.out Tryz.underlying117 rfl (size40 _ hds) ?_)|(refine wpList_store_row rfl 117 _ _ rfl rb _ rfl rfl 117 _ HQ3.out (size40 _ hds) (by simp only [cells8_size,hds,Sha.zeros_len]) (cells8_one _) ?_))
 have hsb:=HB4.out.setRow (g:=rb) (by have:=HRB.out;omega) (cells8 ds)
 exact bodyPost_ret (results_cell_tmp Tryz.results69 _ _ rb 117 _ (0,0) _ (.int .i64 0) rfl rfl (setRow_heap _ _ _ _ _ _ HQ3.out) Tryz.underlying117 rfl (size40 _ hds)) rfl ⟨rfl,hsb⟩
end Go.Proofs.YtncigfibncmioaaGreatDoor
namespace Go.Proofs.YtncigfibncmioaaGreatDoor
open Go.RowKit Go.MuLone Go.Shelf Go.Maps Go.Sort
theorem own_lock {w:World} {xb sb B size n:Nat} {e:TypeId} {v u:Value} {xs:List Value} {m:Int} (h:w.ownsRow B e size v n xs) (hx:BLk w xb sb m) (he:e≠108):(w.setCell ⟨xb,0,none⟩ u).ownsRow B e size v n xs:=by
 obtain ⟨hlen,h2⟩:=h
 refine ⟨hlen,?_⟩
 rcases h2 with h2|⟨g,cap,cur,rfl,h3,hg,h4⟩
 ·exact .inl h2
 ·exact .inr ⟨g,cap,cur,rfl,h3,(heap_setCell_other _ _ _ _ (by simpa using type_ne hg hx he)).trans hg,h4⟩
end Go.Proofs.YtncigfibncmioaaGreatDoor
namespace Go.Proofs.YtncigfibncmioaaGreatDoor
set_option maxHeartbeats 2000000
set_option maxRecDepth 100000
open Go.RowKit Go.MuLone
theorem find_none (xb sb:Nat) (s:PSt) (cb tb nc nt:Nat) (Dc Dt:DataW Value) (text:ByteArray) (n:Int) (w:World) (hx:BLk w xb sb n) (h:StW w sb s cb tb nc nt Dc Dt) (hu:UnitC Dc) (hd:isDigB text=true) (hh:Maps.has Dc (dKey (rd text))=false) :
  Calls Tryz.prog 69 #[.pointer (some ⟨xb,0,none⟩),.string text] w fun e w'=>e = .returned (.tuple #[.agg (cells8 (Sha.zeros 32)),.int .i64 10])∧Below w.heap.size w w':=by
 have HRD:=hide (fun W=>read_any text W)
 rw [hd] at HRD
 have HHS:=hide (fun W (hb:Below w.heap.size w W)=>has_any sb s cb tb nc nt Dc Dt (rd text) W (h.later hb) hu (rd_len text) (rd_lt text))
 rw [hh] at HHS
 have hds:=rd_len text
 generalize rd text=ds at *
 have HX:=hide hx
 have HST:=hide h
 clear hx h hu hd hh
 go_enter Tryz.func69,Tryz.ntmps69
 go_upto_region 2 with (first|(go_at_call 109;refine (HRD.out _).mono ?_;rintro _ w1 ⟨rfl,hb1⟩)|(refine wpList_store_row rfl 117 _ _ rfl w1.heap.size _ rfl rfl 117 _ (heap_alloc_new _ _) (size40 _ hds) (by rw [cells8_size,hds];rfl) (cells8_one _) ?_;rw [World.setRow_alloc_new]))
 have hz0:(w.alloc (.cells (cells8 (Sha.zeros 32)) 117)).heap[w.heap.size]? = some (.cells (cells8 (Sha.zeros 32)) 117 (0,0)):=heap_alloc_new _ _
 have hb0:Below w.heap.size w (w.alloc (.cells (cells8 (Sha.zeros 32)) 117)):=(Below.refl _ _).alloc (Nat.le_refl _) _
 have hr1:w1.heap[w.heap.size]? = some (.cells (cells8 (Sha.zeros 32)) 117 (0,0)):=(hb1.block _ (lt_heap hz0)).trans hz0
 have hbw1:Below w.heap.size w w1:=hb0.trans (hb1.mono hb0.size)
 obtain ⟨W,hW⟩ : ∃ W,W=w1.alloc (.cells (cells8 ds) 117):=⟨_,rfl⟩
 have hBW:Below w1.heap.size w1 W:=by rw [hW];exact (Below.refl _ _).alloc (Nat.le_refl _) _
 have hrow:W.heap[w1.heap.size]? = some (.cells (cells8 ds) 117 (0,0)):=by rw [hW];exact heap_alloc_new _ _
 have hrr:=(hBW.block _ (lt_heap hr1)).trans hr1
 have hbW:Below w.heap.size w W:=hbw1.trans (hBW.mono hbw1.size)
 have hlr:=lt_heap hr1
 rw [← hW]
 have c2:W.cell? ⟨xb,2,none⟩=some (.pointer (some ⟨sb,0,none⟩)):=cell_of_row _ _ 2 _ _ _ (HX.out.later hbW)
 have HBW:=hide hbW
 have HROW:=hide hrow
 have HRR:=hide hrr
 obtain ⟨db,hdb⟩ : ∃ db,db=w1.heap.size:=⟨_,rfl⟩
 obtain ⟨rb,hrb⟩ : ∃ rb,rb=w.heap.size:=⟨_,rfl⟩
 rw [← hdb] at HROW hlr ⊢
 rw [← hrb] at HRR hlr ⊢
 have HRB:=hide hrb
 clear hbW hrow hrr hBW hz0 hb0 hr1 hbw1 hb1 hW hdb hrb HRD
 go_wp2_with (refine wpList_load_row rfl 117 _ rfl db rfl 117 _ _ _ HROW.out Tryz.underlying117 rfl (size40 _ hds) ?_)
 have hdr:Below W.heap.size W W.drew:=(Below.refl _ _).drew
 have hS0:W.drew.cell? ⟨xb,2,none⟩=some (.pointer (some ⟨sb,0,none⟩))∧W.drew.rangeAt db 0 (cells8 ds).toList:=⟨cell_later hdr c2,con_r ((hdr.block _ (lt_heap HROW.out)).trans HROW.out)⟩
 have u72:=Tryz.underlying117
 have i72:=size72 ds hds
 have HHS2:=hide (HHS.out W.drew (HBW.out.trans (hdr.mono HBW.out.size)))
 go_region_held3 (fun w'=>w'.cell? ⟨xb,2,none⟩=some (.pointer (some ⟨sb,0,none⟩))∧w'.rangeAt db 0 (cells8 ds).toList) (first|exact hS0|exact hS3|go_keep) ((go_at_call 110;refine (HHS2.out).mono ?_;rintro _ w3 ⟨rfl,hb3⟩;have hb4:Below W.heap.size W w3:=hdr.trans hb3;have hr3:=(hb4.block _ (lt_heap HROW.out)).trans HROW.out;have hS3:=And.intro (cell_later hb4 c2) (con_r hr3)))
 have hq3:=(hb4.block _ (lt_heap HRR.out)).trans HRR.out
 have HR3:=hide hr3
 have HQ3:=hide hq3
 have HB4:=hide (HBW.out.trans (hb4.mono HBW.out.size))
 clear hS0 hS3 hr3 hq3 hb3 hb4 hdr c2 HHS HHS2 u72 i72
 go_wp2_with (refine wpList_store_row rfl 117 _ _ rfl rb (cells8 (Sha.zeros 32)) rfl rfl 117 _ HQ3.out (size40 _ (Sha.zeros_len _)) rfl (cells8_one _) ?_)
 have hsb:=HB4.out.setRow (g:=rb) (by have:=HRB.out;omega) (cells8 (Sha.zeros 32))
 exact bodyPost_ret (results_cell_tmp Tryz.results69 _ _ rb 117 _ (0,0) _ (.int .i64 10) rfl rfl (setRow_heap _ _ _ _ _ _ HQ3.out) Tryz.underlying117 rfl (size40 _ (Sha.zeros_len _))) rfl ⟨rfl,hsb⟩
end Go.Proofs.YtncigfibncmioaaGreatDoor
namespace Go.Proofs.YtncigfibncmioaaGreatDoor
open Go.RowKit Go.Shelf Go.Maps Go.Sort
attribute [local go_sem] Oper.semAt_some
theorem keys_in (F:Fence) (n:Nat) (hf:F.fn 105) (hro:F.round=none) (mb:Option Nat) (w:World) :
  CallsIn F n Tryz.prog 105 #[.map mb] w fun e w'=>e = .returned (.func (.func 161) #[] #[.pointer (some ⟨w.heap.size,0,none⟩)])∧w'=w.alloc (.cells #[.map mb] 156):=by
 refine callsIn_of_wp Tryz.func105 rfl hf ?_ hro
 simp only [Tryz.ntmps105,List.size_toArray,List.length_cons,List.length_nil,Nat.reduceAdd,Nat.reduceSub,Array.replicate_succ,Array.replicate_zero,List.push_toArray,List.append_toArray,List.nil_append,List.cons_append]
 gi_wp2
 go_ret
 exact ⟨rfl,rfl⟩
end Go.Proofs.YtncigfibncmioaaGreatDoor
namespace Go.Proofs.YtncigfibncmioaaGreatDoor
open Go.RowKit
structure DkW (w:World) (d:Nat) (s:PSt):Prop where
 inn:s.In w
 bd:BD w d s.b
 gl:Gl w
 low:LowS s
theorem DkW.go {w w':World} {d:Nat} {s s':PSt} (h:DkW w d s) (hg:PGo s s' w w'):DkW w' d s':=by
 obtain ⟨g1,g2⟩:=h.gl.go h.low hg
 refine ⟨hg.inn,?_,g1,g2⟩
 unfold BD
 rw [hg.b]
 exact hg.keeps h.inn h.bd (by decide) (by decide) (by decide) (by decide)
theorem DkW.later {w w':World} {d:Nat} {s:PSt} (h:DkW w d s) (hb:Below w.heap.size w w'):DkW w' d s:=h.go (PGo.refl h.inn hb)
theorem bBreak_any (s:PSt) (d:Nat) (n:Int) (w:World) (h:DkW w d s) (hn:0≤n) :
  Calls Tryz.prog 20 #[.pointer (some ⟨d,0,none⟩),.int .i64 n] w fun e w'=>e = .returned (.int .i64 0)∧∃ s',PGo s s' w w'∧s'.ds=⟨{ s.R with left:=n },s.fs,s.fd⟩:=by
 refine (wBreak s d n w 0 (fun s1=>s1 = { s with R:={ s.R with left:=n } }) h.bd h.gl.err ((pdBreak s n w h.inn).mono ?_)).mono ?_
 ·rintro e w' ⟨v,rfl,_,h2⟩
  exact ⟨v,rfl,h2 (by omega)⟩
 ·rintro e w' ⟨rfl,_,h2⟩
  obtain ⟨s1,hg,rfl⟩:=h2 rfl
  exact ⟨rfl,_,hg,rfl⟩
theorem find_mem:∀ {l:List DE},Rise l→∀ e∈l,findE e.path l=some e.blk
 | [],_,e,he=>by cases he
 | a::l,hr,e,he=>by
  have h1:=List.pairwise_cons.1 hr
  show (if a.path=e.path then some a.blk else findE e.path l)=_
  rcases List.mem_cons.1 he with rfl|he
  ·rw [if_pos rfl]
  ·rw [if_neg (less_ne (h1.1 e he))]
   exact find_mem h1.2 e he
theorem DFit.dat36 {D:DS} {L C B:Nat} (h:DFit D L C B) (hd:∀ f∈D.fs,FitB 36 (D.fd f)):DFit D L C 36:=⟨h.len,h.c0,h.c1,h.l0,h.l1,h.r0,h.r1,hd,h.chf,h.inv,h.inow,h.isafe,h.ichg,h.rise⟩
theorem open_fit {D D':DS} {k:Int} {C:Nat} (h:Er D) (hr:36≤D.R.room) (hf:DFit D 6 C 36) (hb:OpR D k D'):DFit D' 30 (C+30) 36:=by
 obtain ⟨rfl,_,ea,_⟩:=open_pure h hr hb
 have hnl:=hf.nowLen
 have hrl:=rmS_len (fun _=>true) D.R.now
 have hrf:=rmS_len foreignB D.R.now
 rcases hb with ⟨_,h2⟩|⟨_,h2⟩
 ·rcases h2 with ⟨_,h2,_⟩|⟨_,k1,m,D1,h3,h4⟩
  ·exact absurd rfl h2
  ·have f1:=hf.ran h3
   rcases h4 with ⟨h4,h5,_⟩|⟨_,m2,D2,h5,h6⟩
   ·exact absurd h5.symm h4
   ·have f2:=f1.ran h5
    rcases h6 with ⟨_,rfl⟩|⟨h6,_⟩
    ·have hw:(wrS beginFl).length=10:=by rw [wrS_begin];rfl
     rw [hw] at f2
     exact (f2.dat36 ea.dat).mono (by omega) (by omega) (Nat.le_refl _)
    ·exact absurd rfl h6
 ·obtain ⟨k1,m,D1,h3,h4⟩:=h2
  have f1:=hf.ran h3
  rcases h4 with ⟨h4,h5,_⟩|⟨_,h5⟩
  ·exact absurd h5.symm h4
  ·have f2:=f1.st h5
   exact (f2.dat36 ea.dat).mono (by omega) (by omega) (Nat.le_refl _)
theorem PGo.low {N:Nat} {s s':PSt} {w w':World} (hg:PGo s s' w w') (ho:∀ k,s.own k→N≤k) (hN:N≤w.heap.size):Below N w w':=⟨hg.gr.os,hg.gr.tape,hg.gr.output,hg.gr.size,fun k hk=>hg.gr.block k (by omega) (fun e=>by have:=ho k e;omega)⟩
theorem PGo.ownN {N:Nat} {s s':PSt} {w w':World} (hg:PGo s s' w w') (ho:∀ k,s.own k→N≤k) (hN:N≤w.heap.size):∀ k,s'.own k→N≤k:=fun k hk=>(hg.own k hk).elim (ho k) (fun e=>by omega)
theorem Er.paths {D:DS} (h:Er D):∀ e∈D.R.now,e.path.size≤9223372036854775807:=fun e he=>by
 have h1:=h.ea.six 0 e
 rw [List.take_zero] at h1
 rw [h.now] at he
 have h2:=six_path (h1 he)
 simp only [isPathB,Bool.and_eq_true,decide_eq_true_eq] at h2
 omega
theorem cell_low2 {N g o:Nat} {w w':World} {u:Value} (hb:Below N w w') (hg:g<N) (h:w.cell? ⟨g,o,none⟩=some u):w'.cell? ⟨g,o,none⟩=some u:=(World.cell?_of_block (a:=⟨g,o,none⟩) (hb.block g hg)).trans h
theorem KAt.low {N:Nat} {w w':World} {kv:Value} {ks:List Int} (h:KAt (fun k=>N≤k) w kv ks) (hb:Below N w w'):KAt (fun k=>N≤k) w' kv ks:=by
 obtain ⟨oa,c,e,hk⟩:=h
 refine ⟨oa,c,e,fun j hj=>?_⟩
 obtain ⟨g,o,e2,hn,hc⟩:=hk j hj
 exact ⟨g,o,e2,hn,cell_low2 hb (by omega) hc⟩
structure FallV where
 n:Int
 paths:Int
 kv:Value
 ks:List Int
def fall0:FallV:=⟨0,0,.slice none 0 0,[]⟩
def FallV.ok (f:FallV):Prop := -9223372036854775808≤f.n∧f.n≤9223372036854775807
theorem cP_size (ds:List Nat):(cPath ds).size=70:=by
 unfold cPath
 rw [bytes_size,List.length_append,Sha.textTo_len]
 rfl
theorem cP_path (ds:List Nat):isPathB (cPath ds)=true:=by
 simp [isPathB,cP_size]
theorem cP_data (ds:List Nat):(cPath ds).data.toList=98::108::(([111,98,115,47]:List UInt8)++Sha.textTo ds 32):=by
 unfold cPath
 rfl
theorem cP_index (ds:List Nat):lessB (cPath ds) indexP=true:=by rw [less_eq,cP_data];rfl
theorem cP_journal (ds:List Nat):lessB (cPath ds) journalP=true:=by rw [less_eq,cP_data];rfl
theorem cP_layout (ds:List Nat):lessB (cPath ds) layoutP=true:=by rw [less_eq,cP_data];rfl
def DigOk (d:List Nat):Prop:=d.length=32∧∀ i,d.getD i 0<256
def dB (d:List Nat):ByteArray:=⟨(d.map UInt8.ofNat).toArray⟩
theorem dB_data (d:List Nat):(dB d).data.toList=d.map UInt8.ofNat:=by simp [dB]
def hexL:List Nat→List UInt8
 | []=>[]
 | x::l=>Sha.hexd (x / 16)::Sha.hexd (x % 16)::hexL l
theorem hexL_app:∀ a b:List Nat,hexL (a++b)=hexL a++hexL b
 | [],_=>rfl
 | x::a,b=>by
  show Sha.hexd (x / 16)::Sha.hexd (x % 16)::hexL (a++b)=_
  rw [hexL_app a b]
  rfl
theorem textTo_hexL (ds:List Nat):∀ k,k≤ds.length→Sha.textTo ds k=hexL (ds.take k)
 | 0,_=>rfl
 | k+1,h=>by
  show Sha.textTo ds k++_=_
  rw [textTo_hexL ds k (by omega),List.take_add_one,hexL_app,List.getElem?_eq_getElem (show k<ds.length by omega)]
  congr 1
  rw [List.getD_eq_getElem?_getD,List.getElem?_eq_getElem (show k<ds.length by omega)]
  rfl
theorem hexd_lt (a b:Nat) (ha:a<16) (hb:b<16):(decide (Sha.hexd a<Sha.hexd b))=decide (a<b):=by
 have:∀ i:Fin 16,∀ j:Fin 16,(decide (Sha.hexd i.val<Sha.hexd j.val))=decide (i.val<j.val):=by decide +kernel
 exact this ⟨a,ha⟩ ⟨b,hb⟩
theorem bl_cons (a b:UInt8) (r s:List UInt8):Op.bytesLess (a::r) (b::s)=if a<b then true else if b<a then false else Op.bytesLess r s:=by
 simp only [Op.bytesLess]
 by_cases h1:a<b
 ·simp [h1]
 ·by_cases h2:b<a
  ·have:¬ a=b:=fun e=>by rw [e] at h2;exact absurd h2 (UInt8.lt_irrefl _)
   simp [h1,h2,this]
  ·have:a=b:=by
    apply UInt8.le_antisymm
    ·exact UInt8.not_lt.1 h2
    ·exact UInt8.not_lt.1 h1
   simp [this]
theorem of_lt {a b:Nat} (ha:a<256) (hb:b<256):(UInt8.ofNat a<UInt8.ofNat b) ↔ a<b:=by
 rw [UInt8.lt_iff_toNat_lt,UInt8.toNat_ofNat',UInt8.toNat_ofNat',Nat.mod_eq_of_lt (by omega),Nat.mod_eq_of_lt (by omega)]
theorem hex_less:∀ a b:List Nat,(∀ x∈a,x<256)→(∀ x∈b,x<256)→a.length=b.length→Op.bytesLess (hexL a) (hexL b)=Op.bytesLess (a.map UInt8.ofNat) (b.map UInt8.ofNat)
 | [],[],_,_,_=>rfl
 | x::a,y::b,ha,hb,hl=>by
  have ih:=hex_less a b (fun z hz=>ha z (by simp [hz])) (fun z hz=>hb z (by simp [hz])) (by simpa using hl)
  have hx:=ha x (by simp)
  have hy:=hb y (by simp)
  have e1:=hexd_lt (x / 16) (y / 16) (by omega) (by omega)
  have e2:=hexd_lt (y / 16) (x / 16) (by omega) (by omega)
  have e3:=hexd_lt (x % 16) (y % 16) (by omega) (by omega)
  have e4:=hexd_lt (y % 16) (x % 16) (by omega) (by omega)
  simp only [decide_eq_decide] at e1 e2 e3 e4
  rw [List.map_cons,List.map_cons]
  show Op.bytesLess (Sha.hexd (x / 16)::Sha.hexd (x % 16)::hexL a) (Sha.hexd (y / 16)::Sha.hexd (y % 16)::hexL b)=_
  rw [bl_cons,bl_cons,bl_cons,ih]
  simp only [e1,e2,e3,e4,of_lt hx hy,of_lt hy hx]
  by_cases h1:x / 16<y / 16
  ·have:x<y:=by omega
   simp [h1,this]
  ·by_cases h2:y / 16<x / 16
   ·have t1:y<x:=by omega
    have t2:¬ x<y:=by omega
    simp [h1,h2,t1,t2]
   ·have he:x / 16=y / 16:=by omega
    by_cases h3:x % 16<y % 16
    ·have:x<y:=by omega
     simp [h1,h2,h3,this]
    ·by_cases h4:y % 16<x % 16
     ·have t1:y<x:=by omega
      have t2:¬ x<y:=by omega
      simp [h1,h2,h3,h4,t1,t2]
     ·have t1:¬ x<y:=by omega
      have t2:¬ y<x:=by omega
      simp [h1,h2,h3,h4,t1,t2]
theorem dig_all {d:List Nat} (h:DigOk d):∀ x∈d,x<256:=fun x hx=>by
 obtain ⟨i,hi,rfl⟩:=List.mem_iff_getElem.1 hx
 have:=h.2 i
 rwa [List.getD_eq_getElem?_getD,List.getElem?_eq_getElem hi] at this
theorem bl_app (p:List UInt8) (a b:List UInt8):Op.bytesLess (p++a) (p++b)=Op.bytesLess a b:=by
 induction p with
 | nil=>rfl
 | cons x p ih =>
  rw [List.cons_append,List.cons_append,bl_cons,ih]
  simp [UInt8.lt_irrefl]
theorem cP_less {a b:List Nat} (ha:DigOk a) (hb:DigOk b):lessB (cPath a) (cPath b)=lessB (dB a) (dB b):=by
 rw [less_eq,less_eq,dB_data,dB_data]
 show Op.bytesLess (blobsL++Sha.textTo a 32) (blobsL++Sha.textTo b 32)=_
 rw [bl_app,textTo_hexL a 32 (by rw [ha.1];exact Nat.le_refl _),textTo_hexL b 32 (by rw [hb.1];exact Nat.le_refl _),List.take_of_length_le (by rw [ha.1];exact Nat.le_refl _),List.take_of_length_le (by rw [hb.1];exact Nat.le_refl _)]
 exact hex_less a b (dig_all ha) (dig_all hb) (by rw [ha.1,hb.1])
theorem cP_inj {a b:List Nat} (ha:DigOk a) (hb:DigOk b) (h:cPath a=cPath b):a=b:=by
 have h1:=congrArg (fun x=>x.data.toList) h
 simp only [cPath] at h1
 have h2:Sha.textTo a 32=Sha.textTo b 32:=List.append_cancel_left h1
 have h3:=textTo_inj ha.2 hb.2 32 h2
 refine List.ext_getElem (by rw [ha.1,hb.1]) fun i hi hj=>?_
 have h4:=h3 i (by rw [ha.1] at hi;exact hi)
 rwa [List.getD_eq_getElem?_getD,List.getD_eq_getElem?_getD,List.getElem?_eq_getElem hi,List.getElem?_eq_getElem hj] at h4
def dK (ds:List Nat):ByteArray:=⟨(keyBytes (ds.map fun n=>Lit.int .u8 ((n:Nat):Int))).toArray⟩
theorem dKey_eq (ds:List Nat):dKey ds=kOf (dK ds):=by simp [dKey,kOf,dK]
theorem dK_inj {a b:List Nat} (ha:DigOk a) (hb:DigOk b) (h:dK a=dK b):a=b:=by
 have h1:keyBytes (a.map fun n=>Lit.int .u8 ((n:Nat):Int))=keyBytes (b.map fun n=>Lit.int .u8 ((n:Nat):Int)):=by
  have:=congrArg (fun x=>x.data.toList) h
  simpa [dK] using this
 have hl:∀ {d:List Nat},DigOk d→Tryz.prog.keyLits (Tryz.prog.types.size+1) 117 (cells8 d).toList=some (d.map fun n=>Lit.int .u8 ((n:Nat):Int)):=by
  intro d hd
  have hu:=Tryz.underlying117
  have hc:Tryz.prog.cellsOf 117=32:=by kernel_rfl
  rw [show Tryz.prog.types.size=(Tryz.prog.types.size - 1)+1 from by kernel_rfl]
  unfold Program.keyLits
  rw [hu]
  simp only []
  rw [if_pos (by rw [hc,Array.length_toList,cells8_size,hd.1]),mapM_lits _ d hd.2 _ (fun i hi=>by rw [hd.1];exact List.mem_range.1 hi)]
  exact congrArg some (flat_lits d hd.1)
 exact lits_inj (keyLits_inj (hl ha) (hl hb) h1)
theorem nodup_len {α:Type} [DecidableEq α]:∀ {l m:List α},l.Nodup→(∀ x∈l,x∈m)→l.length≤m.length
 | [],_,_,_=>Nat.zero_le _
 | x::l,m,hn,hs=>by
  obtain ⟨h1,h2⟩:=List.nodup_cons.1 hn
  have hx:x∈m:=hs x (by simp)
  have:=nodup_len (m:=m.erase x) h2 (fun y hy=>(List.mem_erase_of_ne (fun e=>h1 (by rw [← e];exact hy))).2 (hs y (by simp [hy])))
  rw [List.length_erase_of_mem hx] at this
  have hm:0<m.length:=List.length_pos_of_mem hx
  simp only [List.length_cons]
  omega
theorem riseK_nodup {α:Type} {key:α→ByteArray} {l:List α} (h:RiseK key l):l.Nodup:=List.Pairwise.imp (fun {a b} hab e=>by
 subst e
 rw [less_irrefl] at hab
 cases hab) h
theorem riseK_same {α:Type} {key:α→ByteArray} {l m:List α} (hl:RiseK key l) (hm:RiseK key m) (h:∀ x,x∈l ↔ x∈m):l=m:=by
 refine riseK_ext hl hm (fun n=>?_)
 cases hf:findK key n l with
 | some t =>
  obtain ⟨h1,h2⟩:=findK_some hf
  rw [← h2,findK_mem hm ((h t).1 h1)]
 | none =>
  symm
  exact findK_out fun e he=>findK_none hf e ((h e).2 he)
abbrev cD (cl:List (List Nat)):DataW Value:=mD dK (fun _=>.agg #[]) cl
theorem unitC_cD (cl:List (List Nat)):UnitC (cD cl):=fun kl v h=>by
 simp only [cD,mD,DataW.atKey] at h
 cases hf:(cl.map (mE dK fun _=>Value.agg #[])).find? (fun x=>x.1.sameKey kl) with
 | none =>
  rw [hf] at h
  injection h with h
  exact h.symm
 | some y =>
  rw [hf] at h
  obtain ⟨d,_,rfl⟩:=List.mem_map.1 (List.mem_of_find?_eq_some hf)
  injection h with h
  exact h.symm
theorem cD_has {cl:List (List Nat)} (hok:∀ d∈cl,DigOk d) {d:List Nat} (hd:DigOk d):Maps.has (cD cl) (dKey d)=decide (d∈cl):=by
 rw [dKey_eq,mD_has]
 by_cases h:d∈cl
 ·rw [decide_eq_true h]
  cases hf:findK dK (dK d) cl with
  | some x=>rfl
  | none=>exact absurd rfl (findK_none hf d h)
 ·rw [decide_eq_false h,findK_out]
  ·rfl
  ·exact fun e he e2=>h (by rw [← dK_inj (hok e he) hd e2];exact he)
theorem insK_mem_iff {α:Type} {key:α→ByteArray} {t x:α} {l:List α} (hk:∀ a∈l,key a=key t→a=t) (hr:RiseK key l):x∈insK key t l ↔ x=t∨x∈l:=by
 refine ⟨insK_mem,fun h=>?_⟩
 have h1:=findK_ins (key x) t hr
 rcases h with rfl|h
 ·rw [if_pos rfl] at h1
  exact (findK_some h1).1
 ·by_cases e:key x=key t
  ·rw [if_pos e] at h1
   rw [hk x h e]
   exact (findK_some h1).1
  ·rw [if_neg e,findK_mem hr h] at h1
   exact (findK_some h1).1
theorem insK_len_old {α:Type} {key:α→ByteArray} {t:α}:∀ {l:List α},RiseK key l→(∃ e∈l,key e=key t)→(insK key t l).length=l.length:=fun {l} hr h=>by
 rw [insK_there hr h,List.length_map]
end Go.Proofs.YtncigfibncmioaaGreatDoor
