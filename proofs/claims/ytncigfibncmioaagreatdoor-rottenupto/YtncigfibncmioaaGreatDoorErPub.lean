/-
  PROVED HERE: what Publish of the program's store does where there was neither the content nor a tag.
-/
import Derived.Test.YtncigfibncmioaaGreatDoorBsKept
import Derived.Test.YtncigfibncmioaaGreatDoorStLock
import Derived.Test.YtncigfibncmioaaGreatDoorTagsOf
import Derived.Test.YtncigfibncmioaaGreatDoorErOpen
import Derived.Test.YtncigfibncmioaaGreatDoorStRun
import Derived.Deep.RegionHeld3
import Derived.Test.YtncigfibncmioaaGreatDoorKPick
namespace Go.Proofs.YtncigfibncmioaaGreatDoor
open Go.RowKit Go.MuLone
def BLk (w:World) (xb sb:Nat) (n:Int):Prop:=w.heap[xb]? = some (.cells #[.int .i32 n,.int .u32 0,.pointer (some ⟨sb,0,none⟩)] 108 (0,0))
theorem StW.lock {W:World} {sb:Nat} {s:PSt} {cb tb nc nt xb:Nat} {Dc Dt:DataW Value} {n:Int} {v:Value} (h:StW W sb s cb tb nc nt Dc Dt) (hb:BLk W xb sb n) (hG:¬ isG xb):StW (W.setCell ⟨xb,0,none⟩ v) sb s cb tb nc nt Dc Dt :=
 h.put hb (by decide) (h.inn.same (fun k hk=>heap_setCell_other _ _ _ _ (fun e=>by
  have e:k = xb:=e
  subst e
  rcases h.inn.typed hk hb with h3 | h3 | h3 | h3 <;> exact absurd h3 (by decide)))) hG
theorem BLk.set {W:World} {xb sb:Nat} {n:Int} (h:BLk W xb sb n) (m:Int):BLk (W.setCell ⟨xb,0,none⟩ (.int .i32 m)) xb sb m:=by
 unfold BLk
 rw [heap_setCell_same _ xb 0 _ _ _ h]
 rfl
theorem BLk.later {W W':World} {xb sb:Nat} {n:Int} (h:BLk W xb sb n) (hb:Below W.heap.size W W'):BLk W' xb sb n:=(hb.block _ (lt_heap h)).trans h
end Go.Proofs.YtncigfibncmioaaGreatDoor
namespace Go.Proofs.YtncigfibncmioaaGreatDoor
set_option maxHeartbeats 2000000
set_option maxRecDepth 100000
open Go.RowKit Go.MuLone
theorem find_there (xb sb:Nat) (s:PSt) (cb tb nc nt:Nat) (Dc Dt:DataW Value) (text:ByteArray) (n:Int) (w:World) (hx:BLk w xb sb n) (h:StW w sb s cb tb nc nt Dc Dt) (hu:UnitC Dc) (hd:isDigB text = true) (hh:Maps.has Dc (dKey (rd text)) = true) :
  Calls Tryz.prog 69 #[.pointer (some ⟨xb,0,none⟩),.string text] w fun e w'=>e = .returned (.tuple #[.agg (cells8 (rd text)),.int .i64 0]) ∧ Below w.heap.size w w':=by
 have HRD:=hide (fun W=>read_any text W)
 rw [hd] at HRD
 have HHS:=hide (fun W (hb:Below w.heap.size w W)=>has_any sb s cb tb nc nt Dc Dt (rd text) W (h.later hb) hu (rd_len text) (rd_lt text))
 rw [hh] at HHS
 have hds:=rd_len text
 generalize rd text = ds at *
 have HX:=hide hx
 have HST:=hide h
 clear hx h hu hd hh
 go_enter Tryz.func69,Tryz.ntmps69
 go_upto_region 2 with (first | (go_at_call 109;refine (HRD.out _).mono ?_;rintro _ w1 ⟨rfl,hb1⟩) | (refine wpList_store_row rfl 117 _ _ rfl w1.heap.size _ rfl rfl 117 _ (heap_alloc_new _ _) (size40 _ hds) (by rw [cells8_size,hds];rfl) (cells8_one _) ?_;rw [World.setRow_alloc_new]))
 have hz0:(w.alloc (.cells (cells8 (Sha.zeros 32)) 117)).heap[w.heap.size]? = some (.cells (cells8 (Sha.zeros 32)) 117 (0,0)):=heap_alloc_new _ _
 have hb0:Below w.heap.size w (w.alloc (.cells (cells8 (Sha.zeros 32)) 117)):=(Below.refl _ _).alloc (Nat.le_refl _) _
 have hr1:w1.heap[w.heap.size]? = some (.cells (cells8 (Sha.zeros 32)) 117 (0,0)):=(hb1.block _ (lt_heap hz0)).trans hz0
 have hbw1:Below w.heap.size w w1:=hb0.trans (hb1.mono hb0.size)
 obtain ⟨W,hW⟩ : ∃ W,W = w1.alloc (.cells (cells8 ds) 117):=⟨_,rfl⟩
 have hBW:Below w1.heap.size w1 W:=by rw [hW];exact (Below.refl _ _).alloc (Nat.le_refl _) _
 have hrow:W.heap[w1.heap.size]? = some (.cells (cells8 ds) 117 (0,0)):=by rw [hW];exact heap_alloc_new _ _
 have hrr:=(hBW.block _ (lt_heap hr1)).trans hr1
 have hbW:Below w.heap.size w W:=hbw1.trans (hBW.mono hbw1.size)
 have hlr:=lt_heap hr1
 rw [← hW]
 have c2:W.cell? ⟨xb,2,none⟩ = some (.pointer (some ⟨sb,0,none⟩)):=cell_of_row _ _ 2 _ _ _ (HX.out.later hbW)
 have HBW:=hide hbW
 have HROW:=hide hrow
 have HRR:=hide hrr
 obtain ⟨db,hdb⟩ : ∃ db,db = w1.heap.size:=⟨_,rfl⟩
 obtain ⟨rb,hrb⟩ : ∃ rb,rb = w.heap.size:=⟨_,rfl⟩
 rw [← hdb] at HROW hlr ⊢
 rw [← hrb] at HRR hlr ⊢
 have HRB:=hide hrb
 clear hbW hrow hrr hBW hz0 hb0 hr1 hbw1 hb1 hW hdb hrb HRD
 go_wp2_with (refine wpList_load_row rfl 117 _ rfl db rfl 117 _ _ _ HROW.out Tryz.underlying117 rfl (size40 _ hds) ?_)
 have hdr:Below W.heap.size W W.drew:=(Below.refl _ _).drew
 have hS0:W.drew.cell? ⟨xb,2,none⟩ = some (.pointer (some ⟨sb,0,none⟩)) ∧ W.drew.rangeAt db 0 (cells8 ds).toList:=⟨cell_later hdr c2,con_r ((hdr.block _ (lt_heap HROW.out)).trans HROW.out)⟩
 have u72:=Tryz.underlying117
 have i72:=size72 ds hds
 have HHS2:=hide (HHS.out W.drew (HBW.out.trans (hdr.mono HBW.out.size)))
 go_region_held3 (fun w'=>w'.cell? ⟨xb,2,none⟩ = some (.pointer (some ⟨sb,0,none⟩)) ∧ w'.rangeAt db 0 (cells8 ds).toList) (first | exact hS0 | exact hS3 | go_keep) ((go_at_call 110;refine (HHS2.out).mono ?_;rintro _ w3 ⟨rfl,hb3⟩;have hb4:Below W.heap.size W w3:=hdr.trans hb3;have hr3:=(hb4.block _ (lt_heap HROW.out)).trans HROW.out;have hS3:=And.intro (cell_later hb4 c2) (con_r hr3)))
 have hq3:=(hb4.block _ (lt_heap HRR.out)).trans HRR.out
 have HR3:=hide hr3
 have HQ3:=hide hq3
 have HB4:=hide (HBW.out.trans (hb4.mono HBW.out.size))
 clear hS0 hS3 hr3 hq3 hb3 hb4 hdr c2 HHS HHS2 u72 i72
 go_wp2_with (first | (refine wpList_load_row rfl 117 _ rfl db rfl 117 _ _ _ HR3.out Tryz.underlying117 rfl (size40 _ hds) ?_) | (refine wpList_store_row rfl 117 _ _ rfl rb _ rfl rfl 117 _ HQ3.out (size40 _ hds) (by simp only [cells8_size,hds,Sha.zeros_len]) (cells8_one _) ?_))
 have hsb:=HB4.out.setRow (g:=rb) (by have:=HRB.out;omega) (cells8 ds)
 exact bodyPost_ret (results_cell_tmp Tryz.results69 _ _ rb 117 _ (0,0) _ (.int .i64 0) rfl rfl (setRow_heap _ _ _ _ _ _ HQ3.out) Tryz.underlying117 rfl (size40 _ hds)) rfl ⟨rfl,hsb⟩
end Go.Proofs.YtncigfibncmioaaGreatDoor
namespace Go.Proofs.YtncigfibncmioaaGreatDoor
open Go.RowKit Go.MuLone Go.Shelf Go.Maps Go.Sort
theorem own_lock {w:World} {xb sb B size n:Nat} {e:TypeId} {v u:Value} {xs:List Value} {m:Int} (h:w.ownsRow B e size v n xs) (hx:BLk w xb sb m) (he:e ≠ 108):(w.setCell ⟨xb,0,none⟩ u).ownsRow B e size v n xs:=by
 obtain ⟨hlen,h2⟩:=h
 refine ⟨hlen,?_⟩
 rcases h2 with h2 | ⟨g,cap,cur,rfl,h3,hg,h4⟩
 ·exact .inl h2
 ·exact .inr ⟨g,cap,cur,rfl,h3,(heap_setCell_other _ _ _ _ (by simpa using type_ne hg hx he)).trans hg,h4⟩
end Go.Proofs.YtncigfibncmioaaGreatDoor
namespace Go.Proofs.YtncigfibncmioaaGreatDoor
set_option maxHeartbeats 2000000
set_option maxRecDepth 100000
open Go.RowKit Go.MuLone
theorem find_none (xb sb:Nat) (s:PSt) (cb tb nc nt:Nat) (Dc Dt:DataW Value) (text:ByteArray) (n:Int) (w:World) (hx:BLk w xb sb n) (h:StW w sb s cb tb nc nt Dc Dt) (hu:UnitC Dc) (hd:isDigB text = true) (hh:Maps.has Dc (dKey (rd text)) = false) :
  Calls Tryz.prog 69 #[.pointer (some ⟨xb,0,none⟩),.string text] w fun e w'=>e = .returned (.tuple #[.agg (cells8 (Sha.zeros 32)),.int .i64 10]) ∧ Below w.heap.size w w':=by
 have HRD:=hide (fun W=>read_any text W)
 rw [hd] at HRD
 have HHS:=hide (fun W (hb:Below w.heap.size w W)=>has_any sb s cb tb nc nt Dc Dt (rd text) W (h.later hb) hu (rd_len text) (rd_lt text))
 rw [hh] at HHS
 have hds:=rd_len text
 generalize rd text = ds at *
 have HX:=hide hx
 have HST:=hide h
 clear hx h hu hd hh
 go_enter Tryz.func69,Tryz.ntmps69
 go_upto_region 2 with (first | (go_at_call 109;refine (HRD.out _).mono ?_;rintro _ w1 ⟨rfl,hb1⟩) | (refine wpList_store_row rfl 117 _ _ rfl w1.heap.size _ rfl rfl 117 _ (heap_alloc_new _ _) (size40 _ hds) (by rw [cells8_size,hds];rfl) (cells8_one _) ?_;rw [World.setRow_alloc_new]))
 have hz0:(w.alloc (.cells (cells8 (Sha.zeros 32)) 117)).heap[w.heap.size]? = some (.cells (cells8 (Sha.zeros 32)) 117 (0,0)):=heap_alloc_new _ _
 have hb0:Below w.heap.size w (w.alloc (.cells (cells8 (Sha.zeros 32)) 117)):=(Below.refl _ _).alloc (Nat.le_refl _) _
 have hr1:w1.heap[w.heap.size]? = some (.cells (cells8 (Sha.zeros 32)) 117 (0,0)):=(hb1.block _ (lt_heap hz0)).trans hz0
 have hbw1:Below w.heap.size w w1:=hb0.trans (hb1.mono hb0.size)
 obtain ⟨W,hW⟩ : ∃ W,W = w1.alloc (.cells (cells8 ds) 117):=⟨_,rfl⟩
 have hBW:Below w1.heap.size w1 W:=by rw [hW];exact (Below.refl _ _).alloc (Nat.le_refl _) _
 have hrow:W.heap[w1.heap.size]? = some (.cells (cells8 ds) 117 (0,0)):=by rw [hW];exact heap_alloc_new _ _
 have hrr:=(hBW.block _ (lt_heap hr1)).trans hr1
 have hbW:Below w.heap.size w W:=hbw1.trans (hBW.mono hbw1.size)
 have hlr:=lt_heap hr1
 rw [← hW]
 have c2:W.cell? ⟨xb,2,none⟩ = some (.pointer (some ⟨sb,0,none⟩)):=cell_of_row _ _ 2 _ _ _ (HX.out.later hbW)
 have HBW:=hide hbW
 have HROW:=hide hrow
 have HRR:=hide hrr
 obtain ⟨db,hdb⟩ : ∃ db,db = w1.heap.size:=⟨_,rfl⟩
 obtain ⟨rb,hrb⟩ : ∃ rb,rb = w.heap.size:=⟨_,rfl⟩
 rw [← hdb] at HROW hlr ⊢
 rw [← hrb] at HRR hlr ⊢
 have HRB:=hide hrb
 clear hbW hrow hrr hBW hz0 hb0 hr1 hbw1 hb1 hW hdb hrb HRD
 go_wp2_with (refine wpList_load_row rfl 117 _ rfl db rfl 117 _ _ _ HROW.out Tryz.underlying117 rfl (size40 _ hds) ?_)
 have hdr:Below W.heap.size W W.drew:=(Below.refl _ _).drew
 have hS0:W.drew.cell? ⟨xb,2,none⟩ = some (.pointer (some ⟨sb,0,none⟩)) ∧ W.drew.rangeAt db 0 (cells8 ds).toList:=⟨cell_later hdr c2,con_r ((hdr.block _ (lt_heap HROW.out)).trans HROW.out)⟩
 have u72:=Tryz.underlying117
 have i72:=size72 ds hds
 have HHS2:=hide (HHS.out W.drew (HBW.out.trans (hdr.mono HBW.out.size)))
 go_region_held3 (fun w'=>w'.cell? ⟨xb,2,none⟩ = some (.pointer (some ⟨sb,0,none⟩)) ∧ w'.rangeAt db 0 (cells8 ds).toList) (first | exact hS0 | exact hS3 | go_keep) ((go_at_call 110;refine (HHS2.out).mono ?_;rintro _ w3 ⟨rfl,hb3⟩;have hb4:Below W.heap.size W w3:=hdr.trans hb3;have hr3:=(hb4.block _ (lt_heap HROW.out)).trans HROW.out;have hS3:=And.intro (cell_later hb4 c2) (con_r hr3)))
 have hq3:=(hb4.block _ (lt_heap HRR.out)).trans HRR.out
 have HR3:=hide hr3
 have HQ3:=hide hq3
 have HB4:=hide (HBW.out.trans (hb4.mono HBW.out.size))
 clear hS0 hS3 hr3 hq3 hb3 hb4 hdr c2 HHS HHS2 u72 i72
 go_wp2_with (refine wpList_store_row rfl 117 _ _ rfl rb (cells8 (Sha.zeros 32)) rfl rfl 117 _ HQ3.out (size40 _ (Sha.zeros_len _)) rfl (cells8_one _) ?_)
 have hsb:=HB4.out.setRow (g:=rb) (by have:=HRB.out;omega) (cells8 (Sha.zeros 32))
 exact bodyPost_ret (results_cell_tmp Tryz.results69 _ _ rb 117 _ (0,0) _ (.int .i64 10) rfl rfl (setRow_heap _ _ _ _ _ _ HQ3.out) Tryz.underlying117 rfl (size40 _ (Sha.zeros_len _))) rfl ⟨rfl,hsb⟩
end Go.Proofs.YtncigfibncmioaaGreatDoor
namespace Go.Proofs.YtncigfibncmioaaGreatDoor
open Go.RowKit Go.Shelf Go.Maps Go.Sort
attribute [local go_sem] Oper.semAt_some
theorem keys_in (F:Fence) (n:Nat) (hf:F.fn 105) (hro:F.round = none) (mb:Option Nat) (w:World) :
  CallsIn F n Tryz.prog 105 #[.map mb] w fun e w'=>e = .returned (.func (.func 161) #[] #[.pointer (some ⟨w.heap.size,0,none⟩)]) ∧ w' = w.alloc (.cells #[.map mb] 156):=by
 refine callsIn_of_wp Tryz.func105 rfl hf ?_ hro
 simp only [Tryz.ntmps105,List.size_toArray,List.length_cons,List.length_nil,Nat.reduceAdd,Nat.reduceSub,Array.replicate_succ,Array.replicate_zero,List.push_toArray,List.append_toArray,List.nil_append,List.cons_append]
 gi_wp2
 go_ret
 exact ⟨rfl,rfl⟩
end Go.Proofs.YtncigfibncmioaaGreatDoor
namespace Go.Proofs.YtncigfibncmioaaGreatDoor
open Go.RowKit
structure DkW (w:World) (d:Nat) (s:PSt):Prop where
 inn:s.In w
 bd:BD w d s.b
 gl:Gl w
 low:LowS s
theorem DkW.go {w w':World} {d:Nat} {s s':PSt} (h:DkW w d s) (hg:PGo s s' w w'):DkW w' d s':=by
 obtain ⟨g1,g2⟩:=h.gl.go h.low hg
 refine ⟨hg.inn,?_,g1,g2⟩
 unfold BD
 rw [hg.b]
 exact hg.keeps h.inn h.bd (by decide) (by decide) (by decide) (by decide)
theorem find_mem:∀ {l:List DE},Rise l → ∀ e ∈ l,findE e.path l = some e.blk
 | [],_,e,he=>by cases he
 | a :: l,hr,e,he=>by
  have h1:=List.pairwise_cons.1 hr
  show (if a.path = e.path then some a.blk else findE e.path l) = _
  rcases List.mem_cons.1 he with rfl | he
  ·rw [if_pos rfl]
  ·rw [if_neg (less_ne (h1.1 e he))]
   exact find_mem h1.2 e he
theorem DFit.dat36 {D:DS} {L C B:Nat} (h:DFit D L C B) (hd:∀ f ∈ D.fs,FitB 36 (D.fd f)):DFit D L C 36:=⟨h.len,h.c0,h.c1,h.l0,h.l1,h.r0,h.r1,hd,h.chf,h.inv,h.inow,h.isafe,h.ichg,h.rise⟩
theorem open_fit {D D':DS} {k:Int} {C:Nat} (h:Er D) (hr:36 ≤ D.R.room) (hf:DFit D 6 C 36) (hb:OpR D k D'):DFit D' 30 (C + 30) 36:=by
 obtain ⟨rfl,_,ea,_⟩:=open_pure h hr hb
 have hnl:=hf.nowLen
 have hrl:=rmS_len (fun _=>true) D.R.now
 have hrf:=rmS_len foreignB D.R.now
 rcases hb with ⟨_,h2⟩ | ⟨_,h2⟩
 ·rcases h2 with ⟨_,h2,_⟩ | ⟨_,k1,m,D1,h3,h4⟩
  ·exact absurd rfl h2
  ·have f1:=hf.ran h3
   rcases h4 with ⟨h4,h5,_⟩ | ⟨_,m2,D2,h5,h6⟩
   ·exact absurd h5.symm h4
   ·have f2:=f1.ran h5
    rcases h6 with ⟨_,rfl⟩ | ⟨h6,_⟩
    ·have hw:(wrS beginFl).length = 10:=by rw [wrS_begin];rfl
     rw [hw] at f2
     exact (f2.dat36 ea.dat).mono (by omega) (by omega) (Nat.le_refl _)
    ·exact absurd rfl h6
 ·obtain ⟨k1,m,D1,h3,h4⟩:=h2
  have f1:=hf.ran h3
  rcases h4 with ⟨h4,h5,_⟩ | ⟨_,h5⟩
  ·exact absurd h5.symm h4
  ·have f2:=f1.st h5
   exact (f2.dat36 ea.dat).mono (by omega) (by omega) (Nat.le_refl _)
theorem PGo.low {N:Nat} {s s':PSt} {w w':World} (hg:PGo s s' w w') (ho:∀ k,s.own k → N ≤ k) (hN:N ≤ w.heap.size):Below N w w':=⟨hg.gr.os,hg.gr.tape,hg.gr.output,hg.gr.size,fun k hk=>hg.gr.block k (by omega) (fun e=>by have:=ho k e;omega)⟩
theorem PGo.ownN {N:Nat} {s s':PSt} {w w':World} (hg:PGo s s' w w') (ho:∀ k,s.own k → N ≤ k) (hN:N ≤ w.heap.size):∀ k,s'.own k → N ≤ k:=fun k hk=>(hg.own k hk).elim (ho k) (fun e=>by omega)
theorem Er.paths {D:DS} (h:Er D):∀ e ∈ D.R.now,e.path.size ≤ 9223372036854775807:=fun e he=>by
 have h1:=h.ea.six 0 e
 rw [List.take_zero] at h1
 rw [h.now] at he
 have h2:=six_path (h1 he)
 simp only [isPathB,Bool.and_eq_true,decide_eq_true_eq] at h2
 omega
theorem cP_size (ds:List Nat):(cPath ds).size = 70:=by
 unfold cPath
 rw [bytes_size,List.length_append,Sha.textTo_len]
 rfl
theorem cP_path (ds:List Nat):isPathB (cPath ds) = true:=by
 simp [isPathB,cP_size]
theorem cP_data (ds:List Nat):(cPath ds).data.toList = 98 :: 108 :: (([111,98,115,47]:List UInt8) ++ Sha.textTo ds 32):=by
 unfold cPath
 rfl
theorem cP_index (ds:List Nat):lessB (cPath ds) indexP = true:=by rw [less_eq,cP_data];rfl
theorem cP_journal (ds:List Nat):lessB (cPath ds) journalP = true:=by rw [less_eq,cP_data];rfl
theorem cP_layout (ds:List Nat):lessB (cPath ds) layoutP = true:=by rw [less_eq,cP_data];rfl
end Go.Proofs.YtncigfibncmioaaGreatDoor
