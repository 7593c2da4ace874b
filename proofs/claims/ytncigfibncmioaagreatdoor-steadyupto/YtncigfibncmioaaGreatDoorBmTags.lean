/-
  PROVED HERE: Tag and Delete of the program's store, of a content that is there; written by tools/genbm.py.
-/
import Derived.Test.YtncigfibncmioaaGreatDoorBmRef
import Derived.Test.YtncigfibncmioaaGreatDoorSmDelC
import Derived.Test.YtncigfibncmioaaGreatDoorSmDig
namespace Go.Proofs.YtncigfibncmioaaGreatDoor
set_option maxHeartbeats 4000000
set_option maxRecDepth 100000
open Go.RowKit Go.MuLone
theorem bTag_many (xb sb:Nat) (s:PSt) (cb tb nc:Nat) (Dc:DataW Value) (l:List TE) (name text:ByteArray) (w:World) (hx:BSt w xb sb) (hG:¬ isG xb) (h:StW w sb s cb tb nc l.length Dc (tD l)) (hn:name.size≤1000000) (htag:isTagB name=true) (hok:∀ t∈l,t.Ok) (hu:UnitC Dc) (hdig:isDigB text=true) (hh:Maps.has Dc (dKey (rd text))=true) (hmay:((findK TE.n name l).isSome || decide (l.length<8))=false) :
  Calls Tryz.prog 36 #[.pointer (some ⟨xb,0,none⟩),.string name,.string text] w fun e w'=>e = .returned (.int .i64 12)∧SGo (sS xb sb cb) s s w w'∧BSt w' xb sb∧StW w' sb s cb tb nc l.length Dc (tD l):=by
 have hx:BLk w xb sb 0:=hx
 have c0:w.cell? ⟨xb,0,none⟩=some (.int .i32 0):=cell_of_row _ _ 0 _ _ _ hx
 have f0:w.frozen? ⟨xb,0,none⟩=false:=frozen_of_row _ _ 0 _ _ hx
 obtain ⟨W,hW⟩ : ∃ W,W=w.setCell ⟨xb,0,none⟩ (.int .i32 1):=⟨_,rfl⟩
 have hst:StW W sb s cb tb nc l.length Dc (tD l):=by rw [hW];exact h.lock hx hG
 have hxw:BLk W xb sb 1:=by rw [hW];exact hx.set 1
 have hfw:SGo (sS xb sb cb) s s w W:=by rw [hW];exact SGo.lock
 have HIT:=hide (ownTag_any name W (by omega))
 rw [htag] at HIT
 have HFD:=hide (find_there xb sb s cb tb nc l.length Dc (tD l) text 1 W hxw hst hu hdig hh)
 have HMT:=hide (fun W' (hb':Below W.heap.size W W')=>mayTag_any sb s cb tb nc Dc l name W' (hst.later hb') hok (by omega))
 rw [hmay] at HMT
 have hds:=rd_len text
 have hlt:=rd_lt text
 generalize rd text=ds at *
 have HLK:=hide (lock_free Tryz.muLib ⟨xb,0,none⟩ w c0 f0)
 have HW:=hide hW
 have HST:=hide hst
 have HXW:=hide hxw
 have HFW:=hide hfw
 have c2:W.cell? ⟨xb,2,none⟩=some (.pointer (some ⟨sb,0,none⟩)):=cell_of_row _ _ 2 _ _ _ hxw
 clear hx c0 f0 hst hxw hfw hW h htag hu hdig hh hok hmay
 go_enter_defers Tryz.func36,Tryz.ntmps36
 go_wp2_with fail
 refine (HLK.out).mono ?_
 rintro _ W1 ⟨rfl,hW1⟩
 have hW1:W1=W:=hW1.trans HW.out.symm
 rw [hW1]
 dsimp only
 clear hW1 HLK HW
 go_wp2_with fail
 refine (HIT.out).mono ?_
 rintro _ W2 ⟨rfl,hW2⟩
 rw [hW2]
 dsimp only
 clear hW2 HIT
 go_wp2_with fail
 refine (HFD.out).mono ?_
 rintro _ w3 ⟨rfl,hb3⟩
 dsimp only
 obtain ⟨X,hX⟩ : ∃ X,X=w3.alloc (.cells (cells8 ds) 117):=⟨_,rfl⟩
 have hbX:Below w3.heap.size w3 X:=by rw [hX];exact (Below.refl _ _).alloc (Nat.le_refl _) _
 have hXr:X.heap[w3.heap.size]? = some (.cells (cells8 ds) 117 (0,0)):=by rw [hX];exact heap_alloc_new _ _
 have hb4:Below W.heap.size W X:=hb3.trans (hbX.mono hb3.size)
 have c3:=cell_later hb4 c2
 have HX3:=hide (HXW.out.later hb4)
 have HF3:=hide (HFW.out.trans (SGo.of_below hb4))
 have HS3:=hide (HST.out.later hb4)
 have HXR:=hide hXr
 have HXX:=hide hX
 have HW3:=hide hb3.size
 clear hX hbX hXr hb3
 go_wp2_with (first|(refine wpList_store_row rfl 117 _ _ rfl w3.heap.size (cells8 ds) rfl rfl 117 _ (heap_alloc_new _ _) (size40 _ hds) (by first|rfl|(rw [cells8_size,hds];rfl)|(rw [cells8_size,cells8_size,hds];rfl)) (cells8_one _) ?_;rw [World.setRow_alloc_new,← HXX.out])|(refine wpList_load_row rfl 117 _ rfl w3.heap.size rfl 117 _ _ _ HXR.out Tryz.underlying117 rfl (size40 _ hds) ?_))
 refine (HMT.out _ hb4).mono ?_
 rintro _ w5 ⟨rfl,hb5⟩
 dsimp only
 have hb6:=hb4.trans (hb5.mono hb4.size)
 have c5:=cell_later hb5 c3
 have HXR5:=hide ((hb5.block _ (lt_heap HXR.out)).trans HXR.out)
 have HX5:=hide (HX3.out.later hb5)
 have HF5:=hide (HF3.out.trans (SGo.of_below hb5))
 have HS5:=hide (HS3.out.later hb5)
 have HB6:=hide hb6
 clear hb4 hb5 hb6 HMT HFD c2 c3
 go_wp2_with fail
 refine leaves_cons (f:=58) (args:=#[.pointer (some ⟨xb,0,none⟩)]) (by simp) (by simp [go_sem]) ?_
 refine (unlock_deferred Tryz.muLib ⟨xb,0,none⟩ .returning _ (cell_of_row _ _ 0 _ _ _ HX5.out) (frozen_of_row _ _ 0 _ _ HX5.out)).mono ?_
 rintro e u' w6 ⟨rfl,rfl,rfl⟩
 exact ⟨_,results_tmp rfl _ _ _,rfl,HF5.out.trans SGo.lock,HX5.out.set 0,HS5.out.lock HX5.out hG⟩
theorem bTag_any (xb sb:Nat) (s:PSt) (cb tb nc:Nat) (Dc:DataW Value) (l:List TE) (name text:ByteArray) (w:World) (hx:BSt w xb sb) (hG:¬ isG xb) (h:StW w sb s cb tb nc l.length Dc (tD l)) {L C B:Nat} (hn:name.size≤20) (htag:isTagB name=true) (hok:∀ t∈l,t.Ok) (hu:UnitC Dc) (hdig:isDigB text=true) (hh:Maps.has Dc (dKey (rd text))=true) (hmay:((findK TE.n name l).isSome || decide (l.length<8))=true) (hr300:∀ t,rdD s.ds (cPath (rd text))=some t→t.size≤300) (h8:l.length≤8) (h8':(insK TE.n ⟨name,rd text,0⟩ l).length≤8) (hf:DFit s.ds L C B) (hb:Bud (L+100) (C+100) (B+40000)) :
  Calls Tryz.prog 36 #[.pointer (some ⟨xb,0,none⟩),.string name,.string text] w fun e w'=>∃ k s',e = .returned (.int .i64 k)∧SGo (sS xb sb cb) s s' w w'∧BSt w' xb sb∧WrZ s.ds (chF [] l (taT s.ds (rd text) name l)) k s'.ds ∧
   (k=0→∃ t2,w.heap.size≤t2∧StW w' sb s' cb t2 nc (taT s.ds (rd text) name l).length Dc (tD (taT s.ds (rd text) name l)))∧(k≠0→StW w' sb s' cb tb nc l.length Dc (tD l)):=by
 have hx:BLk w xb sb 0:=hx
 have c0:w.cell? ⟨xb,0,none⟩=some (.int .i32 0):=cell_of_row _ _ 0 _ _ _ hx
 have f0:w.frozen? ⟨xb,0,none⟩=false:=frozen_of_row _ _ 0 _ _ hx
 obtain ⟨W,hW⟩ : ∃ W,W=w.setCell ⟨xb,0,none⟩ (.int .i32 1):=⟨_,rfl⟩
 have hst:StW W sb s cb tb nc l.length Dc (tD l):=by rw [hW];exact h.lock hx hG
 have hxw:BLk W xb sb 1:=by rw [hW];exact hx.set 1
 have hfw:SGo (sS xb sb cb) s s w W:=by rw [hW];exact SGo.lock
 have HIT:=hide (ownTag_any name W (by omega))
 rw [htag] at HIT
 have HFD:=hide (find_there xb sb s cb tb nc l.length Dc (tD l) text 1 W hxw hst hu hdig hh)
 have HMT:=hide (fun W' (hb':Below W.heap.size W W')=>mayTag_any sb s cb tb nc Dc l name W' (hst.later hb') hok (by omega))
 rw [hmay] at HMT
 have HPB:=hide (fun W' (hb':Below W.heap.size W W')=>tag_any sb s cb tb nc Dc l name (rd text) W' (hst.later hb') hr300 hok hn h8 h8' (rd_len text) (rd_lt text) hf hb)
 have hds:=rd_len text
 have hlt:=rd_lt text
 generalize rd text=ds at *
 have HLK:=hide (lock_free Tryz.muLib ⟨xb,0,none⟩ w c0 f0)
 have HW:=hide hW
 have HST:=hide hst
 have HXW:=hide hxw
 have HFW:=hide hfw
 have c2:W.cell? ⟨xb,2,none⟩=some (.pointer (some ⟨sb,0,none⟩)):=cell_of_row _ _ 2 _ _ _ hxw
 clear hx c0 f0 hst hxw hfw hW h htag hu hdig hh hok hmay hr300 h8' hf hb
 go_enter_defers Tryz.func36,Tryz.ntmps36
 go_wp2_with fail
 refine (HLK.out).mono ?_
 rintro _ W1 ⟨rfl,hW1⟩
 have hW1:W1=W:=hW1.trans HW.out.symm
 rw [hW1]
 dsimp only
 clear hW1 HLK HW
 go_wp2_with fail
 refine (HIT.out).mono ?_
 rintro _ W2 ⟨rfl,hW2⟩
 rw [hW2]
 dsimp only
 clear hW2 HIT
 go_wp2_with fail
 refine (HFD.out).mono ?_
 rintro _ w3 ⟨rfl,hb3⟩
 dsimp only
 obtain ⟨X,hX⟩ : ∃ X,X=w3.alloc (.cells (cells8 ds) 117):=⟨_,rfl⟩
 have hbX:Below w3.heap.size w3 X:=by rw [hX];exact (Below.refl _ _).alloc (Nat.le_refl _) _
 have hXr:X.heap[w3.heap.size]? = some (.cells (cells8 ds) 117 (0,0)):=by rw [hX];exact heap_alloc_new _ _
 have hb4:Below W.heap.size W X:=hb3.trans (hbX.mono hb3.size)
 have c3:=cell_later hb4 c2
 have HX3:=hide (HXW.out.later hb4)
 have HF3:=hide (HFW.out.trans (SGo.of_below hb4))
 have HS3:=hide (HST.out.later hb4)
 have HXR:=hide hXr
 have HXX:=hide hX
 have HW3:=hide hb3.size
 clear hX hbX hXr hb3
 go_wp2_with (first|(refine wpList_store_row rfl 117 _ _ rfl w3.heap.size (cells8 ds) rfl rfl 117 _ (heap_alloc_new _ _) (size40 _ hds) (by first|rfl|(rw [cells8_size,hds];rfl)|(rw [cells8_size,cells8_size,hds];rfl)) (cells8_one _) ?_;rw [World.setRow_alloc_new,← HXX.out])|(refine wpList_load_row rfl 117 _ rfl w3.heap.size rfl 117 _ _ _ HXR.out Tryz.underlying117 rfl (size40 _ hds) ?_))
 refine (HMT.out _ hb4).mono ?_
 rintro _ w5 ⟨rfl,hb5⟩
 dsimp only
 have hb6:=hb4.trans (hb5.mono hb4.size)
 have c5:=cell_later hb5 c3
 have HXR5:=hide ((hb5.block _ (lt_heap HXR.out)).trans HXR.out)
 have HX5:=hide (HX3.out.later hb5)
 have HF5:=hide (HF3.out.trans (SGo.of_below hb5))
 have HS5:=hide (HS3.out.later hb5)
 have HB6:=hide hb6
 clear hb4 hb5 hb6 HMT HFD c2 c3
 go_wp2_with fail
 have hdr:Below w5.heap.size w5 w5.drew:=(Below.refl _ _).drew
 have hrd0:=(hdr.block _ (lt_heap HXR5.out)).trans HXR5.out
 have hyb0:W.heap.size≤w3.heap.size:=HW3.out
 obtain ⟨yb,hyb⟩ : ∃ yb,yb=w3.heap.size:=⟨_,rfl⟩
 rw [← hyb] at HXR5 hrd0 hyb0 ⊢
 have hS0:w5.drew.cell? ⟨xb,2,none⟩=some (.pointer (some ⟨sb,0,none⟩))∧w5.drew.rangeAt yb 0 (cells8 ds).toList:=⟨cell_later hdr c5,con_r hrd0⟩
 have u72:=Tryz.underlying117
 have i72:=size72 ds hds
 have hb6d:=HB6.out.trans (hdr.mono HB6.out.size)
 have HX6:=hide (HX5.out.later hdr)
 have HS6:=hide (HS5.out.later hdr)
 have HF6:=hide (HF5.out.trans (SGo.of_below hdr))
 have hnown:¬ (s.own yb∨yb=sb):=fun e=>by
  rcases e with e|e
  ·have:=HST.out.inn.lt e;omega
  ·have:=lt_heap HST.out.blk;omega
 clear hyb
 go_region_held3 (fun w'=>w'.cell? ⟨xb,2,none⟩=some (.pointer (some ⟨sb,0,none⟩))∧w'.rangeAt yb 0 (cells8 ds).toList) (first|exact hS0|exact hS1|exact hS2|go_keep) ((first|(go_at_call 72;refine (HPB.out _ hb6d).mono ?_;rintro _ w4 ⟨ev,k,s',rfl,hev,hft,hwr,h40,h41⟩;have hx7:=HX6.out.sgo HS6.out hft (fun k hk=>.inl hk);have hr7:=(hft.gr.block _ (lt_heap hrd0) hnown).trans hrd0;have hS1:w4.cell? ⟨xb,2,none⟩=some (.pointer (some ⟨sb,0,none⟩))∧w4.rangeAt yb 0 (cells8 ds).toList:=⟨cell_of_row _ _ 2 _ _ _ hx7,con_r hr7⟩;have hg4:Gl w4:=(if hk:k=0 then (by obtain ⟨t2, -,h4⟩:=h40 hk;exact h4.gl) else (h41 hk).gl))|(go_at_call 51;refine (errno_ev hev hg4.err).mono ?_;rintro _ w8 ⟨rfl,hb8⟩;have hS2:w8.cell? ⟨xb,2,none⟩=some (.pointer (some ⟨sb,0,none⟩))∧w8.rangeAt yb 0 (cells8 ds).toList:=⟨cell_later hb8 hS1.1,con_r ((hb8.block _ (lt_heap hr7)).trans hr7)⟩)))
 have HX8:=hide (hx7.later hb8)
 have HF8:=hide ((HF6.out.trans (hft.st (xb:=xb) (cb:=cb) (fun k hk=>.inl hk))).trans (SGo.of_below hb8))
 have HB8:=hide hb8
 have HWR:=hide hwr
 have H40:=hide h40
 have H41:=hide h41
 clear hS0 hS1 hS2 hx7 hr7 hb8 hev hft hwr h40 h41 hg4 hb6d hdr hrd0 u72 i72 HPB c5
 go_wp2_with fail
 refine leaves_cons (f:=58) (args:=#[.pointer (some ⟨xb,0,none⟩)]) (by simp) (by simp [go_sem]) ?_
 refine (unlock_deferred Tryz.muLib ⟨xb,0,none⟩ .returning _ (cell_of_row _ _ 0 _ _ _ HX8.out) (frozen_of_row _ _ 0 _ _ HX8.out)).mono ?_
 rintro e u' w6 ⟨rfl,rfl,rfl⟩
 exact ⟨_,results_tmp rfl _ _ _,k,s',rfl,HF8.out.trans SGo.lock,HX8.out.set 0,HWR.out,fun hk=>by
  obtain ⟨t2,ht2,h4⟩:=H40.out hk
  exact ⟨t2,Nat.le_trans HF6.out.gr.size ht2,(h4.later HB8.out).lock HX8.out hG⟩,fun hk=>((H41.out hk).later HB8.out).lock HX8.out hG⟩
theorem bDel_tagged (xb sb:Nat) (s:PSt) (cb tb nc:Nat) (Dc:DataW Value) (l:List TE) (text:ByteArray) (w:World) (hx:BSt w xb sb) (hG:¬ isG xb) (h:StW w sb s cb tb nc l.length Dc (tD l)) (hok:∀ t∈l,t.Ok) (hu:UnitC Dc) (hdig:isDigB text=true) (hh:Maps.has Dc (dKey (rd text))=true) (hmay:tagd (rd text) l=true) :
  Calls Tryz.prog 39 #[.pointer (some ⟨xb,0,none⟩),.string text] w fun e w'=>e = .returned (.int .i64 11)∧SGo (sS xb sb cb) s s w w'∧BSt w' xb sb∧StW w' sb s cb tb nc l.length Dc (tD l):=by
 have hx:BLk w xb sb 0:=hx
 have c0:w.cell? ⟨xb,0,none⟩=some (.int .i32 0):=cell_of_row _ _ 0 _ _ _ hx
 have f0:w.frozen? ⟨xb,0,none⟩=false:=frozen_of_row _ _ 0 _ _ hx
 obtain ⟨W,hW⟩ : ∃ W,W=w.setCell ⟨xb,0,none⟩ (.int .i32 1):=⟨_,rfl⟩
 have hst:StW W sb s cb tb nc l.length Dc (tD l):=by rw [hW];exact h.lock hx hG
 have hxw:BLk W xb sb 1:=by rw [hW];exact hx.set 1
 have hfw:SGo (sS xb sb cb) s s w W:=by rw [hW];exact SGo.lock
 have HFD:=hide (find_there xb sb s cb tb nc l.length Dc (tD l) text 1 W hxw hst hu hdig hh)
 have HMT:=hide (fun W' (hb':Below W.heap.size W W')=>isTagged_any sb s cb tb nc Dc l (rd text) W' (hst.later hb') hok (rd_len text) (rd_lt text))
 rw [hmay] at HMT
 have hds:=rd_len text
 have hlt:=rd_lt text
 generalize rd text=ds at *
 have HLK:=hide (lock_free Tryz.muLib ⟨xb,0,none⟩ w c0 f0)
 have HW:=hide hW
 have HST:=hide hst
 have HXW:=hide hxw
 have HFW:=hide hfw
 have c2:W.cell? ⟨xb,2,none⟩=some (.pointer (some ⟨sb,0,none⟩)):=cell_of_row _ _ 2 _ _ _ hxw
 clear hx c0 f0 hst hxw hfw hW h hu hdig hh hok hmay
 go_enter_defers Tryz.func39,Tryz.ntmps39
 go_wp2_with fail
 refine (HLK.out).mono ?_
 rintro _ W1 ⟨rfl,hW1⟩
 have hW1:W1=W:=hW1.trans HW.out.symm
 rw [hW1]
 dsimp only
 clear hW1 HLK HW
 go_wp2_with fail
 refine (HFD.out).mono ?_
 rintro _ w3 ⟨rfl,hb3⟩
 dsimp only
 obtain ⟨X,hX⟩ : ∃ X,X=w3.alloc (.cells (cells8 ds) 117):=⟨_,rfl⟩
 have hbX:Below w3.heap.size w3 X:=by rw [hX];exact (Below.refl _ _).alloc (Nat.le_refl _) _
 have hXr:X.heap[w3.heap.size]? = some (.cells (cells8 ds) 117 (0,0)):=by rw [hX];exact heap_alloc_new _ _
 have hb4:Below W.heap.size W X:=hb3.trans (hbX.mono hb3.size)
 have c3:=cell_later hb4 c2
 have HX3:=hide (HXW.out.later hb4)
 have HF3:=hide (HFW.out.trans (SGo.of_below hb4))
 have HS3:=hide (HST.out.later hb4)
 have HXR:=hide hXr
 have HXX:=hide hX
 have HW3:=hide hb3.size
 clear hX hbX hXr hb3
 go_wp2_with (first|(refine wpList_store_row rfl 117 _ _ rfl w3.heap.size (cells8 ds) rfl rfl 117 _ (heap_alloc_new _ _) (size40 _ hds) (by first|rfl|(rw [cells8_size,hds];rfl)|(rw [cells8_size,cells8_size,hds];rfl)) (cells8_one _) ?_;rw [World.setRow_alloc_new,← HXX.out])|(refine wpList_load_row rfl 117 _ rfl w3.heap.size rfl 117 _ _ _ HXR.out Tryz.underlying117 rfl (size40 _ hds) ?_))
 have hdr:Below X.heap.size X X.drew:=(Below.refl _ _).drew
 have hrd0:=(hdr.block _ (lt_heap HXR.out)).trans HXR.out
 obtain ⟨yb,hyb⟩ : ∃ yb,yb=w3.heap.size:=⟨_,rfl⟩
 rw [← hyb] at HXR hrd0 ⊢
 have hS0:X.drew.cell? ⟨xb,2,none⟩=some (.pointer (some ⟨sb,0,none⟩))∧X.drew.rangeAt yb 0 (cells8 ds).toList:=⟨cell_later hdr c3,con_r hrd0⟩
 have u72:=Tryz.underlying117
 have i72:=size72 ds hds
 have hb4d:=hb4.trans (hdr.mono hb4.size)
 clear hyb
 go_region_held3 (fun w'=>w'.cell? ⟨xb,2,none⟩=some (.pointer (some ⟨sb,0,none⟩))∧w'.rangeAt yb 0 (cells8 ds).toList) (first|exact hS0|exact hS1|go_keep) ((first|(go_at_call 75;refine (HMT.out _ hb4d).mono ?_;rintro _ w5 ⟨rfl,hb5⟩;have hS1:w5.cell? ⟨xb,2,none⟩=some (.pointer (some ⟨sb,0,none⟩))∧w5.rangeAt yb 0 (cells8 ds).toList:=⟨cell_later hb5 (cell_later hdr c3),con_r ((hb5.block _ (lt_heap hrd0)).trans hrd0)⟩)))
 have hb5x:Below X.heap.size X w5:=hdr.trans hb5
 have HXR5:=hide ((hb5.block _ (lt_heap hrd0)).trans hrd0)
 have HX5:=hide (HX3.out.later hb5x)
 have HF5:=hide (HF3.out.trans (SGo.of_below hb5x))
 have HS5:=hide (HS3.out.later hb5x)
 have HB6:=hide (hb4.trans (hb5x.mono hb4.size))
 clear hS0 hS1 hb5 hb5x hb4 hb4d hdr hrd0 u72 i72 HMT HFD c2 c3
 go_wp2_with fail
 refine leaves_cons (f:=58) (args:=#[.pointer (some ⟨xb,0,none⟩)]) (by simp) (by simp [go_sem]) ?_
 refine (unlock_deferred Tryz.muLib ⟨xb,0,none⟩ .returning _ (cell_of_row _ _ 0 _ _ _ HX5.out) (frozen_of_row _ _ 0 _ _ HX5.out)).mono ?_
 rintro e u' w6 ⟨rfl,rfl,rfl⟩
 exact ⟨_,results_tmp rfl _ _ _,rfl,HF5.out.trans SGo.lock,HX5.out.set 0,HS5.out.lock HX5.out hG⟩
set_option maxHeartbeats 4000000
set_option maxRecDepth 100000
open Go.RowKit Go.MuLone
theorem bGet_any (xb sb:Nat) (s:PSt) (cb tb nc:Nat) (Dc:DataW Value) (l:List TE) (text:ByteArray) (w:World) (hx:BSt w xb sb) (hG:¬ isG xb) (h:StW w sb s cb tb nc l.length Dc (tD l)) (hu:UnitC Dc) (hdig:isDigB text=true) (hh:Maps.has Dc (dKey (rd text))=true) (hrd:∀ t,rdD s.ds (cPath (rd text))=some t→t.size≤140737488351232) :
  Calls Tryz.prog 34 #[.pointer (some ⟨xb,0,none⟩),.string text] w fun e w'=>e = .returned (.tuple #[.string ((conR s.ds (rd text)).getD ⟨#[]⟩),.int .i64 (if (conR s.ds (rd text)).isSome then 0 else 13)])∧SGo (sS xb sb cb) s s w w'∧BSt w' xb sb∧StW w' sb s cb tb nc l.length Dc (tD l):=by
 have hx:BLk w xb sb 0:=hx
 have c0:w.cell? ⟨xb,0,none⟩=some (.int .i32 0):=cell_of_row _ _ 0 _ _ _ hx
 have f0:w.frozen? ⟨xb,0,none⟩=false:=frozen_of_row _ _ 0 _ _ hx
 obtain ⟨W,hW⟩ : ∃ W,W=w.setCell ⟨xb,0,none⟩ (.int .i32 1):=⟨_,rfl⟩
 have hst:StW W sb s cb tb nc l.length Dc (tD l):=by rw [hW];exact h.lock hx hG
 have hxw:BLk W xb sb 1:=by rw [hW];exact hx.set 1
 have hfw:SGo (sS xb sb cb) s s w W:=by rw [hW];exact SGo.lock
 have HFD:=hide (find_there xb sb s cb tb nc l.length Dc (tD l) text 1 W hxw hst hu hdig hh)
 have hds:=rd_len text
 have hlt:=rd_lt text
 generalize rd text=ds at *
 have HCF:=hide (fun Y hY=>content_any sb s ds Y hY hds hlt hrd)
 generalize conR s.ds ds=oc at HCF ⊢
 have HLK:=hide (lock_free Tryz.muLib ⟨xb,0,none⟩ w c0 f0)
 have HW:=hide hW
 have HST:=hide hst
 have HXW:=hide hxw
 have HFW:=hide hfw
 have c2:W.cell? ⟨xb,2,none⟩=some (.pointer (some ⟨sb,0,none⟩)):=cell_of_row _ _ 2 _ _ _ hxw
 clear hx c0 f0 hst hxw hfw hW h hu hdig hh hrd
 go_enter_defers Tryz.func34,Tryz.ntmps34
 go_wp2_with fail
 refine (HLK.out).mono ?_
 rintro _ W1 ⟨rfl,hW1⟩
 have hW1:W1=W:=hW1.trans HW.out.symm
 rw [hW1]
 dsimp only
 clear hW1 HLK HW
 go_wp2_with fail
 refine (HFD.out).mono ?_
 rintro _ w3 ⟨rfl,hb3⟩
 dsimp only
 obtain ⟨X,hX⟩ : ∃ X,X=w3.alloc (.cells (cells8 ds) 117):=⟨_,rfl⟩
 have hbX:Below w3.heap.size w3 X:=by rw [hX];exact (Below.refl _ _).alloc (Nat.le_refl _) _
 have hXr:X.heap[w3.heap.size]? = some (.cells (cells8 ds) 117 (0,0)):=by rw [hX];exact heap_alloc_new _ _
 have hb4:Below W.heap.size W X:=hb3.trans (hbX.mono hb3.size)
 have c3:=cell_later hb4 c2
 have HX3:=hide (HXW.out.later hb4)
 have HF3:=hide (HFW.out.trans (SGo.of_below hb4))
 have HS3:=hide (HST.out.later hb4)
 have HXR:=hide hXr
 have HXX:=hide hX
 have HW3:=hide hb3.size
 clear hX hbX hXr hb3
 go_wp2_with (first|(refine wpList_store_row rfl 117 _ _ rfl w3.heap.size (cells8 ds) rfl rfl 117 _ (heap_alloc_new _ _) (size40 _ hds) (by first|rfl|(rw [cells8_size,hds];rfl)|(rw [cells8_size,cells8_size,hds];rfl)) (cells8_one _) ?_;rw [World.setRow_alloc_new,← HXX.out])|(refine wpList_load_row rfl 117 _ rfl w3.heap.size rfl 117 _ _ _ HXR.out Tryz.underlying117 rfl (size40 _ hds) ?_))
 have hdr:Below X.heap.size X X.drew:=(Below.refl _ _).drew
 have hrd0:=(hdr.block _ (lt_heap HXR.out)).trans HXR.out
 have hyb0:W.heap.size≤w3.heap.size:=HW3.out
 obtain ⟨yb,hyb⟩ : ∃ yb,yb=w3.heap.size:=⟨_,rfl⟩
 rw [← hyb] at HXR hrd0 hyb0 ⊢
 have hS0:X.drew.cell? ⟨xb,2,none⟩=some (.pointer (some ⟨sb,0,none⟩))∧X.drew.rangeAt yb 0 (cells8 ds).toList:=⟨cell_later hdr c3,con_r hrd0⟩
 have u72:=Tryz.underlying117
 have i72:=size72 ds hds
 have HX6:=hide (HX3.out.later hdr)
 have HS6:=hide (HS3.out.later hdr)
 have HF6:=hide (HF3.out.trans (SGo.of_below hdr))
 have hnown:¬ s.own yb:=fun e=>by have:=HST.out.inn.lt e;omega
 have HCT:=hide (HCF.out X.drew HS6.out.on)
 clear HCF
 clear hyb
 go_region_held3 (fun w'=>w'.cell? ⟨xb,2,none⟩=some (.pointer (some ⟨sb,0,none⟩))∧w'.rangeAt yb 0 (cells8 ds).toList) (first|exact hS0|exact hS1|go_keep) ((first|(go_at_call 70;refine (HCT.out).mono ?_;rintro _ w5 ⟨rfl,hg5⟩;have hx7:=HX6.out.sgo (S:=fun _=>False) HS6.out (SGo.of_go hg5) (fun k hk=>hk.elim);have hr7:=(hg5.gr.block _ (lt_heap hrd0) hnown).trans hrd0;have hS1:w5.cell? ⟨xb,2,none⟩=some (.pointer (some ⟨sb,0,none⟩))∧w5.rangeAt yb 0 (cells8 ds).toList:=⟨cell_of_row _ _ 2 _ _ _ hx7,con_r hr7⟩)))
 have HX5:=hide hx7
 have HF5:=hide (HF6.out.trans (SGo.of_go hg5))
 have HS5:=hide (HS6.out.go hg5)
 clear hS0 hS1 hx7 hr7 hg5 hb4 hdr hrd0 u72 i72 HCT HFD c2 c3
 cases oc with
 | none =>
  dsimp only [Option.getD,Option.isSome]
  go_wp2_with fail
  refine leaves_cons (f:=58) (args:=#[.pointer (some ⟨xb,0,none⟩)]) (by simp) (by simp [go_sem]) ?_
  refine (unlock_deferred Tryz.muLib ⟨xb,0,none⟩ .returning _ (cell_of_row _ _ 0 _ _ _ HX5.out) (frozen_of_row _ _ 0 _ _ HX5.out)).mono ?_
  rintro e u' w6 ⟨rfl,rfl,rfl⟩
  exact ⟨_,results_tmp2 rfl _ _ _,rfl,HF5.out.trans SGo.lock,HX5.out.set 0,HS5.out.lock HX5.out hG⟩
 | some t =>
  dsimp only [Option.getD,Option.isSome]
  go_wp2_with fail
  refine leaves_cons (f:=58) (args:=#[.pointer (some ⟨xb,0,none⟩)]) (by simp) (by simp [go_sem]) ?_
  refine (unlock_deferred Tryz.muLib ⟨xb,0,none⟩ .returning _ (cell_of_row _ _ 0 _ _ _ HX5.out) (frozen_of_row _ _ 0 _ _ HX5.out)).mono ?_
  rintro e u' w6 ⟨rfl,rfl,rfl⟩
  exact ⟨_,results_tmp2 rfl _ _ _,rfl,HF5.out.trans SGo.lock,HX5.out.set 0,HS5.out.lock HX5.out hG⟩
set_option maxHeartbeats 4000000
set_option maxRecDepth 100000
open Go.RowKit Go.MuLone
theorem sTags_many (sb:Nat) (s:PSt) (cb tb nc:Nat) (Dc:DataW Value) (l:List TE) (w:World) (h:StW w sb s cb tb nc l.length Dc (tD l)) (hok:∀ t∈l,t.Ok) (h8:l.length≤8) :
  Calls Tryz.prog 79 #[.pointer (some ⟨sb,0,none⟩)] w fun e w'=>∃ v,e = .returned v∧w'.ownsRow w.heap.size 193 34 v l.length ((l.map TE.tg).flatMap Tg.ecells)∧Below w.heap.size w w':=by
 have HS:=hide (sorted_many tb l w h.tm hok (by omega))
 have c2:=cell_of_row _ _ 2 _ _ _ h.blk
 have HL:=hide hok
 clear h hok
 go_enter Tryz.func79,Tryz.ntmps79
 go_wp2_with fail
 refine (HS.out).mono ?_
 rintro _ w1 ⟨v,rfl,hrow,hb⟩
 dsimp only
 rw [flat_tg HL.out] at hrow
 have HR:=hide hrow
 have HB:=hide hb
 clear hrow hb HS c2
 go_wp2_with fail
 go_ret
 exact ⟨_,rfl,HR.out,HB.out⟩
theorem bTags_many (xb sb:Nat) (s:PSt) (cb tb nc:Nat) (Dc:DataW Value) (l:List TE) (w:World) (hx:BSt w xb sb) (hG:¬ isG xb) (h:StW w sb s cb tb nc l.length Dc (tD l)) (hok:∀ t∈l,t.Ok) (h8:l.length≤8) :
  Calls Tryz.prog 42 #[.pointer (some ⟨xb,0,none⟩)] w fun e w'=>∃ v,e = .returned (.tuple #[v,.int .i64 0])∧w'.ownsRow w.heap.size 83 3 v l.length (((l.map TE.tg).map Tg.told).flatMap Tg.cells)∧SGo (sS xb sb cb) s s w w'∧BSt w' xb sb∧StW w' sb s cb tb nc l.length Dc (tD l):=by
 have hx:BLk w xb sb 0:=hx
 have c0:w.cell? ⟨xb,0,none⟩=some (.int .i32 0):=cell_of_row _ _ 0 _ _ _ hx
 have f0:w.frozen? ⟨xb,0,none⟩=false:=frozen_of_row _ _ 0 _ _ hx
 obtain ⟨W,hW⟩ : ∃ W,W=w.setCell ⟨xb,0,none⟩ (.int .i32 1):=⟨_,rfl⟩
 have hst:StW W sb s cb tb nc l.length Dc (tD l):=by rw [hW];exact h.lock hx hG
 have hxw:BLk W xb sb 1:=by rw [hW];exact hx.set 1
 have hfw:SGo (sS xb sb cb) s s w W:=by rw [hW];exact SGo.lock
 have hzw:W.heap.size=w.heap.size:=by rw [hW];simp
 have HTG:=hide (sTags_many sb s cb tb nc Dc l W hst hok h8)
 have HLK:=hide (lock_free Tryz.muLib ⟨xb,0,none⟩ w c0 f0)
 have HW:=hide hW
 have HST:=hide hst
 have HXW:=hide hxw
 have HFW:=hide hfw
 have HZW:=hide hzw
 have c2:W.cell? ⟨xb,2,none⟩=some (.pointer (some ⟨sb,0,none⟩)):=cell_of_row _ _ 2 _ _ _ hxw
 clear hx c0 f0 hst hxw hfw hW h hzw hok
 go_enter_defers Tryz.func42,Tryz.ntmps42
 go_wp2_with fail
 refine (HLK.out).mono ?_
 rintro _ W1 ⟨rfl,hW1⟩
 have hW1:W1=W:=hW1.trans HW.out.symm
 rw [hW1]
 dsimp only
 clear hW1 HLK HW
 go_wp2_with fail
 refine (HTG.out).mono ?_
 rintro _ w1 ⟨v1,rfl,hrow,hb1⟩
 dsimp only
 have HTO:=hide (tagsOf_core v1 (l.map TE.tg) w1 l.length (by simp) h8 _ hrow)
 have HB1:=hide hb1
 clear hrow hb1 HTG
 go_wp2_with fail
 refine (HTO.out).mono ?_
 rintro _ w2 ⟨hb2,v2,rfl,hrow2⟩
 dsimp only
 have hb3:=HB1.out.trans (hb2.mono HB1.out.size)
 have HB3:=hide hb3
 have HX3:=hide (HXW.out.later hb3)
 have HR3:=hide (hrow2.mono_base (by have:=HB1.out.size;have:=HZW.out;omega:w.heap.size≤w1.heap.size))
 clear hb2 hb3 hrow2 HTO
 go_wp2_with fail
 refine leaves_cons (f:=58) (args:=#[.pointer (some ⟨xb,0,none⟩)]) (by simp) (by simp [go_sem]) ?_
 refine (unlock_deferred Tryz.muLib ⟨xb,0,none⟩ .returning _ (cell_of_row _ _ 0 _ _ _ HX3.out) (frozen_of_row _ _ 0 _ _ HX3.out)).mono ?_
 rintro e u' w6 ⟨rfl,rfl,rfl⟩
 exact ⟨_,results_tmp2 rfl _ _ _,v2,rfl,own_lock HR3.out HX3.out (by decide),(HFW.out.trans (SGo.of_below HB3.out)).trans SGo.lock,HX3.out.set 0,(HST.out.later HB3.out).lock HX3.out hG⟩
end Go.Proofs.YtncigfibncmioaaGreatDoor
