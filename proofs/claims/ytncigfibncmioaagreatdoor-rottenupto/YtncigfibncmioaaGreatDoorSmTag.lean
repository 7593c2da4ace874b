/-
  PROVED HERE: what the program's Open answers, over whatever store.Open does and finds; written by tools/genopenm.py.
-/
import Derived.Test.YtncigfibncmioaaGreatDoorErOpen
import Derived.ChangeKeysEq
import Derived.Test.YtncigfibncmioaaGreatDoorPrintLib
import Derived.Sort.KeysCollected
import Derived.Shelf.SlIter.Nil
import Derived.RangeFuncNested
import Derived.RangeFuncLeaves
import Derived.Test.YtncigfibncmioaaGreatDoorStBegin
import Derived.Test.YtncigfibncmioaaGreatDoorStTxt
import Derived.Test.YtncigfibncmioaaGreatDoorSmKey
namespace Go.Proofs.YtncigfibncmioaaGreatDoor
set_option maxHeartbeats 2000000
set_option maxRecDepth 100000
open Go.RowKit
section
variable {RO:DS → Int → DS → Prop} {nc nt:Nat} {Dc Dt:DataW Value}
def OpC (RO:DS → Int → DS → Prop) (nc nt:Nat) (Dc Dt:DataW Value) (s:PSt) (w:World):Prop:=∀ W,Below w.heap.size w W → Calls Tryz.prog 50 #[.pointer (some ⟨s.b,0,none⟩)] W fun e w'=>∃ k s' sv ev,e = .returned (.tuple #[sv,ev]) ∧ ErrV w' ev k ∧ PGo s s' W w' ∧ RO s.ds k s'.ds ∧
 (k = 0 → ∃ sb cb tb,sv = .pointer (some ⟨sb,0,none⟩) ∧ (W.heap.size ≤ sb ∧ W.heap.size ≤ cb ∧ W.heap.size ≤ tb) ∧ StW w' sb s' cb tb nc nt Dc Dt) ∧ (k ≠ 0 → sv = .pointer none)
structure OpDM (RO:DS → Int → DS → Prop) (nc nt:Nat) (Dc Dt:DataW Value) (s:PSt) (w w':World) (k:Int) (s':PSt) (sv ev:Value):Prop where
 ev:ErrV w' ev k
 go:PGo s s' w w'
 r:RO s.ds k s'.ds
 ok:k = 0 → ∃ sb cb tb,sv = .pointer (some ⟨sb,0,none⟩) ∧ (w.heap.size ≤ sb ∧ w.heap.size ≤ cb ∧ w.heap.size ≤ tb) ∧ StW w' sb s' cb tb nc nt Dc Dt
 no:k ≠ 0 → sv = .pointer none
theorem open1_many (s:PSt) (w W:World) (d gd gf ge:Nat) (h:s.In w) (hgl:Gl w) (hop:OpC RO nc nt Dc Dt s w)
  (hB:Below w.heap.size w W) (hbd:BD w d s.b) (h1:W.heap[gd]? = some (.cells #[.pointer (some ⟨d,0,none⟩)] 23 (0,0))) (h2:W.heap[gf]? = some (.cells #[.pointer none] 92 (0,0))) (h3:W.heap[ge]? = some (.cells #[.nilIface] 94 (0,0))) (l2:w.heap.size ≤ gf) (l3:w.heap.size ≤ ge) :
  Calls Tryz.prog 49 #[.pointer (some ⟨gd,0,none⟩),.pointer (some ⟨gf,0,none⟩),.pointer (some ⟨ge,0,none⟩)] W fun e w'=>e = .returned (.tuple #[]) ∧ ∃ k s' sv ev,OpDM RO nc nt Dc Dt s w w' k s' sv ev ∧ w'.heap[gf]? = some (.cells #[sv] 92 (0,0)) ∧ w'.heap[ge]? = some (.cells #[ev] 94 (0,0)) ∧
   ∀ k cur T,W.heap[k]? = some (.cells cur T (0,0)) → k ≠ gf → k ≠ ge → T ≠ 150 → T ≠ 214 → T ≠ 154 → T ≠ 5 → w'.heap[k]? = some (.cells cur T (0,0)):=by
 have hi:=h.later hB
 have HOP:=hide (hop W hB)
 have hbd2:W.heap[d]? = some (.cells #[.pointer (some ⟨s.b,0,none⟩)] 90 (0,0)):=(hB.block d (lt_heap hbd)).trans hbd
 have c0:=cell_of_row _ _ 0 _ _ _ h1
 have c1:=cell_of_row _ _ 0 _ _ _ hbd2
 have H:=hide h
 have HB:=hide hB
 have HGL:=hide hgl
 have HI:=hide hi
 have H2:=hide h2
 have H3:=hide h3
 clear h hgl hop hB hbd h1 h2 h3 hi hbd2
 go_enter Tryz.func49,Tryz.ntmps49
 go_wp2_with fail
 refine (HOP.out).mono ?_
 rintro _ w1 ⟨k,s',sv,ev,rfl,hev,hg,hr,hok,hno⟩
 dsimp only
 obtain ⟨po,rfl⟩ : ∃ po,sv = .pointer po:=by
  by_cases hk:k = 0
  ·obtain ⟨sb,cb,tb,rfl, -⟩:=hok hk
   exact ⟨_,rfl⟩
  ·exact ⟨_,hno hk⟩
 have hg2:w1.heap[gf]? = some (.cells #[.pointer none] 92 (0,0)):=hg.keeps HI.out H2.out (by decide) (by decide) (by decide) (by decide)
 have hg3:w1.heap[ge]? = some (.cells #[.nilIface] 94 (0,0)):=hg.keeps HI.out H3.out (by decide) (by decide) (by decide) (by decide)
 have q1:=cell_of_row _ _ 0 _ _ _ hg2
 have q2:=frozen_of_row _ _ 0 _ _ hg2
 have q3:=cell_of_row _ _ 0 _ _ _ hg3
 have q4:=frozen_of_row _ _ 0 _ _ hg3
 have hev2:ev = .nilIface ∨ ∃ ti pp,ev = .iface ti pp:=by
  rcases hev with ⟨-,h⟩ | ⟨-,a,b,h, -⟩
  ·exact .inl h
  ·exact .inr ⟨_,_,h⟩
 have HG:=hide hg
 have HEV:=hide hev
 have HR:=hide hr
 have HOK:=hide hok
 have HNO:=hide hno
 have G2:=hide hg2
 have G3:=hide hg3
 clear hg hev hr hok hno hg2 hg3
 have hne:ge ≠ gf:=by simpa using type_ne G3.out G2.out (by decide)
 have G3':(w1.setCell ⟨gf,0,none⟩ (.pointer po)).heap[ge]? = some (.cells #[.nilIface] 94 (0,0)):=(heap_setCell_other _ _ _ _ hne).trans G3.out
 have q5:=cell_of_row _ _ 0 _ _ _ G3'
 have q6:=frozen_of_row _ _ 0 _ _ G3'
 have hfin:∃ k s' sv ev',OpDM RO nc nt Dc Dt s w ((w1.setCell ⟨gf,0,none⟩ (.pointer po)).setCell ⟨ge,0,none⟩ ev) k s' sv ev' ∧ ((w1.setCell ⟨gf,0,none⟩ (.pointer po)).setCell ⟨ge,0,none⟩ ev).heap[gf]? = some (.cells #[sv] 92 (0,0)) ∧ ((w1.setCell ⟨gf,0,none⟩ (.pointer po)).setCell ⟨ge,0,none⟩ ev).heap[ge]? = some (.cells #[ev'] 94 (0,0)) ∧
   ∀ k cur T,W.heap[k]? = some (.cells cur T (0,0)) → k ≠ gf → k ≠ ge → T ≠ 150 → T ≠ 214 → T ≠ 154 → T ≠ 5 → ((w1.setCell ⟨gf,0,none⟩ (.pointer po)).setCell ⟨ge,0,none⟩ ev).heap[k]? = some (.cells cur T (0,0)):=by
  have g0:=(PGo.refl H.out HB.out).trans HG.out
  have g1:PGo s s' w (w1.setCell ⟨gf,0,none⟩ (.pointer po)):=g0.setNew l2 G2.out (by decide) (by decide) (by decide) (by decide)
  have g2:PGo s s' w ((w1.setCell ⟨gf,0,none⟩ (.pointer po)).setCell ⟨ge,0,none⟩ ev):=g1.setNew l3 G3' (by decide) (by decide) (by decide) (by decide)
  refine ⟨k,s',.pointer po,ev,⟨(HEV.out.put G2.out (by decide)).put G3' (by decide),g2,HR.out,fun hk=>?_,HNO.out⟩,?_,?_,?_⟩
  ·obtain ⟨sb,cb,tb,e,hl,hs⟩:=HOK.out hk
   have hlo:=HB.out.size
   exact ⟨sb,cb,tb,e,by omega,(hs.put G2.out (by decide) g1.inn (fun e=>by have:=HGL.out.lt e;omega)).put G3' (by decide) g2.inn (fun e=>by have:=HGL.out.lt e;omega)⟩
  ·rw [heap_setCell_other _ _ _ _ (fun e=>hne e.symm),heap_setCell_same _ gf 0 _ _ _ G2.out]
   rfl
  ·rw [heap_setCell_same _ ge 0 _ _ _ G3']
   rfl
  ·intro k cur T hk n1 n2 t1 t2 t3 t4
   rw [heap_setCell_other _ _ _ _ n2,heap_setCell_other _ _ _ _ n1]
   exact HG.out.keeps HI.out hk t1 t2 t3 t4
 have HFIN:=hide hfin
 clear hfin
 have G3H:=hide G3'
 clear G3'
 rcases hev2 with rfl | ⟨ti,pp,rfl⟩
 ·go_wp2_with fail
  go_end0
  exact ⟨rfl,HFIN.out⟩
 ·go_wp2_with fail
  go_end0
  exact ⟨rfl,HFIN.out⟩
theorem OpDM.put {s s':PSt} {w W:World} {k:Int} {sv ev v:Value} {b i:Nat} {cur:Array Value} {T:TypeId} (h:OpDM RO nc nt Dc Dt s w W k s' sv ev) (hg:Gl w) (hb:W.heap[b]? = some (.cells cur T (0,0))) (hl:w.heap.size ≤ b) (t0:T ≠ 159) (t1:T ≠ 150) (t2:T ≠ 214) (t3:T ≠ 154) (t4:T ≠ 5) (t5:T ≠ 167):OpDM RO nc nt Dc Dt s w (W.setCell ⟨b,i,none⟩ v) k s' sv ev:=by
 have g1:=h.go.setNew (v:=v) (i:=i) hl hb t1 t2 t3 t4
 refine ⟨h.ev.put hb t5,g1,h.r,fun hk=>?_,h.no⟩
 obtain ⟨sb,cb,tb,e,hl2,hs⟩:=h.ok hk
 exact ⟨sb,cb,tb,e,hl2,hs.put hb t0 g1.inn (fun e=>by have:=hg.lt e;omega)⟩
theorem bOpen_many (s:PSt) (w:World) (d:Nat) (h:s.In w) (hgl:Gl w) (hlow:LowS s) (hop:OpC RO nc nt Dc Dt s w) (hbd:BD w d s.b) :
  Calls Tryz.prog 17 #[.pointer (some ⟨d,0,none⟩)] w fun e w'=>∃ k s' sv,e = .returned (.tuple #[sv,.int .i64 k]) ∧ PGo s s' w w' ∧ RO s.ds k s'.ds ∧
   (k = 0 → ∃ xb sb cb tb,sv = .pointer (some ⟨xb,0,none⟩) ∧ BSt w' xb sb ∧ (w.heap.size ≤ sb ∧ w.heap.size ≤ cb ∧ w.heap.size ≤ tb) ∧ w.heap.size ≤ xb ∧ StW w' sb s' cb tb nc nt Dc Dt) ∧ (k ≠ 0 → sv = .pointer none):=by
 have hb3:=three_below w (.cells #[.pointer (some ⟨d,0,none⟩)] 23) (.cells #[.pointer none] 92) (.cells #[.nilIface] 94)
 have k0:=three0 w #[.pointer (some ⟨d,0,none⟩)] 23 (.cells #[.pointer none] 92) (.cells #[.nilIface] 94)
 have k1:=three1 w (.cells #[.pointer (some ⟨d,0,none⟩)] 23) #[.pointer none] 92 (.cells #[.nilIface] 94)
 have k2:=three2 w (.cells #[.pointer (some ⟨d,0,none⟩)] 23) (.cells #[.pointer none] 92) #[.nilIface] 94
 obtain ⟨W,hW⟩ : ∃ W,W = ((w.alloc (.cells #[.pointer (some ⟨d,0,none⟩)] 23)).alloc (.cells #[.pointer none] 92)).alloc (.cells #[.nilIface] 94):=⟨_,rfl⟩
 have hmf:∀ (fn:Fn) (first cap:Array Value) (w:World),(Instr.makeFunc fn first cap).run Tryz.prog w = .ok (.func fn first cap) w:=fun _ _ _ _=>rfl
 have c0:(w.alloc (.cells #[.pointer (some ⟨d,0,none⟩)] 23)).cell? ⟨w.heap.size,0,none⟩ = some (.pointer (some ⟨d,0,none⟩)):=cell_of_row _ _ 0 _ _ _ (heap_alloc_new _ _)
 rw [← hW] at hb3 k0 k1 k2
 have HW:=hide hW
 have hwz:W.heap.size = w.heap.size + 3:=by rw [hW];simp
 obtain ⟨X,hX,hXB,x0,x1⟩:=two_cells W 27 3 (.int .i64 0) (.int .i64 0)
 have hBX:Below w.heap.size w X:=hb3.trans (hXB.mono hb3.size)
 have HRD:=hide (reading_any 49 #[.pointer (some ⟨w.heap.size,0,none⟩),.pointer (some ⟨w.heap.size + 1,0,none⟩),.pointer (some ⟨w.heap.size + 1 + 1,0,none⟩)] W
  (fun W1=>(∃ k s' sv ev,OpDM RO nc nt Dc Dt s w W1 k s' sv ev ∧ W1.heap[w.heap.size + 1]? = some (.cells #[sv] 92 (0,0)) ∧ W1.heap[w.heap.size + 1 + 1]? = some (.cells #[ev] 94 (0,0))) ∧ W1.heap[W.heap.size]? = some (.cells #[.int .i64 0] 27 (0,0)) ∧ W1.heap[W.heap.size + 1]? = some (.cells #[.int .i64 0] 3 (0,0))) (fun _ _=>False)
  (enters_of Tryz.func49 (by kernel_rfl) rfl) (by
   rw [← hX]
   refine (open1_many s w X d w.heap.size (w.heap.size + 1) (w.heap.size + 1 + 1) h hgl hop hBX hbd ((hXB.block _ (lt_heap k0)).trans k0) ((hXB.block _ (lt_heap k1)).trans k1) ((hXB.block _ (lt_heap k2)).trans k2) (by omega) (by omega)).mono ?_
   rintro _ Y ⟨rfl,k,s',sv,ev,y1,y2,y3,y4⟩
   have z0:=y4 _ _ _ x0 (by omega) (by omega) (by decide) (by decide) (by decide) (by decide)
   have z1:=y4 _ _ _ x1 (by omega) (by omega) (by decide) (by decide) (by decide) (by decide)
   exact ⟨⟨z0,z1⟩,.inl ⟨rfl,⟨k,s',sv,ev,y1,y2,y3⟩,z0,z1⟩⟩))
 have HB3:=hide hb3
 have HGL:=hide hgl
 have HLOW:=hide hlow
 have H:=hide h
 clear hW hX hXB x0 x1 hBX hb3 k0 k1 k2 h hgl hlow hop hbd
 go_enter Tryz.func17,Tryz.ntmps17
 go_wp2_with fail
 rw [← HW.out]
 refine (HRD.out).mono ?_
 rintro e1 w1 he
 obtain ⟨W1,⟨⟨k,s',sv,ev,hop,hgf,hge⟩,hr0,hr1⟩,rfl,rfl⟩ : ∃ W1,((∃ k s' sv ev,OpDM RO nc nt Dc Dt s w W1 k s' sv ev ∧ W1.heap[w.heap.size + 1]? = some (.cells #[sv] 92 (0,0)) ∧ W1.heap[w.heap.size + 1 + 1]? = some (.cells #[ev] 94 (0,0))) ∧ W1.heap[W.heap.size]? = some (.cells #[.int .i64 0] 27 (0,0)) ∧ W1.heap[W.heap.size + 1]? = some (.cells #[.int .i64 0] 3 (0,0))) ∧ e1 = .returned (.tuple #[.int .i64 0,.int .i64 0]) ∧ w1 = (W1.setCell ⟨W.heap.size,0,none⟩ (.int .i64 0)).setCell ⟨W.heap.size + 1,0,none⟩ (.int .i64 0):=by
  rcases he with ⟨X,h1,h2,h3⟩ | ⟨p,X,h1, -⟩
  ·exact ⟨X,h1,h2,h3⟩
  ·exact h1.elim
 dsimp only
 have hn1:W.heap.size + 1 ≠ W.heap.size:=by omega
 have hr1':(W1.setCell ⟨W.heap.size,0,none⟩ (.int .i64 0)).heap[W.heap.size + 1]? = some (.cells #[.int .i64 0] 3 (0,0)):=(heap_setCell_other _ _ _ _ hn1).trans hr1
 have hlo:=HB3.out.size
 have hop2:=(hop.put (v:=.int .i64 0) (i:=0) HGL.out hr0 (by omega) (by decide) (by decide) (by decide) (by decide) (by decide) (by decide)).put (v:=.int .i64 0) (i:=0) HGL.out hr1' (by omega) (by decide) (by decide) (by decide) (by decide) (by decide) (by decide)
 have hgf2:((W1.setCell ⟨W.heap.size,0,none⟩ (.int .i64 0)).setCell ⟨W.heap.size + 1,0,none⟩ (.int .i64 0)).heap[w.heap.size + 1]? = some (.cells #[sv] 92 (0,0)):=(heap_setCell_other _ _ _ _ (by simp;omega)).trans ((heap_setCell_other _ _ _ _ (by simp;omega)).trans hgf)
 have hge2:((W1.setCell ⟨W.heap.size,0,none⟩ (.int .i64 0)).setCell ⟨W.heap.size + 1,0,none⟩ (.int .i64 0)).heap[w.heap.size + 1 + 1]? = some (.cells #[ev] 94 (0,0)):=(heap_setCell_other _ _ _ _ (by simp;omega)).trans ((heap_setCell_other _ _ _ _ (by simp;omega)).trans hge)
 generalize (W1.setCell ⟨W.heap.size,0,none⟩ (.int .i64 0)).setCell ⟨W.heap.size + 1,0,none⟩ (.int .i64 0) = W2 at hop2 hgf2 hge2 ⊢
 have cf:=cell_of_row _ _ 0 _ _ _ hgf2
 have ce:=cell_of_row _ _ 0 _ _ _ hge2
 have HOP:=hide hop2
 have HGF:=hide hgf2
 have HER:=hide (errno_ev hop2.ev (HGL.out.go HLOW.out hop2.go).1.err)
 clear hop hop2 hgf hge hgf2 hge2 hr0 hr1 hr1' HRD he
 go_wp2_with fail
 refine (HER.out).mono ?_
 rintro _ w3 ⟨rfl,hb3⟩
 dsimp only
 have cf3:=cell_later hb3 cf
 have HB4:=hide hb3
 clear hb3 HER cf ce
 by_cases hk:k = 0
 ·subst hk
  obtain ⟨sb,cb,tb,rfl,hl,hs⟩:=HOP.out.ok rfl
  have HS:=hide hs
  clear hs
  go_wp2_with fail
  refine bodyPost_ret (results_tmp2 rfl _ _ _) rfl ?_
  have hb5:=HB4.out.alloc HB4.out.size (.cells #[.int .i32 0,.int .u32 0,.pointer (some ⟨sb,0,none⟩)] 108)
  have hz:=HB4.out.size
  have hz2:=HOP.out.go.gr.size
  exact ⟨0,s',_,rfl,HOP.out.go.trans (PGo.refl HOP.out.go.inn hb5),HOP.out.r,fun _=>⟨_,sb,cb,tb,rfl,heap_alloc_new _ _,hl,by omega,HS.out.later hb5⟩,fun hk=>absurd rfl hk⟩
 ·have hnp:=HOP.out.no hk
  subst hnp
  go_wp2_with fail
  refine bodyPost_ret (results_tmp2 rfl _ _ _) rfl ?_
  exact ⟨k,s',_,rfl,HOP.out.go.trans (PGo.refl HOP.out.go.inn HB4.out),HOP.out.r,fun h=>absurd h hk,fun _=>rfl⟩
end
end Go.Proofs.YtncigfibncmioaaGreatDoor
namespace Go.Proofs.YtncigfibncmioaaGreatDoor
open Go.RowKit
theorem lits5 (d n:Nat) (h:n < 256):Tryz.prog.keyLits (d + 1) 5 [.int .u8 ((n:Nat):Int)] = some [.int .u8 ((n:Nat):Int)]:=by
 have hw:(Lit.int .u8 ((n:Nat):Int)).wf = true:=by
  have h1:IntKind.min .u8 = 0:=by decide
  have h2:IntKind.max .u8 = 255:=by decide
  simp [Lit.wf,h1,h2]
  omega
 unfold Program.keyLits
 rw [Tryz.underlying5]
 simp [hw]
theorem drop8 (ds:List Nat) (i:Nat) (hi:i < ds.length):(((cells8 ds).toList.drop (i * 1)).take 1) = [.int .u8 ((ds.getD i 0:Nat):Int)]:=by
 rw [Nat.mul_one]
 have hl:i < (cells8 ds).toList.length:=by rw [Array.length_toList,cells8_size];exact hi
 rw [List.drop_eq_getElem_cons hl,List.take_succ_cons,List.take_zero]
 congr 1
 simp [cells8,hi]
theorem cellsOf5:Tryz.prog.cellsOf 5 = 1:=by kernel_rfl
theorem mapM_lits (d:Nat) (ds:List Nat) (hlt:∀ i,ds.getD i 0 < 256):∀ (is:List Nat),(∀ i ∈ is,i < ds.length) → is.mapM (fun i=>Tryz.prog.keyLits (d + 1) 5 (((cells8 ds).toList.drop (i * Tryz.prog.cellsOf 5)).take (Tryz.prog.cellsOf 5))) = some (is.map fun i=>[Lit.int .u8 ((ds.getD i 0:Nat):Int)])
 | [],_=>rfl
 | i :: is,h=>by
  rw [List.mapM_cons,cellsOf5,drop8 ds i (h i (by simp)),lits5 d _ (hlt i)]
  have ih:=mapM_lits d ds hlt is (fun j hj=>h j (by simp [hj]))
  rw [cellsOf5] at ih
  rw [ih]
  rfl
theorem flat_lits (ds:List Nat) (h:ds.length = 32):((List.range 32).map fun i=>[Lit.int .u8 ((ds.getD i 0:Nat):Int)]).flatten = ds.map fun n=>Lit.int .u8 ((n:Nat):Int):=by
 have:((List.range 32).map fun i=>[Lit.int .u8 ((ds.getD i 0:Nat):Int)]).flatten = (List.range 32).map fun i=>Lit.int .u8 ((ds.getD i 0:Nat):Int):=by
  rw [← List.flatMap_def]
  simp
  rfl
 rw [this]
 apply List.ext_getElem
 ·simp [h]
 ·intro i h1 h2
  simp only [List.length_map] at h2
  simp [h2]
def dKey (ds:List Nat):Lit:=.string (keyBytes (ds.map fun n=>Lit.int .u8 ((n:Nat):Int)))
theorem key_dig (ds:List Nat) (h:ds.length = 32) (hlt:∀ i,ds.getD i 0 < 256):keyOf Tryz.prog 117 (.agg (cells8 ds)) = some (dKey ds):=by
 have hu:=Tryz.underlying117
 have hc:Tryz.prog.cellsOf 117 = 32:=by kernel_rfl
 have hk:Tryz.prog.keyType 117 = true:=by kernel_rfl
 have hf:(Value.agg (cells8 ds)).formed Tryz.prog 117 = true:=by simp [Value.formed,hu,hc,cells8_size,h]
 have hl:Tryz.prog.keyLits (Tryz.prog.types.size + 1) 117 (cells8 ds).toList = some (ds.map fun n=>Lit.int .u8 ((n:Nat):Int)):=by
  rw [show Tryz.prog.types.size = (Tryz.prog.types.size - 1) + 1 from by kernel_rfl]
  unfold Program.keyLits
  rw [hu]
  simp only []
  rw [if_pos (by rw [hc,Array.length_toList,cells8_size,h]),mapM_lits _ ds hlt _ (fun i hi=>by rw [h];exact List.mem_range.1 hi)]
  exact congrArg some (flat_lits ds h)
 unfold keyOf
 rw [hu]
 simp only [hk,hf,Bool.and_self,if_true]
 show (Tryz.prog.keyLits _ _ (cells8 ds).toList).map _ = _
 rw [hl]
 rfl
theorem lits_inj {a b:List Nat} (h:(a.map fun n=>Lit.int .u8 ((n:Nat):Int)) = b.map fun n=>Lit.int .u8 ((n:Nat):Int)):a = b:=by
 induction a generalizing b with
 | nil=>cases b with
  | nil=>rfl
  | cons y b=>cases h
 | cons x a ih=>cases b with
  | nil=>cases h
  | cons y b =>
   simp only [List.map_cons] at h
   injection h with h1 h2
   injection h1 with _ h1
   rw [ih h2,Int.ofNat.inj h1]
theorem eq_dig (d:Nat) (a b:List Nat) (ha:a.length = 32) (hb:b.length = 32) (ha':∀ i,a.getD i 0 < 256) (hb':∀ i,b.getD i 0 < 256) (w:World) :
  (Op.equalIn (d + 2) 117 (.agg (cells8 a)) (.agg (cells8 b))).run Tryz.prog w = .ok (decide (a = b)) w:=by
 obtain ⟨i5,hi5⟩:=Option.isSome_iff_exists.1 (show (Tryz.prog.info? 5).isSome = true by kernel_rfl)
 rw [run_equalIn_array w (d + 1) (cells8 a) (cells8 b) Tryz.underlying117 hi5]
 obtain ⟨r,hr,hiff⟩:=run_eqItems_plain w d (e:=5) (by kernel_rfl) (cells8 a) (cells8 b) (List.range 32) _ _ (mapM_lits 0 a ha' _ (fun i hi=>by rw [ha];exact List.mem_range.1 hi)) (mapM_lits 0 b hb' _ (fun i hi=>by rw [hb];exact List.mem_range.1 hi))
 rw [flat_lits a ha,flat_lits b hb] at hiff
 have hi2:r = true ↔ a = b:=hiff.trans ⟨lits_inj,fun h=>by rw [h]⟩
 have hd:r = decide (a = b):=by
  cases r with
  | true=>exact (decide_eq_true (hi2.1 rfl)).symm
  | false=>exact (decide_eq_false (fun h=>by cases hi2.2 h)).symm
 rw [← hd]
 exact hr
theorem guard_dig:Tryz.prog.eqGuardType Tryz.prog.depth 117 = false:=by kernel_rfl
theorem wpList_eqDig {ops:Array Oper} {Q:Exit → Act → World → Prop} {o:Oper} {rest:List Oper} {c:Act} {w:World} (hgd:o.guard = none) (x y:Operand) (k:TypeId) (hop:o.op = Op.binOp .eql 117 x y k) (a b:List Nat) (ha:a.length = 32) (hb:b.length = 32) (ha':∀ i,a.getD i 0 < 256) (hb':∀ i,b.getD i 0 < 256) (hx:c.eval x = .agg (cells8 a)) (hy:c.eval y = .agg (cells8 b))
  (hK:wpList Tryz.prog ops Q rest (c.put o.dst (.bool (decide (a = b)))) w):wpList Tryz.prog ops Q (o :: rest) c w:=by
 refine wpList_plain hgd fun K' hK'=>?_
 have hr:=eq_dig 9998 a b ha hb ha' hb' w
 unfold Oper.wp execOp
 simp only [hop,hx,hy,eqGuard,binOp,Op.equal,Op.maxDepth,Sem.run_bind,Sem.run_pure,run_program,Result.andThen_ok,guard_dig,hr,Bool.not_true,Bool.not_false,Bool.false_eq_true,if_false,if_true]
 exact hK' _ _ hK
end Go.Proofs.YtncigfibncmioaaGreatDoor
namespace Go.Proofs.YtncigfibncmioaaGreatDoor
set_option maxHeartbeats 2000000
set_option maxRecDepth 100000
open Go.RowKit
theorem openS_new (s:PSt) (w:World) {L C B:Nat} (h:s.In w) (hgl:Gl w) (hlow:LowS s) (hf:DFit s.ds L C B) (hb:Bud (L + s.R.now.length + 20) (C + s.R.now.length + 20) (B + 36)) (hps:∀ e ∈ s.R.now,e.path.size ≤ 9223372036854775807) (hno:rdD s.ds layoutP = none) :
  Calls Tryz.prog 50 #[.pointer (some ⟨s.b,0,none⟩)] w fun e w'=>∃ k s' sv ev,e = .returned (.tuple #[sv,ev]) ∧ ErrV w' ev k ∧ PGo s s' w w' ∧ OpR s.ds k s'.ds ∧
   (k = 0 → ∃ sb cb tb,sv = .pointer (some ⟨sb,0,none⟩) ∧ (w.heap.size ≤ sb ∧ w.heap.size ≤ cb ∧ w.heap.size ≤ tb) ∧ StW w' sb s' cb tb 0 0 (.map []) (.map [])) ∧ (k ≠ 0 → sv = .pointer none):=by
 obtain ⟨W,hW,hB,hsz,hcm,htm,hblk⟩:=three_maps w s.b
 have hmk1:=fun w=>run_makeMap (P:=Tryz.prog) 156 w
 have hmk2:=fun w=>run_makeMap (P:=Tryz.prog) 157 w
 have hst:StW W (w.heap.size + 1 + 1) s w.heap.size (w.heap.size + 1) 0 0 (.map []) (.map []):=⟨h.later hB,hgl.later hB,hlow,hblk,hcm,htm,fun e=>by have:=h.lt e;omega,fun e=>by have:=h.lt e;omega,fun e=>by have:=hgl.lt e;omega,fun e=>by have:=hgl.lt e;omega,fun e=>by have:=hgl.lt e;omega,by omega⟩
 have HST:=hide hst
 have HB:=hide hB
 have HW:=hide hW
 have H:=hide h
 have HTH:=hide (isThere_any (w.heap.size + 1 + 1) s layoutP W hst.on.sb hst.inn (by decide))
 have HBG:=hide (fun (W':World) (hg:PGo s s W W')=>begin_any (w.heap.size + 1 + 1) s W' (hst.on.go hg) hf hb hps)
 have e1:∀ (args:Array Value) (w:World),(callFunc 92 args).run Tryz.prog w = .ok (.enter 92 args) w:=enters_of Tryz.func92 (by kernel_rfl) rfl
 have e2:∀ (args:Array Value) (w:World),(callFunc 94 args).run Tryz.prog w = .ok (.enter 94 args) w:=enters_of Tryz.func94 (by kernel_rfl) rfl
 clear hst hB hcm htm hblk h hgl hlow hf hb hps hW
 go_enter Tryz.func50,Tryz.ntmps50
 go_wp2_with fail
 rw [← HW.out]
 refine (HTH.out).mono ?_
 rintro _ w1 ⟨rfl,hg1⟩
 dsimp only
 have HG1:=hide hg1
 clear hg1 HTH HW hmk1 hmk2
 rw [hno]
 dsimp only [Option.isSome]
 go_wp2_with fail
 refine (HBG.out _ HG1.out).mono ?_
 rintro _ w2 ⟨ev,k,s',rfl,hev,hg2,hr⟩
 dsimp only
 have HG2:=hide (HG1.out.trans hg2)
 have HR:=hide hr
 clear hg2 hr
 rcases hev with ⟨rfl,rfl⟩ | ⟨hk0,sv,nm,rfl,hsv⟩
 ·go_wp2_with fail
  refine bodyPost_ret (results_tmp2 rfl _ _ _) rfl ?_
  exact ⟨0,s',_,_,rfl,.inl ⟨rfl,rfl⟩,(PGo.refl H.out HB.out).trans HG2.out,.inl ⟨hno,HR.out⟩,fun _=>⟨_,_,_,rfl,by omega,HST.out.go HG2.out⟩,fun hk=>absurd rfl hk⟩
 ·have HSV:=hide hsv
  clear hsv
  go_wp2_with fail
  refine bodyPost_ret (results_tmp2 rfl _ _ _) rfl ?_
  exact ⟨k,s',_,_,rfl,.inr ⟨hk0,sv,nm,rfl,HSV.out⟩,(PGo.refl H.out HB.out).trans HG2.out,.inl ⟨hno,HR.out⟩,fun hk=>absurd hk hk0,fun _=>rfl⟩
theorem bOpen_new (s:PSt) (w:World) (d:Nat) {L C B:Nat} (h:s.In w) (hgl:Gl w) (hlow:LowS s) (hf:DFit s.ds L C B) (hb:Bud (L + s.R.now.length + 20) (C + s.R.now.length + 20) (B + 36)) (hps:∀ e ∈ s.R.now,e.path.size ≤ 9223372036854775807) (hno:rdD s.ds layoutP = none) (hbd:BD w d s.b) :
  Calls Tryz.prog 17 #[.pointer (some ⟨d,0,none⟩)] w fun e w'=>∃ k s' sv,e = .returned (.tuple #[sv,.int .i64 k]) ∧ PGo s s' w w' ∧ OpR s.ds k s'.ds ∧
   (k = 0 → ∃ xb sb cb tb,sv = .pointer (some ⟨xb,0,none⟩) ∧ BSt w' xb sb ∧ (w.heap.size ≤ sb ∧ w.heap.size ≤ cb ∧ w.heap.size ≤ tb) ∧ w.heap.size ≤ xb ∧ StW w' sb s' cb tb 0 0 (.map []) (.map [])) ∧ (k ≠ 0 → sv = .pointer none) :=
 bOpen_many (RO:=OpR) s w d h hgl hlow (fun W hW=>openS_new s W (h.later hW) (hgl.later hW) hlow hf hb hps hno) hbd
end Go.Proofs.YtncigfibncmioaaGreatDoor
namespace Go.Proofs.YtncigfibncmioaaGreatDoor
open Go.RowKit Go.Shelf
theorem ecells_set (n:ByteArray) (ds:List Nat) (z z':Int) (h:ds.length = 32):(ecellsOf n ds z).setIfInBounds 33 (.int .i64 z') = ecellsOf n ds z':=by
 obtain ⟨x0,x1,x2,x3,x4,x5,x6,x7,x8,x9,x10,x11,x12,x13,x14,x15,x16,x17,x18,x19,x20,x21,x22,x23,x24,x25,x26,x27,x28,x29,x30,x31,rfl⟩:=list32 ds h
 rfl
end Go.Proofs.YtncigfibncmioaaGreatDoor
namespace Go.Proofs.YtncigfibncmioaaGreatDoor
set_option maxHeartbeats 2000000
set_option maxRecDepth 100000
open Go.RowKit Go.Shelf Go.Maps Go.Sort
attribute [local go_sem] Oper.semAt_some
theorem wpListIn_load_row {F:Fence} {n:Nat} {P:Program} {ops:Array Oper} {rest:List Oper} {o:Oper} {a:Act} {w:World} {Q:Exit → Act → World → Prop} (hgd:o.guard = none) (ty:TypeId) (x:Operand) (ho:o.op = .load ty x)
  (g:Nat) (hx:a.eval x = .pointer (some ⟨g,0,none⟩)) (t:TypeId) (cs:Array Value) (fr:Nat × Nat) (d:TypeDesc) (hg:w.heap[g]? = some (.cells cs t fr))
  (hu:P.underlying ty = some d) (hd:(match d with | .struct _ | .array _ _=>true | _=>false) = true) (hi:(P.info? ty).map (·.size) = some cs.size)
  (h:wpListIn F n P ops Q rest (a.put o.dst (.agg cs)) w):wpListIn F n P ops Q (o :: rest) a w:=by
 refine wpListIn_plain hgd fun K hK'=>?_
 unfold Oper.wpIn
 refine ⟨?_,?_⟩
 ·simp [Oper.about,ho]
 ·rw [Oper.semAt_plain F _ _ (by rw [ho];intro c hc';cases hc')]
  unfold execOp
  simp only [ho,hx,Instr.loadAt,Instr.sureAddr,Sem.run_bind,Sem.run_pure,Result.andThen_ok,run_loadVar_row w g t ty cs fr d hg hu hd hi]
  exact hK' _ _ h
theorem wpListIn_store_row {F:Fence} {n:Nat} {P:Program} {ops:Array Oper} {rest:List Oper} {o:Oper} {a:Act} {w:World} {Q:Exit → Act → World → Prop} (hgd:o.guard = none) (ty:TypeId) (x y:Operand) (ho:o.op = .store ty x y)
  (g:Nat) (cells:Array Value) (hx:a.eval x = .pointer (some ⟨g,0,none⟩)) (hy:a.eval y = .agg cells)
  (t:TypeId) (old:Array Value) (hg:w.heap[g]? = some (.cells old t (0,0))) (hi:(P.info? ty).map (·.size) = some cells.size)
  (hold:old.size = cells.size) (h1:cells.all (·.oneCell') = true)
  (h:wpListIn F n P ops Q rest (a.put o.dst undef) (w.setRow g cells)):wpListIn F n P ops Q (o :: rest) a w:=by
 refine wpListIn_plain hgd fun K hK'=>?_
 unfold Oper.wpIn
 refine ⟨?_,?_⟩
 ·simp [Oper.about,ho]
 ·rw [Oper.semAt_plain F _ _ (by rw [ho];intro c hc';cases hc')]
  unfold execOp
  simp only [ho,hx,hy,Instr.storeAt,Instr.sureAddr,Sem.run_bind,Sem.run_pure,Result.andThen_ok,run_storeVar_row w g t ty old cells hg hi hold h1]
  exact hK' _ _ h
abbrev EV:={ v:Value // ∃ n ds z,ds.length = 32 ∧ v = .agg (ecellsOf n ds z) }
def AllE (D:DataW Value):Prop:=∀ kl v,D.atKey kl .nil = .held v → ∃ n ds z,ds.length = 32 ∧ v = .agg (ecellsOf n ds z)
def ValE (D:DataW Value) (p:List UInt8 × EV):Prop:=∀ zd,D.atKey (.string p.1) zd = .held p.2.1
theorem vals1_in (F:Fence) (n:Nat) (hf:F.fn 217) (hro:F.round = none) (hn:1 ≤ n) (l Bm b nn:Nat) (D0:DataW Value) (hE:AllE D0) (J Jx:List EV → World → Prop)
  (hY:∀ pre x W,J pre W → pre.length < Maps.size D0 → YieldAt F (n - 1) Tryz.prog l #[x.1] W fun e W' =>
   (e = .returned (.bool true) ∧ J (pre ++ [x]) W' ∧ KeepsWalks W W') ∨ (e = .returned (.bool false) ∧ Jx (pre ++ [x]) W'))
  (W:World) (hJ:AbidesFrom W.heap.size J) (hm:W.cell? ⟨Bm,0,none⟩ = some (.map (some b))) (hown:TM W b nn D0) (h0:J [] W) :
  CallsIn F n Tryz.prog 217 #[.func (.yield l) #[] #[],.pointer (some ⟨Bm,0,none⟩)] W fun e W'=>(∃ v,e = .returned v) ∧
   ((∃ xs,(∃ ps:List (List UInt8 × EV),(ps.map (·.1)).Perm (strKeys D0) ∧ (∀ p ∈ ps,ValE D0 p) ∧ xs = ps.map (·.2)) ∧ J xs W') ∨ (∃ pre,True ∧ Jx pre W')):=by
 have hz71:=(zero_of_info Tryz.info71b).1
 refine callsIn_of_wp Tryz.func217 rfl hf ?_ hro
 simp only [Tryz.ntmps217,List.size_toArray,List.length_cons,List.length_nil,Nat.reduceAdd,Nat.reduceSub,Array.replicate_succ,Array.replicate_zero,List.push_toArray,List.append_toArray,List.nil_append,List.cons_append]
 gi_wp2_with (first
  | (gi_at_range;refine wpListIn_range_own _ rfl _ 157 rfl 9 193 str_keyed Tryz.underlying157 _ b nn _ rfl hown ?_;intro w0 hrg0 hg0 hs0)
  | gi_in)
 go_frame
 gi_loopw [7] (fun _ wr=>∃ (left:Lit → Bool) (cnt:Nat) (ps:List (List UInt8 × EV)),wr.ranges Tryz.prog 9 heldR b W.heap.size nn D0 left cnt ∧ ps.length + cnt ≤ Maps.size D0 ∧ Collected D0 left (ps.map (·.1)) ∧ (∀ p ∈ ps,ValE D0 p) ∧ J (ps.map (·.2)) wr)
  (fun _ wr=>wr.rangeLeft b W.heap.size)
 case atStart =>
  exact ⟨_,_,[],hrg0,by simp,Collected.start D0,by simp,hJ [] W w0 none h0 hg0 (fun r e=>by cases e)⟩
 case round =>
  obtain ⟨left,cnt,ps,hrg,hcs,hC,hV,hJs⟩:=hrel
  gi_wp2_with (first
   | (gi_at_next;refine wpListIn_next_ranges _ rfl _ rfl 9 str_keyed heldR encStr (fun c:Value=>c) (fun key kl hk=>by obtain ⟨x,hx,_⟩:=Maps.keyOf_str Tryz.underlying9 hk;exact ⟨x,hx⟩) (fun v y hv=>⟨v,rfl⟩) b W.heap.size nn _ _ _ rfl hrg ?_ ?_)
   | gi_in)
  ·intro hc0 hl0
   gi_wp2
   go_end0
   exact ⟨⟨_,rfl⟩,.inl ⟨_,⟨ps,hC.perm hown str_keyed Tryz.underlying9 hl0,hV,rfl⟩,hJs⟩⟩
  ·intro x c kl yd yp w2 cnt2 hkey hlk hv hat hrg2 hlt hg2 hs2 hen
   obtain ⟨x',ex,rfl,_⟩:=Maps.keyOf_str Tryz.underlying9 hkey
   obtain rfl:x = x':=encStr_inj ex
   have hyd:yd = .held c:=by
    unfold heldR at hv
    injection hv with hv
    injection hv with hv
    exact hv.symm
   subst hyd
   obtain ⟨en,ds,z,hds,rfl⟩:=hE _ c (hat .nil)
   have hJ2:J (ps.map (·.2)) w2:=hJ _ wr w2 (some W.heap.size) hJs hg2 (fun r e=>by cases e;exact ⟨Nat.le_refl _,hrg.iter_walk⟩)
   obtain ⟨X,hX⟩ : ∃ X,X = w2.alloc (.cells (ecellsOf en ds z) 193):=⟨_,rfl⟩
   have hJ3:J (ps.map (·.2)) X:=by rw [hX];exact hJ _ w2 _ none hJ2 (World.grownBy_alloc _ _ _) (fun r e=>by cases e)
   have hXr:X.heap[w2.heap.size]? = some (.cells (ecellsOf en ds z) 193 (0,0)):=by rw [hX];exact heap_alloc_new _ _
   have hrgX:=hrg2.alloc (.cells (ecellsOf en ds z) 193)
   rw [← hX] at hrgX
   obtain ⟨fn,tmps,assign,body,hy,hR⟩:=hY (ps.map (·.2)) ⟨.agg (ecellsOf en ds z),en,ds,z,hds,rfl⟩ X hJ3 (by simp;omega)
   have HX:=hide hX
   have HXR:=hide hXr
   have HRGX:=hide hrgX
   clear hs2 hX hXr hrgX hJ2 hJ3
   dsimp only at hy
   gi_wp2_with (first
    | (refine wpListIn_store_row rfl 193 _ _ rfl w2.heap.size _ rfl rfl 193 _ (heap_alloc_new _ _) (size71 _ _ _ hds) (by rw [ecellsOf_size _ _ _ hds,ecellsOf_size _ _ _ (Sha.zeros_len _)]) (Array.all_eq_true_iff_forall_mem.2 fun u hu=>ecellsOf_one _ _ _ u (by simpa using hu)) ?_;rw [World.setRow_alloc_new,← HX.out])
    | (refine wpListIn_load_row rfl 193 _ rfl w2.heap.size rfl 193 _ _ _ HXR.out Tryz.underlying193 rfl (size71 _ _ _ hds) ?_)
    | gi_in)
   refine hR.mono ?_
   have hC2:Collected D0 (fun z=>left z && !z.sameKey (.string x)) ((ps ++ [(x,(⟨.agg (ecellsOf en ds z),en,ds,z,hds,rfl⟩ : EV))]).map (·.1)):=by simpa using hC.step hlk hat
   have hV2:∀ p ∈ ps ++ [(x,(⟨.agg (ecellsOf en ds z),en,ds,z,hds,rfl⟩ : EV))],ValE D0 p:=fun p hp=>(List.mem_append.1 hp).elim (hV p) (fun e=>by simp at e;subst e;exact hat)
   rintro e W3 (⟨rfl,hJ3,hk3⟩ | ⟨rfl,hJx3⟩)
   ·gi_wp2
    have hrg3:=HRGX.out.of_walks hk3
    go_roundw
    case rel=>exact ⟨_,cnt2,ps ++ [(x,_)],hrg3,by simp;omega,hC2,hV2,by simpa using hJ3⟩
    case measure=>rw [hrg3.left_eq,hrg.left_eq];exact hlt
   ·gi_wp2
    refine bodyPost_ret (results_none rfl _ _ _) rfl ?_
    exact ⟨⟨_,rfl⟩,.inr ⟨_,trivial,hJx3⟩⟩
theorem vals_in (F:Fence) (n:Nat) (hf:F.fn 173) (hro:F.round = none) (mb:Option Nat) (w:World) :
  CallsIn F n Tryz.prog 173 #[.map mb] w fun e w'=>e = .returned (.func (.func 217) #[] #[.pointer (some ⟨w.heap.size,0,none⟩)]) ∧ w' = w.alloc (.cells #[.map mb] 157):=by
 refine callsIn_of_wp Tryz.func173 rfl hf ?_ hro
 simp only [Tryz.ntmps173,List.size_toArray,List.length_cons,List.length_nil,Nat.reduceAdd,Nat.reduceSub,Array.replicate_succ,Array.replicate_zero,List.push_toArray,List.append_toArray,List.nil_append,List.cons_append]
 gi_wp2
 go_ret
 exact ⟨rfl,rfl⟩
def AllV (D0:DataW Value) (xs:List EV):Prop:=∃ ps:List (List UInt8 × EV),(ps.map (·.1)).Perm (strKeys D0) ∧ (∀ p ∈ ps,ValE D0 p) ∧ xs = ps.map (·.2)
theorem vals_stops (F:Fence) (n:Nat) (hf:F.fn 217) (hro:F.round = none) (hn:1 ≤ n) (Bm b nn:Nat) (D0:DataW Value) (hE:AllE D0) (w:World) (hm:w.cell? ⟨Bm,0,none⟩ = some (.map (some b))) (hown:TM w b nn D0) :
  SeqStopsK F n Tryz.prog 217 #[.pointer (some ⟨Bm,0,none⟩)] (fun x:EV=>#[x.1]) KeepsWalks (AllV D0) (fun _=>True) (Maps.size D0) w:=fun l J Jx W hW hJ _ hY h0 =>
 vals1_in F n hf hro hn l Bm b nn D0 hE J Jx hY W hJ (cell_later hW hm) (owns_same hown (hW.block b hown.lt)) h0
set_option maxHeartbeats 4000000
set_option maxRecDepth 100000
open Go.RowKit Go.Shelf Go.Maps Go.Sort
attribute [local go_sem] Oper.semAt_some
def EV.cs (x:EV):List Value:=x.1.cells.toList
def AI (w:World) (pre:List EV) (W:World):Prop:=∃ sv,W.heap[w.heap.size]? = some (.cells #[sv] 138 (0,0)) ∧ W.ownsRow w.heap.size 193 34 sv pre.length (pre.flatMap EV.cs) ∧ Below w.heap.size w W
theorem wpListIn_slice47 {F:Fence} {m:Nat} {ops:Array Oper} {rest:List Oper} {op:Oper} {a:Act} {w:World} {Q:Exit → Act → World → Prop} (hgd:op.guard = none) (x:Operand) (ho:op.op = .buildSlice 138 1 #[(0,x)])
  (n:ByteArray) (ds:List Nat) (k:Int) (hl:ds.length = 32) (hx:a.eval x = .agg (ecellsOf n ds k))
  (h:wpListIn F m Tryz.prog ops Q rest (a.put op.dst (.slice (some ⟨w.heap.size,0,none⟩) 1 1)) (w.alloc (.cells (ecellsOf n ds k) 193))):wpListIn F m Tryz.prog ops Q (op :: rest) a w:=by
 refine wpListIn_plain hgd fun K hK'=>?_
 have hr:=slice47 n ds k hl w
 unfold Oper.wpIn
 refine ⟨?_,?_⟩
 ·simp [Oper.about,ho]
 ·rw [Oper.semAt_plain F _ _ (by rw [ho];intro c hc';cases hc')]
  unfold execOp
  simp only [ho,hx,List.map_toArray,List.map_cons,List.map_nil,Sem.run_bind,Sem.run_pure,hr,Result.andThen_ok]
  exact hK' _ _ h
theorem new_cells (W:World) (cs:Array Value) (T:TypeId):∀ j u,cs.toList[j]? = some u → (W.alloc (.cells cs T)).cell? ((⟨W.heap.size,0,none⟩ : Addr).add j) = some u:=by
 intro j u hu
 have hadd:(⟨W.heap.size,0,none⟩ : Addr).add j = ⟨W.heap.size,j,none⟩:=by unfold Addr.add;split <;> simp_all
 rw [hadd,cell_of_row _ _ j _ _ _ (heap_alloc_new _ _)]
 simpa using hu
theorem own_ge {w:World} {B:Nat} {e:TypeId} {size n:Nat} {v:Value} {l:List Value} (h:w.ownsRow B e size v n l):∀ k,v.ownBlock = some k → B ≤ k:=by
 intro k hk
 obtain ⟨_,h2⟩:=h
 rcases h2 with ⟨rfl,_⟩ | ⟨g',cap',cur,rfl,hB,_⟩
 ·cases hk
 ·have:some g' = some k:=hk
  injection this with this
  omega
theorem ai_own (w:World) (B:Nat) (hB:w.heap.size ≤ B):OwnFrom B (AI w):=by
 rintro pre X Y row ⟨sv,h1,h2,h3⟩ hgr hr
 have key:∀ (k:Nat) (cur:Array Value) (T:TypeId),X.heap[k]? = some (.cells cur T (0,0)) → Y.heap[k]? = X.heap[k]?:=fun k cur T hc=>hgr.block k (lt_heap hc) (fun e=>by
  obtain ⟨o,x2,x3⟩:=(hr k e.symm).2
  rw [hc] at x2
  cases x2
  cases x3)
 refine ⟨sv,(key _ _ _ h1).trans h1,own_same h2 (fun k hk _=>?_),h3.grown hgr h3.size (fun k e=>by have:=(hr k e).1;omega)⟩
 obtain ⟨c,hc⟩:=own_obj h2 k hk
 exact key _ _ _ hc
def AX (w:World) (g:Nat) (lb:Array Value) (x:EV) (a:Act) (W:World):Prop:=∃ vb,w.heap.size < vb ∧ a = { tmps:=#[.slice none 0 0,.func (.func g) #[] lb,.pointer (some ⟨w.heap.size,0,none⟩),undef,.slice none 0 0,.pointer (some ⟨vb,0,none⟩),.func (.func g) #[] lb,x.1,undef,undef,undef,undef,undef],defers:=[] } ∧ W.heap[vb]? = some (.cells x.1.cells 193 (0,0))
theorem ax_own (w:World) (g:Nat) (lb:Array Value) (B:Nat) (x:EV) (a:Act):OwnFrom B (fun (_:Unit) W=>AX w g lb x a W):=by
 rintro _ X Y row ⟨vb,h0,h1,h2⟩ hgr hr
 exact ⟨vb,h0,h1,(hgr.block vb (lt_heap h2) (fun e=>by
  obtain ⟨o,x2,x3⟩:=(hr vb e.symm).2
  rw [h2] at x2
  cases x2
  cases x3)).trans h2⟩
theorem appendSeq_in (n:Nat) (hn:5 ≤ n) (g:Nat) (lb:Array Value) (eg:∀ args w,(callFunc g args).run Tryz.prog w = .ok (.enter g args) w) (S:List EV → Prop) (N:Nat) (hN:N ≤ 1000) (w:World)
  (hseq:SeqStopsK Fence.wide (n - 1) Tryz.prog g lb (fun x:EV=>#[x.1]) KeepsWalks S (fun _=>True) N w) :
  CallsIn Fence.wide n Tryz.prog 246 #[.slice none 0 0,.func (.func g) #[] lb] w fun e w'=>∃ v xs,e = .returned v ∧ S xs ∧ w'.ownsRow w.heap.size 193 34 v xs.length (xs.flatMap EV.cs) ∧ Below w.heap.size w w':=by
 have hz71:=(zero_of_info Tryz.info71b).1
 obtain ⟨i0,hi,hz0,hz1,hz2⟩:=info_parts Tryz.info193
 refine callsIn_of_wp_marks Tryz.func246 rfl trivial ?_ rfl
 simp only [Tryz.ntmps246,List.size_toArray,List.length_cons,List.length_nil,Nat.reduceAdd,Nat.reduceSub,Array.replicate_succ,Array.replicate_zero,List.push_toArray,List.append_toArray,List.nil_append,List.cons_append]
 gi_wp2_with fail
 obtain ⟨w1,hw1⟩ : ∃ w1,w1 = w.alloc (.cells #[.slice none 0 0] 138):=⟨_,rfl⟩
 have hb1:Below w.heap.size w w1:=by rw [hw1];exact (Below.refl _ _).alloc (Nat.le_refl _) _
 have hx1:w1.heap[w.heap.size]? = some (.cells #[.slice none 0 0] 138 (0,0)):=by rw [hw1];exact heap_alloc_new _ _
 have hs1:w1.heap.size = w.heap.size + 1:=by rw [hw1,size_alloc]
 rw [← hw1]
 refine wpIn_rangeFunc_ownH (F:=Fence.wide) (n:=n) rfl (by omega) (gf:=g) (lb:=lb) rfl trivial eg hseq KeepsWalks.trans (walksK_b (w:=w1)) hb1 (fun _=>rfl)
  (AI w) (fun _ _ _=>False) (ai_own w _ (by omega)) (fun _ _ _ _ _ h _ _=>h.elim)
  ⟨_,hx1,World.ownsRow_nil _ _ _ _,hb1⟩ (AX w g lb) (ax_own w g lb _) ?assign ?body ?done ?stop
 case assign =>
  rintro l pre ⟨_,en,ds,z,hds,rfl⟩ W K hI hK
  have hgr:=World.grownBy_alloc W (.cells (ecellsOf en ds z) 193) none
  have hIX:=ai_own w W.heap.size (by obtain ⟨sv,i1,i2,i3⟩:=hI;exact i3.size) pre W _ none hI hgr (fun r e=>by cases e)
  have hvb:w.heap.size < W.heap.size:=by
   obtain ⟨sv,i1,i2,i3⟩:=hI
   exact lt_heap i1
  have HK:=hide (hK _ (W.alloc (.cells (ecellsOf en ds z) 193)) ⟨by simp,fun k o _ hk _=>(Below.heap_alloc _ _ _ (lt_heap hk)).trans hk⟩ ⟨by simp,fun k o hk _=>(Below.heap_alloc _ _ _ (lt_heap hk)).trans hk⟩ hIX ⟨W.heap.size,hvb,rfl,heap_alloc_new _ _⟩)
  clear hI hIX hK hgr
  gi_wp2_with (first
   | (refine wpListIn_store_row rfl 193 _ _ rfl W.heap.size _ rfl rfl 193 _ (heap_alloc_new _ _) (size71 _ _ _ hds) (by rw [ecellsOf_size _ _ _ hds,ecellsOf_size _ _ _ (Sha.zeros_len _)]) (Array.all_eq_true_iff_forall_mem.2 fun u hu=>ecellsOf_one _ _ _ u (by simpa using hu)) ?_;rw [World.setRow_alloc_new])
   | gi_in)
  exact HK.out
 case body =>
  rintro l pre ⟨_,en,ds,z,hds,rfl⟩ a' W hl ⟨r,hr⟩ ⟨sv,i1,i2,i3⟩ ⟨vb,hvb,rfl,hv⟩ hlen
  obtain ⟨so,sc,rfl⟩:=own_sl i2
  have ce:=cell_of_row _ _ 0 _ _ _ i1
  have HI2:=hide i2
  have HI1:=hide i1
  have HI3:=hide i3
  have HV:=hide hv
  have hwW:w.heap.size < W.heap.size:=lt_heap i1
  have HBOX:Hid (∀ w2:World,(W.alloc (.cells (ecellsOf en ds z) 193)).grownBy w2 (Value.slice so pre.length sc).ownBlock → w2.heap[w.heap.size]? = some (.cells #[.slice so pre.length sc] 138 (0,0))):=hide (fun w2 hg2=>by
   refine (hg2.block _ (by rw [size_alloc];omega) (fun e=>?_)).trans ((Below.heap_alloc _ _ _ hwW).trans i1)
   obtain ⟨c,hc⟩:=own_obj i2 _ e.symm
   rw [i1] at hc
   injection hc with hc
   injection hc with _ hc
   exact absurd hc (by decide))
  have HEC:=hide (new_cells W (ecellsOf en ds z) 193)
  clear i1 i2 i3 hv
  dsimp only
  gi_wp2_with (first
   | (refine wpListIn_load_row rfl 193 _ rfl vb rfl 193 _ _ _ HV.out Tryz.underlying193 rfl (size71 _ _ _ hds) ?_)
   | (refine wpListIn_slice47 rfl _ rfl en ds z hds rfl ?_)
   | (refine wpListIn_append_own _ rfl _ _ 138 rfl w.heap.size 193 i0 _ 34 56 Tryz.underlying138 hi hz0 hz1 hz2 (ecellsOf_size _ _ _ (Sha.zeros_len _)) (by decide) _ pre.length _ rfl (ownsRow_later HI2.out ((Below.refl _ _).alloc (Nat.le_refl _) _)) _ 1 1 (ecellsOf en ds z).toList rfl (by rw [Array.length_toList,ecellsOf_size _ _ _ hds]) HEC.out (ecellsOf_one _ _ _) (by unfold maxLen;omega) (by omega) (by simp;omega) ?_;rintro v2 w2 hv2 hg2 -;obtain ⟨so2,sc2,rfl⟩:=own_sl hv2;have hbx:=HBOX.out w2 hg2;have cb:=cell_of_row _ _ 0 _ _ _ hbx;have fb:=frozen_of_row _ _ 0 _ _ hbx;have HV2:=hide hv2;have HG2:=hide hg2;have HBX:=hide hbx;clear hv2 hg2 hbx)
   | gi_in)
  have hoth:∀ (k:Nat) (o:Obj),W.heap[k]? = some o → o.isCells = false → (w2.setCell ⟨w.heap.size,0,none⟩ (.slice so2 (pre.length + 1) sc2)).heap[k]? = some o:=by
   intro k o hk ho
   rw [heap_setCell_other _ _ _ _ (fun e=>?_)]
   ·refine (HG2.out.block k (by rw [size_alloc];have:=lt_heap hk;omega) (fun e=>?_)).trans ((Below.heap_alloc _ _ _ (lt_heap hk)).trans hk)
    obtain ⟨c,hc⟩:=own_obj HI2.out _ e.symm
    rw [hc] at hk
    cases hk
    cases ho
   ·have e:k = w.heap.size:=e
    subst e
    rw [HI1.out] at hk
    cases hk
    cases ho
  have hsz:W.heap.size ≤ (w2.setCell ⟨w.heap.size,0,none⟩ (.slice so2 (pre.length + 1) sc2)).heap.size:=by
   have:=HG2.out.size
   simp only [size_alloc] at this
   simp
   omega
  refine ⟨⟨hsz,fun k o _ hk ho=>hoth k o hk ho⟩,⟨hsz,fun k o hk ho=>hoth k o hk (Obj.not_cells_of_walk ho)⟩,.slice so2 (pre.length + 1) sc2,?_,?_,?_⟩
  ·rw [heap_setCell_same _ w.heap.size 0 _ _ _ HBX.out]
   rfl
  ·have hrow:=own_same (w':=w2.setCell ⟨w.heap.size,0,none⟩ (.slice so2 (pre.length + 1) sc2)) HV2.out (fun k hk _=>heap_setCell_other _ _ _ _ (fun e=>by
    have e:k = w.heap.size:=e
    subst e
    obtain ⟨c,hc⟩:=own_obj HV2.out _ hk
    rw [HBX.out] at hc
    injection hc with hc
    injection hc with _ hc
    exact absurd hc (by decide)))
   rw [List.flatMap_append,List.length_append]
   simp only [List.flatMap_cons,List.flatMap_nil,List.append_nil]
   exact hrow
  ·have h1:Below w.heap.size w w2:=(HI3.out.alloc HI3.out.size _).grown HG2.out (by rw [size_alloc];omega) (fun k e=>own_ge HI2.out k e)
   exact ⟨h1.os,h1.tape,h1.output,by simpa using h1.size,fun k hk=>(heap_setCell_other _ _ _ _ (fun e=>by have e:k = w.heap.size:=e;omega)).trans (h1.block k hk)⟩
 case done =>
  rintro D xs W hD hS ⟨sv,i1,i2,i3⟩ hK
  obtain ⟨so,sc,rfl⟩:=own_sl i2
  have ce:=cell_of_row _ _ 0 _ _ _ i1
  have HI2:=hide i2
  have HI3:=hide i3
  have HI1:=hide i1
  clear i1 i2 i3
  gi_wp2
  refine ⟨by simp,.inl ⟨_,_,rfl,run_takeDeferred hK,?_⟩⟩
  refine ⟨_,results_tmp rfl _ _ _,_,xs,rfl,hS,own_same HI2.out (fun k hk _=>World.putObj_heap_other (fun e=>?_)),HI3.out.grown (grown_put _ _ _) HI3.out.size (fun k e=>by injection e with e;omega)⟩
  subst e
  obtain ⟨c,hc⟩:=own_obj HI2.out k hk
  rw [hc] at hK
  cases hK
 case stop =>
  rintro D c pre W hD _ h
  exact h.elim
theorem collect_in (n:Nat) (hn:6 ≤ n) (g:Nat) (lb:Array Value) (eg:∀ args w,(callFunc g args).run Tryz.prog w = .ok (.enter g args) w) (S:List EV → Prop) (N:Nat) (hN:N ≤ 1000) (w:World)
  (hseq:SeqStopsK Fence.wide (n - 1 - 1) Tryz.prog g lb (fun x:EV=>#[x.1]) KeepsWalks S (fun _=>True) N w) :
  CallsIn Fence.wide n Tryz.prog 215 #[.func (.func g) #[] lb] w fun e w'=>∃ v xs,e = .returned v ∧ S xs ∧ w'.ownsRow w.heap.size 193 34 v xs.length (xs.flatMap EV.cs) ∧ Below w.heap.size w w':=by
 have f1:Fence.wide.fn 246:=trivial
 have HA:=hide (appendSeq_in (n - 1) (by omega) g lb eg S N hN w hseq)
 refine callsIn_of_wp Tryz.func215 rfl trivial ?_ rfl
 simp only [Tryz.ntmps215,List.size_toArray,List.length_cons,List.length_nil,Nat.reduceAdd,Nat.reduceSub,Array.replicate_succ,Array.replicate_zero,List.push_toArray,List.append_toArray,List.nil_append,List.cons_append]
 gi_wp2_with fail
 refine ⟨fun _=>by omega,?_⟩
 refine (HA.out).mono ?_
 rintro _ w1 ⟨v,xs,rfl,h1,h2,h3⟩
 dsimp only
 have H2:=hide h2
 clear h2
 gi_wp2_with fail
 go_ret
 exact ⟨_,xs,rfl,h1,H2.out,h3⟩
set_option maxHeartbeats 1000000
set_option maxRecDepth 100000
open Go.RowKit
theorem bitsLen64_one (n:Nat) (hn:n ≤ 1) (w:World):Calls Tryz.prog 242 #[.int .u64 ((n:Nat):Int)] w fun e w'=>∃ k,e = .returned (.int .i64 k) ∧ w' = w:=by
 have h2:n = 0 ∨ n = 1:=by omega
 rcases h2 with rfl | rfl
 ·go_enter Tryz.func242,Tryz.ntmps242
  go_wp2_with fail
  go_ret
  exact ⟨_,rfl,rfl⟩
 ·go_enter Tryz.func242,Tryz.ntmps242
  go_wp2_with fail
  go_ret
  exact ⟨_,rfl,rfl⟩
theorem bitsLen_one (n:Nat) (hn:n ≤ 1) (w:World):Calls Tryz.prog 209 #[.int .u64 ((n:Nat):Int)] w fun e w'=>∃ k,e = .returned (.int .i64 k) ∧ w' = w:=by
 have HL:=hide (bitsLen64_one n hn w)
 have hw:IntKind.wrap .u64 ((n:Nat):Int) = ((n:Nat):Int):=by
  have h2:n = 0 ∨ n = 1:=by omega
  rcases h2 with rfl | rfl <;> decide
 go_enter Tryz.func209,Tryz.ntmps209
 go_wp2_with fail
 refine (HL.out).mono ?_
 rintro _ w1 ⟨k,rfl,rfl⟩
 dsimp only
 go_wp2_with fail
 go_ret
 exact ⟨_,rfl,rfl⟩
theorem insE_one (o:Option Addr) (n c:Nat) (hn:n ≤ 1) (f:Value) (w:World):Calls Tryz.prog 269 #[.slice o n c,.int .i64 0,.int .i64 ((n:Nat):Int),f] w fun e w'=>e = .returned (.tuple #[]) ∧ w' = w:=by
 have d1:decide ((1:Int) < ((n:Nat):Int)) = false:=decide_eq_false (by omega)
 go_enter Tryz.func269,Tryz.ntmps269
 go_wp2_with fail
 go_loopw [8] (fun iv wr=>iv = .int .i64 1 ∧ wr = w) (fun _ _=>0)
 case atStart=>exact ⟨rfl,rfl⟩
 case round =>
  obtain ⟨rfl,rfl⟩:=hrel
  go_wp2_with fail
  go_end0
  exact ⟨rfl,rfl⟩
theorem pdqE_one (o:Option Addr) (n c:Nat) (hn:n ≤ 1) (k:Int) (f:Value) (w:World):Calls Tryz.prog 247 #[.slice o n c,.int .i64 0,.int .i64 ((n:Nat):Int),.int .i64 k,f] w fun e w'=>e = .returned (.tuple #[]) ∧ w' = w:=by
 have HI:=hide (insE_one o n c hn f w)
 have d1:decide (((n:Nat):Int) ≤ 12) = true:=decide_eq_true (by omega)
 go_enter Tryz.func247,Tryz.ntmps247
 go_wp2_with fail
 go_loopw [1,2] (fun av bv wr=>av = .int .i64 0 ∧ bv = .int .i64 ((n:Nat):Int) ∧ wr = w) (fun _ _ _=>0)
 case atStart=>exact ⟨rfl,rfl,rfl⟩
 case round =>
  obtain ⟨rfl,rfl,rfl⟩:=hrel
  go_wp2_with fail
  refine (HI.out).mono ?_
  rintro _ w1 ⟨rfl,rfl⟩
  dsimp only
  go_wp2_with fail
  refine bodyPost_ret (results_none rfl _ _ _) rfl ?_
  exact ⟨rfl,rfl⟩
theorem sortE_one (o:Option Addr) (n c:Nat) (hn:n ≤ 1) (f:Value) (w:World):Calls Tryz.prog 216 #[.slice o n c,f] w fun e w'=>e = .returned (.tuple #[]) ∧ w' = w:=by
 have HB:=hide (bitsLen_one n hn w)
 have HP:=hide (fun k=>pdqE_one o n c hn k f w)
 have hw:IntKind.wrap .u64 ((n:Nat):Int) = ((n:Nat):Int):=by
  have h2:n = 0 ∨ n = 1:=by omega
  rcases h2 with rfl | rfl <;> decide
 go_enter Tryz.func216,Tryz.ntmps216
 go_wp2_with fail
 refine (HB.out).mono ?_
 rintro _ w1 ⟨k,rfl,rfl⟩
 dsimp only
 go_wp2_with fail
 refine (HP.out _).mono ?_
 rintro _ w1 ⟨rfl,rfl⟩
 dsimp only
 go_wp2_with fail
 go_end0
 exact ⟨rfl,rfl⟩
theorem insD_one (o:Option Addr) (n c:Nat) (hn:n ≤ 1) (f:Value) (w:World):Calls Tryz.prog 233 #[.slice o n c,.int .i64 0,.int .i64 ((n:Nat):Int),f] w fun e w'=>e = .returned (.tuple #[]) ∧ w' = w:=by
 have d1:decide ((1:Int) < ((n:Nat):Int)) = false:=decide_eq_false (by omega)
 go_enter Tryz.func233,Tryz.ntmps233
 go_wp2_with fail
 go_loopw [8] (fun iv wr=>iv = .int .i64 1 ∧ wr = w) (fun _ _=>0)
 case atStart=>exact ⟨rfl,rfl⟩
 case round =>
  obtain ⟨rfl,rfl⟩:=hrel
  go_wp2_with fail
  go_end0
  exact ⟨rfl,rfl⟩
theorem pdqD_one (o:Option Addr) (n c:Nat) (hn:n ≤ 1) (k:Int) (f:Value) (w:World):Calls Tryz.prog 208 #[.slice o n c,.int .i64 0,.int .i64 ((n:Nat):Int),.int .i64 k,f] w fun e w'=>e = .returned (.tuple #[]) ∧ w' = w:=by
 have HI:=hide (insD_one o n c hn f w)
 have d1:decide (((n:Nat):Int) ≤ 12) = true:=decide_eq_true (by omega)
 go_enter Tryz.func208,Tryz.ntmps208
 go_wp2_with fail
 go_loopw [1,2] (fun av bv wr=>av = .int .i64 0 ∧ bv = .int .i64 ((n:Nat):Int) ∧ wr = w) (fun _ _ _=>0)
 case atStart=>exact ⟨rfl,rfl,rfl⟩
 case round =>
  obtain ⟨rfl,rfl,rfl⟩:=hrel
  go_wp2_with fail
  refine (HI.out).mono ?_
  rintro _ w1 ⟨rfl,rfl⟩
  dsimp only
  go_wp2_with fail
  refine bodyPost_ret (results_none rfl _ _ _) rfl ?_
  exact ⟨rfl,rfl⟩
theorem sortD_one (o:Option Addr) (n c:Nat) (hn:n ≤ 1) (f:Value) (w:World):Calls Tryz.prog 160 #[.slice o n c,f] w fun e w'=>e = .returned (.tuple #[]) ∧ w' = w:=by
 have HB:=hide (bitsLen_one n hn w)
 have HP:=hide (fun k=>pdqD_one o n c hn k f w)
 have hw:IntKind.wrap .u64 ((n:Nat):Int) = ((n:Nat):Int):=by
  have h2:n = 0 ∨ n = 1:=by omega
  rcases h2 with rfl | rfl <;> decide
 go_enter Tryz.func160,Tryz.ntmps160
 go_wp2_with fail
 refine (HB.out).mono ?_
 rintro _ w1 ⟨k,rfl,rfl⟩
 dsimp only
 go_wp2_with fail
 refine (HP.out _).mono ?_
 rintro _ w1 ⟨rfl,rfl⟩
 dsimp only
 go_wp2_with fail
 go_end0
 exact ⟨rfl,rfl⟩
end Go.Proofs.YtncigfibncmioaaGreatDoor
namespace Go.Proofs.YtncigfibncmioaaGreatDoor
open Go.RowKit Go.Shelf
structure TE where
 n:ByteArray
 d:List Nat
 z:Int
deriving DecidableEq
structure TE.Ok (t:TE):Prop where
 n:t.n.size ≤ 20
 len:t.d.length = 32
 lt:∀ i,t.d.getD i 0 < 256
 z0:0 ≤ t.z
 z1:t.z ≤ 300
def TE.v (t:TE):Value:=.agg (ecellsOf t.n t.d t.z)
abbrev tD (l:List TE):DataW Value:=mD TE.n TE.v l
abbrev RiseT (l:List TE):Prop:=RiseK TE.n l
def TL (w:World) (b:Nat) (l:List TE):Prop:=TM w b l.length (tD l)
theorem tl_tight {w:World} {b n:Nat} {l:List TE} (h:TM w b n (tD l)):TL w b l:=mD_tight h
theorem TL.rise {w:World} {b:Nat} {l:List TE} (h:TL w b l):RiseT l:=mD_rise h str_keyed
theorem TL.same {w w':World} {b:Nat} {l:List TE} (h:TL w b l) (hb:w'.heap[b]? = w.heap[b]?):TL w' b l:=owns_same h hb
theorem TL.lt {w:World} {b:Nat} {l:List TE} (h:TL w b l):b < w.heap.size:=World.ownsMap.lt h
theorem allE_tD {l:List TE} (hr:RiseT l) (h:∀ t ∈ l,t.Ok):AllE (tD l):=by
 intro kl v hv
 have hk:Maps.has (tD l) kl = true:=by
  simp only [tD,mD,DataW.atKey] at hv
  simp only [Maps.has,tD,mD]
  cases hf:(l.map (mE TE.n TE.v)).find? (fun x=>x.1.sameKey kl) with
  | none=>rw [hf] at hv;cases hv
  | some y=>exact List.any_eq_true.2 ⟨y,List.mem_of_find?_eq_some hf,by simpa using List.find?_some hf⟩
 obtain ⟨t,ht,rfl⟩:=mD_any hk
 rw [mD_at,findK_mem hr ht] at hv
 injection hv with hv
 exact ⟨t.n,t.d,t.z,(h t ht).len,hv.symm⟩
theorem strKeys_tD (l:List TE):strKeys (tD l) = l.map fun t=>t.n.data.toList:=by
 simp only [strKeys,tD,mD,List.map_map]
 rfl
end Go.Proofs.YtncigfibncmioaaGreatDoor
