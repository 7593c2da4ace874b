/-
  PROVED HERE: what the program's function Tags of package index answers: the list of tags of the entries, in memory of its own.
-/
import Derived.Test.YtncigfibncmioaaGreatDoorIdxRd
import Derived.Deep.AppendLies
import Derived.Deep.RegionHeld3
namespace Go.Proofs.YtncigfibncmioaaGreatDoor
set_option maxHeartbeats 2000000
set_option maxRecDepth 100000
open Go.RowKit
def Tg.told (t:Tg):Tg:=⟨t.name,⟨(Sha.textTo (rd t.dig) 32).toArray⟩,t.size⟩
theorem Tryz.info26c:(Tryz.prog.info? 83).map (fun i=>(i.zero,i.size,i.bytes))=some (some (.agg #[.string ⟨#[]⟩,.string ⟨#[]⟩,.int .i64 0]),3,40):=by kernel_rfl
theorem Ent.grown {w0 w w':World} {b:Nat} {n:ByteArray} {ds:List Nat} {z:Int} {base:Nat} {e:TypeId} {size m:Nat} {v:Value} {xs:List Value} (h:Ent w0 w b n ds z) (hg:w.grownBy w' v.ownBlock) (ho:w.ownsRow base e size v m xs) (hne:193≠e) (hB:w0.heap.size≤base):Ent w0 w' b n ds z :=
 ⟨grown_keeps hg h.row (own_ne ho h.row hne),grown_below h.below hg ho hB h.below.size⟩
theorem tell_one (n d:ByteArray) (z:Int):∀ u∈[Value.string n,Value.string d,Value.int .i64 z],u.oneCell'=true:=by
 intro u hu
 simp only [List.mem_cons,List.not_mem_nil,or_false] at hu
 rcases hu with rfl|rfl|rfl<;>rfl
theorem tagsOf_core (v:Value) (l:List Tg) (w:World) (n:Nat) (hn:l.length=n) (h8:n≤8) (B:Nat) (hown:w.ownsRow B 193 34 v n (l.flatMap Tg.ecells)) :
  Calls Tryz.prog 78 #[v] w fun e w'=>Below w.heap.size w w'∧∃ v',e = .returned v'∧w'.ownsRow w.heap.size 83 3 v' n ((l.map Tg.told).flatMap Tg.cells):=by
 have HN:=hide hn
 have HO:=hide hown
 clear hn hown
 have hz71:=(zero_of_info Tryz.info71b).1
 obtain ⟨i0,hi,hz0,hz1,hz2⟩:=info_parts Tryz.info26c
 obtain ⟨oa,cap,rfl⟩:=own_slice HO.out
 go_enter Tryz.func78,Tryz.ntmps78
 go_wp2
 go_loopw [3,8] (fun v i wr=>∃ k:Nat,k≤n∧i = .int .i64 ((k:Nat):Int)∧wr.ownsRow w.heap.size 83 3 v k (((l.map Tg.told).take k).flatMap Tg.cells)∧Below w.heap.size w wr)
  (fun _ i _=>n - (intOf i).toNat)
 case atStart=>exact ⟨0,Nat.zero_le _,rfl,World.ownsRow_nil _ _ _ _,Below.refl _ _⟩
 case round =>
  obtain ⟨k,hk,rfl,hI,hbel⟩:=hrel
  have HI:=hide hI
  clear hI
  by_cases hlt:k<n
  ·have hbs:=hbel.size
   obtain ⟨g,rfl⟩ : ∃ g,oa=some ⟨g,0,none⟩:=by
    rcases HO.out.2 with ⟨e,h0⟩|⟨g,cap',cur,e,_⟩
    ·omega
    ·injection e with e1 _ _;exact ⟨g,e1⟩
   have hr:=rangeAt_later hbel (ecells_range HO.out k (by rw [HN.out];exact hlt))
   generalize hx:l.getD k default=tx at hr
   have HX:=hide hx
   clear hx
   obtain ⟨n1,d1,z1⟩:=tx
   have hrd:Tg.ecells ⟨n1,d1,z1⟩=(ecellsOf n1 (rd d1) z1).toList:=rfl
   rw [hrd] at hr
   clear hrd
   generalize hd:rd d1=ds at hr
   have hdl:ds.length=32:=by rw [← hd];exact rd_len _
   have hdlt:∀ i,ds.getD i 0<256:=by rw [← hd];exact rd_lt _
   have HD:=hide hd
   clear hd
   have HR:=hide hr
   clear hr
   have hE0:Ent w (wr.alloc (.cells (ecellsOf n1 ds z1) 193)) wr.heap.size n1 ds z1:=⟨heap_alloc_new _ _,hbel.alloc hbs _⟩
   obtain ⟨dT,hdT⟩ : ∃ dT:ByteArray,dT=⟨(Sha.textTo ds 32).toArray⟩:=⟨_,rfl⟩
   have C18:∀ w,Calls Tryz.prog 66 #[.agg (cells8 ds)] w fun e w'=>e = .returned (.string dT)∧Below w.heap.size w w':=fun w=>by
    rw [hdT];exact text_any ds w hdl hdlt
   have HdT:=hide hdT
   have H18:=hide C18
   clear C18 hdT hdlt
   have i40:=i40len ds hdl
   have l40:(cells8 ds).toList.length=32:=by rw [Array.length_toList,cells8_size,hdl]
   have u40:=Tryz.underlying117
   have HE0:=hide hE0
   have HI2:=hide (HI.out.alloc (.cells (ecellsOf n1 ds z1) 193))
   clear hE0
   go_wp2_with (first|(refine wpList_load_mid rfl 193 _ rfl g (k * 34) rfl (ecellsOf n1 ds z1).toList _ HR.out Tryz.underlying193 rfl (by rw [Array.length_toList];exact size71 _ _ _ hdl) ?_)|(refine wpList_store_row rfl 193 _ _ rfl wr.heap.size _ rfl rfl 193 _ (heap_alloc_new _ _) (size71 _ _ _ hdl) (by rw [ecellsOf_size _ _ _ hdl,ecellsOf_size _ _ _ (Sha.zeros_len _)]) (Array.all_eq_true_iff_forall_mem.2 fun u hu=>ecellsOf_one _ _ _ u (by simpa using hu)) ?_;rw [World.setRow_alloc_new]))
   obtain ⟨w2,hw2⟩ : ∃ w2,w2=wr.alloc (.cells (ecellsOf n1 ds z1) 193):=⟨_,rfl⟩
   rw [← hw2]
   rw [← hw2] at HE0 HI2
   clear hw2
   have hE2:=HE0.out
   go_region_held3 (fun w'=>w'.cell? ⟨wr.heap.size,0,none⟩=some (.string n1)∧w'.rangeAt wr.heap.size 1 (cells8 ds).toList∧w'.cell? ⟨wr.heap.size,33,none⟩=some (.int .i64 z1))
    (first|exact (hE2.drew).out hdl|exact ((hE2.drew).later hT).out hdl|exact (((hE2.drew).later hT).later ((Below.refl _ _).alloc (Nat.le_refl _) _)).out hdl|exact ((((hE2.drew).later hT).later ((Below.refl _ _).alloc (Nat.le_refl _) _)).grown hgrow HI4.out (by decide) (Nat.le_refl _)).out hdl)
    (first|(go_at_call 66;refine (H18.out _).mono ?_;rintro _ w3 ⟨rfl,hT⟩)|(have HI4:=hide ((ownsRow_later (w:=w2.drew) HI2.out hT).alloc (.cells #[.string n1,.string dT,.int .i64 z1] 83));refine step_append_lies _ (by rfl) _ _ _ (by rfl) w.heap.size 83 i0 _ 3 40 Tryz.underlying79 hi hz0 hz1 hz2 (by rfl) (by decide) _ k _ (by rfl) HI4.out _ 1 1 [.string n1,.string dT,.int .i64 z1] (by rfl) (by rfl) (row_cells (heap_alloc_new _ _)) (tell_one n1 dT z1) (by decide) (by unfold maxLen;omega) (by omega) (Nat.le_trans ((hE2.drew).later hT).below.size (by simp)) _ rfl ?_;intro g2 cap2 w5 hown5 hgrow hat hlt5))
   go_wp2
   refine ⟨⟨k+1,by omega,by go_num,?_,?_⟩,by simp [intOf];omega⟩
   ·have e:=take_flat (l.map Tg.told) k (by rw [List.length_map,HN.out];exact hlt) Tg.cells
    have e2:(l.map Tg.told).getD k default=Tg.told ⟨n1,d1,z1⟩:=by
     rw [← HX.out]
     simp [List.getD_eq_getElem?_getD,show k<l.length by rw [HN.out];exact hlt]
    rw [e,e2]
    have e3:(Tg.told ⟨n1,d1,z1⟩).cells = [.string n1,.string dT,.int .i64 z1]:=by
     unfold Tg.told Tg.cells
     dsimp only
     rw [HD.out,HdT.out]
    rw [e3]
    exact hown5
   ·exact ((((hE2.drew).later hT).later ((Below.refl _ _).alloc (Nat.le_refl _) _)).grown hgrow HI4.out (by decide) (Nat.le_refl _)).below
  ·have hkn:k=n:=by omega
   subst hkn
   go_wp2
   go_ret
   refine ⟨hbel,_,rfl,?_⟩
   have h:=HI.out
   rwa [List.take_of_length_le (by rw [List.length_map,HN.out];exact Nat.le_refl _)] at h
set_option maxHeartbeats 2000000
set_option maxRecDepth 100000
open Go.RowKit
def En.tg (e:En):Tg:=⟨e.name,e.dig,e.size⟩
theorem ecells_tg (es:List En):es.flatMap En.ecells=(es.map En.tg).flatMap Tg.ecells:=by
 induction es with
 | nil=>rfl
 | cons e es ih=>rw [List.flatMap_cons,List.map_cons,List.flatMap_cons,ih];rfl
theorem parseC_any (bt bn:Nat) (t:ByteArray) (w:World) (h0:w.heap[bt]? = some (.cells #[.string t] 9 (0,0))) (h1:w.heap[bn]? = some (.cells #[.slice none 0 0] 138 (0,0))) (ht:t.size≤2000) :
  Calls Tryz.prog 81 #[.pointer (some ⟨bt,0,none⟩),.pointer (some ⟨bn,0,none⟩)] w fun e w'=>Gr (fun k=>k=bn) w w' ∧
   ((∃ es c v,readS t = .ok es c∧e = .returned (.tuple #[])∧w'.heap[bn]? = some (.cells #[v] 138 (0,0))∧w'.ownsRow w.heap.size 193 34 v es.length (es.flatMap En.ecells)∧es.length≤8) ∨
    (∃ p,readS t = .bad p∧e=gaveUp p∧w'.heap[bn]? = some (.cells #[.slice none 0 0] 138 (0,0)))):=by
 have c0:=cell_of_row w bt 0 _ _ _ h0
 have hl:=lt_heap h1
 have H1:=hide h1
 clear h0 h1
 go_enter Tryz.func81,Tryz.ntmps81
 go_wp2_with fail
 refine (readI_core t w ht).mono ?_
 rintro e w1 ⟨hb1,(⟨es,c,v,hm1,rfl,hown,hl8⟩|⟨p,hm1,rfl⟩)⟩
 ·dsimp only
  obtain ⟨oa,cap,rfl⟩:=own_slice hown
  have hbn:=(hb1.block bn hl).trans H1.out
  have c2:=cell_of_row w1 bn 0 _ _ _ hbn
  have f2:=frozen_of_row w1 bn 0 _ _ hbn
  have HBN:=hide hbn
  have HOWN:=hide hown
  have HM1:=hide hm1
  clear hbn hown hm1
  go_wp2_with fail
  go_end0
  refine ⟨(Gr.of_below hb1).trans (Gr.of_grownBy (grownBy_set w1 bn 0 _) rfl),Or.inl ⟨es,c,_,HM1.out,rfl,row_store (i:=0) _ HBN.out,ownsRow_other HOWN.out fun k hk=>?_,hl8⟩⟩
  exact heap_setCell_other _ _ _ _ (fun e=>own_ne HOWN.out HBN.out (by decide) (by rw [hk];exact congrArg some e))
 ·dsimp only [gaveUp]
  exact ⟨rfl,Gr.of_below hb1,Or.inr ⟨p,hm1,rfl,(hb1.block bn hl).trans H1.out⟩⟩
theorem allocs2 (w W:World) (o0 o1:Obj) (hW:W=(w.alloc o0).alloc o1):W.heap.size=w.heap.size+2∧W.heap[w.heap.size]? = some o0∧W.heap[w.heap.size+1]? = some o1∧Below w.heap.size w W:=by
 subst hW
 refine ⟨by simp,(Below.heap_alloc _ _ _ (by simp)).trans (heap_alloc_new _ _),?_,((Below.refl _ _).alloc (Nat.le_refl _) _).alloc (by simp) _⟩
 have h:=heap_alloc_new (w.alloc o0) o1
 simp only [size_alloc] at h
 exact h
theorem own_set2 {base:Nat} {e:TypeId} {size n:Nat} {v:Value} {xs:List Value} {w:World} (ho:w.ownsRow base e size v n xs) (g h:Nat) (hg:g<base) (hh:h<base) (x y:Value):((w.setCell ⟨g,0,none⟩ x).setCell ⟨h,0,none⟩ y).ownsRow base e size v n xs :=
 ownsRow_other ho fun k hk=>by
  have:=(ho.lt k hk).1
  rw [heap_setCell_other _ _ _ _ (show k≠h by omega),heap_setCell_other _ _ _ _ (show k≠g by omega)]
theorem below_set2 {B g h:Nat} {w W:World} (hb:Below B w W) (hg:B≤g) (hh:B≤h) (x y:Value):Below B w ((W.setCell ⟨g,0,none⟩ x).setCell ⟨h,0,none⟩ y) :=
 (hb.setCell (p:=⟨g,0,none⟩) hg x).setCell (p:=⟨h,0,none⟩) hh y
theorem parse_any (t:ByteArray) (w:World) (ht:t.size≤2000) :
  Calls Tryz.prog 44 #[.string t] w fun e w'=>Below w.heap.size w w'∧∃ v,
   ((∃ es c,readS t = .ok es c∧e = .returned (.tuple #[v,.int .i64 0,.int .i64 0])∧w'.ownsRow w.heap.size 83 3 v es.length (((es.map En.tg).map Tg.told).flatMap Tg.cells)∧es.length≤8) ∨
    (∃ p,readS t = .bad p∧e = .returned (.tuple #[v,.int .i64 7,.int .i64 ((p:Nat):Int)])∧w'.ownsRow w.heap.size 83 3 v 0 [])):=by
 have h1:¬ 2000<(t.size:Int):=by omega
 have hmf:∀ (fn:Fn) (first cap:Array Value) (w:World),(Instr.makeFunc fn first cap).run Tryz.prog w = .ok (.func fn first cap) w:=fun _ _ _ _=>rfl
 go_enter Tryz.func44,Tryz.ntmps44
 go_wp2_with fail
 obtain ⟨W0,hW0⟩ : ∃ W0,W0=(w.alloc (.cells #[.string t] 9)).alloc (.cells #[.slice none 0 0] 138):=⟨_,rfl⟩
 rw [← hW0]
 obtain ⟨hz,r0,r1,hB⟩:=allocs2 _ _ _ _ hW0
 clear hW0
 have hz2:w.heap.size+2≤W0.heap.size:=by omega
 clear hz
 have hcall:=reading_any 81 #[.pointer (some ⟨w.heap.size,0,none⟩),.pointer (some ⟨w.heap.size+1,0,none⟩)] W0
  (fun W=>∃ es c v,readS t = .ok es c∧W.heap[w.heap.size+1]? = some (.cells #[v] 138 (0,0))∧W.ownsRow (W0.heap.size+2) 193 34 v es.length (es.flatMap En.ecells)∧es.length≤8∧Gr (fun k=>k=w.heap.size+1) W0 W)
  (fun p W=>readS t = .bad p∧W.heap[w.heap.size+1]? = some (.cells #[.slice none 0 0] 138 (0,0))∧Gr (fun k=>k=w.heap.size+1) W0 W)
  (enters_of Tryz.func81 (by kernel_rfl) rfl) (by
   obtain ⟨W2,hW2⟩ : ∃ W2,W2=(W0.alloc (.cells #[.int .i64 0] 27)).alloc (.cells #[.int .i64 0] 3):=⟨_,rfl⟩
   rw [← hW2]
   obtain ⟨hy,q0,q1,hB2⟩:=allocs2 _ _ _ _ hW2
   refine (parseC_any w.heap.size (w.heap.size+1) t W2 ((hB2.block _ (by omega)).trans r0) ((hB2.block _ (by omega)).trans r1) ht).mono ?_
   rintro e W ⟨hg,h⟩
   refine ⟨⟨(hg.block _ (by omega) (by omega)).trans q0,(hg.block _ (by omega) (by omega)).trans q1⟩,?_⟩
   have hgw:=Gr.after_below hB2 hg (S:=fun k=>k=w.heap.size+1) (fun k _ h=>h)
   rcases h with ⟨es,c,v,a1,a2,a3,a4,a5⟩|⟨p,a1,a2,a3⟩
   ·exact Or.inl ⟨a2,es,c,v,a1,a3,by rw [hy] at a4;exact a4,a5,hgw⟩
   ·exact Or.inr ⟨p,a2,a1,a3,hgw⟩)
 refine hcall.mono ?_
 clear hcall r0 r1
 rintro e w' (⟨W,⟨es,c,v,a1,a3,a4,a5,a6⟩,rfl,rfl⟩|⟨p,W,⟨a1,a3,a6⟩,rfl,rfl⟩)
 ·dsimp only
  obtain ⟨oa,cap,rfl⟩:=own_slice a4
  have hbW:Below w.heap.size w ((W.setCell ⟨W0.heap.size,0,none⟩ (.int .i64 0)).setCell ⟨W0.heap.size+1,0,none⟩ (.int .i64 0)):=below_set2 (below_two hB a6 (by intro k hk;omega)) (by omega) (by omega) _ _
  have hown:=own_set2 a4 W0.heap.size (W0.heap.size+1) (by omega) (by omega) (.int .i64 0) (.int .i64 0)
  have hrow:((W.setCell ⟨W0.heap.size,0,none⟩ (.int .i64 0)).setCell ⟨W0.heap.size+1,0,none⟩ (.int .i64 0)).heap[w.heap.size+1]? = some (.cells #[.slice oa es.length cap] 138 (0,0)):=by
   rw [heap_setCell_other _ _ _ _ (by show w.heap.size+1≠W0.heap.size+1;omega),heap_setCell_other _ _ _ _ (by show w.heap.size+1≠W0.heap.size;omega)]
   exact a3
  generalize (W.setCell ⟨W0.heap.size,0,none⟩ (.int .i64 0)).setCell ⟨W0.heap.size+1,0,none⟩ (.int .i64 0)=W5 at hbW hown hrow ⊢
  have c1:=cell_of_row W5 _ 0 _ _ _ hrow
  have HOWN:=hide hown
  have HBW:=hide hbW
  have HA1:=hide a1
  clear hown hbW hrow a1 a3 a4 a6 hB
  go_wp2_with fail
  rw [ecells_tg] at HOWN
  refine (tagsOf_core _ (es.map En.tg) W5 es.length (by simp) a5 _ HOWN.out).mono ?_
  rintro e w7 ⟨hb7,v',rfl,hown7⟩
  dsimp only
  have HB7:=hide (HBW.out.trans (hb7.mono HBW.out.size))
  have HO7:=hide (own_mono hown7 HBW.out.size)
  clear hb7 hown7
  go_wp2_with fail
  go_ret3
  exact ⟨HB7.out,v',Or.inl ⟨es,c,HA1.out,rfl,HO7.out,a5⟩⟩
 ·dsimp only
  have hbW:Below w.heap.size w ((W.setCell ⟨W0.heap.size,0,none⟩ (.int .i64 7)).setCell ⟨W0.heap.size+1,0,none⟩ (.int .i64 ((p:Nat):Int))):=below_set2 (below_two hB a6 (by intro k hk;omega)) (by omega) (by omega) _ _
  have hrow:((W.setCell ⟨W0.heap.size,0,none⟩ (.int .i64 7)).setCell ⟨W0.heap.size+1,0,none⟩ (.int .i64 ((p:Nat):Int))).heap[w.heap.size+1]? = some (.cells #[.slice none 0 0] 138 (0,0)):=by
   rw [heap_setCell_other _ _ _ _ (by show w.heap.size+1≠W0.heap.size+1;omega),heap_setCell_other _ _ _ _ (by show w.heap.size+1≠W0.heap.size;omega)]
   exact a3
  generalize (W.setCell ⟨W0.heap.size,0,none⟩ (.int .i64 7)).setCell ⟨W0.heap.size+1,0,none⟩ (.int .i64 ((p:Nat):Int))=W5 at hbW hrow ⊢
  have c1:=cell_of_row W5 _ 0 _ _ _ hrow
  have HBW:=hide hbW
  have HA1:=hide a1
  clear hbW hrow a1 a3 a6 hB
  go_wp2_with fail
  refine (tagsOf_core (.slice none 0 0) [] W5 0 rfl (by decide) 0 (World.ownsRow_nil _ _ _ _)).mono ?_
  rintro e w7 ⟨hb7,v',rfl,hown7⟩
  dsimp only
  have HB7:=hide (HBW.out.trans (hb7.mono HBW.out.size))
  have HO7:=hide (own_mono hown7 HBW.out.size)
  clear hb7 hown7
  go_wp2_with fail
  go_ret3
  exact ⟨HB7.out,v',Or.inr ⟨p,HA1.out,rfl,HO7.out⟩⟩
end Go.Proofs.YtncigfibncmioaaGreatDoor
