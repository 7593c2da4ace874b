/-
  PROVED HERE: what the program's function Tags of package index answers: the list of tags of the entries, in memory of its own.
-/
import Derived.Test.YtncigfibncmioaaGreatDoorIdxRd
import Derived.Deep.AppendLies
import Derived.Deep.RegionHeld3
namespace Go.Proofs.YtncigfibncmioaaGreatDoor
set_option maxHeartbeats 2000000
set_option maxRecDepth 100000
open Go.RowKit
def Tg.told (t:Tg):Tg:=⟨t.name,⟨(Sha.textTo (rd t.dig) 32).toArray⟩,t.size⟩
theorem Tryz.info26c:(Tryz.prog.info? 83).map (fun i=>(i.zero,i.size,i.bytes))=some (some (.agg #[.string ⟨#[]⟩,.string ⟨#[]⟩,.int .i64 0]),3,40):=by kernel_rfl
theorem Ent.grown {w0 w w':World} {b:Nat} {n:ByteArray} {ds:List Nat} {z:Int} {base:Nat} {e:TypeId} {size m:Nat} {v:Value} {xs:List Value} (h:Ent w0 w b n ds z) (hg:w.grownBy w' v.ownBlock) (ho:w.ownsRow base e size v m xs) (hne:193≠e) (hB:w0.heap.size≤base):Ent w0 w' b n ds z :=
 ⟨grown_keeps hg h.row (own_ne ho h.row hne),grown_below h.below hg ho hB h.below.size⟩
theorem tell_one (n d:ByteArray) (z:Int):∀ u∈[Value.string n,Value.string d,Value.int .i64 z],u.oneCell'=true:=by
 intro u hu
 simp only [List.mem_cons,List.not_mem_nil,or_false] at hu
 rcases hu with rfl|rfl|rfl<;>rfl
theorem tagsOf_core (v:Value) (l:List Tg) (w:World) (n:Nat) (hn:l.length=n) (h8:n≤8) (B:Nat) (hown:w.ownsRow B 193 34 v n (l.flatMap Tg.ecells)) :
  Calls Tryz.prog 78 #[v] w fun e w'=>Below w.heap.size w w'∧∃ v',e = .returned v'∧w'.ownsRow w.heap.size 83 3 v' n ((l.map Tg.told).flatMap Tg.cells):=by
 have HN:=hide hn
 have HO:=hide hown
 clear hn hown
 have hz71:=(zero_of_info Tryz.info71b).1
 obtain ⟨i0,hi,hz0,hz1,hz2⟩:=info_parts Tryz.info26c
 obtain ⟨oa,cap,rfl⟩:=own_slice HO.out
 go_enter Tryz.func78,Tryz.ntmps78
 go_wp2
 go_loopw [3,8] (fun v i wr=>∃ k:Nat,k≤n∧i = .int .i64 ((k:Nat):Int)∧wr.ownsRow w.heap.size 83 3 v k (((l.map Tg.told).take k).flatMap Tg.cells)∧Below w.heap.size w wr)
  (fun _ i _=>n - (intOf i).toNat)
 case atStart=>exact ⟨0,Nat.zero_le _,rfl,World.ownsRow_nil _ _ _ _,Below.refl _ _⟩
 case round =>
  obtain ⟨k,hk,rfl,hI,hbel⟩:=hrel
  have HI:=hide hI
  clear hI
  by_cases hlt:k<n
  ·have hbs:=hbel.size
   obtain ⟨g,rfl⟩ : ∃ g,oa=some ⟨g,0,none⟩:=by
    rcases HO.out.2 with ⟨e,h0⟩|⟨g,cap',cur,e,_⟩
    ·omega
    ·injection e with e1 _ _;exact ⟨g,e1⟩
   have hr:=rangeAt_later hbel (ecells_range HO.out k (by rw [HN.out];exact hlt))
   generalize hx:l.getD k default=tx at hr
   have HX:=hide hx
   clear hx
   obtain ⟨n1,d1,z1⟩:=tx
   have hrd:Tg.ecells ⟨n1,d1,z1⟩=(ecellsOf n1 (rd d1) z1).toList:=rfl
   rw [hrd] at hr
   clear hrd
   generalize hd:rd d1=ds at hr
   have hdl:ds.length=32:=by rw [← hd];exact rd_len _
   have hdlt:∀ i,ds.getD i 0<256:=by rw [← hd];exact rd_lt _
   have HD:=hide hd
   clear hd
   have HR:=hide hr
   clear hr
   have hE0:Ent w (wr.alloc (.cells (ecellsOf n1 ds z1) 193)) wr.heap.size n1 ds z1:=⟨heap_alloc_new _ _,hbel.alloc hbs _⟩
   obtain ⟨dT,hdT⟩ : ∃ dT:ByteArray,dT=⟨(Sha.textTo ds 32).toArray⟩:=⟨_,rfl⟩
   have C18:∀ w,Calls Tryz.prog 66 #[.agg (cells8 ds)] w fun e w'=>e = .returned (.string dT)∧Below w.heap.size w w':=fun w=>by
    rw [hdT];exact text_any ds w hdl hdlt
   have HdT:=hide hdT
   have H18:=hide C18
   clear C18 hdT hdlt
   have i40:=i40len ds hdl
   have l40:(cells8 ds).toList.length=32:=by rw [Array.length_toList,cells8_size,hdl]
   have u40:=Tryz.underlying117
   have HE0:=hide hE0
   have HI2:=hide (HI.out.alloc (.cells (ecellsOf n1 ds z1) 193))
   clear hE0
   go_wp2_with (first|(refine wpList_load_mid rfl 193 _ rfl g (k * 34) rfl (ecellsOf n1 ds z1).toList _ HR.out Tryz.underlying193 rfl (by rw [Array.length_toList];exact size71 _ _ _ hdl) ?_)|(refine wpList_store_row rfl 193 _ _ rfl wr.heap.size _ rfl rfl 193 _ (heap_alloc_new _ _) (size71 _ _ _ hdl) (by rw [ecellsOf_size _ _ _ hdl,ecellsOf_size _ _ _ (Sha.zeros_len _)]) (Array.all_eq_true_iff_forall_mem.2 fun u hu=>ecellsOf_one _ _ _ u (by simpa using hu)) ?_;rw [World.setRow_alloc_new]))
   obtain ⟨w2,hw2⟩ : ∃ w2,w2=wr.alloc (.cells (ecellsOf n1 ds z1) 193):=⟨_,rfl⟩
   rw [← hw2]
   rw [← hw2] at HE0 HI2
   clear hw2
   have hE2:=HE0.out
   go_region_held3 (fun w'=>w'.cell? ⟨wr.heap.size,0,none⟩=some (.string n1)∧w'.rangeAt wr.heap.size 1 (cells8 ds).toList∧w'.cell? ⟨wr.heap.size,33,none⟩=some (.int .i64 z1))
    (first|exact (hE2.drew).out hdl|exact ((hE2.drew).later hT).out hdl|exact (((hE2.drew).later hT).later ((Below.refl _ _).alloc (Nat.le_refl _) _)).out hdl|exact ((((hE2.drew).later hT).later ((Below.refl _ _).alloc (Nat.le_refl _) _)).grown hgrow HI4.out (by decide) (Nat.le_refl _)).out hdl)
    (first|(go_at_call 66;refine (H18.out _).mono ?_;rintro _ w3 ⟨rfl,hT⟩)|(have HI4:=hide ((ownsRow_later (w:=w2.drew) HI2.out hT).alloc (.cells #[.string n1,.string dT,.int .i64 z1] 83));refine step_append_lies _ (by rfl) _ _ _ (by rfl) w.heap.size 83 i0 _ 3 40 Tryz.underlying79 hi hz0 hz1 hz2 (by rfl) (by decide) _ k _ (by rfl) HI4.out _ 1 1 [.string n1,.string dT,.int .i64 z1] (by rfl) (by rfl) (row_cells (heap_alloc_new _ _)) (tell_one n1 dT z1) (by decide) (by unfold maxLen;omega) (by omega) (Nat.le_trans ((hE2.drew).later hT).below.size (by simp)) _ rfl ?_;intro g2 cap2 w5 hown5 hgrow hat hlt5))
   go_wp2
   refine ⟨⟨k+1,by omega,by go_num,?_,?_⟩,by simp [intOf];omega⟩
   ·have e:=take_flat (l.map Tg.told) k (by rw [List.length_map,HN.out];exact hlt) Tg.cells
    have e2:(l.map Tg.told).getD k default=Tg.told ⟨n1,d1,z1⟩:=by
     rw [← HX.out]
     simp [List.getD_eq_getElem?_getD,show k<l.length by rw [HN.out];exact hlt]
    rw [e,e2]
    have e3:(Tg.told ⟨n1,d1,z1⟩).cells = [.string n1,.string dT,.int .i64 z1]:=by
     unfold Tg.told Tg.cells
     dsimp only
     rw [HD.out,HdT.out]
    rw [e3]
    exact hown5
   ·exact ((((hE2.drew).later hT).later ((Below.refl _ _).alloc (Nat.le_refl _) _)).grown hgrow HI4.out (by decide) (Nat.le_refl _)).below
  ·have hkn:k=n:=by omega
   subst hkn
   go_wp2
   go_ret
   refine ⟨hbel,_,rfl,?_⟩
   have h:=HI.out
   rwa [List.take_of_length_le (by rw [List.length_map,HN.out];exact Nat.le_refl _)] at h
end Go.Proofs.YtncigfibncmioaaGreatDoor
