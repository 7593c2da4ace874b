/-
  PROVED HERE: what the program's function Tags of package index answers: the list of tags of the entries, in memory of its own.
-/
import Derived.Test.YtncigfibncmioaaGreatDoorIdxRd
import Derived.Deep.AppendLies
set_option maxHeartbeats 2000000
set_option maxRecDepth 100000
namespace Go.Proofs.YtncigfibncmioaaGreatDoor
open Go.RowKit
def Tg.told (t:Tg):Tg:=⟨t.name,⟨(Sha.aM (rd t.dig) 32).toArray⟩,t.size⟩
theorem Tryz.Db:(Tryz.prog.info? 83).map (fun i=>(i.zero,i.size,i.bytes))=some (some (.agg #[.string ⟨#[]⟩,.string ⟨#[]⟩,.int .i64 0]),3,40):=by kernel_rfl
theorem nT.grown {w0 w w':World} {b:Nat} {n:ByteArray} {ds:List Nat} {z:Int} {base:Nat} {e:TypeId} {size m:Nat} {v:Value} {xs:List Value} (h:nT w0 w b n ds z) (hg:w.grownBy w' v.ownBlock) (ho:w.ownsRow base e size v m xs) (hne:193≠e) (hB:w0.heap.size<=base):nT w0 w' b n ds z :=
 ⟨Rk hg h.row (Ko ho h.row hne),Yf h.below hg ho hB h.below.size⟩
theorem Qrf (n d:ByteArray) (z:Int):∀ u∈[Value.string n,Value.string d,Value.int .i64 z],u.oneCell'=true:=by
 intro u hu;simp only [List.mem_cons,List.not_mem_nil,or_false] at hu
 rcases hu with rfl|rfl|rfl<;>rfl
theorem Rc (v:Value) (l:List Tg) (w:World) (n:Nat) (hn:l.length=n) (h8:n<=8) (B:Nat) (hown:w.ownsRow B 193 34 v n (l.flatMap Tg.aP)) :
  Calls Tryz.prog 78 #[v] w fun e w'=>Below w.heap.size w w'/\∃ v',e = .returned v'/\w'.ownsRow w.heap.size 83 3 v' n ((l.map Tg.told).flatMap Tg.cells):=by
 have HN:=aa hn;have HO:=aa hown;clear hn hown;have ji:=(zero_of_info Tryz.cY).1;obtain ⟨i0,hi,hz0,hz1,hz2⟩:=info_parts Tryz.Db;obtain ⟨oa,cap,rfl⟩:=I3 HO.out;go_enter Tryz.func78,Tryz.ntmps78;go_wp2
 go_loopw [3,8] (fun v i wr=>∃ k:Nat,k<=n/\i = .int .i64 ((k:Nat):Int)/\wr.ownsRow w.heap.size 83 3 v k (((l.map Tg.told).take k).flatMap Tg.cells)/\Below w.heap.size w wr)
  (fun _ i _=>n - (intOf i).toNat)
 case atStart=>exact ⟨0,Nat.zero_le _,rfl,World.ownsRow_nil _ _ _ _,Below.refl _ _⟩
 case round =>
  obtain ⟨k,hk,rfl,hI,ik⟩:=hrel;have HI:=aa hI;clear hI
  by_cases hlt:k<n
  ·have kL:=ik.size;obtain ⟨g,rfl⟩ : ∃ g,oa=some ⟨g,0,none⟩:=by
    rcases HO.out.2 with ⟨e,h0⟩|⟨g,cap',cur,e,_⟩
    ·omega
    ·injection e with e1 _ _;exact ⟨g,e1⟩
   have hr:=rangeAt_later ik (QfL HO.out k (by rw [HN.out];exact hlt));generalize hx:l.getD k default=tx at hr;have HX:=aa hx;clear hx;obtain ⟨n1,d1,z1⟩:=tx;have eo:Tg.aP ⟨n1,d1,z1⟩=(aT n1 (rd d1) z1).toList:=rfl;rw [eo] at hr;clear eo;generalize hd:rd d1=ds at hr;have a8:ds.length=32:=by rw [<- hd];exact jm _
   have zu:∀ i,ds.getD i 0<256:=by rw [<- hd];exact sA _
   have HD:=aa hd;clear hd;have HR:=aa hr;clear hr;have LU:nT w (wr.alloc (.cells (aT n1 ds z1) 193)) wr.heap.size n1 ds z1:=⟨heap_alloc_new _ _,ik.alloc kL _⟩;obtain ⟨dT,Ec⟩ : ∃ dT:ByteArray,dT=⟨(Sha.aM ds 32).toArray⟩:=⟨_,rfl⟩;have LW:∀ w,Calls Tryz.prog 66 #[.agg (ah ds)] w fun e w'=>e = .returned (.string dT)/\Below w.heap.size w w':=fun w=>by
    rw [Ec];exact IU ds w a8 zu
   have Pe:=aa Ec;have Pf:=aa LW;clear LW Ec zu;have i40:=QrL ds a8;have l40:(ah ds).toList.length=32:=by rw [Array.length_toList,aY,a8]
   have u40:=Tryz.underlying117;have Jo:=aa LU;have nk:=aa (HI.out.alloc (.cells (aT n1 ds z1) 193));clear LU;go_wp2_with (first|(refine wpList_load_mid rfl 193 _ rfl g (k * 34) rfl (aT n1 ds z1).toList _ HR.out Tryz.underlying193 rfl (by rw [Array.length_toList];exact gW _ _ _ a8) ?_)|(refine wpList_store_row rfl 193 _ _ rfl wr.heap.size _ rfl rfl 193 _ (heap_alloc_new _ _) (gW _ _ _ a8) (by rw [eh _ _ _ a8,eh _ _ _ (Sha.af _)]) (Array.all_eq_true_iff_forall_mem.2 fun u hu=>mj _ _ _ u (by simpa using hu)) ?_;rw [World.setRow_alloc_new]));obtain ⟨w2,hw2⟩ : ∃ w2,w2=wr.alloc (.cells (aT n1 ds z1) 193):=⟨_,rfl⟩;rw [<- hw2];rw [<- hw2] at Jo nk;clear hw2;have mO:=Jo.out
   go_region_held3 (fun w'=>w'.cell? ⟨wr.heap.size,0,none⟩=some (.string n1)/\w'.rangeAt wr.heap.size 1 (ah ds).toList/\w'.cell? ⟨wr.heap.size,33,none⟩=some (.int .i64 z1))
    (first|exact (mO.drew).out a8|exact ((mO.drew).later hT).out a8|exact (((mO.drew).later hT).later ((Below.refl _ _).alloc (Nat.le_refl _) _)).out a8|exact ((((mO.drew).later hT).later ((Below.refl _ _).alloc (Nat.le_refl _) _)).grown hgrow VK.out (by decide) (Nat.le_refl _)).out a8)
    (first|(go_at_call 66;refine (Pf.out _).mono ?_;rintro _ w3 ⟨rfl,hT⟩)|(have VK:=aa ((gA (w:=w2.drew) nk.out hT).alloc (.cells #[.string n1,.string dT,.int .i64 z1] 83));refine step_append_lies _ (by rfl) _ _ _ (by rfl) w.heap.size 83 i0 _ 3 40 Tryz.underlying79 hi hz0 hz1 hz2 (by rfl) (by decide) _ k _ (by rfl) VK.out _ 1 1 [.string n1,.string dT,.int .i64 z1] (by rfl) (by rfl) (Kb (heap_alloc_new _ _)) (Qrf n1 dT z1) (by decide) (by unfold maxLen;omega) (by omega) (Nat.le_trans ((mO.drew).later hT).below.size (by simp)) _ rfl ?_;intro g2 pk w5 cU hgrow hat Ln))
   go_wp2;refine ⟨⟨k+1,by omega,by go_num,?_,?_⟩,by simp [intOf];omega⟩
   ·have e:=Ye (l.map Tg.told) k (by rw [List.length_map,HN.out];exact hlt) Tg.cells;have e2:(l.map Tg.told).getD k default=Tg.told ⟨n1,d1,z1⟩:=by
     rw [<- HX.out];simp [List.getD_eq_getElem?_getD,show k<l.length by rw [HN.out];exact hlt]
    rw [e,e2];have e3:(Tg.told ⟨n1,d1,z1⟩).cells = [.string n1,.string dT,.int .i64 z1]:=by
     unfold Tg.told Tg.cells;dsimp only;rw [HD.out,Pe.out]
    rw [e3];exact cU
   ·exact ((((mO.drew).later hT).later ((Below.refl _ _).alloc (Nat.le_refl _) _)).grown hgrow VK.out (by decide) (Nat.le_refl _)).below
  ·have wO:k=n:=by omega
   subst wO;go_wp2;go_ret;refine ⟨ik,_,rfl,?_⟩;have h:=HI.out;rwa [List.take_of_length_le (by rw [List.length_map,HN.out];exact Nat.le_refl _)] at h
open Go.RowKit
def En.tg (e:En):Tg:=⟨e.name,e.dig,e.size⟩
theorem QnW (es:List En):es.flatMap En.aP=(es.map En.tg).flatMap Tg.aP:=by
 induction es with
 | nil=>rfl
 | cons e es ih=>rw [List.flatMap_cons,List.map_cons,List.flatMap_cons,ih];rfl
theorem QmF (bt bn:Nat) (t:ByteArray) (w:World) (h0:w.heap[bt]? = some (.cells #[.string t] 9 (0,0))) (h1:w.heap[bn]? = some (.cells #[.slice none 0 0] 138 (0,0))) (ht:t.size<=2000) :
  Calls Tryz.prog 81 #[.pointer (some ⟨bt,0,none⟩),.pointer (some ⟨bn,0,none⟩)] w fun e w'=>Gr (fun k=>k=bn) w w' /\
   ((∃ es c v,kT t = .ok es c/\e = .returned (.tuple #[])/\w'.heap[bn]? = some (.cells #[v] 138 (0,0))/\w'.ownsRow w.heap.size 193 34 v es.length (es.flatMap En.aP)/\es.length<=8) ∨
    (∃ p,kT t = .bad p/\e=bE p/\w'.heap[bn]? = some (.cells #[.slice none 0 0] 138 (0,0)))):=by
 have c0:=cell_of_row w bt 0 _ _ _ h0;have hl:=ax h1;have H1:=aa h1;clear h0 h1;go_enter Tryz.func81,Tryz.ntmps81;go_wp2_with fail;refine (Zq t w ht).mono ?_;rintro e w1 ⟨hb1,(⟨es,c,v,et,rfl,hown,Fv⟩|⟨p,et,rfl⟩)⟩
 ·dsimp only;obtain ⟨oa,cap,rfl⟩:=I3 hown;have nJ:=(hb1.block bn hl).trans H1.out;have c2:=cell_of_row w1 bn 0 _ _ _ nJ;have f2:=frozen_of_row w1 bn 0 _ _ nJ;have Lh:=aa nJ;have jk:=aa hown;have BB:=aa et;clear nJ hown et;go_wp2_with fail
  go_end0
  refine ⟨(Gr.ae hb1).trans (Gr.of_grownBy (nE w1 bn 0 _) rfl),Or.inl ⟨es,c,_,BB.out,rfl,yf (i:=0) _ Lh.out,Kq jk.out fun k hk=>?_,Fv⟩⟩;exact heap_setCell_other _ _ _ _ (fun e=>Ko jk.out Lh.out (by decide) (by rw [hk];exact congrArg some e))
 ·dsimp only [bE];exact ⟨rfl,Gr.ae hb1,Or.inr ⟨p,et,rfl,(hb1.block bn hl).trans H1.out⟩⟩
theorem Zr (w W:World) (o0 o1:Obj) (hW:W=(w.alloc o0).alloc o1):W.heap.size=w.heap.size+2/\W.heap[w.heap.size]? = some o0/\W.heap[w.heap.size+1]? = some o1/\Below w.heap.size w W:=by
 subst hW;refine ⟨by simp,(Below.heap_alloc _ _ _ (by simp)).trans (heap_alloc_new _ _),?_,((Below.refl _ _).alloc (Nat.le_refl _) _).alloc (by simp) _⟩;have h:=heap_alloc_new (w.alloc o0) o1;simp only [size_alloc] at h;exact h
theorem Qp9 {base:Nat} {e:TypeId} {size n:Nat} {v:Value} {xs:List Value} {w:World} (ho:w.ownsRow base e size v n xs) (g h:Nat) (hg:g<base) (hh:h<base) (x y:Value):((w.setCell ⟨g,0,none⟩ x).setCell ⟨h,0,none⟩ y).ownsRow base e size v n xs :=
 Kq ho fun k hk=>by
  have:=(ho.lt k hk).1;rw [heap_setCell_other _ _ _ _ (show k≠h by omega),heap_setCell_other _ _ _ _ (show k≠g by omega)]
theorem Zs {B g h:Nat} {w W:World} (hb:Below B w W) (hg:B<=g) (hh:B<=h) (x y:Value):Below B w ((W.setCell ⟨g,0,none⟩ x).setCell ⟨h,0,none⟩ y) :=
 (hb.setCell (p:=⟨g,0,none⟩) hg x).setCell (p:=⟨h,0,none⟩) hh y
theorem QnY (t:ByteArray) (w:World) (ht:t.size<=2000) :
  Calls Tryz.prog 44 #[.string t] w fun e w'=>Below w.heap.size w w'/\∃ v,
   ((∃ es c,kT t = .ok es c/\e = .returned (.tuple #[v,.int .i64 0,.int .i64 0])/\w'.ownsRow w.heap.size 83 3 v es.length (((es.map En.tg).map Tg.told).flatMap Tg.cells)/\es.length<=8) ∨
    (∃ p,kT t = .bad p/\e = .returned (.tuple #[v,.int .i64 7,.int .i64 ((p:Nat):Int)])/\w'.ownsRow w.heap.size 83 3 v 0 [])):=by
 have h1:¬ 2000<(t.size:Int):=by omega
 have Fb:∀ (fn:Fn) (first cap:Array Value) (w:World),(Instr.makeFunc fn first cap).run Tryz.prog w = .ok (.func fn first cap) w:=fun _ _ _ _=>rfl
 go_enter Tryz.func44,Tryz.ntmps44;go_wp2_with fail;obtain ⟨W0,hW0⟩ : ∃ W0,W0=(w.alloc (.cells #[.string t] 9)).alloc (.cells #[.slice none 0 0] 138):=⟨_,rfl⟩;rw [<- hW0];obtain ⟨hz,r0,r1,hB⟩:=Zr _ _ _ _ hW0;clear hW0;have hz2:w.heap.size+2<=W0.heap.size:=by omega
 clear hz;have bS:=XD 81 #[.pointer (some ⟨w.heap.size,0,none⟩),.pointer (some ⟨w.heap.size+1,0,none⟩)] W0
  (fun W=>∃ es c v,kT t = .ok es c/\W.heap[w.heap.size+1]? = some (.cells #[v] 138 (0,0))/\W.ownsRow (W0.heap.size+2) 193 34 v es.length (es.flatMap En.aP)/\es.length<=8/\Gr (fun k=>k=w.heap.size+1) W0 W)
  (fun p W=>kT t = .bad p/\W.heap[w.heap.size+1]? = some (.cells #[.slice none 0 0] 138 (0,0))/\Gr (fun k=>k=w.heap.size+1) W0 W)
  (enters_of Tryz.func81 (by kernel_rfl) rfl) (by
   obtain ⟨W2,hW2⟩ : ∃ W2,W2=(W0.alloc (.cells #[.int .i64 0] 27)).alloc (.cells #[.int .i64 0] 3):=⟨_,rfl⟩;rw [<- hW2];obtain ⟨hy,q0,q1,km⟩:=Zr _ _ _ _ hW2;refine (QmF w.heap.size (w.heap.size+1) t W2 ((km.block _ (by omega)).trans r0) ((km.block _ (by omega)).trans r1) ht).mono ?_;rintro e W ⟨hg,h⟩;refine ⟨⟨(hg.block _ (by omega) (by omega)).trans q0,(hg.block _ (by omega) (by omega)).trans q1⟩,?_⟩;have KN:=Gr.eV km hg (S:=fun k=>k=w.heap.size+1) (fun k _ h=>h)
   rcases h with ⟨es,c,v,a1,a2,a3,a4,a5⟩|⟨p,a1,a2,a3⟩
   ·exact Or.inl ⟨a2,es,c,v,a1,a3,by rw [hy] at a4;exact a4,a5,KN⟩
   ·exact Or.inr ⟨p,a2,a1,a3,KN⟩)
 refine bS.mono ?_;clear bS r0 r1;rintro e w' (⟨W,⟨es,c,v,a1,a3,a4,a5,a6⟩,rfl,rfl⟩|⟨p,W,⟨a1,a3,a6⟩,rfl,rfl⟩)
 ·dsimp only;obtain ⟨oa,cap,rfl⟩:=I3 a4;have iL:Below w.heap.size w ((W.setCell ⟨W0.heap.size,0,none⟩ (.int .i64 0)).setCell ⟨W0.heap.size+1,0,none⟩ (.int .i64 0)):=Zs (Ji hB a6 (by intro k hk;omega)) (by omega) (by omega) _ _;have hown:=Qp9 a4 W0.heap.size (W0.heap.size+1) (by omega) (by omega) (.int .i64 0) (.int .i64 0);have hrow:((W.setCell ⟨W0.heap.size,0,none⟩ (.int .i64 0)).setCell ⟨W0.heap.size+1,0,none⟩ (.int .i64 0)).heap[w.heap.size+1]? = some (.cells #[.slice oa es.length cap] 138 (0,0)):=by
   rw [heap_setCell_other _ _ _ _ (by show w.heap.size+1≠W0.heap.size+1;omega),heap_setCell_other _ _ _ _ (by show w.heap.size+1≠W0.heap.size;omega)];exact a3
  generalize (W.setCell ⟨W0.heap.size,0,none⟩ (.int .i64 0)).setCell ⟨W0.heap.size+1,0,none⟩ (.int .i64 0)=W5 at iL hown hrow ⊢;have c1:=cell_of_row W5 _ 0 _ _ _ hrow;have jk:=aa hown;have gG:=aa iL;have Sy:=aa a1;clear hown iL hrow a1 a3 a4 a6 hB;go_wp2_with fail;rw [QnW] at jk;refine (Rc _ (es.map En.tg) W5 es.length (by simp) a5 _ jk.out).mono ?_;rintro e w7 ⟨jT,v',rfl,qK⟩;dsimp only;have sY:=aa (gG.out.trans (jT.mono gG.out.size));have FY:=aa (OZ qK gG.out.size);clear jT qK;go_wp2_with fail
  go_ret3
  exact ⟨sY.out,v',Or.inl ⟨es,c,Sy.out,rfl,FY.out,a5⟩⟩
 ·dsimp only;have iL:Below w.heap.size w ((W.setCell ⟨W0.heap.size,0,none⟩ (.int .i64 7)).setCell ⟨W0.heap.size+1,0,none⟩ (.int .i64 ((p:Nat):Int))):=Zs (Ji hB a6 (by intro k hk;omega)) (by omega) (by omega) _ _;have hrow:((W.setCell ⟨W0.heap.size,0,none⟩ (.int .i64 7)).setCell ⟨W0.heap.size+1,0,none⟩ (.int .i64 ((p:Nat):Int))).heap[w.heap.size+1]? = some (.cells #[.slice none 0 0] 138 (0,0)):=by
   rw [heap_setCell_other _ _ _ _ (by show w.heap.size+1≠W0.heap.size+1;omega),heap_setCell_other _ _ _ _ (by show w.heap.size+1≠W0.heap.size;omega)];exact a3
  generalize (W.setCell ⟨W0.heap.size,0,none⟩ (.int .i64 7)).setCell ⟨W0.heap.size+1,0,none⟩ (.int .i64 ((p:Nat):Int))=W5 at iL hrow ⊢;have c1:=cell_of_row W5 _ 0 _ _ _ hrow;have gG:=aa iL;have Sy:=aa a1;clear iL hrow a1 a3 a6 hB;go_wp2_with fail;refine (Rc (.slice none 0 0) [] W5 0 rfl (by decide) 0 (World.ownsRow_nil _ _ _ _)).mono ?_;rintro e w7 ⟨jT,v',rfl,qK⟩;dsimp only;have sY:=aa (gG.out.trans (jT.mono gG.out.size));have FY:=aa (OZ qK gG.out.size);clear jT qK;go_wp2_with fail
  go_ret3
  exact ⟨sY.out,v',Or.inr ⟨p,Sy.out,rfl,FY.out⟩⟩
end Go.Proofs.YtncigfibncmioaaGreatDoor
