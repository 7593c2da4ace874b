/-
  PROVED HERE: what the program's function next of the index's scanner answers: the next token, or that it gives up at a place.
-/
import Derived.Test.YtncigfibncmioaaGreatDoorScanNum
import Derived.Laws.CopyOwn
set_option maxHeartbeats 2000000
set_option maxRecDepth 100000
namespace Go.Proofs.YtncigfibncmioaaGreatDoor
open Go.RowKit
theorem Sl (t:ByteArray) (a:Nat) (h:a<=t.size):nN t a<=t.size:=by
 rw [nN]
 split
 ·split
  ·exact Sl t (a+1) (by omega)
  ·exact h
 ·exact h
termination_by t.size - a
theorem QmC (x:Nat) (hx:x<256):decide (0<=Lib.indexByte [123,125,91,93,58,44] ((x:Int).toNat.toUInt8))=Ay x:=by
 have h:∀ n,n<256->decide (0<=Lib.indexByte [123,125,91,93,58,44] (Nat.toUInt8 n))=Ay n:=by decide +kernel
 rw [show ((x:Int).toNat)=x by omega];exact h x hx
def NG.says (e:Ending) (w':World) (b:Nat) (t:ByteArray):NG Nat->Prop
 | .tok k p n l c=>e = .returned (bw k p ((n:Nat):Int) ⟨l.toArray⟩)/\aD w' b t c
 | .bad p=>e=bE p
theorem KM {W:World} {g:Nat} {c0 c1 c2 c3:Value} (v0 v1 v2 v3:Value) (h:W.heap[g]? = some (.cells #[c0,c1,c2,c3] 204 (0,0))) :
  ((((W.setCell ⟨g,0,none⟩ v0).setCell ⟨g,1,none⟩ v1).setCell ⟨g,2,none⟩ v2).setCell ⟨g,3,none⟩ v3).heap[g]? = some (.cells #[v0,v1,v2,v3] 204 (0,0)) :=
 yf v3 (yf v2 (yf v1 (yf v0 h)))
theorem Quc (v0 v1 v2 v3:Value):(Tryz.prog.info? 204).map (·.size)=some (#[v0,v1,v2,v3]:Array Value).size:=by kernel_rfl
theorem YN {B g:Nat} (X:World) (h:B<=g) (v0 v1 v2 v3:Value):Below B X ((((X.setCell ⟨g,0,none⟩ v0).setCell ⟨g,1,none⟩ v1).setCell ⟨g,2,none⟩ v2).setCell ⟨g,3,none⟩ v3) :=
 ((((Below.refl B X).setCell (p:=⟨g,0,none⟩) h v0).setCell (p:=⟨g,1,none⟩) h v1).setCell (p:=⟨g,2,none⟩) h v2).setCell (p:=⟨g,3,none⟩) h v3
theorem OU {b a k p n c:Nat} {l:List UInt8} {t:ByteArray} {w X:World} {tmps:Array Value} (hp:tmps.getD 2 undef = .pointer (some ⟨w.heap.size,0,none⟩)) (hX:w.grownBy X (some b))
  (hres:X.heap[w.heap.size]? = some (.cells #[.int .u8 0,.int .i64 0,.int .i64 0,.string ⟨#[]⟩] 204 (0,0))) (hsc:aD X b t c) (hbl:b<w.heap.size) (iq:bO t a = .tok k p n l c) :
  bodyPost Tryz.prog Tryz.f124 (fun e w'=>w.grownBy w' (some b)/\NG.says e w' b t (bO t a)) Exit.ret { tmps:=tmps,defers:=[] }
   ((((X.setCell ⟨w.heap.size,0,none⟩ (.int .u8 ((k:Nat):Int))).setCell ⟨w.heap.size,1,none⟩ (.int .i64 ((p:Nat):Int))).setCell ⟨w.heap.size,2,none⟩ (.int .i64 ((n:Nat):Int))).setCell ⟨w.heap.size,3,none⟩ (.string ⟨l.toArray⟩)):=by
 have hB:=YN X (Nat.le_refl w.heap.size) (.int .u8 ((k:Nat):Int)) (.int .i64 ((p:Nat):Int)) (.int .i64 ((n:Nat):Int)) (.string ⟨l.toArray⟩);refine bodyPost_ret (results_cell_row Tryz.results124 _ _ w.heap.size 204 _ (0,0) _ hp (KM _ _ _ _ hres) Tryz.underlying204 rfl (Quc _ _ _ _)) rfl ?_;refine ⟨wQ hX hB,?_⟩;rw [iq];exact ⟨rfl,(hB.block b hbl).trans hsc⟩
theorem wP (b a:Nat) (t:ByteArray) (w:World) (hs:aD w b t a) (ha:a<=t.size) (ht:t.size<=2000) :
  Calls Tryz.prog 124 #[.pointer (some ⟨b,0,none⟩)] w fun e w'=>w.grownBy w' (some b)/\(bO t a).says e w' b t:=by
 have HS:=aa hs;have hbl:=ax hs;have FJ:=Sl t a ha;have cw:bO t a=Je t (nN t a):=rfl;have HK:=aa (Qqz b a t);go_enter Tryz.func124,Tryz.ntmps124;go_wp2_with fail;have hb0:Below w.heap.size w (w.alloc (.cells #[.int .u8 0,.int .i64 0,.int .i64 0,.string ⟨#[]⟩] 204)):=(Below.refl _ _).alloc (Nat.le_refl _) _;refine (HK.out _ (hs.later hb0) ha ht).mono ?_;rintro _ w1 ⟨rfl,hg1,dC⟩;dsimp only;generalize nN t a=p at FJ cw dC;have hres:w1.heap[w.heap.size]? = some (.cells #[.int .u8 0,.int .i64 0,.int .i64 0,.string ⟨#[]⟩] 204 (0,0)):=(hg1.block _ (by rw [size_alloc];omega) (fun e=>by injection e with e;omega)).trans (heap_alloc_new _ _);have bT:=aa (dF (jJ hb0 (some b)) hg1);have gb:=aa dC;have FK:=aa hres;have fP:=aa cw;have c0:=dC.c0;have c1:=dC.c1;have cf:=fun j=>frozen_of_row w1 b j _ _ dC
 have FL:=ax dC;have oD:=ax hres;have r0:w1.cell? ⟨w.heap.size,0,none⟩=some (.int .u8 0):=cell_of_row w1 _ 0 _ _ _ hres;have r1:w1.cell? ⟨w.heap.size,1,none⟩=some (.int .i64 0):=cell_of_row w1 _ 1 _ _ _ hres;have r2:w1.cell? ⟨w.heap.size,2,none⟩=some (.int .i64 0):=cell_of_row w1 _ 2 _ _ _ hres;have r3:w1.cell? ⟨w.heap.size,3,none⟩=some (.string ⟨#[]⟩):=cell_of_row w1 _ 3 _ _ _ hres;have rf:=fun j=>frozen_of_row w1 w.heap.size j _ _ hres
 clear hs hg1 dC hres cw hb0 HK ha
 by_cases hlt:p<t.size
 ·have e1:((p:Int) == (t.size:Int))=false:=by simp;omega
  obtain ⟨x,hx⟩ : ∃ x:Nat,x=(t[p]'hlt).toNat:=⟨_,rfl⟩;have hx2:((t[p]'hlt).toNat:Int)=(x:Int):=by rw [hx]
  have uK:x<256:=by rw [hx];exact UInt8.toNat_lt _
  have hi:=QmC x uK;have cw:bO t a=if Ay x then .tok x p 0 [] (p+1) else if dL x then (match dv t p p 0 with|some (n,c)=>.tok 48 p n [] c|none=>.bad p) else if x=34 then (match cO t (p+1) [] with|some (l,c)=>.tok 34 p 0 l c|none=>.bad p) else .bad p:=by
   rw [fP.out,Je,dif_pos hlt,<- hx];rfl
  have BP:=aa cw;have HX:=aa hx;clear hx cw fP;obtain ⟨ix,iN⟩ : ∃ ix,ix=Lib.indexByte [123,125,91,93,58,44] ((x:Int).toNat.toUInt8):=⟨_,rfl⟩;rw [<- iN] at hi;have bS:∀ w,Calls Tryz.prog 101 #[.string ⟨#[123,125,91,93,58,44]⟩,.int .u8 (x:Int)] w fun e w'=>e = .returned (.int .i64 ix)/\w'=w:=fun w=>by
   have:=Tryz.strings_IndexByte ⟨#[123,125,91,93,58,44]⟩ (x:Int) w;rw [iN];exact this
  have HC:=aa bS;have HD:Hid (∀ w,Calls Tryz.prog 156 #[.int .u8 ((x:Nat):Int)] w fun e w'=>e = .returned (.bool (dL x))/\w'=w):=fun w=>OS x w
  clear bS iN;have br:Hid (∀ (m:Nat) (v:Value),Below w.heap.size w1 (((w1.alloc (.cells #[.int .u8 0,.int .i64 ((p:Nat):Int),.int .i64 0,.string ⟨#[]⟩] 204)).drewN m).setCell ⟨w1.heap.size,0,none⟩ v)):=fun m v=>(((Below.refl _ _).alloc (Nat.le_of_lt oD) _).drewN _).setCell (p:=⟨w1.heap.size,0,none⟩) (Nat.le_of_lt oD) _
  have jb:Hid (∀ (m:Nat) (v:Value),(((w1.alloc (.cells #[.int .u8 0,.int .i64 ((p:Nat):Int),.int .i64 0,.string ⟨#[]⟩] 204)).drewN m).setCell ⟨w1.heap.size,0,none⟩ v).heap[w1.heap.size]? = some (.cells #[v,.int .i64 ((p:Nat):Int),.int .i64 0,.string ⟨#[]⟩] 204 (0,0))):=fun m v=>yf v (show ((w1.alloc (.cells #[.int .u8 0,.int .i64 ((p:Nat):Int),.int .i64 0,.string ⟨#[]⟩] 204)).drewN m).heap[w1.heap.size]? = _ from heap_alloc_new _ _)
  have ki:Hid (∀ (m:Nat) (v:Value),(((w1.alloc (.cells #[.int .u8 0,.int .i64 ((p:Nat):Int),.int .i64 0,.string ⟨#[]⟩] 204)).drewN m).setCell ⟨w1.heap.size,0,none⟩ v).heap[w.heap.size]? = some (.cells #[.int .u8 0,.int .i64 0,.int .i64 0,.string ⟨#[]⟩] 204 (0,0))):=fun m v=>by
   rw [heap_setCell_other _ _ _ _ (by simp;omega)];exact (Below.heap_alloc w1 _ _ oD).trans FK.out
  cases sR:Ay x with
  | true =>
   rw [sR] at hi;have iq:bO t a = .tok x p 0 [] (p+1):=by rw [BP.out,sR];rfl
   have mC:=aa iq;clear iq sR;go_wp2
   go_quiet (fail)
   go_wp2
   go_quiet (fail)
   go_wp2_with (go_at_call 101;refine (HC.out _).mono ?_;rintro _ w2 ⟨rfl,rfl⟩);rw [show ((p:Int)+1)=((p+1:Nat):Int) by omega];refine OU (k:=x) (p:=p) (n:=0) (l:=[]) rfl (dF (wQ bT.out (br.out _ _)) (nE _ _ _ _)) ?_ (aD.set (((br.out _ _).block b hbl).trans gb.out) (p+1)) hbl mC.out;rw [heap_setCell_other _ _ _ _ (by simp;omega),heap_setCell_other _ _ _ _ (by simp;omega)];exact (Below.heap_alloc w1 _ _ oD).trans FK.out
  | false =>
   rw [sR] at hi;have HMK:=aa sR
   cases uL:dL x with
   | true =>
    have HN:=aa (QjQ b p 48 0 ⟨#[]⟩ t);have sT:Hid (∀ w,Calls Tryz.prog 156 #[.int .u8 ((x:Nat):Int)] w fun e w'=>e = .returned (.bool true)/\w'=w):=fun w=>by
     have:=HD.out w;rwa [uL] at this
    have iq:bO t a=(match dv t p p 0 with|some (n,c)=>.tok 48 p n [] c|none=>.bad p):=by rw [BP.out,sR,uL];rfl
    have mC:=aa iq;clear iq sR uL HD;go_wp2
    go_quiet (fail)
    go_wp2
    go_quiet (fail)
    go_wp2_with (first|(go_at_call 101;refine (HC.out _).mono ?_;rintro _ w2 ⟨rfl,rfl⟩)|(go_at_call 156;refine (sT.out _).mono ?_;rintro _ w2 ⟨rfl,rfl⟩));refine (HN.out _ (((br.out _ _).block b hbl).trans gb.out) FJ ht).mono ?_;rintro e w2 ⟨hg2,hc2⟩;have kV:=hg2.size;have BQ:∀ m v,(((w1.alloc (.cells #[.int .u8 0,.int .i64 ((p:Nat):Int),.int .i64 0,.string ⟨#[]⟩] 204)).drewN m).setCell ⟨w1.heap.size,0,none⟩ v).heap.size=w1.heap.size+1:=fun m v=>by simp
    rw [BQ] at kV;have fU:=(hg2.block w1.heap.size (by rw [BQ];omega) (fun e=>by injection e with e;omega)).trans (jb.out _ _);have hr2:=(hg2.block w.heap.size (by rw [BQ];omega) (fun e=>by injection e with e;omega)).trans (ki.out _ _);have bP:=aa (dF (wQ bT.out (br.out _ _)) hg2)
    rcases hc2 with ⟨n,c,gC,rfl,jo⟩|⟨gC,rfl⟩
    ·dsimp only;have qC:bO t a = .tok 48 p n [] c:=by rw [mC.out,gC]
     have yt:=aa qC;clear qC gC;have jM:=aa fU;have fL:=aa hr2;have nH:=aa jo;have k0:w2.cell? ⟨w1.heap.size,0,none⟩=some (.int .u8 48):=cell_of_row w2 _ 0 _ _ _ fU;have k1:w2.cell? ⟨w1.heap.size,1,none⟩=some (.int .i64 ((p:Nat):Int)):=cell_of_row w2 _ 1 _ _ _ fU;have k2:w2.cell? ⟨w1.heap.size,2,none⟩=some (.int .i64 0):=cell_of_row w2 _ 2 _ _ _ fU;have k3:w2.cell? ⟨w1.heap.size,3,none⟩=some (.string ⟨#[]⟩):=cell_of_row w2 _ 3 _ _ _ fU;have kf:=fun j=>frozen_of_row w2 w1.heap.size j _ _ fU
     have s0:w2.cell? ⟨w.heap.size,0,none⟩=some (.int .u8 0):=cell_of_row w2 _ 0 _ _ _ hr2;have s1:w2.cell? ⟨w.heap.size,1,none⟩=some (.int .i64 0):=cell_of_row w2 _ 1 _ _ _ hr2;have s2:w2.cell? ⟨w.heap.size,2,none⟩=some (.int .i64 0):=cell_of_row w2 _ 2 _ _ _ hr2;have s3:w2.cell? ⟨w.heap.size,3,none⟩=some (.string ⟨#[]⟩):=cell_of_row w2 _ 3 _ _ _ hr2;have sf:=fun j=>frozen_of_row w2 w.heap.size j _ _ hr2
     have hne:¬ w1.heap.size=w.heap.size:=by omega
     clear fU hr2 jo hg2 BQ r0 r1 r2 r3 rf c0 c1 cf;go_wp2;have hX:Below w.heap.size w2 (w2.setCell ⟨w1.heap.size,2,none⟩ (.int .i64 ((n:Nat):Int))):=(Below.refl _ _).setCell (p:=⟨w1.heap.size,2,none⟩) (Nat.le_of_lt oD) _;refine OU (k:=48) (p:=p) (n:=n) (l:=[]) rfl (wQ bP.out hX) ?_ ((hX.block b hbl).trans nH.out) hbl yt.out;rw [heap_setCell_other _ _ _ _ (by simp;omega)];exact fL.out
    ·dsimp only [bE];refine ⟨rfl,bP.out,?_⟩;rw [mC.out,gC];rfl
   | false =>
    have sT:Hid (∀ w,Calls Tryz.prog 156 #[.int .u8 ((x:Nat):Int)] w fun e w'=>e = .returned (.bool false)/\w'=w):=fun w=>by
     have:=HD.out w;rwa [uL] at this
    by_cases wY:x=34
    ·have HN:=aa (QjS b p 34 p 0 ⟨#[]⟩ t);have iq:bO t a=(match cO t (p+1) [] with|some (l,c)=>.tok 34 p 0 l c|none=>.bad p):=by rw [BP.out,sR,uL,if_pos wY];rfl
     have mC:=aa iq;subst wY;clear iq sR uL HD;go_wp2
     go_quiet (fail)
     go_wp2
     go_quiet (fail)
     go_wp2_with (first|(go_at_call 101;refine (HC.out _).mono ?_;rintro _ w2 ⟨rfl,rfl⟩)|(go_at_call 156;refine (sT.out _).mono ?_;rintro _ w2 ⟨rfl,rfl⟩));refine (HN.out _ (((br.out _ _).block b hbl).trans gb.out) hlt ht).mono ?_;rintro e w2 ⟨hg2,hc2⟩;have kV:=hg2.size;have BQ:∀ m v,(((w1.alloc (.cells #[.int .u8 0,.int .i64 ((p:Nat):Int),.int .i64 0,.string ⟨#[]⟩] 204)).drewN m).setCell ⟨w1.heap.size,0,none⟩ v).heap.size=w1.heap.size+1:=fun m v=>by simp
     rw [BQ] at kV;have fU:=(hg2.block w1.heap.size (by rw [BQ];omega) (fun e=>by injection e with e;omega)).trans (jb.out _ _);have hr2:=(hg2.block w.heap.size (by rw [BQ];omega) (fun e=>by injection e with e;omega)).trans (ki.out _ _);have bP:=aa (dF (wQ bT.out (br.out _ _)) hg2)
     rcases hc2 with ⟨l,c,gC,rfl,jo⟩|⟨gC,rfl⟩
     ·dsimp only;have qC:bO t a = .tok 34 p 0 l c:=by rw [mC.out,gC]
      have yt:=aa qC;clear qC gC;have jM:=aa fU;have fL:=aa hr2;have nH:=aa jo;have k0:w2.cell? ⟨w1.heap.size,0,none⟩=some (.int .u8 34):=cell_of_row w2 _ 0 _ _ _ fU;have k1:w2.cell? ⟨w1.heap.size,1,none⟩=some (.int .i64 ((p:Nat):Int)):=cell_of_row w2 _ 1 _ _ _ fU;have k2:w2.cell? ⟨w1.heap.size,2,none⟩=some (.int .i64 0):=cell_of_row w2 _ 2 _ _ _ fU;have k3:w2.cell? ⟨w1.heap.size,3,none⟩=some (.string ⟨#[]⟩):=cell_of_row w2 _ 3 _ _ _ fU;have kf:=fun j=>frozen_of_row w2 w1.heap.size j _ _ fU
      have s0:w2.cell? ⟨w.heap.size,0,none⟩=some (.int .u8 0):=cell_of_row w2 _ 0 _ _ _ hr2;have s1:w2.cell? ⟨w.heap.size,1,none⟩=some (.int .i64 0):=cell_of_row w2 _ 1 _ _ _ hr2;have s2:w2.cell? ⟨w.heap.size,2,none⟩=some (.int .i64 0):=cell_of_row w2 _ 2 _ _ _ hr2;have s3:w2.cell? ⟨w.heap.size,3,none⟩=some (.string ⟨#[]⟩):=cell_of_row w2 _ 3 _ _ _ hr2;have sf:=fun j=>frozen_of_row w2 w.heap.size j _ _ hr2
      have hne:¬ w1.heap.size=w.heap.size:=by omega
      clear fU hr2 jo hg2 BQ r0 r1 r2 r3 rf c0 c1 cf;go_wp2;have hX:Below w.heap.size w2 (w2.setCell ⟨w1.heap.size,3,none⟩ (.string ⟨l.toArray⟩)):=(Below.refl _ _).setCell (p:=⟨w1.heap.size,3,none⟩) (Nat.le_of_lt oD) _;refine OU (k:=34) (p:=p) (n:=0) (l:=l) rfl (wQ bP.out hX) ?_ ((hX.block b hbl).trans nH.out) hbl yt.out;rw [heap_setCell_other _ _ _ _ (by simp;omega)];exact fL.out
     ·dsimp only [bE];refine ⟨rfl,bP.out,?_⟩;rw [mC.out,gC];rfl
    ·have iq:bO t a = .bad p:=by rw [BP.out,sR,uL,if_neg wY];rfl
     have mC:=aa iq;have e34:((x:Int) == 34)=false:=by simp;omega
     clear iq sR uL HD wY;go_wp2
     go_quiet (fail)
     go_wp2
     go_quiet (fail)
     go_wp2_with (first|(go_at_call 101;refine (HC.out _).mono ?_;rintro _ w2 ⟨rfl,rfl⟩)|(go_at_call 156;refine (sT.out _).mono ?_;rintro _ w2 ⟨rfl,rfl⟩)|(go_at_call 128;refine (kK 0 p 0 ⟨#[]⟩ _).mono ?_;rintro _ w3 ⟨rfl,hm⟩;dsimp only [bE]));refine ⟨rfl,?_,?_⟩
     ·have km:Below w.heap.size w1 w3:=(((Below.refl _ _).alloc (Nat.le_of_lt oD) _).drewN _).trans (hm.mono (by simp;omega));exact wQ bT.out km
     ·rw [mC.out];rfl
 ·have vD:p=t.size:=by omega
  subst vD;clear hlt FJ;have iq:bO t a = .tok 0 t.size 0 [] t.size:=by rw [fP.out,Je,dif_neg (by omega)]
  have mC:=aa iq;clear iq;go_wp2
  go_quiet (fail)
  go_wp2;have hX:Below w.heap.size w1 (((w1.alloc (.cells #[.int .u8 0,.int .i64 ((t.size:Nat):Int),.int .i64 0,.string ⟨#[]⟩] 204)).drewN nq).setCell ⟨w1.heap.size,0,none⟩ (.int .u8 0)):=(((Below.refl _ _).alloc (Nat.le_of_lt oD) _).drewN nq).setCell (Nat.le_of_lt oD) _;refine OU (k:=0) (p:=t.size) (n:=0) (l:=[]) rfl (wQ bT.out hX) ?_ ((hX.block b hbl).trans gb.out) hbl mC.out;rw [heap_setCell_other _ _ _ _ (by simp;omega)];exact (Below.heap_alloc w1 _ _ oD).trans FK.out
open Go.RowKit
theorem Bw {w w2:World} {o:Obj} (h:Below (w.alloc o).heap.size (w.alloc o) w2) (r:Option Nat):w.grownBy w2 r :=
 dF (jJ ((Below.refl _ _).alloc (Nat.le_refl _) o) r) (jJ h r)
theorem aD.eU {w w2:World} {b a:Nat} {t:ByteArray} {o:Obj} (hs:aD w b t a) (h:Below (w.alloc o).heap.size (w.alloc o) w2):aD w2 b t a :=
 (hs.later ((Below.refl _ _).alloc (Nat.le_refl _) o)).later h
abbrev RS (α:Type):=RG Nat α
def np (t:ByteArray) (a kind:Nat):RS Unit:=lB (bO t) a kind
theorem Kr (b a kind:Nat) (t:ByteArray) (w:World) (hs:aD w b t a) (ha:a<=t.size) (ht:t.size<=2000) :
  Calls Tryz.prog 177 #[.pointer (some ⟨b,0,none⟩),.int .u8 ((kind:Nat):Int)] w fun e w'=>w.grownBy w' (some b)/\((∃ c,np t a kind = .ok () c/\e = .returned (.tuple #[])/\aD w' b t c)∨(∃ p,np t a kind = .bad p/\e=bE p)):=by
 have HS:=aa hs;have hbl:=ax hs;have HN:=aa (wP b a t w hs ha ht);clear hs;go_enter Tryz.func177,Tryz.ntmps177;go_wp2_with fail;refine HN.out.mono ?_;rintro e w1 ⟨hg1,hc⟩;have iE:np t a kind=(match bO t a with|.tok k p _ _ c=>if k=kind then .ok () c else .bad p|.bad p=>.bad p):=by unfold np lB;cases bO t a<;>rfl
 cases cw:bO t a with
 | bad p =>
  rw [cw] at hc iE;have hc2:e=bE p:=hc;subst hc2;dsimp only [bE];exact ⟨rfl,hg1,Or.inr ⟨p,iE,rfl⟩⟩
 | tok k p n l c =>
  rw [cw] at hc iE;obtain ⟨rfl,hsc⟩ : e = .returned (bw k p ((n:Nat):Int) ⟨l.toArray⟩)/\aD w1 b t c:=hc;dsimp only [bw];have bT:=aa hg1;have j9:=aa hsc;have nh:=aa iE;clear hg1 hsc iE cw HN
  by_cases hk:k=kind
  ·subst hk;go_wp2_with fail;refine (sJ _ _ _ _ _).mono ?_;rintro e w2 ⟨rfl,hm⟩;dsimp only;go_wp2_with fail
   go_end0
   have hg2:=dF bT.out (Bw hm (some b));refine ⟨hg2,Or.inl ⟨c,?_,rfl,?_⟩⟩
   ·rw [nh.out];simp
   ·exact aD.eU j9.out hm
  ·have hf:((k:Int) == (kind:Int))=false:=by simp;omega
   have hf2:decide ((k:Int)=(kind:Int))=false:=by simp;omega
   go_wp2_with fail;have hk2:¬ ((k:Int)=(kind:Int)):=by omega
   (try simp only [hf,hf2])
   refine (kK _ _ _ _ _).mono ?_;rintro e w2 ⟨rfl,hm⟩;dsimp only [bE];have hg2:=dF bT.out (Bw hm (some b));exact ⟨rfl,hg2,Or.inr ⟨p,by rw [nh.out,if_neg hk],rfl⟩⟩
open Go.RowKit
def IJ (t:ByteArray) (a:Nat):RS Unit:=yn (bO t) a
theorem Qkc (b a:Nat) (t:ByteArray) (w:World) (hs:aD w b t a) (ha:a<=t.size) (ht:t.size<=2000) :
  Calls Tryz.prog 126 #[.pointer (some ⟨b,0,none⟩)] w fun e w'=>w.grownBy w' (some b)/\((∃ c,IJ t a = .ok () c/\e = .returned (.tuple #[])/\aD w' b t c)∨(∃ p,IJ t a = .bad p/\e=bE p)):=by
 have HS:=aa hs;have hbl:=ax hs;have HN:=aa (wP b a t w hs ha ht);clear hs;go_enter Tryz.func126,Tryz.ntmps126;go_wp2_with fail;refine HN.out.mono ?_;rintro e w1 ⟨hg1,hc⟩;have iE:IJ t a=(match bO t a with|.tok k p n _ c=>if k=48/\n=1 then .ok () c else .bad p|.bad p=>.bad p):=by unfold IJ yn;cases bO t a<;>rfl
 cases cw:bO t a with
 | bad p =>
  rw [cw] at hc iE;have hc2:e=bE p:=hc;subst hc2;dsimp only [bE];exact ⟨rfl,hg1,Or.inr ⟨p,iE,rfl⟩⟩
 | tok k p n l c =>
  rw [cw] at hc iE;obtain ⟨rfl,hsc⟩ : e = .returned (bw k p ((n:Nat):Int) ⟨l.toArray⟩)/\aD w1 b t c:=hc;dsimp only [bw];have bT:=aa hg1;have j9:=aa hsc;have nh:=aa iE;clear hg1 hsc iE cw HN
  by_cases hk:k=48
  ·subst hk
   by_cases hn:n=1
   ·subst hn;go_wp2_with fail;refine (sJ _ _ _ _ _).mono ?_;rintro e w2 ⟨rfl,hm⟩;dsimp only;go_wp2_with fail
    go_end0
    have hg2:=dF bT.out (Bw hm (some b));refine ⟨hg2,Or.inl ⟨c,?_,rfl,?_⟩⟩
    ·rw [nh.out];simp
    ·exact aD.eU j9.out hm
   ·have hf:((n:Int) == (1:Int))=false:=by simp;omega
    have hf2:decide ((n:Int)=(1:Int))=false:=by simp;omega
    go_wp2_with fail
    (try simp only [hf,hf2])
    refine (kK _ _ _ _ _).mono ?_;rintro e w2 ⟨rfl,hm⟩;dsimp only [bE];have hg2:=dF bT.out (Bw hm (some b));exact ⟨rfl,hg2,Or.inr ⟨p,by rw [nh.out];simp [hn],rfl⟩⟩
  ·have hf:((k:Int) == (48:Int))=false:=by simp;omega
   have hf2:decide ((k:Int)=(48:Int))=false:=by simp;omega
   go_wp2_with fail
   (try simp only [hf,hf2])
   refine (kK _ _ _ _ _).mono ?_;rintro e w2 ⟨rfl,hm⟩;dsimp only [bE];have hg2:=dF bT.out (Bw hm (some b));exact ⟨rfl,hg2,Or.inr ⟨p,by rw [nh.out];simp [hk],rfl⟩⟩
end Go.Proofs.YtncigfibncmioaaGreatDoor
namespace Go.Proofs.YtncigfibncmioaaGreatDoor
open Go.RowKit
theorem Qp8 (t:ByteArray):∀ (d a:Nat) (acc l:List UInt8) (c:Nat),t.size - a=d->cO t a acc=some (l,c)->c<=t.size/\a<c/\l.length<=acc.length+(t.size - a):=by
 intro d
 induction d using Nat.strongRecOn with
 | _ d ih =>
  intro a acc l c hd h
  cases hb:mm t a with
  | none=>rw [Zf hb] at h;cases h
  | some x =>
   rw [Jf hb] at h;have hlt:=Jg hb
   by_cases h1:x=34
   ·rw [if_pos h1] at h
    cases h
    omega
   ·rw [if_neg h1] at h
    by_cases h2:x=92
    ·rw [if_pos h2] at h
     cases hb2:mm t (a+1) with
     | none=>rw [hb2] at h;cases h
     | some y =>
      rw [hb2] at h;have vk:=Jg hb2;dsimp only at h
      split at h
      ·have:=ih (t.size - (a+2)) (by omega) (a+2) _ l c rfl h;simp only [List.length_append,List.length_singleton] at this;omega
      ·cases h
    ·rw [if_neg h2] at h;have:=ih (t.size - (a+1)) (by omega) (a+1) _ l c rfl h;simp only [List.length_append,List.length_singleton] at this;omega
theorem Zg (t:ByteArray) (p:Nat):∀ (d a n m c:Nat),t.size - a=d->a<=t.size->dv t p a n=some (m,c)->c<=t.size/\a<=c:=by
 intro d
 induction d using Nat.strongRecOn with
 | _ d ih =>
  intro a n m c hd ha h;rw [dv] at h
  split at h
  ·split at h
   ·split at h
    ·cases h
    ·have:=ih (t.size - (a+1)) (by omega) (a+1) _ m c rfl (by omega) h;omega
   ·cases h;omega
  ·cases h;omega
theorem QnT (t:ByteArray) (p m c:Nat) (hp:p<t.size) (hd:dL (t[p]).toNat=true) (h:dv t p p 0=some (m,c)):p<c:=by
 rw [dv,dif_pos hp,hd,if_pos rfl] at h
 split at h
 ·cases h
 ·have:=Zg t p _ (p+1) _ m c rfl (by omega) h;omega
theorem Zh (t:ByteArray) (a:Nat):a<=nN t a:=by
 rw [nN]
 split
 ·split
  ·have:=Zh t (a+1);omega
  ·omega
 ·omega
termination_by t.size - a
theorem wR {t:ByteArray} {a k p n c:Nat} {l:List UInt8} (ha:a<=t.size) (h:bO t a = .tok k p n l c):c<=t.size/\a<=c/\l.length<=t.size/\(k≠0->a<c):=by
 have h1:=Zh t a;have h2:=Sl t a ha;unfold bO Je at h;generalize nN t a=q at h h1 h2
 split at h
 ·rename_i hq
  split at h
  ·cases h
   simp;omega
  ·split at h
   ·rename_i hd
    cases hn:dv t q q 0 with
    | none=>rw [hn] at h;cases h
    | some r =>
     obtain ⟨m,c'⟩:=r;rw [hn] at h;have f1:=Zg t q _ q 0 _ _ rfl h2 hn;have f2:=QnT t q _ _ hq hd hn
     cases h
     simp;omega
   ·split at h
    ·cases hn:cO t (q+1) [] with
     | none=>rw [hn] at h;cases h
     | some r =>
      obtain ⟨m,c'⟩:=r;rw [hn] at h;have:=Qp8 t _ (q+1) [] _ _ rfl hn;simp at this
      cases h
      refine ⟨this.1,by omega,by omega,fun _=>by omega⟩
    ·cases h
 ·cases h
  simp;omega
end Go.Proofs.YtncigfibncmioaaGreatDoor
namespace Go.Proofs.YtncigfibncmioaaGreatDoor
open Go.RowKit
theorem Ev {w w2:World} {o:Obj} (h:Below (w.alloc o).drew.heap.size (w.alloc o).drew w2) (r:Option Nat):w.grownBy w2 r :=
 dF (jJ ((Below.refl _ _).alloc (Nat.le_refl _) o).drew r) (jJ h r)
theorem aD.fT {w w2:World} {b a:Nat} {t:ByteArray} {o:Obj} (hs:aD w b t a) (h:Below (w.alloc o).drew.heap.size (w.alloc o).drew w2):aD w2 b t a :=
 aD.later (w:=(w.alloc o).drew) (hs.later ((Below.refl _ _).alloc (Nat.le_refl _) o).drew) h
def DC (t:ByteArray) (a:Nat):RS Nat:=ye (bO t) a
theorem QoF (b a:Nat) (t:ByteArray) (w:World) (hs:aD w b t a) (ha:a<=t.size) (ht:t.size<=2000) :
  Calls Tryz.prog 224 #[.pointer (some ⟨b,0,none⟩)] w fun e w'=>w.grownBy w' (some b)/\((∃ n c,DC t a = .ok n c/\e = .returned (.int .i64 ((n:Nat):Int))/\aD w' b t c)∨(∃ p,DC t a = .bad p/\e=bE p)):=by
 have HS:=aa hs;have hbl:=ax hs;have HN:=aa (wP b a t w hs ha ht);clear hs;go_enter Tryz.func224,Tryz.ntmps224;go_wp2_with fail;refine HN.out.mono ?_;rintro e w1 ⟨hg1,hc⟩;have iE:DC t a=(match bO t a with|.tok k p n _ c=>if k=48/\n<=300 then .ok n c else .bad p|.bad p=>.bad p):=by unfold DC ye;cases bO t a<;>rfl
 cases cw:bO t a with
 | bad p =>
  rw [cw] at hc iE;have hc2:e=bE p:=hc;subst hc2;dsimp only [bE];exact ⟨rfl,hg1,Or.inr ⟨p,iE,rfl⟩⟩
 | tok k p n l c =>
  rw [cw] at hc iE;obtain ⟨rfl,hsc⟩ : e = .returned (bw k p ((n:Nat):Int) ⟨l.toArray⟩)/\aD w1 b t c:=hc;dsimp only [bw];have bT:=aa hg1;have j9:=aa hsc;have nh:=aa iE;clear hg1 hsc iE cw HN
  by_cases hk:k=48
  ·subst hk
   cases hz:(decide (0<=(n:Int)) && decide ((n:Int)<=300)) with
   | true =>
    have HZ:Hid (∀ w,Calls Tryz.prog 129 #[.int .i64 ((n:Nat):Int)] w fun e w'=>e = .returned (.bool true)/\w'=w):=fun w=>by
     have:=Oo (n:Int) w;rwa [hz] at this
    have hn:n<=300:=by simp at hz;omega
    have xL:=aa hn;clear hz hn;go_wp2_with fail;refine xS 9 mixed (by kernel_rfl) ?_;simp only [List.take_succ_cons,List.take_zero,List.drop_succ_cons,List.drop_zero]
    iterate 7 (refine ml (fun K hK=>?_);go_simp;refine hK _ ?_;clear hK K)
    refine ml (fun K hK=>?_);go_simp;refine ⟨_,HZ.out _,hK _ ?_⟩;clear hK K;refine ml (fun K hK=>?_);go_simp;refine hK _ ?_;clear hK K;refine xR ?_;go_wp2_with (go_at_call 128;refine (sJ _ _ _ _ _).mono ?_;rintro e w2 ⟨rfl,hm⟩;have hc2:w2.cell? ⟨w1.heap.size,2,none⟩=some (.int .i64 ((n:Nat):Int)):=cell_later hm (by go_keep));go_ret;have hg2:=dF bT.out (Ev hm (some b));refine ⟨hg2,Or.inl ⟨n,c,?_,rfl,?_⟩⟩
    ·rw [nh.out];simp [xL.out]
    ·exact aD.fT j9.out hm
   | false =>
    have HZ:Hid (∀ w,Calls Tryz.prog 129 #[.int .i64 ((n:Nat):Int)] w fun e w'=>e = .returned (.bool false)/\w'=w):=fun w=>by
     have:=Oo (n:Int) w;rwa [hz] at this
    have hn:¬ n<=300:=by simp at hz;omega
    have xL:=aa hn;clear hz hn;go_wp2_with fail;refine xS 9 mixed (by kernel_rfl) ?_;simp only [List.take_succ_cons,List.take_zero,List.drop_succ_cons,List.drop_zero]
    iterate 7 (refine ml (fun K hK=>?_);go_simp;refine hK _ ?_;clear hK K)
    refine ml (fun K hK=>?_);go_simp;refine ⟨_,HZ.out _,hK _ ?_⟩;clear hK K;refine ml (fun K hK=>?_);go_simp;refine hK _ ?_;clear hK K;refine xR ?_;go_wp2_with (go_at_call 128;refine (kK _ _ _ _ _).mono ?_;rintro e w2 ⟨rfl,hm⟩;dsimp only [bE]);have hg2:=dF bT.out (Ev hm (some b));exact ⟨rfl,hg2,Or.inr ⟨p,by rw [nh.out];simp [xL.out],rfl⟩⟩
  ·have hf:((k:Int) == (48:Int))=false:=by simp;omega
   go_wp2_with fail;refine xS 9 mixed (by kernel_rfl) ?_;simp only [List.take_succ_cons,List.take_zero,List.drop_succ_cons,List.drop_zero]
   iterate 9 (refine ml (fun K hK=>?_);go_simp;refine hK _ ?_;clear hK K)
   refine xR ?_;go_wp2_with (go_at_call 128;refine (kK _ _ _ _ _).mono ?_;rintro e w2 ⟨rfl,hm⟩;dsimp only [bE]);have hg2:=dF bT.out (Ev hm (some b));exact ⟨rfl,hg2,Or.inr ⟨p,by rw [nh.out];simp [hk],rfl⟩⟩
open Go.RowKit
def pd (t:ByteArray) (last:ByteArray) (a:Nat):RS ByteArray:=my (bO t) last a
theorem Qre (b a:Nat) (t last:ByteArray) (w:World) (hs:aD w b t a) (ha:a<=t.size) (ht:t.size<=2000) :
  Calls Tryz.prog 222 #[.pointer (some ⟨b,0,none⟩),.string last] w fun e w'=>w.grownBy w' (some b)/\((∃ n c,pd t last a = .ok n c/\e = .returned (.string n)/\aD w' b t c)∨(∃ p,pd t last a = .bad p/\e=bE p)):=by
 have HS:=aa hs;have hbl:=ax hs;have HN:=aa (wP b a t w hs ha ht);clear hs;go_enter Tryz.func222,Tryz.ntmps222;go_wp2_with fail;refine HN.out.mono ?_;rintro e w1 ⟨hg1,hc⟩;have iE:pd t last a=(match bO t a with|.tok k p _ l c=>if k=34/\eP ⟨l.toArray⟩=true/\leB ⟨l.toArray⟩ last=false then .ok ⟨l.toArray⟩ c else .bad p|.bad p=>.bad p):=by unfold pd my;cases bO t a<;>rfl
 cases cw:bO t a with
 | bad p =>
  rw [cw] at hc iE;have hc2:e=bE p:=hc;subst hc2;dsimp only [bE];exact ⟨rfl,hg1,Or.inr ⟨p,iE,rfl⟩⟩
 | tok k p n l c =>
  rw [cw] at hc iE;obtain ⟨rfl,hsc⟩ : e = .returned (bw k p ((n:Nat):Int) ⟨l.toArray⟩)/\aD w1 b t c:=hc;dsimp only [bw];have bT:=aa hg1;have j9:=aa hsc;have hsz:(⟨l.toArray⟩ : ByteArray).size<=9223372036854775807:=by have:=(wR ha cw).2.2.1;rw [sP];omega
  have sL:pd t last a=if k=34/\eP ⟨l.toArray⟩=true/\leB ⟨l.toArray⟩ last=false then .ok ⟨l.toArray⟩ c else .bad p:=iE
  clear iE cw;generalize (⟨l.toArray⟩ : ByteArray)=s at sL hsz ⊢;have nh:=aa sL;clear hg1 hsc sL HN
  by_cases hk:k=34
  ·subst hk
   cases hz:eP s with
   | true =>
    have HZ:Hid (∀ w,Calls Tryz.prog 59 #[.string s] w fun e w'=>e = .returned (.bool true)/\w'=w):=fun w=>by
     have:=qf s w hsz;rwa [hz] at this
    have VJ:=aa hz
    rcases X8 s last with ⟨hle,q1⟩|⟨hle,q1,rfl⟩|⟨hle,q1,q2,q3⟩
    ·have wM:=aa hle;clear hz hle;go_wp2_with fail;refine xS 15 mixed (by kernel_rfl) ?_;simp only [List.take_succ_cons,List.take_zero,List.drop_succ_cons,List.drop_zero]
     iterate 7 (refine ml (fun K hK=>?_);go_simp;refine hK _ ?_;clear hK K)
     refine ml (fun K hK=>?_);go_simp;refine ⟨_,HZ.out _,hK _ ?_⟩;clear hK K
     iterate 7 (refine ml (fun K hK=>?_);go_simp;refine hK _ ?_;clear hK K)
     refine xR ?_;go_wp2_with (go_at_call 128;refine (kK _ _ _ _ _).mono ?_;rintro e w2 ⟨rfl,hm⟩;dsimp only [bE]);have hg2:=dF bT.out (Ev hm (some b));exact ⟨rfl,hg2,Or.inr ⟨p,by rw [nh.out];simp [wM.out],rfl⟩⟩
    ·have wM:=aa hle;clear hz hle;go_wp2_with fail;refine xS 15 mixed (by kernel_rfl) ?_;simp only [List.take_succ_cons,List.take_zero,List.drop_succ_cons,List.drop_zero]
     iterate 7 (refine ml (fun K hK=>?_);go_simp;refine hK _ ?_;clear hK K)
     refine ml (fun K hK=>?_);go_simp;refine ⟨_,HZ.out _,hK _ ?_⟩;clear hK K
     iterate 7 (refine ml (fun K hK=>?_);go_simp;refine hK _ ?_;clear hK K)
     refine xR ?_;go_wp2_with (go_at_call 128;refine (kK _ _ _ _ _).mono ?_;rintro e w2 ⟨rfl,hm⟩;dsimp only [bE]);have hg2:=dF bT.out (Ev hm (some b));exact ⟨rfl,hg2,Or.inr ⟨p,by rw [nh.out];simp [wM.out],rfl⟩⟩
    ·have wM:=aa hle;clear hz hle q2;go_wp2_with fail;refine xS 15 mixed (by kernel_rfl) ?_;simp only [List.take_succ_cons,List.take_zero,List.drop_succ_cons,List.drop_zero]
     iterate 7 (refine ml (fun K hK=>?_);go_simp;refine hK _ ?_;clear hK K)
     refine ml (fun K hK=>?_);go_simp;refine ⟨_,HZ.out _,hK _ ?_⟩;clear hK K
     iterate 7 (refine ml (fun K hK=>?_);go_simp;refine hK _ ?_;clear hK K)
     refine xR ?_;go_wp2_with (go_at_call 128;refine (sJ _ _ _ _ _).mono ?_;rintro e w2 ⟨rfl,hm⟩;have hc2:w2.cell? ⟨w1.heap.size,3,none⟩=some (.string s):=cell_later hm (by go_keep));go_ret;have hg2:=dF bT.out (Ev hm (some b));refine ⟨hg2,Or.inl ⟨s,c,?_,rfl,?_⟩⟩
     ·rw [nh.out];simp [VJ.out,wM.out]
     ·exact aD.fT j9.out hm
   | false =>
    have HZ:Hid (∀ w,Calls Tryz.prog 59 #[.string s] w fun e w'=>e = .returned (.bool false)/\w'=w):=fun w=>by
     have:=qf s w hsz;rwa [hz] at this
    have VJ:=aa hz;clear hz;go_wp2_with fail;refine xS 15 mixed (by kernel_rfl) ?_;simp only [List.take_succ_cons,List.take_zero,List.drop_succ_cons,List.drop_zero]
    iterate 7 (refine ml (fun K hK=>?_);go_simp;refine hK _ ?_;clear hK K)
    refine ml (fun K hK=>?_);go_simp;refine ⟨_,HZ.out _,hK _ ?_⟩;clear hK K
    iterate 7 (refine ml (fun K hK=>?_);go_simp;refine hK _ ?_;clear hK K)
    refine xR ?_;go_wp2_with (go_at_call 128;refine (kK _ _ _ _ _).mono ?_;rintro e w2 ⟨rfl,hm⟩;dsimp only [bE]);have hg2:=dF bT.out (Ev hm (some b));exact ⟨rfl,hg2,Or.inr ⟨p,by rw [nh.out];simp [VJ.out],rfl⟩⟩
  ·have hf:((k:Int) == (34:Int))=false:=by simp;omega
   go_wp2_with fail;refine xS 15 mixed (by kernel_rfl) ?_;simp only [List.take_succ_cons,List.take_zero,List.drop_succ_cons,List.drop_zero]
   iterate 15 (refine ml (fun K hK=>?_);go_simp;refine hK _ ?_;clear hK K)
   refine xR ?_;go_wp2_with (go_at_call 128;refine (kK _ _ _ _ _).mono ?_;rintro e w2 ⟨rfl,hm⟩;dsimp only [bE]);have hg2:=dF bT.out (Ev hm (some b));exact ⟨rfl,hg2,Or.inr ⟨p,by rw [nh.out];simp [hk],rfl⟩⟩
open Go.RowKit
def Bv (t:ByteArray) (a:Nat):RS ByteArray:=xU (bO t) a
theorem Qnq {w w1:World} {b:Nat} {cs:Array Value} {T:TypeId} (h:(w.alloc (.cells cs T)).grownBy w1 (some b)) (hb:b<w.heap.size):w1.heap[w.heap.size]? = some (.cells cs T (0,0)) :=
 (h.block w.heap.size (by simp) (by intro e;cases e;omega)).trans (heap_alloc_new _ _)
theorem Qki (b a:Nat) (t:ByteArray) (w:World) (hs:aD w b t a) (ha:a<=t.size) (ht:t.size<=2000) :
  Calls Tryz.prog 223 #[.pointer (some ⟨b,0,none⟩)] w fun e w'=>w.grownBy w' (some b)/\((∃ n c,Bv t a = .ok n c/\e = .returned (.agg (ah (rd n)))/\aD w' b t c)∨(∃ p,Bv t a = .bad p/\e=bE p)):=by
 have HS:=aa hs;have hbl:=ax hs;clear hs;have oy:=(zero_of_info Tryz.bY).1;go_enter Tryz.func223,Tryz.ntmps223;go_wp2_with fail;refine (wP b a t _ (HS.out.later ((Below.refl _ _).alloc (Nat.le_refl _) _)) ha ht).mono ?_;rintro e w1 ⟨hg1,hc⟩;have iE:Bv t a=(match bO t a with|.tok k p _ l c=>if k=34/\fE ⟨l.toArray⟩=true then .ok ⟨l.toArray⟩ c else .bad p|.bad p=>.bad p):=by unfold Bv xU;cases bO t a<;>rfl
 cases cw:bO t a with
 | bad p =>
  rw [cw] at hc iE;have hc2:e=bE p:=hc;subst hc2;dsimp only [bE];exact ⟨rfl,dF (World.grownBy_alloc _ _ _) hg1,Or.inr ⟨p,iE,rfl⟩⟩
 | tok k p n l c =>
  rw [cw] at hc iE;obtain ⟨rfl,hsc⟩ : e = .returned (bw k p ((n:Nat):Int) ⟨l.toArray⟩)/\aD w1 b t c:=hc;dsimp only [bw];have bT:=aa hg1;have j9:=aa hsc;have sL:Bv t a=if k=34/\fE ⟨l.toArray⟩=true then .ok ⟨l.toArray⟩ c else .bad p:=iE
  clear iE cw;generalize (⟨l.toArray⟩ : ByteArray)=s at sL ⊢;have nh:=aa sL;have hz:w1.heap[w.heap.size]? = some (.cells (ah (Sha.zeros 32)) 117 (0,0)):=Qnq hg1 hbl;have HZ:=aa hz;have Fh:=eB hz;clear hg1 hsc sL hz;go_wp2_with fail;refine (Kh s _).mono ?_;rintro e w2 ⟨rfl,hm⟩;dsimp only;generalize eo:rd s=ds;have a8:ds.length=32:=by rw [<- eo];exact jm _
  have na:=aa eo;clear eo;have t0:w2.heap[w1.heap.size]? = some (.cells #[.int .u8 ((k:Nat):Int),.int .i64 ((p:Nat):Int),.int .i64 ((n:Nat):Int),.string s] 204 (0,0)):=(hm.block _ (by rw [size_alloc];omega)).trans (heap_alloc_new _ _);have t1:w2.cell? ⟨w1.heap.size,0,none⟩=some (.int .u8 ((k:Nat):Int)):=cell_of_row w2 w1.heap.size 0 _ _ _ t0;have t2:w2.cell? ⟨w1.heap.size,1,none⟩=some (.int .i64 ((p:Nat):Int)):=cell_of_row w2 w1.heap.size 1 _ _ _ t0;have t3:w2.cell? ⟨w1.heap.size,2,none⟩=some (.int .i64 ((n:Nat):Int)):=cell_of_row w2 w1.heap.size 2 _ _ _ t0;have t4:w2.cell? ⟨w1.heap.size,3,none⟩=some (.string s):=cell_of_row w2 w1.heap.size 3 _ _ _ t0;have tl:=eB t0;have hg2:w.grownBy w2 (some b):=dF (dF (World.grownBy_alloc _ _ _) bT.out) (Bw hm (some b));have bP:=aa hg2;have nH:=aa (aD.eU j9.out hm);have hz2:w2.heap[w.heap.size]? = some (.cells (ah (Sha.zeros 32)) 117 (0,0)):=(hm.block _ (by rw [size_alloc];omega)).trans ((((Below.refl w1.heap.size w1).alloc (Nat.le_refl _) _).block _ Fh).trans HZ.out);have HZ2:=aa hz2;have HM:=aa hm;clear hm hg2 t0 hz2 j9 HZ bT
  by_cases hk:k=34
  ·subst hk
   cases dH:fE s with
   | true =>
    go_wp2_with (first|(refine wpList_store_row rfl 117 _ _ rfl w2.heap.size _ rfl rfl 117 _ (heap_alloc_new _ _) (bL _ a8) (by rw [aY,aY,a8,Sha.af]) (dQ _) ?_;rw [World.setRow_alloc_new])|(go_at_call 128;refine (sJ _ _ _ _ _).mono ?_;rintro e w3 ⟨rfl,kM⟩;have hD3:w3.heap[w2.heap.size]? = some (.cells (ah ds) 117 (0,0)):=(kM.block _ (by rw [size_alloc];omega)).trans (heap_alloc_new _ _);have Yi:w3.heap[w.heap.size]? = some (.cells (ah (Sha.zeros 32)) 117 (0,0)):=(kM.block _ (by rw [size_alloc];omega)).trans ((((Below.refl w2.heap.size w2).alloc (Nat.le_refl _) _).block _ (by omega)).trans HZ2.out))|(refine wpList_load_row rfl 117 _ rfl w2.heap.size rfl 117 _ _ _ hD3 Tryz.underlying117 rfl (bL _ a8) ?_)|(refine wpList_store_row rfl 117 _ _ rfl w.heap.size _ rfl rfl 117 _ Yi (bL _ a8) (by rw [aY,aY,a8,Sha.af]) (dQ _) ?_));have kL:Below w.heap.size w3 (w3.setRow w.heap.size (ah ds)):=(Below.refl _ _).setRow (Nat.le_refl _) _;refine bodyPost_ret (results_cell_row Tryz.results223 _ _ w.heap.size 117 _ (0,0) _ rfl (setRow_heap _ _ _ _ _ _ Yi) Tryz.underlying117 rfl (bL _ a8)) rfl ⟨?_,Or.inl ⟨s,c,?_,?_,?_⟩⟩
    ·exact wQ (dF bP.out (Bw kM (some b))) kL
    ·rw [nh.out];simp [dH]
    ·rw [na.out]
    ·exact (kL.block b hbl).trans (aD.eU nH.out kM)
   | false =>
    go_wp2_with (first|(refine wpList_store_row rfl 117 _ _ rfl w2.heap.size _ rfl rfl 117 _ (heap_alloc_new _ _) (bL _ a8) (by rw [aY,aY,a8,Sha.af]) (dQ _) ?_;rw [World.setRow_alloc_new])|(go_at_call 128;refine (kK _ _ _ _ _).mono ?_;rintro e w3 ⟨rfl,kM⟩;dsimp only [bE]));exact ⟨rfl,dF bP.out (Bw kM (some b)),Or.inr ⟨p,by rw [nh.out];simp [dH],rfl⟩⟩
  ·have hf:((k:Int) == (34:Int))=false:=by simp;omega
   go_wp2_with (first|(refine wpList_store_row rfl 117 _ _ rfl w2.heap.size _ rfl rfl 117 _ (heap_alloc_new _ _) (bL _ a8) (by rw [aY,aY,a8,Sha.af]) (dQ _) ?_;rw [World.setRow_alloc_new])|(go_at_call 128;refine (kK _ _ _ _ _).mono ?_;rintro e w3 ⟨rfl,kM⟩;dsimp only [bE]));exact ⟨rfl,dF bP.out (Bw kM (some b)),Or.inr ⟨p,by rw [nh.out];simp [hk],rfl⟩⟩
end Go.Proofs.YtncigfibncmioaaGreatDoor
