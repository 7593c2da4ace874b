/-
  PROVED HERE: what the program's function next of the index's scanner answers: the next token, or that it gives up at a place.
-/
import Derived.Test.YtncigfibncmioaaGreatDoorScanNum
import Derived.Test.YtncigfibncmioaaGreatDoorDig
import Derived.Test.YtncigfibncmioaaGreatDoorKPick
import Derived.Laws.MakeOwn
import Derived.Laws.CopyRow
import Derived.Laws.CopyOwn
import Derived.Test.YtncigfibncmioaaGreatDoorKCont
namespace Go.Proofs.YtncigfibncmioaaGreatDoor
set_option maxHeartbeats 2000000
set_option maxRecDepth 100000
open Go.RowKit
theorem skipS_le (t:ByteArray) (a:Nat) (h:a≤t.size):skipS t a≤t.size:=by
 rw [skipS]
 split
 ·split
  ·exact skipS_le t (a+1) (by omega)
  ·exact h
 ·exact h
termination_by t.size - a
theorem mark_index (x:Nat) (hx:x<256):decide (0≤Lib.indexByte [123,125,91,93,58,44] ((x:Int).toNat.toUInt8))=markB x:=by
 have h:∀ n,n<256→decide (0≤Lib.indexByte [123,125,91,93,58,44] (Nat.toUInt8 n))=markB n:=by decide +kernel
 rw [show ((x:Int).toNat)=x by omega]
 exact h x hx
def NG.says (e:Ending) (w':World) (b:Nat) (t:ByteArray):NG Nat→Prop
 | .tok k p n l c=>e = .returned (tokV k p ((n:Nat):Int) ⟨l.toArray⟩)∧ScIs w' b t c
 | .bad p=>e=gaveUp p
theorem set4 {W:World} {g:Nat} {c0 c1 c2 c3:Value} (v0 v1 v2 v3:Value) (h:W.heap[g]? = some (.cells #[c0,c1,c2,c3] 204 (0,0))) :
  ((((W.setCell ⟨g,0,none⟩ v0).setCell ⟨g,1,none⟩ v1).setCell ⟨g,2,none⟩ v2).setCell ⟨g,3,none⟩ v3).heap[g]? = some (.cells #[v0,v1,v2,v3] 204 (0,0)) :=
 row_store v3 (row_store v2 (row_store v1 (row_store v0 h)))
theorem size87 (v0 v1 v2 v3:Value):(Tryz.prog.info? 204).map (·.size)=some (#[v0,v1,v2,v3]:Array Value).size:=by kernel_rfl
theorem below_set4 {B g:Nat} (X:World) (h:B≤g) (v0 v1 v2 v3:Value):Below B X ((((X.setCell ⟨g,0,none⟩ v0).setCell ⟨g,1,none⟩ v1).setCell ⟨g,2,none⟩ v2).setCell ⟨g,3,none⟩ v3) :=
 ((((Below.refl B X).setCell (p:=⟨g,0,none⟩) h v0).setCell (p:=⟨g,1,none⟩) h v1).setCell (p:=⟨g,2,none⟩) h v2).setCell (p:=⟨g,3,none⟩) h v3
theorem ret_tok {b a k p n c:Nat} {l:List UInt8} {t:ByteArray} {w X:World} {tmps:Array Value} (hp:tmps.getD 2 undef = .pointer (some ⟨w.heap.size,0,none⟩)) (hX:w.grownBy X (some b))
  (hres:X.heap[w.heap.size]? = some (.cells #[.int .u8 0,.int .i64 0,.int .i64 0,.string ⟨#[]⟩] 204 (0,0))) (hsc:ScIs X b t c) (hbl:b<w.heap.size) (hsay:nextS t a = .tok k p n l c) :
  bodyPost Tryz.prog Tryz.f124 (fun e w'=>w.grownBy w' (some b)∧NG.says e w' b t (nextS t a)) Exit.ret { tmps:=tmps,defers:=[] }
   ((((X.setCell ⟨w.heap.size,0,none⟩ (.int .u8 ((k:Nat):Int))).setCell ⟨w.heap.size,1,none⟩ (.int .i64 ((p:Nat):Int))).setCell ⟨w.heap.size,2,none⟩ (.int .i64 ((n:Nat):Int))).setCell ⟨w.heap.size,3,none⟩ (.string ⟨l.toArray⟩)):=by
 have hB:=below_set4 X (Nat.le_refl w.heap.size) (.int .u8 ((k:Nat):Int)) (.int .i64 ((p:Nat):Int)) (.int .i64 ((n:Nat):Int)) (.string ⟨l.toArray⟩)
 refine bodyPost_ret (results_cell_row Tryz.results124 _ _ w.heap.size 204 _ (0,0) _ hp (set4 _ _ _ _ hres) Tryz.underlying204 rfl (size87 _ _ _ _)) rfl ?_
 refine ⟨grown_then hX hB,?_⟩
 rw [hsay]
 exact ⟨rfl,(hB.block b hbl).trans hsc⟩
theorem next_core (b a:Nat) (t:ByteArray) (w:World) (hs:ScIs w b t a) (ha:a≤t.size) (ht:t.size≤2000) :
  Calls Tryz.prog 124 #[.pointer (some ⟨b,0,none⟩)] w fun e w'=>w.grownBy w' (some b)∧(nextS t a).says e w' b t:=by
 have HS:=hide hs
 have hbl:=lt_heap hs
 have hple:=skipS_le t a ha
 have hnx:nextS t a=nextAt t (skipS t a):=rfl
 have HK:=hide (skip_any b a t)
 go_enter Tryz.func124,Tryz.ntmps124
 go_wp2_with fail
 have hb0:Below w.heap.size w (w.alloc (.cells #[.int .u8 0,.int .i64 0,.int .i64 0,.string ⟨#[]⟩] 204)):=(Below.refl _ _).alloc (Nat.le_refl _) _
 refine (HK.out _ (hs.later hb0) ha ht).mono ?_
 rintro _ w1 ⟨rfl,hg1,hsc1⟩
 dsimp only
 generalize skipS t a=p at hple hnx hsc1
 have hres:w1.heap[w.heap.size]? = some (.cells #[.int .u8 0,.int .i64 0,.int .i64 0,.string ⟨#[]⟩] 204 (0,0)):=(hg1.block _ (by rw [size_alloc];omega) (fun e=>by injection e with e;omega)).trans (heap_alloc_new _ _)
 have HG1:=hide (grownBy_trans (grownBy_below hb0 (some b)) hg1)
 have HSC1:=hide hsc1
 have HRES:=hide hres
 have HNX:=hide hnx
 have c0:=hsc1.c0
 have c1:=hsc1.c1
 have cf:=fun j=>frozen_of_row w1 b j _ _ hsc1
 have hbl1:=lt_heap hsc1
 have hrl:=lt_heap hres
 have r0:w1.cell? ⟨w.heap.size,0,none⟩=some (.int .u8 0):=cell_of_row w1 _ 0 _ _ _ hres
 have r1:w1.cell? ⟨w.heap.size,1,none⟩=some (.int .i64 0):=cell_of_row w1 _ 1 _ _ _ hres
 have r2:w1.cell? ⟨w.heap.size,2,none⟩=some (.int .i64 0):=cell_of_row w1 _ 2 _ _ _ hres
 have r3:w1.cell? ⟨w.heap.size,3,none⟩=some (.string ⟨#[]⟩):=cell_of_row w1 _ 3 _ _ _ hres
 have rf:=fun j=>frozen_of_row w1 w.heap.size j _ _ hres
 clear hs hg1 hsc1 hres hnx hb0 HK ha
 by_cases hlt:p<t.size
 ·have e1:((p:Int) == (t.size:Int))=false:=by simp;omega
  obtain ⟨x,hx⟩ : ∃ x:Nat,x=(t[p]'hlt).toNat:=⟨_,rfl⟩
  have hx2:((t[p]'hlt).toNat:Int)=(x:Int):=by rw [hx]
  have hx256:x<256:=by rw [hx];exact UInt8.toNat_lt _
  have hi:=mark_index x hx256
  have hnx:nextS t a=if markB x then .tok x p 0 [] (p+1) else if digB x then (match numS t p p 0 with|some (n,c)=>.tok 48 p n [] c|none=>.bad p) else if x=34 then (match strS t (p+1) [] with|some (l,c)=>.tok 34 p 0 l c|none=>.bad p) else .bad p:=by
   rw [HNX.out,nextAt,dif_pos hlt,← hx]
   rfl
  have HNX2:=hide hnx
  have HX:=hide hx
  clear hx hnx HNX
  obtain ⟨ix,hix⟩ : ∃ ix,ix=Lib.indexByte [123,125,91,93,58,44] ((x:Int).toNat.toUInt8):=⟨_,rfl⟩
  rw [← hix] at hi
  have hcall:∀ w,Calls Tryz.prog 101 #[.string ⟨#[123,125,91,93,58,44]⟩,.int .u8 (x:Int)] w fun e w'=>e = .returned (.int .i64 ix)∧w'=w:=fun w=>by
   have:=Tryz.strings_IndexByte ⟨#[123,125,91,93,58,44]⟩ (x:Int) w
   rw [hix]
   exact this
  have HC:=hide hcall
  have HD:Hid (∀ w,Calls Tryz.prog 156 #[.int .u8 ((x:Nat):Int)] w fun e w'=>e = .returned (.bool (digB x))∧w'=w):=fun w=>isDigit_any x w
  clear hcall hix
  have HB1:Hid (∀ (m:Nat) (v:Value),Below w.heap.size w1 (((w1.alloc (.cells #[.int .u8 0,.int .i64 ((p:Nat):Int),.int .i64 0,.string ⟨#[]⟩] 204)).drewN m).setCell ⟨w1.heap.size,0,none⟩ v)):=fun m v=>(((Below.refl _ _).alloc (Nat.le_of_lt hrl) _).drewN _).setCell (p:=⟨w1.heap.size,0,none⟩) (Nat.le_of_lt hrl) _
  have HT1:Hid (∀ (m:Nat) (v:Value),(((w1.alloc (.cells #[.int .u8 0,.int .i64 ((p:Nat):Int),.int .i64 0,.string ⟨#[]⟩] 204)).drewN m).setCell ⟨w1.heap.size,0,none⟩ v).heap[w1.heap.size]? = some (.cells #[v,.int .i64 ((p:Nat):Int),.int .i64 0,.string ⟨#[]⟩] 204 (0,0))):=fun m v=>row_store v (show ((w1.alloc (.cells #[.int .u8 0,.int .i64 ((p:Nat):Int),.int .i64 0,.string ⟨#[]⟩] 204)).drewN m).heap[w1.heap.size]? = _ from heap_alloc_new _ _)
  have HR1:Hid (∀ (m:Nat) (v:Value),(((w1.alloc (.cells #[.int .u8 0,.int .i64 ((p:Nat):Int),.int .i64 0,.string ⟨#[]⟩] 204)).drewN m).setCell ⟨w1.heap.size,0,none⟩ v).heap[w.heap.size]? = some (.cells #[.int .u8 0,.int .i64 0,.int .i64 0,.string ⟨#[]⟩] 204 (0,0))):=fun m v=>by
   rw [heap_setCell_other _ _ _ _ (by simp;omega)]
   exact (Below.heap_alloc w1 _ _ hrl).trans HRES.out
  cases hmk:markB x with
  | true =>
   rw [hmk] at hi
   have hsay:nextS t a = .tok x p 0 [] (p+1):=by rw [HNX2.out,hmk];rfl
   have HSAY:=hide hsay
   clear hsay hmk
   go_wp2
   go_quiet (fail)
   go_wp2
   go_quiet (fail)
   go_wp2_with (go_at_call 101;refine (HC.out _).mono ?_;rintro _ w2 ⟨rfl,rfl⟩)
   rw [show ((p:Int)+1)=((p+1:Nat):Int) by omega]
   refine ret_tok (k:=x) (p:=p) (n:=0) (l:=[]) rfl (grownBy_trans (grown_then HG1.out (HB1.out _ _)) (grownBy_set _ _ _ _)) ?_ (ScIs.set (((HB1.out _ _).block b hbl).trans HSC1.out) (p+1)) hbl HSAY.out
   rw [heap_setCell_other _ _ _ _ (by simp;omega),heap_setCell_other _ _ _ _ (by simp;omega)]
   exact (Below.heap_alloc w1 _ _ hrl).trans HRES.out
  | false =>
   rw [hmk] at hi
   have HMK:=hide hmk
   cases hdg:digB x with
   | true =>
    have HN:=hide (scanNum_core b p 48 0 ⟨#[]⟩ t)
    have HD2:Hid (∀ w,Calls Tryz.prog 156 #[.int .u8 ((x:Nat):Int)] w fun e w'=>e = .returned (.bool true)∧w'=w):=fun w=>by
     have:=HD.out w
     rwa [hdg] at this
    have hsay:nextS t a=(match numS t p p 0 with|some (n,c)=>.tok 48 p n [] c|none=>.bad p):=by rw [HNX2.out,hmk,hdg];rfl
    have HSAY:=hide hsay
    clear hsay hmk hdg HD
    go_wp2
    go_quiet (fail)
    go_wp2
    go_quiet (fail)
    go_wp2_with (first|(go_at_call 101;refine (HC.out _).mono ?_;rintro _ w2 ⟨rfl,rfl⟩)|(go_at_call 156;refine (HD2.out _).mono ?_;rintro _ w2 ⟨rfl,rfl⟩))
    refine (HN.out _ (((HB1.out _ _).block b hbl).trans HSC1.out) hple ht).mono ?_
    rintro e w2 ⟨hg2,hc2⟩
    have hsz2:=hg2.size
    have hss:∀ m v,(((w1.alloc (.cells #[.int .u8 0,.int .i64 ((p:Nat):Int),.int .i64 0,.string ⟨#[]⟩] 204)).drewN m).setCell ⟨w1.heap.size,0,none⟩ v).heap.size=w1.heap.size+1:=fun m v=>by simp
    rw [hss] at hsz2
    have ht2:=(hg2.block w1.heap.size (by rw [hss];omega) (fun e=>by injection e with e;omega)).trans (HT1.out _ _)
    have hr2:=(hg2.block w.heap.size (by rw [hss];omega) (fun e=>by injection e with e;omega)).trans (HR1.out _ _)
    have HG2:=hide (grownBy_trans (grown_then HG1.out (HB1.out _ _)) hg2)
    rcases hc2 with ⟨n,c,hnum,rfl,hsc2⟩|⟨hnum,rfl⟩
    ·dsimp only
     have hsay2:nextS t a = .tok 48 p n [] c:=by rw [HSAY.out,hnum]
     have HSAY2:=hide hsay2
     clear hsay2 hnum
     have HT2:=hide ht2
     have HR2:=hide hr2
     have HSC2:=hide hsc2
     have k0:w2.cell? ⟨w1.heap.size,0,none⟩=some (.int .u8 48):=cell_of_row w2 _ 0 _ _ _ ht2
     have k1:w2.cell? ⟨w1.heap.size,1,none⟩=some (.int .i64 ((p:Nat):Int)):=cell_of_row w2 _ 1 _ _ _ ht2
     have k2:w2.cell? ⟨w1.heap.size,2,none⟩=some (.int .i64 0):=cell_of_row w2 _ 2 _ _ _ ht2
     have k3:w2.cell? ⟨w1.heap.size,3,none⟩=some (.string ⟨#[]⟩):=cell_of_row w2 _ 3 _ _ _ ht2
     have kf:=fun j=>frozen_of_row w2 w1.heap.size j _ _ ht2
     have s0:w2.cell? ⟨w.heap.size,0,none⟩=some (.int .u8 0):=cell_of_row w2 _ 0 _ _ _ hr2
     have s1:w2.cell? ⟨w.heap.size,1,none⟩=some (.int .i64 0):=cell_of_row w2 _ 1 _ _ _ hr2
     have s2:w2.cell? ⟨w.heap.size,2,none⟩=some (.int .i64 0):=cell_of_row w2 _ 2 _ _ _ hr2
     have s3:w2.cell? ⟨w.heap.size,3,none⟩=some (.string ⟨#[]⟩):=cell_of_row w2 _ 3 _ _ _ hr2
     have sf:=fun j=>frozen_of_row w2 w.heap.size j _ _ hr2
     have hne:¬ w1.heap.size=w.heap.size:=by omega
     clear ht2 hr2 hsc2 hg2 hss r0 r1 r2 r3 rf c0 c1 cf
     go_wp2
     have hX:Below w.heap.size w2 (w2.setCell ⟨w1.heap.size,2,none⟩ (.int .i64 ((n:Nat):Int))):=(Below.refl _ _).setCell (p:=⟨w1.heap.size,2,none⟩) (Nat.le_of_lt hrl) _
     refine ret_tok (k:=48) (p:=p) (n:=n) (l:=[]) rfl (grown_then HG2.out hX) ?_ ((hX.block b hbl).trans HSC2.out) hbl HSAY2.out
     rw [heap_setCell_other _ _ _ _ (by simp;omega)]
     exact HR2.out
    ·dsimp only [gaveUp]
     refine ⟨rfl,HG2.out,?_⟩
     rw [HSAY.out,hnum]
     rfl
   | false =>
    have HD2:Hid (∀ w,Calls Tryz.prog 156 #[.int .u8 ((x:Nat):Int)] w fun e w'=>e = .returned (.bool false)∧w'=w):=fun w=>by
     have:=HD.out w
     rwa [hdg] at this
    by_cases h34:x=34
    ·have HN:=hide (scanStr_core b p 34 p 0 ⟨#[]⟩ t)
     have hsay:nextS t a=(match strS t (p+1) [] with|some (l,c)=>.tok 34 p 0 l c|none=>.bad p):=by rw [HNX2.out,hmk,hdg,if_pos h34];rfl
     have HSAY:=hide hsay
     subst h34
     clear hsay hmk hdg HD
     go_wp2
     go_quiet (fail)
     go_wp2
     go_quiet (fail)
     go_wp2_with (first|(go_at_call 101;refine (HC.out _).mono ?_;rintro _ w2 ⟨rfl,rfl⟩)|(go_at_call 156;refine (HD2.out _).mono ?_;rintro _ w2 ⟨rfl,rfl⟩))
     refine (HN.out _ (((HB1.out _ _).block b hbl).trans HSC1.out) hlt ht).mono ?_
     rintro e w2 ⟨hg2,hc2⟩
     have hsz2:=hg2.size
     have hss:∀ m v,(((w1.alloc (.cells #[.int .u8 0,.int .i64 ((p:Nat):Int),.int .i64 0,.string ⟨#[]⟩] 204)).drewN m).setCell ⟨w1.heap.size,0,none⟩ v).heap.size=w1.heap.size+1:=fun m v=>by simp
     rw [hss] at hsz2
     have ht2:=(hg2.block w1.heap.size (by rw [hss];omega) (fun e=>by injection e with e;omega)).trans (HT1.out _ _)
     have hr2:=(hg2.block w.heap.size (by rw [hss];omega) (fun e=>by injection e with e;omega)).trans (HR1.out _ _)
     have HG2:=hide (grownBy_trans (grown_then HG1.out (HB1.out _ _)) hg2)
     rcases hc2 with ⟨l,c,hnum,rfl,hsc2⟩|⟨hnum,rfl⟩
     ·dsimp only
      have hsay2:nextS t a = .tok 34 p 0 l c:=by rw [HSAY.out,hnum]
      have HSAY2:=hide hsay2
      clear hsay2 hnum
      have HT2:=hide ht2
      have HR2:=hide hr2
      have HSC2:=hide hsc2
      have k0:w2.cell? ⟨w1.heap.size,0,none⟩=some (.int .u8 34):=cell_of_row w2 _ 0 _ _ _ ht2
      have k1:w2.cell? ⟨w1.heap.size,1,none⟩=some (.int .i64 ((p:Nat):Int)):=cell_of_row w2 _ 1 _ _ _ ht2
      have k2:w2.cell? ⟨w1.heap.size,2,none⟩=some (.int .i64 0):=cell_of_row w2 _ 2 _ _ _ ht2
      have k3:w2.cell? ⟨w1.heap.size,3,none⟩=some (.string ⟨#[]⟩):=cell_of_row w2 _ 3 _ _ _ ht2
      have kf:=fun j=>frozen_of_row w2 w1.heap.size j _ _ ht2
      have s0:w2.cell? ⟨w.heap.size,0,none⟩=some (.int .u8 0):=cell_of_row w2 _ 0 _ _ _ hr2
      have s1:w2.cell? ⟨w.heap.size,1,none⟩=some (.int .i64 0):=cell_of_row w2 _ 1 _ _ _ hr2
      have s2:w2.cell? ⟨w.heap.size,2,none⟩=some (.int .i64 0):=cell_of_row w2 _ 2 _ _ _ hr2
      have s3:w2.cell? ⟨w.heap.size,3,none⟩=some (.string ⟨#[]⟩):=cell_of_row w2 _ 3 _ _ _ hr2
      have sf:=fun j=>frozen_of_row w2 w.heap.size j _ _ hr2
      have hne:¬ w1.heap.size=w.heap.size:=by omega
      clear ht2 hr2 hsc2 hg2 hss r0 r1 r2 r3 rf c0 c1 cf
      go_wp2
      have hX:Below w.heap.size w2 (w2.setCell ⟨w1.heap.size,3,none⟩ (.string ⟨l.toArray⟩)):=(Below.refl _ _).setCell (p:=⟨w1.heap.size,3,none⟩) (Nat.le_of_lt hrl) _
      refine ret_tok (k:=34) (p:=p) (n:=0) (l:=l) rfl (grown_then HG2.out hX) ?_ ((hX.block b hbl).trans HSC2.out) hbl HSAY2.out
      rw [heap_setCell_other _ _ _ _ (by simp;omega)]
      exact HR2.out
     ·dsimp only [gaveUp]
      refine ⟨rfl,HG2.out,?_⟩
      rw [HSAY.out,hnum]
      rfl
    ·have hsay:nextS t a = .bad p:=by rw [HNX2.out,hmk,hdg,if_neg h34];rfl
     have HSAY:=hide hsay
     have e34:((x:Int) == 34)=false:=by simp;omega
     clear hsay hmk hdg HD h34
     go_wp2
     go_quiet (fail)
     go_wp2
     go_quiet (fail)
     go_wp2_with (first|(go_at_call 101;refine (HC.out _).mono ?_;rintro _ w2 ⟨rfl,rfl⟩)|(go_at_call 156;refine (HD2.out _).mono ?_;rintro _ w2 ⟨rfl,rfl⟩)|(go_at_call 128;refine (must_bad 0 p 0 ⟨#[]⟩ _).mono ?_;rintro _ w3 ⟨rfl,hm⟩;dsimp only [gaveUp]))
     refine ⟨rfl,?_,?_⟩
     ·have hB2:Below w.heap.size w1 w3:=(((Below.refl _ _).alloc (Nat.le_of_lt hrl) _).drewN _).trans (hm.mono (by simp;omega))
      exact grown_then HG1.out hB2
     ·rw [HSAY.out]
      rfl
 ·have hpe:p=t.size:=by omega
  subst hpe
  clear hlt hple
  have hsay:nextS t a = .tok 0 t.size 0 [] t.size:=by rw [HNX.out,nextAt,dif_neg (by omega)]
  have HSAY:=hide hsay
  clear hsay
  go_wp2
  go_quiet (fail)
  go_wp2
  have hX:Below w.heap.size w1 (((w1.alloc (.cells #[.int .u8 0,.int .i64 ((t.size:Nat):Int),.int .i64 0,.string ⟨#[]⟩] 204)).drewN nq).setCell ⟨w1.heap.size,0,none⟩ (.int .u8 0)):=(((Below.refl _ _).alloc (Nat.le_of_lt hrl) _).drewN nq).setCell (Nat.le_of_lt hrl) _
  refine ret_tok (k:=0) (p:=t.size) (n:=0) (l:=[]) rfl (grown_then HG1.out hX) ?_ ((hX.block b hbl).trans HSC1.out) hbl HSAY.out
  rw [heap_setCell_other _ _ _ _ (by simp;omega)]
  exact (Below.heap_alloc w1 _ _ hrl).trans HRES.out
set_option maxHeartbeats 2000000
set_option maxRecDepth 100000
open Go.RowKit
theorem grownBy_alloc_below {w w2:World} {o:Obj} (h:Below (w.alloc o).heap.size (w.alloc o) w2) (r:Option Nat):w.grownBy w2 r :=
 grownBy_trans (grownBy_below ((Below.refl _ _).alloc (Nat.le_refl _) o) r) (grownBy_below h r)
theorem ScIs.later_alloc {w w2:World} {b a:Nat} {t:ByteArray} {o:Obj} (hs:ScIs w b t a) (h:Below (w.alloc o).heap.size (w.alloc o) w2):ScIs w2 b t a :=
 (hs.later ((Below.refl _ _).alloc (Nat.le_refl _) o)).later h
abbrev RS (α:Type):=RG Nat α
def markS (t:ByteArray) (a kind:Nat):RS Unit:=markG (nextS t) a kind
theorem mark_core (b a kind:Nat) (t:ByteArray) (w:World) (hs:ScIs w b t a) (ha:a≤t.size) (ht:t.size≤2000) :
  Calls Tryz.prog 177 #[.pointer (some ⟨b,0,none⟩),.int .u8 ((kind:Nat):Int)] w fun e w'=>w.grownBy w' (some b)∧((∃ c,markS t a kind = .ok () c∧e = .returned (.tuple #[])∧ScIs w' b t c)∨(∃ p,markS t a kind = .bad p∧e=gaveUp p)):=by
 have HS:=hide hs
 have hbl:=lt_heap hs
 have HN:=hide (next_core b a t w hs ha ht)
 clear hs
 go_enter Tryz.func177,Tryz.ntmps177
 go_wp2_with fail
 refine HN.out.mono ?_
 rintro e w1 ⟨hg1,hc⟩
 have hms:markS t a kind=(match nextS t a with|.tok k p _ _ c=>if k=kind then .ok () c else .bad p|.bad p=>.bad p):=by unfold markS markG;cases nextS t a<;>rfl
 cases hnx:nextS t a with
 | bad p =>
  rw [hnx] at hc hms
  have hc2:e=gaveUp p:=hc
  subst hc2
  dsimp only [gaveUp]
  exact ⟨rfl,hg1,Or.inr ⟨p,hms,rfl⟩⟩
 | tok k p n l c =>
  rw [hnx] at hc hms
  obtain ⟨rfl,hsc⟩ : e = .returned (tokV k p ((n:Nat):Int) ⟨l.toArray⟩)∧ScIs w1 b t c:=hc
  dsimp only [tokV]
  have HG1:=hide hg1
  have HSC:=hide hsc
  have HMS:=hide hms
  clear hg1 hsc hms hnx HN
  by_cases hk:k=kind
  ·subst hk
   go_wp2_with fail
   refine (must_ok _ _ _ _ _).mono ?_
   rintro e w2 ⟨rfl,hm⟩
   dsimp only
   go_wp2_with fail
   go_end0
   have hg2:=grownBy_trans HG1.out (grownBy_alloc_below hm (some b))
   refine ⟨hg2,Or.inl ⟨c,?_,rfl,?_⟩⟩
   ·rw [HMS.out];simp
   ·exact ScIs.later_alloc HSC.out hm
  ·have hf:((k:Int) == (kind:Int))=false:=by simp;omega
   have hf2:decide ((k:Int)=(kind:Int))=false:=by simp;omega
   go_wp2_with fail
   have hk2:¬ ((k:Int)=(kind:Int)):=by omega
   (try simp only [hf,hf2])
   refine (must_bad _ _ _ _ _).mono ?_
   rintro e w2 ⟨rfl,hm⟩
   dsimp only [gaveUp]
   have hg2:=grownBy_trans HG1.out (grownBy_alloc_below hm (some b))
   exact ⟨rfl,hg2,Or.inr ⟨p,by rw [HMS.out,if_neg hk],rfl⟩⟩
set_option maxHeartbeats 2000000
set_option maxRecDepth 100000
open Go.RowKit
def versionS (t:ByteArray) (a:Nat):RS Unit:=versionG (nextS t) a
theorem version_core (b a:Nat) (t:ByteArray) (w:World) (hs:ScIs w b t a) (ha:a≤t.size) (ht:t.size≤2000) :
  Calls Tryz.prog 126 #[.pointer (some ⟨b,0,none⟩)] w fun e w'=>w.grownBy w' (some b)∧((∃ c,versionS t a = .ok () c∧e = .returned (.tuple #[])∧ScIs w' b t c)∨(∃ p,versionS t a = .bad p∧e=gaveUp p)):=by
 have HS:=hide hs
 have hbl:=lt_heap hs
 have HN:=hide (next_core b a t w hs ha ht)
 clear hs
 go_enter Tryz.func126,Tryz.ntmps126
 go_wp2_with fail
 refine HN.out.mono ?_
 rintro e w1 ⟨hg1,hc⟩
 have hms:versionS t a=(match nextS t a with|.tok k p n _ c=>if k=48∧n=1 then .ok () c else .bad p|.bad p=>.bad p):=by unfold versionS versionG;cases nextS t a<;>rfl
 cases hnx:nextS t a with
 | bad p =>
  rw [hnx] at hc hms
  have hc2:e=gaveUp p:=hc
  subst hc2
  dsimp only [gaveUp]
  exact ⟨rfl,hg1,Or.inr ⟨p,hms,rfl⟩⟩
 | tok k p n l c =>
  rw [hnx] at hc hms
  obtain ⟨rfl,hsc⟩ : e = .returned (tokV k p ((n:Nat):Int) ⟨l.toArray⟩)∧ScIs w1 b t c:=hc
  dsimp only [tokV]
  have HG1:=hide hg1
  have HSC:=hide hsc
  have HMS:=hide hms
  clear hg1 hsc hms hnx HN
  by_cases hk:k=48
  ·subst hk
   by_cases hn:n=1
   ·subst hn
    go_wp2_with fail
    refine (must_ok _ _ _ _ _).mono ?_
    rintro e w2 ⟨rfl,hm⟩
    dsimp only
    go_wp2_with fail
    go_end0
    have hg2:=grownBy_trans HG1.out (grownBy_alloc_below hm (some b))
    refine ⟨hg2,Or.inl ⟨c,?_,rfl,?_⟩⟩
    ·rw [HMS.out];simp
    ·exact ScIs.later_alloc HSC.out hm
   ·have hf:((n:Int) == (1:Int))=false:=by simp;omega
    have hf2:decide ((n:Int)=(1:Int))=false:=by simp;omega
    go_wp2_with fail
    (try simp only [hf,hf2])
    refine (must_bad _ _ _ _ _).mono ?_
    rintro e w2 ⟨rfl,hm⟩
    dsimp only [gaveUp]
    have hg2:=grownBy_trans HG1.out (grownBy_alloc_below hm (some b))
    exact ⟨rfl,hg2,Or.inr ⟨p,by rw [HMS.out];simp [hn],rfl⟩⟩
  ·have hf:((k:Int) == (48:Int))=false:=by simp;omega
   have hf2:decide ((k:Int)=(48:Int))=false:=by simp;omega
   go_wp2_with fail
   (try simp only [hf,hf2])
   refine (must_bad _ _ _ _ _).mono ?_
   rintro e w2 ⟨rfl,hm⟩
   dsimp only [gaveUp]
   have hg2:=grownBy_trans HG1.out (grownBy_alloc_below hm (some b))
   exact ⟨rfl,hg2,Or.inr ⟨p,by rw [HMS.out];simp [hk],rfl⟩⟩
end Go.Proofs.YtncigfibncmioaaGreatDoor
namespace Go.Proofs.YtncigfibncmioaaGreatDoor
open Go.RowKit
theorem strS_far (t:ByteArray):∀ (d a:Nat) (acc l:List UInt8) (c:Nat),t.size - a=d→strS t a acc=some (l,c)→c≤t.size∧a<c∧l.length≤acc.length+(t.size - a):=by
 intro d
 induction d using Nat.strongRecOn with
 | _ d ih =>
  intro a acc l c hd h
  cases hb:byteS t a with
  | none=>rw [strS_none hb] at h;cases h
  | some x =>
   rw [strS_some hb] at h
   have hlt:=byteS_lt hb
   by_cases h1:x=34
   ·rw [if_pos h1] at h
    cases h
    omega
   ·rw [if_neg h1] at h
    by_cases h2:x=92
    ·rw [if_pos h2] at h
     cases hb2:byteS t (a+1) with
     | none=>rw [hb2] at h;cases h
     | some y =>
      rw [hb2] at h
      have hlt2:=byteS_lt hb2
      dsimp only at h
      split at h
      ·have:=ih (t.size - (a+2)) (by omega) (a+2) _ l c rfl h
       simp only [List.length_append,List.length_singleton] at this
       omega
      ·cases h
    ·rw [if_neg h2] at h
     have:=ih (t.size - (a+1)) (by omega) (a+1) _ l c rfl h
     simp only [List.length_append,List.length_singleton] at this
     omega
theorem numS_far (t:ByteArray) (p:Nat):∀ (d a n m c:Nat),t.size - a=d→a≤t.size→numS t p a n=some (m,c)→c≤t.size∧a≤c:=by
 intro d
 induction d using Nat.strongRecOn with
 | _ d ih =>
  intro a n m c hd ha h
  rw [numS] at h
  split at h
  ·split at h
   ·split at h
    ·cases h
    ·have:=ih (t.size - (a+1)) (by omega) (a+1) _ m c rfl (by omega) h
     omega
   ·cases h;omega
  ·cases h;omega
theorem numS_step (t:ByteArray) (p m c:Nat) (hp:p<t.size) (hd:digB (t[p]).toNat=true) (h:numS t p p 0=some (m,c)):p<c:=by
 rw [numS,dif_pos hp,hd,if_pos rfl] at h
 split at h
 ·cases h
 ·have:=numS_far t p _ (p+1) _ m c rfl (by omega) h
  omega
theorem skipS_ge (t:ByteArray) (a:Nat):a≤skipS t a:=by
 rw [skipS]
 split
 ·split
  ·have:=skipS_ge t (a+1);omega
  ·omega
 ·omega
termination_by t.size - a
theorem nextS_far {t:ByteArray} {a k p n c:Nat} {l:List UInt8} (ha:a≤t.size) (h:nextS t a = .tok k p n l c):c≤t.size∧a≤c∧l.length≤t.size∧(k≠0→a<c):=by
 have h1:=skipS_ge t a
 have h2:=skipS_le t a ha
 unfold nextS nextAt at h
 generalize skipS t a=q at h h1 h2
 split at h
 ·rename_i hq
  split at h
  ·cases h
   simp;omega
  ·split at h
   ·rename_i hd
    cases hn:numS t q q 0 with
    | none=>rw [hn] at h;cases h
    | some r =>
     obtain ⟨m,c'⟩:=r
     rw [hn] at h
     have f1:=numS_far t q _ q 0 _ _ rfl h2 hn
     have f2:=numS_step t q _ _ hq hd hn
     cases h
     simp;omega
   ·split at h
    ·cases hn:strS t (q+1) [] with
     | none=>rw [hn] at h;cases h
     | some r =>
      obtain ⟨m,c'⟩:=r
      rw [hn] at h
      have:=strS_far t _ (q+1) [] _ _ rfl hn
      simp at this
      cases h
      refine ⟨this.1,by omega,by omega,fun _=>by omega⟩
    ·cases h
 ·cases h
  simp;omega
end Go.Proofs.YtncigfibncmioaaGreatDoor
namespace Go.Proofs.YtncigfibncmioaaGreatDoor
set_option maxHeartbeats 2000000
set_option maxRecDepth 100000
open Go.RowKit
theorem grownBy_alloc_drew_below {w w2:World} {o:Obj} (h:Below (w.alloc o).drew.heap.size (w.alloc o).drew w2) (r:Option Nat):w.grownBy w2 r :=
 grownBy_trans (grownBy_below ((Below.refl _ _).alloc (Nat.le_refl _) o).drew r) (grownBy_below h r)
theorem ScIs.later_alloc_drew {w w2:World} {b a:Nat} {t:ByteArray} {o:Obj} (hs:ScIs w b t a) (h:Below (w.alloc o).drew.heap.size (w.alloc o).drew w2):ScIs w2 b t a :=
 ScIs.later (w:=(w.alloc o).drew) (hs.later ((Below.refl _ _).alloc (Nat.le_refl _) o).drew) h
def sizeS (t:ByteArray) (a:Nat):RS Nat:=sizeG (nextS t) a
theorem size_core (b a:Nat) (t:ByteArray) (w:World) (hs:ScIs w b t a) (ha:a≤t.size) (ht:t.size≤2000) :
  Calls Tryz.prog 224 #[.pointer (some ⟨b,0,none⟩)] w fun e w'=>w.grownBy w' (some b)∧((∃ n c,sizeS t a = .ok n c∧e = .returned (.int .i64 ((n:Nat):Int))∧ScIs w' b t c)∨(∃ p,sizeS t a = .bad p∧e=gaveUp p)):=by
 have HS:=hide hs
 have hbl:=lt_heap hs
 have HN:=hide (next_core b a t w hs ha ht)
 clear hs
 go_enter Tryz.func224,Tryz.ntmps224
 go_wp2_with fail
 refine HN.out.mono ?_
 rintro e w1 ⟨hg1,hc⟩
 have hms:sizeS t a=(match nextS t a with|.tok k p n _ c=>if k=48∧n≤300 then .ok n c else .bad p|.bad p=>.bad p):=by unfold sizeS sizeG;cases nextS t a<;>rfl
 cases hnx:nextS t a with
 | bad p =>
  rw [hnx] at hc hms
  have hc2:e=gaveUp p:=hc
  subst hc2
  dsimp only [gaveUp]
  exact ⟨rfl,hg1,Or.inr ⟨p,hms,rfl⟩⟩
 | tok k p n l c =>
  rw [hnx] at hc hms
  obtain ⟨rfl,hsc⟩ : e = .returned (tokV k p ((n:Nat):Int) ⟨l.toArray⟩)∧ScIs w1 b t c:=hc
  dsimp only [tokV]
  have HG1:=hide hg1
  have HSC:=hide hsc
  have HMS:=hide hms
  clear hg1 hsc hms hnx HN
  by_cases hk:k=48
  ·subst hk
   cases hz:(decide (0≤(n:Int)) && decide ((n:Int)≤300)) with
   | true =>
    have HZ:Hid (∀ w,Calls Tryz.prog 129 #[.int .i64 ((n:Nat):Int)] w fun e w'=>e = .returned (.bool true)∧w'=w):=fun w=>by
     have:=isSize_any (n:Int) w
     rwa [hz] at this
    have hn:n≤300:=by simp at hz;omega
    have HNN:=hide hn
    clear hz hn
    go_wp2_with fail
    refine region_stillI 9 mixed (by kernel_rfl) ?_
    simp only [List.take_succ_cons,List.take_zero,List.drop_succ_cons,List.drop_zero]
    iterate 7 (refine stillI_step (fun K hK=>?_);go_simp;refine hK _ ?_;clear hK K)
    refine stillI_step (fun K hK=>?_);go_simp
    refine ⟨_,HZ.out _,hK _ ?_⟩;clear hK K
    refine stillI_step (fun K hK=>?_);go_simp;refine hK _ ?_;clear hK K
    refine stillI_nil ?_
    go_wp2_with (go_at_call 128;refine (must_ok _ _ _ _ _).mono ?_;rintro e w2 ⟨rfl,hm⟩;have hc2:w2.cell? ⟨w1.heap.size,2,none⟩=some (.int .i64 ((n:Nat):Int)):=cell_later hm (by go_keep))
    go_ret
    have hg2:=grownBy_trans HG1.out (grownBy_alloc_drew_below hm (some b))
    refine ⟨hg2,Or.inl ⟨n,c,?_,rfl,?_⟩⟩
    ·rw [HMS.out];simp [HNN.out]
    ·exact ScIs.later_alloc_drew HSC.out hm
   | false =>
    have HZ:Hid (∀ w,Calls Tryz.prog 129 #[.int .i64 ((n:Nat):Int)] w fun e w'=>e = .returned (.bool false)∧w'=w):=fun w=>by
     have:=isSize_any (n:Int) w
     rwa [hz] at this
    have hn:¬ n≤300:=by simp at hz;omega
    have HNN:=hide hn
    clear hz hn
    go_wp2_with fail
    refine region_stillI 9 mixed (by kernel_rfl) ?_
    simp only [List.take_succ_cons,List.take_zero,List.drop_succ_cons,List.drop_zero]
    iterate 7 (refine stillI_step (fun K hK=>?_);go_simp;refine hK _ ?_;clear hK K)
    refine stillI_step (fun K hK=>?_);go_simp
    refine ⟨_,HZ.out _,hK _ ?_⟩;clear hK K
    refine stillI_step (fun K hK=>?_);go_simp;refine hK _ ?_;clear hK K
    refine stillI_nil ?_
    go_wp2_with (go_at_call 128;refine (must_bad _ _ _ _ _).mono ?_;rintro e w2 ⟨rfl,hm⟩;dsimp only [gaveUp])
    have hg2:=grownBy_trans HG1.out (grownBy_alloc_drew_below hm (some b))
    exact ⟨rfl,hg2,Or.inr ⟨p,by rw [HMS.out];simp [HNN.out],rfl⟩⟩
  ·have hf:((k:Int) == (48:Int))=false:=by simp;omega
   go_wp2_with fail
   refine region_stillI 9 mixed (by kernel_rfl) ?_
   simp only [List.take_succ_cons,List.take_zero,List.drop_succ_cons,List.drop_zero]
   iterate 9 (refine stillI_step (fun K hK=>?_);go_simp;refine hK _ ?_;clear hK K)
   refine stillI_nil ?_
   go_wp2_with (go_at_call 128;refine (must_bad _ _ _ _ _).mono ?_;rintro e w2 ⟨rfl,hm⟩;dsimp only [gaveUp])
   have hg2:=grownBy_trans HG1.out (grownBy_alloc_drew_below hm (some b))
   exact ⟨rfl,hg2,Or.inr ⟨p,by rw [HMS.out];simp [hk],rfl⟩⟩
set_option maxHeartbeats 1000000
set_option maxRecDepth 100000
open Go.RowKit
def tagS (t:ByteArray) (last:ByteArray) (a:Nat):RS ByteArray:=tagG (nextS t) last a
theorem tag_core (b a:Nat) (t last:ByteArray) (w:World) (hs:ScIs w b t a) (ha:a≤t.size) (ht:t.size≤2000) :
  Calls Tryz.prog 222 #[.pointer (some ⟨b,0,none⟩),.string last] w fun e w'=>w.grownBy w' (some b)∧((∃ n c,tagS t last a = .ok n c∧e = .returned (.string n)∧ScIs w' b t c)∨(∃ p,tagS t last a = .bad p∧e=gaveUp p)):=by
 have HS:=hide hs
 have hbl:=lt_heap hs
 have HN:=hide (next_core b a t w hs ha ht)
 clear hs
 go_enter Tryz.func222,Tryz.ntmps222
 go_wp2_with fail
 refine HN.out.mono ?_
 rintro e w1 ⟨hg1,hc⟩
 have hms:tagS t last a=(match nextS t a with|.tok k p _ l c=>if k=34∧isTagB ⟨l.toArray⟩=true∧leB ⟨l.toArray⟩ last=false then .ok ⟨l.toArray⟩ c else .bad p|.bad p=>.bad p):=by unfold tagS tagG;cases nextS t a<;>rfl
 cases hnx:nextS t a with
 | bad p =>
  rw [hnx] at hc hms
  have hc2:e=gaveUp p:=hc
  subst hc2
  dsimp only [gaveUp]
  exact ⟨rfl,hg1,Or.inr ⟨p,hms,rfl⟩⟩
 | tok k p n l c =>
  rw [hnx] at hc hms
  obtain ⟨rfl,hsc⟩ : e = .returned (tokV k p ((n:Nat):Int) ⟨l.toArray⟩)∧ScIs w1 b t c:=hc
  dsimp only [tokV]
  have HG1:=hide hg1
  have HSC:=hide hsc
  have hsz:(⟨l.toArray⟩ : ByteArray).size≤9223372036854775807:=by have:=(nextS_far ha hnx).2.2.1;rw [bytes_size];omega
  have hms2:tagS t last a=if k=34∧isTagB ⟨l.toArray⟩=true∧leB ⟨l.toArray⟩ last=false then .ok ⟨l.toArray⟩ c else .bad p:=hms
  clear hms hnx
  generalize (⟨l.toArray⟩ : ByteArray)=s at hms2 hsz ⊢
  have HMS:=hide hms2
  clear hg1 hsc hms2 HN
  by_cases hk:k=34
  ·subst hk
   cases hz:isTagB s with
   | true =>
    have HZ:Hid (∀ w,Calls Tryz.prog 59 #[.string s] w fun e w'=>e = .returned (.bool true)∧w'=w):=fun w=>by
     have:=ownTag_any s w hsz
     rwa [hz] at this
    have HZ1:=hide hz
    rcases leB_cases s last with ⟨hle,q1⟩|⟨hle,q1,rfl⟩|⟨hle,q1,q2,q3⟩
    ·have HNO:=hide hle
     clear hz hle
     go_wp2_with fail
     refine region_stillI 15 mixed (by kernel_rfl) ?_
     simp only [List.take_succ_cons,List.take_zero,List.drop_succ_cons,List.drop_zero]
     iterate 7 (refine stillI_step (fun K hK=>?_);go_simp;refine hK _ ?_;clear hK K)
     refine stillI_step (fun K hK=>?_);go_simp
     refine ⟨_,HZ.out _,hK _ ?_⟩;clear hK K
     iterate 7 (refine stillI_step (fun K hK=>?_);go_simp;refine hK _ ?_;clear hK K)
     refine stillI_nil ?_
     go_wp2_with (go_at_call 128;refine (must_bad _ _ _ _ _).mono ?_;rintro e w2 ⟨rfl,hm⟩;dsimp only [gaveUp])
     have hg2:=grownBy_trans HG1.out (grownBy_alloc_drew_below hm (some b))
     exact ⟨rfl,hg2,Or.inr ⟨p,by rw [HMS.out];simp [HNO.out],rfl⟩⟩
    ·have HNO:=hide hle
     clear hz hle
     go_wp2_with fail
     refine region_stillI 15 mixed (by kernel_rfl) ?_
     simp only [List.take_succ_cons,List.take_zero,List.drop_succ_cons,List.drop_zero]
     iterate 7 (refine stillI_step (fun K hK=>?_);go_simp;refine hK _ ?_;clear hK K)
     refine stillI_step (fun K hK=>?_);go_simp
     refine ⟨_,HZ.out _,hK _ ?_⟩;clear hK K
     iterate 7 (refine stillI_step (fun K hK=>?_);go_simp;refine hK _ ?_;clear hK K)
     refine stillI_nil ?_
     go_wp2_with (go_at_call 128;refine (must_bad _ _ _ _ _).mono ?_;rintro e w2 ⟨rfl,hm⟩;dsimp only [gaveUp])
     have hg2:=grownBy_trans HG1.out (grownBy_alloc_drew_below hm (some b))
     exact ⟨rfl,hg2,Or.inr ⟨p,by rw [HMS.out];simp [HNO.out],rfl⟩⟩
    ·have HNO:=hide hle
     clear hz hle q2
     go_wp2_with fail
     refine region_stillI 15 mixed (by kernel_rfl) ?_
     simp only [List.take_succ_cons,List.take_zero,List.drop_succ_cons,List.drop_zero]
     iterate 7 (refine stillI_step (fun K hK=>?_);go_simp;refine hK _ ?_;clear hK K)
     refine stillI_step (fun K hK=>?_);go_simp
     refine ⟨_,HZ.out _,hK _ ?_⟩;clear hK K
     iterate 7 (refine stillI_step (fun K hK=>?_);go_simp;refine hK _ ?_;clear hK K)
     refine stillI_nil ?_
     go_wp2_with (go_at_call 128;refine (must_ok _ _ _ _ _).mono ?_;rintro e w2 ⟨rfl,hm⟩;have hc2:w2.cell? ⟨w1.heap.size,3,none⟩=some (.string s):=cell_later hm (by go_keep))
     go_ret
     have hg2:=grownBy_trans HG1.out (grownBy_alloc_drew_below hm (some b))
     refine ⟨hg2,Or.inl ⟨s,c,?_,rfl,?_⟩⟩
     ·rw [HMS.out];simp [HZ1.out,HNO.out]
     ·exact ScIs.later_alloc_drew HSC.out hm
   | false =>
    have HZ:Hid (∀ w,Calls Tryz.prog 59 #[.string s] w fun e w'=>e = .returned (.bool false)∧w'=w):=fun w=>by
     have:=ownTag_any s w hsz
     rwa [hz] at this
    have HZ1:=hide hz
    clear hz
    go_wp2_with fail
    refine region_stillI 15 mixed (by kernel_rfl) ?_
    simp only [List.take_succ_cons,List.take_zero,List.drop_succ_cons,List.drop_zero]
    iterate 7 (refine stillI_step (fun K hK=>?_);go_simp;refine hK _ ?_;clear hK K)
    refine stillI_step (fun K hK=>?_);go_simp
    refine ⟨_,HZ.out _,hK _ ?_⟩;clear hK K
    iterate 7 (refine stillI_step (fun K hK=>?_);go_simp;refine hK _ ?_;clear hK K)
    refine stillI_nil ?_
    go_wp2_with (go_at_call 128;refine (must_bad _ _ _ _ _).mono ?_;rintro e w2 ⟨rfl,hm⟩;dsimp only [gaveUp])
    have hg2:=grownBy_trans HG1.out (grownBy_alloc_drew_below hm (some b))
    exact ⟨rfl,hg2,Or.inr ⟨p,by rw [HMS.out];simp [HZ1.out],rfl⟩⟩
  ·have hf:((k:Int) == (34:Int))=false:=by simp;omega
   go_wp2_with fail
   refine region_stillI 15 mixed (by kernel_rfl) ?_
   simp only [List.take_succ_cons,List.take_zero,List.drop_succ_cons,List.drop_zero]
   iterate 15 (refine stillI_step (fun K hK=>?_);go_simp;refine hK _ ?_;clear hK K)
   refine stillI_nil ?_
   go_wp2_with (go_at_call 128;refine (must_bad _ _ _ _ _).mono ?_;rintro e w2 ⟨rfl,hm⟩;dsimp only [gaveUp])
   have hg2:=grownBy_trans HG1.out (grownBy_alloc_drew_below hm (some b))
   exact ⟨rfl,hg2,Or.inr ⟨p,by rw [HMS.out];simp [hk],rfl⟩⟩
set_option maxHeartbeats 1000000
set_option maxRecDepth 100000
open Go.RowKit
def digestS (t:ByteArray) (a:Nat):RS ByteArray:=digestG (nextS t) a
theorem zero_kept {w w1:World} {b:Nat} {cs:Array Value} {T:TypeId} (h:(w.alloc (.cells cs T)).grownBy w1 (some b)) (hb:b<w.heap.size):w1.heap[w.heap.size]? = some (.cells cs T (0,0)) :=
 (h.block w.heap.size (by simp) (by intro e;cases e;omega)).trans (heap_alloc_new _ _)
theorem digest_core (b a:Nat) (t:ByteArray) (w:World) (hs:ScIs w b t a) (ha:a≤t.size) (ht:t.size≤2000) :
  Calls Tryz.prog 223 #[.pointer (some ⟨b,0,none⟩)] w fun e w'=>w.grownBy w' (some b)∧((∃ n c,digestS t a = .ok n c∧e = .returned (.agg (cells8 (rd n)))∧ScIs w' b t c)∨(∃ p,digestS t a = .bad p∧e=gaveUp p)):=by
 have HS:=hide hs
 have hbl:=lt_heap hs
 clear hs
 have hz4:=(zero_of_info Tryz.info117).1
 go_enter Tryz.func223,Tryz.ntmps223
 go_wp2_with fail
 refine (next_core b a t _ (HS.out.later ((Below.refl _ _).alloc (Nat.le_refl _) _)) ha ht).mono ?_
 rintro e w1 ⟨hg1,hc⟩
 have hms:digestS t a=(match nextS t a with|.tok k p _ l c=>if k=34∧isDigB ⟨l.toArray⟩=true then .ok ⟨l.toArray⟩ c else .bad p|.bad p=>.bad p):=by unfold digestS digestG;cases nextS t a<;>rfl
 cases hnx:nextS t a with
 | bad p =>
  rw [hnx] at hc hms
  have hc2:e=gaveUp p:=hc
  subst hc2
  dsimp only [gaveUp]
  exact ⟨rfl,grownBy_trans (World.grownBy_alloc _ _ _) hg1,Or.inr ⟨p,hms,rfl⟩⟩
 | tok k p n l c =>
  rw [hnx] at hc hms
  obtain ⟨rfl,hsc⟩ : e = .returned (tokV k p ((n:Nat):Int) ⟨l.toArray⟩)∧ScIs w1 b t c:=hc
  dsimp only [tokV]
  have HG1:=hide hg1
  have HSC:=hide hsc
  have hms2:digestS t a=if k=34∧isDigB ⟨l.toArray⟩=true then .ok ⟨l.toArray⟩ c else .bad p:=hms
  clear hms hnx
  generalize (⟨l.toArray⟩ : ByteArray)=s at hms2 ⊢
  have HMS:=hide hms2
  have hz:w1.heap[w.heap.size]? = some (.cells (cells8 (Sha.zeros 32)) 117 (0,0)):=zero_kept hg1 hbl
  have HZ:=hide hz
  have hl1:=lt_of_row hz
  clear hg1 hsc hms2 hz
  go_wp2_with fail
  refine (read_any s _).mono ?_
  rintro e w2 ⟨rfl,hm⟩
  dsimp only
  generalize hrd:rd s=ds
  have hdl:ds.length=32:=by rw [← hrd];exact rd_len _
  have HRD:=hide hrd
  clear hrd
  have t0:w2.heap[w1.heap.size]? = some (.cells #[.int .u8 ((k:Nat):Int),.int .i64 ((p:Nat):Int),.int .i64 ((n:Nat):Int),.string s] 204 (0,0)):=(hm.block _ (by rw [size_alloc];omega)).trans (heap_alloc_new _ _)
  have t1:w2.cell? ⟨w1.heap.size,0,none⟩=some (.int .u8 ((k:Nat):Int)):=cell_of_row w2 w1.heap.size 0 _ _ _ t0
  have t2:w2.cell? ⟨w1.heap.size,1,none⟩=some (.int .i64 ((p:Nat):Int)):=cell_of_row w2 w1.heap.size 1 _ _ _ t0
  have t3:w2.cell? ⟨w1.heap.size,2,none⟩=some (.int .i64 ((n:Nat):Int)):=cell_of_row w2 w1.heap.size 2 _ _ _ t0
  have t4:w2.cell? ⟨w1.heap.size,3,none⟩=some (.string s):=cell_of_row w2 w1.heap.size 3 _ _ _ t0
  have tl:=lt_of_row t0
  have hg2:w.grownBy w2 (some b):=grownBy_trans (grownBy_trans (World.grownBy_alloc _ _ _) HG1.out) (grownBy_alloc_below hm (some b))
  have HG2:=hide hg2
  have HSC2:=hide (ScIs.later_alloc HSC.out hm)
  have hz2:w2.heap[w.heap.size]? = some (.cells (cells8 (Sha.zeros 32)) 117 (0,0)):=(hm.block _ (by rw [size_alloc];omega)).trans ((((Below.refl w1.heap.size w1).alloc (Nat.le_refl _) _).block _ hl1).trans HZ.out)
  have HZ2:=hide hz2
  have HM:=hide hm
  clear hm hg2 t0 hz2 HSC HZ HG1
  by_cases hk:k=34
  ·subst hk
   cases hdig:isDigB s with
   | true =>
    go_wp2_with (first|(refine wpList_store_row rfl 117 _ _ rfl w2.heap.size _ rfl rfl 117 _ (heap_alloc_new _ _) (size40 _ hdl) (by rw [cells8_size,cells8_size,hdl,Sha.zeros_len]) (cells8_one _) ?_;rw [World.setRow_alloc_new])|(go_at_call 128;refine (must_ok _ _ _ _ _).mono ?_;rintro e w3 ⟨rfl,hm3⟩;have hD3:w3.heap[w2.heap.size]? = some (.cells (cells8 ds) 117 (0,0)):=(hm3.block _ (by rw [size_alloc];omega)).trans (heap_alloc_new _ _);have hZ3:w3.heap[w.heap.size]? = some (.cells (cells8 (Sha.zeros 32)) 117 (0,0)):=(hm3.block _ (by rw [size_alloc];omega)).trans ((((Below.refl w2.heap.size w2).alloc (Nat.le_refl _) _).block _ (by omega)).trans HZ2.out))|(refine wpList_load_row rfl 117 _ rfl w2.heap.size rfl 117 _ _ _ hD3 Tryz.underlying117 rfl (size40 _ hdl) ?_)|(refine wpList_store_row rfl 117 _ _ rfl w.heap.size _ rfl rfl 117 _ hZ3 (size40 _ hdl) (by rw [cells8_size,cells8_size,hdl,Sha.zeros_len]) (cells8_one _) ?_))
    have hbs:Below w.heap.size w3 (w3.setRow w.heap.size (cells8 ds)):=(Below.refl _ _).setRow (Nat.le_refl _) _
    refine bodyPost_ret (results_cell_row Tryz.results223 _ _ w.heap.size 117 _ (0,0) _ rfl (setRow_heap _ _ _ _ _ _ hZ3) Tryz.underlying117 rfl (size40 _ hdl)) rfl ⟨?_,Or.inl ⟨s,c,?_,?_,?_⟩⟩
    ·exact grown_then (grownBy_trans HG2.out (grownBy_alloc_below hm3 (some b))) hbs
    ·rw [HMS.out];simp [hdig]
    ·rw [HRD.out]
    ·exact (hbs.block b hbl).trans (ScIs.later_alloc HSC2.out hm3)
   | false =>
    go_wp2_with (first|(refine wpList_store_row rfl 117 _ _ rfl w2.heap.size _ rfl rfl 117 _ (heap_alloc_new _ _) (size40 _ hdl) (by rw [cells8_size,cells8_size,hdl,Sha.zeros_len]) (cells8_one _) ?_;rw [World.setRow_alloc_new])|(go_at_call 128;refine (must_bad _ _ _ _ _).mono ?_;rintro e w3 ⟨rfl,hm3⟩;dsimp only [gaveUp]))
    exact ⟨rfl,grownBy_trans HG2.out (grownBy_alloc_below hm3 (some b)),Or.inr ⟨p,by rw [HMS.out];simp [hdig],rfl⟩⟩
  ·have hf:((k:Int) == (34:Int))=false:=by simp;omega
   go_wp2_with (first|(refine wpList_store_row rfl 117 _ _ rfl w2.heap.size _ rfl rfl 117 _ (heap_alloc_new _ _) (size40 _ hdl) (by rw [cells8_size,cells8_size,hdl,Sha.zeros_len]) (cells8_one _) ?_;rw [World.setRow_alloc_new])|(go_at_call 128;refine (must_bad _ _ _ _ _).mono ?_;rintro e w3 ⟨rfl,hm3⟩;dsimp only [gaveUp]))
   exact ⟨rfl,grownBy_trans HG2.out (grownBy_alloc_below hm3 (some b)),Or.inr ⟨p,by rw [HMS.out];simp [hk],rfl⟩⟩
end Go.Proofs.YtncigfibncmioaaGreatDoor
