/-
  PROVED HERE: what the program's function byteOf of the index's scanner answers: the next byte of a string, or that it gives up at the string's place.
-/
import Derived.Test.YtncigfibncmioaaGreatDoorKCont
import Derived.StillTailTactics
namespace Go.Proofs.YtncigfibncmioaaGreatDoor
set_option maxHeartbeats 1000000
set_option maxRecDepth 100000
open Go.RowKit
structure StillI (P:Program) (ops:Array Oper) (w:World) (Q:Act→Prop) (l:List Oper) (a:Act):Prop where
 out:wpStill P ops w Q l a
theorem stillI_step {P:Program} {ops:Array Oper} {w:World} {Q:Act→Prop} {a:Act} {o:Oper} {rest:List Oper}
  (h:∀ K:Act→Prop,(∀ a,StillI P ops w Q rest a→K a)→if Region.wanted o (yielded ops a.tmps) then o.still P a w K else K (a.put o.dst undef)):StillI P ops w Q (o::rest) a :=
 ⟨wpStill_step fun K hK=>h K fun a' h'=>hK a' h'.out⟩
theorem stillI_nil {P:Program} {ops:Array Oper} {w:World} {Q:Act→Prop} {a:Act} (h:Q a):StillI P ops w Q [] a:=⟨wpStill_nil h⟩
theorem region_stillI {P:Program} {id:Nat} {Q:Exit→Act→World→Prop} {a:Act} {w:World} {l:List Oper} (n:Nat) (hm:P.follows .mixedOrders=true) (hB:Region.lexTailB .any l.toArray n=true)
  (h:StillI P l.toArray w.drew (fun a'=>wpList P l.toArray Q (l.drop n) a' w.drew) (l.take n) a):(Code.region id l.toArray true).wp P Q a w :=
 wp_region_still_tail n hm hB h.out
theorem mixed:Tryz.prog.follows .mixedOrders=true:=by kernel_rfl
theorem ScIs.later {w w':World} {b a:Nat} {t:ByteArray} (h:ScIs w b t a) (hb:Below w.heap.size w w'):ScIs w' b t a:=(hb.block b (lt_heap h)).trans h
theorem byteOf_ok (b a kind place:Nat) (num:Int) (txt t:ByteArray) (w:World) (x:Nat) (hs:ScIs w b t a) (ha:a<t.size) (ht:t.size≤2000) (hx:x=(t[a]'ha).toNat) (h1:32≤x) (h2:x≤126) :
  Calls Tryz.prog 219 #[.pointer (some ⟨b,0,none⟩),tokV kind place num txt] w fun e w'=>e = .returned (.int .u8 ((x:Nat):Int))∧w.grownBy w' (some b)∧ScIs w' b t (a+1):=by
 have hx2:((t[a]'ha).toNat:Int)=(x:Int):=by rw [hx]
 have HS:=hide hs
 have c0:=hs.c0
 have c1:=hs.c1
 have hbl:=lt_heap hs
 clear hx hs
 have e1:decide (a<t.size)=true:=by simp [ha]
 unfold tokV
 go_enter Tryz.func219,Tryz.ntmps219
 go_wp2_with fail
 go_region_held3 (fun w'=>w'.cell? ⟨b,0,none⟩=some (.string t)∧w'.cell? ⟨b,1,none⟩=some (.int .i64 ((a:Nat):Int))∧w'.cell? ⟨w.heap.size,0,none⟩=some (.int .u8 ((kind:Nat):Int))∧w'.cell? ⟨w.heap.size,1,none⟩=some (.int .i64 ((place:Nat):Int))∧w'.cell? ⟨w.heap.size,2,none⟩=some (.int .i64 num)∧w'.cell? ⟨w.heap.size,3,none⟩=some (.string txt))
  (first|go_keep|(refine ⟨?_,?_,?_,?_,?_,?_⟩<;>(refine cell_later hm ?_;go_keep)))
  ((go_at_call 128;refine (must_ok kind place num txt _).mono ?_;rintro _ w1 ⟨rfl,hm⟩))
 have d0:w1.cell? ⟨b,0,none⟩=some (.string t):=cell_later hm (by go_keep)
 have d1:w1.cell? ⟨b,1,none⟩=some (.int .i64 ((a:Nat):Int)):=cell_later hm (by go_keep)
 have f0:w1.cell? ⟨w.heap.size,0,none⟩=some (.int .u8 ((kind:Nat):Int)):=cell_later hm (by go_keep)
 have f1:w1.cell? ⟨w.heap.size,1,none⟩=some (.int .i64 ((place:Nat):Int)):=cell_later hm (by go_keep)
 have f2:w1.cell? ⟨w.heap.size,2,none⟩=some (.int .i64 num):=cell_later hm (by go_keep)
 have f3:w1.cell? ⟨w.heap.size,3,none⟩=some (.string txt):=cell_later hm (by go_keep)
 have hb1:Below w.heap.size w w1:=(((Below.refl _ _).alloc (Nat.le_refl _) _).drew).trans (hm.mono (by simp))
 have HS1:=hide (HS.out.later hb1)
 have hs1:=hb1.size
 clear hm c0 c1
 have g1:decide ((32:Int)≤(x:Int))=true:=by simp;omega
 have g2:decide ((x:Int)≤126)=true:=by simp;omega
 go_wp2
 go_quiet (fail)
 go_wp2_with (go_at_call 128;refine (must_ok kind place num txt _).mono ?_;rintro _ w2 ⟨rfl,hm2⟩;have HS2:Hid (ScIs w2 b t a):=ScIs.later (w:=w1.drewN nq) HS1.out hm2;have p1:=HS2.out.c1;have pf:=fun j=>frozen_of_row w2 b j _ _ HS2.out)
 go_ret
 rw [show ((a:Int)+1)=((a+1:Nat):Int) by omega]
 refine ⟨rfl,?_,HS2.out.set (a+1)⟩
 exact grownBy_trans (grownBy_below (hb1.trans ((Below.drewN (Below.refl _ _) nq).trans (hm2.mono (Nat.le_refl _)) |>.mono hs1)) _) (grownBy_set _ _ _ _)
theorem byteOf_end (b a kind place:Nat) (num:Int) (txt t:ByteArray) (w:World) (hs:ScIs w b t a) (ha:¬ a<t.size) :
  Calls Tryz.prog 219 #[.pointer (some ⟨b,0,none⟩),tokV kind place num txt] w fun e w'=>e=gaveUp place∧w.grownBy w' (some b):=by
 have HS:=hide hs
 have c0:=hs.c0
 have c1:=hs.c1
 have hbl:=lt_heap hs
 clear hs
 have e1:decide (a<t.size)=false:=by simp [ha]
 unfold tokV
 go_enter Tryz.func219,Tryz.ntmps219
 go_wp2_with fail
 refine wp_region_still_tail 11 mixed (by kernel_rfl) ?_
 change wpStill Tryz.prog _ (w.alloc (.cells #[.int .u8 ((kind:Nat):Int),.int .i64 ((place:Nat):Int),.int .i64 num,.string txt] 204)).drew (fun a'=>wpList Tryz.prog _ _ _ a' (w.alloc (.cells #[.int .u8 ((kind:Nat):Int),.int .i64 ((place:Nat):Int),.int .i64 num,.string txt] 204)).drew) _ _
 simp only [List.take_succ_cons,List.take_zero,List.drop_succ_cons,List.drop_zero]
 iterate 11 still_step
 refine wpStill_nil ?_
 go_wp2_with (go_at_call 128;refine (must_bad kind place num txt _).mono ?_;rintro _ w1 ⟨rfl,hm⟩;dsimp only [gaveUp])
 exact ⟨rfl,rfl,grownBy_below ((((Below.refl _ _).alloc (Nat.le_refl _) _).drew).trans (hm.mono (by simp))) _⟩
theorem byteOf_odd (b a kind place:Nat) (num:Int) (txt t:ByteArray) (w:World) (x:Nat) (hs:ScIs w b t a) (ha:a<t.size) (hx:x=(t[a]'ha).toNat) (h12:¬ (32≤x∧x≤126)) :
  Calls Tryz.prog 219 #[.pointer (some ⟨b,0,none⟩),tokV kind place num txt] w fun e w'=>e=gaveUp place∧w.grownBy w' (some b):=by
 have hx2:((t[a]'ha).toNat:Int)=(x:Int):=by rw [hx]
 have HS:=hide hs
 have c0:=hs.c0
 have c1:=hs.c1
 have hbl:=lt_heap hs
 clear hx hs
 have e1:decide (a<t.size)=true:=by simp [ha]
 unfold tokV
 go_enter Tryz.func219,Tryz.ntmps219
 go_wp2_with fail
 go_region_held3 (fun w'=>w'.cell? ⟨b,0,none⟩=some (.string t)∧w'.cell? ⟨b,1,none⟩=some (.int .i64 ((a:Nat):Int))∧w'.cell? ⟨w.heap.size,0,none⟩=some (.int .u8 ((kind:Nat):Int))∧w'.cell? ⟨w.heap.size,1,none⟩=some (.int .i64 ((place:Nat):Int))∧w'.cell? ⟨w.heap.size,2,none⟩=some (.int .i64 num)∧w'.cell? ⟨w.heap.size,3,none⟩=some (.string txt))
  (first|go_keep|(refine ⟨?_,?_,?_,?_,?_,?_⟩<;>(refine cell_later hm ?_;go_keep)))
  ((go_at_call 128;refine (must_ok kind place num txt _).mono ?_;rintro _ w1 ⟨rfl,hm⟩))
 have d0:w1.cell? ⟨b,0,none⟩=some (.string t):=cell_later hm (by go_keep)
 have d1:w1.cell? ⟨b,1,none⟩=some (.int .i64 ((a:Nat):Int)):=cell_later hm (by go_keep)
 have f0:w1.cell? ⟨w.heap.size,0,none⟩=some (.int .u8 ((kind:Nat):Int)):=cell_later hm (by go_keep)
 have f1:w1.cell? ⟨w.heap.size,1,none⟩=some (.int .i64 ((place:Nat):Int)):=cell_later hm (by go_keep)
 have f2:w1.cell? ⟨w.heap.size,2,none⟩=some (.int .i64 num):=cell_later hm (by go_keep)
 have f3:w1.cell? ⟨w.heap.size,3,none⟩=some (.string txt):=cell_later hm (by go_keep)
 have hb1:Below w.heap.size w w1:=(((Below.refl _ _).alloc (Nat.le_refl _) _).drew).trans (hm.mono (by simp))
 have hs1:=hb1.size
 clear hm c0 c1
 have hcase:(decide ((32:Int)≤(x:Int))=false)∨(decide ((32:Int)≤(x:Int))=true∧decide ((x:Int)≤126)=false):=by
  by_cases g:32≤x
  ·right;exact ⟨by simp;omega,by simp;omega⟩
  ·left;simp;omega
 rcases hcase with g1|⟨g1,g2⟩
 all_goals
  go_wp2
  go_quiet (fail)
  go_wp2_with (go_at_call 128;refine (must_bad kind place num txt _).mono ?_;rintro _ w2 ⟨rfl,hm2⟩;dsimp only [gaveUp])
  exact ⟨rfl,rfl,grownBy_below (hb1.trans ((Below.drewN (Below.refl _ _) nq).trans (hm2.mono (Nat.le_refl _)) |>.mono hs1)) _⟩
theorem byteS_256 {t:ByteArray} {a x:Nat} (h:byteS t a=some x):x<256:=by
 unfold byteS at h
 split at h
 ·split at h
  ·injection h with h;subst h;exact UInt8.toNat_lt _
  ·cases h
 ·cases h
theorem byteOf_any (b a kind place:Nat) (num:Int) (txt t:ByteArray) (w:World) (hs:ScIs w b t a) (ht:t.size≤2000) :
  Calls Tryz.prog 219 #[.pointer (some ⟨b,0,none⟩),tokV kind place num txt] w fun e w'=>w.grownBy w' (some b)∧((∃ x,byteS t a=some x∧e = .returned (.int .u8 ((x:Nat):Int))∧ScIs w' b t (a+1))∨(byteS t a=none∧e=gaveUp place)):=by
 by_cases ha:a<t.size
 ·by_cases hx:32≤(t[a]'ha).toNat∧(t[a]'ha).toNat≤126
  ·refine (byteOf_ok b a kind place num txt t w _ hs ha ht rfl hx.1 hx.2).mono ?_
   rintro e w' ⟨he,hg,hsc⟩
   exact ⟨hg,Or.inl ⟨_,by unfold byteS;rw [dif_pos ha,if_pos hx],he,hsc⟩⟩
  ·refine (byteOf_odd b a kind place num txt t w _ hs ha rfl hx).mono ?_
   rintro e w' ⟨he,hg⟩
   exact ⟨hg,Or.inr ⟨by unfold byteS;rw [dif_pos ha,if_neg hx],he⟩⟩
 ·refine (byteOf_end b a kind place num txt t w hs ha).mono ?_
  rintro e w' ⟨he,hg⟩
  exact ⟨hg,Or.inr ⟨by unfold byteS;rw [dif_neg ha],he⟩⟩
set_option maxHeartbeats 2000000
set_option maxRecDepth 100000
open Go.RowKit
theorem builder_grown {T e:TypeId} {B bb b:Nat} {bs:List Value} {w w':World} (h:Lib.IsBuilderF T e B bb bs w) (hg:w.grownBy w' (some b)) (hb:b<B):Lib.IsBuilderF T e B bb bs w':=by
 have key:∀ p,Lib.BuilderAtF T e B bb p bs w→Lib.BuilderAtF T e B bb p bs w':=by
  rintro p ⟨h1,v,h2,h3,h4⟩
  refine ⟨h1,v,(hg.block bb (lt_heap h2) (fun e=>by injection e with e;omega)).trans h2,⟨h3.1,h3.2.imp id ?_⟩,h4⟩
  rintro ⟨g,cap,cur,fz,e1,e2,e3,e4⟩
  exact ⟨g,cap,cur,fz,e1,e2,(hg.block g (lt_heap e3) (fun e=>by injection e with e;omega)).trans e3,e4⟩
 exact h.imp (key _) (key _)
theorem grown_then {w w1 w2:World} {r:Option Nat} (h:w.grownBy w1 r) (hb:Below w.heap.size w1 w2):w.grownBy w2 r :=
 ⟨hb.os.trans h.os,hb.tape.trans h.tape,hb.output.trans h.output,Nat.le_trans h.size hb.size,fun j hj hne=>(hb.block j hj).trans (h.block j hj hne)⟩
theorem strS_none {t:ByteArray} {k:Nat} {acc:List UInt8} (h:byteS t k=none):strS t k acc=none:=by
 rw [strS];split
 ·rfl
 ·rename_i x hx;rw [h] at hx;cases hx
theorem strS_some {t:ByteArray} {k x:Nat} {acc:List UInt8} (h:byteS t k=some x):strS t k acc=if x=34 then some (acc,k+1) else if x=92 then (match byteS t (k+1) with
  | none=>none
  | some y=>if y=34∨y=92 then strS t (k+2) (acc ++ [UInt8.ofNat y]) else none) else strS t (k+1) (acc ++ [UInt8.ofNat x]):=by
 rw [strS];split
 ·rename_i hx;rw [h] at hx;cases hx
 ·rename_i x' hx
  rw [h] at hx
  injection hx with hx
  subst hx
  rfl
theorem start_facts (w:World) (b a:Nat) (t:ByteArray) (A Bd:Obj) (hs:ScIs w b t a) :
  ScIs (((w.setCell ⟨b,1,none⟩ (.int .i64 ((a+1:Nat):Int))).alloc A).alloc Bd) b t (a+1)∧(((w.setCell ⟨b,1,none⟩ (.int .i64 ((a+1:Nat):Int))).alloc A).alloc Bd).heap[w.heap.size]? = some A ∧
  (((w.setCell ⟨b,1,none⟩ (.int .i64 ((a+1:Nat):Int))).alloc A).alloc Bd).heap[w.heap.size+1]? = some Bd∧w.grownBy (((w.setCell ⟨b,1,none⟩ (.int .i64 ((a+1:Nat):Int))).alloc A).alloc Bd) (some b):=by
 have h1:=hs.set (a+1)
 have hg:=grownBy_set w b 1 (.int .i64 ((a+1:Nat):Int))
 have hsz:(w.setCell ⟨b,1,none⟩ (.int .i64 ((a+1:Nat):Int))).heap.size=w.heap.size:=by simp
 generalize w.setCell ⟨b,1,none⟩ (.int .i64 ((a+1:Nat):Int))=W at h1 hg hsz
 have hb:Below W.heap.size W ((W.alloc A).alloc Bd):=((Below.refl _ _).alloc (Nat.le_refl _) _).alloc (by simp) _
 rw [← hsz]
 exact ⟨h1.later hb,heap_alloc2_old _ _ _,heap_alloc2_new _ _ _,grownBy_trans hg (grownBy_below hb _)⟩
theorem scanStr_core (b a kind place:Nat) (num:Int) (txt t:ByteArray) (w:World) (hs:ScIs w b t a) (ha:a<t.size) (ht:t.size≤2000) :
  Calls Tryz.prog 182 #[.pointer (some ⟨b,0,none⟩),tokV kind place num txt] w fun e w'=>w.grownBy w' (some b)∧((∃ l c,strS t (a+1) []=some (l,c)∧e = .returned (.string ⟨l.toArray⟩)∧ScIs w' b t c)∨(strS t (a+1) []=none∧e=gaveUp place)):=by
 have HS:=hide hs
 have c1:=hs.c1
 have hbl:=lt_heap hs
 have hf:=fun j=>frozen_of_row w b j _ _ hs
 clear hs
 unfold tokV
 go_enter Tryz.func182,Tryz.ntmps182
 go_wp2_with fail
 go_loopw [6] (fun _ wr=>∃ (k:Nat) (acc:List UInt8),k≤t.size∧a<k∧acc.length≤k∧strS t k acc=strS t (a+1) []∧ScIs wr b t k∧Lib.IsBuilderF 211 5 w.heap.size (w.heap.size+1) (Lib.byteCells acc) wr∧wr.heap[w.heap.size]? = some (.cells #[.int .u8 ((kind:Nat):Int),.int .i64 ((place:Nat):Int),.int .i64 num,.string txt] 204 (0,0))∧w.grownBy wr (some b))
  (fun _ wr=>t.size - atOf wr b)
 case atStart =>
  obtain ⟨s1,s2,s3,s4⟩:=start_facts w b a t (.cells #[.int .u8 ((kind:Nat):Int),.int .i64 ((place:Nat):Int),.int .i64 num,.string txt] 204) (.cells #[.pointer none,.slice none 0 0] 211) HS.out
  rw [show ((a+1:Nat):Int)=(a:Int)+1 by omega] at s1 s2 s3 s4
  exact ⟨a+1,[],by omega,by omega,by simp,rfl,s1,Or.inl ⟨by omega,_,s3,World.ownsRowF_nil _ _ _ _,by simp [Value.ownBlock]⟩,s2,s4⟩
 case round =>
  obtain ⟨k,acc,hk,hak,hacc,he,hsc,hbu,htk,hg⟩:=hrel
  have HE:=hide he
  have HSC:=hide hsc
  have HBU:=hide hbu
  have HTK:=hide htk
  have HG:=hide hg
  have t0:wr.cell? ⟨w.heap.size,0,none⟩=some (.int .u8 ((kind:Nat):Int)):=cell_of_row wr _ 0 _ _ _ htk
  have t1:wr.cell? ⟨w.heap.size,1,none⟩=some (.int .i64 ((place:Nat):Int)):=cell_of_row wr _ 1 _ _ _ htk
  have t2:wr.cell? ⟨w.heap.size,2,none⟩=some (.int .i64 num):=cell_of_row wr _ 2 _ _ _ htk
  have t3:wr.cell? ⟨w.heap.size,3,none⟩=some (.string txt):=cell_of_row wr _ 3 _ _ _ htk
  have hat:=hsc.atOf
  clear he hsc hbu htk hg
  go_wp2_with fail
  refine (byteOf_any b k kind place num txt t wr HSC.out ht).mono ?_
  rintro e w1 ⟨hg1,hc⟩
  rcases hc with ⟨x,hx,rfl,hsc1⟩|⟨hx,rfl⟩
  ·dsimp only
   have hklt:=byteS_lt hx
   have hx256:=byteS_256 hx
   have HX:=hide hx
   have HSC1:=hide hsc1
   have HG1:=hide (grownBy_trans HG.out hg1)
   have HB1:=hide (builder_grown HBU.out hg1 hbl)
   have htl:=lt_heap HTK.out
   have htk1:w1.heap[w.heap.size]? = some (.cells #[.int .u8 ((kind:Nat):Int),.int .i64 ((place:Nat):Int),.int .i64 num,.string txt] 204 (0,0)):=(hg1.block _ htl (fun e=>by injection e with e;omega)).trans HTK.out
   have HTK1:=hide htk1
   have hsz1:w.heap.size≤w1.heap.size:=HG1.out.size
   clear hx hsc1 hg1 t0 t1 t2 t3 HBU HTK HG
   by_cases h34:x=34
   ·subst h34
    have hstr:strS t (a+1) []=some (acc,k+1):=by rw [← HE.out,strS_some HX.out];rfl
    have HSTR:=hide hstr
    clear hstr htk1
    go_wp2_with (go_at_call 132;refine (Tryz.Builder_String_any_k w.heap.size (w.heap.size+1) acc _ HB1.out hsz1).mono ?_;rintro _ w2 ⟨rfl,_,hb2,_⟩)
    go_ret
    exact ⟨grown_then HG1.out hb2,Or.inl ⟨acc,k+1,HSTR.out,rfl,(hb2.block b hbl).trans HSC1.out⟩⟩
   ·have e34:((x:Int) == 34)=false:=by simp;omega
    by_cases h92:x=92
    ·subst h92
     have f0:w1.cell? ⟨w.heap.size,0,none⟩=some (.int .u8 ((kind:Nat):Int)):=cell_of_row w1 _ 0 _ _ _ htk1
     have f1:w1.cell? ⟨w.heap.size,1,none⟩=some (.int .i64 ((place:Nat):Int)):=cell_of_row w1 _ 1 _ _ _ htk1
     have f2:w1.cell? ⟨w.heap.size,2,none⟩=some (.int .i64 num):=cell_of_row w1 _ 2 _ _ _ htk1
     have f3:w1.cell? ⟨w.heap.size,3,none⟩=some (.string txt):=cell_of_row w1 _ 3 _ _ _ htk1
     clear htk1
     go_wp2_with fail
     refine (byteOf_any b (k+1) kind place num txt t w1 HSC1.out ht).mono ?_
     rintro e w2 ⟨hg2,hc2⟩
     rcases hc2 with ⟨y,hy,rfl,hsc2⟩|⟨hy,rfl⟩
     ·dsimp only
      have hylt:=byteS_lt hy
      have HY:=hide hy
      have HSC2:=hide hsc2
      have HG2:=hide (grownBy_trans HG1.out hg2)
      have HB2:=hide (builder_grown HB1.out hg2 hbl)
      have htl1:=lt_heap HTK1.out
      have htk2:w2.heap[w.heap.size]? = some (.cells #[.int .u8 ((kind:Nat):Int),.int .i64 ((place:Nat):Int),.int .i64 num,.string txt] 204 (0,0)):=(hg2.block _ htl1 (fun e=>by injection e with e;omega)).trans HTK1.out
      have HTK2:=hide htk2
      have hsz2:w.heap.size≤w2.heap.size:=HG2.out.size
      have k0:w2.cell? ⟨w.heap.size,0,none⟩=some (.int .u8 ((kind:Nat):Int)):=cell_of_row w2 _ 0 _ _ _ htk2
      have k1:w2.cell? ⟨w.heap.size,1,none⟩=some (.int .i64 ((place:Nat):Int)):=cell_of_row w2 _ 1 _ _ _ htk2
      have k2:w2.cell? ⟨w.heap.size,2,none⟩=some (.int .i64 num):=cell_of_row w2 _ 2 _ _ _ htk2
      have k3:w2.cell? ⟨w.heap.size,3,none⟩=some (.string txt):=cell_of_row w2 _ 3 _ _ _ htk2
      have htl2:=lt_heap htk2
      have hy256:=byteS_256 hy
      clear hy hsc2 hg2 f0 f1 f2 f3 htk2 HB1 HTK1 HG1 htl1
      by_cases hok:y=34∨y=92
      ·have hstr:strS t (k+2) (acc ++ [UInt8.ofNat y])=strS t (a+1) []:=by
        rw [← HE.out,strS_some HX.out,HY.out]
        simp [hok]
       have HSTR:=hide hstr
       clear hstr
       have hval:(UInt8.ofNat y).toNat=y:=by simp;omega
       have hyc:(((y:Int) == 34)=true)∨(((y:Int) == 34)=false∧((y:Int) == 92)=true):=by
        rcases hok with rfl|rfl
        ·left;rfl
        ·right;exact ⟨rfl,rfl⟩
       have HVAL:=hide hval
       clear hok hval
       rcases hyc with y1|⟨y1,y2⟩
       all_goals
        go_wp2_with (first|(go_at_call 128;refine (must_ok kind place num txt _).mono ?_;rintro _ w3 ⟨rfl,hm⟩)|(go_at_call 220;refine (Tryz.Builder_WriteByte_k w.heap.size (w.heap.size+1) _ _ _ (builder_later HB2.out hm) (by rw [Lib.byteCells_length];omega) (Nat.le_trans hsz2 hm.size)).mono ?_;rintro _ w4 ⟨rfl,hB4,hb4,hk4⟩))
        go_roundw
        case rel =>
         have hsc4:ScIs w4 b t (k+2):=(hb4.block b hbl).trans (HSC2.out.later hm)
         refine ⟨k+2,acc ++ [UInt8.ofNat y],by omega,by omega,by simp;omega,HSTR.out,hsc4,Or.inr ?_,?_,grown_then (grownBy_trans HG2.out (grownBy_below hm _)) hb4⟩
         ·rw [Lib.byteCells_append]
          have e:Lib.byteCells [UInt8.ofNat y] = [Value.int .u8 ((y:Nat):Int)]:=by simp [Lib.byteCells,HVAL.out]
          rw [e]
          exact hB4
         ·exact hk4 _ _ ((hm.block _ htl2).trans HTK2.out) (fun e=>by injection e with e;omega) (fun c fz e=>by cases e)
        case measure =>
         have hsc4:ScIs w4 b t (k+2):=(hb4.block b hbl).trans (HSC2.out.later hm)
         rw [hsc4.atOf,hat]
         omega
      ·have hstr:strS t (a+1) []=none:=by
        rw [← HE.out,strS_some HX.out,HY.out]
        simp [hok]
       have HSTR:=hide hstr
       have y1:((y:Int) == 34)=false:=by simp;omega
       have y2:((y:Int) == 92)=false:=by simp;omega
       clear hstr hok
       go_wp2_with (go_at_call 128;refine (must_bad kind place num txt _).mono ?_;rintro _ w3 ⟨rfl,hm⟩;dsimp only [gaveUp])
       exact ⟨rfl,grownBy_trans HG2.out (grownBy_below hm _),Or.inr ⟨HSTR.out,rfl⟩⟩
     ·dsimp only [gaveUp]
      refine ⟨rfl,grownBy_trans HG1.out hg2,Or.inr ⟨?_,rfl⟩⟩
      rw [← HE.out,strS_some HX.out,hy]
      rfl
    ·have e92:((x:Int) == 92)=false:=by simp;omega
     have hstr:strS t (k+1) (acc ++ [UInt8.ofNat x])=strS t (a+1) []:=by
      rw [← HE.out,strS_some HX.out,if_neg h34,if_neg h92]
     have HSTR:=hide hstr
     have hval:(UInt8.ofNat x).toNat=x:=by simp;omega
     have HVAL:=hide hval
     clear hstr hval htk1
     go_wp2_with (go_at_call 220;refine (Tryz.Builder_WriteByte_k w.heap.size (w.heap.size+1) _ _ _ HB1.out (by rw [Lib.byteCells_length];omega) hsz1).mono ?_;rintro _ w4 ⟨rfl,hB4,hb4,hk4⟩)
     go_roundw
     case rel =>
      have hsc4:ScIs w4 b t (k+1):=(hb4.block b hbl).trans HSC1.out
      refine ⟨k+1,acc ++ [UInt8.ofNat x],by omega,by omega,by simp;omega,HSTR.out,hsc4,Or.inr ?_,?_,grown_then HG1.out hb4⟩
      ·rw [Lib.byteCells_append]
       have e:Lib.byteCells [UInt8.ofNat x] = [Value.int .u8 ((x:Nat):Int)]:=by simp [Lib.byteCells,HVAL.out]
       rw [e]
       exact hB4
      ·exact hk4 _ _ HTK1.out (fun e=>by injection e with e;omega) (fun c fz e=>by cases e)
     case measure =>
      have hsc4:ScIs w4 b t (k+1):=(hb4.block b hbl).trans HSC1.out
      rw [hsc4.atOf,hat]
      omega
  ·dsimp only [gaveUp]
   refine ⟨rfl,grownBy_trans HG.out hg1,Or.inr ⟨?_,rfl⟩⟩
   rw [← HE.out,strS_none hx]
set_option maxHeartbeats 2000000
set_option maxRecDepth 100000
open Go.RowKit
theorem scanNum_core (b a kind:Nat) (num:Int) (txt t:ByteArray) (w:World) (hs:ScIs w b t a) (ha:a≤t.size) (ht:t.size≤2000) :
  Calls Tryz.prog 181 #[.pointer (some ⟨b,0,none⟩),tokV kind a num txt] w fun e w'=>w.grownBy w' (some b)∧((∃ n c,numS t a a 0=some (n,c)∧e = .returned (.int .i64 ((n:Nat):Int))∧ScIs w' b t c)∨(numS t a a 0=none∧e=gaveUp a)):=by
 have HS:=hide hs
 have hbl:=lt_heap hs
 clear hs
 unfold tokV
 go_enter Tryz.func181,Tryz.ntmps181
 go_wp2_with fail
 go_loopw [5] (fun nv wr=>∃ (k n:Nat),k≤t.size∧a≤k∧k≤a+9∧n<10 ^ (k - a)∧nv = .int .i64 ((n:Nat):Int)∧numS t a k n=numS t a a 0∧ScIs wr b t k∧wr.heap[w.heap.size]? = some (.cells #[.int .u8 ((kind:Nat):Int),.int .i64 ((a:Nat):Int),.int .i64 num,.string txt] 204 (0,0))∧w.grownBy wr (some b))
  (fun _ wr=>t.size - atOf wr b)
 case atStart =>
  have hb0:Below w.heap.size w (w.alloc (.cells #[.int .u8 ((kind:Nat):Int),.int .i64 ((a:Nat):Int),.int .i64 num,.string txt] 204)):=(Below.refl _ _).alloc (Nat.le_refl _) _
  exact ⟨a,0,ha,Nat.le_refl _,by omega,by simp,rfl,rfl,HS.out.later hb0,heap_alloc_new _ _,grownBy_below hb0 _⟩
 case round =>
  obtain ⟨k,n,hk,hak,hk9,hn,rfl,he,hsc,htk,hg⟩:=hrel
  have HE:=hide he
  have HSC:=hide hsc
  have HTK:=hide htk
  have HG:=hide hg
  have c0:=hsc.c0
  have c1:=hsc.c1
  have t0:wr.cell? ⟨w.heap.size,0,none⟩=some (.int .u8 ((kind:Nat):Int)):=cell_of_row wr _ 0 _ _ _ htk
  have t1:wr.cell? ⟨w.heap.size,1,none⟩=some (.int .i64 ((a:Nat):Int)):=cell_of_row wr _ 1 _ _ _ htk
  have t2:wr.cell? ⟨w.heap.size,2,none⟩=some (.int .i64 num):=cell_of_row wr _ 2 _ _ _ htk
  have t3:wr.cell? ⟨w.heap.size,3,none⟩=some (.string txt):=cell_of_row wr _ 3 _ _ _ htk
  have hat:=hsc.atOf
  have htl:=lt_heap htk
  have hbl2:=lt_heap hsc
  have hn9:n<1000000000:=Nat.lt_of_lt_of_le hn (by
   have:=Nat.pow_le_pow_right (n:=10) (by omega) (show k - a≤9 by omega)
   simpa using this)
  have HN:=hide hn
  clear he hsc htk hg hn
  by_cases hlt:k<t.size
  ·have e1:decide (k<t.size)=true:=by simp [hlt]
   obtain ⟨x,hx⟩ : ∃ x:Nat,x=(t[k]'hlt).toNat:=⟨_,rfl⟩
   have hx2:((t[k]'hlt).toNat:Int)=(x:Int):=by rw [hx]
   have hx256:x<256:=by rw [hx];exact UInt8.toNat_lt _
   have HX:=hide hx
   clear hx
   cases hd:digB x with
   | false =>
    have HC:Hid (∀ w,Calls Tryz.prog 156 #[.int .u8 ((x:Nat):Int)] w fun e w'=>e = .returned (.bool false)∧w'=w):=fun w=>by
     have:=isDigit_any x w
     rwa [hd] at this
    have hnum:numS t a a 0=some (n,k):=by rw [← HE.out,numS,dif_pos hlt,← HX.out,hd];rfl
    have HNUM:=hide hnum
    clear hnum hd
    go_wp2
    go_quiet ((go_at_call 156;exact Calls.quiet_of_same (HC.out _)))
    go_wp2
    go_ret
    exact ⟨grownBy_trans HG.out (grownBy_below ((Below.refl _ _).drewN nq) _),Or.inl ⟨n,k,HNUM.out,rfl,HSC.out⟩⟩
   | true =>
    have HC:Hid (∀ w,Calls Tryz.prog 156 #[.int .u8 ((x:Nat):Int)] w fun e w'=>e = .returned (.bool true)∧w'=w):=fun w=>by
     have:=isDigit_any x w
     rwa [hd] at this
    have hx48:48≤x∧x≤57:=by unfold digB at hd;simpa using hd
    have hnum:numS t a a 0=if (a<k∧n=0)∨¬ k<a+9 then none else numS t a (k+1) (10 * n+(x - 48)):=by rw [← HE.out,numS,dif_pos hlt,← HX.out,hd];rfl
    have HNUM:=hide hnum
    clear hnum hd
    by_cases hlz:a<k∧n=0
    ·obtain ⟨h1,rfl⟩:=hlz
     have hnone:numS t a a 0=none:=by rw [HNUM.out,if_pos (Or.inl ⟨h1,rfl⟩)]
     have HNONE:=hide hnone
     have g1:decide (a<k)=true:=by simp [h1]
     have HK:=hide (And.intro h1 (And.intro hak hk9))
     clear hnone h1 hak hk9
     go_wp2
     go_quiet ((go_at_call 156;exact Calls.quiet_of_same (HC.out _)))
     go_wp2
     go_quiet (fail)
     go_wp2
     clear HC hx2 hx48 hx256 e1 g1 HX hlt hn9 hat hk HN HE HNUM HSC HTK c0 c1
     refine region_stillI 13 mixed (by kernel_rfl) ?_
     simp only [List.take_succ_cons,List.take_zero,List.drop_succ_cons,List.drop_zero]
     iterate 13 (refine stillI_step (fun K hK=>?_);go_simp;refine hK _ ?_;clear hK K)
     refine stillI_nil ?_
     go_wp2_with (go_at_call 128;refine (must_bad kind a num txt _).mono ?_;rintro _ w1 ⟨rfl,hm⟩;dsimp only [gaveUp])
     exact ⟨rfl,grownBy_trans HG.out (grownBy_below (show Below wr.heap.size wr w1 from ⟨hm.os,hm.tape,hm.output,hm.size,hm.block⟩) _),Or.inr ⟨HNONE.out,rfl⟩⟩
    ·have hz:(decide (a<k)=false)∨(decide (a<k)=true∧((n:Int) == 0)=false):=by
      by_cases h1:a<k
      ·right;exact ⟨by simp [h1],by have:n≠0:=fun h=>hlz ⟨h1,h⟩;simp;omega⟩
      ·left;simp [h1]
     by_cases h9:k<a+9
     ·have hstep:numS t a (k+1) (10 * n+(x - 48))=numS t a a 0:=by rw [HNUM.out,if_neg (by omega)]
      have HSTEP:=hide hstep
      have g9:decide (k<a+9)=true:=by simp [h9]
      have g10:decide ((k:Int)<(a:Int)+9)=true:=by simp;omega
      have G10:=hide g10
      clear g9 g10
      have v1:IntKind.i64.wrap (10 * (n:Int))=10 * (n:Int):=by rw [IntKind.wrap_i64];omega
      have v2:IntKind.u8.wrap ((x:Int) - 48)=(x:Int) - 48:=by rw [IntKind.wrap_u8];omega
      have v3:IntKind.i64.wrap ((x:Int) - 48)=(x:Int) - 48:=by rw [IntKind.wrap_i64];omega
      have v4:IntKind.i64.wrap (10 * (n:Int)+((x:Int) - 48))=10 * (n:Int)+((x:Int) - 48):=by rw [IntKind.wrap_i64];omega
      have HK:=hide (And.intro hak (And.intro hk9 (And.intro hlz h9)))
      clear hstep hlz h9 hak hk9
      rcases hz with g1|⟨g1,g2⟩
      all_goals
       go_wp2
       go_quiet ((go_at_call 156;exact Calls.quiet_of_same (HC.out _)))
       go_wp2
       go_quiet (fail)
       go_wp2
       refine region_stillI 13 mixed (by kernel_rfl) ?_
       simp only [List.take_succ_cons,List.take_zero,List.drop_succ_cons,List.drop_zero]
       iterate 13 (refine stillI_step (fun K hK=>?_);go_simp;refine hK _ ?_;clear hK K)
       refine stillI_nil ?_
       go_wp2_with (go_at_call 128;rw [G10.out];refine (must_ok kind a num txt _).mono ?_;rintro _ w1 ⟨rfl,hm0⟩;have hm:Below wr.heap.size wr w1:=⟨hm0.os,hm0.tape,hm0.output,hm0.size,hm0.block⟩;have HSC1:=hide (HSC.out.later hm);have d0:=HSC1.out.c0;have d1:=HSC1.out.c1;have df:=fun j=>frozen_of_row w1 b j _ _ HSC1.out;clear hm0)
       go_quiet (fail)
       go_wp2
       go_roundw
       case rel =>
        have hkk:=HK.out
        have hnn:=HN.out
        have htl1:w.heap.size<w1.heap.size:=Nat.lt_of_lt_of_le htl hm.size
        rw [show ((k:Int)+1)=((k+1:Nat):Int) by omega]
        refine ⟨k+1,10 * n+(x - 48),by omega,by omega,by omega,?_,?_,HSTEP.out,ScIs.set (w:=w1.drewN nq) HSC1.out (k+1),?_,?_⟩
        ·rw [show k+1 - a=(k - a)+1 by omega,Nat.pow_succ]
         omega
        ·rw [show 10 * (n:Int)+((x:Int) - 48)=((10 * n+(x - 48):Nat):Int) by omega]
        ·rw [heap_setCell_other _ _ _ _ (by simp;omega)]
         exact (hm.block _ htl).trans HTK.out
        ·exact grownBy_trans (grownBy_trans HG.out (grownBy_below hm _)) (grownBy_trans (grownBy_below ((Below.refl _ _).drewN nq) _) (grownBy_set _ _ _ _))
       case measure =>
        rw [show ((k:Int)+1)=((k+1:Nat):Int) by omega,(ScIs.set (w:=w1.drewN nq) HSC1.out (k+1)).atOf,hat]
        omega
     ·have hnone:numS t a a 0=none:=by rw [HNUM.out,if_pos (Or.inr h9)]
      have HNONE:=hide hnone
      have g10:decide ((k:Int)<(a:Int)+9)=false:=by simp;omega
      have G10:=hide g10
      have HK:=hide (And.intro hak (And.intro hk9 (And.intro hlz h9)))
      clear hnone hlz h9 hak hk9 g10
      rcases hz with g1|⟨g1,g2⟩
      all_goals
       go_wp2
       go_quiet ((go_at_call 156;exact Calls.quiet_of_same (HC.out _)))
       go_wp2
       go_quiet (fail)
       go_wp2
       refine region_stillI 13 mixed (by kernel_rfl) ?_
       simp only [List.take_succ_cons,List.take_zero,List.drop_succ_cons,List.drop_zero]
       iterate 13 (refine stillI_step (fun K hK=>?_);go_simp;refine hK _ ?_;clear hK K)
       refine stillI_nil ?_
       go_wp2_with (go_at_call 128;rw [G10.out];refine (must_bad kind a num txt _).mono ?_;rintro _ w1 ⟨rfl,hm⟩;dsimp only [gaveUp])
       exact ⟨rfl,grownBy_trans HG.out (grownBy_below (show Below wr.heap.size wr w1 from ⟨hm.os,hm.tape,hm.output,hm.size,hm.block⟩) _),Or.inr ⟨HNONE.out,rfl⟩⟩
  ·have e1:decide (k<t.size)=false:=by simp [hlt]
   have hnum:numS t a a 0=some (n,k):=by rw [← HE.out,numS,dif_neg hlt]
   have HNUM:=hide hnum
   clear hnum
   go_wp2
   go_quiet (fail)
   go_wp2
   go_ret
   exact ⟨grownBy_trans HG.out (grownBy_below ((Below.refl _ _).drewN nq) _),Or.inl ⟨n,k,HNUM.out,rfl,HSC.out⟩⟩
end Go.Proofs.YtncigfibncmioaaGreatDoor
