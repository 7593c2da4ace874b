/-
  PROVED HERE: what the program's function byteOf of the index's scanner answers: the next byte of a string, or that it gives up at the string's place.
-/
import Derived.Test.YtncigfibncmioaaGreatDoorKCont
import Derived.StillTailTactics
set_option maxHeartbeats 2000000
set_option maxRecDepth 100000
namespace Go.Proofs.YtncigfibncmioaaGreatDoor
open Go.RowKit
structure Om (P:Program) (ops:Array Oper) (w:World) (Q:Act->Prop) (l:List Oper) (a:Act):Prop where
 out:wpStill P ops w Q l a
theorem ml {P:Program} {ops:Array Oper} {w:World} {Q:Act->Prop} {a:Act} {o:Oper} {rest:List Oper}
  (h:∀ K:Act->Prop,(∀ a,Om P ops w Q rest a->K a)->if Region.wanted o (yielded ops a.tmps) then o.still P a w K else K (a.put o.dst undef)):Om P ops w Q (o::rest) a :=
 ⟨wpStill_step fun K hK=>h K fun a' h'=>hK a' h'.out⟩
theorem xR {P:Program} {ops:Array Oper} {w:World} {Q:Act->Prop} {a:Act} (h:Q a):Om P ops w Q [] a:=⟨wpStill_nil h⟩
theorem xS {P:Program} {id:Nat} {Q:Exit->Act->World->Prop} {a:Act} {w:World} {l:List Oper} (n:Nat) (hm:P.follows .mixedOrders=true) (hB:Region.lexTailB .any l.toArray n=true)
  (h:Om P l.toArray w.drew (fun a'=>wpList P l.toArray Q (l.drop n) a' w.drew) (l.take n) a):(Code.region id l.toArray true).wp P Q a w :=
 wp_region_still_tail n hm hB h.out
theorem mixed:Tryz.prog.follows .mixedOrders=true:=by kernel_rfl
theorem aD.later {w w':World} {b a:Nat} {t:ByteArray} (h:aD w b t a) (hb:Below w.heap.size w w'):aD w' b t a:=(hb.block b (ax h)).trans h
theorem Qnn (b a kind place:Nat) (num:Int) (txt t:ByteArray) (w:World) (x:Nat) (hs:aD w b t a) (ha:a<t.size) (ht:t.size<=2000) (hx:x=(t[a]'ha).toNat) (h1:32<=x) (h2:x<=126) :
  Calls Tryz.prog 219 #[.pointer (some ⟨b,0,none⟩),bw kind place num txt] w fun e w'=>e = .returned (.int .u8 ((x:Nat):Int))/\w.grownBy w' (some b)/\aD w' b t (a+1):=by
 have hx2:((t[a]'ha).toNat:Int)=(x:Int):=by rw [hx]
 have HS:=aa hs;have c0:=hs.c0;have c1:=hs.c1;have hbl:=ax hs;clear hx hs;have e1:decide (a<t.size)=true:=by simp [ha]
 unfold bw;go_enter Tryz.func219,Tryz.ntmps219;go_wp2_with fail
 go_region_held3 (fun w'=>w'.cell? ⟨b,0,none⟩=some (.string t)/\w'.cell? ⟨b,1,none⟩=some (.int .i64 ((a:Nat):Int))/\w'.cell? ⟨w.heap.size,0,none⟩=some (.int .u8 ((kind:Nat):Int))/\w'.cell? ⟨w.heap.size,1,none⟩=some (.int .i64 ((place:Nat):Int))/\w'.cell? ⟨w.heap.size,2,none⟩=some (.int .i64 num)/\w'.cell? ⟨w.heap.size,3,none⟩=some (.string txt))
  (first|go_keep|(refine ⟨?_,?_,?_,?_,?_,?_⟩<;>(refine cell_later hm ?_;go_keep)))
  ((go_at_call 128;refine (sJ kind place num txt _).mono ?_;rintro _ w1 ⟨rfl,hm⟩))
 have d0:w1.cell? ⟨b,0,none⟩=some (.string t):=cell_later hm (by go_keep);have d1:w1.cell? ⟨b,1,none⟩=some (.int .i64 ((a:Nat):Int)):=cell_later hm (by go_keep);have f0:w1.cell? ⟨w.heap.size,0,none⟩=some (.int .u8 ((kind:Nat):Int)):=cell_later hm (by go_keep);have f1:w1.cell? ⟨w.heap.size,1,none⟩=some (.int .i64 ((place:Nat):Int)):=cell_later hm (by go_keep);have f2:w1.cell? ⟨w.heap.size,2,none⟩=some (.int .i64 num):=cell_later hm (by go_keep);have f3:w1.cell? ⟨w.heap.size,3,none⟩=some (.string txt):=cell_later hm (by go_keep);have hb1:Below w.heap.size w w1:=(((Below.refl _ _).alloc (Nat.le_refl _) _).drew).trans (hm.mono (by simp));have ij:=aa (HS.out.later hb1);have hs1:=hb1.size;clear hm c0 c1;have g1:decide ((32:Int)<=(x:Int))=true:=by simp;omega
 have g2:decide ((x:Int)<=126)=true:=by simp;omega
 go_wp2
 go_quiet (fail)
 go_wp2_with (go_at_call 128;refine (sJ kind place num txt _).mono ?_;rintro _ w2 ⟨rfl,j8⟩;have fg:Hid (aD w2 b t a):=aD.later (w:=w1.drewN nq) ij.out j8;have p1:=fg.out.c1;have pf:=fun j=>frozen_of_row w2 b j _ _ fg.out);go_ret;rw [show ((a:Int)+1)=((a+1:Nat):Int) by omega];refine ⟨rfl,?_,fg.out.set (a+1)⟩;exact dF (jJ (hb1.trans ((Below.drewN (Below.refl _ _) nq).trans (j8.mono (Nat.le_refl _)) |>.mono hs1)) _) (nE _ _ _ _)
theorem Qmn (b a kind place:Nat) (num:Int) (txt t:ByteArray) (w:World) (hs:aD w b t a) (ha:¬ a<t.size) :
  Calls Tryz.prog 219 #[.pointer (some ⟨b,0,none⟩),bw kind place num txt] w fun e w'=>e=bE place/\w.grownBy w' (some b):=by
 have HS:=aa hs;have c0:=hs.c0;have c1:=hs.c1;have hbl:=ax hs;clear hs;have e1:decide (a<t.size)=false:=by simp [ha]
 unfold bw;go_enter Tryz.func219,Tryz.ntmps219;go_wp2_with fail;refine wp_region_still_tail 11 mixed (by kernel_rfl) ?_
 change wpStill Tryz.prog _ (w.alloc (.cells #[.int .u8 ((kind:Nat):Int),.int .i64 ((place:Nat):Int),.int .i64 num,.string txt] 204)).drew (fun a'=>wpList Tryz.prog _ _ _ a' (w.alloc (.cells #[.int .u8 ((kind:Nat):Int),.int .i64 ((place:Nat):Int),.int .i64 num,.string txt] 204)).drew) _ _
 simp only [List.take_succ_cons,List.take_zero,List.drop_succ_cons,List.drop_zero]
 iterate 11 still_step
 refine wpStill_nil ?_;go_wp2_with (go_at_call 128;refine (kK kind place num txt _).mono ?_;rintro _ w1 ⟨rfl,hm⟩;dsimp only [bE]);exact ⟨rfl,rfl,jJ ((((Below.refl _ _).alloc (Nat.le_refl _) _).drew).trans (hm.mono (by simp))) _⟩
theorem Qmo (b a kind place:Nat) (num:Int) (txt t:ByteArray) (w:World) (x:Nat) (hs:aD w b t a) (ha:a<t.size) (hx:x=(t[a]'ha).toNat) (h12:¬ (32<=x/\x<=126)) :
  Calls Tryz.prog 219 #[.pointer (some ⟨b,0,none⟩),bw kind place num txt] w fun e w'=>e=bE place/\w.grownBy w' (some b):=by
 have hx2:((t[a]'ha).toNat:Int)=(x:Int):=by rw [hx]
 have HS:=aa hs;have c0:=hs.c0;have c1:=hs.c1;have hbl:=ax hs;clear hx hs;have e1:decide (a<t.size)=true:=by simp [ha]
 unfold bw;go_enter Tryz.func219,Tryz.ntmps219;go_wp2_with fail
 go_region_held3 (fun w'=>w'.cell? ⟨b,0,none⟩=some (.string t)/\w'.cell? ⟨b,1,none⟩=some (.int .i64 ((a:Nat):Int))/\w'.cell? ⟨w.heap.size,0,none⟩=some (.int .u8 ((kind:Nat):Int))/\w'.cell? ⟨w.heap.size,1,none⟩=some (.int .i64 ((place:Nat):Int))/\w'.cell? ⟨w.heap.size,2,none⟩=some (.int .i64 num)/\w'.cell? ⟨w.heap.size,3,none⟩=some (.string txt))
  (first|go_keep|(refine ⟨?_,?_,?_,?_,?_,?_⟩<;>(refine cell_later hm ?_;go_keep)))
  ((go_at_call 128;refine (sJ kind place num txt _).mono ?_;rintro _ w1 ⟨rfl,hm⟩))
 have d0:w1.cell? ⟨b,0,none⟩=some (.string t):=cell_later hm (by go_keep);have d1:w1.cell? ⟨b,1,none⟩=some (.int .i64 ((a:Nat):Int)):=cell_later hm (by go_keep);have f0:w1.cell? ⟨w.heap.size,0,none⟩=some (.int .u8 ((kind:Nat):Int)):=cell_later hm (by go_keep);have f1:w1.cell? ⟨w.heap.size,1,none⟩=some (.int .i64 ((place:Nat):Int)):=cell_later hm (by go_keep);have f2:w1.cell? ⟨w.heap.size,2,none⟩=some (.int .i64 num):=cell_later hm (by go_keep);have f3:w1.cell? ⟨w.heap.size,3,none⟩=some (.string txt):=cell_later hm (by go_keep);have hb1:Below w.heap.size w w1:=(((Below.refl _ _).alloc (Nat.le_refl _) _).drew).trans (hm.mono (by simp));have hs1:=hb1.size;clear hm c0 c1;have gp:(decide ((32:Int)<=(x:Int))=false)∨(decide ((32:Int)<=(x:Int))=true/\decide ((x:Int)<=126)=false):=by
  by_cases g:32<=x
  ·right;exact ⟨by simp;omega,by simp;omega⟩
  ·left;simp;omega
 rcases gp with g1|⟨g1,g2⟩
 all_goals
  go_wp2
  go_quiet (fail)
  go_wp2_with (go_at_call 128;refine (kK kind place num txt _).mono ?_;rintro _ w2 ⟨rfl,j8⟩;dsimp only [bE]);exact ⟨rfl,rfl,jJ (hb1.trans ((Below.drewN (Below.refl _ _) nq).trans (j8.mono (Nat.le_refl _)) |>.mono hs1)) _⟩
theorem Ya {t:ByteArray} {a x:Nat} (h:mm t a=some x):x<256:=by
 unfold mm at h
 split at h
 ·split at h
  ·injection h with h;subst h;exact UInt8.toNat_lt _
  ·cases h
 ·cases h
theorem Yb (b a kind place:Nat) (num:Int) (txt t:ByteArray) (w:World) (hs:aD w b t a) (ht:t.size<=2000) :
  Calls Tryz.prog 219 #[.pointer (some ⟨b,0,none⟩),bw kind place num txt] w fun e w'=>w.grownBy w' (some b)/\((∃ x,mm t a=some x/\e = .returned (.int .u8 ((x:Nat):Int))/\aD w' b t (a+1))∨(mm t a=none/\e=bE place)):=by
 by_cases ha:a<t.size
 ·by_cases hx:32<=(t[a]'ha).toNat/\(t[a]'ha).toNat<=126
  ·refine (Qnn b a kind place num txt t w _ hs ha ht rfl hx.1 hx.2).mono ?_;rintro e w' ⟨he,hg,hsc⟩;exact ⟨hg,Or.inl ⟨_,by unfold mm;rw [dif_pos ha,if_pos hx],he,hsc⟩⟩
  ·refine (Qmo b a kind place num txt t w _ hs ha rfl hx).mono ?_;rintro e w' ⟨he,hg⟩;exact ⟨hg,Or.inr ⟨by unfold mm;rw [dif_pos ha,if_neg hx],he⟩⟩
 ·refine (Qmn b a kind place num txt t w hs ha).mono ?_;rintro e w' ⟨he,hg⟩;exact ⟨hg,Or.inr ⟨by unfold mm;rw [dif_neg ha],he⟩⟩
open Go.RowKit
theorem Qfc {T e:TypeId} {B bb b:Nat} {bs:List Value} {w w':World} (h:Lib.IsBuilderF T e B bb bs w) (hg:w.grownBy w' (some b)) (hb:b<B):Lib.IsBuilderF T e B bb bs w':=by
 have key:∀ p,Lib.BuilderAtF T e B bb p bs w->Lib.BuilderAtF T e B bb p bs w':=by
  rintro p ⟨h1,v,h2,h3,h4⟩;refine ⟨h1,v,(hg.block bb (ax h2) (fun e=>by injection e with e;omega)).trans h2,⟨h3.1,h3.2.imp id ?_⟩,h4⟩;rintro ⟨g,cap,cur,fz,e1,e2,e3,e4⟩;exact ⟨g,cap,cur,fz,e1,e2,(hg.block g (ax e3) (fun e=>by injection e with e;omega)).trans e3,e4⟩
 exact h.imp (key _) (key _)
theorem wQ {w w1 w2:World} {r:Option Nat} (h:w.grownBy w1 r) (hb:Below w.heap.size w1 w2):w.grownBy w2 r :=
 ⟨hb.os.trans h.os,hb.tape.trans h.tape,hb.output.trans h.output,Nat.le_trans h.size hb.size,fun j hj hne=>(hb.block j hj).trans (h.block j hj hne)⟩
theorem Zf {t:ByteArray} {k:Nat} {acc:List UInt8} (h:mm t k=none):cO t k acc=none:=by
 rw [cO];split
 ·rfl
 ·rename_i x hx;rw [h] at hx;cases hx
theorem Jf {t:ByteArray} {k x:Nat} {acc:List UInt8} (h:mm t k=some x):cO t k acc=if x=34 then some (acc,k+1) else if x=92 then (match mm t (k+1) with
  | none=>none
  | some y=>if y=34∨y=92 then cO t (k+2) (acc ++ [UInt8.ofNat y]) else none) else cO t (k+1) (acc ++ [UInt8.ofNat x]):=by
 rw [cO];split
 ·rename_i hx;rw [h] at hx;cases hx
 ·rename_i x' hx
  rw [h] at hx;injection hx with hx
  subst hx;rfl
theorem QkH (w:World) (b a:Nat) (t:ByteArray) (A Bd:Obj) (hs:aD w b t a) :
  aD (((w.setCell ⟨b,1,none⟩ (.int .i64 ((a+1:Nat):Int))).alloc A).alloc Bd) b t (a+1)/\(((w.setCell ⟨b,1,none⟩ (.int .i64 ((a+1:Nat):Int))).alloc A).alloc Bd).heap[w.heap.size]? = some A /\
  (((w.setCell ⟨b,1,none⟩ (.int .i64 ((a+1:Nat):Int))).alloc A).alloc Bd).heap[w.heap.size+1]? = some Bd/\w.grownBy (((w.setCell ⟨b,1,none⟩ (.int .i64 ((a+1:Nat):Int))).alloc A).alloc Bd) (some b):=by
 have h1:=hs.set (a+1);have hg:=nE w b 1 (.int .i64 ((a+1:Nat):Int));have hsz:(w.setCell ⟨b,1,none⟩ (.int .i64 ((a+1:Nat):Int))).heap.size=w.heap.size:=by simp
 generalize w.setCell ⟨b,1,none⟩ (.int .i64 ((a+1:Nat):Int))=W at h1 hg hsz;have hb:Below W.heap.size W ((W.alloc A).alloc Bd):=((Below.refl _ _).alloc (Nat.le_refl _) _).alloc (by simp) _;rw [<- hsz];exact ⟨h1.later hb,heap_alloc2_old _ _ _,heap_alloc2_new _ _ _,dF hg (jJ hb _)⟩
theorem QjS (b a kind place:Nat) (num:Int) (txt t:ByteArray) (w:World) (hs:aD w b t a) (ha:a<t.size) (ht:t.size<=2000) :
  Calls Tryz.prog 182 #[.pointer (some ⟨b,0,none⟩),bw kind place num txt] w fun e w'=>w.grownBy w' (some b)/\((∃ l c,cO t (a+1) []=some (l,c)/\e = .returned (.string ⟨l.toArray⟩)/\aD w' b t c)∨(cO t (a+1) []=none/\e=bE place)):=by
 have HS:=aa hs;have c1:=hs.c1;have hbl:=ax hs;have hf:=fun j=>frozen_of_row w b j _ _ hs
 clear hs;unfold bw;go_enter Tryz.func182,Tryz.ntmps182;go_wp2_with fail
 go_loopw [6] (fun _ wr=>∃ (k:Nat) (acc:List UInt8),k<=t.size/\a<k/\acc.length<=k/\cO t k acc=cO t (a+1) []/\aD wr b t k/\Lib.IsBuilderF 211 5 w.heap.size (w.heap.size+1) (Lib.byteCells acc) wr/\wr.heap[w.heap.size]? = some (.cells #[.int .u8 ((kind:Nat):Int),.int .i64 ((place:Nat):Int),.int .i64 num,.string txt] 204 (0,0))/\w.grownBy wr (some b))
  (fun _ wr=>t.size - j0 wr b)
 case atStart =>
  obtain ⟨s1,s2,s3,s4⟩:=QkH w b a t (.cells #[.int .u8 ((kind:Nat):Int),.int .i64 ((place:Nat):Int),.int .i64 num,.string txt] 204) (.cells #[.pointer none,.slice none 0 0] 211) HS.out;rw [show ((a+1:Nat):Int)=(a:Int)+1 by omega] at s1 s2 s3 s4;exact ⟨a+1,[],by omega,by omega,by simp,rfl,s1,Or.inl ⟨by omega,_,s3,World.ownsRowF_nil _ _ _ _,by simp [Value.ownBlock]⟩,s2,s4⟩
 case round =>
  obtain ⟨k,acc,hk,G9,aap,he,hsc,CE,cN,hg⟩:=hrel;have HE:=aa he;have j9:=aa hsc;have uY:=aa CE;have nu:=aa cN;have HG:=aa hg;have t0:wr.cell? ⟨w.heap.size,0,none⟩=some (.int .u8 ((kind:Nat):Int)):=cell_of_row wr _ 0 _ _ _ cN;have t1:wr.cell? ⟨w.heap.size,1,none⟩=some (.int .i64 ((place:Nat):Int)):=cell_of_row wr _ 1 _ _ _ cN;have t2:wr.cell? ⟨w.heap.size,2,none⟩=some (.int .i64 num):=cell_of_row wr _ 2 _ _ _ cN;have t3:wr.cell? ⟨w.heap.size,3,none⟩=some (.string txt):=cell_of_row wr _ 3 _ _ _ cN;have hat:=hsc.j0;clear he hsc CE cN hg;go_wp2_with fail;refine (Yb b k kind place num txt t wr j9.out ht).mono ?_;rintro e w1 ⟨hg1,hc⟩
  rcases hc with ⟨x,hx,rfl,dC⟩|⟨hx,rfl⟩
  ·dsimp only;have aaq:=Jg hx;have uK:=Ya hx;have HX:=aa hx;have gb:=aa dC;have bT:=aa (dF HG.out hg1);have br:=aa (Qfc uY.out hg1 hbl);have lA:=ax nu.out;have qZ:w1.heap[w.heap.size]? = some (.cells #[.int .u8 ((kind:Nat):Int),.int .i64 ((place:Nat):Int),.int .i64 num,.string txt] 204 (0,0)):=(hg1.block _ lA (fun e=>by injection e with e;omega)).trans nu.out;have CF:=aa qZ;have Cm:w.heap.size<=w1.heap.size:=bT.out.size;clear hx dC hg1 t0 t1 t2 t3 uY nu HG
   by_cases wY:x=34
   ·subst wY;have dP:cO t (a+1) []=some (acc,k+1):=by rw [<- HE.out,Jf HX.out];rfl
    have kG:=aa dP;clear dP qZ;go_wp2_with (go_at_call 132;refine (Tryz.Builder_String_any_k w.heap.size (w.heap.size+1) acc _ br.out Cm).mono ?_;rintro _ w2 ⟨rfl,_,hb2,_⟩);go_ret;exact ⟨wQ bT.out hb2,Or.inl ⟨acc,k+1,kG.out,rfl,(hb2.block b hbl).trans gb.out⟩⟩
   ·have e34:((x:Int) == 34)=false:=by simp;omega
    by_cases h92:x=92
    ·subst h92;have f0:w1.cell? ⟨w.heap.size,0,none⟩=some (.int .u8 ((kind:Nat):Int)):=cell_of_row w1 _ 0 _ _ _ qZ;have f1:w1.cell? ⟨w.heap.size,1,none⟩=some (.int .i64 ((place:Nat):Int)):=cell_of_row w1 _ 1 _ _ _ qZ;have f2:w1.cell? ⟨w.heap.size,2,none⟩=some (.int .i64 num):=cell_of_row w1 _ 2 _ _ _ qZ;have f3:w1.cell? ⟨w.heap.size,3,none⟩=some (.string txt):=cell_of_row w1 _ 3 _ _ _ qZ;clear qZ;go_wp2_with fail;refine (Yb b (k+1) kind place num txt t w1 gb.out ht).mono ?_;rintro e w2 ⟨hg2,hc2⟩
     rcases hc2 with ⟨y,hy,rfl,jo⟩|⟨hy,rfl⟩
     ·dsimp only;have aar:=Jg hy;have HY:=aa hy;have nH:=aa jo;have bP:=aa (dF bT.out hg2);have cL:=aa (Qfc br.out hg2 hbl);have Hb:=ax CF.out;have tW:w2.heap[w.heap.size]? = some (.cells #[.int .u8 ((kind:Nat):Int),.int .i64 ((place:Nat):Int),.int .i64 num,.string txt] 204 (0,0)):=(hg2.block _ Hb (fun e=>by injection e with e;omega)).trans CF.out;have Ui:=aa tW;have kV:w.heap.size<=w2.heap.size:=bP.out.size;have k0:w2.cell? ⟨w.heap.size,0,none⟩=some (.int .u8 ((kind:Nat):Int)):=cell_of_row w2 _ 0 _ _ _ tW;have k1:w2.cell? ⟨w.heap.size,1,none⟩=some (.int .i64 ((place:Nat):Int)):=cell_of_row w2 _ 1 _ _ _ tW;have k2:w2.cell? ⟨w.heap.size,2,none⟩=some (.int .i64 num):=cell_of_row w2 _ 2 _ _ _ tW;have k3:w2.cell? ⟨w.heap.size,3,none⟩=some (.string txt):=cell_of_row w2 _ 3 _ _ _ tW;have Uj:=ax tW;have aaa:=Ya hy;clear hy jo hg2 f0 f1 f2 f3 tW br CF bT Hb
      by_cases aF:y=34∨y=92
      ·have dP:cO t (k+2) (acc ++ [UInt8.ofNat y])=cO t (a+1) []:=by
        rw [<- HE.out,Jf HX.out,HY.out];simp [aF]
       have kG:=aa dP;clear dP;have hval:(UInt8.ofNat y).toNat=y:=by simp;omega
       have hyc:(((y:Int) == 34)=true)∨(((y:Int) == 34)=false/\((y:Int) == 92)=true):=by
        rcases aF with rfl|rfl
        ·left;rfl
        ·right;exact ⟨rfl,rfl⟩
       have ym:=aa hval;clear aF hval
       rcases hyc with y1|⟨y1,y2⟩
       all_goals
        go_wp2_with (first|(go_at_call 128;refine (sJ kind place num txt _).mono ?_;rintro _ w3 ⟨rfl,hm⟩)|(go_at_call 220;refine (Tryz.Builder_WriteByte_k w.heap.size (w.heap.size+1) _ _ _ (LY cL.out hm) (by rw [Lib.byteCells_length];omega) (Nat.le_trans kV hm.size)).mono ?_;rintro _ w4 ⟨rfl,Uk,hb4,hk4⟩))
        go_roundw
        case rel =>
         have gg:aD w4 b t (k+2):=(hb4.block b hbl).trans (nH.out.later hm);refine ⟨k+2,acc ++ [UInt8.ofNat y],by omega,by omega,by simp;omega,kG.out,gg,Or.inr ?_,?_,wQ (dF bP.out (jJ hm _)) hb4⟩
         ·rw [Lib.byteCells_append];have e:Lib.byteCells [UInt8.ofNat y] = [Value.int .u8 ((y:Nat):Int)]:=by simp [Lib.byteCells,ym.out]
          rw [e];exact Uk
         ·exact hk4 _ _ ((hm.block _ Uj).trans Ui.out) (fun e=>by injection e with e;omega) (fun c fz e=>by cases e)
        case measure =>
         have gg:aD w4 b t (k+2):=(hb4.block b hbl).trans (nH.out.later hm);rw [gg.j0,hat];omega
      ·have dP:cO t (a+1) []=none:=by
        rw [<- HE.out,Jf HX.out,HY.out];simp [aF]
       have kG:=aa dP;have y1:((y:Int) == 34)=false:=by simp;omega
       have y2:((y:Int) == 92)=false:=by simp;omega
       clear dP aF;go_wp2_with (go_at_call 128;refine (kK kind place num txt _).mono ?_;rintro _ w3 ⟨rfl,hm⟩;dsimp only [bE]);exact ⟨rfl,dF bP.out (jJ hm _),Or.inr ⟨kG.out,rfl⟩⟩
     ·dsimp only [bE];refine ⟨rfl,dF bT.out hg2,Or.inr ⟨?_,rfl⟩⟩;rw [<- HE.out,Jf HX.out,hy];rfl
    ·have e92:((x:Int) == 92)=false:=by simp;omega
     have dP:cO t (k+1) (acc ++ [UInt8.ofNat x])=cO t (a+1) []:=by
      rw [<- HE.out,Jf HX.out,if_neg wY,if_neg h92]
     have kG:=aa dP;have hval:(UInt8.ofNat x).toNat=x:=by simp;omega
     have ym:=aa hval;clear dP hval qZ;go_wp2_with (go_at_call 220;refine (Tryz.Builder_WriteByte_k w.heap.size (w.heap.size+1) _ _ _ br.out (by rw [Lib.byteCells_length];omega) Cm).mono ?_;rintro _ w4 ⟨rfl,Uk,hb4,hk4⟩)
     go_roundw
     case rel =>
      have gg:aD w4 b t (k+1):=(hb4.block b hbl).trans gb.out;refine ⟨k+1,acc ++ [UInt8.ofNat x],by omega,by omega,by simp;omega,kG.out,gg,Or.inr ?_,?_,wQ bT.out hb4⟩
      ·rw [Lib.byteCells_append];have e:Lib.byteCells [UInt8.ofNat x] = [Value.int .u8 ((x:Nat):Int)]:=by simp [Lib.byteCells,ym.out]
       rw [e];exact Uk
      ·exact hk4 _ _ CF.out (fun e=>by injection e with e;omega) (fun c fz e=>by cases e)
     case measure =>
      have gg:aD w4 b t (k+1):=(hb4.block b hbl).trans gb.out;rw [gg.j0,hat];omega
  ·dsimp only [bE];refine ⟨rfl,dF HG.out hg1,Or.inr ⟨?_,rfl⟩⟩;rw [<- HE.out,Zf hx]
open Go.RowKit
theorem QjQ (b a kind:Nat) (num:Int) (txt t:ByteArray) (w:World) (hs:aD w b t a) (ha:a<=t.size) (ht:t.size<=2000) :
  Calls Tryz.prog 181 #[.pointer (some ⟨b,0,none⟩),bw kind a num txt] w fun e w'=>w.grownBy w' (some b)/\((∃ n c,dv t a a 0=some (n,c)/\e = .returned (.int .i64 ((n:Nat):Int))/\aD w' b t c)∨(dv t a a 0=none/\e=bE a)):=by
 have HS:=aa hs;have hbl:=ax hs;clear hs;unfold bw;go_enter Tryz.func181,Tryz.ntmps181;go_wp2_with fail
 go_loopw [5] (fun nv wr=>∃ (k n:Nat),k<=t.size/\a<=k/\k<=a+9/\n<10 ^ (k - a)/\nv = .int .i64 ((n:Nat):Int)/\dv t a k n=dv t a a 0/\aD wr b t k/\wr.heap[w.heap.size]? = some (.cells #[.int .u8 ((kind:Nat):Int),.int .i64 ((a:Nat):Int),.int .i64 num,.string txt] 204 (0,0))/\w.grownBy wr (some b))
  (fun _ wr=>t.size - j0 wr b)
 case atStart =>
  have hb0:Below w.heap.size w (w.alloc (.cells #[.int .u8 ((kind:Nat):Int),.int .i64 ((a:Nat):Int),.int .i64 num,.string txt] 204)):=(Below.refl _ _).alloc (Nat.le_refl _) _;exact ⟨a,0,ha,Nat.le_refl _,by omega,by simp,rfl,rfl,HS.out.later hb0,heap_alloc_new _ _,jJ hb0 _⟩
 case round =>
  obtain ⟨k,n,hk,G9,JD,hn,rfl,he,hsc,cN,hg⟩:=hrel;have HE:=aa he;have j9:=aa hsc;have nu:=aa cN;have HG:=aa hg;have c0:=hsc.c0;have c1:=hsc.c1;have t0:wr.cell? ⟨w.heap.size,0,none⟩=some (.int .u8 ((kind:Nat):Int)):=cell_of_row wr _ 0 _ _ _ cN;have t1:wr.cell? ⟨w.heap.size,1,none⟩=some (.int .i64 ((a:Nat):Int)):=cell_of_row wr _ 1 _ _ _ cN;have t2:wr.cell? ⟨w.heap.size,2,none⟩=some (.int .i64 num):=cell_of_row wr _ 2 _ _ _ cN;have t3:wr.cell? ⟨w.heap.size,3,none⟩=some (.string txt):=cell_of_row wr _ 3 _ _ _ cN;have hat:=hsc.j0;have lA:=ax cN;have Ha:=ax hsc;have Sk:n<1000000000:=Nat.lt_of_lt_of_le hn (by
   have:=Nat.pow_le_pow_right (n:=10) (by omega) (show k - a<=9 by omega);simpa using this)
  have HN:=aa hn;clear he hsc cN hg hn
  by_cases hlt:k<t.size
  ·have e1:decide (k<t.size)=true:=by simp [hlt]
   obtain ⟨x,hx⟩ : ∃ x:Nat,x=(t[k]'hlt).toNat:=⟨_,rfl⟩;have hx2:((t[k]'hlt).toNat:Int)=(x:Int):=by rw [hx]
   have uK:x<256:=by rw [hx];exact UInt8.toNat_lt _
   have HX:=aa hx;clear hx
   cases hd:dL x with
   | false =>
    have HC:Hid (∀ w,Calls Tryz.prog 156 #[.int .u8 ((x:Nat):Int)] w fun e w'=>e = .returned (.bool false)/\w'=w):=fun w=>by
     have:=OS x w;rwa [hd] at this
    have gC:dv t a a 0=some (n,k):=by rw [<- HE.out,dv,dif_pos hlt,<- HX.out,hd];rfl
    have qY:=aa gC;clear gC hd;go_wp2
    go_quiet ((go_at_call 156;exact Calls.quiet_of_same (HC.out _)))
    go_wp2;go_ret;exact ⟨dF HG.out (jJ ((Below.refl _ _).drewN nq) _),Or.inl ⟨n,k,qY.out,rfl,j9.out⟩⟩
   | true =>
    have HC:Hid (∀ w,Calls Tryz.prog 156 #[.int .u8 ((x:Nat):Int)] w fun e w'=>e = .returned (.bool true)/\w'=w):=fun w=>by
     have:=OS x w;rwa [hd] at this
    have Ug:48<=x/\x<=57:=by unfold dL at hd;simpa using hd
    have gC:dv t a a 0=if (a<k/\n=0)∨¬ k<a+9 then none else dv t a (k+1) (10 * n+(x - 48)):=by rw [<- HE.out,dv,dif_pos hlt,<- HX.out,hd];rfl
    have qY:=aa gC;clear gC hd
    by_cases JE:a<k/\n=0
    ·obtain ⟨h1,rfl⟩:=JE;have hnone:dv t a a 0=none:=by rw [qY.out,if_pos (Or.inl ⟨h1,rfl⟩)]
     have zG:=aa hnone;have g1:decide (a<k)=true:=by simp [h1]
     have HK:=aa (And.intro h1 (And.intro G9 JD));clear hnone h1 G9 JD;go_wp2
     go_quiet ((go_at_call 156;exact Calls.quiet_of_same (HC.out _)))
     go_wp2
     go_quiet (fail)
     go_wp2;clear HC hx2 Ug uK e1 g1 HX hlt Sk hat hk HN HE qY j9 nu c0 c1;refine xS 13 mixed (by kernel_rfl) ?_;simp only [List.take_succ_cons,List.take_zero,List.drop_succ_cons,List.drop_zero]
     iterate 13 (refine ml (fun K hK=>?_);go_simp;refine hK _ ?_;clear hK K)
     refine xR ?_;go_wp2_with (go_at_call 128;refine (kK kind a num txt _).mono ?_;rintro _ w1 ⟨rfl,hm⟩;dsimp only [bE]);exact ⟨rfl,dF HG.out (jJ (show Below wr.heap.size wr w1 from ⟨hm.os,hm.tape,hm.output,hm.size,hm.block⟩) _),Or.inr ⟨zG.out,rfl⟩⟩
    ·have hz:(decide (a<k)=false)∨(decide (a<k)=true/\((n:Int) == 0)=false):=by
      by_cases h1:a<k
      ·right;exact ⟨by simp [h1],by have:n≠0:=fun h=>JE ⟨h1,h⟩;simp;omega⟩
      ·left;simp [h1]
     by_cases h9:k<a+9
     ·have hstep:dv t a (k+1) (10 * n+(x - 48))=dv t a a 0:=by rw [qY.out,if_neg (by omega)]
      have Mt:=aa hstep;have g9:decide (k<a+9)=true:=by simp [h9]
      have g10:decide ((k:Int)<(a:Int)+9)=true:=by simp;omega
      have Uh:=aa g10;clear g9 g10;have v1:IntKind.i64.wrap (10 * (n:Int))=10 * (n:Int):=by rw [IntKind.wrap_i64];omega
      have v2:IntKind.u8.wrap ((x:Int) - 48)=(x:Int) - 48:=by rw [IntKind.wrap_u8];omega
      have v3:IntKind.i64.wrap ((x:Int) - 48)=(x:Int) - 48:=by rw [IntKind.wrap_i64];omega
      have v4:IntKind.i64.wrap (10 * (n:Int)+((x:Int) - 48))=10 * (n:Int)+((x:Int) - 48):=by rw [IntKind.wrap_i64];omega
      have HK:=aa (And.intro G9 (And.intro JD (And.intro JE h9)));clear hstep JE h9 G9 JD
      rcases hz with g1|⟨g1,g2⟩
      all_goals
       go_wp2
       go_quiet ((go_at_call 156;exact Calls.quiet_of_same (HC.out _)))
       go_wp2
       go_quiet (fail)
       go_wp2;refine xS 13 mixed (by kernel_rfl) ?_;simp only [List.take_succ_cons,List.take_zero,List.drop_succ_cons,List.drop_zero]
       iterate 13 (refine ml (fun K hK=>?_);go_simp;refine hK _ ?_;clear hK K)
       refine xR ?_;go_wp2_with (go_at_call 128;rw [Uh.out];refine (sJ kind a num txt _).mono ?_;rintro _ w1 ⟨rfl,DY⟩;have hm:Below wr.heap.size wr w1:=⟨DY.os,DY.tape,DY.output,DY.size,DY.block⟩;have gb:=aa (j9.out.later hm);have d0:=gb.out.c0;have d1:=gb.out.c1;have df:=fun j=>frozen_of_row w1 b j _ _ gb.out;clear DY)
       go_quiet (fail)
       go_wp2
       go_roundw
       case rel =>
        have Dk:=HK.out;have hnn:=HN.out;have Hb:w.heap.size<w1.heap.size:=Nat.lt_of_lt_of_le lA hm.size;rw [show ((k:Int)+1)=((k+1:Nat):Int) by omega];refine ⟨k+1,10 * n+(x - 48),by omega,by omega,by omega,?_,?_,Mt.out,aD.set (w:=w1.drewN nq) gb.out (k+1),?_,?_⟩
        ·rw [show k+1 - a=(k - a)+1 by omega,Nat.pow_succ];omega
        ·rw [show 10 * (n:Int)+((x:Int) - 48)=((10 * n+(x - 48):Nat):Int) by omega]
        ·rw [heap_setCell_other _ _ _ _ (by simp;omega)];exact (hm.block _ lA).trans nu.out
        ·exact dF (dF HG.out (jJ hm _)) (dF (jJ ((Below.refl _ _).drewN nq) _) (nE _ _ _ _))
       case measure =>
        rw [show ((k:Int)+1)=((k+1:Nat):Int) by omega,(aD.set (w:=w1.drewN nq) gb.out (k+1)).j0,hat];omega
     ·have hnone:dv t a a 0=none:=by rw [qY.out,if_pos (Or.inr h9)]
      have zG:=aa hnone;have g10:decide ((k:Int)<(a:Int)+9)=false:=by simp;omega
      have Uh:=aa g10;have HK:=aa (And.intro G9 (And.intro JD (And.intro JE h9)));clear hnone JE h9 G9 JD g10
      rcases hz with g1|⟨g1,g2⟩
      all_goals
       go_wp2
       go_quiet ((go_at_call 156;exact Calls.quiet_of_same (HC.out _)))
       go_wp2
       go_quiet (fail)
       go_wp2;refine xS 13 mixed (by kernel_rfl) ?_;simp only [List.take_succ_cons,List.take_zero,List.drop_succ_cons,List.drop_zero]
       iterate 13 (refine ml (fun K hK=>?_);go_simp;refine hK _ ?_;clear hK K)
       refine xR ?_;go_wp2_with (go_at_call 128;rw [Uh.out];refine (kK kind a num txt _).mono ?_;rintro _ w1 ⟨rfl,hm⟩;dsimp only [bE]);exact ⟨rfl,dF HG.out (jJ (show Below wr.heap.size wr w1 from ⟨hm.os,hm.tape,hm.output,hm.size,hm.block⟩) _),Or.inr ⟨zG.out,rfl⟩⟩
  ·have e1:decide (k<t.size)=false:=by simp [hlt]
   have gC:dv t a a 0=some (n,k):=by rw [<- HE.out,dv,dif_neg hlt]
   have qY:=aa gC;clear gC;go_wp2
   go_quiet (fail)
   go_wp2;go_ret;exact ⟨dF HG.out (jJ ((Below.refl _ _).drewN nq) _),Or.inl ⟨n,k,qY.out,rfl,j9.out⟩⟩
end Go.Proofs.YtncigfibncmioaaGreatDoor
