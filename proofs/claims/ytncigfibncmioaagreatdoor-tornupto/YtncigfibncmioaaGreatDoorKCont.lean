/-
  PROVED HERE: an entry's cells, and which lists are an index.
-/
import Derived.Test.YtncigfibncmioaaGreatDoorBuilt
import Derived.Test.YtncigfibncmioaaGreatDoorKPick
set_option maxHeartbeats 2000000
set_option maxRecDepth 100000
namespace Go.Proofs.YtncigfibncmioaaGreatDoor
open Go.RowKit
def Tg.aP (t:Tg):List Value:=(aT t.name (rd t.dig) t.size).toList
theorem Tg.cG (t:Tg):t.aP.length=34:=by
 show (aT t.name (rd t.dig) t.size).toList.length=34;rw [Array.length_toList,eh _ _ _ (jm _)]
def I0 (l:List Tg):Nat->ByteArray
 | 0=>⟨#[]⟩
 | k+1=>(l.getD k default).name
def uz (l:List Tg) (k:Nat):Bool :=
 fE (l.getD k default).dig && (eP (l.getD k default).name && (!leB (l.getD k default).name (I0 l k) && (decide (0<=(l.getD k default).size) && decide ((l.getD k default).size<=300))))
def xT (l:List Tg):Bool:=decide (l.length<=8) && decide (∀ k,k<l.length->uz l k=true)
theorem Tryz.oZ:(Tryz.prog.info? 193).map (fun i=>(i.zero,i.size,i.bytes))=some (some (.agg (aT ⟨#[]⟩ (Sha.zeros 32) 0)),34,56):=by kernel_rfl
theorem Ye (l:List Tg) (k:Nat) (h:k<l.length) (f:Tg->List Value):(l.take (k+1)).flatMap f=(l.take k).flatMap f++f (l.getD k default):=by
 rw [List.take_succ_eq_append_getElem h,List.flatMap_append];simp [List.getD_eq_getElem?_getD,h]
end Go.Proofs.YtncigfibncmioaaGreatDoor
namespace Go.Proofs.YtncigfibncmioaaGreatDoor
open Go.RowKit
def bw (kind:Nat) (place:Nat) (num:Int) (txt:ByteArray):Value:=.agg #[.int .u8 ((kind:Nat):Int),.int .i64 ((place:Nat):Int),.int .i64 num,.string txt]
def bE (p:Nat):Ending:=.panicked [{ v:=.iface 217 (.int .i64 ((p:Nat):Int)),recovered:=false }]
theorem sJ (kind place:Nat) (num:Int) (txt:ByteArray) (w:World):Calls Tryz.prog 128 #[bw kind place num txt,.bool true] w fun e w'=>e = .returned (.tuple #[])/\Below w.heap.size w w':=by
 unfold bw;go_enter Tryz.func128,Tryz.ntmps128;go_wp2
 go_end0
 exact ⟨rfl,(Below.refl _ _).alloc (Nat.le_refl _) _⟩
theorem kK (kind place:Nat) (num:Int) (txt:ByteArray) (w:World):Calls Tryz.prog 128 #[bw kind place num txt,.bool false] w fun e w'=>e=bE place/\Below w.heap.size w w':=by
 unfold bw;go_enter Tryz.func128,Tryz.ntmps128;go_wp2;exact ⟨rfl,rfl,(Below.refl _ _).alloc (Nat.le_refl _) _⟩
def aD (w:World) (b:Nat) (t:ByteArray) (a:Nat):Prop:=w.heap[b]? = some (.cells #[.string t,.int .i64 ((a:Nat):Int)] 201 (0,0))
theorem aD.c0 {w:World} {b a:Nat} {t:ByteArray} (h:aD w b t a):w.cell? ⟨b,0,none⟩=some (.string t):=cell_of_row w b 0 _ _ _ h
theorem aD.c1 {w:World} {b a:Nat} {t:ByteArray} (h:aD w b t a):w.cell? ⟨b,1,none⟩=some (.int .i64 ((a:Nat):Int)):=cell_of_row w b 1 _ _ _ h
theorem aD.set {w:World} {b a:Nat} {t:ByteArray} (h:aD w b t a) (a':Nat):aD (w.setCell ⟨b,1,none⟩ (.int .i64 ((a':Nat):Int))) b t a':=by
 unfold aD;rw [heap_setCell_same w b 1 _ 201 _ h];rfl
def j0 (w:World) (b:Nat):Nat:=match w.cell? ⟨b,1,none⟩ with|some (.int _ n)=>n.toNat|_=>0
theorem aD.j0 {w:World} {b a:Nat} {t:ByteArray} (h:aD w b t a):j0 w b=a:=by unfold Go.Proofs.YtncigfibncmioaaGreatDoor.j0;rw [h.c1];simp
theorem Qqy (x:Nat) (hx:x<256):decide (0<=Lib.indexByte [9,10,13,32] ((x:Int).toNat.toUInt8))=zt x:=by
 have h:∀ n,n<256->decide (0<=Lib.indexByte [9,10,13,32] (Nat.toUInt8 n))=zt n:=by decide +kernel
 rw [show ((x:Int).toNat)=x by omega];exact h x hx
theorem Qqz (b a:Nat) (t:ByteArray) (w:World) (hs:aD w b t a) (ha:a<=t.size) (ht:t.size<=2000) :
  Calls Tryz.prog 180 #[.pointer (some ⟨b,0,none⟩)] w fun e w'=>e = .returned (.tuple #[])/\w.grownBy w' (some b)/\aD w' b t (nN t a):=by
 have HS:=aa hs;go_enter Tryz.func180,Tryz.ntmps180;go_wp2
 go_loopw [] (fun wr=>∃ k:Nat,k<=t.size/\nN t k=nN t a/\aD wr b t k/\w.grownBy wr (some b))
  (fun wr=>t.size - j0 wr b)
 case atStart=>exact ⟨a,ha,rfl,hs,R7 _ _⟩
 case round =>
  clear hs;obtain ⟨k,hk,he,hr,hg⟩:=hrel;have HE:=aa he;have HG:=aa hg;have HR:=aa hr;have c0:=hr.c0;have c1:=hr.c1;have hf:=fun j=>frozen_of_row wr b j _ _ hr
  have hat:=hr.j0;clear hr he hg
  by_cases hlt:k<t.size
  ·have e1:decide (k<t.size)=true:=by simp [hlt]
   obtain ⟨x,hx⟩ : ∃ x:Nat,x=(t[k]'hlt).toNat:=⟨_,rfl⟩;have hx2:((t[k]'hlt).toNat:Int)=(x:Int):=by rw [hx]
   have hi:=Qqy x (by rw [hx];exact UInt8.toNat_lt _);have HX:=aa hx;clear hx;obtain ⟨ix,iN⟩ : ∃ ix,ix=Lib.indexByte [9,10,13,32] ((x:Int).toNat.toUInt8):=⟨_,rfl⟩;rw [<- iN] at hi;have bS:∀ w,Calls Tryz.prog 101 #[.string ⟨#[9,10,13,32]⟩,.int .u8 (x:Int)] w fun e w'=>e = .returned (.int .i64 ix)/\w'=w:=fun w=>by
    have:=Tryz.strings_IndexByte ⟨#[9,10,13,32]⟩ (x:Int) w;rw [iN];exact this
   have HC:=aa bS;clear bS iN
   cases hsp:zt x with
   | true =>
    have Uf:=aa hsp;rw [hsp] at hi;go_wp2
    go_quiet ((go_at_call 101;exact Calls.quiet_of_same (HC.out _)))
    go_wp2
    go_roundw
    case rel =>
     rw [show ((k:Int)+1)=((k+1:Nat):Int) by omega];refine ⟨k+1,by omega,?_,aD.set (w:=wr.drewN nq) HR.out (k+1),dF HG.out (dF (jJ ((Below.refl _ _).drewN nq) _) (nE _ _ _ _))⟩;rw [<- HE.out]
     conv=>rhs;rw [nN,dif_pos hlt,<- HX.out,Uf.out]
     rfl
    case measure =>
     rw [show ((k:Int)+1)=((k+1:Nat):Int) by omega,(aD.set (w:=wr.drewN nq) HR.out (k+1)).j0,hat];omega
   | false =>
    have Uf:=aa hsp;rw [hsp] at hi;go_wp2
    go_quiet ((go_at_call 101;exact Calls.quiet_of_same (HC.out _)))
    go_wp2
    go_end0
    refine ⟨rfl,dF HG.out (jJ ((Below.refl _ _).drewN nq) _),?_⟩;have e:nN t a=k:=by
     rw [<- HE.out,nN,dif_pos hlt,<- HX.out,Uf.out];rfl
    rw [e];exact HR.out
  ·have e1:decide (k<t.size)=false:=by simp [hlt]
   go_wp2
   go_quiet (fail)
   go_wp2
   go_end0
   refine ⟨rfl,dF HG.out (jJ ((Below.refl _ _).drewN nq) _),?_⟩;have e:nN t a=k:=by rw [<- HE.out,nN,dif_neg hlt]
   rw [e];exact HR.out
open Go.RowKit
def Ze:List ByteArray:=[⟨#[97]⟩,⟨#[97,46,98]⟩,⟨#[97,95]⟩,⟨#[97,98]⟩,⟨#[98,45]⟩,⟨#[99]⟩,⟨#[100,57]⟩,⟨#[101]⟩,⟨#[102]⟩,⟨#[103]⟩,⟨#[104]⟩,⟨#[108,97,116,101,115,116]⟩]
def nameOf (r:Nat):ByteArray:=Ze.getD r ⟨#[]⟩
theorem Qp7:∀ r,r<12->eP (nameOf r)=true:=by decide +kernel
theorem QnR:∀ r,(nameOf r).size<=6:=by
 intro r
 by_cases h:r<12
 ·revert r;decide +kernel
 ·unfold nameOf;rw [List.getD_eq_getElem?_getD,List.getElem?_eq_none (show Ze.length<=r by show 12<=r;omega)];decide
theorem Oy (c:Int) (hc : -9223372036854775808<=c) (hc2:c<=9223372036854775807) (w:World) :
  Calls Tryz.prog 37 #[.int .i64 c] w fun e w'=>e = .returned (.string (nameOf (fY c 12)))/\Below w.heap.size w w':=by
 have hlt:=yq c 12 (by decide);have hp:∀ w,Calls Tryz.prog 21 #[.int .i64 c,.int .i64 12] w fun e w'=>e = .returned (.int .i64 ((fY c 12:Nat):Int))/\w'=w:=fun w=>vy c 12 (by decide) (by decide) hc hc2 w
 generalize fY c 12=r at hlt hp ⊢;have HP:=aa hp;clear hp;have hrow:=heap_alloc_new w (.cells #[.string ⟨#[97]⟩,.string ⟨#[97,46,98]⟩,.string ⟨#[97,95]⟩,.string ⟨#[97,98]⟩,.string ⟨#[98,45]⟩,.string ⟨#[99]⟩,.string ⟨#[100,57]⟩,.string ⟨#[101]⟩,.string ⟨#[102]⟩,.string ⟨#[103]⟩,.string ⟨#[104]⟩,.string ⟨#[108,97,116,101,115,116]⟩] 9 (0,0));have hcell:=cell_of_row _ _ r _ _ _ hrow;have hval:(#[Value.string ⟨#[97]⟩,Value.string ⟨#[97,46,98]⟩,Value.string ⟨#[97,95]⟩,Value.string ⟨#[97,98]⟩,Value.string ⟨#[98,45]⟩,Value.string ⟨#[99]⟩,Value.string ⟨#[100,57]⟩,Value.string ⟨#[101]⟩,Value.string ⟨#[102]⟩,Value.string ⟨#[103]⟩,Value.string ⟨#[104]⟩,Value.string ⟨#[108,97,116,101,115,116]⟩]:Array Value)[r]? = some (.string (nameOf r)):=by
  have:∀ r,r<12->(#[Value.string ⟨#[97]⟩,Value.string ⟨#[97,46,98]⟩,Value.string ⟨#[97,95]⟩,Value.string ⟨#[97,98]⟩,Value.string ⟨#[98,45]⟩,Value.string ⟨#[99]⟩,Value.string ⟨#[100,57]⟩,Value.string ⟨#[101]⟩,Value.string ⟨#[102]⟩,Value.string ⟨#[103]⟩,Value.string ⟨#[104]⟩,Value.string ⟨#[108,97,116,101,115,116]⟩]:Array Value)[r]? = some (.string (nameOf r)):=by
   intro r hr
   match r,hr with
   | 0,_=>rfl
   | 1,_=>rfl
   | 2,_=>rfl
   | 3,_=>rfl
   | 4,_=>rfl
   | 5,_=>rfl
   | 6,_=>rfl
   | 7,_=>rfl
   | 8,_=>rfl
   | 9,_=>rfl
   | 10,_=>rfl
   | 11,_=>rfl
  exact this r hlt
 rw [hval] at hcell;generalize nameOf r=nm at hcell ⊢;have b1:(0:Int)<=(r:Int):=by omega
 have b2:(r:Int)<12:=by omega
 clear hrow hval;go_enter Tryz.func37,Tryz.ntmps37;go_wp2_with (go_at_call 21;refine (HP.out _).mono ?_;rintro e w1 ⟨rfl,rfl⟩);go_ret;exact ⟨rfl,(Below.refl _ _).alloc (Nat.le_refl _) _⟩
open Go.RowKit
theorem Qmr (oa:Option Addr) (ca:Nat) (l:List Tg) (w:World) (n:Nat) (hn:l.length=n) (h8:n<=8) (ha:TagsAt w oa l) (hsz:∀ i,(l.getD i default).name.size<=9223372036854775807) :
  Calls Tryz.prog 83 #[.slice oa n ca] w fun e w'=>Below w.heap.size w w'/\(((∀ k,k<n->uz l k=true)/\∃ v,e = .returned (.tuple #[v,.bool true])/\w'.ownsRow w.heap.size 193 34 v n (l.flatMap Tg.aP))∨(¬ (∀ k,k<n->uz l k=true)/\e = .returned (.tuple #[.slice none 0 0,.bool false]))):=by
 have HA:=aa ha;have HN:=aa hn;have nG:=aa hsz;clear ha hn hsz;have n8:¬ 8<(n:Int):=by omega
 have oy:=(zero_of_info Tryz.bY).1;obtain ⟨i0,hi,hz0,hz1,hz2⟩:=info_parts Tryz.oZ;go_enter Tryz.func83,Tryz.ntmps83;go_wp2
 go_loopw [4,5,15] (fun v la i wr=>∃ k:Nat,k<=n/\i = .int .i64 ((k:Nat):Int)/\la = .string (I0 l k)/\wr.ownsRow w.heap.size 193 34 v k ((l.take k).flatMap Tg.aP)/\Below w.heap.size w wr/\(∀ j,j<k->uz l j=true))
  (fun _ _ i _=>n - (intOf i).toNat)
 case atStart=>exact ⟨0,Nat.zero_le _,rfl,rfl,World.ownsRow_nil _ _ _ _,Below.refl _ _,fun j hj=>by omega⟩
 case round =>
  obtain ⟨k,hk,rfl,rfl,hown,ik,hall⟩:=hrel;have HO:=aa hown;have Bu:=aa hall;clear hown hall
  by_cases hlt:k<n
  ·obtain ⟨b1,o1,rfl,x1⟩:=HA.out k (by rw [HN.out];exact hlt);have x2:=rangeAt_later ik x1;clear x1;have hs1:=nG.out k;have fO:uz l k=(fE (l.getD k default).dig && (eP (l.getD k default).name && (!leB (l.getD k default).name (I0 l k) && (decide (0<=(l.getD k default).size) && decide ((l.getD k default).size<=300))))):=rfl;generalize hx:l.getD k default=tx at x2 hs1 fO;have HX:=aa hx;clear hx;generalize Yd:I0 l k=la at fO;have HLA:=aa Yd;clear Yd;obtain ⟨n1,d1,z1⟩:=tx;have c1:=x2 0 _ rfl;have c2:=x2 1 _ rfl;have c3:=x2 2 _ rfl;simp only [Nat.add_zero] at c1;clear x2;dsimp only at hs1 fO;have HG:=aa fO;clear fO;have hw:=HO.out.alloc (.cells #[.string n1,.string d1,.int .i64 z1] 83);go_wp2_with fail;refine (Kh d1 _).mono ?_;rintro _ w1 ⟨rfl,hb1⟩;dsimp only;have wN:=aa (gA hw hb1);clear hw;generalize eo:rd d1=ds;have a8:ds.length=32:=by rw [<- eo];exact jm _
   have na:=aa eo;clear eo;have t0:w1.heap[wr.heap.size]? = some (.cells #[.string n1,.string d1,.int .i64 z1] 83 (0,0)):=(hb1.block _ (by rw [size_alloc];omega)).trans (heap_alloc_new _ _);have t1:w1.cell? ⟨wr.heap.size,0,none⟩=some (.string n1):=cell_of_row w1 wr.heap.size 0 _ _ _ t0;have t2:w1.cell? ⟨wr.heap.size,1,none⟩=some (.string d1):=cell_of_row w1 wr.heap.size 1 _ _ _ t0;have t3:w1.cell? ⟨wr.heap.size,2,none⟩=some (.int .i64 z1):=cell_of_row w1 wr.heap.size 2 _ _ _ t0;have tl:=eB t0;have lu:Below w.heap.size w w1:=(ik.alloc ik.size _).trans (hb1.mono (by rw [size_alloc];have:=ik.size;omega));have kL:=lu.size;have Am:=aa t0;clear hb1 t0
   cases dH:fE d1 with
   | false =>
    go_wp2_with (refine wpList_store_row rfl 117 _ _ rfl w1.heap.size _ rfl rfl 117 _ (heap_alloc_new _ _) (bL _ a8) (by rw [aY,aY,a8,Sha.af]) (dQ _) ?_;rw [World.setRow_alloc_new])
    (try simp only [Exit.inBlock,Exit.then])
    refine bodyPost_ret (results_tmp2 rfl _ _ _) rfl ?_;refine ⟨lu.alloc kL _,Or.inr ⟨fun h=>?_,rfl⟩⟩;have:=h k hlt;rw [HG.out,dH] at this
    cases this
   | true =>
    cases aW:eP n1 with
    | false =>
     go_wp2_with (first|(refine wpList_store_row rfl 117 _ _ rfl w1.heap.size _ rfl rfl 117 _ (heap_alloc_new _ _) (bL _ a8) (by rw [aY,aY,a8,Sha.af]) (dQ _) ?_;rw [World.setRow_alloc_new])|(go_at_call 59;refine (qf _ _ hs1).mono ?_;rintro e w' ⟨rfl,rfl⟩))
     (try simp only [Exit.inBlock,Exit.then])
     refine bodyPost_ret (results_tmp2 rfl _ _ _) rfl ?_;refine ⟨lu.alloc kL _,Or.inr ⟨fun h=>?_,rfl⟩⟩;have:=h k hlt;rw [HG.out,aW,Bool.false_and,Bool.and_false] at this
     cases this
    | true =>
     rcases X8 n1 la with ⟨hle,q1⟩|⟨hle,q1,rfl⟩|⟨hle,q1,q2,q3⟩
     ·have HL:=aa hle;clear hle;go_wp2_with (first|(refine wpList_store_row rfl 117 _ _ rfl w1.heap.size _ rfl rfl 117 _ (heap_alloc_new _ _) (bL _ a8) (by rw [aY,aY,a8,Sha.af]) (dQ _) ?_;rw [World.setRow_alloc_new])|(go_at_call 59;refine (qf _ _ hs1).mono ?_;rintro e w' ⟨rfl,rfl⟩))
      (try simp only [Exit.inBlock,Exit.then])
      refine bodyPost_ret (results_tmp2 rfl _ _ _) rfl ?_;refine ⟨lu.alloc kL _,Or.inr ⟨fun h=>?_,rfl⟩⟩;have:=h k hlt;rw [HG.out,HL.out,Bool.not_true,Bool.false_and,Bool.and_false,Bool.and_false] at this
      cases this
     ·have HL:=aa hle;clear hle;go_wp2_with (first|(refine wpList_store_row rfl 117 _ _ rfl w1.heap.size _ rfl rfl 117 _ (heap_alloc_new _ _) (bL _ a8) (by rw [aY,aY,a8,Sha.af]) (dQ _) ?_;rw [World.setRow_alloc_new])|(go_at_call 59;refine (qf _ _ hs1).mono ?_;rintro e w' ⟨rfl,rfl⟩))
      (try simp only [Exit.inBlock,Exit.then])
      refine bodyPost_ret (results_tmp2 rfl _ _ _) rfl ?_;refine ⟨lu.alloc kL _,Or.inr ⟨fun h=>?_,rfl⟩⟩;have:=h k hlt;rw [HG.out,HL.out,Bool.not_true,Bool.false_and,Bool.and_false,Bool.and_false] at this
      cases this
     ·have HL:=aa hle;clear hle
      cases hsize:(decide (0<=z1) && decide (z1<=300)) with
      | false =>
       have bS:∀ w,Calls Tryz.prog 129 #[.int .i64 z1] w fun e w'=>e = .returned (.bool false)/\w'=w:=fun w=>by
        have:=Oo z1 w;rwa [hsize] at this
       have HC:=aa bS;clear bS;go_wp2_with (first|(refine wpList_store_row rfl 117 _ _ rfl w1.heap.size _ rfl rfl 117 _ (heap_alloc_new _ _) (bL _ a8) (by rw [aY,aY,a8,Sha.af]) (dQ _) ?_;rw [World.setRow_alloc_new])|(go_at_call 59;refine (qf _ _ hs1).mono ?_;rintro e w' ⟨rfl,rfl⟩)|(go_at_call 129;refine (HC.out _).mono ?_;rintro e w' ⟨rfl,rfl⟩))
       (try simp only [Exit.inBlock,Exit.then])
       refine bodyPost_ret (results_tmp2 rfl _ _ _) rfl ?_;refine ⟨lu.alloc kL _,Or.inr ⟨fun h=>?_,rfl⟩⟩;have:=h k hlt;rw [HG.out,hsize,Bool.and_false,Bool.and_false,Bool.and_false] at this
       cases this
      | true =>
       have bS:∀ w,Calls Tryz.prog 129 #[.int .i64 z1] w fun e w'=>e = .returned (.bool true)/\w'=w:=fun w=>by
        have:=Oo z1 w;rwa [hsize] at this
       have HC:=aa bS;have hg2:uz l k=true:=by rw [HG.out,dH,aW,HL.out,hsize];rfl
       have bP:=aa hg2;clear bS hg2 hsize;have Rj:Value.ownBlock u4≠some wr.heap.size:=fun e=>by have:=(HO.out.lt _ e).2;omega
       have hD:=heap_alloc_new w1 (.cells (ah ds) 117 (0,0));have qi:=aa ((wN.out.alloc (.cells (ah ds) 117 (0,0))).alloc (.cells (aT n1 ds z1) 193 (0,0)));have hE:=Kb (heap_alloc_new (w1.alloc (.cells (ah ds) 117 (0,0))) (.cells (aT n1 ds z1) 193 (0,0)));have HE:=aa hE;clear hE;go_wp2_with (first|(refine wpList_store_row rfl 117 _ _ rfl w1.heap.size _ rfl rfl 117 _ (heap_alloc_new _ _) (bL _ a8) (by rw [aY,aY,a8,Sha.af]) (dQ _) ?_;rw [World.setRow_alloc_new])|(refine wpList_load_row rfl 117 _ rfl w1.heap.size rfl 117 _ _ _ hD Tryz.underlying117 rfl (bL _ a8) ?_)|(go_at_call 59;refine (qf _ _ hs1).mono ?_;rintro e w' ⟨rfl,rfl⟩)|(go_at_call 129;refine (HC.out _).mono ?_;rintro e w' ⟨rfl,rfl⟩)|(refine Qhc rfl _ _ _ rfl n1 ds z1 a8 rfl rfl rfl ?_)|(refine X9 rfl _ rfl n1 ds z1 a8 rfl ?_)|(refine wpList_append_own _ rfl _ _ 138 rfl w.heap.size 193 i0 _ 34 56 Tryz.underlying138 hi hz0 hz1 hz2 (eh _ _ _ (Sha.af _)) (by decide) _ k _ rfl qi.out _ 1 1 (aT n1 ds z1).toList rfl (by rw [Array.length_toList,eh _ _ _ a8]) HE.out (mj _ _ _) (by unfold maxLen;omega) (by omega) (by simp;omega) ?_;rintro v2 w2 hv2 hg2 _;have t4:w2.cell? ⟨wr.heap.size,0,none⟩=some (.string n1):=cell_of_row w2 wr.heap.size 0 _ _ _ (Rk hg2 ((Below.heap_alloc (w1.alloc (.cells (ah ds) 117 (0,0))) _ _ (by rw [size_alloc];omega)).trans ((Below.heap_alloc w1 _ _ tl).trans Am.out)) Rj);have qj:=aa hv2;have gq:=aa hg2;clear hv2 hg2))
       go_roundw
       case rel =>
        refine ⟨k+1,by omega,by go_num,?_,?_,?_,?_⟩
        ·show Value.string n1 = .string (l.getD k default).name;rw [HX.out]
        ·have e:=Ye l k (by rw [HN.out];exact hlt) Tg.aP;rw [e,HX.out];have e2:Tg.aP ⟨n1,d1,z1⟩=(aT n1 ds z1).toList:=by
          show (aT n1 (rd d1) z1).toList=_;rw [na.out]
         rw [e2];exact qj.out
        ·exact Yf ((lu.alloc kL _).alloc (by rw [size_alloc];omega) _) gq.out qi.out (Nat.le_refl _) (by rw [size_alloc,size_alloc];omega)
        ·intro j hj
         by_cases e:j=k
         ·subst e;exact bP.out
         ·exact Bu.out j (by omega)
       case measure=>simp [intOf];omega
  ·have wO:k=n:=by omega
   subst wO;go_wp2
   (try simp only [Exit.inBlock,Exit.then])
   refine bodyPost_ret (results_tmp2 rfl _ _ _) rfl ?_;refine ⟨ik,Or.inl ⟨Bu.out,u4,rfl,?_⟩⟩;have:=HO.out;rwa [List.take_of_length_le (by rw [HN.out];exact Nat.le_refl _)] at this
theorem Qms (oa:Option Addr) (ca:Nat) (w:World) (n:Nat) (h8:8<n) :
  Calls Tryz.prog 83 #[.slice oa n ca] w fun e w'=>e = .returned (.tuple #[.slice none 0 0,.bool false])/\Below w.heap.size w w':=by
 have n8:8<(n:Int):=by omega
 go_enter Tryz.func83,Tryz.ntmps83;go_wp2
 (try simp only [Exit.inBlock,Exit.then])
 refine bodyPost_ret (results_tmp2 rfl _ _ _) rfl ?_;exact ⟨rfl,Below.refl _ _⟩
theorem Qno (oa:Option Addr) (ca:Nat) (l:List Tg) (w:World) (ha:TagsAt w oa l) (hsz:∀ i,(l.getD i default).name.size<=9223372036854775807) :
  Calls Tryz.prog 83 #[.slice oa l.length ca] w fun e w'=>Below w.heap.size w w'/\((xT l=true/\∃ v,e = .returned (.tuple #[v,.bool true])/\w'.ownsRow w.heap.size 193 34 v l.length (l.flatMap Tg.aP))∨(xT l=false/\e = .returned (.tuple #[.slice none 0 0,.bool false]))):=by
 by_cases h8:l.length<=8
 ·refine (Qmr oa ca l w l.length rfl h8 ha hsz).mono ?_;rintro e w' ⟨hb,h⟩;refine ⟨hb,h.imp (fun ⟨h1,h2⟩=>⟨?_,h2⟩) (fun ⟨h1,h2⟩=>⟨?_,h2⟩)⟩
  ·unfold xT;simp only [h8,decide_true,Bool.true_and,decide_eq_true_iff];exact h1
  ·unfold xT;simp only [h8,decide_true,Bool.true_and,decide_eq_false_iff_not];exact h1
 ·refine (Qms oa ca w l.length (by omega)).mono ?_;rintro e w' ⟨he,hb⟩;exact ⟨hb,Or.inr ⟨by simp [xT,h8],he⟩⟩
end Go.Proofs.YtncigfibncmioaaGreatDoor
namespace Go.Proofs.YtncigfibncmioaaGreatDoor
open Go.RowKit
theorem LY {T e:TypeId} {B b:Nat} {bs:List Value} {w w':World} (h:Lib.IsBuilderF T e B b bs w) (hb:Below w.heap.size w w'):Lib.IsBuilderF T e B b bs w':=by
 have key:∀ p,Lib.BuilderAtF T e B b p bs w->Lib.BuilderAtF T e B b p bs w':=by
  rintro p ⟨h1,v,h2,h3,h4⟩;refine ⟨h1,v,(hb.block b (Jh h2)).trans h2,⟨h3.1,h3.2.imp id ?_⟩,h4⟩;rintro ⟨g,cap,cur,fz,e1,e2,e3,e4⟩;exact ⟨g,cap,cur,fz,e1,e2,(hb.block g (Jh e3)).trans e3,e4⟩
 exact h.imp (key _) (key _)
def K1:List UInt8:=[123,34,118,101,114,115,105,111,110,34,58,49,44,34,116,97,103,115,34,58,91]
def uJ (t:Tg):List UInt8:=[123,34,116,97,103,34,58,34]++t.name.data.toList ++ [34,44,34,100,105,103,101,115,116,34,58,34]++Sha.aM (rd t.dig) 32 ++ [34,44,34,115,105,122,101,34,58]++Lib.itoa t.size ++ [125]
def dM (l:List Tg):Nat->List UInt8
 | 0=>K1
 | k+1=>dM l k++(if 0<k then [44] else [])++uJ (l.getD k default)
theorem Tryz.cY:(Tryz.prog.info? 193).map (fun i=>(i.zero,i.size))=some (some (.agg (aT ⟨#[]⟩ (Sha.zeros 32) 0)),34):=by kernel_rfl
theorem gW (n:ByteArray) (ds:List Nat) (z:Int) (h:ds.length=32):(Tryz.prog.info? 193).map (·.size)=some (aT n ds z).size:=by
 rw [eh _ _ _ h];kernel_rfl
structure nT (w0 w:World) (b:Nat) (n:ByteArray) (ds:List Nat) (z:Int):Prop where
 row:w.heap[b]? = some (.cells (aT n ds z) 193 (0,0))
 below:Below w0.heap.size w0 w
def TG (b:Nat) (n:ByteArray) (ds:List Nat) (z:Int) (w:World):Prop:=w.cell? ⟨b,0,none⟩=some (.string n)/\w.rangeAt b 1 (ah ds).toList/\w.cell? ⟨b,33,none⟩=some (.int .i64 z)
theorem nT.out {w0 w:World} {b:Nat} {n:ByteArray} {ds:List Nat} {z:Int} (h:nT w0 w b n ds z) (hl:ds.length=32):TG b n ds z w:=by
 refine ⟨cell_of_row w b 0 _ _ _ h.row,fun j v hj=>?_,?_⟩
 ·rw [cell_of_row w b (1+j) _ _ _ h.row];have hlt:j<(ah ds).toList.length:=(List.getElem?_eq_some_iff.1 hj).1;have:(aT n ds z)[1+j]? = ((ah ds).toList ++ [Value.int .i64 z])[j]?:=by
   unfold aT;rw [List.getElem?_toArray,Nat.add_comm 1 j,List.getElem?_cons_succ]
  rw [this,List.getElem?_append_left hlt];exact hj
 ·rw [cell_of_row w b 33 _ _ _ h.row];have hlt:(ah ds).toList.length=32:=by rw [Array.length_toList,aY,hl]
  unfold aT;rw [List.getElem?_toArray,List.getElem?_cons_succ,List.getElem?_append_right (by omega),hlt];rfl
theorem nT.drew {w0 w:World} {b:Nat} {n:ByteArray} {ds:List Nat} {z:Int} (h:nT w0 w b n ds z):nT w0 w.drew b n ds z:=⟨h.row,h.below.drew⟩
theorem nT.later {w0 w w':World} {b:Nat} {n:ByteArray} {ds:List Nat} {z:Int} (h:nT w0 w b n ds z) (hb:Below w.heap.size w w'):nT w0 w' b n ds z :=
 ⟨(hb.block b (Jh h.row)).trans h.row,h.below.trans (hb.mono h.below.size)⟩
theorem nT.kept {w0 w w':World} {b:Nat} {n:ByteArray} {ds:List Nat} {z:Int} (h:nT w0 w b n ds z) (hb:Below w0.heap.size w w') {bb:Nat} (hk:Lib.OthersKept 5 (some bb) w w') (hne:b≠bb):nT w0 w' b n ds z :=
 ⟨hk b _ h.row (fun e=>hne (Option.some.inj e)) (fun c fz e=>by cases e),h.below.trans hb⟩
theorem QfL {w:World} {B g cap n:Nat} {l:List Tg} (h:w.ownsRow B 193 34 (.slice (some ⟨g,0,none⟩) n cap) n (l.flatMap Tg.aP)) (k:Nat) (hk:k<l.length):w.rangeAt g (k * 34) (l.getD k default).aP:=by
 obtain ⟨hlen,h2⟩:=h
 rcases h2 with ⟨e,_⟩|⟨g',cap',cur,e,_,hg,hn,_,hsz,cN⟩
 ·cases e
 ·injection e with e1 e2 e3
  injection e1 with e1
  injection e1 with e1 _ _
  subst e1;intro j v hj;rw [cell_of_row w g (k * 34+j) _ _ _ hg];have aan:∀ t∈l,t.aP.length=34:=fun t _=>t.cG
  have eN:j<34:=by
   have:=(List.getElem?_eq_some_iff.1 hj).1;rwa [Tg.cG] at this
  have vN:l.length=n:=by
   rw [List.length_flatMap] at hlen;have:(l.map fun t=>t.aP.length).sum=l.length * 34:=by
    clear hj hk cN hlen
    induction l with
    | nil=>rfl
    | cons t l ih =>
     rw [List.map_cons,List.sum_cons,ih (fun t ht=>Tg.cG t),Tg.cG,List.length_cons];omega
   omega
  have hlt:k * 34+j<n * 34:=by omega
  have e4:cur[k * 34+j]? = (l.flatMap Tg.aP)[k * 34+j]?:=by
   rw [<- cN,List.getElem?_take_of_lt hlt,Array.getElem?_toList]
  rw [e4];clear e4 cN hlt vN hlen
  induction l generalizing k with
  | nil=>simp at hk
  | cons t l ih =>
   rw [List.flatMap_cons]
   cases k with
   | zero =>
    rw [List.getElem?_append_left (by rw [Tg.cG];omega)];simpa using hj
   | succ k =>
    rw [List.getElem?_append_right (by rw [Tg.cG];omega),Tg.cG,show (k+1) * 34+j - 34=k * 34+j by omega];exact ih k (by simpa using hk) (by simpa using hj) (fun t _=>t.cG)
theorem Qn8 (t:Tg) (h:t.name.size<=20) (h0:0<=t.size) (h1:t.size<=300):(uJ t).length<=135:=by
 have e1:=Lib.itoa_length_le t.size (by omega) (by omega);have e2:t.name.data.toList.length=t.name.size:=by simp
 have e3:=Sha.bq (rd t.dig) 32;unfold uJ;simp only [List.length_append,List.length_cons,List.length_nil];omega
theorem TF (l:List Tg) (k:Nat) (h:∀ j,j<k->(l.getD j default).name.size<=20/\0<=(l.getD j default).size/\(l.getD j default).size<=300):(dM l k).length<=21+136 * k:=by
 induction k with
 | zero=>exact Nat.le_refl _
 | succ k ih =>
  have h1:=ih (fun j hj=>h j (by omega));have h2:=h k (by omega);have h3:=Qn8 _ h2.1 h2.2.1 h2.2.2;have h4:(if 0<k then [(44:UInt8)] else []).length<=1:=by split<;>simp
  unfold dM;rw [List.length_append,List.length_append];omega
theorem sP (l:List UInt8):(ByteArray.mk l.toArray).size=l.length:=by simp [ByteArray.size]
theorem Qlv (n1 dT zT:ByteArray) (h1:n1.size<=20) (h2:dT.size=64) (h3:zT.size<=21):(⟨#[123,34,116,97,103,34,58,34]⟩++n1++⟨#[34,44,34,100,105,103,101,115,116,34,58,34]⟩++dT++⟨#[34,44,34,115,105,122,101,34,58]⟩++zT++⟨#[125]⟩ : ByteArray).size<=135:=by
 simp only [ByteArray.size_append];have e1:(ByteArray.mk #[123,34,116,97,103,34,58,34]).size=8:=rfl;have e2:(ByteArray.mk #[34,44,34,100,105,103,101,115,116,34,58,34]).size=12:=rfl;have e3:(ByteArray.mk #[34,44,34,115,105,122,101,34,58]).size=9:=rfl;have e4:(ByteArray.mk #[125]).size=1:=rfl;omega
theorem Qlw (n1 d1 dT zT:ByteArray) (z1:Int) (h2:dT=⟨(Sha.aM (rd d1) 32).toArray⟩) (h3:zT=⟨(Lib.itoa z1).toArray⟩):Lib.strCells (⟨#[123,34,116,97,103,34,58,34]⟩++n1++⟨#[34,44,34,100,105,103,101,115,116,34,58,34]⟩++dT++⟨#[34,44,34,115,105,122,101,34,58]⟩++zT++⟨#[125]⟩ : ByteArray)=Lib.byteCells (uJ ⟨n1,d1,z1⟩):=by
 rw [Lib.strCells_eq,h2,h3];simp [ByteArray.data_append,uJ]
theorem QrL (ds:List Nat) (h:ds.length=32):(Tryz.prog.info? 117).map (·.size)=some (ah ds).toList.length:=by rw [Array.length_toList];exact bL _ h
end Go.Proofs.YtncigfibncmioaaGreatDoor
namespace Go.Proofs.YtncigfibncmioaaGreatDoor
open Go.RowKit
def gu (v:Int):ByteArray:=nameOf (fY v 12)
theorem Sd (v:Int):eP (gu v)=true:=Qp7 _ (yq v 12 (by decide))
theorem FH (v:Int):(gu v).size<=6:=QnR _
theorem Qsz (v:Int):1<=(gu v).size:=by
 have:∀ r,r<12->1<=(nameOf r).size:=by decide +kernel
 exact this _ (yq v 12 (by decide))
def wX (v:Int):Nat->ByteArray
 | 0=>⟨#[]⟩
 | k+1=>wX v k++gu (v.tdiv 9+(k:Int))
def Jc:ByteArray:=⟨#[48,49,50,51,52,53,54,55,56,57]⟩
def mB (p:ByteArray):Nat->ByteArray->ByteArray
 | 0,s=>s
 | k+1,s=>if s.size<200 then mB p k (s++Jc++p) else s
def bN (v:Int):ByteArray:=if fY v 7=0 then mB (gu v) 20 (wX v (fY v 9)) else wX v (fY v 9)
theorem OP (v:Int):∀ k,(wX v k).size<=k * 6
 | 0=>Nat.le_refl _
 | k+1=>by
  have h1:=OP v k;have h2:=FH (v.tdiv 9+(k:Int));show (wX v k++gu (v.tdiv 9+(k:Int))).size<=_;rw [ByteArray.size_append];omega
theorem Zc:Jc.size=10:=rfl
theorem Zd (p:ByteArray) (hp:p.size<=6):∀ k s,s.size<=216->(mB p k s).size<=216
 | 0,s,h=>h
 | k+1,s,h=>by
  unfold mB
  split
  ·refine Zd p hp k _ ?_;rw [ByteArray.size_append,ByteArray.size_append,Zc];omega
  ·exact h
theorem Km (v:Int):(bN v).size<=216:=by
 have h1:=OP v (fY v 9);have h2:=yq v 9 (by decide);unfold bN
 split
 ·exact Zd _ (FH v) _ _ (by omega)
 ·omega
def Sg:Value->Nat
 | .string b=>b.size
 | _=>0
theorem Ox (v:Int) (hc : -9223372036854775808<=v) (hc2:v<=9223372036854775807) (w:World) :
  Calls Tryz.prog 31 #[.int .i64 v] w fun e w'=>e = .returned (.string (bN v))/\Below w.heap.size w w':=by
 have Si:∀ w,Calls Tryz.prog 21 #[.int .i64 v,.int .i64 9] w fun e w'=>e = .returned (.int .i64 ((fY v 9:Nat):Int))/\w'=w:=fun w=>vy v 9 (by decide) (by decide) hc hc2 w
 have Sj:∀ w,Calls Tryz.prog 21 #[.int .i64 v,.int .i64 7] w fun e w'=>e = .returned (.int .i64 ((fY v 7:Nat):Int))/\w'=w:=fun w=>vy v 7 (by decide) (by decide) hc hc2 w
 have OQ:∀ (x:Int), -9223372036854775808<=x->x<=9223372036854775807->∀ w,Calls Tryz.prog 37 #[.int .i64 x] w fun e w'=>e = .returned (.string (gu x))/\Below w.heap.size w w':=fun x h1 h2 w=>Oy x h1 h2 w
 have Sk:=yq v 9 (by decide);obtain ⟨N,hN⟩ : ∃ N,N=fY v 9:=⟨_,rfl⟩;obtain ⟨M,hM⟩ : ∃ M,M=fY v 7:=⟨_,rfl⟩;obtain ⟨R,hR⟩ : ∃ R,R=bN v:=⟨_,rfl⟩;rw [<- hR];have iX:=aa (show R=if M=0 then mB (gu v) 20 (wX v N) else wX v N by rw [hR];unfold bN;rw [hN,hM]);clear hR;rw [<- hN] at Si Sk;rw [<- hM] at Sj;have HP9:=aa Si;have HP7:=aa Sj;have xW:=aa OQ;have hdv : -2000000000000000000<=v.tdiv 9/\v.tdiv 9<=2000000000000000000:=by
  have h:=Int.natAbs_tdiv v 9;have h2:(v.natAbs).div 9=v.natAbs / 9:=rfl;rw [show Int.natAbs 9=9 from rfl,h2] at h;omega
 clear Si Sj OQ hN hM;obtain ⟨q,hq⟩ : ∃ q,q=v.tdiv 9:=⟨_,rfl⟩;rw [<- hq] at hdv;have HQ:=aa hq;go_enter Tryz.func31,Tryz.ntmps31;go_wp2_with fail;refine (HP9.out _).mono ?_;rintro _ w1 ⟨rfl,rfl⟩;dsimp only;go_wp2_with fail
 go_loopw [4,5] (fun sv iv wr=>∃ (j:Nat),j<=N/\iv = .int .i64 ((j:Nat):Int)/\sv = .string (wX v j)/\Below w1.heap.size w1 wr) (fun _ iv _=>N - (intOf iv).toNat)
 case atStart=>exact ⟨0,Nat.zero_le _,rfl,rfl,Below.refl _ _⟩
 case round =>
  obtain ⟨j,hj,rfl,rfl,hb⟩:=hrel;have HB:=aa hb;clear hb
  by_cases hlt:j<N
  ·have d1:decide (((j:Nat):Int)<((N:Nat):Int))=true:=decide_eq_true (by omega);have hz:=OP v j;have fP:=aa (show wX v (j+1)=wX v j++gu (v.tdiv 9+(j:Int)) from rfl);have FI:=aa (fun w=>xW.out (v.tdiv 9+(j:Int)) (by rw [<- HQ.out];omega) (by rw [<- HQ.out];omega) w);have hz2:=FH (v.tdiv 9+(j:Int));generalize gu (v.tdiv 9+(j:Int))=P at fP FI hz2;generalize wX v j=O at fP hz ⊢;have q1:¬ 9223372036854775807<O.size+P.size:=by omega
   go_wp2_with fail;refine (FI.out _).mono ?_;rintro _ w3 ⟨rfl,hb3⟩;dsimp only;have j7:=aa (HB.out.trans (hb3.mono HB.out.size));clear hb3 FI;go_wp2_with fail;refine ⟨⟨j+1,by omega,by simp,by rw [fP.out],j7.out⟩,by simp only [intOf];omega⟩
  ·have d1:decide (((j:Nat):Int)<((N:Nat):Int))=false:=decide_eq_false (by omega);have ly:j=N:=by omega
   subst ly;have hz:=OP v j;generalize wX v j=O at hz iX ⊢;go_wp2_with fail;refine (HP7.out _).mono ?_;rintro _ w2 ⟨rfl,rfl⟩;dsimp only
   by_cases Jd:M=0
   ·subst Jd;rw [if_pos rfl] at iX;have K4:=aa (fun w=>xW.out v hc hc2 w);have fJ:=FH v;have dV:=Qsz v;generalize gu v=P at K4 fJ dV iX;have HPD:=aa (show ∀ k s,200<=s.size->mB P k s=s from fun k s h=>by
     cases k with
     | zero=>rfl
     | succ k=>unfold mB;rw [if_neg (by omega)])
    go_wp2_with fail
    go_loopw [4] (fun sv wx=>∃ (t:ByteArray) (k:Nat),sv = .string t/\t.size<=216/\200<=t.size+11 * k/\mB P 20 O=mB P k t/\Below w1.heap.size w1 wx) (fun sv _=>300 - Sg sv)
    case atStart=>exact ⟨O,20,rfl,by omega,by omega,rfl,HB.out⟩
    case round =>
     obtain ⟨t,k,rfl,ht,hk,he,hb⟩:=hrel;have HE:=aa he;have HB:=aa hb;clear he hb
     by_cases h2:t.size<200
     ·obtain ⟨k,rfl⟩ : ∃ k',k=k'+1:=⟨k - 1,by omega⟩;have HE2:=aa (show mB P 20 O=mB P k (t++Jc++P) by rw [HE.out];show (if t.size<200 then _ else _)=_;rw [if_pos h2]);have d1:decide (((t.size:Nat):Int)<200)=true:=decide_eq_true (by omega);have q1:¬ 9223372036854775807<t.size+10:=by omega
      have q2:¬ 9223372036854775807<t.size+10+P.size:=by omega
      clear HE;go_wp2_with fail;refine (K4.out _).mono ?_;rintro _ w3 ⟨rfl,hb3⟩;dsimp only;have j7:=aa (HB.out.trans (hb3.mono HB.out.size));clear hb3;go_wp2_with fail;have hsz:(t++Jc++P).size=t.size+10+P.size:=by rw [ByteArray.size_append,ByteArray.size_append,Zc]
      refine ⟨⟨t++Jc++P,k,rfl,by rw [hsz];omega,by rw [hsz];omega,HE2.out,j7.out⟩,?_⟩;show 300 - (t++Jc++P).size<300 - t.size;rw [hsz];omega
     ·have d1:decide (((t.size:Nat):Int)<200)=false:=decide_eq_false (by omega);go_wp2_with fail;go_ret;exact ⟨by rw [iX.out,HE.out,HPD.out k t (by omega)];rfl,HB.out⟩
   ·rw [if_neg Jd] at iX;have dm:decide (((M:Nat):Int)=0)=false:=decide_eq_false (by omega);have dm2:(((M:Nat):Int) == 0)=false:=by simp;omega
    go_wp2_with fail;go_ret;exact ⟨by rw [iX.out];rfl,HB.out⟩
end Go.Proofs.YtncigfibncmioaaGreatDoor
