/-
  PROVED HERE: an entry's cells, and which lists are an index.
-/
import Derived.Test.YtncigfibncmioaaGreatDoorBuilt
import Derived.Test.YtncigfibncmioaaGreatDoorOwnLib
import Derived.Laws.AppendOwn
import Derived.Test.YtncigfibncmioaaGreatDoorRM
import Derived.Test.YtncigfibncmioaaGreatDoorKPick
import Derived.Lib.ItoaLen
namespace Go.Proofs.YtncigfibncmioaaGreatDoor
open Go.RowKit
def Tg.ecells (t:Tg):List Value:=(ecellsOf t.name (rd t.dig) t.size).toList
theorem Tg.ecells_len (t:Tg):t.ecells.length=34:=by
 show (ecellsOf t.name (rd t.dig) t.size).toList.length=34
 rw [Array.length_toList,ecellsOf_size _ _ _ (rd_len _)]
def lastName (l:List Tg):Nat→ByteArray
 | 0=>⟨#[]⟩
 | k+1=>(l.getD k default).name
def goodB (l:List Tg) (k:Nat):Bool :=
 isDigB (l.getD k default).dig && (isTagB (l.getD k default).name && (!leB (l.getD k default).name (lastName l k) && (decide (0≤(l.getD k default).size) && decide ((l.getD k default).size≤300))))
theorem Tryz.info193:(Tryz.prog.info? 193).map (fun i=>(i.zero,i.size,i.bytes))=some (some (.agg (ecellsOf ⟨#[]⟩ (Sha.zeros 32) 0)),34,56):=by kernel_rfl
theorem take_flat (l:List Tg) (k:Nat) (h:k<l.length) (f:Tg→List Value):(l.take (k+1)).flatMap f=(l.take k).flatMap f++f (l.getD k default):=by
 rw [List.take_succ_eq_append_getElem h,List.flatMap_append]
 simp [List.getD_eq_getElem?_getD,h]
end Go.Proofs.YtncigfibncmioaaGreatDoor
namespace Go.Proofs.YtncigfibncmioaaGreatDoor
set_option maxHeartbeats 1000000
set_option maxRecDepth 100000
open Go.RowKit
def tokV (kind:Nat) (place:Nat) (num:Int) (txt:ByteArray):Value:=.agg #[.int .u8 ((kind:Nat):Int),.int .i64 ((place:Nat):Int),.int .i64 num,.string txt]
def gaveUp (p:Nat):Ending:=.panicked [{ v:=.iface 217 (.int .i64 ((p:Nat):Int)),recovered:=false }]
theorem must_ok (kind place:Nat) (num:Int) (txt:ByteArray) (w:World):Calls Tryz.prog 128 #[tokV kind place num txt,.bool true] w fun e w'=>e = .returned (.tuple #[])∧Below w.heap.size w w':=by
 unfold tokV
 go_enter Tryz.func128,Tryz.ntmps128
 go_wp2
 go_end0
 exact ⟨rfl,(Below.refl _ _).alloc (Nat.le_refl _) _⟩
theorem must_bad (kind place:Nat) (num:Int) (txt:ByteArray) (w:World):Calls Tryz.prog 128 #[tokV kind place num txt,.bool false] w fun e w'=>e=gaveUp place∧Below w.heap.size w w':=by
 unfold tokV
 go_enter Tryz.func128,Tryz.ntmps128
 go_wp2
 exact ⟨rfl,rfl,(Below.refl _ _).alloc (Nat.le_refl _) _⟩
def ScIs (w:World) (b:Nat) (t:ByteArray) (a:Nat):Prop:=w.heap[b]? = some (.cells #[.string t,.int .i64 ((a:Nat):Int)] 201 (0,0))
theorem ScIs.c0 {w:World} {b a:Nat} {t:ByteArray} (h:ScIs w b t a):w.cell? ⟨b,0,none⟩=some (.string t):=cell_of_row w b 0 _ _ _ h
theorem ScIs.c1 {w:World} {b a:Nat} {t:ByteArray} (h:ScIs w b t a):w.cell? ⟨b,1,none⟩=some (.int .i64 ((a:Nat):Int)):=cell_of_row w b 1 _ _ _ h
theorem ScIs.set {w:World} {b a:Nat} {t:ByteArray} (h:ScIs w b t a) (a':Nat):ScIs (w.setCell ⟨b,1,none⟩ (.int .i64 ((a':Nat):Int))) b t a':=by
 unfold ScIs
 rw [heap_setCell_same w b 1 _ 201 _ h]
 rfl
def atOf (w:World) (b:Nat):Nat:=match w.cell? ⟨b,1,none⟩ with|some (.int _ n)=>n.toNat|_=>0
theorem ScIs.atOf {w:World} {b a:Nat} {t:ByteArray} (h:ScIs w b t a):atOf w b=a:=by unfold Go.Proofs.YtncigfibncmioaaGreatDoor.atOf;rw [h.c1];simp
theorem sp_index (x:Nat) (hx:x<256):decide (0≤Lib.indexByte [9,10,13,32] ((x:Int).toNat.toUInt8))=spB x:=by
 have h:∀ n,n<256→decide (0≤Lib.indexByte [9,10,13,32] (Nat.toUInt8 n))=spB n:=by decide +kernel
 rw [show ((x:Int).toNat)=x by omega]
 exact h x hx
theorem skip_any (b a:Nat) (t:ByteArray) (w:World) (hs:ScIs w b t a) (ha:a≤t.size) (ht:t.size≤2000) :
  Calls Tryz.prog 180 #[.pointer (some ⟨b,0,none⟩)] w fun e w'=>e = .returned (.tuple #[])∧w.grownBy w' (some b)∧ScIs w' b t (skipS t a):=by
 have HS:=hide hs
 go_enter Tryz.func180,Tryz.ntmps180
 go_wp2
 go_loopw [] (fun wr=>∃ k:Nat,k≤t.size∧skipS t k=skipS t a∧ScIs wr b t k∧w.grownBy wr (some b))
  (fun wr=>t.size - atOf wr b)
 case atStart=>exact ⟨a,ha,rfl,hs,grownBy_refl _ _⟩
 case round =>
  clear hs
  obtain ⟨k,hk,he,hr,hg⟩:=hrel
  have HE:=hide he
  have HG:=hide hg
  have HR:=hide hr
  have c0:=hr.c0
  have c1:=hr.c1
  have hf:=fun j=>frozen_of_row wr b j _ _ hr
  have hat:=hr.atOf
  clear hr he hg
  by_cases hlt:k<t.size
  ·have e1:decide (k<t.size)=true:=by simp [hlt]
   obtain ⟨x,hx⟩ : ∃ x:Nat,x=(t[k]'hlt).toNat:=⟨_,rfl⟩
   have hx2:((t[k]'hlt).toNat:Int)=(x:Int):=by rw [hx]
   have hi:=sp_index x (by rw [hx];exact UInt8.toNat_lt _)
   have HX:=hide hx
   clear hx
   obtain ⟨ix,hix⟩ : ∃ ix,ix=Lib.indexByte [9,10,13,32] ((x:Int).toNat.toUInt8):=⟨_,rfl⟩
   rw [← hix] at hi
   have hcall:∀ w,Calls Tryz.prog 101 #[.string ⟨#[9,10,13,32]⟩,.int .u8 (x:Int)] w fun e w'=>e = .returned (.int .i64 ix)∧w'=w:=fun w=>by
    have:=Tryz.strings_IndexByte ⟨#[9,10,13,32]⟩ (x:Int) w
    rw [hix]
    exact this
   have HC:=hide hcall
   clear hcall hix
   cases hsp:spB x with
   | true =>
    have HSP:=hide hsp
    rw [hsp] at hi
    go_wp2
    go_quiet ((go_at_call 101;exact Calls.quiet_of_same (HC.out _)))
    go_wp2
    go_roundw
    case rel =>
     rw [show ((k:Int)+1)=((k+1:Nat):Int) by omega]
     refine ⟨k+1,by omega,?_,ScIs.set (w:=wr.drewN nq) HR.out (k+1),grownBy_trans HG.out (grownBy_trans (grownBy_below ((Below.refl _ _).drewN nq) _) (grownBy_set _ _ _ _))⟩
     rw [← HE.out]
     conv=>rhs;rw [skipS,dif_pos hlt,← HX.out,HSP.out]
     rfl
    case measure =>
     rw [show ((k:Int)+1)=((k+1:Nat):Int) by omega,(ScIs.set (w:=wr.drewN nq) HR.out (k+1)).atOf,hat]
     omega
   | false =>
    have HSP:=hide hsp
    rw [hsp] at hi
    go_wp2
    go_quiet ((go_at_call 101;exact Calls.quiet_of_same (HC.out _)))
    go_wp2
    go_end0
    refine ⟨rfl,grownBy_trans HG.out (grownBy_below ((Below.refl _ _).drewN nq) _),?_⟩
    have e:skipS t a=k:=by
     rw [← HE.out,skipS,dif_pos hlt,← HX.out,HSP.out]
     rfl
    rw [e]
    exact HR.out
  ·have e1:decide (k<t.size)=false:=by simp [hlt]
   go_wp2
   go_quiet (fail)
   go_wp2
   go_end0
   refine ⟨rfl,grownBy_trans HG.out (grownBy_below ((Below.refl _ _).drewN nq) _),?_⟩
   have e:skipS t a=k:=by rw [← HE.out,skipS,dif_neg hlt]
   rw [e]
   exact HR.out
set_option maxHeartbeats 1000000
set_option maxRecDepth 100000
open Go.RowKit
def nameL:List ByteArray:=[⟨#[97]⟩,⟨#[97,46,98]⟩,⟨#[97,95]⟩,⟨#[97,98]⟩,⟨#[98,45]⟩,⟨#[99]⟩,⟨#[100,57]⟩,⟨#[101]⟩,⟨#[102]⟩,⟨#[103]⟩,⟨#[104]⟩,⟨#[108,97,116,101,115,116]⟩]
def nameOf (r:Nat):ByteArray:=nameL.getD r ⟨#[]⟩
theorem name_tag:∀ r,r<12→isTagB (nameOf r)=true:=by decide +kernel
theorem name_size:∀ r,(nameOf r).size≤6:=by
 intro r
 by_cases h:r<12
 ·revert r;decide +kernel
 ·unfold nameOf
  rw [List.getD_eq_getElem?_getD,List.getElem?_eq_none (show nameL.length≤r by show 12≤r;omega)]
  decide
theorem name_any (c:Int) (hc : -9223372036854775808≤c) (hc2:c≤9223372036854775807) (w:World) :
  Calls Tryz.prog 37 #[.int .i64 c] w fun e w'=>e = .returned (.string (nameOf (pickN c 12)))∧Below w.heap.size w w':=by
 have hlt:=pickN_lt c 12 (by decide)
 have hp:∀ w,Calls Tryz.prog 21 #[.int .i64 c,.int .i64 12] w fun e w'=>e = .returned (.int .i64 ((pickN c 12:Nat):Int))∧w'=w:=fun w=>pick_any c 12 (by decide) (by decide) hc hc2 w
 generalize pickN c 12=r at hlt hp ⊢
 have HP:=hide hp
 clear hp
 have hrow:=heap_alloc_new w (.cells #[.string ⟨#[97]⟩,.string ⟨#[97,46,98]⟩,.string ⟨#[97,95]⟩,.string ⟨#[97,98]⟩,.string ⟨#[98,45]⟩,.string ⟨#[99]⟩,.string ⟨#[100,57]⟩,.string ⟨#[101]⟩,.string ⟨#[102]⟩,.string ⟨#[103]⟩,.string ⟨#[104]⟩,.string ⟨#[108,97,116,101,115,116]⟩] 9 (0,0))
 have hcell:=cell_of_row _ _ r _ _ _ hrow
 have hval:(#[Value.string ⟨#[97]⟩,Value.string ⟨#[97,46,98]⟩,Value.string ⟨#[97,95]⟩,Value.string ⟨#[97,98]⟩,Value.string ⟨#[98,45]⟩,Value.string ⟨#[99]⟩,Value.string ⟨#[100,57]⟩,Value.string ⟨#[101]⟩,Value.string ⟨#[102]⟩,Value.string ⟨#[103]⟩,Value.string ⟨#[104]⟩,Value.string ⟨#[108,97,116,101,115,116]⟩]:Array Value)[r]? = some (.string (nameOf r)):=by
  have:∀ r,r<12→(#[Value.string ⟨#[97]⟩,Value.string ⟨#[97,46,98]⟩,Value.string ⟨#[97,95]⟩,Value.string ⟨#[97,98]⟩,Value.string ⟨#[98,45]⟩,Value.string ⟨#[99]⟩,Value.string ⟨#[100,57]⟩,Value.string ⟨#[101]⟩,Value.string ⟨#[102]⟩,Value.string ⟨#[103]⟩,Value.string ⟨#[104]⟩,Value.string ⟨#[108,97,116,101,115,116]⟩]:Array Value)[r]? = some (.string (nameOf r)):=by
   intro r hr
   match r,hr with
   | 0,_=>rfl
   | 1,_=>rfl
   | 2,_=>rfl
   | 3,_=>rfl
   | 4,_=>rfl
   | 5,_=>rfl
   | 6,_=>rfl
   | 7,_=>rfl
   | 8,_=>rfl
   | 9,_=>rfl
   | 10,_=>rfl
   | 11,_=>rfl
  exact this r hlt
 rw [hval] at hcell
 generalize nameOf r=nm at hcell ⊢
 have b1:(0:Int)≤(r:Int):=by omega
 have b2:(r:Int)<12:=by omega
 clear hrow hval
 go_enter Tryz.func37,Tryz.ntmps37
 go_wp2_with (go_at_call 21;refine (HP.out _).mono ?_;rintro e w1 ⟨rfl,rfl⟩)
 go_ret
 exact ⟨rfl,(Below.refl _ _).alloc (Nat.le_refl _) _⟩
end Go.Proofs.YtncigfibncmioaaGreatDoor
namespace Go.Proofs.YtncigfibncmioaaGreatDoor
open Go.RowKit
theorem builder_later {T e:TypeId} {B b:Nat} {bs:List Value} {w w':World} (h:Lib.IsBuilderF T e B b bs w) (hb:Below w.heap.size w w'):Lib.IsBuilderF T e B b bs w':=by
 have key:∀ p,Lib.BuilderAtF T e B b p bs w→Lib.BuilderAtF T e B b p bs w':=by
  rintro p ⟨h1,v,h2,h3,h4⟩
  refine ⟨h1,v,(hb.block b (lt_of_row' h2)).trans h2,⟨h3.1,h3.2.imp id ?_⟩,h4⟩
  rintro ⟨g,cap,cur,fz,e1,e2,e3,e4⟩
  exact ⟨g,cap,cur,fz,e1,e2,(hb.block g (lt_of_row' e3)).trans e3,e4⟩
 exact h.imp (key _) (key _)
def head1:List UInt8:=[123,34,118,101,114,115,105,111,110,34,58,49,44,34,116,97,103,115,34,58,91]
def eText (t:Tg):List UInt8:=[123,34,116,97,103,34,58,34]++t.name.data.toList ++ [34,44,34,100,105,103,101,115,116,34,58,34]++Sha.textTo (rd t.dig) 32 ++ [34,44,34,115,105,122,101,34,58]++Lib.itoa t.size ++ [125]
def prTo (l:List Tg):Nat→List UInt8
 | 0=>head1
 | k+1=>prTo l k++(if 0<k then [44] else [])++eText (l.getD k default)
theorem Tryz.info71b:(Tryz.prog.info? 193).map (fun i=>(i.zero,i.size))=some (some (.agg (ecellsOf ⟨#[]⟩ (Sha.zeros 32) 0)),34):=by kernel_rfl
theorem size71 (n:ByteArray) (ds:List Nat) (z:Int) (h:ds.length=32):(Tryz.prog.info? 193).map (·.size)=some (ecellsOf n ds z).size:=by
 rw [ecellsOf_size _ _ _ h];kernel_rfl
structure Ent (w0 w:World) (b:Nat) (n:ByteArray) (ds:List Nat) (z:Int):Prop where
 row:w.heap[b]? = some (.cells (ecellsOf n ds z) 193 (0,0))
 below:Below w0.heap.size w0 w
def EntS (b:Nat) (n:ByteArray) (ds:List Nat) (z:Int) (w:World):Prop:=w.cell? ⟨b,0,none⟩=some (.string n)∧w.rangeAt b 1 (cells8 ds).toList∧w.cell? ⟨b,33,none⟩=some (.int .i64 z)
theorem Ent.out {w0 w:World} {b:Nat} {n:ByteArray} {ds:List Nat} {z:Int} (h:Ent w0 w b n ds z) (hl:ds.length=32):EntS b n ds z w:=by
 refine ⟨cell_of_row w b 0 _ _ _ h.row,fun j v hj=>?_,?_⟩
 ·rw [cell_of_row w b (1+j) _ _ _ h.row]
  have hlt:j<(cells8 ds).toList.length:=(List.getElem?_eq_some_iff.1 hj).1
  have:(ecellsOf n ds z)[1+j]? = ((cells8 ds).toList ++ [Value.int .i64 z])[j]?:=by
   unfold ecellsOf
   rw [List.getElem?_toArray,Nat.add_comm 1 j,List.getElem?_cons_succ]
  rw [this,List.getElem?_append_left hlt]
  exact hj
 ·rw [cell_of_row w b 33 _ _ _ h.row]
  have hlt:(cells8 ds).toList.length=32:=by rw [Array.length_toList,cells8_size,hl]
  unfold ecellsOf
  rw [List.getElem?_toArray,List.getElem?_cons_succ,List.getElem?_append_right (by omega),hlt]
  rfl
theorem Ent.drew {w0 w:World} {b:Nat} {n:ByteArray} {ds:List Nat} {z:Int} (h:Ent w0 w b n ds z):Ent w0 w.drew b n ds z:=⟨h.row,h.below.drew⟩
theorem Ent.later {w0 w w':World} {b:Nat} {n:ByteArray} {ds:List Nat} {z:Int} (h:Ent w0 w b n ds z) (hb:Below w.heap.size w w'):Ent w0 w' b n ds z :=
 ⟨(hb.block b (lt_of_row' h.row)).trans h.row,h.below.trans (hb.mono h.below.size)⟩
theorem Ent.kept {w0 w w':World} {b:Nat} {n:ByteArray} {ds:List Nat} {z:Int} (h:Ent w0 w b n ds z) (hb:Below w0.heap.size w w') {bb:Nat} (hk:Lib.OthersKept 5 (some bb) w w') (hne:b≠bb):Ent w0 w' b n ds z :=
 ⟨hk b _ h.row (fun e=>hne (Option.some.inj e)) (fun c fz e=>by cases e),h.below.trans hb⟩
theorem ecells_range {w:World} {B g cap n:Nat} {l:List Tg} (h:w.ownsRow B 193 34 (.slice (some ⟨g,0,none⟩) n cap) n (l.flatMap Tg.ecells)) (k:Nat) (hk:k<l.length):w.rangeAt g (k * 34) (l.getD k default).ecells:=by
 obtain ⟨hlen,h2⟩:=h
 rcases h2 with ⟨e,_⟩|⟨g',cap',cur,e,_,hg,hn,_,hsz,htk⟩
 ·cases e
 ·injection e with e1 e2 e3
  injection e1 with e1
  injection e1 with e1 _ _
  subst e1
  intro j v hj
  rw [cell_of_row w g (k * 34+j) _ _ _ hg]
  have hl34:∀ t∈l,t.ecells.length=34:=fun t _=>t.ecells_len
  have hjl:j<34:=by
   have:=(List.getElem?_eq_some_iff.1 hj).1
   rwa [Tg.ecells_len] at this
  have hn2:l.length=n:=by
   rw [List.length_flatMap] at hlen
   have:(l.map fun t=>t.ecells.length).sum=l.length * 34:=by
    clear hj hk htk hlen
    induction l with
    | nil=>rfl
    | cons t l ih =>
     rw [List.map_cons,List.sum_cons,ih (fun t ht=>Tg.ecells_len t),Tg.ecells_len,List.length_cons]
     omega
   omega
  have hlt:k * 34+j<n * 34:=by omega
  have e4:cur[k * 34+j]? = (l.flatMap Tg.ecells)[k * 34+j]?:=by
   rw [← htk,List.getElem?_take_of_lt hlt,Array.getElem?_toList]
  rw [e4]
  clear e4 htk hlt hn2 hlen
  induction l generalizing k with
  | nil=>simp at hk
  | cons t l ih =>
   rw [List.flatMap_cons]
   cases k with
   | zero =>
    rw [List.getElem?_append_left (by rw [Tg.ecells_len];omega)]
    simpa using hj
   | succ k =>
    rw [List.getElem?_append_right (by rw [Tg.ecells_len];omega),Tg.ecells_len,show (k+1) * 34+j - 34=k * 34+j by omega]
    exact ih k (by simpa using hk) (by simpa using hj) (fun t _=>t.ecells_len)
theorem eText_len (t:Tg) (h:t.name.size≤20) (h0:0≤t.size) (h1:t.size≤300):(eText t).length≤135:=by
 have e1:=Lib.itoa_length_le t.size (by omega) (by omega)
 have e2:t.name.data.toList.length=t.name.size:=by simp
 have e3:=Sha.textTo_len (rd t.dig) 32
 unfold eText
 simp only [List.length_append,List.length_cons,List.length_nil]
 omega
theorem prTo_len (l:List Tg) (k:Nat) (h:∀ j,j<k→(l.getD j default).name.size≤20∧0≤(l.getD j default).size∧(l.getD j default).size≤300):(prTo l k).length≤21+136 * k:=by
 induction k with
 | zero=>exact Nat.le_refl _
 | succ k ih =>
  have h1:=ih (fun j hj=>h j (by omega))
  have h2:=h k (by omega)
  have h3:=eText_len _ h2.1 h2.2.1 h2.2.2
  have h4:(if 0<k then [(44:UInt8)] else []).length≤1:=by split<;>simp
  unfold prTo
  rw [List.length_append,List.length_append]
  omega
theorem bytes_size (l:List UInt8):(ByteArray.mk l.toArray).size=l.length:=by simp [ByteArray.size]
theorem big_size (n1 dT zT:ByteArray) (h1:n1.size≤20) (h2:dT.size=64) (h3:zT.size≤21):(⟨#[123,34,116,97,103,34,58,34]⟩++n1++⟨#[34,44,34,100,105,103,101,115,116,34,58,34]⟩++dT++⟨#[34,44,34,115,105,122,101,34,58]⟩++zT++⟨#[125]⟩ : ByteArray).size≤135:=by
 simp only [ByteArray.size_append]
 have e1:(ByteArray.mk #[123,34,116,97,103,34,58,34]).size=8:=rfl
 have e2:(ByteArray.mk #[34,44,34,100,105,103,101,115,116,34,58,34]).size=12:=rfl
 have e3:(ByteArray.mk #[34,44,34,115,105,122,101,34,58]).size=9:=rfl
 have e4:(ByteArray.mk #[125]).size=1:=rfl
 omega
theorem big_text (n1 d1 dT zT:ByteArray) (z1:Int) (h2:dT=⟨(Sha.textTo (rd d1) 32).toArray⟩) (h3:zT=⟨(Lib.itoa z1).toArray⟩):Lib.strCells (⟨#[123,34,116,97,103,34,58,34]⟩++n1++⟨#[34,44,34,100,105,103,101,115,116,34,58,34]⟩++dT++⟨#[34,44,34,115,105,122,101,34,58]⟩++zT++⟨#[125]⟩ : ByteArray)=Lib.byteCells (eText ⟨n1,d1,z1⟩):=by
 rw [Lib.strCells_eq,h2,h3]
 simp [ByteArray.data_append,eText]
theorem i40len (ds:List Nat) (h:ds.length=32):(Tryz.prog.info? 117).map (·.size)=some (cells8 ds).toList.length:=by rw [Array.length_toList];exact size40 _ h
end Go.Proofs.YtncigfibncmioaaGreatDoor
namespace Go.Proofs.YtncigfibncmioaaGreatDoor
set_option maxHeartbeats 2000000
set_option maxRecDepth 100000
open Go.RowKit
def nmT (v:Int):ByteArray:=nameOf (pickN v 12)
theorem nmT_tag (v:Int):isTagB (nmT v)=true:=name_tag _ (pickN_lt v 12 (by decide))
theorem nmT_size (v:Int):(nmT v).size≤6:=name_size _
theorem nmT_pos (v:Int):1≤(nmT v).size:=by
 have:∀ r,r<12→1≤(nameOf r).size:=by decide +kernel
 exact this _ (pickN_lt v 12 (by decide))
def ctS (v:Int):Nat→ByteArray
 | 0=>⟨#[]⟩
 | k+1=>ctS v k++nmT (v.tdiv 9+(k:Int))
def digitsT:ByteArray:=⟨#[48,49,50,51,52,53,54,55,56,57]⟩
def padS (p:ByteArray):Nat→ByteArray→ByteArray
 | 0,s=>s
 | k+1,s=>if s.size<200 then padS p k (s++digitsT++p) else s
def conT (v:Int):ByteArray:=if pickN v 7=0 then padS (nmT v) 20 (ctS v (pickN v 9)) else ctS v (pickN v 9)
theorem ctS_size (v:Int):∀ k,(ctS v k).size≤k * 6
 | 0=>Nat.le_refl _
 | k+1=>by
  have h1:=ctS_size v k
  have h2:=nmT_size (v.tdiv 9+(k:Int))
  show (ctS v k++nmT (v.tdiv 9+(k:Int))).size≤_
  rw [ByteArray.size_append]
  omega
theorem digits_size:digitsT.size=10:=rfl
theorem padS_size (p:ByteArray) (hp:p.size≤6):∀ k s,s.size≤216→(padS p k s).size≤216
 | 0,s,h=>h
 | k+1,s,h=>by
  unfold padS
  split
  ·refine padS_size p hp k _ ?_
   rw [ByteArray.size_append,ByteArray.size_append,digits_size]
   omega
  ·exact h
theorem conT_size (v:Int):(conT v).size≤216:=by
 have h1:=ctS_size v (pickN v 9)
 have h2:=pickN_lt v 9 (by decide)
 unfold conT
 split
 ·exact padS_size _ (nmT_size v) _ _ (by omega)
 ·omega
def szOf:Value→Nat
 | .string b=>b.size
 | _=>0
theorem content_of (v:Int) (hc : -9223372036854775808≤v) (hc2:v≤9223372036854775807) (w:World) :
  Calls Tryz.prog 31 #[.int .i64 v] w fun e w'=>e = .returned (.string (conT v))∧Below w.heap.size w w':=by
 have hp9:∀ w,Calls Tryz.prog 21 #[.int .i64 v,.int .i64 9] w fun e w'=>e = .returned (.int .i64 ((pickN v 9:Nat):Int))∧w'=w:=fun w=>pick_any v 9 (by decide) (by decide) hc hc2 w
 have hp7:∀ w,Calls Tryz.prog 21 #[.int .i64 v,.int .i64 7] w fun e w'=>e = .returned (.int .i64 ((pickN v 7:Nat):Int))∧w'=w:=fun w=>pick_any v 7 (by decide) (by decide) hc hc2 w
 have hnm:∀ (x:Int), -9223372036854775808≤x→x≤9223372036854775807→∀ w,Calls Tryz.prog 37 #[.int .i64 x] w fun e w'=>e = .returned (.string (nmT x))∧Below w.heap.size w w':=fun x h1 h2 w=>name_any x h1 h2 w
 have hn9:=pickN_lt v 9 (by decide)
 obtain ⟨N,hN⟩ : ∃ N,N=pickN v 9:=⟨_,rfl⟩
 obtain ⟨M,hM⟩ : ∃ M,M=pickN v 7:=⟨_,rfl⟩
 obtain ⟨R,hR⟩ : ∃ R,R=conT v:=⟨_,rfl⟩
 rw [← hR]
 have HCT:=hide (show R=if M=0 then padS (nmT v) 20 (ctS v N) else ctS v N by rw [hR];unfold conT;rw [hN,hM])
 clear hR
 rw [← hN] at hp9 hn9
 rw [← hM] at hp7
 have HP9:=hide hp9
 have HP7:=hide hp7
 have HNM:=hide hnm
 have hdv : -2000000000000000000≤v.tdiv 9∧v.tdiv 9≤2000000000000000000:=by
  have h:=Int.natAbs_tdiv v 9
  have h2:(v.natAbs).div 9=v.natAbs / 9:=rfl
  rw [show Int.natAbs 9=9 from rfl,h2] at h
  omega
 clear hp9 hp7 hnm hN hM
 obtain ⟨q,hq⟩ : ∃ q,q=v.tdiv 9:=⟨_,rfl⟩
 rw [← hq] at hdv
 have HQ:=hide hq
 go_enter Tryz.func31,Tryz.ntmps31
 go_wp2_with fail
 refine (HP9.out _).mono ?_
 rintro _ w1 ⟨rfl,rfl⟩
 dsimp only
 go_wp2_with fail
 go_loopw [4,5] (fun sv iv wr=>∃ (j:Nat),j≤N∧iv = .int .i64 ((j:Nat):Int)∧sv = .string (ctS v j)∧Below w1.heap.size w1 wr) (fun _ iv _=>N - (intOf iv).toNat)
 case atStart=>exact ⟨0,Nat.zero_le _,rfl,rfl,Below.refl _ _⟩
 case round =>
  obtain ⟨j,hj,rfl,rfl,hb⟩:=hrel
  have HB:=hide hb
  clear hb
  by_cases hlt:j<N
  ·have d1:decide (((j:Nat):Int)<((N:Nat):Int))=true:=decide_eq_true (by omega)
   have hz:=ctS_size v j
   have HNX:=hide (show ctS v (j+1)=ctS v j++nmT (v.tdiv 9+(j:Int)) from rfl)
   have HNM2:=hide (fun w=>HNM.out (v.tdiv 9+(j:Int)) (by rw [← HQ.out];omega) (by rw [← HQ.out];omega) w)
   have hz2:=nmT_size (v.tdiv 9+(j:Int))
   generalize nmT (v.tdiv 9+(j:Int))=P at HNX HNM2 hz2
   generalize ctS v j=O at HNX hz ⊢
   have q1:¬ 9223372036854775807<O.size+P.size:=by omega
   go_wp2_with fail
   refine (HNM2.out _).mono ?_
   rintro _ w3 ⟨rfl,hb3⟩
   dsimp only
   have HB3:=hide (HB.out.trans (hb3.mono HB.out.size))
   clear hb3 HNM2
   go_wp2_with fail
   refine ⟨⟨j+1,by omega,by simp,by rw [HNX.out],HB3.out⟩,by simp only [intOf];omega⟩
  ·have d1:decide (((j:Nat):Int)<((N:Nat):Int))=false:=decide_eq_false (by omega)
   have hjn:j=N:=by omega
   subst hjn
   have hz:=ctS_size v j
   generalize ctS v j=O at hz HCT ⊢
   go_wp2_with fail
   refine (HP7.out _).mono ?_
   rintro _ w2 ⟨rfl,rfl⟩
   dsimp only
   by_cases hM0:M=0
   ·subst hM0
    rw [if_pos rfl] at HCT
    have HNM3:=hide (fun w=>HNM.out v hc hc2 w)
    have hps:=nmT_size v
    have hpp:=nmT_pos v
    generalize nmT v=P at HNM3 hps hpp HCT
    have HPD:=hide (show ∀ k s,200≤s.size→padS P k s=s from fun k s h=>by
     cases k with
     | zero=>rfl
     | succ k=>unfold padS;rw [if_neg (by omega)])
    go_wp2_with fail
    go_loopw [4] (fun sv wx=>∃ (t:ByteArray) (k:Nat),sv = .string t∧t.size≤216∧200≤t.size+11 * k∧padS P 20 O=padS P k t∧Below w1.heap.size w1 wx) (fun sv _=>300 - szOf sv)
    case atStart=>exact ⟨O,20,rfl,by omega,by omega,rfl,HB.out⟩
    case round =>
     obtain ⟨t,k,rfl,ht,hk,he,hb⟩:=hrel
     have HE:=hide he
     have HB:=hide hb
     clear he hb
     by_cases h2:t.size<200
     ·obtain ⟨k,rfl⟩ : ∃ k',k=k'+1:=⟨k - 1,by omega⟩
      have HE2:=hide (show padS P 20 O=padS P k (t++digitsT++P) by rw [HE.out];show (if t.size<200 then _ else _)=_;rw [if_pos h2])
      have d1:decide (((t.size:Nat):Int)<200)=true:=decide_eq_true (by omega)
      have q1:¬ 9223372036854775807<t.size+10:=by omega
      have q2:¬ 9223372036854775807<t.size+10+P.size:=by omega
      clear HE
      go_wp2_with fail
      refine (HNM3.out _).mono ?_
      rintro _ w3 ⟨rfl,hb3⟩
      dsimp only
      have HB3:=hide (HB.out.trans (hb3.mono HB.out.size))
      clear hb3
      go_wp2_with fail
      have hsz:(t++digitsT++P).size=t.size+10+P.size:=by rw [ByteArray.size_append,ByteArray.size_append,digits_size]
      refine ⟨⟨t++digitsT++P,k,rfl,by rw [hsz];omega,by rw [hsz];omega,HE2.out,HB3.out⟩,?_⟩
      show 300 - (t++digitsT++P).size<300 - t.size
      rw [hsz]
      omega
     ·have d1:decide (((t.size:Nat):Int)<200)=false:=decide_eq_false (by omega)
      go_wp2_with fail
      go_ret
      exact ⟨by rw [HCT.out,HE.out,HPD.out k t (by omega)];rfl,HB.out⟩
   ·rw [if_neg hM0] at HCT
    have dm:decide (((M:Nat):Int)=0)=false:=decide_eq_false (by omega)
    have dm2:(((M:Nat):Int) == 0)=false:=by simp;omega
    go_wp2_with fail
    go_ret
    exact ⟨by rw [HCT.out];rfl,HB.out⟩
end Go.Proofs.YtncigfibncmioaaGreatDoor
