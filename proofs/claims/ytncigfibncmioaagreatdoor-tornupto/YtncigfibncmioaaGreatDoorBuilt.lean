/-
  PROVED HERE: what the small functions on letters answer for every byte and every string: isDigit, isSmallOrDigit, isSize of the program; isDigest of the document's answer; nothing turns.
-/
import Derived.Test.YtncigfibncmioaaGreatDoorShelf
import Derived.Test.YtncigfibncmioaaGreatDoorRM
import Derived.Test.YtncigfibncmioaaGreatDoorHash
set_option maxHeartbeats 2000000
set_option maxRecDepth 100000
namespace Go.Proofs.YtncigfibncmioaaGreatDoor
open Go.RowKit
theorem K5 (s:ByteArray) (p:UInt8->Bool):s.data.toList.all p=true ↔ ∀ i (h:i<s.size),p s[i]=true:=by
 rw [List.all_eq_true]
 constructor
 ·intro h i hi;exact h _ (Array.mem_toList_iff.2 (Array.getElem_mem (xs:=s.data) hi))
 ·intro h x hx;obtain ⟨i,hi,rfl⟩:=List.getElem_of_mem hx;exact h i (by simpa using hi)
theorem OS (c:Nat) (w:World):Calls Tryz.prog 156 #[.int .u8 ((c:Nat):Int)] w fun e w'=>e = .returned (.bool (dL c))/\w'=w:=by
 obtain ⟨r,hr⟩ : ∃ r,r=dL c:=⟨_,rfl⟩;rw [<- hr];unfold dL at hr;have hc:((c:Int)<48/\r=false)∨(48<=(c:Int)/\(c:Int)<=57/\r=true)∨(57<(c:Int)/\r=false):=by
  rw [hr];simp;omega
 clear hr
 rcases hc with ⟨h,rfl⟩|⟨h,h',rfl⟩|⟨h,rfl⟩
 all_goals
  go_enter Tryz.func156,Tryz.ntmps156;go_wp2;go_ret;simp [h]
 all_goals omega
theorem K6 (c:Nat) (w:World):Calls Tryz.prog 100 #[.int .u8 ((c:Nat):Int)] w fun e w'=>e = .returned (.bool (uE c))/\w'=w:=by
 obtain ⟨r,hr⟩ : ∃ r,r=uE c:=⟨_,rfl⟩;rw [<- hr];unfold uE at hr;have hc:((c:Int)<97/\r=dL c)∨(97<=(c:Int)/\(c:Int)<=122/\r=true)∨(122<(c:Int)/\r=dL c):=by
  rw [hr]
  rcases (show c<97∨(97<=c/\c<=122)∨122<c by omega) with h|⟨h,h'⟩|h
  ·left;refine ⟨by omega,?_⟩;simp [show ¬ 97<=c by omega]
  ·right;left;refine ⟨by omega,by omega,?_⟩;simp [h,h']
  ·right;right;refine ⟨by omega,?_⟩;simp [show ¬ c<=122 by omega]
 clear hr
 rcases hc with ⟨h,rfl⟩|⟨h,h',rfl⟩|⟨h,rfl⟩
 all_goals
  go_enter Tryz.func100,Tryz.ntmps100;go_wp2_with (go_at_call 156;refine (OS _ _).mono ?_;rintro e w' ⟨rfl,rfl⟩);go_ret;simp
 omega
theorem Oo (n:Int) (w:World):Calls Tryz.prog 129 #[.int .i64 n] w fun e w'=>e = .returned (.bool (decide (0<=n) && decide (n<=300)))/\w'=w:=by
 rcases (show n<0∨(0<=n/\n<=300)∨300<n by omega) with h|⟨h,h'⟩|h
 all_goals
  go_enter Tryz.func129,Tryz.ntmps129;go_wp2;go_ret;simp
 all_goals omega
open Go.RowKit
def lh (c:Nat):Int:=Lib.indexByte [48,49,50,51,52,53,54,55,56,57,97,98,99,100,101,102] c.toUInt8
theorem Js (c:Nat) (h:c<256):(im c=true->0<=lh c/\lh c<16/\Sha.dW (lh c).toNat=c.toUInt8)/\(im c=false->lh c = -1):=by
 have:∀ n,n<256->(im n=true->0<=lh n/\lh n<16/\Sha.dW (lh n).toNat=n.toUInt8)/\(im n=false->lh n = -1):=by decide +kernel
 exact this c h
theorem Qog (x:Nat) (w:World):Calls Tryz.prog 101 #[.string ⟨#[48,49,50,51,52,53,54,55,56,57,97,98,99,100,101,102]⟩,.int .u8 (x:Int)] w fun e w'=>e = .returned (.int .i64 (lh x))/\w'=w :=
 Tryz.strings_IndexByte _ (x:Int) w
theorem results_cell_tmp {P:Program} {fn:Func} {p q:Tmp} {ty:TypeId} (h:fn.results = #[.cell p ty,.tmp q]) (tmps:Array Value) (w:World) (g:Nat) (t:TypeId) (cs:Array Value) (fr:Nat × Nat) (d:TypeDesc) (v:Value)
  (hp:tmps.getD p undef = .pointer (some ⟨g,0,none⟩)) (hq:tmps.getD q undef=v) (hg:w.heap[g]? = some (.cells cs t fr))
  (hu:P.underlying ty=some d) (hd:(match d with|.struct _|.array _ _=>true|_=>false)=true) (hi:(P.info? ty).map (·.size)=some cs.size) :
  (results fn tmps).run P w = .ok (.tuple #[.agg cs,v]) w:=by
 have hp':tmps[p]?.getD undef = .pointer (some ⟨g,0,none⟩):=by simpa using hp
 have hq':tmps[q]?.getD undef=v:=by simpa using hq
 simp [results,h,hp',hq',asAddr,run_loadVar_row w g t ty cs fr d hg hu hd hi]
theorem bL (l:List Nat) (h:l.length=32):(Tryz.prog.info? 117).map (·.size)=some (ah l).size:=by rw [aY,h];exact Ao
theorem Qqr (s:ByteArray) (w:World) (Jt:s.size≠64) :
  Calls Tryz.prog 109 #[.string s] w fun e w'=>e = .returned (.tuple #[.agg (ah (Sha.zeros 32)),.bool false])/\Below w.heap.size w w':=by
 have oy:=(zero_of_info Tryz.bY).1;have e64:((s.size:Int) != 64)=true:=by simp;omega
 go_enter Tryz.func109,Tryz.ntmps109;go_wp2_with (refine wpList_store_row rfl 117 _ _ rfl w.heap.size _ rfl rfl 117 _ (heap_alloc_new _ _) (bL _ (Sha.af _)) rfl (dQ _) ?_;rw [World.setRow_alloc_new]);exact bodyPost_ret (results_cell_tmp Tryz.results109 _ _ w.heap.size 117 _ (0,0) _ (.bool false) rfl rfl (heap_alloc_new _ _) Tryz.underlying117 rfl (bL _ (Sha.af _))) rfl ⟨rfl,(Below.refl _ _).alloc (Nat.le_refl _) _⟩
def jY (s:ByteArray):Nat->List Nat
 | 0=>Sha.zeros 32
 | k+1=>(jY s k).set k ((lh (s.data.toList.getD (2 * k) 0).toNat).toNat * 16+(lh (s.data.toList.getD (2 * k+1) 0).toNat).toNat)
theorem Ee (s:ByteArray) (k:Nat):(jY s k).length=32:=by
 induction k with
 | zero=>exact Sha.af _
 | succ k ih=>simp [jY,ih]
theorem TK (a b:Nat) (ha:a<16) (hb:b<16):bits .or .i64 ((a:Int) * 16) (b:Int) % 256=((a * 16+b:Nat):Int):=by
 have:∀ a:Nat,a<16->∀ b:Nat,b<16->bits .or .i64 ((a:Int) * 16) (b:Int) % 256=((a * 16+b:Nat):Int):=by decide +kernel
 exact this a ha b hb
theorem TN (s:ByteArray) (i:Nat) (h:i<s.size):s.data.toList.getD i 0=s[i]:=by
 have h1:i<s.data.size:=h;show s.data.toList.getD i 0=s.data[i];rw [List.getD_eq_getElem?_getD,Array.getElem?_toList,Array.getElem?_eq_getElem h1];rfl
theorem Qoh (s:ByteArray) (i:Nat) (h:i<s.size) (hb:im (s[i]).toNat=false):fE s=false:=by
 unfold fE
 cases hq:s.data.toList.all (fun c=>im c.toNat) with
 | false=>simp
 | true =>
  have:=(K5 s _).1 hq i h;simp only [hb] at this
  cases this
theorem Qoi (s:ByteArray) (w:World) (Jt:s.size=64) (v:Array Value) (r:Bool) (HV:Hid (r=fE s/\v=ah (if fE s then jY s 32 else Sha.zeros 32))) :
  Calls Tryz.prog 109 #[.string s] w fun e w'=>e = .returned (.tuple #[.agg v,.bool r])/\Below w.heap.size w w':=by
 have oy:=(zero_of_info Tryz.bY).1;go_enter Tryz.func109,Tryz.ntmps109;go_wp2
 go_loopw [12] (fun i wr=>∃ k:Nat,k<=32/\i = .int .i64 ((k:Nat):Int)/\(∀ j (h:j<s.size),j<2 * k->im (s[j]).toNat=true)/\wr.heap[w.heap.size]? = some (.cells (ah (Sha.zeros 32)) 117 (0,0))/\wr.heap[w.heap.size+1]? = some (.cells (ah (jY s k)) 117 (0,0))/\Below w.heap.size w wr)
  (fun i _=>32 - (intOf i).toNat)
 case atStart=>exact ⟨0,by omega,rfl,fun j _ hj=>by omega,heap_alloc2_old _ _ _,heap_alloc2_new _ _ _,((Below.refl _ _).alloc (Nat.le_refl _) _).alloc (by simp) _⟩
 case round =>
  obtain ⟨k,hk,rfl,hall,hr,hv,hb⟩:=hrel;have HA:=aa hall;clear hall
  by_cases hlt:k<32
  ·have i1:2 * k<s.size:=by omega
   have i2:2 * k+1<s.size:=by omega
   obtain ⟨x,hx⟩ : ∃ x:Nat,x=(s[2 * k]'i1).toNat:=⟨_,rfl⟩;obtain ⟨y,hy⟩ : ∃ y:Nat,y=(s[2 * k+1]'i2).toNat:=⟨_,rfl⟩;have hx2:((s[2 * k]'i1).toNat:Int)=(x:Int):=by rw [hx]
   have Ed:((s[2 * k+1]'i2).toNat:Int)=(y:Int):=by rw [hy]
   have fx:=Js x (by rw [hx];exact UInt8.toNat_lt _);have fy:=Js y (by rw [hy];exact UInt8.toNat_lt _);have HX:=aa hx;have HY:=aa hy;clear hx hy;have cx:=fun w=>Qog x w
   have cy:=fun w=>Qog y w
   have Ju:=aa cx;have L5:=aa cy;clear cx cy;have c0:=Fg hv k (by rw [Ee];omega);have f:=fun j=>frozen_of_row wr (w.heap.size+1) j _ _ hv
   have hzb:=eB hv
   cases fI:im x with
   | false =>
    have hx1:lh x = -1:=fx.2 fI;rw [hx1] at Ju;have zw:fE s=false:=Qoh s _ i1 (by rw [<- HX.out];exact fI);have GK:=aa zw;clear fx fy hx1 zw fI;go_wp2_with (first|(go_at_call 101;refine (Ju.out _).mono ?_;rintro e w' ⟨rfl,rfl⟩)|(go_at_call 101;refine (L5.out _).mono ?_;rintro e w' ⟨rfl,rfl⟩)|(refine wpList_store_row rfl 117 _ _ rfl w.heap.size _ rfl rfl 117 _ hr (bL _ (Sha.af _)) rfl (dQ _) ?_));refine bodyPost_ret (results_cell_tmp Tryz.results109 _ _ w.heap.size 117 _ (0,0) _ (.bool false) rfl rfl (setRow_heap _ _ _ _ _ _ hr) Tryz.underlying117 rfl (bL _ (Sha.af _))) rfl ⟨?_,hb.setRow (Nat.le_refl _) _⟩;rw [HV.out.1,HV.out.2,GK.out];rfl
   | true =>
    cases hby:im y with
    | false =>
     have hx1:lh y = -1:=fy.2 hby
     rw [hx1] at L5;obtain ⟨a,ha⟩ : ∃ a:Nat,lh x=(a:Int):=⟨(lh x).toNat,by have:=(fx.1 fI).1;omega⟩;rw [ha] at Ju;have zw:fE s=false:=Qoh s _ i2 (by rw [<- HY.out];exact hby);have GK:=aa zw;clear fx fy hx1 zw hby fI ha;go_wp2_with (first|(go_at_call 101;refine (Ju.out _).mono ?_;rintro e w' ⟨rfl,rfl⟩)|(go_at_call 101;refine (L5.out _).mono ?_;rintro e w' ⟨rfl,rfl⟩)|(refine wpList_store_row rfl 117 _ _ rfl w.heap.size _ rfl rfl 117 _ hr (bL _ (Sha.af _)) rfl (dQ _) ?_));refine bodyPost_ret (results_cell_tmp Tryz.results109 _ _ w.heap.size 117 _ (0,0) _ (.bool false) rfl rfl (setRow_heap _ _ _ _ _ _ hr) Tryz.underlying117 rfl (bL _ (Sha.af _))) rfl ⟨?_,hb.setRow (Nat.le_refl _) _⟩;rw [HV.out.1,HV.out.2,GK.out];rfl
    | true =>
     obtain ⟨a,ha⟩ : ∃ a:Nat,lh x=(a:Int):=⟨(lh x).toNat,by have:=(fx.1 fI).1;omega⟩;obtain ⟨b,hb'⟩ : ∃ b:Nat,lh y=(b:Int):=⟨(lh y).toNat,by have:=(fy.1 hby).1;omega⟩;have la:a<16:=by have:=(fx.1 fI).2.1;omega
     have lb:b<16:=by have:=(fy.1 hby).2.1;omega
     rw [ha] at Ju;rw [hb'] at L5;have Pj:=aa (And.intro ha hb');have pV:=aa (And.intro fI hby);clear fx fy ha hb' fI hby
     go_wp2_with (first|(go_at_call 101;refine (Ju.out _).mono ?_;rintro e w' ⟨rfl,rfl⟩)|(go_at_call 101;refine (L5.out _).mono ?_;rintro e w' ⟨rfl,rfl⟩))
     go_roundw
     case rel =>
      rw [TK a b la lb];refine ⟨k+1,by omega,by go_num,fun j h hj=>?_,(heap_setCell_other _ _ _ _ (by simp)).trans hr,?_,hb.setCell (by simp) _⟩
      ·by_cases e1:j=2 * k
       ·subst e1;rw [<- HX.out];exact pV.out.1
       ·by_cases e2:j=2 * k+1
        ·subst e2;rw [<- HY.out];exact pV.out.2
        ·exact HA.out j h (by omega)
      ·refine (Ff _ hv).trans ?_;have e:jY s (k+1)=(jY s k).set k (a * 16+b):=by
        rw [jY,TN s _ i1,TN s _ i2,<- HX.out,<- HY.out,Pj.out.1,Pj.out.2];simp
       rw [e]
     case measure=>simp [intOf];omega
  ·have TP:k=32:=by omega
   subst TP;have fO:fE s=true:=by
    unfold fE;have:s.data.toList.all (fun c=>im c.toNat)=true:=(K5 s _).2 fun j h=>HA.out j h (by omega)
    rw [this,Jt];rfl
   have HG:=aa fO;clear fO;go_wp2_with (first|(refine wpList_load_row rfl 117 _ rfl (w.heap.size+1) rfl 117 _ _ _ hv Tryz.underlying117 rfl (bL _ (Ee _ _)) ?_)|(refine wpList_store_row rfl 117 _ _ rfl w.heap.size _ rfl rfl 117 _ hr (bL _ (Ee _ _)) (by rw [aY,aY,Ee,Sha.af]) (dQ _) ?_));refine bodyPost_ret (results_cell_tmp Tryz.results109 _ _ w.heap.size 117 _ (0,0) _ (.bool true) rfl rfl (setRow_heap _ _ _ _ _ _ hr) Tryz.underlying117 rfl (bL _ (Ee _ _))) rfl ⟨?_,hb.setRow (Nat.le_refl _) _⟩;rw [HV.out.1,HV.out.2,HG.out];rfl
def rd (s:ByteArray):List Nat:=if fE s then jY s 32 else Sha.zeros 32
theorem Kh (s:ByteArray) (w:World):Calls Tryz.prog 109 #[.string s] w fun e w'=>e = .returned (.tuple #[.agg (ah (rd s)),.bool (fE s)])/\Below w.heap.size w w':=by
 by_cases h:s.size=64
 ·exact Qoi s w h _ _ (aa ⟨rfl,rfl⟩)
 ·have e:fE s=false:=by simp [fE,h]
  have:=Qqr s w h;unfold rd;rw [e];exact this
theorem Qoj (s:ByteArray) (k:Nat) (hk:k<=32):∀ j,j<k->(jY s k).getD j 0=(lh (s.data.toList.getD (2 * j) 0).toNat).toNat * 16+(lh (s.data.toList.getD (2 * j+1) 0).toNat).toNat:=by
 induction k with
 | zero=>intro j hj;omega
 | succ k ih =>
  intro j hj;have hl:=Ee s k
  by_cases e:j=k
  ·subst e;simp [jY,List.getD_eq_getElem?_getD,hl,show j<32 by omega]
  ·have:=ih (by omega) j (by omega);rw [<- this];simp [jY,List.getD_eq_getElem?_getD,show ¬ k=j from fun h=>e h.symm]
theorem jm (s:ByteArray):(rd s).length=32:=by
 unfold rd;split
 ·exact Ee _ _
 ·exact Sha.af _
theorem Qok {s:ByteArray} (h:fE s=true):s.size=64/\∀ i,i<64->im (s.data.toList.getD i 0).toNat=true:=by
 unfold fE at h;simp only [Bool.and_eq_true,decide_eq_true_iff] at h;refine ⟨h.1,fun i hi=>?_⟩;have h2:=(K5 s _).1 h.2 i (by omega);rw [TN s i (by omega)];exact h2
theorem Zb {s:ByteArray} (h:fE s=true):Sha.aM (rd s) 32=s.data.toList:=by
 obtain ⟨Jt,hx⟩:=Qok h;have key:∀ k,k<=32->Sha.aM (rd s) k=s.data.toList.take (2 * k):=by
  intro k
  induction k with
  | zero=>intro _;rfl
  | succ k ih =>
   intro hk;have hl:s.data.toList.length=64:=by simpa using Jt
   have e1:(rd s).getD k 0=(lh (s.data.toList.getD (2 * k) 0).toNat).toNat * 16+(lh (s.data.toList.getD (2 * k+1) 0).toNat).toNat:=by
    unfold rd;rw [h];exact Qoj s 32 (by omega) k (by omega)
   have f1:=(Js _ (UInt8.toNat_lt (s.data.toList.getD (2 * k) 0))).1 (hx _ (by omega));have f2:=(Js _ (UInt8.toNat_lt (s.data.toList.getD (2 * k+1) 0))).1 (hx _ (by omega));generalize lh (s.data.toList.getD (2 * k) 0).toNat=u at e1 f1;generalize lh (s.data.toList.getD (2 * k+1) 0).toNat=v at e1 f2;rw [Sha.aM,ih (by omega),e1,show (u.toNat * 16+v.toNat) / 16=u.toNat by omega,show (u.toNat * 16+v.toNat) % 16=v.toNat by omega,f1.2.2,f2.2.2];rw [show 2 * (k+1)=2 * k+1+1 by omega,List.take_succ_eq_append_getElem (by omega),List.take_succ_eq_append_getElem (by omega)];have g1:s.data.toList.getD (2 * k) 0=s.data.toList[2 * k]'(by omega):=by rw [List.getD_eq_getElem?_getD,List.getElem?_eq_getElem (by omega)];rfl
   have g2:s.data.toList.getD (2 * k+1) 0=s.data.toList[2 * k+1]'(by omega):=by rw [List.getD_eq_getElem?_getD,List.getElem?_eq_getElem (by omega)];rfl
   rw [g1,g2,List.append_assoc];simp
 have:=key 32 (by omega);rw [this,List.take_of_length_le (by simp;exact Nat.le_of_eq Jt)]
theorem sA (s:ByteArray):∀ i,(rd s).getD i 0<256:=by
 intro i;unfold rd
 cases h:fE s with
 | false =>
  simp only [Bool.false_eq_true,if_false,Sha.zeros,List.getD_eq_getElem?_getD,List.getElem?_replicate]
  split<;>decide
 | true =>
  obtain ⟨Jt,hx⟩:=Qok h;simp only [if_true]
  by_cases hi:i<32
  ·rw [Qoj s 32 (by omega) i hi];have f1:=(Js _ (UInt8.toNat_lt (s.data.toList.getD (2 * i) 0))).1 (hx _ (by omega));have f2:=(Js _ (UInt8.toNat_lt (s.data.toList.getD (2 * i+1) 0))).1 (hx _ (by omega));omega
  ·have hl:=Ee s 32;simp [List.getD_eq_getElem?_getD,List.getElem?_eq_none (show (jY s 32).length<=i by omega)]
open Go.RowKit
theorem QmE (x:Nat) (hx:x<256):decide (Lib.indexByte [46,95,45] ((x:Int).toNat.toUInt8)<0) = !BN x:=by
 have h:∀ n,n<256->decide (Lib.indexByte [46,95,45] (Nat.toUInt8 n)<0) = !BN n:=by decide +kernel
 rw [show ((x:Int).toNat)=x by omega];exact h x hx
theorem Qji (c:UInt8):c.toNat<256:=c.toNat_lt
theorem qf (s:ByteArray) (w:World) (hs:s.size<=9223372036854775807):Calls Tryz.prog 59 #[.string s] w fun e w'=>e = .returned (.bool (eP s))/\w'=w:=by
 obtain ⟨r,hr⟩ : ∃ r,r=eP s:=⟨_,rfl⟩;rw [<- hr];have HR:=aa hr;clear hr
 by_cases h1:1<=s.size
 ·by_cases Zp:s.size<=20
  ·have c1:¬ (s.size:Int)<1:=by omega
   have c2:¬ 20<(s.size:Int):=by omega
   have c3:(s.size:Int)<=20:=by omega
   have c4:1<=(s.size:Int):=by omega
   have c5:0<s.size:=by omega
   obtain ⟨x0,hx0⟩ : ∃ x:Nat,x=(s[0]'c5).toNat:=⟨_,rfl⟩;have hy0:((s[0]'c5).toNat:Int)=(x0:Int):=by rw [hx0]
   have hz0:uE (s.data.toList.getD 0 0).toNat=uE x0:=by
    rw [hx0];have h1:0<s.data.size:=c5;rw [List.getD_eq_getElem?_getD,Array.getElem?_toList,Array.getElem?_eq_getElem h1];rfl
   have HZ:=aa hz0;clear hx0 hz0
   cases Lg:uE x0 with
   | false =>
    go_enter Tryz.func59,Tryz.ntmps59;go_wp2_with (go_at_call 100;refine (K6 _ _).mono ?_;rintro e w' ⟨rfl,rfl⟩);go_ret;refine ⟨?_,rfl⟩;rw [HR.out];unfold eP;rw [HZ.out,Lg];simp
   | true =>
    have HP0:=aa Lg;go_enter Tryz.func59,Tryz.ntmps59;go_wp2_with (go_at_call 100;refine (K6 _ _).mono ?_;rintro e w' ⟨rfl,rfl⟩)
    go_loop [20] (fun i=>∃ k:Nat,k<=s.size/\i = .int .i64 ((k:Nat):Int)/\∀ j (h:j<s.size),j<k->(uE (s[j]).toNat || BN (s[j]).toNat)=true) (fun i=>s.size - (intOf i).toNat)
    case atStart=>exact ⟨0,by omega,rfl,fun j _ hj=>by omega⟩
    case round =>
     obtain ⟨k,hk,rfl,hall⟩:=hrel;have HA:=aa hall;clear hall hy0 Lg
     by_cases hlt:k<s.size
     ·obtain ⟨x,hx⟩ : ∃ x:Nat,x=(s[k]'hlt).toNat:=⟨_,rfl⟩;have hx2:((s[k]'hlt).toNat:Int)=(x:Int):=by rw [hx]
      have hi:=QmE x (by rw [hx];exact Qji _);have HX:=aa hx;clear hx;obtain ⟨ix,iN⟩ : ∃ ix,ix=Lib.indexByte [46,95,45] ((x:Int).toNat.toUInt8):=⟨_,rfl⟩;rw [<- iN] at hi;have bS:∀ w,Calls Tryz.prog 101 #[.string ⟨#[46,95,45]⟩,.int .u8 (x:Int)] w fun e w'=>e = .returned (.int .i64 ix)/\w'=w:=fun w=>by
       have:=Tryz.strings_IndexByte ⟨#[46,95,45]⟩ (x:Int) w;rw [iN];exact this
      have HC:=aa bS;clear bS iN
      cases hp:uE x with
      | true =>
       have HP:=aa hp;go_wp2_with (go_at_call 100;refine (K6 _ _).mono ?_;rintro e w' ⟨rfl,rfl⟩)
       go_round
       case rel =>
        refine ⟨k+1,by omega,by go_num,fun j h hj=>?_⟩
        by_cases e:j=k
        ·subst e;rw [<- HX.out,HP.out];rfl
        ·exact HA.out j h (by omega)
       case measure=>simp [intOf];omega
      | false =>
       have HP:=aa hp
       cases rT:BN x with
       | true =>
        have HS:=aa rT;rw [rT] at hi;have Aq:¬ ix<0:=by simpa using hi
        clear hi;go_wp2_with (first|(go_at_call 100;refine (K6 _ _).mono ?_;rintro e w' ⟨rfl,rfl⟩)|(go_at_call 101;refine (HC.out _).mono ?_;rintro e w' ⟨rfl,rfl⟩))
        go_round
        case rel =>
         refine ⟨k+1,by omega,by go_num,fun j h hj=>?_⟩
         by_cases e:j=k
         ·subst e;rw [<- HX.out,HS.out,Bool.or_true]
         ·exact HA.out j h (by omega)
        case measure=>simp [intOf];omega
       | false =>
        have HS:=aa rT;rw [rT] at hi;have Aq:ix<0:=by simpa using hi
        clear hi;go_wp2_with (first|(go_at_call 100;refine (K6 _ _).mono ?_;rintro e w' ⟨rfl,rfl⟩)|(go_at_call 101;refine (HC.out _).mono ?_;rintro e w' ⟨rfl,rfl⟩));go_ret;refine ⟨?_,rfl⟩;rw [HR.out];have:s.data.toList.all (fun c=>uE c.toNat || BN c.toNat)=false:=by
         cases hq:s.data.toList.all (fun c=>uE c.toNat || BN c.toNat) with
         | false=>rfl
         | true =>
          have:=(K5 s _).1 hq k hlt;simp only [<- HX.out,HP.out,HS.out] at this
          cases this
        unfold eP;rw [this,Bool.and_false];rfl
     ·go_wp2;go_ret;refine ⟨?_,rfl⟩;rw [HR.out];have:s.data.toList.all (fun c=>uE c.toNat || BN c.toNat)=true:=(K5 s _).2 fun j h=>HA.out j h (by omega)
      unfold eP;rw [this,HZ.out,HP0.out];simp [h1,Zp]
  ·have c1:¬ (s.size:Int)<1:=by omega
   have c2:20<(s.size:Int):=by omega
   go_enter Tryz.func59,Tryz.ntmps59;go_wp2;go_ret;refine ⟨?_,rfl⟩;rw [HR.out];simp [eP,Zp]
 ·have c1:(s.size:Int)<1:=by omega
  go_enter Tryz.func59,Tryz.ntmps59;go_wp2;go_ret;refine ⟨?_,rfl⟩;rw [HR.out];simp [eP,h1]
end Go.Proofs.YtncigfibncmioaaGreatDoor
namespace Go.Proofs.YtncigfibncmioaaGreatDoor
open Go.RowKit
def aT (n:ByteArray) (ds:List Nat) (z:Int):Array Value:=(Value.string n::((ah ds).toList ++ [.int .i64 z])).toArray
theorem Qkf (n:ByteArray) (x0 x1 x2 x3 x4 x5 x6 x7 x8 x9 lO lQ lR kJ lS lT lU lV lW lX lY lZ l4 l5 l6 l7 l9 ma mf mg mh mi:Value) (z:Int) (w:World):(Instr.build 193 #[(0,.string n),(1,.agg #[x0,x1,x2,x3,x4,x5,x6,x7,x8,x9,lO,lQ,lR,kJ,lS,lT,lU,lV,lW,lX,lY,lZ,l4,l5,l6,l7,l9,ma,mf,mg,mh,mi]),(2,.int .i64 z)]).run Tryz.prog w = .ok (.agg #[.string n,x0,x1,x2,x3,x4,x5,x6,x7,x8,x9,lO,lQ,lR,kJ,lS,lT,lU,lV,lW,lX,lY,lZ,l4,l5,l6,l7,l9,ma,mf,mg,mh,mi,.int .i64 z]) w:=by kernel_rfl
theorem Qkg (y0 y1 y2 y3 y4 y5 y6 y7 y8 y9 XF XG XH XI XJ XK XL XM XN XO XP XQ XR XS XT XU XV XW XX XY XZ X4 X5 X6:Value) (w:World):(Instr.buildSlice 138 1 #[(0,.agg #[y0,y1,y2,y3,y4,y5,y6,y7,y8,y9,XF,XG,XH,XI,XJ,XK,XL,XM,XN,XO,XP,XQ,XR,XS,XT,XU,XV,XW,XX,XY,XZ,X4,X5,X6])]).run Tryz.prog w = .ok (.slice (some ⟨w.heap.size,0,none⟩) 1 1) (w.alloc (.cells #[y0,y1,y2,y3,y4,y5,y6,y7,y8,y9,XF,XG,XH,XI,XJ,XK,XL,XM,XN,XO,XP,XQ,XR,XS,XT,XU,XV,XW,XX,XY,XZ,X4,X5,X6] 193)):=by kernel_rfl
theorem IZ (ds:List Nat) (h:ds.length=32):∃ x0 x1 x2 x3 x4 x5 x6 x7 x8 x9 lO lQ lR kJ lS lT lU lV lW lX lY lZ l4 l5 l6 l7 l9 ma mf mg mh mi,ds = [x0,x1,x2,x3,x4,x5,x6,x7,x8,x9,lO,lQ,lR,kJ,lS,lT,lU,lV,lW,lX,lY,lZ,l4,l5,l6,l7,l9,ma,mf,mg,mh,mi]:=by
 obtain ⟨x0,ds,rfl⟩:=List.exists_cons_of_length_eq_add_one h
 replace h:=Nat.succ.inj h
 obtain ⟨x1,ds,rfl⟩:=List.exists_cons_of_length_eq_add_one h
 replace h:=Nat.succ.inj h
 obtain ⟨x2,ds,rfl⟩:=List.exists_cons_of_length_eq_add_one h
 replace h:=Nat.succ.inj h
 obtain ⟨x3,ds,rfl⟩:=List.exists_cons_of_length_eq_add_one h
 replace h:=Nat.succ.inj h
 obtain ⟨x4,ds,rfl⟩:=List.exists_cons_of_length_eq_add_one h
 replace h:=Nat.succ.inj h
 obtain ⟨x5,ds,rfl⟩:=List.exists_cons_of_length_eq_add_one h
 replace h:=Nat.succ.inj h
 obtain ⟨x6,ds,rfl⟩:=List.exists_cons_of_length_eq_add_one h
 replace h:=Nat.succ.inj h
 obtain ⟨x7,ds,rfl⟩:=List.exists_cons_of_length_eq_add_one h
 replace h:=Nat.succ.inj h
 obtain ⟨x8,ds,rfl⟩:=List.exists_cons_of_length_eq_add_one h
 replace h:=Nat.succ.inj h
 obtain ⟨x9,ds,rfl⟩:=List.exists_cons_of_length_eq_add_one h
 replace h:=Nat.succ.inj h
 obtain ⟨lO,ds,rfl⟩:=List.exists_cons_of_length_eq_add_one h
 replace h:=Nat.succ.inj h
 obtain ⟨lQ,ds,rfl⟩:=List.exists_cons_of_length_eq_add_one h
 replace h:=Nat.succ.inj h
 obtain ⟨lR,ds,rfl⟩:=List.exists_cons_of_length_eq_add_one h
 replace h:=Nat.succ.inj h
 obtain ⟨kJ,ds,rfl⟩:=List.exists_cons_of_length_eq_add_one h
 replace h:=Nat.succ.inj h
 obtain ⟨lS,ds,rfl⟩:=List.exists_cons_of_length_eq_add_one h
 replace h:=Nat.succ.inj h
 obtain ⟨lT,ds,rfl⟩:=List.exists_cons_of_length_eq_add_one h
 replace h:=Nat.succ.inj h
 obtain ⟨lU,ds,rfl⟩:=List.exists_cons_of_length_eq_add_one h
 replace h:=Nat.succ.inj h
 obtain ⟨lV,ds,rfl⟩:=List.exists_cons_of_length_eq_add_one h
 replace h:=Nat.succ.inj h
 obtain ⟨lW,ds,rfl⟩:=List.exists_cons_of_length_eq_add_one h
 replace h:=Nat.succ.inj h
 obtain ⟨lX,ds,rfl⟩:=List.exists_cons_of_length_eq_add_one h
 replace h:=Nat.succ.inj h
 obtain ⟨lY,ds,rfl⟩:=List.exists_cons_of_length_eq_add_one h
 replace h:=Nat.succ.inj h
 obtain ⟨lZ,ds,rfl⟩:=List.exists_cons_of_length_eq_add_one h
 replace h:=Nat.succ.inj h
 obtain ⟨l4,ds,rfl⟩:=List.exists_cons_of_length_eq_add_one h
 replace h:=Nat.succ.inj h
 obtain ⟨l5,ds,rfl⟩:=List.exists_cons_of_length_eq_add_one h
 replace h:=Nat.succ.inj h
 obtain ⟨l6,ds,rfl⟩:=List.exists_cons_of_length_eq_add_one h
 replace h:=Nat.succ.inj h
 obtain ⟨l7,ds,rfl⟩:=List.exists_cons_of_length_eq_add_one h
 replace h:=Nat.succ.inj h
 obtain ⟨l9,ds,rfl⟩:=List.exists_cons_of_length_eq_add_one h
 replace h:=Nat.succ.inj h
 obtain ⟨ma,ds,rfl⟩:=List.exists_cons_of_length_eq_add_one h
 replace h:=Nat.succ.inj h
 obtain ⟨mf,ds,rfl⟩:=List.exists_cons_of_length_eq_add_one h
 replace h:=Nat.succ.inj h
 obtain ⟨mg,ds,rfl⟩:=List.exists_cons_of_length_eq_add_one h
 replace h:=Nat.succ.inj h
 obtain ⟨mh,ds,rfl⟩:=List.exists_cons_of_length_eq_add_one h
 replace h:=Nat.succ.inj h
 obtain ⟨mi,ds,rfl⟩:=List.exists_cons_of_length_eq_add_one h
 replace h:=Nat.succ.inj h
 obtain rfl:=List.eq_nil_of_length_eq_zero h;exact ⟨x0,x1,x2,x3,x4,x5,x6,x7,x8,x9,lO,lQ,lR,kJ,lS,lT,lU,lV,lW,lX,lY,lZ,l4,l5,l6,l7,l9,ma,mf,mg,mh,mi,rfl⟩
theorem Qse (n:ByteArray) (ds:List Nat) (z:Int) (h:ds.length=32) (w:World):(Instr.build 193 #[(0,.string n),(1,.agg (ah ds)),(2,.int .i64 z)]).run Tryz.prog w = .ok (.agg (aT n ds z)) w:=by
 obtain ⟨x0,x1,x2,x3,x4,x5,x6,x7,x8,x9,lO,lQ,lR,kJ,lS,lT,lU,lV,lW,lX,lY,lZ,l4,l5,l6,l7,l9,ma,mf,mg,mh,mi,rfl⟩:=IZ ds h;exact Qkf n _ _ _ _ _ _ _ _ _ _ _ _ _ _ _ _ _ _ _ _ _ _ _ _ _ _ _ _ _ _ _ _ z w
theorem X7 (n:ByteArray) (ds:List Nat) (z:Int) (h:ds.length=32) (w:World):(Instr.buildSlice 138 1 #[(0,.agg (aT n ds z))]).run Tryz.prog w = .ok (.slice (some ⟨w.heap.size,0,none⟩) 1 1) (w.alloc (.cells (aT n ds z) 193)):=by
 obtain ⟨x0,x1,x2,x3,x4,x5,x6,x7,x8,x9,lO,lQ,lR,kJ,lS,lT,lU,lV,lW,lX,lY,lZ,l4,l5,l6,l7,l9,ma,mf,mg,mh,mi,rfl⟩:=IZ ds h;exact Qkg _ _ _ _ _ _ _ _ _ _ _ _ _ _ _ _ _ _ _ _ _ _ _ _ _ _ _ _ _ _ _ _ _ _ w
theorem eh (n:ByteArray) (ds:List Nat) (z:Int) (h:ds.length=32):(aT n ds z).size=34:=by simp [aT,aY,h]
theorem mj (n:ByteArray) (ds:List Nat) (z:Int):∀ u∈(aT n ds z).toList,u.oneCell'=true:=by
 intro u hu;simp only [aT,List.mem_cons,List.mem_append,List.not_mem_nil,or_false] at hu
 rcases hu with rfl|hu|rfl
 ·rfl
 ·have:=dQ ds;rw [Array.all_eq_true_iff_forall_mem] at this;exact this u (by simpa using hu)
 ·rfl
theorem X8 (a b:ByteArray):(leB a b=true/\Op.bytesLess a.toList b.toList=true)∨(leB a b=true/\Op.bytesLess a.toList b.toList=false/\a=b)∨(leB a b=false/\Op.bytesLess a.toList b.toList=false/\(¬ a.toList=b.toList)/\(a.toList == b.toList)=false):=by
 unfold leB
 cases h1:Op.bytesLess a.toList b.toList with
 | true=>left;simp
 | false =>
  by_cases h2:a.toList=b.toList
  ·right;left;exact ⟨by simp [h2],rfl,(toList_inj a b).1 h2⟩
  ·right;right;exact ⟨by simp [h2],rfl,h2,by simp [h2]⟩
theorem Qhc {ops:Array Oper} {rest:List Oper} {op:Oper} {a:Act} {w:World} {Q:Exit->Act->World->Prop} (hgd:op.guard=none) (x y z:Operand) (ho:op.op = .build 193 #[(0,x),(1,y),(2,z)])
  (n:ByteArray) (ds:List Nat) (k:Int) (hl:ds.length=32) (hx:a.eval x = .string n) (hy:a.eval y = .agg (ah ds)) (hz:a.eval z = .int .i64 k)
  (h:wpList Tryz.prog ops Q rest (a.put op.dst (.agg (aT n ds k))) w):wpList Tryz.prog ops Q (op::rest) a w :=
 wpList_plain hgd fun _ hK=>by
  have:=Qse n ds k hl w;unfold Oper.wp execOp;simp only [ho,hx,hy,hz,List.map_toArray,List.map_cons,List.map_nil,Sem.run_bind,Sem.run_pure,this,Result.andThen_ok];exact hK _ _ h
theorem X9 {ops:Array Oper} {rest:List Oper} {op:Oper} {a:Act} {w:World} {Q:Exit->Act->World->Prop} (hgd:op.guard=none) (x:Operand) (ho:op.op = .buildSlice 138 1 #[(0,x)])
  (n:ByteArray) (ds:List Nat) (k:Int) (hl:ds.length=32) (hx:a.eval x = .agg (aT n ds k))
  (h:wpList Tryz.prog ops Q rest (a.put op.dst (.slice (some ⟨w.heap.size,0,none⟩) 1 1)) (w.alloc (.cells (aT n ds k) 193))):wpList Tryz.prog ops Q (op::rest) a w :=
 wpList_plain hgd fun _ hK=>by
  have:=X7 n ds k hl w;unfold Oper.wp execOp;simp only [ho,hx,List.map_toArray,List.map_cons,List.map_nil,Sem.run_bind,Sem.run_pure,this,Result.andThen_ok];exact hK _ _ h
end Go.Proofs.YtncigfibncmioaaGreatDoor
