/-
  PROVED HERE: what the small functions on letters answer for every byte and every string: isDigit, isSmallOrDigit, isSize of the program; isDigest of the document's answer; nothing turns.
-/
import Derived.Test.YtncigfibncmioaaGreatDoorDig
import Derived.Test.YtncigfibncmioaaGreatDoorShelf
import Derived.Test.YtncigfibncmioaaGreatDoorRM
import Derived.Test.YtncigfibncmioaaGreatDoorHash
namespace Go.Proofs.YtncigfibncmioaaGreatDoor
set_option maxRecDepth 100000
open Go.RowKit
theorem all_iff (s:ByteArray) (p:UInt8→Bool):s.data.toList.all p=true ↔ ∀ i (h:i<s.size),p s[i]=true:=by
 rw [List.all_eq_true]
 constructor
 ·intro h i hi
  exact h _ (Array.mem_toList_iff.2 (Array.getElem_mem (xs:=s.data) hi))
 ·intro h x hx
  obtain ⟨i,hi,rfl⟩:=List.getElem_of_mem hx
  exact h i (by simpa using hi)
theorem isDigit_any (c:Nat) (w:World):Calls Tryz.prog 156 #[.int .u8 ((c:Nat):Int)] w fun e w'=>e = .returned (.bool (digB c))∧w'=w:=by
 obtain ⟨r,hr⟩ : ∃ r,r=digB c:=⟨_,rfl⟩
 rw [← hr]
 unfold digB at hr
 have hc:((c:Int)<48∧r=false)∨(48≤(c:Int)∧(c:Int)≤57∧r=true)∨(57<(c:Int)∧r=false):=by
  rw [hr];simp;omega
 clear hr
 rcases hc with ⟨h,rfl⟩|⟨h,h',rfl⟩|⟨h,rfl⟩
 all_goals
  go_enter Tryz.func156,Tryz.ntmps156
  go_wp2
  go_ret
  simp [h]
 all_goals omega
theorem isSmallOrDigit_any (c:Nat) (w:World):Calls Tryz.prog 100 #[.int .u8 ((c:Nat):Int)] w fun e w'=>e = .returned (.bool (plainB c))∧w'=w:=by
 obtain ⟨r,hr⟩ : ∃ r,r=plainB c:=⟨_,rfl⟩
 rw [← hr]
 unfold plainB at hr
 have hc:((c:Int)<97∧r=digB c)∨(97≤(c:Int)∧(c:Int)≤122∧r=true)∨(122<(c:Int)∧r=digB c):=by
  rw [hr]
  rcases (show c<97∨(97≤c∧c≤122)∨122<c by omega) with h|⟨h,h'⟩|h
  ·left;refine ⟨by omega,?_⟩;simp [show ¬ 97≤c by omega]
  ·right;left;refine ⟨by omega,by omega,?_⟩;simp [h,h']
  ·right;right;refine ⟨by omega,?_⟩;simp [show ¬ c≤122 by omega]
 clear hr
 rcases hc with ⟨h,rfl⟩|⟨h,h',rfl⟩|⟨h,rfl⟩
 all_goals
  go_enter Tryz.func100,Tryz.ntmps100
  go_wp2_with (go_at_call 156;refine (isDigit_any _ _).mono ?_;rintro e w' ⟨rfl,rfl⟩)
  go_ret
  simp
 omega
theorem isSize_any (n:Int) (w:World):Calls Tryz.prog 129 #[.int .i64 n] w fun e w'=>e = .returned (.bool (decide (0≤n) && decide (n≤300)))∧w'=w:=by
 rcases (show n<0∨(0≤n∧n≤300)∨300<n by omega) with h|⟨h,h'⟩|h
 all_goals
  go_enter Tryz.func129,Tryz.ntmps129
  go_wp2
  go_ret
  simp
 all_goals omega
set_option maxHeartbeats 1000000
set_option maxRecDepth 100000
open Go.RowKit
def hexIx (c:Nat):Int:=Lib.indexByte [48,49,50,51,52,53,54,55,56,57,97,98,99,100,101,102] c.toUInt8
theorem hexIx_facts (c:Nat) (h:c<256):(hexB c=true→0≤hexIx c∧hexIx c<16∧Sha.hexd (hexIx c).toNat=c.toUInt8)∧(hexB c=false→hexIx c = -1):=by
 have:∀ n,n<256→(hexB n=true→0≤hexIx n∧hexIx n<16∧Sha.hexd (hexIx n).toNat=n.toUInt8)∧(hexB n=false→hexIx n = -1):=by decide +kernel
 exact this c h
theorem ix_call (x:Nat) (w:World):Calls Tryz.prog 101 #[.string ⟨#[48,49,50,51,52,53,54,55,56,57,97,98,99,100,101,102]⟩,.int .u8 (x:Int)] w fun e w'=>e = .returned (.int .i64 (hexIx x))∧w'=w :=
 Tryz.strings_IndexByte _ (x:Int) w
theorem results_cell_tmp {P:Program} {fn:Func} {p q:Tmp} {ty:TypeId} (h:fn.results = #[.cell p ty,.tmp q]) (tmps:Array Value) (w:World) (g:Nat) (t:TypeId) (cs:Array Value) (fr:Nat × Nat) (d:TypeDesc) (v:Value)
  (hp:tmps.getD p undef = .pointer (some ⟨g,0,none⟩)) (hq:tmps.getD q undef=v) (hg:w.heap[g]? = some (.cells cs t fr))
  (hu:P.underlying ty=some d) (hd:(match d with|.struct _|.array _ _=>true|_=>false)=true) (hi:(P.info? ty).map (·.size)=some cs.size) :
  (results fn tmps).run P w = .ok (.tuple #[.agg cs,v]) w:=by
 have hp':tmps[p]?.getD undef = .pointer (some ⟨g,0,none⟩):=by simpa using hp
 have hq':tmps[q]?.getD undef=v:=by simpa using hq
 simp [results,h,hp',hq',asAddr,run_loadVar_row w g t ty cs fr d hg hu hd hi]
theorem size40 (l:List Nat) (h:l.length=32):(Tryz.prog.info? 117).map (·.size)=some (cells8 l).size:=by rw [cells8_size,h];exact size40_32
theorem read_len (s:ByteArray) (w:World) (h64:s.size≠64) :
  Calls Tryz.prog 109 #[.string s] w fun e w'=>e = .returned (.tuple #[.agg (cells8 (Sha.zeros 32)),.bool false])∧Below w.heap.size w w':=by
 have hz4:=(zero_of_info Tryz.info117).1
 have e64:((s.size:Int) != 64)=true:=by simp;omega
 go_enter Tryz.func109,Tryz.ntmps109
 go_wp2_with (refine wpList_store_row rfl 117 _ _ rfl w.heap.size _ rfl rfl 117 _ (heap_alloc_new _ _) (size40 _ (Sha.zeros_len _)) rfl (cells8_one _) ?_;rw [World.setRow_alloc_new])
 exact bodyPost_ret (results_cell_tmp Tryz.results109 _ _ w.heap.size 117 _ (0,0) _ (.bool false) rfl rfl (heap_alloc_new _ _) Tryz.underlying117 rfl (size40 _ (Sha.zeros_len _))) rfl ⟨rfl,(Below.refl _ _).alloc (Nat.le_refl _) _⟩
def rdTo (s:ByteArray):Nat→List Nat
 | 0=>Sha.zeros 32
 | k+1=>(rdTo s k).set k ((hexIx (s.data.toList.getD (2 * k) 0).toNat).toNat * 16+(hexIx (s.data.toList.getD (2 * k+1) 0).toNat).toNat)
theorem rdTo_len (s:ByteArray) (k:Nat):(rdTo s k).length=32:=by
 induction k with
 | zero=>exact Sha.zeros_len _
 | succ k ih=>simp [rdTo,ih]
theorem or16 (a b:Nat) (ha:a<16) (hb:b<16):bits .or .i64 ((a:Int) * 16) (b:Int) % 256=((a * 16+b:Nat):Int):=by
 have:∀ a:Nat,a<16→∀ b:Nat,b<16→bits .or .i64 ((a:Int) * 16) (b:Int) % 256=((a * 16+b:Nat):Int):=by decide +kernel
 exact this a ha b hb
theorem getD_byte (s:ByteArray) (i:Nat) (h:i<s.size):s.data.toList.getD i 0=s[i]:=by
 have h1:i<s.data.size:=h
 show s.data.toList.getD i 0=s.data[i]
 rw [List.getD_eq_getElem?_getD,Array.getElem?_toList,Array.getElem?_eq_getElem h1]
 rfl
theorem not_dig (s:ByteArray) (i:Nat) (h:i<s.size) (hb:hexB (s[i]).toNat=false):isDigB s=false:=by
 unfold isDigB
 cases hq:s.data.toList.all (fun c=>hexB c.toNat) with
 | false=>simp
 | true =>
  have:=(all_iff s _).1 hq i h
  simp only [hb] at this
  cases this
theorem read_core (s:ByteArray) (w:World) (h64:s.size=64) (v:Array Value) (r:Bool) (HV:Hid (r=isDigB s∧v=cells8 (if isDigB s then rdTo s 32 else Sha.zeros 32))) :
  Calls Tryz.prog 109 #[.string s] w fun e w'=>e = .returned (.tuple #[.agg v,.bool r])∧Below w.heap.size w w':=by
 have hz4:=(zero_of_info Tryz.info117).1
 go_enter Tryz.func109,Tryz.ntmps109
 go_wp2
 go_loopw [12] (fun i wr=>∃ k:Nat,k≤32∧i = .int .i64 ((k:Nat):Int)∧(∀ j (h:j<s.size),j<2 * k→hexB (s[j]).toNat=true)∧wr.heap[w.heap.size]? = some (.cells (cells8 (Sha.zeros 32)) 117 (0,0))∧wr.heap[w.heap.size+1]? = some (.cells (cells8 (rdTo s k)) 117 (0,0))∧Below w.heap.size w wr)
  (fun i _=>32 - (intOf i).toNat)
 case atStart=>exact ⟨0,by omega,rfl,fun j _ hj=>by omega,heap_alloc2_old _ _ _,heap_alloc2_new _ _ _,((Below.refl _ _).alloc (Nat.le_refl _) _).alloc (by simp) _⟩
 case round =>
  obtain ⟨k,hk,rfl,hall,hr,hv,hb⟩:=hrel
  have HA:=hide hall
  clear hall
  by_cases hlt:k<32
  ·have i1:2 * k<s.size:=by omega
   have i2:2 * k+1<s.size:=by omega
   obtain ⟨x,hx⟩ : ∃ x:Nat,x=(s[2 * k]'i1).toNat:=⟨_,rfl⟩
   obtain ⟨y,hy⟩ : ∃ y:Nat,y=(s[2 * k+1]'i2).toNat:=⟨_,rfl⟩
   have hx2:((s[2 * k]'i1).toNat:Int)=(x:Int):=by rw [hx]
   have hy2:((s[2 * k+1]'i2).toNat:Int)=(y:Int):=by rw [hy]
   have fx:=hexIx_facts x (by rw [hx];exact UInt8.toNat_lt _)
   have fy:=hexIx_facts y (by rw [hy];exact UInt8.toNat_lt _)
   have HX:=hide hx
   have HY:=hide hy
   clear hx hy
   have cx:=fun w=>ix_call x w
   have cy:=fun w=>ix_call y w
   have HCX:=hide cx
   have HCY:=hide cy
   clear cx cy
   have c0:=row8_cell hv k (by rw [rdTo_len];omega)
   have f:=fun j=>frozen_of_row wr (w.heap.size+1) j _ _ hv
   have hzb:=lt_of_row hv
   cases hbx:hexB x with
   | false =>
    have hx1:hexIx x = -1:=fx.2 hbx
    rw [hx1] at HCX
    have hbad:isDigB s=false:=not_dig s _ i1 (by rw [← HX.out];exact hbx)
    have HBad:=hide hbad
    clear fx fy hx1 hbad hbx
    go_wp2_with (first|(go_at_call 101;refine (HCX.out _).mono ?_;rintro e w' ⟨rfl,rfl⟩)|(go_at_call 101;refine (HCY.out _).mono ?_;rintro e w' ⟨rfl,rfl⟩)|(refine wpList_store_row rfl 117 _ _ rfl w.heap.size _ rfl rfl 117 _ hr (size40 _ (Sha.zeros_len _)) rfl (cells8_one _) ?_))
    refine bodyPost_ret (results_cell_tmp Tryz.results109 _ _ w.heap.size 117 _ (0,0) _ (.bool false) rfl rfl (setRow_heap _ _ _ _ _ _ hr) Tryz.underlying117 rfl (size40 _ (Sha.zeros_len _))) rfl ⟨?_,hb.setRow (Nat.le_refl _) _⟩
    rw [HV.out.1,HV.out.2,HBad.out]
    rfl
   | true =>
    cases hby:hexB y with
    | false =>
     have hx1:hexIx y = -1:=fy.2 hby
     rw [hx1] at HCY
     obtain ⟨a,ha⟩ : ∃ a:Nat,hexIx x=(a:Int):=⟨(hexIx x).toNat,by have:=(fx.1 hbx).1;omega⟩
     rw [ha] at HCX
     have hbad:isDigB s=false:=not_dig s _ i2 (by rw [← HY.out];exact hby)
     have HBad:=hide hbad
     clear fx fy hx1 hbad hby hbx ha
     go_wp2_with (first|(go_at_call 101;refine (HCX.out _).mono ?_;rintro e w' ⟨rfl,rfl⟩)|(go_at_call 101;refine (HCY.out _).mono ?_;rintro e w' ⟨rfl,rfl⟩)|(refine wpList_store_row rfl 117 _ _ rfl w.heap.size _ rfl rfl 117 _ hr (size40 _ (Sha.zeros_len _)) rfl (cells8_one _) ?_))
     refine bodyPost_ret (results_cell_tmp Tryz.results109 _ _ w.heap.size 117 _ (0,0) _ (.bool false) rfl rfl (setRow_heap _ _ _ _ _ _ hr) Tryz.underlying117 rfl (size40 _ (Sha.zeros_len _))) rfl ⟨?_,hb.setRow (Nat.le_refl _) _⟩
     rw [HV.out.1,HV.out.2,HBad.out]
     rfl
    | true =>
     obtain ⟨a,ha⟩ : ∃ a:Nat,hexIx x=(a:Int):=⟨(hexIx x).toNat,by have:=(fx.1 hbx).1;omega⟩
     obtain ⟨b,hb'⟩ : ∃ b:Nat,hexIx y=(b:Int):=⟨(hexIx y).toNat,by have:=(fy.1 hby).1;omega⟩
     have la:a<16:=by have:=(fx.1 hbx).2.1;omega
     have lb:b<16:=by have:=(fy.1 hby).2.1;omega
     rw [ha] at HCX
     rw [hb'] at HCY
     have HAB:=hide (And.intro ha hb')
     have HBB:=hide (And.intro hbx hby)
     clear fx fy ha hb' hbx hby
     go_wp2_with (first|(go_at_call 101;refine (HCX.out _).mono ?_;rintro e w' ⟨rfl,rfl⟩)|(go_at_call 101;refine (HCY.out _).mono ?_;rintro e w' ⟨rfl,rfl⟩))
     go_roundw
     case rel =>
      rw [or16 a b la lb]
      refine ⟨k+1,by omega,by go_num,fun j h hj=>?_,(heap_setCell_other _ _ _ _ (by simp)).trans hr,?_,hb.setCell (by simp) _⟩
      ·by_cases e1:j=2 * k
       ·subst e1;rw [← HX.out];exact HBB.out.1
       ·by_cases e2:j=2 * k+1
        ·subst e2;rw [← HY.out];exact HBB.out.2
        ·exact HA.out j h (by omega)
      ·refine (row8_store _ hv).trans ?_
       have e:rdTo s (k+1)=(rdTo s k).set k (a * 16+b):=by
        rw [rdTo,getD_byte s _ i1,getD_byte s _ i2,← HX.out,← HY.out,HAB.out.1,HAB.out.2]
        simp
       rw [e]
     case measure=>simp [intOf];omega
  ·have hk32:k=32:=by omega
   subst hk32
   have hgood:isDigB s=true:=by
    unfold isDigB
    have:s.data.toList.all (fun c=>hexB c.toNat)=true:=(all_iff s _).2 fun j h=>HA.out j h (by omega)
    rw [this,h64]
    rfl
   have HG:=hide hgood
   clear hgood
   go_wp2_with (first|(refine wpList_load_row rfl 117 _ rfl (w.heap.size+1) rfl 117 _ _ _ hv Tryz.underlying117 rfl (size40 _ (rdTo_len _ _)) ?_)|(refine wpList_store_row rfl 117 _ _ rfl w.heap.size _ rfl rfl 117 _ hr (size40 _ (rdTo_len _ _)) (by rw [cells8_size,cells8_size,rdTo_len,Sha.zeros_len]) (cells8_one _) ?_))
   refine bodyPost_ret (results_cell_tmp Tryz.results109 _ _ w.heap.size 117 _ (0,0) _ (.bool true) rfl rfl (setRow_heap _ _ _ _ _ _ hr) Tryz.underlying117 rfl (size40 _ (rdTo_len _ _))) rfl ⟨?_,hb.setRow (Nat.le_refl _) _⟩
   rw [HV.out.1,HV.out.2,HG.out]
   rfl
def rd (s:ByteArray):List Nat:=if isDigB s then rdTo s 32 else Sha.zeros 32
theorem read_any (s:ByteArray) (w:World):Calls Tryz.prog 109 #[.string s] w fun e w'=>e = .returned (.tuple #[.agg (cells8 (rd s)),.bool (isDigB s)])∧Below w.heap.size w w':=by
 by_cases h:s.size=64
 ·exact read_core s w h _ _ (hide ⟨rfl,rfl⟩)
 ·have e:isDigB s=false:=by simp [isDigB,h]
  have:=read_len s w h
  unfold rd
  rw [e]
  exact this
theorem rdTo_at (s:ByteArray) (k:Nat) (hk:k≤32):∀ j,j<k→(rdTo s k).getD j 0=(hexIx (s.data.toList.getD (2 * j) 0).toNat).toNat * 16+(hexIx (s.data.toList.getD (2 * j+1) 0).toNat).toNat:=by
 induction k with
 | zero=>intro j hj;omega
 | succ k ih =>
  intro j hj
  have hl:=rdTo_len s k
  by_cases e:j=k
  ·subst e
   simp [rdTo,List.getD_eq_getElem?_getD,hl,show j<32 by omega]
  ·have:=ih (by omega) j (by omega)
   rw [← this]
   simp [rdTo,List.getD_eq_getElem?_getD,show ¬ k=j from fun h=>e h.symm]
theorem rd_len (s:ByteArray):(rd s).length=32:=by
 unfold rd;split
 ·exact rdTo_len _ _
 ·exact Sha.zeros_len _
theorem dig_hex {s:ByteArray} (h:isDigB s=true):s.size=64∧∀ i,i<64→hexB (s.data.toList.getD i 0).toNat=true:=by
 unfold isDigB at h
 simp only [Bool.and_eq_true,decide_eq_true_iff] at h
 refine ⟨h.1,fun i hi=>?_⟩
 have h2:=(all_iff s _).1 h.2 i (by omega)
 rw [getD_byte s i (by omega)]
 exact h2
theorem rd_text {s:ByteArray} (h:isDigB s=true):Sha.textTo (rd s) 32=s.data.toList:=by
 obtain ⟨h64,hx⟩:=dig_hex h
 have key:∀ k,k≤32→Sha.textTo (rd s) k=s.data.toList.take (2 * k):=by
  intro k
  induction k with
  | zero=>intro _;rfl
  | succ k ih =>
   intro hk
   have hl:s.data.toList.length=64:=by simpa using h64
   have e1:(rd s).getD k 0=(hexIx (s.data.toList.getD (2 * k) 0).toNat).toNat * 16+(hexIx (s.data.toList.getD (2 * k+1) 0).toNat).toNat:=by
    unfold rd;rw [h];exact rdTo_at s 32 (by omega) k (by omega)
   have f1:=(hexIx_facts _ (UInt8.toNat_lt (s.data.toList.getD (2 * k) 0))).1 (hx _ (by omega))
   have f2:=(hexIx_facts _ (UInt8.toNat_lt (s.data.toList.getD (2 * k+1) 0))).1 (hx _ (by omega))
   generalize hexIx (s.data.toList.getD (2 * k) 0).toNat=u at e1 f1
   generalize hexIx (s.data.toList.getD (2 * k+1) 0).toNat=v at e1 f2
   rw [Sha.textTo,ih (by omega),e1,show (u.toNat * 16+v.toNat) / 16=u.toNat by omega,show (u.toNat * 16+v.toNat) % 16=v.toNat by omega,f1.2.2,f2.2.2]
   rw [show 2 * (k+1)=2 * k+1+1 by omega,List.take_succ_eq_append_getElem (by omega),List.take_succ_eq_append_getElem (by omega)]
   have g1:s.data.toList.getD (2 * k) 0=s.data.toList[2 * k]'(by omega):=by rw [List.getD_eq_getElem?_getD,List.getElem?_eq_getElem (by omega)];rfl
   have g2:s.data.toList.getD (2 * k+1) 0=s.data.toList[2 * k+1]'(by omega):=by rw [List.getD_eq_getElem?_getD,List.getElem?_eq_getElem (by omega)];rfl
   rw [g1,g2,List.append_assoc]
   simp
 have:=key 32 (by omega)
 rw [this,List.take_of_length_le (by simp;exact Nat.le_of_eq h64)]
theorem rd_lt (s:ByteArray):∀ i,(rd s).getD i 0<256:=by
 intro i
 unfold rd
 cases h:isDigB s with
 | false =>
  simp only [Bool.false_eq_true,if_false,Sha.zeros,List.getD_eq_getElem?_getD,List.getElem?_replicate]
  split<;>decide
 | true =>
  obtain ⟨h64,hx⟩:=dig_hex h
  simp only [if_true]
  by_cases hi:i<32
  ·rw [rdTo_at s 32 (by omega) i hi]
   have f1:=(hexIx_facts _ (UInt8.toNat_lt (s.data.toList.getD (2 * i) 0))).1 (hx _ (by omega))
   have f2:=(hexIx_facts _ (UInt8.toNat_lt (s.data.toList.getD (2 * i+1) 0))).1 (hx _ (by omega))
   omega
  ·have hl:=rdTo_len s 32
   simp [List.getD_eq_getElem?_getD,List.getElem?_eq_none (show (rdTo s 32).length≤i by omega)]
set_option maxHeartbeats 2000000
set_option maxRecDepth 100000
open Go.RowKit
theorem sign_index (x:Nat) (hx:x<256):decide (Lib.indexByte [46,95,45] ((x:Int).toNat.toUInt8)<0) = !signB x:=by
 have h:∀ n,n<256→decide (Lib.indexByte [46,95,45] (Nat.toUInt8 n)<0) = !signB n:=by decide +kernel
 rw [show ((x:Int).toNat)=x by omega]
 exact h x hx
theorem toNat_lt_256 (c:UInt8):c.toNat<256:=c.toNat_lt
theorem ownTag_any (s:ByteArray) (w:World) (hs:s.size≤9223372036854775807):Calls Tryz.prog 59 #[.string s] w fun e w'=>e = .returned (.bool (isTagB s))∧w'=w:=by
 obtain ⟨r,hr⟩ : ∃ r,r=isTagB s:=⟨_,rfl⟩
 rw [← hr]
 have HR:=hide hr
 clear hr
 by_cases h1:1≤s.size
 ·by_cases h20:s.size≤20
  ·have c1:¬ (s.size:Int)<1:=by omega
   have c2:¬ 20<(s.size:Int):=by omega
   have c3:(s.size:Int)≤20:=by omega
   have c4:1≤(s.size:Int):=by omega
   have c5:0<s.size:=by omega
   obtain ⟨x0,hx0⟩ : ∃ x:Nat,x=(s[0]'c5).toNat:=⟨_,rfl⟩
   have hy0:((s[0]'c5).toNat:Int)=(x0:Int):=by rw [hx0]
   have hz0:plainB (s.data.toList.getD 0 0).toNat=plainB x0:=by
    rw [hx0]
    have h1:0<s.data.size:=c5
    rw [List.getD_eq_getElem?_getD,Array.getElem?_toList,Array.getElem?_eq_getElem h1]
    rfl
   have HZ:=hide hz0
   clear hx0 hz0
   cases hp0:plainB x0 with
   | false =>
    go_enter Tryz.func59,Tryz.ntmps59
    go_wp2_with (go_at_call 100;refine (isSmallOrDigit_any _ _).mono ?_;rintro e w' ⟨rfl,rfl⟩)
    go_ret
    refine ⟨?_,rfl⟩
    rw [HR.out]
    unfold isTagB
    rw [HZ.out,hp0]
    simp
   | true =>
    have HP0:=hide hp0
    go_enter Tryz.func59,Tryz.ntmps59
    go_wp2_with (go_at_call 100;refine (isSmallOrDigit_any _ _).mono ?_;rintro e w' ⟨rfl,rfl⟩)
    go_loop [20] (fun i=>∃ k:Nat,k≤s.size∧i = .int .i64 ((k:Nat):Int)∧∀ j (h:j<s.size),j<k→(plainB (s[j]).toNat || signB (s[j]).toNat)=true) (fun i=>s.size - (intOf i).toNat)
    case atStart=>exact ⟨0,by omega,rfl,fun j _ hj=>by omega⟩
    case round =>
     obtain ⟨k,hk,rfl,hall⟩:=hrel
     have HA:=hide hall
     clear hall hy0 hp0
     by_cases hlt:k<s.size
     ·obtain ⟨x,hx⟩ : ∃ x:Nat,x=(s[k]'hlt).toNat:=⟨_,rfl⟩
      have hx2:((s[k]'hlt).toNat:Int)=(x:Int):=by rw [hx]
      have hi:=sign_index x (by rw [hx];exact toNat_lt_256 _)
      have HX:=hide hx
      clear hx
      obtain ⟨ix,hix⟩ : ∃ ix,ix=Lib.indexByte [46,95,45] ((x:Int).toNat.toUInt8):=⟨_,rfl⟩
      rw [← hix] at hi
      have hcall:∀ w,Calls Tryz.prog 101 #[.string ⟨#[46,95,45]⟩,.int .u8 (x:Int)] w fun e w'=>e = .returned (.int .i64 ix)∧w'=w:=fun w=>by
       have:=Tryz.strings_IndexByte ⟨#[46,95,45]⟩ (x:Int) w
       rw [hix]
       exact this
      have HC:=hide hcall
      clear hcall hix
      cases hp:plainB x with
      | true =>
       have HP:=hide hp
       go_wp2_with (go_at_call 100;refine (isSmallOrDigit_any _ _).mono ?_;rintro e w' ⟨rfl,rfl⟩)
       go_round
       case rel =>
        refine ⟨k+1,by omega,by go_num,fun j h hj=>?_⟩
        by_cases e:j=k
        ·subst e
         rw [← HX.out,HP.out]
         rfl
        ·exact HA.out j h (by omega)
       case measure=>simp [intOf];omega
      | false =>
       have HP:=hide hp
       cases hsg:signB x with
       | true =>
        have HS:=hide hsg
        rw [hsg] at hi
        have hi2:¬ ix<0:=by simpa using hi
        clear hi
        go_wp2_with (first|(go_at_call 100;refine (isSmallOrDigit_any _ _).mono ?_;rintro e w' ⟨rfl,rfl⟩)|(go_at_call 101;refine (HC.out _).mono ?_;rintro e w' ⟨rfl,rfl⟩))
        go_round
        case rel =>
         refine ⟨k+1,by omega,by go_num,fun j h hj=>?_⟩
         by_cases e:j=k
         ·subst e
          rw [← HX.out,HS.out,Bool.or_true]
         ·exact HA.out j h (by omega)
        case measure=>simp [intOf];omega
       | false =>
        have HS:=hide hsg
        rw [hsg] at hi
        have hi2:ix<0:=by simpa using hi
        clear hi
        go_wp2_with (first|(go_at_call 100;refine (isSmallOrDigit_any _ _).mono ?_;rintro e w' ⟨rfl,rfl⟩)|(go_at_call 101;refine (HC.out _).mono ?_;rintro e w' ⟨rfl,rfl⟩))
        go_ret
        refine ⟨?_,rfl⟩
        rw [HR.out]
        have:s.data.toList.all (fun c=>plainB c.toNat || signB c.toNat)=false:=by
         cases hq:s.data.toList.all (fun c=>plainB c.toNat || signB c.toNat) with
         | false=>rfl
         | true =>
          have:=(all_iff s _).1 hq k hlt
          simp only [← HX.out,HP.out,HS.out] at this
          cases this
        unfold isTagB
        rw [this,Bool.and_false]
        rfl
     ·go_wp2
      go_ret
      refine ⟨?_,rfl⟩
      rw [HR.out]
      have:s.data.toList.all (fun c=>plainB c.toNat || signB c.toNat)=true:=(all_iff s _).2 fun j h=>HA.out j h (by omega)
      unfold isTagB
      rw [this,HZ.out,HP0.out]
      simp [h1,h20]
  ·have c1:¬ (s.size:Int)<1:=by omega
   have c2:20<(s.size:Int):=by omega
   go_enter Tryz.func59,Tryz.ntmps59
   go_wp2
   go_ret
   refine ⟨?_,rfl⟩
   rw [HR.out]
   simp [isTagB,h20]
 ·have c1:(s.size:Int)<1:=by omega
  go_enter Tryz.func59,Tryz.ntmps59
  go_wp2
  go_ret
  refine ⟨?_,rfl⟩
  rw [HR.out]
  simp [isTagB,h1]
end Go.Proofs.YtncigfibncmioaaGreatDoor
namespace Go.Proofs.YtncigfibncmioaaGreatDoor
open Go.RowKit
def ecellsOf (n:ByteArray) (ds:List Nat) (z:Int):Array Value:=(Value.string n::((cells8 ds).toList ++ [.int .i64 z])).toArray
theorem slice47_lit (y0 y1 y2 y3 y4 y5 y6 y7 y8 y9 y10 y11 y12 y13 y14 y15 y16 y17 y18 y19 y20 y21 y22 y23 y24 y25 y26 y27 y28 y29 y30 y31 y32 y33:Value) (w:World):(Instr.buildSlice 138 1 #[(0,.agg #[y0,y1,y2,y3,y4,y5,y6,y7,y8,y9,y10,y11,y12,y13,y14,y15,y16,y17,y18,y19,y20,y21,y22,y23,y24,y25,y26,y27,y28,y29,y30,y31,y32,y33])]).run Tryz.prog w = .ok (.slice (some ⟨w.heap.size,0,none⟩) 1 1) (w.alloc (.cells #[y0,y1,y2,y3,y4,y5,y6,y7,y8,y9,y10,y11,y12,y13,y14,y15,y16,y17,y18,y19,y20,y21,y22,y23,y24,y25,y26,y27,y28,y29,y30,y31,y32,y33] 193)):=by kernel_rfl
theorem list32 (ds:List Nat) (h:ds.length=32):∃ x0 x1 x2 x3 x4 x5 x6 x7 x8 x9 x10 x11 x12 x13 x14 x15 x16 x17 x18 x19 x20 x21 x22 x23 x24 x25 x26 x27 x28 x29 x30 x31,ds = [x0,x1,x2,x3,x4,x5,x6,x7,x8,x9,x10,x11,x12,x13,x14,x15,x16,x17,x18,x19,x20,x21,x22,x23,x24,x25,x26,x27,x28,x29,x30,x31]:=by
 obtain ⟨x0,ds,rfl⟩:=List.exists_cons_of_length_eq_add_one h
 replace h:=Nat.succ.inj h
 obtain ⟨x1,ds,rfl⟩:=List.exists_cons_of_length_eq_add_one h
 replace h:=Nat.succ.inj h
 obtain ⟨x2,ds,rfl⟩:=List.exists_cons_of_length_eq_add_one h
 replace h:=Nat.succ.inj h
 obtain ⟨x3,ds,rfl⟩:=List.exists_cons_of_length_eq_add_one h
 replace h:=Nat.succ.inj h
 obtain ⟨x4,ds,rfl⟩:=List.exists_cons_of_length_eq_add_one h
 replace h:=Nat.succ.inj h
 obtain ⟨x5,ds,rfl⟩:=List.exists_cons_of_length_eq_add_one h
 replace h:=Nat.succ.inj h
 obtain ⟨x6,ds,rfl⟩:=List.exists_cons_of_length_eq_add_one h
 replace h:=Nat.succ.inj h
 obtain ⟨x7,ds,rfl⟩:=List.exists_cons_of_length_eq_add_one h
 replace h:=Nat.succ.inj h
 obtain ⟨x8,ds,rfl⟩:=List.exists_cons_of_length_eq_add_one h
 replace h:=Nat.succ.inj h
 obtain ⟨x9,ds,rfl⟩:=List.exists_cons_of_length_eq_add_one h
 replace h:=Nat.succ.inj h
 obtain ⟨x10,ds,rfl⟩:=List.exists_cons_of_length_eq_add_one h
 replace h:=Nat.succ.inj h
 obtain ⟨x11,ds,rfl⟩:=List.exists_cons_of_length_eq_add_one h
 replace h:=Nat.succ.inj h
 obtain ⟨x12,ds,rfl⟩:=List.exists_cons_of_length_eq_add_one h
 replace h:=Nat.succ.inj h
 obtain ⟨x13,ds,rfl⟩:=List.exists_cons_of_length_eq_add_one h
 replace h:=Nat.succ.inj h
 obtain ⟨x14,ds,rfl⟩:=List.exists_cons_of_length_eq_add_one h
 replace h:=Nat.succ.inj h
 obtain ⟨x15,ds,rfl⟩:=List.exists_cons_of_length_eq_add_one h
 replace h:=Nat.succ.inj h
 obtain ⟨x16,ds,rfl⟩:=List.exists_cons_of_length_eq_add_one h
 replace h:=Nat.succ.inj h
 obtain ⟨x17,ds,rfl⟩:=List.exists_cons_of_length_eq_add_one h
 replace h:=Nat.succ.inj h
 obtain ⟨x18,ds,rfl⟩:=List.exists_cons_of_length_eq_add_one h
 replace h:=Nat.succ.inj h
 obtain ⟨x19,ds,rfl⟩:=List.exists_cons_of_length_eq_add_one h
 replace h:=Nat.succ.inj h
 obtain ⟨x20,ds,rfl⟩:=List.exists_cons_of_length_eq_add_one h
 replace h:=Nat.succ.inj h
 obtain ⟨x21,ds,rfl⟩:=List.exists_cons_of_length_eq_add_one h
 replace h:=Nat.succ.inj h
 obtain ⟨x22,ds,rfl⟩:=List.exists_cons_of_length_eq_add_one h
 replace h:=Nat.succ.inj h
 obtain ⟨x23,ds,rfl⟩:=List.exists_cons_of_length_eq_add_one h
 replace h:=Nat.succ.inj h
 obtain ⟨x24,ds,rfl⟩:=List.exists_cons_of_length_eq_add_one h
 replace h:=Nat.succ.inj h
 obtain ⟨x25,ds,rfl⟩:=List.exists_cons_of_length_eq_add_one h
 replace h:=Nat.succ.inj h
 obtain ⟨x26,ds,rfl⟩:=List.exists_cons_of_length_eq_add_one h
 replace h:=Nat.succ.inj h
 obtain ⟨x27,ds,rfl⟩:=List.exists_cons_of_length_eq_add_one h
 replace h:=Nat.succ.inj h
 obtain ⟨x28,ds,rfl⟩:=List.exists_cons_of_length_eq_add_one h
 replace h:=Nat.succ.inj h
 obtain ⟨x29,ds,rfl⟩:=List.exists_cons_of_length_eq_add_one h
 replace h:=Nat.succ.inj h
 obtain ⟨x30,ds,rfl⟩:=List.exists_cons_of_length_eq_add_one h
 replace h:=Nat.succ.inj h
 obtain ⟨x31,ds,rfl⟩:=List.exists_cons_of_length_eq_add_one h
 replace h:=Nat.succ.inj h
 obtain rfl:=List.eq_nil_of_length_eq_zero h
 exact ⟨x0,x1,x2,x3,x4,x5,x6,x7,x8,x9,x10,x11,x12,x13,x14,x15,x16,x17,x18,x19,x20,x21,x22,x23,x24,x25,x26,x27,x28,x29,x30,x31,rfl⟩
theorem slice47 (n:ByteArray) (ds:List Nat) (z:Int) (h:ds.length=32) (w:World):(Instr.buildSlice 138 1 #[(0,.agg (ecellsOf n ds z))]).run Tryz.prog w = .ok (.slice (some ⟨w.heap.size,0,none⟩) 1 1) (w.alloc (.cells (ecellsOf n ds z) 193)):=by
 obtain ⟨x0,x1,x2,x3,x4,x5,x6,x7,x8,x9,x10,x11,x12,x13,x14,x15,x16,x17,x18,x19,x20,x21,x22,x23,x24,x25,x26,x27,x28,x29,x30,x31,rfl⟩:=list32 ds h
 exact slice47_lit _ _ _ _ _ _ _ _ _ _ _ _ _ _ _ _ _ _ _ _ _ _ _ _ _ _ _ _ _ _ _ _ _ _ w
theorem ecellsOf_size (n:ByteArray) (ds:List Nat) (z:Int) (h:ds.length=32):(ecellsOf n ds z).size=34:=by simp [ecellsOf,cells8_size,h]
theorem ecellsOf_one (n:ByteArray) (ds:List Nat) (z:Int):∀ u∈(ecellsOf n ds z).toList,u.oneCell'=true:=by
 intro u hu
 simp only [ecellsOf,List.mem_cons,List.mem_append,List.not_mem_nil,or_false] at hu
 rcases hu with rfl|hu|rfl
 ·rfl
 ·have:=cells8_one ds
  rw [Array.all_eq_true_iff_forall_mem] at this
  exact this u (by simpa using hu)
 ·rfl
theorem leB_cases (a b:ByteArray):(leB a b=true∧Op.bytesLess a.toList b.toList=true)∨(leB a b=true∧Op.bytesLess a.toList b.toList=false∧a=b)∨(leB a b=false∧Op.bytesLess a.toList b.toList=false∧(¬ a.toList=b.toList)∧(a.toList == b.toList)=false):=by
 unfold leB
 cases h1:Op.bytesLess a.toList b.toList with
 | true=>left;simp
 | false =>
  by_cases h2:a.toList=b.toList
  ·right;left;exact ⟨by simp [h2],rfl,(toList_inj a b).1 h2⟩
  ·right;right;exact ⟨by simp [h2],rfl,h2,by simp [h2]⟩
theorem wpList_slice47 {ops:Array Oper} {rest:List Oper} {op:Oper} {a:Act} {w:World} {Q:Exit→Act→World→Prop} (hgd:op.guard=none) (x:Operand) (ho:op.op = .buildSlice 138 1 #[(0,x)])
  (n:ByteArray) (ds:List Nat) (k:Int) (hl:ds.length=32) (hx:a.eval x = .agg (ecellsOf n ds k))
  (h:wpList Tryz.prog ops Q rest (a.put op.dst (.slice (some ⟨w.heap.size,0,none⟩) 1 1)) (w.alloc (.cells (ecellsOf n ds k) 193))):wpList Tryz.prog ops Q (op::rest) a w :=
 wpList_plain hgd fun _ hK=>by
  have:=slice47 n ds k hl w
  unfold Oper.wp execOp
  simp only [ho,hx,List.map_toArray,List.map_cons,List.map_nil,Sem.run_bind,Sem.run_pure,this,Result.andThen_ok]
  exact hK _ _ h
end Go.Proofs.YtncigfibncmioaaGreatDoor
