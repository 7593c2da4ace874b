/-
  PROVED HERE: slices.Backward of a list of texts: it gives them from the last to the first, for every loop body that leaves the list's row and its box.
-/
import Derived.RangeFuncNested
import Derived.RangeFuncBound
import Derived.RangeFuncCalls
import Derived.RangeFuncLeaves
import Derived.RangeFuncBox
import Derived.Shelf.Abstract
import Derived.Shelf.RegionOpen
import Derived.OwnWalkIn
import Derived.TacticsInMore
import Derived.LoopNIn
import Derived.LoopIn
import Derived.Test.YtncigfibncmioaaGreatDoorStFit
import Derived.Test.YtncigfibncmioaaGreatDoorStTxt
namespace Go.Proofs.YtncigfibncmioaaGreatDoor
set_option maxHeartbeats 2000000
set_option maxRecDepth 100000
open Go.RowKit Go.Shelf
attribute [local go_sem] Oper.semAt_some
abbrev ST:={ p:ByteArray // p.size≤9223372036854775807 }
def bkL (f:Nat→ST) (len k:Nat):List (Nat × ST):=(List.range k).map fun j=>(len - 1 - j,f (len - 1 - j))
theorem bkL_succ (f:Nat→ST) (len k:Nat):bkL f len (k+1)=bkL f len k ++ [(len - 1 - k,f (len - 1 - k))]:=by simp [bkL,List.range_succ]
theorem bkL_len (f:Nat→ST) (len k:Nat):(bkL f len k).length=k:=by simp [bkL]
def Kp2 (g Bs:Nat) (A B:World):Prop:=B.heap[g]? = A.heap[g]?∧B.heap[Bs]? = A.heap[Bs]?
theorem kp2_t {g Bs:Nat} {A B C:World} (h:Kp2 g Bs A B) (k:Kp2 g Bs B C):Kp2 g Bs A C:=⟨k.1.trans h.1,k.2.trans h.2⟩
theorem bk1_in (F:Fence) (n:Nat) (hf:F.fn 227) (hro:F.round=none) (hn:1≤n) (l Bs g len cap:Nat) (oa:Option Addr) (f:Nat→ST) (hl:len≤100000000) (J Jx:List (Nat × ST)→World→Prop)
  (hY:∀ pre x W,J pre W→pre.length<len→YieldAt F (n - 1) Tryz.prog l #[.int .i64 (x.1:Int),.string x.2.1] W fun e W' =>
   (e = .returned (.bool true)∧J (pre ++ [x]) W'∧Kp2 g Bs W W')∨(e = .returned (.bool false)∧Jx (pre ++ [x]) W'))
  (W:World) (hBs:W.cell? ⟨Bs,0,none⟩=some (.slice oa len cap)) (hoa:0<len→oa=some ⟨g,0,none⟩) (hc:∀ j,j<len→W.cell? ⟨g,j,none⟩=some (.string (f j).1)) (h0:J [] W) :
  CallsIn F n Tryz.prog 227 #[.func (.yield l) #[] #[],.pointer (some ⟨Bs,0,none⟩)] W fun e W'=>(∃ v,e = .returned v) ∧
   ((∃ ys,ys=bkL f len len∧J ys W')∨(∃ pre,(∃ k,k≤len∧pre=bkL f len k)∧Jx pre W')):=by
 refine callsIn_of_wp Tryz.func227 rfl hf ?_ hro
 simp only [Tryz.ntmps227,List.size_toArray,List.length_cons,List.length_nil,Nat.reduceAdd,Nat.reduceSub,Array.replicate_succ,Array.replicate_zero,List.push_toArray,List.append_toArray,List.nil_append,List.cons_append]
 have hw0:Go.RowKit.wrap64 (((len:Nat):Int) - 1)=((len:Nat):Int) - 1:=by unfold Go.RowKit.wrap64;omega
 gi_wp2
 gi_loopw [3] (fun i wr=>∃ k:Nat,k≤len∧i = .int .i64 ((len:Int) - 1 - (k:Int))∧J (bkL f len k) wr∧Kp2 g Bs W wr) (fun i _=>(intOf i+1).toNat)
 case atStart=>exact ⟨0,Nat.zero_le _,by first|(rw [hw0];simp)|simp,h0,rfl,rfl⟩
 case round =>
  obtain ⟨k,hk,rfl,hJs,hnx⟩:=hrel
  have hBx:wr.cell? ⟨Bs,0,none⟩=some (.slice oa len cap):=(World.cell?_of_block (a:=⟨Bs,0,none⟩) hnx.2).trans hBs
  by_cases hlt:k<len
  ·obtain ⟨m,hm⟩ : ∃ m:Nat,(len:Int) - 1 - (k:Int)=(m:Int):=⟨len - 1 - k,by omega⟩
   have hm2:m=len - 1 - k:=by omega
   have hml:m<len:=by omega
   have hoa2:=hoa (by omega)
   subst hoa2
   have hcx:wr.cell? ⟨g,m,none⟩=some (.string (f m).1):=(World.cell?_of_block (a:=⟨g,m,none⟩) hnx.1).trans (hc m hml)
   have hwm:Go.RowKit.wrap64 (((m:Nat):Int) - 1)=((m:Nat):Int) - 1:=by unfold Go.RowKit.wrap64;omega
   have d1:decide ((0:Int)≤((m:Nat):Int))=true:=decide_eq_true (by omega)
   obtain ⟨fn,tmps,assign,body,hy,hR⟩:=hY _ (m,f m) wr hJs (by rw [bkL_len];exact hlt)
   dsimp only at hy
   rw [hm]
   have HNX:=hide hnx
   have HM:=hide hm
   have HM2:=hide hm2
   clear hnx hm hm2
   gi_wp2
   refine hR.mono ?_
   rintro e W3 (⟨rfl,hJ3,hk3⟩|⟨rfl,hJx3⟩)
   ·gi_wp2
    go_roundw
    case rel =>
     refine ⟨k+1,hlt,?_,?_,kp2_t HNX.out hk3⟩
     ·have:=HM.out
      first|(rw [hwm];congr 1;omega)|(congr 1;omega)
     ·rw [bkL_succ,← HM2.out];exact hJ3
    case measure =>
     have:=HM.out
     simp only [intOf]
     first|omega|(rw [hwm];omega)
   ·gi_wp2
    refine bodyPost_ret (results_none rfl _ _ _) rfl ?_
    exact ⟨⟨_,rfl⟩,.inr ⟨_,⟨k+1,hlt,by rw [bkL_succ,← HM2.out]⟩,hJx3⟩⟩
  ·obtain rfl:k=len:=by omega
   have d1:decide ((0:Int)≤(k:Int) - 1 - (k:Int))=false:=decide_eq_false (by omega)
   have HJ:=hide hJs
   clear hJs
   gi_wp2
   go_end0
   exact ⟨⟨_,rfl⟩,.inl ⟨_,rfl,HJ.out⟩⟩
set_option maxHeartbeats 4000000
set_option maxRecDepth 100000
open Go.RowKit Go.Shelf
attribute [local go_sem] Oper.semAt_some
theorem bk_in (F:Fence) (n:Nat) (hf:F.fn 186) (hro:F.round=none) (a:Option Addr) (len cap:Nat) (w:World) :
  CallsIn F n Tryz.prog 186 #[.slice a len cap] w fun e w'=>e = .returned (.func (.func 227) #[] #[.pointer (some ⟨w.heap.size,0,none⟩)])∧w'=w.alloc (.cells #[.slice a len cap] 53):=by
 refine callsIn_of_wp Tryz.func186 rfl hf ?_ hro
 simp only [Tryz.ntmps186,List.size_toArray,List.length_cons,List.length_nil,Nat.reduceAdd,Nat.reduceSub,Array.replicate_succ,Array.replicate_zero,List.push_toArray,List.append_toArray,List.nil_append,List.cons_append]
 gi_wp2
 go_ret
 exact ⟨rfl,rfl⟩
theorem bk_stops (F:Fence) (n:Nat) (hf:F.fn 227) (hro:F.round=none) (hn:1≤n) (Bs g len cap:Nat) (oa:Option Addr) (f:Nat→ST) (hl:len≤100000000) (w:World) (hBs:w.cell? ⟨Bs,0,none⟩=some (.slice oa len cap)) (hoa:0<len→oa=some ⟨g,0,none⟩) (hc:∀ j,j<len→w.cell? ⟨g,j,none⟩=some (.string (f j).1)) :
  SeqStopsK F n Tryz.prog 227 #[.pointer (some ⟨Bs,0,none⟩)] (fun x:Nat × ST=>#[Value.int .i64 (x.1:Int),Value.string x.2.1]) (Kp2 g Bs) (fun ys=>ys=bkL f len len) (fun pre=>∃ k,k≤len∧pre=bkL f len k) len w:=fun l J Jx W hW _ _ hY h0 =>
 bk1_in F n hf hro hn l Bs g len cap oa f hl J Jx hY W (cell_later hW hBs) hoa (fun j hj=>cell_later hW (hc j hj)) h0
def rmP (such:ByteArray→Bool) (pre:List (Nat × ST)):List Stp:=(pre.filter fun x=>such x.2.1).map fun x=>sRm x.2.1
theorem rmP_hit (such:ByteArray→Bool) (pre:List (Nat × ST)) {x:Nat × ST} (h:such x.2.1=true):rmP such (pre ++ [x])=rmP such pre ++ [sRm x.2.1]:=by simp [rmP,h]
theorem rmP_miss (such:ByteArray→Bool) (pre:List (Nat × ST)) {x:Nat × ST} (h:such x.2.1=false):rmP such (pre ++ [x])=rmP such pre:=by simp [rmP,h]
theorem PSt.In.kinds {s:PSt} {w:World} (h:s.In w) {k:Nat} (hk:s.own k):k=s.mb∨k=s.lb∨∃ cur T fr,w.heap[k]? = some (.cells cur T fr):=by
 rcases hk with rfl|e|e|e|e|⟨f,hf,e⟩
 ·exact .inr (.inr ⟨_,_,_,h.is.blk⟩)
 ·exact .inl e
 ·exact .inr (.inl e)
 ·obtain ⟨c,hc⟩:=own_obj h.is.chg k e;exact .inr (.inr ⟨_,_,_,hc⟩)
 ·exact .inr (.inr ⟨_,_,_,(h.fds k e).blk⟩)
 ·obtain ⟨c,hc⟩:=own_obj (h.fds f hf).row k e;exact .inr (.inr ⟨_,_,_,hc⟩)
theorem PGo.turned {s s1:PSt} {w A B:World} {row:Option Nat} {n0:Nat} (h:PGo s s1 w A) (hm:s1.mb<n0) (hl:s1.lb<n0) (hw:w.heap.size≤n0) (hg:A.grownBy B row) (hr:∀ r,row=some r→n0≤r∧∃ o:Obj,A.heap[r]? = some o∧o.isCells=false):PGo s s1 w B:=by
 refine ⟨h.b,h.inn.same (fun k hk=>hg.block k (h.inn.lt hk) (fun e=>?_)),⟨hg.os.trans h.gr.os,hg.tape.trans h.gr.tape,hg.output.trans h.gr.output,Nat.le_trans h.gr.size hg.size,fun k hk hn=>(hg.block k (Nat.lt_of_lt_of_le hk h.gr.size) (fun e=>?_)).trans (h.gr.block k hk hn)⟩,h.own⟩
 ·obtain ⟨h1,o,h2,h3⟩:=hr k e.symm
  rcases h.inn.kinds hk with e1|e1|⟨cur,T,fr,h4⟩
  ·omega
  ·omega
  ·rw [h4] at h2
   cases h2
   cases h3
 ·have:=(hr k e.symm).1
  omega
structure RV (w:World) (gs gf ge sb:Nat) (fv ev:Value):Prop where
 s:w.heap[gs]? = some (.cells #[.pointer (some ⟨sb,0,none⟩)] 92 (0,0))
 f:w.heap[gf]? = some (.cells #[fv] 114 (0,0))
 e:w.heap[ge]? = some (.cells #[ev] 94 (0,0))
theorem RV.turned {A B:World} {gs gf ge sb:Nat} {fv ev:Value} {row:Option Nat} (h:RV A gs gf ge sb fv ev) (hg:A.grownBy B row) (hr:∀ r,row=some r→∃ o:Obj,A.heap[r]? = some o∧o.isCells=false):RV B gs gf ge sb fv ev:=by
 have key:∀ (k:Nat) (cur:Array Value) (T:TypeId),A.heap[k]? = some (.cells cur T (0,0))→B.heap[k]? = some (.cells cur T (0,0)):=fun k cur T hc=>(hg.block k (lt_heap hc) (fun e=>by
  obtain ⟨o,h2,h3⟩:=hr k e.symm
  rw [hc] at h2
  cases h2
  cases h3)).trans hc
 exact ⟨key _ _ _ h.s,key _ _ _ h.f,key _ _ _ h.e⟩
theorem RV.later {w w':World} {gs gf ge sb:Nat} {fv ev:Value} (h:RV w gs gf ge sb fv ev) (hb:Below w.heap.size w w'):RV w' gs gf ge sb fv ev :=
 ⟨(hb.block _ (lt_of_row h.s)).trans h.s,(hb.block _ (lt_of_row h.f)).trans h.f,(hb.block _ (lt_of_row h.e)).trans h.e⟩
theorem RV.go {w w':World} {gs gf ge sb:Nat} {fv ev:Value} {s s':PSt} (h:RV w gs gf ge sb fv ev) (hi:s.In w) (hg:PGo s s' w w'):RV w' gs gf ge sb fv ev :=
 ⟨hg.keeps hi h.s (by decide) (by decide) (by decide) (by decide),hg.keeps hi h.f (by decide) (by decide) (by decide) (by decide),hg.keeps hi h.e (by decide) (by decide) (by decide) (by decide)⟩
theorem RV.setE {w:World} {gs gf ge sb:Nat} {fv ev:Value} (h:RV w gs gf ge sb fv ev) (ev':Value):RV (w.setCell ⟨ge,0,none⟩ ev') gs gf ge sb fv ev' :=
 ⟨(heap_setCell_other _ _ _ _ (by simpa using type_ne h.s h.e (by decide))).trans h.s,(heap_setCell_other _ _ _ _ (by simpa using type_ne h.f h.e (by decide))).trans h.f,by rw [heap_setCell_same _ ge 0 _ _ _ h.e];rfl⟩
theorem kp2_put {g Bs l:Nat} {W:World} {o':Obj} (h1:g≠l) (h2:Bs≠l):Kp2 g Bs W (W.putObj l o'):=⟨World.putObj_heap_other h1,World.putObj_heap_other h2⟩
def RI (s:PSt) (such:ByteArray→Bool) (w w3:World) (g Bs gs gf ge sb K:Nat) (pre:List (Nat × ST)) (W:World):Prop :=
 ∃ s1 m,PGo s s1 w W∧s1.mb=s.mb∧s1.lb=s.lb∧Ran s.ds (rmP such pre) 0 m s1.ds∧RV W gs gf ge sb (.func (.func K) #[] #[]) .nilIface∧Kp2 g Bs w3 W∧w3.heap.size≤W.heap.size
def RX (s:PSt) (such:ByteArray→Bool) (w:World) (gs gf ge sb K:Nat) (c:Code) (pre:List (Nat × ST)) (W:World):Prop :=
 c=Code.ret∧∃ s1 m k sv nm,k≠0∧PGo s s1 w W∧s1.mb=s.mb∧s1.lb=s.lb∧Ran s.ds (rmP such pre) k m s1.ds∧RV W gs gf ge sb (.func (.func K) #[] #[]) (.iface 165 (.pointer (some ⟨sv,0,none⟩)))∧W.heap[sv]? = some (.cells #[.string nm,refV k] 167 (0,0))
theorem ri_own {s:PSt} {such:ByteArray→Bool} {w w3:World} {g Bs gs gf ge sb K:Nat} (hm:s.mb<w3.heap.size) (hl:s.lb<w3.heap.size) (hw:w.heap.size≤w3.heap.size) (hg:g<w3.heap.size) (hB:Bs<w3.heap.size):OwnFrom w3.heap.size (RI s such w w3 g Bs gs gf ge sb K):=by
 rintro pre A B row ⟨s1,m,h1,h2,h3,h4,h5,h6,h7⟩ hgr hr
 have key:∀ k,k<w3.heap.size→B.heap[k]? = A.heap[k]?:=fun k hk=>hgr.block k (by omega) (fun e=>by have:=(hr k e.symm).1;omega)
 exact ⟨s1,m,h1.turned (by rw [h2];exact hm) (by rw [h3];exact hl) hw hgr hr,h2,h3,h4,h5.turned hgr (fun r e=>(hr r e).2),kp2_t h6 ⟨key g hg,key Bs hB⟩,Nat.le_trans h7 hgr.size⟩
theorem rx_own {s:PSt} {such:ByteArray→Bool} {w w3:World} {gs gf ge sb K:Nat} (hm:s.mb<w3.heap.size) (hl:s.lb<w3.heap.size) (hw:w.heap.size≤w3.heap.size) (c:Code):OwnFrom w3.heap.size (RX s such w gs gf ge sb K c):=by
 rintro pre A B row ⟨hc,s1,m,k,sv,nm,hk,h1,h2,h3,h4,h5,h6⟩ hgr hr
 refine ⟨hc,s1,m,k,sv,nm,hk,h1.turned (by rw [h2];exact hm) (by rw [h3];exact hl) hw hgr hr,h2,h3,h4,h5.turned hgr (fun r e=>(hr r e).2),?_⟩
 exact (hgr.block sv (lt_heap h6) (fun e=>by
  obtain ⟨o,x2,x3⟩:=(hr sv e.symm).2
  rw [h6] at x2
  cases x2
  cases x3)).trans h6
theorem keeps_round {s1 s2:PSt} {B:Nat} {W W1 W2:World} (hb:Below W.heap.size W W1) (hg:PGo s1 s2 W1 W2) (hi:s1.In W1) (hm:s1.mb<B) (hl:s1.lb<B):KeepsFrom B W W2 :=
 ⟨Nat.le_trans hb.size hg.gr.size,fun k o hB hk ho=>by
  have h1:W1.heap[k]? = some o:=(hb.block k (lt_heap hk)).trans hk
  refine (hg.gr.block k (lt_heap h1) (fun hown=>?_)).trans h1
  rcases hi.kinds hown with e|e|⟨cur,T,fr,h2⟩
  ·omega
  ·omega
  ·rw [h2] at h1
   cases h1
   cases ho⟩
theorem rmP_len (such:ByteArray→Bool) (pre:List (Nat × ST)):(rmP such pre).length≤pre.length:=by
 simp only [rmP,List.length_map]
 exact List.length_filter_le _ _
theorem rmP_szs (such:ByteArray→Bool) (pre:List (Nat × ST)):szs (rmP such pre)=0:=by
 unfold szs rmP
 induction pre with
 | nil=>rfl
 | cons x l ih =>
  simp only [List.filter_cons]
  split
  ·simp only [List.map_cons,List.sum_cons]
   exact Nat.add_eq_zero_iff.2 ⟨rfl,ih⟩
  ·exact ih
theorem getDE {l:List DE} {j:Nat} (h:j<l.length):l.getD j DE0=l[j]:=by simp [List.getD,List.getElem?_eq_getElem h]
def stT (p:ByteArray):ST:=if h:p.size≤9223372036854775807 then ⟨p,h⟩ else ⟨⟨#[]⟩,by decide⟩
theorem stT_val {p:ByteArray} (h:p.size≤9223372036854775807):(stT p).1=p:=by unfold stT;split<;>first|rfl|contradiction
def rmS (such:ByteArray→Bool) (now:List DE):List Stp:=((now.map DE.path).reverse.filter such).map sRm
theorem rmP_all (such:ByteArray→Bool) (now:List DE) (hp:∀ e∈now,e.path.size≤9223372036854775807):rmP such (bkL (fun m=>stT (now.getD m DE0).path) now.length now.length)=rmS such now:=by
 have h:(bkL (fun m=>stT (now.getD m DE0).path) now.length now.length).map (fun x=>x.2.1)=(now.map DE.path).reverse:=by
  apply List.ext_getElem
  ·simp [bkL]
  ·intro i h1 h2
   simp only [bkL,List.length_map,List.length_range] at h1
   have h3:now.length - 1 - i<now.length:=by omega
   simp only [bkL,List.getElem_map,List.getElem_range,List.getElem_reverse,List.length_map]
   rw [getDE h3]
   exact stT_val (hp _ (List.getElem_mem h3))
 unfold rmS rmP
 rw [← h,List.filter_map,List.map_map]
 rfl
theorem grown_put (W:World) (D:Nat) (o:Obj):W.grownBy (W.putObj D o) (some D):=⟨rfl,rfl,rfl,by simp [World.putObj],fun k _ hk=>World.putObj_heap_other (fun e=>hk (by rw [e]))⟩
theorem rmP_app (such:ByteArray→Bool) (a b:List (Nat × ST)):rmP such (a++b)=rmP such a++rmP such b:=by simp [rmP]
theorem bkL_cut (f:Nat→ST) (len:Nat) {k:Nat} (h:k≤len):bkL f len len=bkL f len k++(bkL f len len).drop k:=by
 have:bkL f len k=(bkL f len len).take k:=by
  unfold bkL
  rw [← List.map_take,List.take_range,Nat.min_eq_left h]
 rw [this,List.take_append_drop]
theorem keeps_cell {B b i:Nat} {W:World} {cur:Array Value} {T:TypeId} {v:Value} (h:W.heap[b]? = some (.cells cur T (0,0))):KeepsFrom B W (W.setCell ⟨b,i,none⟩ v) :=
 ⟨by simp,fun k o _ hk ho=>(heap_setCell_other _ _ _ _ (fun e=>by
  have e:k=b:=e
  subst e
  rw [h] at hk
  cases hk
  cases ho)).trans hk⟩
theorem removeAll_any (sb:Nat) (s:PSt) (K:Nat) (such:ByteArray→Bool) (w:World) {L C B:Nat} (h:On w sb s) (hf:DFit s.ds L C B) (hb:Bud (L+s.R.now.length) (C+s.R.now.length) B)
  (hcf:∀ (args:Array Value) (w:World),(callFunc K args).run Tryz.prog w = .ok (.enter K args) w) (hps:∀ e∈s.R.now,e.path.size≤9223372036854775807) (hsu:∀ p W,Calls Tryz.prog K #[.string p] W fun e W'=>e = .returned (.bool (such p))∧Below W.heap.size W W') :
  Calls Tryz.prog 136 #[.pointer (some ⟨sb,0,none⟩),.func (.func K) #[] #[]] w fun e w'=>∃ ev k m s',e = .returned ev∧ErrV w' ev k∧PGo s s' w w'∧Ran s.ds (rmS such s.R.now) k m s'.ds:=by
 have H:=hide h
 have HF:=hide hf
 have HB:=hide hb
 have hlen:s.R.now.length≤100000000:=by have:=hf.nowLen;have:=hb.1;exact Nat.le_trans hf.nowLen (by omega)
 have hb3:=three_below w (.cells #[.pointer (some ⟨sb,0,none⟩)] 92) (.cells #[.func (.func K) #[] #[]] 114) (.cells #[.nilIface] 94)
 have k0:=three0 w #[.pointer (some ⟨sb,0,none⟩)] 92 (.cells #[.func (.func K) #[] #[]] 114) (.cells #[.nilIface] 94)
 have k1:=three1 w (.cells #[.pointer (some ⟨sb,0,none⟩)] 92) #[.func (.func K) #[] #[]] 114 (.cells #[.nilIface] 94)
 have k2:=three2 w (.cells #[.pointer (some ⟨sb,0,none⟩)] 92) (.cells #[.func (.func K) #[] #[]] 114) #[.nilIface] 94
 obtain ⟨cv,tv,hbl⟩:=(h.sb.later hb3)
 have c0:=cell_of_row _ _ 0 _ _ _ hbl
 have HLS:=hide (plist_any s.b s.R s.mb s.lb s.cv _ (h.inn.later hb3).is hlen)
 have HB3:=hide hb3
 have HK0:=hide k0
 have HK1:=hide k1
 have HK2:=hide k2
 clear h hf hb hb3 k0 k1 k2 hbl
 have f1:Fence.wide.fn 54:=trivial
 have f2:Fence.wide.fn 186:=trivial
 refine (callsIn_wide (n:=5)).1 ?_
 refine callsIn_of_wp_marks Tryz.func136 rfl trivial ?_ rfl
 simp only [Tryz.ntmps136,List.size_toArray,List.length_cons,List.length_nil,Nat.reduceAdd,Nat.reduceSub,Array.replicate_succ,Array.replicate_zero,List.push_toArray,List.append_toArray,List.nil_append,List.cons_append]
 gi_wp2_with fail
 refine (callsIn_wide.2 HLS.out).mono ?_
 rintro _ w2 ⟨v,rfl,hrow,hb2⟩
 dsimp only
 obtain ⟨ov,cp,hv⟩:=own_sl hrow
 subst hv
 have HROW:=hide hrow
 have HB2:=hide (HB3.out.trans (hb2.mono HB3.out.size))
 have hrv2:RV w2 w.heap.size (w.heap.size+1) (w.heap.size+1+1) sb (.func (.func K) #[] #[]) .nilIface:=RV.later ⟨HK0.out,HK1.out,HK2.out⟩ hb2
 have HRV2:=hide hrv2
 clear hrow hb2 hrv2 c0 HLS
 gi_wp2_with fail
 refine (bk_in _ _ f2 rfl _ _ _ _).mono ?_
 rintro _ w3 ⟨rfl,rfl⟩
 dsimp only
 gi_wp2_with fail
 obtain ⟨g,hg0⟩ : ∃ g:Nat,(0<s.R.now.length→ov=some ⟨g,0,none⟩)∧g<w2.heap.size∧(0<s.R.now.length→∃ cur,w2.heap[g]? = some (.cells cur 9 (0,0)))∧∀ j,j<s.R.now.length→w2.cell? ⟨g,j,none⟩=some (.string (stT (s.R.now.getD j DE0).path).1):=by
  obtain ⟨o,cc,hv,hk⟩:=own_str HROW.out
  injection hv with hv1 hv2 hv3
  subst hv1
  by_cases h0:0<s.R.now.length
  ·obtain ⟨g,hg1,hg2⟩:=hk 0 h0
   refine ⟨g,fun _=>hg1,World.block_lt_of_cell? _ _ hg2,fun _=>own_obj HROW.out g (by rw [hg1];rfl),fun j hj=>?_⟩
   obtain ⟨g',e1,e2⟩:=hk j hj
   rw [hg1] at e1
   injection e1 with e1
   injection e1 with e1
   rw [e1,stT_val (by rw [getDE hj];exact hps _ (List.getElem_mem hj))]
   exact e2
  ·exact ⟨w.heap.size,fun h=>absurd h h0,lt_of_row HRV2.out.s,fun h=>absurd h h0,fun j hj=>absurd (Nat.lt_of_le_of_lt (Nat.zero_le _) hj) h0⟩
 obtain ⟨hov,hgl,hgr,hgc⟩:=hg0
 have hmb:s.mb<w.heap.size:=H.out.inn.lt (.inr (.inl rfl))
 have hlb:s.lb<w.heap.size:=H.out.inn.lt (.inr (.inr (.inl rfl)))
 obtain ⟨w3,hw3⟩ : ∃ w3,w3=w2.alloc (.cells #[.slice ov s.R.now.length cp] 53):=⟨_,rfl⟩
 have hsz3:w3.heap.size=w2.heap.size+1:=by rw [hw3,size_alloc]
 have hb3:Below w2.heap.size w2 w3:=by rw [hw3];exact (Below.refl _ _).alloc (Nat.le_refl _) _
 have hbs3:w3.heap[w2.heap.size]? = some (.cells #[.slice ov s.R.now.length cp] 53 (0,0)):=by rw [hw3];exact heap_alloc_new _ _
 have hsz2:=HB2.out.size
 rw [← hw3]
 refine wpIn_rangeFunc_ownG (F:=Fence.wide) (n:=5) rfl (by decide) (gf:=227) (lb:=#[.pointer (some ⟨w2.heap.size,0,none⟩)]) rfl trivial (enters_of Tryz.func227 (by kernel_rfl) rfl)
  (bk_stops Fence.wide 4 trivial rfl (by decide) w2.heap.size g s.R.now.length cp ov (fun m=>stT (s.R.now.getD m DE0).path) hlen w3 (cell_of_row _ _ 0 _ _ _ hbs3) hov (fun j hj=>cell_later hb3 (hgc j hj)))
  kp2_t (fun W l o o' hl _ _ _=>kp2_put (by omega) (by omega)) (Below.refl _ _) (fun _=>rfl)
  (RI s such w w3 g w2.heap.size w.heap.size (w.heap.size+1) (w.heap.size+1+1) sb K) (RX s such w w.heap.size (w.heap.size+1) (w.heap.size+1+1) sb K)
  (ri_own (by omega) (by omega) (by omega) (by omega) (by omega)) (rx_own (by omega) (by omega) (by omega))
  ⟨s,0,PGo.refl H.out.inn (HB2.out.trans (hb3.mono HB2.out.size)),rfl,rfl,⟨rfl,rfl,rfl⟩,HRV2.out.later hb3,⟨rfl,rfl⟩,Nat.le_refl _⟩
  (fun x=>{ tmps:=#[.pointer (some ⟨sb,0,none⟩),.func (.func K) #[] #[],.pointer (some ⟨w.heap.size,0,none⟩),.pointer (some ⟨w.heap.size+1,0,none⟩),.pointer (some ⟨w.heap.size+1+1,0,none⟩),undef,.string x.2.1,undef,.pointer (some ⟨sb,0,none⟩),.pointer (some ⟨sb,0,none⟩),.pointer (some ⟨sb,0,none⟩),.pointer (some ⟨s.b,0,none⟩),.slice ov s.R.now.length cp,.func (.func 227) #[] #[.pointer (some ⟨w2.heap.size,0,none⟩)],.int .i64 (x.1:Int),.string x.2.1,undef,undef,undef,undef,undef,undef,undef,undef,undef,undef,undef,undef,undef],defers:=[] }) ?assign ?body ?done ?stop
 case assign =>
  intro l x W Kk hK
  gi_wp2
  exact hK
 case body =>
  have HBX:=hide hb3
  have HBS:=hide hbs3
  have HSZ:=hide hsz3
  clear hw3 hb3 hbs3 hsz3
  rintro l pre ⟨xi,xp,hxp⟩ W ⟨s1,m,h1,h2,h3,h4,h5,h6,h7⟩ hlt
  obtain ⟨gcur,hgr1⟩:=hgr (by omega)
  have hf1:DFit s1.ds (L+s.R.now.length) (C+s.R.now.length) B:=by
   have hl1:=rmP_len such pre
   have hl2:=rmP_szs such pre
   exact (HF.out.ran h4).mono (by omega) (by omega) (by omega)
  have hon1:On W sb s1:=H.out.go h1
  have cs:=cell_of_row _ _ 0 _ _ _ h5.s
  have cf:=cell_of_row _ _ 0 _ _ _ h5.f
  obtain ⟨cv1,tv1,hbl1⟩:=hon1.sb
  have c1:=cell_of_row _ _ 0 _ _ _ hbl1
  have HSU:=hide (CallsIn.inRound l ((callsIn_wide (n:=2)).2 (hsu xp W)))
  have HLT:=hide hlt
  have H1:=hide h1
  have H5:=hide h5
  have H6:=hide h6
  have H4:=hide h4
  clear h1 h5 h6 h4 hlt hbl1
  gi_wp2_with fail
  refine ⟨trivial,HSU.out.mono ?_⟩
  rintro _ W1 ⟨rfl,hb1⟩
  dsimp only
  cases hsx:such xp
  ·gi_wp2
   refine ⟨⟨hb1.size,fun k o _ hk _=>(hb1.block k (lt_heap hk)).trans hk⟩,⟨hb1.block _ (by have:=HSZ.out;omega),hb1.block _ (by have:=HSZ.out;omega)⟩,s1,m,H1.out.trans (PGo.refl H1.out.inn hb1),h2,h3,?_,H5.out.later hb1,kp2_t H6.out ⟨hb1.block _ (by have:=HSZ.out;omega),hb1.block _ (by have:=HSZ.out;omega)⟩,Nat.le_trans h7 hb1.size⟩
   rw [rmP_miss such pre (x:=(xi,⟨xp,hxp⟩)) hsx]
   exact H4.out
  ·have hs1:=cell_later hb1 cs
   have hs2:=cell_later hb1 c1
   have hi1:s1.In W1:=H1.out.inn.later hb1
   have HRM:=hide (CallsIn.inRound l ((callsIn_wide (n:=2)).2 (dkRemoveM s1 xp W1 hi1 hf1 HB.out hxp)))
   have HV:=hide (H5.out.later hb1)
   have HB1:=hide hb1
   have HI1:=hide hi1
   clear hb1 hi1 cs c1
   gi_wp2_with fail
   refine ⟨trivial,HRM.out.mono ?_⟩
   rintro _ W2 ⟨v,k,s2,rfl,hev,hgo,hkd,hm2,hl2⟩
   dsimp only
   have hgo2:=H1.out.trans ((PGo.refl H1.out.inn HB1.out).trans hgo)
   have hkeep:=keeps_round HB1.out hgo HI1.out (show s1.mb<w3.heap.size by have:=HSZ.out;omega) (show s1.lb<w3.heap.size by have:=HSZ.out;omega)
   have hst:stR s1.ds (sRm xp) k s2.ds:=hkd
   have hr2:=Ran.app H4.out (Ran.one hst)
   rw [← rmP_hit such pre (x:=(xi,⟨xp,hxp⟩)) hsx] at hr2
   have HV2:=hide (HV.out.go HI1.out hgo)
   have HGO2:=hide hgo2
   have HKE:=hide hkeep
   have HR2:=hide hr2
   have hkg:W.heap[g]? = some (.cells gcur 9 (0,0)):=H6.out.1.trans ((HBX.out.block g hgl).trans hgr1)
   have hkb:W.heap[w2.heap.size]? = some (.cells #[.slice ov s.R.now.length cp] 53 (0,0)):=H6.out.2.trans HBS.out
   have HK2:Hid (Kp2 g w2.heap.size W W2):=hide ⟨(hgo.keeps HI1.out ((HB1.out.block g (lt_heap hkg)).trans hkg) (by decide) (by decide) (by decide) (by decide)).trans hkg.symm,(hgo.keeps HI1.out ((HB1.out.block _ (lt_heap hkb)).trans hkb) (by decide) (by decide) (by decide) (by decide)).trans hkb.symm⟩
   clear hkg hkb
   clear hgo hkd hgo2 hkeep hst hr2
   rcases hev with ⟨rfl,rfl⟩|⟨hk0,hev⟩
   ·gi_wp2
    exact ⟨HKE.out,HK2.out,s2,_,HGO2.out,hm2.trans h2,hl2.trans h3,HR2.out,HV2.out,kp2_t H6.out HK2.out,Nat.le_trans h7 HKE.out.1⟩
   ·obtain ⟨sv,nm,rfl,hsv⟩:=hev
    have HSV:=hide hsv
    have ce:=cell_of_row _ _ 0 _ _ _ HV2.out.e
    have fe:=frozen_of_row _ _ 0 _ _ HV2.out.e
    clear hsv
    gi_wp2
    refine ⟨HKE.out.trans (keeps_cell HV2.out.e),rfl,s2,_,k,sv,nm,hk0,HGO2.out.setNew (by omega) HV2.out.e (by decide) (by decide) (by decide) (by decide),hm2.trans h2,hl2.trans h3,HR2.out,HV2.out.setE _,?_⟩
    exact (heap_setCell_other _ _ _ _ (by simpa using type_ne HSV.out HV2.out.e (by decide))).trans HSV.out
 case done =>
  rintro D ys W hD rfl ⟨s1,m,h1,h2,h3,h4,h5,h6,h7⟩ hK
  have ce:=cell_of_row _ _ 0 _ _ _ h5.e
  have fe:=frozen_of_row _ _ 0 _ _ h5.e
  rw [rmP_all such s.R.now hps] at h4
  gi_wp2
  have hne:D≠w.heap.size+1+1:=fun e=>by
   rw [e,h5.e] at hK
   cases hK
  have hK4:(W.setCell ⟨w.heap.size+1+1,0,none⟩ .nilIface).heap[D]? = some (.deferred (some [])):=(heap_setCell_other _ _ _ _ hne).trans hK
  refine ⟨by simp,.inl ⟨_,_,rfl,run_takeDeferred hK4,?_⟩⟩
  have h5':=h5.setE .nilIface
  have hc5:((W.setCell ⟨w.heap.size+1+1,0,none⟩ .nilIface).putObj D (.deferred none)).cell? ⟨w.heap.size+1+1,0,none⟩=some .nilIface :=
   (World.cell?_of_block (World.putObj_heap_other (k:=w.heap.size+1+1) (fun e=>hne e.symm))).trans (cell_of_row _ _ 0 _ _ _ h5'.e)
  refine ⟨.nilIface,?_,.nilIface,0,m,s1,rfl,.inl ⟨rfl,rfl⟩,?_,h4⟩
  ·simp [results,Tryz.f136,go_sem,hc5]
  ·exact (h1.setNew (by omega) h5.e (by decide) (by decide) (by decide) (by decide)).turned (n0:=w3.heap.size) (by omega) (by omega) (by omega) (grown_put _ _ _) (fun r e=>by
    injection e with e
    subst e
    exact ⟨hD,_,hK4,rfl⟩)
 case stop =>
  rintro D c pre W hD ⟨k0,hk0,rfl⟩ ⟨rfl,s1,m,k,sv,nm,hk,h1,h2,h3,h4,h5,h6⟩ hK
  have ce:=cell_of_row _ _ 0 _ _ _ h5.e
  gi_wp2
  have hne:D≠w.heap.size+1+1:=fun e=>by
   rw [e,h5.e] at hK
   cases hK
  have hne2:D≠sv:=fun e=>by
   rw [e,h6] at hK
   cases hK
  refine ⟨by simp,.inl ⟨_,_,rfl,run_takeDeferred hK,?_⟩⟩
  have hc5:(W.putObj D (.deferred none)).cell? ⟨w.heap.size+1+1,0,none⟩=some (.iface 165 (.pointer (some ⟨sv,0,none⟩))) :=
   (World.cell?_of_block (World.putObj_heap_other (k:=w.heap.size+1+1) (fun e=>hne e.symm))).trans (cell_of_row _ _ 0 _ _ _ h5.e)
  refine ⟨_,?_,_,k,m,s1,rfl,.inr ⟨hk,sv,nm,rfl,(World.putObj_heap_other (fun e=>hne2 e.symm)).trans h6⟩,?_,?_⟩
  ·simp [results,Tryz.f136,go_sem,hc5]
  ·exact h1.turned (n0:=w3.heap.size) (by omega) (by omega) (by omega) (grown_put _ _ _) (fun r e=>by
    injection e with e
    subst e
    exact ⟨hD,_,hK,rfl⟩)
  ·rw [← rmP_all such s.R.now hps,bkL_cut _ _ hk0,rmP_app]
   exact h4.stop _ hk
set_option maxHeartbeats 2000000
set_option maxRecDepth 100000
open Go.RowKit
def emptyT:ByteArray:=⟨(prTo [] 0 ++ [93,125]).toArray⟩
def layoutT:ByteArray:=⟨#[123,34,118,101,114,115,105,111,110,34,58,49,125]⟩
def beginFl:List (ByteArray × ByteArray):=[(journalP,⟨#[]⟩),(indexP,emptyT),(layoutP,layoutT)]
def BgR (D:DS) (k:Int) (D':DS):Prop :=
 (D.R.room<36∧k≠0∧D'=D)∨(36≤D.R.room∧∃ k1 m D1,Ran D (rmS (fun _=>true) D.R.now) k1 m D1∧((k1≠0∧k=k1∧D'=D1)∨(k1=0∧WrR D1 beginFl k D')))
def beginRow:Array Value:=#[.string ⟨#[106,111,117,114,110,97,108]⟩,.string ⟨#[]⟩,.string ⟨#[105,110,100,101,120]⟩,.string emptyT,.string ⟨#[108,97,121,111,117,116]⟩,.string ⟨#[123,34,118,101,114,115,105,111,110,34,58,49,125]⟩]
theorem beginFl_at (w:World):FlAt (w.alloc (.cells beginRow 222)) (.slice (some ⟨w.heap.size,0,none⟩) 3 3) beginFl:=by
 refine ⟨_,3,rfl,fun i hi=>⟨w.heap.size,beginRow,(0,0),rfl,heap_alloc_new _ _,?_,?_⟩⟩
 ·rw [cell_of_row _ _ (i * 2) _ _ _ (heap_alloc_new _ _)]
  match i,hi with
  | 0,_=>rfl
  | 1,_=>rfl
  | 2,_=>rfl
  | n+3,h=>exact absurd h (by simp [beginFl])
 ·rw [cell_of_row _ _ (i * 2+1) _ _ _ (heap_alloc_new _ _)]
  match i,hi with
  | 0,_=>rfl
  | 1,_=>rfl
  | 2,_=>rfl
  | n+3,h=>exact absurd h (by simp [beginFl])
theorem rmS_len (such:ByteArray→Bool) (now:List DE):(rmS such now).length≤now.length:=by
 simp only [rmS,List.length_map]
 exact Nat.le_trans (List.length_filter_le _ _) (by simp)
theorem szs_rm:∀ l:List ByteArray,szs (l.map sRm)=0
 | []=>rfl
 | x::l=>by
  have:=szs_rm l
  unfold szs at this ⊢
  simp only [List.map_cons,List.sum_cons]
  exact Nat.add_eq_zero_iff.2 ⟨rfl,this⟩
theorem rmS_szs (such:ByteArray→Bool) (now:List DE):szs (rmS such now)=0:=szs_rm _
theorem begin_any (sb:Nat) (s:PSt) (w:World) {L C B:Nat} (h:On w sb s) (hf:DFit s.ds L C B) (hb:Bud (L+s.R.now.length+20) (C+s.R.now.length+20) (B+36)) (hps:∀ e∈s.R.now,e.path.size≤9223372036854775807) :
  Calls Tryz.prog 92 #[.pointer (some ⟨sb,0,none⟩)] w fun e w'=>∃ ev k s',e = .returned ev∧ErrV w' ev k∧PGo s s' w w'∧BgR s.ds k s'.ds:=by
 have HPR:=hide (print_core (.slice none 0 0) [] w 0 rfl (by decide) 0 (World.ownsRow_nil _ _ _ _) (fun k hk=>absurd hk (by omega)) h.gl.tab)
 have H:=hide h
 have HF:=hide hf
 have HB:=hide hb
 have HPS:=hide hps
 clear h hf hb hps
 go_enter Tryz.func92,Tryz.ntmps92
 go_wp2_with fail
 refine (HPR.out).mono ?_
 rintro _ w1 ⟨rfl,hb1⟩
 dsimp only
 have hsz:(⟨(prTo [] 0 ++ [93,125]).toArray⟩ : ByteArray)=emptyT:=rfl
 rw [hsz]
 have ho1:=H.out.later hb1
 obtain ⟨cv,tv,hbl⟩:=ho1.sb
 have c0:=cell_of_row _ _ 0 _ _ _ hbl
 have HFT:=hide (dkFit s 36 w1 ho1.inn)
 have hes:emptyT.size=23:=rfl
 have HO1:=hide ho1
 have HB1:=hide hb1
 clear ho1 hbl hb1 HPR hsz
 go_wp2_with fail
 refine (HFT.out).mono ?_
 rintro _ w2 ⟨v,k,rfl,hev,hkr,hg2⟩
 dsimp only
 have HG2:=hide ((PGo.refl H.out.inn HB1.out).trans hg2)
 have ho2:=HO1.out.go hg2
 have HO2:=hide ho2
 obtain ⟨cv2,tv2,hbl2⟩:=ho2.sb
 have c2:=cell_of_row _ _ 0 _ _ _ hbl2
 clear hg2 HFT ho2 hbl2 c0 HO1
 rcases hev with ⟨rfl,rfl⟩|⟨hk0,sv,nm,rfl,hsv⟩
 ·have hroom:=hkr.1 rfl
  have HRM:=hide (removeAll_any sb s 137 (fun _=>true) w2 HO2.out HF.out (HB.out.mono (by omega) (by omega) (by omega)) (enters_of Tryz.func137 (by kernel_rfl) rfl) HPS.out (fun p W=>(begin1_any p W).mono (by rintro _ _ ⟨rfl,rfl⟩;exact ⟨rfl,Below.refl _ _⟩)))
  clear hkr
  go_wp2_with fail
  refine (HRM.out).mono ?_
  rintro _ w3 ⟨ev,k1,m,s1,rfl,hev,hg3,hr⟩
  dsimp only
  have hgs:=HG2.out.trans hg3
  have HGS:=hide hgs
  have ho3:=HO2.out.go hg3
  have HO3:=hide ho3
  have HR:=hide hr
  clear hgs hg3 ho3 hr HRM
  rcases hev with ⟨rfl,rfl⟩|⟨hk0,sv,nm,rfl,hsv⟩
  ·have hb4:Below w3.heap.size w3 (w3.alloc (.cells beginRow 222)):=(Below.refl _ _).alloc (Nat.le_refl _) _
   have hfit:DFit s1.ds (L+s.R.now.length) (C+s.R.now.length) B:=(HF.out.ran HR.out).mono (by have:=rmS_len (fun _=>true) s.R.now;exact Nat.add_le_add_left this _) (by have:=rmS_len (fun _=>true) s.R.now;exact Nat.add_le_add_left this _) (by rw [rmS_szs];exact Nat.le_refl _)
   have HW:=hide (write_any sb s1 (.slice (some ⟨w3.heap.size,0,none⟩) 3 3) beginFl _ (HO3.out.later hb4) (beginFl_at w3) hfit (by
    rw [show (wrS beginFl).length=10 from rfl,show szs (wrS beginFl)=36 from rfl,show beginFl.length=3 from rfl]
    exact HB.out.mono (by omega) (by omega) (Nat.le_refl _)) (by decide) (by decide) (by decide))
   have HB4:=hide hb4
   clear hb4 hfit
   go_wp2_with fail
   refine (HW.out).mono ?_
   rintro _ w5 ⟨ev,k,s2,rfl,hev,hg5,hwr⟩
   dsimp only
   have HEV:=hide hev
   have HG5:=hide hg5
   have HWR:=hide hwr
   clear hev hg5 hwr
   go_wp2_with fail
   go_ret
   exact ⟨_,k,s2,rfl,HEV.out,HGS.out.trans ((PGo.refl HGS.out.inn HB4.out).trans HG5.out),.inr ⟨hroom,0,m,s1.ds,HR.out,.inr ⟨rfl,HWR.out⟩⟩⟩
  ·have HSV:=hide hsv
   clear hsv
   go_wp2_with fail
   go_ret
   exact ⟨_,k1,s1,rfl,.inr ⟨hk0,sv,nm,rfl,HSV.out⟩,HGS.out,.inr ⟨hroom,k1,m,s1.ds,HR.out,.inl ⟨hk0,rfl,rfl⟩⟩⟩
 ·have HSV:=hide hsv
  have HK:=hide hkr
  clear hsv hkr
  go_wp2_with fail
  go_ret
  exact ⟨_,k,s,rfl,.inr ⟨hk0,sv,nm,rfl,HSV.out⟩,HG2.out,.inl ⟨by have:=HK.out;by_cases h:36≤s.R.room;exact absurd (this.2 h) hk0;exact Int.lt_of_not_ge h,hk0,rfl⟩⟩
end Go.Proofs.YtncigfibncmioaaGreatDoor
