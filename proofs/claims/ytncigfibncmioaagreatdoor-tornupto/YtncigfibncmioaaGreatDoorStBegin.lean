/-
  PROVED HERE: slices.Backward of a list of texts: it gives them from the last to the first, for every loop body that leaves the list's row and its box.
-/
import Derived.RangeFuncNested
import Derived.Test.YtncigfibncmioaaGreatDoorStFit
set_option maxHeartbeats 4000000
set_option maxRecDepth 100000
namespace Go.Proofs.YtncigfibncmioaaGreatDoor
open Go.RowKit Go.Shelf
attribute [local go_sem] Oper.semAt_some
abbrev ST:={ p:ByteArray // p.size<=9223372036854775807 }
def ow (f:Nat->ST) (len k:Nat):List (Nat × ST):=(List.range k).map fun j=>(len - 1 - j,f (len - 1 - j))
theorem QlZ (f:Nat->ST) (len k:Nat):ow f len (k+1)=ow f len k ++ [(len - 1 - k,f (len - 1 - k))]:=by simp [ow,List.range_succ]
theorem Qti (f:Nat->ST) (len k:Nat):(ow f len k).length=k:=by simp [ow]
def C7 (g Bs:Nat) (A B:World):Prop:=B.heap[g]? = A.heap[g]?/\B.heap[Bs]? = A.heap[Bs]?
theorem NB {g Bs:Nat} {A B C:World} (h:C7 g Bs A B) (k:C7 g Bs B C):C7 g Bs A C:=⟨k.1.trans h.1,k.2.trans h.2⟩
theorem QuU (F:Fence) (n:Nat) (hf:F.fn 227) (hro:F.round=none) (hn:1<=n) (l Bs g len cap:Nat) (oa:Option Addr) (f:Nat->ST) (hl:len<=100000000) (J Jx:List (Nat × ST)->World->Prop)
  (hY:∀ pre x W,J pre W->pre.length<len->YieldAt F (n - 1) Tryz.prog l #[.int .i64 (x.1:Int),.string x.2.1] W fun e W' =>
   (e = .returned (.bool true)/\J (pre ++ [x]) W'/\C7 g Bs W W')∨(e = .returned (.bool false)/\Jx (pre ++ [x]) W'))
  (W:World) (Vr:W.cell? ⟨Bs,0,none⟩=some (.slice oa len cap)) (Vs:0<len->oa=some ⟨g,0,none⟩) (hc:∀ j,j<len->W.cell? ⟨g,j,none⟩=some (.string (f j).1)) (h0:J [] W) :
  CallsIn F n Tryz.prog 227 #[.func (.yield l) #[] #[],.pointer (some ⟨Bs,0,none⟩)] W fun e W'=>(∃ v,e = .returned v) /\
   ((∃ ys,ys=ow f len len/\J ys W')∨(∃ pre,(∃ k,k<=len/\pre=ow f len k)/\Jx pre W')):=by
 refine callsIn_of_wp Tryz.func227 rfl hf ?_ hro;simp only [Tryz.ntmps227,List.size_toArray,List.length_cons,List.length_nil,Nat.reduceAdd,Nat.reduceSub,Array.replicate_succ,Array.replicate_zero,List.push_toArray,List.append_toArray,List.nil_append,List.cons_append];have hw0:Go.RowKit.wrap64 (((len:Nat):Int) - 1)=((len:Nat):Int) - 1:=by unfold Go.RowKit.wrap64;omega
 gi_wp2
 gi_loopw [3] (fun i wr=>∃ k:Nat,k<=len/\i = .int .i64 ((len:Int) - 1 - (k:Int))/\J (ow f len k) wr/\C7 g Bs W wr) (fun i _=>(intOf i+1).toNat)
 case atStart=>exact ⟨0,Nat.zero_le _,by first|(rw [hw0];simp)|simp,h0,rfl,rfl⟩
 case round =>
  obtain ⟨k,hk,rfl,hJs,cw⟩:=hrel;have zN:wr.cell? ⟨Bs,0,none⟩=some (.slice oa len cap):=(World.cell?_of_block (a:=⟨Bs,0,none⟩) cw.2).trans Vr
  by_cases hlt:k<len
  ·obtain ⟨m,hm⟩ : ∃ m:Nat,(len:Int) - 1 - (k:Int)=(m:Int):=⟨len - 1 - k,by omega⟩;have j8:m=len - 1 - k:=by omega
   have K7:m<len:=by omega
   have Vt:=Vs (by omega);subst Vt;have hcx:wr.cell? ⟨g,m,none⟩=some (.string (f m).1):=(World.cell?_of_block (a:=⟨g,m,none⟩) cw.1).trans (hc m K7);have R9:Go.RowKit.wrap64 (((m:Nat):Int) - 1)=((m:Nat):Int) - 1:=by unfold Go.RowKit.wrap64;omega
   have d1:decide ((0:Int)<=((m:Nat):Int))=true:=decide_eq_true (by omega);obtain ⟨fn,tmps,assign,body,hy,hR⟩:=hY _ (m,f m) wr hJs (by rw [Qti];exact hlt);dsimp only at hy;rw [hm];have fP:=aa cw;have HM:=aa hm;have Qn:=aa j8;clear cw hm j8
   gi_wp2
   refine hR.mono ?_;rintro e W3 (⟨rfl,hJ3,hk3⟩|⟨rfl,zU⟩)
   ·gi_wp2
    go_roundw
    case rel =>
     refine ⟨k+1,hlt,?_,?_,NB fP.out hk3⟩
     ·have:=HM.out
      first|(rw [R9];congr 1;omega)|(congr 1;omega)
     ·rw [QlZ,<- Qn.out];exact hJ3
    case measure =>
     have:=HM.out;simp only [intOf]
     first|omega|(rw [R9];omega)
   ·gi_wp2
    refine bodyPost_ret (results_none rfl _ _ _) rfl ?_;exact ⟨⟨_,rfl⟩,.inr ⟨_,⟨k+1,hlt,by rw [QlZ,<- Qn.out]⟩,zU⟩⟩
  ·obtain rfl:k=len:=by omega
   have d1:decide ((0:Int)<=(k:Int) - 1 - (k:Int))=false:=decide_eq_false (by omega);have HJ:=aa hJs;clear hJs
   gi_wp2
   go_end0
   exact ⟨⟨_,rfl⟩,.inl ⟨_,rfl,HJ.out⟩⟩
open Go.RowKit Go.Shelf
attribute [local go_sem] Oper.semAt_some
theorem QvM (F:Fence) (n:Nat) (hf:F.fn 186) (hro:F.round=none) (a:Option Addr) (len cap:Nat) (w:World) :
  CallsIn F n Tryz.prog 186 #[.slice a len cap] w fun e w'=>e = .returned (.func (.func 227) #[] #[.pointer (some ⟨w.heap.size,0,none⟩)])/\w'=w.alloc (.cells #[.slice a len cap] 53):=by
 refine callsIn_of_wp Tryz.func186 rfl hf ?_ hro;simp only [Tryz.ntmps186,List.size_toArray,List.length_cons,List.length_nil,Nat.reduceAdd,Nat.reduceSub,Array.replicate_succ,Array.replicate_zero,List.push_toArray,List.append_toArray,List.nil_append,List.cons_append]
 gi_wp2
 go_ret;exact ⟨rfl,rfl⟩
theorem Qq6 (F:Fence) (n:Nat) (hf:F.fn 227) (hro:F.round=none) (hn:1<=n) (Bs g len cap:Nat) (oa:Option Addr) (f:Nat->ST) (hl:len<=100000000) (w:World) (Vr:w.cell? ⟨Bs,0,none⟩=some (.slice oa len cap)) (Vs:0<len->oa=some ⟨g,0,none⟩) (hc:∀ j,j<len->w.cell? ⟨g,j,none⟩=some (.string (f j).1)) :
  SeqStopsK F n Tryz.prog 227 #[.pointer (some ⟨Bs,0,none⟩)] (fun x:Nat × ST=>#[Value.int .i64 (x.1:Int),Value.string x.2.1]) (C7 g Bs) (fun ys=>ys=ow f len len) (fun pre=>∃ k,k<=len/\pre=ow f len k) len w:=fun l J Jx W hW _ _ hY h0 =>
 QuU F n hf hro hn l Bs g len cap oa f hl J Jx hY W (cell_later hW Vr) Vs (fun j hj=>cell_later hW (hc j hj)) h0
def p6 (such:ByteArray->Bool) (pre:List (Nat × ST)):List bU:=(pre.filter fun x=>such x.2.1).map fun x=>fM x.2.1
theorem Qtl (such:ByteArray->Bool) (pre:List (Nat × ST)) {x:Nat × ST} (h:such x.2.1=true):p6 such (pre ++ [x])=p6 such pre ++ [fM x.2.1]:=by simp [p6,h]
theorem Qq7 (such:ByteArray->Bool) (pre:List (Nat × ST)) {x:Nat × ST} (h:such x.2.1=false):p6 such (pre ++ [x])=p6 such pre:=by simp [p6,h]
theorem ai.In.kinds {s:ai} {w:World} (h:s.In w) {k:Nat} (hk:s.own k):k=s.mb∨k=s.lb∨∃ cur T fr,w.heap[k]? = some (.cells cur T fr):=by
 rcases hk with rfl|e|e|e|e|⟨f,hf,e⟩
 ·exact .inr (.inr ⟨_,_,_,h.is.blk⟩)
 ·exact .inl e
 ·exact .inr (.inl e)
 ·obtain ⟨c,hc⟩:=eO h.is.aw k e;exact .inr (.inr ⟨_,_,_,hc⟩)
 ·exact .inr (.inr ⟨_,_,_,(h.fds k e).blk⟩)
 ·obtain ⟨c,hc⟩:=eO (h.fds f hf).row k e;exact .inr (.inr ⟨_,_,_,hc⟩)
theorem aC.turned {s s1:ai} {w A B:World} {row:Option Nat} {n0:Nat} (h:aC s s1 w A) (hm:s1.mb<n0) (hl:s1.lb<n0) (hw:w.heap.size<=n0) (hg:A.grownBy B row) (hr:∀ r,row=some r->n0<=r/\∃ o:Obj,A.heap[r]? = some o/\o.isCells=false):aC s s1 w B:=by
 refine ⟨h.b,h.ay.same (fun k hk=>hg.block k (h.ay.lt hk) (fun e=>?_)),⟨hg.os.trans h.gr.os,hg.tape.trans h.gr.tape,hg.output.trans h.gr.output,Nat.le_trans h.gr.size hg.size,fun k hk hn=>(hg.block k (Nat.lt_of_lt_of_le hk h.gr.size) (fun e=>?_)).trans (h.gr.block k hk hn)⟩,h.own⟩
 ·obtain ⟨h1,o,h2,h3⟩:=hr k e.symm
  rcases h.ay.kinds hk with e1|e1|⟨cur,T,fr,h4⟩
  ·omega
  ·omega
  ·rw [h4] at h2
   cases h2
   cases h3
 ·have:=(hr k e.symm).1;omega
structure RV (w:World) (gs gf ge sb:Nat) (fv ev:Value):Prop where
 s:w.heap[gs]? = some (.cells #[.pointer (some ⟨sb,0,none⟩)] 92 (0,0))
 f:w.heap[gf]? = some (.cells #[fv] 114 (0,0))
 e:w.heap[ge]? = some (.cells #[ev] 94 (0,0))
theorem RV.turned {A B:World} {gs gf ge sb:Nat} {fv ev:Value} {row:Option Nat} (h:RV A gs gf ge sb fv ev) (hg:A.grownBy B row) (hr:∀ r,row=some r->∃ o:Obj,A.heap[r]? = some o/\o.isCells=false):RV B gs gf ge sb fv ev:=by
 have key:∀ (k:Nat) (cur:Array Value) (T:TypeId),A.heap[k]? = some (.cells cur T (0,0))->B.heap[k]? = some (.cells cur T (0,0)):=fun k cur T hc=>(hg.block k (ax hc) (fun e=>by
  obtain ⟨o,h2,h3⟩:=hr k e.symm;rw [hc] at h2
  cases h2
  cases h3)).trans hc
 exact ⟨key _ _ _ h.s,key _ _ _ h.f,key _ _ _ h.e⟩
theorem RV.later {w w':World} {gs gf ge sb:Nat} {fv ev:Value} (h:RV w gs gf ge sb fv ev) (hb:Below w.heap.size w w'):RV w' gs gf ge sb fv ev :=
 ⟨(hb.block _ (eB h.s)).trans h.s,(hb.block _ (eB h.f)).trans h.f,(hb.block _ (eB h.e)).trans h.e⟩
theorem RV.go {w w':World} {gs gf ge sb:Nat} {fv ev:Value} {s s':ai} (h:RV w gs gf ge sb fv ev) (hi:s.In w) (hg:aC s s' w w'):RV w' gs gf ge sb fv ev :=
 ⟨hg.keeps hi h.s (by decide) (by decide) (by decide) (by decide),hg.keeps hi h.f (by decide) (by decide) (by decide) (by decide),hg.keeps hi h.e (by decide) (by decide) (by decide) (by decide)⟩
theorem RV.wF {w:World} {gs gf ge sb:Nat} {fv ev:Value} (h:RV w gs gf ge sb fv ev) (Dw:Value):RV (w.setCell ⟨ge,0,none⟩ Dw) gs gf ge sb fv Dw :=
 ⟨(heap_setCell_other _ _ _ _ (by simpa using ja h.s h.e (by decide))).trans h.s,(heap_setCell_other _ _ _ _ (by simpa using ja h.f h.e (by decide))).trans h.f,by rw [heap_setCell_same _ ge 0 _ _ _ h.e];rfl⟩
theorem Qtm {g Bs l:Nat} {W:World} {o':Obj} (h1:g≠l) (h2:Bs≠l):C7 g Bs W (W.putObj l o'):=⟨World.putObj_heap_other h1,World.putObj_heap_other h2⟩
def RI (s:ai) (such:ByteArray->Bool) (w w3:World) (g Bs gs gf ge sb K:Nat) (pre:List (Nat × ST)) (W:World):Prop :=
 ∃ s1 m,aC s s1 w W/\s1.mb=s.mb/\s1.lb=s.lb/\bM s.ds (p6 such pre) 0 m s1.ds/\RV W gs gf ge sb (.func (.func K) #[] #[]) .nilIface/\C7 g Bs w3 W/\w3.heap.size<=W.heap.size
def RX (s:ai) (such:ByteArray->Bool) (w:World) (gs gf ge sb K:Nat) (c:Code) (pre:List (Nat × ST)) (W:World):Prop :=
 c=Code.ret/\∃ s1 m k sv nm,k≠0/\aC s s1 w W/\s1.mb=s.mb/\s1.lb=s.lb/\bM s.ds (p6 such pre) k m s1.ds/\RV W gs gf ge sb (.func (.func K) #[] #[]) (.iface 165 (.pointer (some ⟨sv,0,none⟩)))/\W.heap[sv]? = some (.cells #[.string nm,eI k] 167 (0,0))
theorem Qu0 {s:ai} {such:ByteArray->Bool} {w w3:World} {g Bs gs gf ge sb K:Nat} (hm:s.mb<w3.heap.size) (hl:s.lb<w3.heap.size) (hw:w.heap.size<=w3.heap.size) (hg:g<w3.heap.size) (hB:Bs<w3.heap.size):OwnFrom w3.heap.size (RI s such w w3 g Bs gs gf ge sb K):=by
 rintro pre A B row ⟨s1,m,h1,h2,h3,h4,h5,h6,h7⟩ hgr hr;have key:∀ k,k<w3.heap.size->B.heap[k]? = A.heap[k]?:=fun k hk=>hgr.block k (by omega) (fun e=>by have:=(hr k e.symm).1;omega)
 exact ⟨s1,m,h1.turned (by rw [h2];exact hm) (by rw [h3];exact hl) hw hgr hr,h2,h3,h4,h5.turned hgr (fun r e=>(hr r e).2),NB h6 ⟨key g hg,key Bs hB⟩,Nat.le_trans h7 hgr.size⟩
theorem Qu1 {s:ai} {such:ByteArray->Bool} {w w3:World} {gs gf ge sb K:Nat} (hm:s.mb<w3.heap.size) (hl:s.lb<w3.heap.size) (hw:w.heap.size<=w3.heap.size) (c:Code):OwnFrom w3.heap.size (RX s such w gs gf ge sb K c):=by
 rintro pre A B row ⟨hc,s1,m,k,sv,nm,hk,h1,h2,h3,h4,h5,h6⟩ hgr hr;refine ⟨hc,s1,m,k,sv,nm,hk,h1.turned (by rw [h2];exact hm) (by rw [h3];exact hl) hw hgr hr,h2,h3,h4,h5.turned hgr (fun r e=>(hr r e).2),?_⟩;exact (hgr.block sv (ax h6) (fun e=>by
  obtain ⟨o,x2,x3⟩:=(hr sv e.symm).2;rw [h6] at x2
  cases x2
  cases x3)).trans h6
theorem QkY {s1 s2:ai} {B:Nat} {W W1 W2:World} (hb:Below W.heap.size W W1) (hg:aC s1 s2 W1 W2) (hi:s1.In W1) (hm:s1.mb<B) (hl:s1.lb<B):KeepsFrom B W W2 :=
 ⟨Nat.le_trans hb.size hg.gr.size,fun k o hB hk ho=>by
  have h1:W1.heap[k]? = some o:=(hb.block k (ax hk)).trans hk;refine (hg.gr.block k (ax h1) (fun hown=>?_)).trans h1
  rcases hi.kinds hown with e|e|⟨cur,T,fr,h2⟩
  ·omega
  ·omega
  ·rw [h2] at h1
   cases h1
   cases ho⟩
theorem Qtn (such:ByteArray->Bool) (pre:List (Nat × ST)):(p6 such pre).length<=pre.length:=by
 simp only [p6,List.length_map];exact List.length_filter_le _ _
theorem Qto (such:ByteArray->Bool) (pre:List (Nat × ST)):eM (p6 such pre)=0:=by
 unfold eM p6
 induction pre with
 | nil=>rfl
 | cons x l ih =>
  simp only [List.filter_cons]
  split
  ·simp only [List.map_cons,List.sum_cons];exact Nat.add_eq_zero_iff.2 ⟨rfl,ih⟩
  ·exact ih
theorem Qu2 {l:List DE} {j:Nat} (h:j<l.length):l.getD j gV=l[j]:=by simp [List.getD,List.getElem?_eq_getElem h]
def JV (p:ByteArray):ST:=if h:p.size<=9223372036854775807 then ⟨p,h⟩ else ⟨⟨#[]⟩,by decide⟩
theorem Qpi {p:ByteArray} (h:p.size<=9223372036854775807):(JV p).1=p:=by unfold JV;split<;>first|rfl|contradiction
def nK (such:ByteArray->Bool) (now:List DE):List bU:=((now.map DE.path).reverse.filter such).map fM
theorem Qpj (such:ByteArray->Bool) (now:List DE) (hp:∀ e∈now,e.path.size<=9223372036854775807):p6 such (ow (fun m=>JV (now.getD m gV).path) now.length now.length)=nK such now:=by
 have h:(ow (fun m=>JV (now.getD m gV).path) now.length now.length).map (fun x=>x.2.1)=(now.map DE.path).reverse:=by
  apply List.ext_getElem
  ·simp [ow]
  ·intro i h1 h2;simp only [ow,List.length_map,List.length_range] at h1;have h3:now.length - 1 - i<now.length:=by omega
   simp only [ow,List.getElem_map,List.getElem_range,List.getElem_reverse,List.length_map];rw [Qu2 h3];exact Qpi (hp _ (List.getElem_mem h3))
 unfold nK p6;rw [<- h,List.filter_map,List.map_map];rfl
theorem PQ (W:World) (D:Nat) (o:Obj):W.grownBy (W.putObj D o) (some D):=⟨rfl,rfl,rfl,by simp [World.putObj],fun k _ hk=>World.putObj_heap_other (fun e=>hk (by rw [e]))⟩
theorem Qtp (such:ByteArray->Bool) (a b:List (Nat × ST)):p6 such (a++b)=p6 such a++p6 such b:=by simp [p6]
theorem Qtq (f:Nat->ST) (len:Nat) {k:Nat} (h:k<=len):ow f len len=ow f len k++(ow f len len).drop k:=by
 have:ow f len k=(ow f len len).take k:=by
  unfold ow;rw [<- List.map_take,List.take_range,Nat.min_eq_left h]
 rw [this,List.take_append_drop]
theorem Qm8 {B b i:Nat} {W:World} {cur:Array Value} {T:TypeId} {v:Value} (h:W.heap[b]? = some (.cells cur T (0,0))):KeepsFrom B W (W.setCell ⟨b,i,none⟩ v) :=
 ⟨by simp,fun k o _ hk ho=>(heap_setCell_other _ _ _ _ (fun e=>by
  have e:k=b:=e;subst e;rw [h] at hk
  cases hk
  cases ho)).trans hk⟩
theorem Nr (sb:Nat) (s:ai) (K:Nat) (such:ByteArray->Bool) (w:World) {L C B:Nat} (h:On w sb s) (hf:au s.ds L C B) (hb:cZ (L+s.R.now.length) (C+s.R.now.length) B)
  (oG:∀ (args:Array Value) (w:World),(callFunc K args).run Tryz.prog w = .ok (.enter K args) w) (fJ:∀ e∈s.R.now,e.path.size<=9223372036854775807) (hsu:∀ p W,Calls Tryz.prog K #[.string p] W fun e W'=>e = .returned (.bool (such p))/\Below W.heap.size W W') :
  Calls Tryz.prog 136 #[.pointer (some ⟨sb,0,none⟩),.func (.func K) #[] #[]] w fun e w'=>∃ ev k m s',e = .returned ev/\bR w' ev k/\aC s s' w w'/\bM s.ds (nK such s.R.now) k m s'.ds:=by
 have H:=aa h;have HF:=aa hf;have HB:=aa hb;have hlen:s.R.now.length<=100000000:=by have:=hf.cz;have:=hb.1;exact Nat.le_trans hf.cz (by omega)
 have hb3:=Al w (.cells #[.pointer (some ⟨sb,0,none⟩)] 92) (.cells #[.func (.func K) #[] #[]] 114) (.cells #[.nilIface] 94);have k0:=IX w #[.pointer (some ⟨sb,0,none⟩)] 92 (.cells #[.func (.func K) #[] #[]] 114) (.cells #[.nilIface] 94);have k1:=Fa w (.cells #[.pointer (some ⟨sb,0,none⟩)] 92) #[.func (.func K) #[] #[]] 114 (.cells #[.nilIface] 94);have k2:=IY w (.cells #[.pointer (some ⟨sb,0,none⟩)] 92) (.cells #[.func (.func K) #[] #[]] 114) #[.nilIface] 94;obtain ⟨cv,tv,hbl⟩:=(h.sb.later hb3);have c0:=cell_of_row _ _ 0 _ _ _ hbl;have xh:=aa (OE s.b s.R s.mb s.lb s.cv _ (h.ay.later hb3).is hlen);have j7:=aa hb3;have uy:=aa k0;have Qs:=aa k1;have BH:=aa k2;clear h hf hb hb3 k0 k1 k2 hbl;have f1:Fence.wide.fn 54:=trivial;have f2:Fence.wide.fn 186:=trivial;refine (callsIn_wide (n:=5)).1 ?_;refine callsIn_of_wp_marks Tryz.func136 rfl trivial ?_ rfl;simp only [Tryz.ntmps136,List.size_toArray,List.length_cons,List.length_nil,Nat.reduceAdd,Nat.reduceSub,Array.replicate_succ,Array.replicate_zero,List.push_toArray,List.append_toArray,List.nil_append,List.cons_append]
 gi_wp2_with fail
 refine (callsIn_wide.2 xh.out).mono ?_;rintro _ w2 ⟨v,rfl,hrow,hb2⟩;dsimp only;obtain ⟨ov,cp,hv⟩:=jG hrow;subst hv;have aA:=aa hrow;have cL:=aa (j7.out.trans (hb2.mono j7.out.size));have ND:RV w2 w.heap.size (w.heap.size+1) (w.heap.size+1+1) sb (.func (.func K) #[] #[]) .nilIface:=RV.later ⟨uy.out,Qs.out,BH.out⟩ hb2;have NF:=aa ND;clear hrow hb2 ND c0 xh
 gi_wp2_with fail
 refine (QvM _ _ f2 rfl _ _ _ _).mono ?_;rintro _ w3 ⟨rfl,rfl⟩;dsimp only
 gi_wp2_with fail
 obtain ⟨g,hg0⟩ : ∃ g:Nat,(0<s.R.now.length->ov=some ⟨g,0,none⟩)/\g<w2.heap.size/\(0<s.R.now.length->∃ cur,w2.heap[g]? = some (.cells cur 9 (0,0)))/\∀ j,j<s.R.now.length->w2.cell? ⟨g,j,none⟩=some (.string (JV (s.R.now.getD j gV).path).1):=by
  obtain ⟨o,cc,hv,hk⟩:=Jk aA.out;injection hv with vn hv2 hv3
  subst vn
  by_cases h0:0<s.R.now.length
  ·obtain ⟨g,hg1,hg2⟩:=hk 0 h0;refine ⟨g,fun _=>hg1,World.block_lt_of_cell? _ _ hg2,fun _=>eO aA.out g (by rw [hg1];rfl),fun j hj=>?_⟩;obtain ⟨g',e1,e2⟩:=hk j hj;rw [hg1] at e1;injection e1 with e1
   injection e1 with e1
   rw [e1,Qpi (by rw [Qu2 hj];exact fJ _ (List.getElem_mem hj))];exact e2
  ·exact ⟨w.heap.size,fun h=>absurd h h0,eB NF.out.s,fun h=>absurd h h0,fun j hj=>absurd (Nat.lt_of_le_of_lt (Nat.zero_le _) hj) h0⟩
 obtain ⟨SZ,cX,hgr,NH⟩:=hg0;have hmb:s.mb<w.heap.size:=H.out.ay.lt (.inr (.inl rfl));have EK:s.lb<w.heap.size:=H.out.ay.lt (.inr (.inr (.inl rfl)));obtain ⟨w3,hw3⟩ : ∃ w3,w3=w2.alloc (.cells #[.slice ov s.R.now.length cp] 53):=⟨_,rfl⟩;have zO:w3.heap.size=w2.heap.size+1:=by rw [hw3,size_alloc]
 have hb3:Below w2.heap.size w2 w3:=by rw [hw3];exact (Below.refl _ _).alloc (Nat.le_refl _) _
 have Io:w3.heap[w2.heap.size]? = some (.cells #[.slice ov s.R.now.length cp] 53 (0,0)):=by rw [hw3];exact heap_alloc_new _ _
 have kV:=cL.out.size;rw [<- hw3];refine wpIn_rangeFunc_ownG (F:=Fence.wide) (n:=5) rfl (by decide) (gf:=227) (lb:=#[.pointer (some ⟨w2.heap.size,0,none⟩)]) rfl trivial (enters_of Tryz.func227 (by kernel_rfl) rfl)
  (Qq6 Fence.wide 4 trivial rfl (by decide) w2.heap.size g s.R.now.length cp ov (fun m=>JV (s.R.now.getD m gV).path) hlen w3 (cell_of_row _ _ 0 _ _ _ Io) SZ (fun j hj=>cell_later hb3 (NH j hj)))
  NB (fun W l o o' hl _ _ _=>Qtm (by omega) (by omega)) (Below.refl _ _) (fun _=>rfl)
  (RI s such w w3 g w2.heap.size w.heap.size (w.heap.size+1) (w.heap.size+1+1) sb K) (RX s such w w.heap.size (w.heap.size+1) (w.heap.size+1+1) sb K)
  (Qu0 (by omega) (by omega) (by omega) (by omega) (by omega)) (Qu1 (by omega) (by omega) (by omega))
  ⟨s,0,aC.refl H.out.ay (cL.out.trans (hb3.mono cL.out.size)),rfl,rfl,⟨rfl,rfl,rfl⟩,NF.out.later hb3,⟨rfl,rfl⟩,Nat.le_refl _⟩
  (fun x=>{ tmps:=#[.pointer (some ⟨sb,0,none⟩),.func (.func K) #[] #[],.pointer (some ⟨w.heap.size,0,none⟩),.pointer (some ⟨w.heap.size+1,0,none⟩),.pointer (some ⟨w.heap.size+1+1,0,none⟩),undef,.string x.2.1,undef,.pointer (some ⟨sb,0,none⟩),.pointer (some ⟨sb,0,none⟩),.pointer (some ⟨sb,0,none⟩),.pointer (some ⟨s.b,0,none⟩),.slice ov s.R.now.length cp,.func (.func 227) #[] #[.pointer (some ⟨w2.heap.size,0,none⟩)],.int .i64 (x.1:Int),.string x.2.1,undef,undef,undef,undef,undef,undef,undef,undef,undef,undef,undef,undef,undef],defers:=[] }) ?assign ?body ?done ?stop
 case assign =>
  intro l x W Kk hK
  gi_wp2
  exact hK
 case body =>
  have nI:=aa hb3;have VB:=aa Io;have nG:=aa zO;clear hw3 hb3 Io zO;rintro l pre ⟨xi,xp,pK⟩ W ⟨s1,m,h1,h2,h3,h4,h5,h6,h7⟩ hlt;obtain ⟨VC,VD⟩:=hgr (by omega);have rE:au s1.ds (L+s.R.now.length) (C+s.R.now.length) B:=by
   have Fh:=Qtn such pre;have hl2:=Qto such pre;exact (HF.out.ran h4).mono (by omega) (by omega) (by omega)
  have VE:On W sb s1:=H.out.go h1;have cs:=cell_of_row _ _ 0 _ _ _ h5.s;have cf:=cell_of_row _ _ 0 _ _ _ h5.f;obtain ⟨cv1,tv1,FL⟩:=VE.sb;have c1:=cell_of_row _ _ 0 _ _ _ FL;have HSU:=aa (CallsIn.inRound l ((callsIn_wide (n:=2)).2 (hsu xp W)));have pB:=aa hlt;have H1:=aa h1;have H5:=aa h5;have H6:=aa h6;have H4:=aa h4;clear h1 h5 h6 h4 hlt FL
  gi_wp2_with fail
  refine ⟨trivial,HSU.out.mono ?_⟩;rintro _ W1 ⟨rfl,hb1⟩;dsimp only
  cases Ge:such xp
  ·gi_wp2
   refine ⟨⟨hb1.size,fun k o _ hk _=>(hb1.block k (ax hk)).trans hk⟩,⟨hb1.block _ (by have:=nG.out;omega),hb1.block _ (by have:=nG.out;omega)⟩,s1,m,H1.out.trans (aC.refl H1.out.ay hb1),h2,h3,?_,H5.out.later hb1,NB H6.out ⟨hb1.block _ (by have:=nG.out;omega),hb1.block _ (by have:=nG.out;omega)⟩,Nat.le_trans h7 hb1.size⟩;rw [Qq7 such pre (x:=(xi,⟨xp,pK⟩)) Ge];exact H4.out
  ·have hs1:=cell_later hb1 cs;have hs2:=cell_later hb1 c1;have EL:s1.In W1:=H1.out.ay.later hb1;have lp:=aa (CallsIn.inRound l ((callsIn_wide (n:=2)).2 (Qnr s1 xp W1 EL rE HB.out pK)));have HV:=aa (H5.out.later hb1);have br:=aa hb1;have A3:=aa EL;clear hb1 EL cs c1
   gi_wp2_with fail
   refine ⟨trivial,lp.out.mono ?_⟩;rintro _ W2 ⟨v,k,s2,rfl,cj,hgo,hkd,j8,hl2⟩;dsimp only;have mM:=H1.out.trans ((aC.refl H1.out.ay br.out).trans hgo);have EW:=QkY br.out hgo A3.out (show s1.mb<w3.heap.size by have:=nG.out;omega) (show s1.lb<w3.heap.size by have:=nG.out;omega);have hst:fK s1.ds (fM xp) k s2.ds:=hkd;have hr2:=bM.app H4.out (bM.one hst);rw [<- Qtl such pre (x:=(xi,⟨xp,pK⟩)) Ge] at hr2;have qj:=aa (HV.out.go A3.out hgo);have fq:=aa mM;have VF:=aa EW;have fL:=aa hr2;have Qt:W.heap[g]? = some (.cells VC 9 (0,0)):=H6.out.1.trans ((nI.out.block g cX).trans VD);have hkb:W.heap[w2.heap.size]? = some (.cells #[.slice ov s.R.now.length cp] 53 (0,0)):=H6.out.2.trans VB.out;have BH:Hid (C7 g w2.heap.size W W2):=aa ⟨(hgo.keeps A3.out ((br.out.block g (ax Qt)).trans Qt) (by decide) (by decide) (by decide) (by decide)).trans Qt.symm,(hgo.keeps A3.out ((br.out.block _ (ax hkb)).trans hkb) (by decide) (by decide) (by decide) (by decide)).trans hkb.symm⟩;clear Qt hkb;clear hgo hkd mM EW hst hr2
   rcases cj with ⟨rfl,rfl⟩|⟨bu,cj⟩
   ·gi_wp2
    exact ⟨VF.out,BH.out,s2,_,fq.out,j8.trans h2,hl2.trans h3,fL.out,qj.out,NB H6.out BH.out,Nat.le_trans h7 VF.out.1⟩
   ·obtain ⟨sv,nm,rfl,dw⟩:=cj;have gB:=aa dw;have ce:=cell_of_row _ _ 0 _ _ _ qj.out.e;have fe:=frozen_of_row _ _ 0 _ _ qj.out.e;clear dw
    gi_wp2
    refine ⟨VF.out.trans (Qm8 qj.out.e),rfl,s2,_,k,sv,nm,bu,fq.out.fX (by omega) qj.out.e (by decide) (by decide) (by decide) (by decide),j8.trans h2,hl2.trans h3,fL.out,qj.out.wF _,?_⟩;exact (heap_setCell_other _ _ _ _ (by simpa using ja gB.out qj.out.e (by decide))).trans gB.out
 case done =>
  rintro D ys W hD rfl ⟨s1,m,h1,h2,h3,h4,h5,h6,h7⟩ hK;have ce:=cell_of_row _ _ 0 _ _ _ h5.e;have fe:=frozen_of_row _ _ 0 _ _ h5.e;rw [Qpj such s.R.now fJ] at h4
  gi_wp2
  have hne:D≠w.heap.size+1+1:=fun e=>by
   rw [e,h5.e] at hK
   cases hK
  have hK4:(W.setCell ⟨w.heap.size+1+1,0,none⟩ .nilIface).heap[D]? = some (.deferred (some [])):=(heap_setCell_other _ _ _ _ hne).trans hK;refine ⟨by simp,.inl ⟨_,_,rfl,run_takeDeferred hK4,?_⟩⟩;have h5':=h5.wF .nilIface;have AA:((W.setCell ⟨w.heap.size+1+1,0,none⟩ .nilIface).putObj D (.deferred none)).cell? ⟨w.heap.size+1+1,0,none⟩=some .nilIface :=
   (World.cell?_of_block (World.putObj_heap_other (k:=w.heap.size+1+1) (fun e=>hne e.symm))).trans (cell_of_row _ _ 0 _ _ _ h5'.e)
  refine ⟨.nilIface,?_,.nilIface,0,m,s1,rfl,.inl ⟨rfl,rfl⟩,?_,h4⟩
  ·simp [results,Tryz.f136,go_sem,AA]
  ·exact (h1.fX (by omega) h5.e (by decide) (by decide) (by decide) (by decide)).turned (n0:=w3.heap.size) (by omega) (by omega) (by omega) (PQ _ _ _) (fun r e=>by
    injection e with e
    subst e;exact ⟨hD,_,hK4,rfl⟩)
 case stop =>
  rintro D c pre W hD ⟨k0,bu,rfl⟩ ⟨rfl,s1,m,k,sv,nm,hk,h1,h2,h3,h4,h5,h6⟩ hK;have ce:=cell_of_row _ _ 0 _ _ _ h5.e
  gi_wp2
  have hne:D≠w.heap.size+1+1:=fun e=>by
   rw [e,h5.e] at hK
   cases hK
  have Gp:D≠sv:=fun e=>by
   rw [e,h6] at hK
   cases hK
  refine ⟨by simp,.inl ⟨_,_,rfl,run_takeDeferred hK,?_⟩⟩;have AA:(W.putObj D (.deferred none)).cell? ⟨w.heap.size+1+1,0,none⟩=some (.iface 165 (.pointer (some ⟨sv,0,none⟩))) :=
   (World.cell?_of_block (World.putObj_heap_other (k:=w.heap.size+1+1) (fun e=>hne e.symm))).trans (cell_of_row _ _ 0 _ _ _ h5.e)
  refine ⟨_,?_,_,k,m,s1,rfl,.inr ⟨hk,sv,nm,rfl,(World.putObj_heap_other (fun e=>Gp e.symm)).trans h6⟩,?_,?_⟩
  ·simp [results,Tryz.f136,go_sem,AA]
  ·exact h1.turned (n0:=w3.heap.size) (by omega) (by omega) (by omega) (PQ _ _ _) (fun r e=>by
    injection e with e
    subst e;exact ⟨hD,_,hK,rfl⟩)
  ·rw [<- Qpj such s.R.now fJ,Qtq _ _ bu,Qtp];exact h4.stop _ hk
open Go.RowKit
def uC:ByteArray:=⟨(dM [] 0 ++ [93,125]).toArray⟩
def pX:ByteArray:=⟨#[123,34,118,101,114,115,105,111,110,34,58,49,125]⟩
def Av:List (ByteArray × ByteArray):=[(bo,⟨#[]⟩),(bB,uC),(bK,pX)]
def RH (D:DS) (k:Int) (D':DS):Prop :=
 (D.R.room<36/\k≠0/\D'=D)∨(36<=D.R.room/\∃ k1 m D1,bM D (nK (fun _=>true) D.R.now) k1 m D1/\((k1≠0/\k=k1/\D'=D1)∨(k1=0/\MA D1 Av k D')))
def Vu:Array Value:=#[.string ⟨#[106,111,117,114,110,97,108]⟩,.string ⟨#[]⟩,.string ⟨#[105,110,100,101,120]⟩,.string uC,.string ⟨#[108,97,121,111,117,116]⟩,.string ⟨#[123,34,118,101,114,115,105,111,110,34,58,49,125]⟩]
theorem Qm6 (w:World):mS (w.alloc (.cells Vu 222)) (.slice (some ⟨w.heap.size,0,none⟩) 3 3) Av:=by
 refine ⟨_,3,rfl,fun i hi=>⟨w.heap.size,Vu,(0,0),rfl,heap_alloc_new _ _,?_,?_⟩⟩
 ·rw [cell_of_row _ _ (i * 2) _ _ _ (heap_alloc_new _ _)]
  match i,hi with
  | 0,_=>rfl
  | 1,_=>rfl
  | 2,_=>rfl
  | n+3,h=>exact absurd h (by simp [Av])
 ·rw [cell_of_row _ _ (i * 2+1) _ _ _ (heap_alloc_new _ _)]
  match i,hi with
  | 0,_=>rfl
  | 1,_=>rfl
  | 2,_=>rfl
  | n+3,h=>exact absurd h (by simp [Av])
theorem DJ (such:ByteArray->Bool) (now:List DE):(nK such now).length<=now.length:=by
 simp only [nK,List.length_map];exact Nat.le_trans (List.length_filter_le _ _) (by simp)
theorem QrX:∀ l:List ByteArray,eM (l.map fM)=0
 | []=>rfl
 | x::l=>by
  have:=QrX l;unfold eM at this ⊢;simp only [List.map_cons,List.sum_cons];exact Nat.add_eq_zero_iff.2 ⟨rfl,this⟩
theorem Qtj (such:ByteArray->Bool) (now:List DE):eM (nK such now)=0:=QrX _
theorem Qo9 (sb:Nat) (s:ai) (w:World) {L C B:Nat} (h:On w sb s) (hf:au s.ds L C B) (hb:cZ (L+s.R.now.length+20) (C+s.R.now.length+20) (B+36)) (fJ:∀ e∈s.R.now,e.path.size<=9223372036854775807) :
  Calls Tryz.prog 92 #[.pointer (some ⟨sb,0,none⟩)] w fun e w'=>∃ ev k s',e = .returned ev/\bR w' ev k/\aC s s' w w'/\RH s.ds k s'.ds:=by
 have xq:=aa (OX (.slice none 0 0) [] w 0 rfl (by decide) 0 (World.ownsRow_nil _ _ _ _) (fun k hk=>absurd hk (by omega)) h.gl.tab);have H:=aa h;have HF:=aa hf;have HB:=aa hb;have HPS:=aa fJ;clear h hf hb fJ;go_enter Tryz.func92,Tryz.ntmps92;go_wp2_with fail;refine (xq.out).mono ?_;rintro _ w1 ⟨rfl,hb1⟩;dsimp only;have hsz:(⟨(dM [] 0 ++ [93,125]).toArray⟩ : ByteArray)=uC:=rfl;rw [hsz];have zJ:=H.out.later hb1;obtain ⟨cv,tv,hbl⟩:=zJ.sb;have c0:=cell_of_row _ _ 0 _ _ _ hbl;have oo:=aa (QvL s 36 w1 zJ.ay);have hes:uC.size=23:=rfl;have wN:=aa zJ;have br:=aa hb1;clear zJ hbl hb1 xq hsz;go_wp2_with fail;refine (oo.out).mono ?_;rintro _ w2 ⟨v,k,rfl,cj,Qo,hg2⟩;dsimp only;have bP:=aa ((aC.refl H.out.ay br.out).trans hg2);have CV:=wN.out.go hg2;have qi:=aa CV;obtain ⟨cv2,tv2,Ha⟩:=CV.sb;have c2:=cell_of_row _ _ 0 _ _ _ Ha;clear hg2 oo CV Ha c0 wN
 rcases cj with ⟨rfl,rfl⟩|⟨bu,sv,nm,rfl,dw⟩
 ·have hroom:=Qo.1 rfl;have lp:=aa (Nr sb s 137 (fun _=>true) w2 qi.out HF.out (HB.out.mono (by omega) (by omega) (by omega)) (enters_of Tryz.func137 (by kernel_rfl) rfl) HPS.out (fun p W=>(Qm7 p W).mono (by rintro _ _ ⟨rfl,rfl⟩;exact ⟨rfl,Below.refl _ _⟩)));clear Qo;go_wp2_with fail;refine (lp.out).mono ?_;rintro _ w3 ⟨ev,k1,m,s1,rfl,cj,hg3,hr⟩;dsimp only;have vA:=bP.out.trans hg3;have Vv:=aa vA;have JT:=qi.out.go hg3;have Qp:=aa JT;have HR:=aa hr;clear vA hg3 JT hr lp
  rcases cj with ⟨rfl,rfl⟩|⟨bu,sv,nm,rfl,dw⟩
  ·have hb4:Below w3.heap.size w3 (w3.alloc (.cells Vu 222)):=(Below.refl _ _).alloc (Nat.le_refl _) _;have lr:au s1.ds (L+s.R.now.length) (C+s.R.now.length) B:=(HF.out.ran HR.out).mono (by have:=DJ (fun _=>true) s.R.now;exact Nat.add_le_add_left this _) (by have:=DJ (fun _=>true) s.R.now;exact Nat.add_le_add_left this _) (by rw [Qtj];exact Nat.le_refl _);have HW:=aa (Qj9 sb s1 (.slice (some ⟨w3.heap.size,0,none⟩) 3 3) Av _ (Qp.out.later hb4) (Qm6 w3) lr (by
    rw [show (jq Av).length=10 from rfl,show eM (jq Av)=36 from rfl,show Av.length=3 from rfl];exact HB.out.mono (by omega) (by omega) (Nat.le_refl _)) (by decide) (by decide) (by decide))
   have kI:=aa hb4;clear hb4 lr;go_wp2_with fail;refine (HW.out).mono ?_;rintro _ w5 ⟨ev,k,s2,rfl,cj,dR,hwr⟩;dsimp only;have xP:=aa cj;have gI:=aa dR;have iK:=aa hwr;clear cj dR hwr;go_wp2_with fail;go_ret;exact ⟨_,k,s2,rfl,xP.out,Vv.out.trans ((aC.refl Vv.out.ay kI.out).trans gI.out),.inr ⟨hroom,0,m,s1.ds,HR.out,.inr ⟨rfl,iK.out⟩⟩⟩
  ·have gB:=aa dw;clear dw;go_wp2_with fail;go_ret;exact ⟨_,k1,s1,rfl,.inr ⟨bu,sv,nm,rfl,gB.out⟩,Vv.out,.inr ⟨hroom,k1,m,s1.ds,HR.out,.inl ⟨bu,rfl,rfl⟩⟩⟩
 ·have gB:=aa dw;have HK:=aa Qo;clear dw Qo;go_wp2_with fail;go_ret;exact ⟨_,k,s,rfl,.inr ⟨bu,sv,nm,rfl,gB.out⟩,bP.out,.inl ⟨by have:=HK.out;by_cases h:36<=s.R.room;exact absurd (this.2 h) bu;exact Int.lt_of_not_ge h,bu,rfl⟩⟩
end Go.Proofs.YtncigfibncmioaaGreatDoor
