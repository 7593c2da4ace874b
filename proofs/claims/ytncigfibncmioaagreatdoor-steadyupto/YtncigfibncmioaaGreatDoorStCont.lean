/-
  PROVED HERE: what Open of package store does where the disk has no layout; what the program's does then.
-/
import Derived.Test.YtncigfibncmioaaGreatDoorStDig
import Derived.Test.YtncigfibncmioaaGreatDoorKCont
import Derived.Sort.KeysCollected
import Derived.Shelf.SlIter.Nil
import Derived.RangeFuncNested
import Derived.RangeFuncLeaves
import Derived.Test.YtncigfibncmioaaGreatDoorStBegin
import Derived.Test.YtncigfibncmioaaGreatDoorStTxt
import Derived.Test.YtncigfibncmioaaGreatDoorSmKey
import Derived.Maps.OwnSet
namespace Go.Proofs.YtncigfibncmioaaGreatDoor
set_option maxHeartbeats 2000000
set_option maxRecDepth 100000
open Go.RowKit
theorem openS_new (s:PSt) (w:World) {L C B:Nat} (h:s.In w) (hgl:Gl w) (hlow:LowS s) (hf:DFit s.ds L C B) (hb:Bud (L+s.R.now.length+20) (C+s.R.now.length+20) (B+36)) (hps:∀ e∈s.R.now,e.path.size≤9223372036854775807) (hno:rdD s.ds layoutP=none) :
  Calls Tryz.prog 50 #[.pointer (some ⟨s.b,0,none⟩)] w fun e w'=>∃ k s' sv ev,e = .returned (.tuple #[sv,ev])∧ErrV w' ev k∧PGo s s' w w'∧OpR s.ds k s'.ds ∧
   (k=0→∃ sb cb tb,sv = .pointer (some ⟨sb,0,none⟩)∧(w.heap.size≤sb∧w.heap.size≤cb∧w.heap.size≤tb)∧StW w' sb s' cb tb 0 0 (.map []) (.map []))∧(k≠0→sv = .pointer none):=by
 obtain ⟨W,hW,hB,hsz,hcm,htm,hblk⟩:=three_maps w s.b
 have hmk1:=fun w=>run_makeMap (P:=Tryz.prog) 156 w
 have hmk2:=fun w=>run_makeMap (P:=Tryz.prog) 157 w
 have hst:StW W (w.heap.size+1+1) s w.heap.size (w.heap.size+1) 0 0 (.map []) (.map []):=⟨h.later hB,hgl.later hB,hlow,hblk,hcm,htm,fun e=>by have:=h.lt e;omega,fun e=>by have:=h.lt e;omega,fun e=>by have:=hgl.lt e;omega,fun e=>by have:=hgl.lt e;omega,fun e=>by have:=hgl.lt e;omega,by omega⟩
 have HST:=hide hst
 have HB:=hide hB
 have HW:=hide hW
 have H:=hide h
 have HTH:=hide (isThere_any (w.heap.size+1+1) s layoutP W hst.on.sb hst.inn (by decide))
 have HBG:=hide (fun (W':World) (hg:PGo s s W W')=>begin_any (w.heap.size+1+1) s W' (hst.on.go hg) hf hb hps)
 have e1:∀ (args:Array Value) (w:World),(callFunc 92 args).run Tryz.prog w = .ok (.enter 92 args) w:=enters_of Tryz.func92 (by kernel_rfl) rfl
 have e2:∀ (args:Array Value) (w:World),(callFunc 94 args).run Tryz.prog w = .ok (.enter 94 args) w:=enters_of Tryz.func94 (by kernel_rfl) rfl
 clear hst hB hcm htm hblk h hgl hlow hf hb hps hW
 go_enter Tryz.func50,Tryz.ntmps50
 go_wp2_with fail
 rw [← HW.out]
 refine (HTH.out).mono ?_
 rintro _ w1 ⟨rfl,hg1⟩
 dsimp only
 have HG1:=hide hg1
 clear hg1 HTH HW hmk1 hmk2
 rw [hno]
 dsimp only [Option.isSome]
 go_wp2_with fail
 refine (HBG.out _ HG1.out).mono ?_
 rintro _ w2 ⟨ev,k,s',rfl,hev,hg2,hr⟩
 dsimp only
 have HG2:=hide (HG1.out.trans hg2)
 have HR:=hide hr
 clear hg2 hr
 rcases hev with ⟨rfl,rfl⟩|⟨hk0,sv,nm,rfl,hsv⟩
 ·go_wp2_with fail
  refine bodyPost_ret (results_tmp2 rfl _ _ _) rfl ?_
  exact ⟨0,s',_,_,rfl,.inl ⟨rfl,rfl⟩,(PGo.refl H.out HB.out).trans HG2.out,.inl ⟨hno,HR.out⟩,fun _=>⟨_,_,_,rfl,by omega,HST.out.go HG2.out⟩,fun hk=>absurd rfl hk⟩
 ·have HSV:=hide hsv
  clear hsv
  go_wp2_with fail
  refine bodyPost_ret (results_tmp2 rfl _ _ _) rfl ?_
  exact ⟨k,s',_,_,rfl,.inr ⟨hk0,sv,nm,rfl,HSV.out⟩,(PGo.refl H.out HB.out).trans HG2.out,.inl ⟨hno,HR.out⟩,fun hk=>absurd hk hk0,fun _=>rfl⟩
theorem bOpen_new (s:PSt) (w:World) (d:Nat) {L C B:Nat} (h:s.In w) (hgl:Gl w) (hlow:LowS s) (hf:DFit s.ds L C B) (hb:Bud (L+s.R.now.length+20) (C+s.R.now.length+20) (B+36)) (hps:∀ e∈s.R.now,e.path.size≤9223372036854775807) (hno:rdD s.ds layoutP=none) (hbd:BD w d s.b) :
  Calls Tryz.prog 17 #[.pointer (some ⟨d,0,none⟩)] w fun e w'=>∃ k s' sv,e = .returned (.tuple #[sv,.int .i64 k])∧PGo s s' w w'∧OpR s.ds k s'.ds ∧
   (k=0→∃ xb sb cb tb,sv = .pointer (some ⟨xb,0,none⟩)∧BSt w' xb sb∧(w.heap.size≤sb∧w.heap.size≤cb∧w.heap.size≤tb)∧w.heap.size≤xb∧StW w' sb s' cb tb 0 0 (.map []) (.map []))∧(k≠0→sv = .pointer none) :=
 bOpen_many (RO:=OpR) s w d h hgl hlow (fun W hW=>openS_new s W (h.later hW) (hgl.later hW) hlow hf hb hps hno) hbd
end Go.Proofs.YtncigfibncmioaaGreatDoor
namespace Go.Proofs.YtncigfibncmioaaGreatDoor
open Go.RowKit Go.Shelf
theorem ecells_set (n:ByteArray) (ds:List Nat) (z z':Int) (h:ds.length=32):(ecellsOf n ds z).setIfInBounds 33 (.int .i64 z')=ecellsOf n ds z':=by
 obtain ⟨x0,x1,x2,x3,x4,x5,x6,x7,x8,x9,x10,x11,x12,x13,x14,x15,x16,x17,x18,x19,x20,x21,x22,x23,x24,x25,x26,x27,x28,x29,x30,x31,rfl⟩:=list32 ds h
 rfl
end Go.Proofs.YtncigfibncmioaaGreatDoor
namespace Go.Proofs.YtncigfibncmioaaGreatDoor
set_option maxHeartbeats 2000000
set_option maxRecDepth 100000
open Go.RowKit Go.Shelf Go.Maps Go.Sort
attribute [local go_sem] Oper.semAt_some
theorem wpListIn_load_row {F:Fence} {n:Nat} {P:Program} {ops:Array Oper} {rest:List Oper} {o:Oper} {a:Act} {w:World} {Q:Exit→Act→World→Prop} (hgd:o.guard=none) (ty:TypeId) (x:Operand) (ho:o.op = .load ty x)
  (g:Nat) (hx:a.eval x = .pointer (some ⟨g,0,none⟩)) (t:TypeId) (cs:Array Value) (fr:Nat × Nat) (d:TypeDesc) (hg:w.heap[g]? = some (.cells cs t fr))
  (hu:P.underlying ty=some d) (hd:(match d with|.struct _|.array _ _=>true|_=>false)=true) (hi:(P.info? ty).map (·.size)=some cs.size)
  (h:wpListIn F n P ops Q rest (a.put o.dst (.agg cs)) w):wpListIn F n P ops Q (o::rest) a w:=by
 refine wpListIn_plain hgd fun K hK'=>?_
 unfold Oper.wpIn
 refine ⟨?_,?_⟩
 ·simp [Oper.about,ho]
 ·rw [Oper.semAt_plain F _ _ (by rw [ho];intro c hc';cases hc')]
  unfold execOp
  simp only [ho,hx,Instr.loadAt,Instr.sureAddr,Sem.run_bind,Sem.run_pure,Result.andThen_ok,run_loadVar_row w g t ty cs fr d hg hu hd hi]
  exact hK' _ _ h
theorem wpListIn_store_row {F:Fence} {n:Nat} {P:Program} {ops:Array Oper} {rest:List Oper} {o:Oper} {a:Act} {w:World} {Q:Exit→Act→World→Prop} (hgd:o.guard=none) (ty:TypeId) (x y:Operand) (ho:o.op = .store ty x y)
  (g:Nat) (cells:Array Value) (hx:a.eval x = .pointer (some ⟨g,0,none⟩)) (hy:a.eval y = .agg cells)
  (t:TypeId) (old:Array Value) (hg:w.heap[g]? = some (.cells old t (0,0))) (hi:(P.info? ty).map (·.size)=some cells.size)
  (hold:old.size=cells.size) (h1:cells.all (·.oneCell')=true)
  (h:wpListIn F n P ops Q rest (a.put o.dst undef) (w.setRow g cells)):wpListIn F n P ops Q (o::rest) a w:=by
 refine wpListIn_plain hgd fun K hK'=>?_
 unfold Oper.wpIn
 refine ⟨?_,?_⟩
 ·simp [Oper.about,ho]
 ·rw [Oper.semAt_plain F _ _ (by rw [ho];intro c hc';cases hc')]
  unfold execOp
  simp only [ho,hx,hy,Instr.storeAt,Instr.sureAddr,Sem.run_bind,Sem.run_pure,Result.andThen_ok,run_storeVar_row w g t ty old cells hg hi hold h1]
  exact hK' _ _ h
abbrev EV:={ v:Value // ∃ n ds z,ds.length=32∧v = .agg (ecellsOf n ds z) }
def AllE (D:DataW Value):Prop:=∀ kl v,D.atKey kl .nil = .held v→∃ n ds z,ds.length=32∧v = .agg (ecellsOf n ds z)
def ValE (D:DataW Value) (p:List UInt8 × EV):Prop:=∀ zd,D.atKey (.string p.1) zd = .held p.2.1
theorem vals1_in (F:Fence) (n:Nat) (hf:F.fn 217) (hro:F.round=none) (hn:1≤n) (l Bm b nn:Nat) (D0:DataW Value) (hE:AllE D0) (J Jx:List EV→World→Prop)
  (hY:∀ pre x W,J pre W→pre.length<Maps.size D0→YieldAt F (n - 1) Tryz.prog l #[x.1] W fun e W' =>
   (e = .returned (.bool true)∧J (pre ++ [x]) W'∧KeepsWalks W W')∨(e = .returned (.bool false)∧Jx (pre ++ [x]) W'))
  (W:World) (hJ:AbidesFrom W.heap.size J) (hm:W.cell? ⟨Bm,0,none⟩=some (.map (some b))) (hown:TM W b nn D0) (h0:J [] W) :
  CallsIn F n Tryz.prog 217 #[.func (.yield l) #[] #[],.pointer (some ⟨Bm,0,none⟩)] W fun e W'=>(∃ v,e = .returned v) ∧
   ((∃ xs,(∃ ps:List (List UInt8 × EV),(ps.map (·.1)).Perm (strKeys D0)∧(∀ p∈ps,ValE D0 p)∧xs=ps.map (·.2))∧J xs W')∨(∃ pre,True∧Jx pre W')):=by
 have hz71:=(zero_of_info Tryz.info71b).1
 refine callsIn_of_wp Tryz.func217 rfl hf ?_ hro
 simp only [Tryz.ntmps217,List.size_toArray,List.length_cons,List.length_nil,Nat.reduceAdd,Nat.reduceSub,Array.replicate_succ,Array.replicate_zero,List.push_toArray,List.append_toArray,List.nil_append,List.cons_append]
 gi_wp2_with (first
  | (gi_at_range;refine wpListIn_range_own _ rfl _ 157 rfl 9 193 str_keyed Tryz.underlying157 _ b nn _ rfl hown ?_;intro w0 hrg0 hg0 hs0)
  | gi_in)
 go_frame
 gi_loopw [7] (fun _ wr=>∃ (left:Lit→Bool) (cnt:Nat) (ps:List (List UInt8 × EV)),wr.ranges Tryz.prog 9 heldR b W.heap.size nn D0 left cnt∧ps.length+cnt≤Maps.size D0∧Collected D0 left (ps.map (·.1))∧(∀ p∈ps,ValE D0 p)∧J (ps.map (·.2)) wr)
  (fun _ wr=>wr.rangeLeft b W.heap.size)
 case atStart =>
  exact ⟨_,_,[],hrg0,by simp,Collected.start D0,by simp,hJ [] W w0 none h0 hg0 (fun r e=>by cases e)⟩
 case round =>
  obtain ⟨left,cnt,ps,hrg,hcs,hC,hV,hJs⟩:=hrel
  gi_wp2_with (first
   | (gi_at_next;refine wpListIn_next_ranges _ rfl _ rfl 9 str_keyed heldR encStr (fun c:Value=>c) (fun key kl hk=>by obtain ⟨x,hx,_⟩:=Maps.keyOf_str Tryz.underlying9 hk;exact ⟨x,hx⟩) (fun v y hv=>⟨v,rfl⟩) b W.heap.size nn _ _ _ rfl hrg ?_ ?_)
   | gi_in)
  ·intro hc0 hl0
   gi_wp2
   go_end0
   exact ⟨⟨_,rfl⟩,.inl ⟨_,⟨ps,hC.perm hown str_keyed Tryz.underlying9 hl0,hV,rfl⟩,hJs⟩⟩
  ·intro x c kl yd yp w2 cnt2 hkey hlk hv hat hrg2 hlt hg2 hs2 hen
   obtain ⟨x',ex,rfl,_⟩:=Maps.keyOf_str Tryz.underlying9 hkey
   obtain rfl:x=x':=encStr_inj ex
   have hyd:yd = .held c:=by
    unfold heldR at hv
    injection hv with hv
    injection hv with hv
    exact hv.symm
   subst hyd
   obtain ⟨en,ds,z,hds,rfl⟩:=hE _ c (hat .nil)
   have hJ2:J (ps.map (·.2)) w2:=hJ _ wr w2 (some W.heap.size) hJs hg2 (fun r e=>by cases e;exact ⟨Nat.le_refl _,hrg.iter_walk⟩)
   obtain ⟨X,hX⟩ : ∃ X,X=w2.alloc (.cells (ecellsOf en ds z) 193):=⟨_,rfl⟩
   have hJ3:J (ps.map (·.2)) X:=by rw [hX];exact hJ _ w2 _ none hJ2 (World.grownBy_alloc _ _ _) (fun r e=>by cases e)
   have hXr:X.heap[w2.heap.size]? = some (.cells (ecellsOf en ds z) 193 (0,0)):=by rw [hX];exact heap_alloc_new _ _
   have hrgX:=hrg2.alloc (.cells (ecellsOf en ds z) 193)
   rw [← hX] at hrgX
   obtain ⟨fn,tmps,assign,body,hy,hR⟩:=hY (ps.map (·.2)) ⟨.agg (ecellsOf en ds z),en,ds,z,hds,rfl⟩ X hJ3 (by simp;omega)
   have HX:=hide hX
   have HXR:=hide hXr
   have HRGX:=hide hrgX
   clear hs2 hX hXr hrgX hJ2 hJ3
   dsimp only at hy
   gi_wp2_with (first
    | (refine wpListIn_store_row rfl 193 _ _ rfl w2.heap.size _ rfl rfl 193 _ (heap_alloc_new _ _) (size71 _ _ _ hds) (by rw [ecellsOf_size _ _ _ hds,ecellsOf_size _ _ _ (Sha.zeros_len _)]) (Array.all_eq_true_iff_forall_mem.2 fun u hu=>ecellsOf_one _ _ _ u (by simpa using hu)) ?_;rw [World.setRow_alloc_new,← HX.out])
    | (refine wpListIn_load_row rfl 193 _ rfl w2.heap.size rfl 193 _ _ _ HXR.out Tryz.underlying193 rfl (size71 _ _ _ hds) ?_)
    | gi_in)
   refine hR.mono ?_
   have hC2:Collected D0 (fun z=>left z && !z.sameKey (.string x)) ((ps ++ [(x,(⟨.agg (ecellsOf en ds z),en,ds,z,hds,rfl⟩ : EV))]).map (·.1)):=by simpa using hC.step hlk hat
   have hV2:∀ p∈ps ++ [(x,(⟨.agg (ecellsOf en ds z),en,ds,z,hds,rfl⟩ : EV))],ValE D0 p:=fun p hp=>(List.mem_append.1 hp).elim (hV p) (fun e=>by simp at e;subst e;exact hat)
   rintro e W3 (⟨rfl,hJ3,hk3⟩|⟨rfl,hJx3⟩)
   ·gi_wp2
    have hrg3:=HRGX.out.of_walks hk3
    go_roundw
    case rel=>exact ⟨_,cnt2,ps ++ [(x,_)],hrg3,by simp;omega,hC2,hV2,by simpa using hJ3⟩
    case measure=>rw [hrg3.left_eq,hrg.left_eq];exact hlt
   ·gi_wp2
    refine bodyPost_ret (results_none rfl _ _ _) rfl ?_
    exact ⟨⟨_,rfl⟩,.inr ⟨_,trivial,hJx3⟩⟩
theorem vals_in (F:Fence) (n:Nat) (hf:F.fn 173) (hro:F.round=none) (mb:Option Nat) (w:World) :
  CallsIn F n Tryz.prog 173 #[.map mb] w fun e w'=>e = .returned (.func (.func 217) #[] #[.pointer (some ⟨w.heap.size,0,none⟩)])∧w'=w.alloc (.cells #[.map mb] 157):=by
 refine callsIn_of_wp Tryz.func173 rfl hf ?_ hro
 simp only [Tryz.ntmps173,List.size_toArray,List.length_cons,List.length_nil,Nat.reduceAdd,Nat.reduceSub,Array.replicate_succ,Array.replicate_zero,List.push_toArray,List.append_toArray,List.nil_append,List.cons_append]
 gi_wp2
 go_ret
 exact ⟨rfl,rfl⟩
def AllV (D0:DataW Value) (xs:List EV):Prop:=∃ ps:List (List UInt8 × EV),(ps.map (·.1)).Perm (strKeys D0)∧(∀ p∈ps,ValE D0 p)∧xs=ps.map (·.2)
theorem vals_stops (F:Fence) (n:Nat) (hf:F.fn 217) (hro:F.round=none) (hn:1≤n) (Bm b nn:Nat) (D0:DataW Value) (hE:AllE D0) (w:World) (hm:w.cell? ⟨Bm,0,none⟩=some (.map (some b))) (hown:TM w b nn D0) :
  SeqStopsK F n Tryz.prog 217 #[.pointer (some ⟨Bm,0,none⟩)] (fun x:EV=>#[x.1]) KeepsWalks (AllV D0) (fun _=>True) (Maps.size D0) w:=fun l J Jx W hW hJ _ hY h0 =>
 vals1_in F n hf hro hn l Bm b nn D0 hE J Jx hY W hJ (cell_later hW hm) (owns_same hown (hW.block b hown.lt)) h0
set_option maxHeartbeats 4000000
set_option maxRecDepth 100000
open Go.RowKit Go.Shelf Go.Maps Go.Sort
attribute [local go_sem] Oper.semAt_some
def EV.cs (x:EV):List Value:=x.1.cells.toList
def AI (w:World) (pre:List EV) (W:World):Prop:=∃ sv,W.heap[w.heap.size]? = some (.cells #[sv] 138 (0,0))∧W.ownsRow w.heap.size 193 34 sv pre.length (pre.flatMap EV.cs)∧Below w.heap.size w W
theorem wpListIn_slice47 {F:Fence} {m:Nat} {ops:Array Oper} {rest:List Oper} {op:Oper} {a:Act} {w:World} {Q:Exit→Act→World→Prop} (hgd:op.guard=none) (x:Operand) (ho:op.op = .buildSlice 138 1 #[(0,x)])
  (n:ByteArray) (ds:List Nat) (k:Int) (hl:ds.length=32) (hx:a.eval x = .agg (ecellsOf n ds k))
  (h:wpListIn F m Tryz.prog ops Q rest (a.put op.dst (.slice (some ⟨w.heap.size,0,none⟩) 1 1)) (w.alloc (.cells (ecellsOf n ds k) 193))):wpListIn F m Tryz.prog ops Q (op::rest) a w:=by
 refine wpListIn_plain hgd fun K hK'=>?_
 have hr:=slice47 n ds k hl w
 unfold Oper.wpIn
 refine ⟨?_,?_⟩
 ·simp [Oper.about,ho]
 ·rw [Oper.semAt_plain F _ _ (by rw [ho];intro c hc';cases hc')]
  unfold execOp
  simp only [ho,hx,List.map_toArray,List.map_cons,List.map_nil,Sem.run_bind,Sem.run_pure,hr,Result.andThen_ok]
  exact hK' _ _ h
theorem new_cells (W:World) (cs:Array Value) (T:TypeId):∀ j u,cs.toList[j]? = some u→(W.alloc (.cells cs T)).cell? ((⟨W.heap.size,0,none⟩ : Addr).add j)=some u:=by
 intro j u hu
 have hadd:(⟨W.heap.size,0,none⟩ : Addr).add j=⟨W.heap.size,j,none⟩:=by unfold Addr.add;split<;>simp_all
 rw [hadd,cell_of_row _ _ j _ _ _ (heap_alloc_new _ _)]
 simpa using hu
theorem own_ge {w:World} {B:Nat} {e:TypeId} {size n:Nat} {v:Value} {l:List Value} (h:w.ownsRow B e size v n l):∀ k,v.ownBlock=some k→B≤k:=by
 intro k hk
 obtain ⟨_,h2⟩:=h
 rcases h2 with ⟨rfl,_⟩|⟨g',cap',cur,rfl,hB,_⟩
 ·cases hk
 ·have:some g'=some k:=hk
  injection this with this
  omega
theorem ai_own (w:World) (B:Nat) (hB:w.heap.size≤B):OwnFrom B (AI w):=by
 rintro pre X Y row ⟨sv,h1,h2,h3⟩ hgr hr
 have key:∀ (k:Nat) (cur:Array Value) (T:TypeId),X.heap[k]? = some (.cells cur T (0,0))→Y.heap[k]? = X.heap[k]?:=fun k cur T hc=>hgr.block k (lt_heap hc) (fun e=>by
  obtain ⟨o,x2,x3⟩:=(hr k e.symm).2
  rw [hc] at x2
  cases x2
  cases x3)
 refine ⟨sv,(key _ _ _ h1).trans h1,own_same h2 (fun k hk _=>?_),h3.grown hgr h3.size (fun k e=>by have:=(hr k e).1;omega)⟩
 obtain ⟨c,hc⟩:=own_obj h2 k hk
 exact key _ _ _ hc
def AX (w:World) (g:Nat) (lb:Array Value) (x:EV) (a:Act) (W:World):Prop:=∃ vb,w.heap.size<vb∧a = { tmps:=#[.slice none 0 0,.func (.func g) #[] lb,.pointer (some ⟨w.heap.size,0,none⟩),undef,.slice none 0 0,.pointer (some ⟨vb,0,none⟩),.func (.func g) #[] lb,x.1,undef,undef,undef,undef,undef],defers:=[] }∧W.heap[vb]? = some (.cells x.1.cells 193 (0,0))
theorem ax_own (w:World) (g:Nat) (lb:Array Value) (B:Nat) (x:EV) (a:Act):OwnFrom B (fun (_:Unit) W=>AX w g lb x a W):=by
 rintro _ X Y row ⟨vb,h0,h1,h2⟩ hgr hr
 exact ⟨vb,h0,h1,(hgr.block vb (lt_heap h2) (fun e=>by
  obtain ⟨o,x2,x3⟩:=(hr vb e.symm).2
  rw [h2] at x2
  cases x2
  cases x3)).trans h2⟩
theorem appendSeq_in (n:Nat) (hn:5≤n) (g:Nat) (lb:Array Value) (eg:∀ args w,(callFunc g args).run Tryz.prog w = .ok (.enter g args) w) (S:List EV→Prop) (N:Nat) (hN:N≤1000) (w:World)
  (hseq:SeqStopsK Fence.wide (n - 1) Tryz.prog g lb (fun x:EV=>#[x.1]) KeepsWalks S (fun _=>True) N w) :
  CallsIn Fence.wide n Tryz.prog 246 #[.slice none 0 0,.func (.func g) #[] lb] w fun e w'=>∃ v xs,e = .returned v∧S xs∧w'.ownsRow w.heap.size 193 34 v xs.length (xs.flatMap EV.cs)∧Below w.heap.size w w':=by
 have hz71:=(zero_of_info Tryz.info71b).1
 obtain ⟨i0,hi,hz0,hz1,hz2⟩:=info_parts Tryz.info193
 refine callsIn_of_wp_marks Tryz.func246 rfl trivial ?_ rfl
 simp only [Tryz.ntmps246,List.size_toArray,List.length_cons,List.length_nil,Nat.reduceAdd,Nat.reduceSub,Array.replicate_succ,Array.replicate_zero,List.push_toArray,List.append_toArray,List.nil_append,List.cons_append]
 gi_wp2_with fail
 obtain ⟨w1,hw1⟩ : ∃ w1,w1=w.alloc (.cells #[.slice none 0 0] 138):=⟨_,rfl⟩
 have hb1:Below w.heap.size w w1:=by rw [hw1];exact (Below.refl _ _).alloc (Nat.le_refl _) _
 have hx1:w1.heap[w.heap.size]? = some (.cells #[.slice none 0 0] 138 (0,0)):=by rw [hw1];exact heap_alloc_new _ _
 have hs1:w1.heap.size=w.heap.size+1:=by rw [hw1,size_alloc]
 rw [← hw1]
 refine wpIn_rangeFunc_ownH (F:=Fence.wide) (n:=n) rfl (by omega) (gf:=g) (lb:=lb) rfl trivial eg hseq KeepsWalks.trans (walksK_b (w:=w1)) hb1 (fun _=>rfl)
  (AI w) (fun _ _ _=>False) (ai_own w _ (by omega)) (fun _ _ _ _ _ h _ _=>h.elim)
  ⟨_,hx1,World.ownsRow_nil _ _ _ _,hb1⟩ (AX w g lb) (ax_own w g lb _) ?assign ?body ?done ?stop
 case assign =>
  rintro l pre ⟨_,en,ds,z,hds,rfl⟩ W K hI hK
  have hgr:=World.grownBy_alloc W (.cells (ecellsOf en ds z) 193) none
  have hIX:=ai_own w W.heap.size (by obtain ⟨sv,i1,i2,i3⟩:=hI;exact i3.size) pre W _ none hI hgr (fun r e=>by cases e)
  have hvb:w.heap.size<W.heap.size:=by
   obtain ⟨sv,i1,i2,i3⟩:=hI
   exact lt_heap i1
  have HK:=hide (hK _ (W.alloc (.cells (ecellsOf en ds z) 193)) ⟨by simp,fun k o _ hk _=>(Below.heap_alloc _ _ _ (lt_heap hk)).trans hk⟩ ⟨by simp,fun k o hk _=>(Below.heap_alloc _ _ _ (lt_heap hk)).trans hk⟩ hIX ⟨W.heap.size,hvb,rfl,heap_alloc_new _ _⟩)
  clear hI hIX hK hgr
  gi_wp2_with (first
   | (refine wpListIn_store_row rfl 193 _ _ rfl W.heap.size _ rfl rfl 193 _ (heap_alloc_new _ _) (size71 _ _ _ hds) (by rw [ecellsOf_size _ _ _ hds,ecellsOf_size _ _ _ (Sha.zeros_len _)]) (Array.all_eq_true_iff_forall_mem.2 fun u hu=>ecellsOf_one _ _ _ u (by simpa using hu)) ?_;rw [World.setRow_alloc_new])
   | gi_in)
  exact HK.out
 case body =>
  rintro l pre ⟨_,en,ds,z,hds,rfl⟩ a' W hl ⟨r,hr⟩ ⟨sv,i1,i2,i3⟩ ⟨vb,hvb,rfl,hv⟩ hlen
  obtain ⟨so,sc,rfl⟩:=own_sl i2
  have ce:=cell_of_row _ _ 0 _ _ _ i1
  have HI2:=hide i2
  have HI1:=hide i1
  have HI3:=hide i3
  have HV:=hide hv
  have hwW:w.heap.size<W.heap.size:=lt_heap i1
  have HBOX:Hid (∀ w2:World,(W.alloc (.cells (ecellsOf en ds z) 193)).grownBy w2 (Value.slice so pre.length sc).ownBlock→w2.heap[w.heap.size]? = some (.cells #[.slice so pre.length sc] 138 (0,0))):=hide (fun w2 hg2=>by
   refine (hg2.block _ (by rw [size_alloc];omega) (fun e=>?_)).trans ((Below.heap_alloc _ _ _ hwW).trans i1)
   obtain ⟨c,hc⟩:=own_obj i2 _ e.symm
   rw [i1] at hc
   injection hc with hc
   injection hc with _ hc
   exact absurd hc (by decide))
  have HEC:=hide (new_cells W (ecellsOf en ds z) 193)
  clear i1 i2 i3 hv
  dsimp only
  gi_wp2_with (first
   | (refine wpListIn_load_row rfl 193 _ rfl vb rfl 193 _ _ _ HV.out Tryz.underlying193 rfl (size71 _ _ _ hds) ?_)
   | (refine wpListIn_slice47 rfl _ rfl en ds z hds rfl ?_)
   | (refine wpListIn_append_own _ rfl _ _ 138 rfl w.heap.size 193 i0 _ 34 56 Tryz.underlying138 hi hz0 hz1 hz2 (ecellsOf_size _ _ _ (Sha.zeros_len _)) (by decide) _ pre.length _ rfl (ownsRow_later HI2.out ((Below.refl _ _).alloc (Nat.le_refl _) _)) _ 1 1 (ecellsOf en ds z).toList rfl (by rw [Array.length_toList,ecellsOf_size _ _ _ hds]) HEC.out (ecellsOf_one _ _ _) (by unfold maxLen;omega) (by omega) (by simp;omega) ?_;rintro v2 w2 hv2 hg2 -;obtain ⟨so2,sc2,rfl⟩:=own_sl hv2;have hbx:=HBOX.out w2 hg2;have cb:=cell_of_row _ _ 0 _ _ _ hbx;have fb:=frozen_of_row _ _ 0 _ _ hbx;have HV2:=hide hv2;have HG2:=hide hg2;have HBX:=hide hbx;clear hv2 hg2 hbx)
   | gi_in)
  have hoth:∀ (k:Nat) (o:Obj),W.heap[k]? = some o→o.isCells=false→(w2.setCell ⟨w.heap.size,0,none⟩ (.slice so2 (pre.length+1) sc2)).heap[k]? = some o:=by
   intro k o hk ho
   rw [heap_setCell_other _ _ _ _ (fun e=>?_)]
   ·refine (HG2.out.block k (by rw [size_alloc];have:=lt_heap hk;omega) (fun e=>?_)).trans ((Below.heap_alloc _ _ _ (lt_heap hk)).trans hk)
    obtain ⟨c,hc⟩:=own_obj HI2.out _ e.symm
    rw [hc] at hk
    cases hk
    cases ho
   ·have e:k=w.heap.size:=e
    subst e
    rw [HI1.out] at hk
    cases hk
    cases ho
  have hsz:W.heap.size≤(w2.setCell ⟨w.heap.size,0,none⟩ (.slice so2 (pre.length+1) sc2)).heap.size:=by
   have:=HG2.out.size
   simp only [size_alloc] at this
   simp
   omega
  refine ⟨⟨hsz,fun k o _ hk ho=>hoth k o hk ho⟩,⟨hsz,fun k o hk ho=>hoth k o hk (Obj.not_cells_of_walk ho)⟩,.slice so2 (pre.length+1) sc2,?_,?_,?_⟩
  ·rw [heap_setCell_same _ w.heap.size 0 _ _ _ HBX.out]
   rfl
  ·have hrow:=own_same (w':=w2.setCell ⟨w.heap.size,0,none⟩ (.slice so2 (pre.length+1) sc2)) HV2.out (fun k hk _=>heap_setCell_other _ _ _ _ (fun e=>by
    have e:k=w.heap.size:=e
    subst e
    obtain ⟨c,hc⟩:=own_obj HV2.out _ hk
    rw [HBX.out] at hc
    injection hc with hc
    injection hc with _ hc
    exact absurd hc (by decide)))
   rw [List.flatMap_append,List.length_append]
   simp only [List.flatMap_cons,List.flatMap_nil,List.append_nil]
   exact hrow
  ·have h1:Below w.heap.size w w2:=(HI3.out.alloc HI3.out.size _).grown HG2.out (by rw [size_alloc];omega) (fun k e=>own_ge HI2.out k e)
   exact ⟨h1.os,h1.tape,h1.output,by simpa using h1.size,fun k hk=>(heap_setCell_other _ _ _ _ (fun e=>by have e:k=w.heap.size:=e;omega)).trans (h1.block k hk)⟩
 case done =>
  rintro D xs W hD hS ⟨sv,i1,i2,i3⟩ hK
  obtain ⟨so,sc,rfl⟩:=own_sl i2
  have ce:=cell_of_row _ _ 0 _ _ _ i1
  have HI2:=hide i2
  have HI3:=hide i3
  have HI1:=hide i1
  clear i1 i2 i3
  gi_wp2
  refine ⟨by simp,.inl ⟨_,_,rfl,run_takeDeferred hK,?_⟩⟩
  refine ⟨_,results_tmp rfl _ _ _,_,xs,rfl,hS,own_same HI2.out (fun k hk _=>World.putObj_heap_other (fun e=>?_)),HI3.out.grown (grown_put _ _ _) HI3.out.size (fun k e=>by injection e with e;omega)⟩
  subst e
  obtain ⟨c,hc⟩:=own_obj HI2.out k hk
  rw [hc] at hK
  cases hK
 case stop =>
  rintro D c pre W hD _ h
  exact h.elim
theorem collect_in (n:Nat) (hn:6≤n) (g:Nat) (lb:Array Value) (eg:∀ args w,(callFunc g args).run Tryz.prog w = .ok (.enter g args) w) (S:List EV→Prop) (N:Nat) (hN:N≤1000) (w:World)
  (hseq:SeqStopsK Fence.wide (n - 1 - 1) Tryz.prog g lb (fun x:EV=>#[x.1]) KeepsWalks S (fun _=>True) N w) :
  CallsIn Fence.wide n Tryz.prog 215 #[.func (.func g) #[] lb] w fun e w'=>∃ v xs,e = .returned v∧S xs∧w'.ownsRow w.heap.size 193 34 v xs.length (xs.flatMap EV.cs)∧Below w.heap.size w w':=by
 have f1:Fence.wide.fn 246:=trivial
 have HA:=hide (appendSeq_in (n - 1) (by omega) g lb eg S N hN w hseq)
 refine callsIn_of_wp Tryz.func215 rfl trivial ?_ rfl
 simp only [Tryz.ntmps215,List.size_toArray,List.length_cons,List.length_nil,Nat.reduceAdd,Nat.reduceSub,Array.replicate_succ,Array.replicate_zero,List.push_toArray,List.append_toArray,List.nil_append,List.cons_append]
 gi_wp2_with fail
 refine ⟨fun _=>by omega,?_⟩
 refine (HA.out).mono ?_
 rintro _ w1 ⟨v,xs,rfl,h1,h2,h3⟩
 dsimp only
 have H2:=hide h2
 clear h2
 gi_wp2_with fail
 go_ret
 exact ⟨_,xs,rfl,h1,H2.out,h3⟩
set_option maxHeartbeats 1000000
set_option maxRecDepth 100000
open Go.RowKit
theorem bitsLen64_one (n:Nat) (hn:n≤1) (w:World):Calls Tryz.prog 242 #[.int .u64 ((n:Nat):Int)] w fun e w'=>∃ k,e = .returned (.int .i64 k)∧w'=w:=by
 have h2:n=0∨n=1:=by omega
 rcases h2 with rfl|rfl
 ·go_enter Tryz.func242,Tryz.ntmps242
  go_wp2_with fail
  go_ret
  exact ⟨_,rfl,rfl⟩
 ·go_enter Tryz.func242,Tryz.ntmps242
  go_wp2_with fail
  go_ret
  exact ⟨_,rfl,rfl⟩
theorem bitsLen_one (n:Nat) (hn:n≤1) (w:World):Calls Tryz.prog 209 #[.int .u64 ((n:Nat):Int)] w fun e w'=>∃ k,e = .returned (.int .i64 k)∧w'=w:=by
 have HL:=hide (bitsLen64_one n hn w)
 have hw:IntKind.wrap .u64 ((n:Nat):Int)=((n:Nat):Int):=by
  have h2:n=0∨n=1:=by omega
  rcases h2 with rfl|rfl<;>decide
 go_enter Tryz.func209,Tryz.ntmps209
 go_wp2_with fail
 refine (HL.out).mono ?_
 rintro _ w1 ⟨k,rfl,rfl⟩
 dsimp only
 go_wp2_with fail
 go_ret
 exact ⟨_,rfl,rfl⟩
theorem insE_one (o:Option Addr) (n c:Nat) (hn:n≤1) (f:Value) (w:World):Calls Tryz.prog 269 #[.slice o n c,.int .i64 0,.int .i64 ((n:Nat):Int),f] w fun e w'=>e = .returned (.tuple #[])∧w'=w:=by
 have d1:decide ((1:Int)<((n:Nat):Int))=false:=decide_eq_false (by omega)
 go_enter Tryz.func269,Tryz.ntmps269
 go_wp2_with fail
 go_loopw [8] (fun iv wr=>iv = .int .i64 1∧wr=w) (fun _ _=>0)
 case atStart=>exact ⟨rfl,rfl⟩
 case round =>
  obtain ⟨rfl,rfl⟩:=hrel
  go_wp2_with fail
  go_end0
  exact ⟨rfl,rfl⟩
theorem pdqE_one (o:Option Addr) (n c:Nat) (hn:n≤1) (k:Int) (f:Value) (w:World):Calls Tryz.prog 247 #[.slice o n c,.int .i64 0,.int .i64 ((n:Nat):Int),.int .i64 k,f] w fun e w'=>e = .returned (.tuple #[])∧w'=w:=by
 have HI:=hide (insE_one o n c hn f w)
 have d1:decide (((n:Nat):Int)≤12)=true:=decide_eq_true (by omega)
 go_enter Tryz.func247,Tryz.ntmps247
 go_wp2_with fail
 go_loopw [1,2] (fun av bv wr=>av = .int .i64 0∧bv = .int .i64 ((n:Nat):Int)∧wr=w) (fun _ _ _=>0)
 case atStart=>exact ⟨rfl,rfl,rfl⟩
 case round =>
  obtain ⟨rfl,rfl,rfl⟩:=hrel
  go_wp2_with fail
  refine (HI.out).mono ?_
  rintro _ w1 ⟨rfl,rfl⟩
  dsimp only
  go_wp2_with fail
  refine bodyPost_ret (results_none rfl _ _ _) rfl ?_
  exact ⟨rfl,rfl⟩
theorem sortE_one (o:Option Addr) (n c:Nat) (hn:n≤1) (f:Value) (w:World):Calls Tryz.prog 216 #[.slice o n c,f] w fun e w'=>e = .returned (.tuple #[])∧w'=w:=by
 have HB:=hide (bitsLen_one n hn w)
 have HP:=hide (fun k=>pdqE_one o n c hn k f w)
 have hw:IntKind.wrap .u64 ((n:Nat):Int)=((n:Nat):Int):=by
  have h2:n=0∨n=1:=by omega
  rcases h2 with rfl|rfl<;>decide
 go_enter Tryz.func216,Tryz.ntmps216
 go_wp2_with fail
 refine (HB.out).mono ?_
 rintro _ w1 ⟨k,rfl,rfl⟩
 dsimp only
 go_wp2_with fail
 refine (HP.out _).mono ?_
 rintro _ w1 ⟨rfl,rfl⟩
 dsimp only
 go_wp2_with fail
 go_end0
 exact ⟨rfl,rfl⟩
theorem insD_one (o:Option Addr) (n c:Nat) (hn:n≤1) (f:Value) (w:World):Calls Tryz.prog 233 #[.slice o n c,.int .i64 0,.int .i64 ((n:Nat):Int),f] w fun e w'=>e = .returned (.tuple #[])∧w'=w:=by
 have d1:decide ((1:Int)<((n:Nat):Int))=false:=decide_eq_false (by omega)
 go_enter Tryz.func233,Tryz.ntmps233
 go_wp2_with fail
 go_loopw [8] (fun iv wr=>iv = .int .i64 1∧wr=w) (fun _ _=>0)
 case atStart=>exact ⟨rfl,rfl⟩
 case round =>
  obtain ⟨rfl,rfl⟩:=hrel
  go_wp2_with fail
  go_end0
  exact ⟨rfl,rfl⟩
theorem pdqD_one (o:Option Addr) (n c:Nat) (hn:n≤1) (k:Int) (f:Value) (w:World):Calls Tryz.prog 208 #[.slice o n c,.int .i64 0,.int .i64 ((n:Nat):Int),.int .i64 k,f] w fun e w'=>e = .returned (.tuple #[])∧w'=w:=by
 have HI:=hide (insD_one o n c hn f w)
 have d1:decide (((n:Nat):Int)≤12)=true:=decide_eq_true (by omega)
 go_enter Tryz.func208,Tryz.ntmps208
 go_wp2_with fail
 go_loopw [1,2] (fun av bv wr=>av = .int .i64 0∧bv = .int .i64 ((n:Nat):Int)∧wr=w) (fun _ _ _=>0)
 case atStart=>exact ⟨rfl,rfl,rfl⟩
 case round =>
  obtain ⟨rfl,rfl,rfl⟩:=hrel
  go_wp2_with fail
  refine (HI.out).mono ?_
  rintro _ w1 ⟨rfl,rfl⟩
  dsimp only
  go_wp2_with fail
  refine bodyPost_ret (results_none rfl _ _ _) rfl ?_
  exact ⟨rfl,rfl⟩
theorem sortD_one (o:Option Addr) (n c:Nat) (hn:n≤1) (f:Value) (w:World):Calls Tryz.prog 160 #[.slice o n c,f] w fun e w'=>e = .returned (.tuple #[])∧w'=w:=by
 have HB:=hide (bitsLen_one n hn w)
 have HP:=hide (fun k=>pdqD_one o n c hn k f w)
 have hw:IntKind.wrap .u64 ((n:Nat):Int)=((n:Nat):Int):=by
  have h2:n=0∨n=1:=by omega
  rcases h2 with rfl|rfl<;>decide
 go_enter Tryz.func160,Tryz.ntmps160
 go_wp2_with fail
 refine (HB.out).mono ?_
 rintro _ w1 ⟨k,rfl,rfl⟩
 dsimp only
 go_wp2_with fail
 refine (HP.out _).mono ?_
 rintro _ w1 ⟨rfl,rfl⟩
 dsimp only
 go_wp2_with fail
 go_end0
 exact ⟨rfl,rfl⟩
end Go.Proofs.YtncigfibncmioaaGreatDoor
namespace Go.Proofs.YtncigfibncmioaaGreatDoor
open Go.RowKit Go.Shelf
structure TE where
 n:ByteArray
 d:List Nat
 z:Int
deriving DecidableEq
structure TE.Ok (t:TE):Prop where
 n:t.n.size≤20
 len:t.d.length=32
 lt:∀ i,t.d.getD i 0<256
 z0:0≤t.z
 z1:t.z≤300
def TE.v (t:TE):Value:=.agg (ecellsOf t.n t.d t.z)
abbrev tD (l:List TE):DataW Value:=mD TE.n TE.v l
abbrev RiseT (l:List TE):Prop:=RiseK TE.n l
def TL (w:World) (b:Nat) (l:List TE):Prop:=TM w b l.length (tD l)
theorem tl_tight {w:World} {b n:Nat} {l:List TE} (h:TM w b n (tD l)):TL w b l:=mD_tight h
theorem TL.rise {w:World} {b:Nat} {l:List TE} (h:TL w b l):RiseT l:=mD_rise h str_keyed
theorem TL.same {w w':World} {b:Nat} {l:List TE} (h:TL w b l) (hb:w'.heap[b]? = w.heap[b]?):TL w' b l:=owns_same h hb
theorem TL.lt {w:World} {b:Nat} {l:List TE} (h:TL w b l):b<w.heap.size:=World.ownsMap.lt h
theorem allE_tD {l:List TE} (hr:RiseT l) (h:∀ t∈l,t.Ok):AllE (tD l):=by
 intro kl v hv
 have hk:Maps.has (tD l) kl=true:=by
  simp only [tD,mD,DataW.atKey] at hv
  simp only [Maps.has,tD,mD]
  cases hf:(l.map (mE TE.n TE.v)).find? (fun x=>x.1.sameKey kl) with
  | none=>rw [hf] at hv;cases hv
  | some y=>exact List.any_eq_true.2 ⟨y,List.mem_of_find?_eq_some hf,by simpa using List.find?_some hf⟩
 obtain ⟨t,ht,rfl⟩:=mD_any hk
 rw [mD_at,findK_mem hr ht] at hv
 injection hv with hv
 exact ⟨t.n,t.d,t.z,(h t ht).len,hv.symm⟩
theorem strKeys_tD (l:List TE):strKeys (tD l)=l.map fun t=>t.n.data.toList:=by
 simp only [strKeys,tD,mD,List.map_map]
 rfl
end Go.Proofs.YtncigfibncmioaaGreatDoor
namespace Go.Proofs.YtncigfibncmioaaGreatDoor
set_option maxHeartbeats 1000000
set_option maxRecDepth 100000
open Go.RowKit
theorem equal_short (b1 b2 n1 n2:Nat) (D1 D2:DataW Value) (w:World) (h1:TM w b1 n1 D1) (h2:TM w b2 n2 D2) (hne:Maps.size D1≠Maps.size D2) :
  Calls Tryz.prog 165 #[.map (some b1),.map (some b2)] w fun e w'=>e = .returned (.bool false)∧w'=w:=by
 have l1:=h1.len Tryz.underlying157
 have l2:=h2.len Tryz.underlying157
 have hd:(((Maps.size D1:Nat):Int) == ((Maps.size D2:Nat):Int))=false:=by simpa using fun h=>hne (by omega)
 have hd2:¬ ((Maps.size D1:Nat):Int)=((Maps.size D2:Nat):Int):=by omega
 go_enter Tryz.func165,Tryz.ntmps165
 go_wp2_with fail
 go_ret
 exact ⟨rfl,rfl⟩
def flCells (fl:List (ByteArray × ByteArray)):List Value:=fl.flatMap fun f=>[.string f.1,.string f.2]
theorem StW.row {W W':World} {sb:Nat} {s:PSt} {cb tb nc nt:Nat} {Dc Dt:DataW Value} {row:Option Nat} (h:StW W sb s cb tb nc nt Dc Dt) (hg:W.grownBy W' row) (hr:∀ r,row=some r→(∃ cur,W.heap[r]? = some (.cells cur 222 (0,0)))∧¬ isG r):StW W' sb s cb tb nc nt Dc Dt:=by
 have hne:∀ {x n:Nat} {k:TypeId} {D:DataW Value},W.ownsMap Tryz.prog k heldR x n D→W'.heap[x]? = W.heap[x]?:=by
  rintro x n k D hx
  refine hg.block x hx.lt (fun e=>?_)
  obtain ⟨es,clock,h1,_⟩:=hx
  obtain ⟨⟨cur,h2⟩,_⟩:=hr x e.symm
  rw [h1] at h2
  cases h2
 refine ⟨h.inn.same (fun k hk=>hg.block k (h.inn.lt hk) (fun e=>?_)),h.gl.same hg.size (fun k hk=>hg.block k (h.gl.lt hk) (fun e=>(hr k e.symm).2 hk)),h.low,(hg.block sb (lt_heap h.blk) (fun e=>?_)).trans h.blk,owns_same h.cm (hne h.cm),owns_same h.tm (hne h.tm),h.ncb,h.ntb,h.gcb,h.gtb,h.gsb,h.ne⟩
 ·obtain ⟨⟨cur,h2⟩,_⟩:=hr k e.symm
  rcases h.inn.typed hk h2 with h3|h3|h3|h3<;>exact absurd h3 (by decide)
 ·obtain ⟨⟨cur,h2⟩,_⟩:=hr sb e.symm
  rw [h.blk] at h2
  injection h2 with h2
  injection h2 with _ h2
  exact absurd h2 (by decide)
theorem szs_le {M:Nat}:∀ (l:List Stp),(∀ t∈l,t.sz≤M)→szs l≤l.length * M
 | [],_=>by simp [szs]
 | t::l,h=>by
  have h1:=szs_le l (fun x hx=>h x (by simp [hx]))
  have h2:=h t (by simp)
  unfold szs at h1 ⊢
  simp only [List.map_cons,List.sum_cons,List.length_cons]
  rw [Nat.add_mul]
  omega
theorem szs_wr_le {M:Nat} (fl:List (ByteArray × ByteArray)) (h:∀ f∈fl,f.2.size≤M):szs (wrS fl)≤fl.length * M:=by
 rw [szs_wr,szs_bi,Nat.add_zero]
 have:=szs_le (M:=M) (apL fl) (fun t ht=>by
  simp only [apL,List.mem_map,List.mem_range] at ht
  obtain ⟨i,hi,rfl⟩:=ht
  have:fl.getD i f0∈fl:=by rw [List.getD_eq_getElem?_getD,List.getElem?_eq_getElem hi];exact List.getElem_mem hi
  exact h _ this)
 rwa [apL_len] at this
theorem Tryz.infoFile:(Tryz.prog.info? 222).map (fun i=>(i.zero,i.size,i.bytes))=some (some (.agg #[.string ⟨#[]⟩,.string ⟨#[]⟩]),2,32):=by kernel_rfl
theorem flCells_at (fl:List (ByteArray × ByteArray)):∀ i,i<fl.length→(flCells fl)[i * 2]? = some (.string (fl.getD i f0).1)∧(flCells fl)[i * 2+1]? = some (.string (fl.getD i f0).2):=by
 induction fl with
 | nil=>intro i hi;cases hi
 | cons f fl ih =>
  intro i hi
  cases i with
  | zero=>exact ⟨rfl,rfl⟩
  | succ i =>
   have:=ih i (by simpa using hi)
   rw [show (i+1) * 2=i * 2+1+1 by omega]
   exact this
theorem fl_at {w:World} {B:Nat} {v:Value} {fl:List (ByteArray × ByteArray)} (h:w.ownsRow B 222 2 v fl.length (flCells fl)):FlAt w v fl:=by
 obtain ⟨hlen,h2⟩:=h
 rcases h2 with ⟨rfl,hl⟩|⟨g,cap,cur,rfl,_,hg,_,_,hsz,htk⟩
 ·have:fl = []:=List.length_eq_zero_iff.1 hl
  subst this
  exact ⟨none,0,rfl,fun i hi=>by cases hi⟩
 ·have key:∀ j,j<fl.length * 2→cur[j]? = (flCells fl)[j]?:=by
   intro j hj
   rw [← htk,List.getElem?_take,if_pos (by omega)]
   simp
  refine ⟨_,cap,rfl,fun i hi=>⟨g,cur,(0,0),rfl,hg,?_,?_⟩⟩
  ·rw [cell_of_row _ _ (i * 2) _ _ _ hg,key _ (by omega)]
   exact (flCells_at fl i hi).1
  ·rw [cell_of_row _ _ (i * 2+1) _ _ _ hg,key _ (by omega)]
   exact (flCells_at fl i hi).2
end Go.Proofs.YtncigfibncmioaaGreatDoor
namespace Go.Proofs.YtncigfibncmioaaGreatDoor
open Go.RowKit Go.Shelf Go.Maps
theorem part_ent_lit (n:ByteArray) (z:Int) (x0 x1 x2 x3 x4 x5 x6 x7 x8 x9 x10 x11 x12 x13 x14 x15 x16 x17 x18 x19 x20 x21 x22 x23 x24 x25 x26 x27 x28 x29 x30 x31:Value) (w:World) :
  (part 117 #[.string n,x0,x1,x2,x3,x4,x5,x6,x7,x8,x9,x10,x11,x12,x13,x14,x15,x16,x17,x18,x19,x20,x21,x22,x23,x24,x25,x26,x27,x28,x29,x30,x31,.int .i64 z] 1).run Tryz.prog w = .ok (.agg #[x0,x1,x2,x3,x4,x5,x6,x7,x8,x9,x10,x11,x12,x13,x14,x15,x16,x17,x18,x19,x20,x21,x22,x23,x24,x25,x26,x27,x28,x29,x30,x31]) w
  ∧ (part 9 #[.string n,x0,x1,x2,x3,x4,x5,x6,x7,x8,x9,x10,x11,x12,x13,x14,x15,x16,x17,x18,x19,x20,x21,x22,x23,x24,x25,x26,x27,x28,x29,x30,x31,.int .i64 z] 0).run Tryz.prog w = .ok (.string n) w
  ∧ (part 3 #[.string n,x0,x1,x2,x3,x4,x5,x6,x7,x8,x9,x10,x11,x12,x13,x14,x15,x16,x17,x18,x19,x20,x21,x22,x23,x24,x25,x26,x27,x28,x29,x30,x31,.int .i64 z] 33).run Tryz.prog w = .ok (.int .i64 z) w:=⟨by kernel_rfl,by kernel_rfl,by kernel_rfl⟩
theorem part_ent (n:ByteArray) (ds:List Nat) (z:Int) (h:ds.length=32) (w:World):(part 117 (ecellsOf n ds z) 1).run Tryz.prog w = .ok (.agg (cells8 ds)) w∧(part 9 (ecellsOf n ds z) 0).run Tryz.prog w = .ok (.string n) w∧(part 3 (ecellsOf n ds z) 33).run Tryz.prog w = .ok (.int .i64 z) w:=by
 obtain ⟨x0,x1,x2,x3,x4,x5,x6,x7,x8,x9,x10,x11,x12,x13,x14,x15,x16,x17,x18,x19,x20,x21,x22,x23,x24,x25,x26,x27,x28,x29,x30,x31,rfl⟩:=list32 ds h
 exact part_ent_lit n z _ _ _ _ _ _ _ _ _ _ _ _ _ _ _ _ _ _ _ _ _ _ _ _ _ _ _ _ _ _ _ _ w
theorem ent_under:Tryz.prog.underlying 193=some (.struct (Tryz.prog.fieldsOf 193)):=by kernel_rfl
theorem ent_stood:Tryz.prog.stoodInHeld 193=false:=by kernel_rfl
theorem ent_fields:(Tryz.prog.fieldsOf 193).toList.map (fun f=>(f.name == "_",f.type,f.offset)) = [(false,9,0),(false,117,1),(false,3,33)]:=by kernel_rfl
theorem ent_three:∃ f1 f2 f3:Field,(Tryz.prog.fieldsOf 193).toList = [f1,f2,f3]∧(f1.name == "_")=false∧f1.type=9∧f1.offset=0∧(f2.name == "_")=false∧f2.type=117∧f2.offset=1∧(f3.name == "_")=false∧f3.type=3∧f3.offset=33:=by
 have h:=ent_fields
 generalize (Tryz.prog.fieldsOf 193).toList=fs at h ⊢
 obtain ⟨f1,r1,rfl,h1,h⟩:=List.map_eq_cons_iff.1 h
 obtain ⟨f2,r2,rfl,h2,h⟩:=List.map_eq_cons_iff.1 h
 obtain ⟨f3,r3,rfl,h3,h⟩:=List.map_eq_cons_iff.1 h
 have:r3 = []:=List.map_eq_nil_iff.1 h
 subst this
 simp only [Prod.mk.injEq] at h1 h2 h3
 exact ⟨f1,f2,f3,rfl,h1.1,h1.2.1,h1.2.2,h2.1,h2.2.1,h2.2.2,h3.1,h3.2.1,h3.2.2⟩
theorem eqFields_none {P:Program} (d:Nat) (xs ys:Array Value) (w:World):(Op.eqFields d xs ys []).run P w = .ok true w:=by simp [Op.eqFields]
theorem eqFields_more {P:Program} {d:Nat} {xs ys:Array Value} {f:Field} {fs:List Field} {w:World} {a b:Value} {r:Bool} (hn:f.name ≠ "_") (h1:(part f.type xs f.offset).run P w = .ok a w) (h2:(part f.type ys f.offset).run P w = .ok b w) (h3:(Op.equalIn d f.type a b).run P w = .ok r w) :
  (Op.eqFields d xs ys (f::fs)).run P w=if r then (Op.eqFields d xs ys fs).run P w else .ok false w:=by
 simp only [Op.eqFields,Sem.run_bind,Sem.run_ite]
 rw [if_pos (by simpa using hn),h1]
 simp only [Result.andThen_ok]
 rw [h2]
 simp only [Result.andThen_ok]
 rw [h3]
 cases r<;>simp
theorem eq_ent (d:Nat) (a b:TE) (ha:a.Ok) (hb:b.Ok) (w:World) :
  (Op.equalIn (d+3) 193 a.v b.v).run Tryz.prog w = .ok (decide (a=b)) w:=by
 unfold TE.v
 rw [run_equalIn_struct w (d+2) 193 _ _ ent_under ent_stood]
 obtain ⟨f1,f2,f3,hfs,n1,t1,o1,n2,t2,o2,n3,t3,o3⟩:=ent_three
 rw [hfs]
 obtain ⟨pa1,pa2,pa3⟩:=part_ent a.n a.d a.z ha.len w
 obtain ⟨pb1,pb2,pb3⟩:=part_ent b.n b.d b.z hb.len w
 have e1:=run_equalIn_string (P:=Tryz.prog) w (d+1) 9 a.n b.n Tryz.underlying9
 have e2:=eq_dig d a.d b.d ha.len hb.len ha.lt hb.lt w
 have e3:=run_equalIn_int (P:=Tryz.prog) w (d+1) 3 .i64 .i64 a.z b.z Tryz.underlying3
 have m1:f1.name ≠ "_" := by simpa using n1
 have m2:f2.name ≠ "_" := by simpa using n2
 have m3:f3.name ≠ "_" := by simpa using n3
 obtain ⟨an,ad,az⟩:=a
 obtain ⟨bn,bd,bz⟩:=b
 simp only at pa1 pa2 pa3 pb1 pb2 pb3 e1 e2 e3
 have hd:decide ((⟨an,ad,az⟩ : TE)=⟨bn,bd,bz⟩)=((an.toList == bn.toList) && (decide (ad=bd) && (az == bz))):=by
  have h1:(an.toList == bn.toList)=decide (an=bn):=by
   by_cases h:an=bn
   ·subst h;simp
   ·rw [decide_eq_false h,beq_eq_false_iff_ne]
    exact fun e=>h ((toList_inj an bn).1 e)
  rw [h1]
  by_cases h1:an=bn<;>by_cases h2:ad=bd<;>by_cases h3:az=bz<;>simp [h1,h2,h3,TE.mk.injEq]
 rw [hd]
 rw [eqFields_more (f:=f1) m1 (by rw [t1,o1];exact pa2) (by rw [t1,o1];exact pb2) (by rw [t1];exact e1)]
 rw [eqFields_more (f:=f2) m2 (by rw [t2,o2];exact pa1) (by rw [t2,o2];exact pb1) (by rw [t2];exact e2)]
 rw [eqFields_more (f:=f3) m3 (by rw [t3,o3];exact pa3) (by rw [t3,o3];exact pb3) (by rw [t3];exact e3)]
 rw [eqFields_none]
 generalize (an.toList == bn.toList)=r1
 generalize decide (ad=bd)=r2
 generalize (az == bz)=r3
 cases r1<;>cases r2<;>cases r3<;>rfl
theorem guard_ent:Tryz.prog.eqGuardType Tryz.prog.depth 193=false:=by kernel_rfl
theorem wpList_wanted {P:Program} {ops:Array Oper} {Q:Exit→Act→World→Prop} {o:Oper} {rest:List Oper} {a:Act} {w:World} (hw:Region.wanted o (yielded ops a.tmps)=true)
  (h:∀ K:Act→World→Prop,(∀ a w,wpList P ops Q rest a w→K a w)→o.wp P a w K Q):wpList P ops Q (o::rest) a w :=
 wpList_step fun K hK=>by rw [if_pos hw];exact h K hK
theorem wpList_load_rowG {P:Program} {ops:Array Oper} {Q:Exit→Act→World→Prop} {o:Oper} {rest:List Oper} {a:Act} {w:World} (hw:Region.wanted o (yielded ops a.tmps)=true) (ty:TypeId) (x:Operand) (ho:o.op = .load ty x)
  (g:Nat) (hx:a.eval x = .pointer (some ⟨g,0,none⟩)) (t:TypeId) (cs:Array Value) (fr:Nat × Nat) (d:TypeDesc) (hg:w.heap[g]? = some (.cells cs t fr))
  (hu:P.underlying ty=some d) (hd:(match d with|.struct _|.array _ _=>true|_=>false)=true) (hi:(P.info? ty).map (·.size)=some cs.size)
  (h:wpList P ops Q rest (a.put o.dst (.agg cs)) w):wpList P ops Q (o::rest) a w:=by
 refine wpList_wanted hw fun K hK'=>?_
 unfold Oper.wp execOp
 simp only [ho,hx,Instr.loadAt,Instr.sureAddr,Sem.run_bind,Sem.run_pure,Result.andThen_ok,run_loadVar_row w g t ty cs fr d hg hu hd hi]
 exact hK' _ _ h
theorem wpList_neEntG {ops:Array Oper} {Q:Exit→Act→World→Prop} {o:Oper} {rest:List Oper} {c:Act} {w:World} (hw:Region.wanted o (yielded ops c.tmps)=true) (x y:Operand) (k:TypeId) (hop:o.op=Op.binOp .neq 193 x y k) (a b:TE) (ha:a.Ok) (hb:b.Ok) (hx:c.eval x=a.v) (hy:c.eval y=b.v)
  (hK:wpList Tryz.prog ops Q rest (c.put o.dst (.bool (!decide (a=b)))) w):wpList Tryz.prog ops Q (o::rest) c w:=by
 refine wpList_wanted hw fun K' hK'=>?_
 have hr:=eq_ent 9997 a b ha hb w
 unfold Oper.wp execOp
 unfold TE.v at hx hy hr
 simp only [hop,hx,hy,eqGuard,binOp,Op.equal,Op.maxDepth,Sem.run_bind,Sem.run_pure,run_program,Result.andThen_ok,guard_ent,hr,Bool.not_true,Bool.not_false,Bool.false_eq_true,if_false,if_true]
 exact hK' _ _ hK
def te0:TE:=⟨⟨#[]⟩,Sha.zeros 32,0⟩
theorem te0_ok:te0.Ok:=⟨by decide,Sha.zeros_len _,fun i=>by
 have:∀ x∈te0.d,x<256:=by decide
 rw [List.getD_eq_getElem?_getD]
 cases h:te0.d[i]? with
 | none=>decide
 | some x=>exact this x (List.mem_of_getElem? h),by decide,by decide⟩
def lookT (n:ByteArray) (l:List TE):TE:=(findK TE.n n l).getD te0
theorem lookT_ok {n:ByteArray} {l:List TE} (h:∀ t∈l,t.Ok):(lookT n l).Ok:=by
 unfold lookT
 cases hf:findK TE.n n l with
 | none=>exact te0_ok
 | some t=>exact h t (findK_some hf).1
theorem wpList_lookT {ops:Array Oper} {Q:Exit→Act→World→Prop} {o:Oper} {rest:List Oper} {a:Act} {w:World} (hg:o.guard=none) (m x:Operand) (hop:o.op=Op.lookup 157 m x true) (b:Nat) (l:List TE) (hm:a.eval m = .map (some b)) (hown:TL w b l) (n:ByteArray) (hx:a.eval x = .string n) (hn:n.size≤1000000)
  (hK:wpList Tryz.prog ops Q rest (a.put o.dst (.tuple #[.agg (ecellsOf (lookT n l).n (lookT n l).d (lookT n l).z),.bool (findK TE.n n l).isSome])) w):wpList Tryz.prog ops Q (o::rest) a w:=by
 refine wpList_lookup_own_ok w hg m x 157 hop 9 193 str_keyed Tryz.underlying157 heldR ((zero_of_info Tryz.info71b).1 w) (.held te0.v) [] rfl b l.length (tD l) hm hown (.string n) (kOf n) hx (key_str n hn) ?_
 intro v ps hv
 have hv2:v=(lookT n l).v:=by
  unfold heldR at hv
  injection hv with hv
  injection hv with hv
  rw [mD_at] at hv
  unfold lookT
  cases hf:findK TE.n n l with
  | none =>
   rw [hf] at hv
   injection hv
  | some t =>
   rw [hf] at hv
   injection hv
 rw [hv2,mD_has]
 exact hK
end Go.Proofs.YtncigfibncmioaaGreatDoor
namespace Go.Proofs.YtncigfibncmioaaGreatDoor
set_option maxHeartbeats 2000000
set_option maxRecDepth 100000
open Go.RowKit
def conR (D:DS) (ds:List Nat):Option ByteArray:=(rdD D (cPath ds)).filter fun t=>decide (Sha.digest (Sha.state t.data.toList)=ds)
theorem cPath_size (ds:List Nat):(cPath ds).size≤1000:=by
 unfold cPath
 rw [bytes_size,List.length_append,Sha.textTo_len]
 show blobsL.length+_≤_
 have:blobsL.length=6:=rfl
 omega
theorem con_s {w:World} {sb xb:Nat} {s:PSt} {ds:List Nat} (h:On w sb s) (hr:w.heap[xb]? = some (.cells (cells8 ds) 117 (0,0))):w.cell? ⟨sb,0,none⟩=some (.pointer (some ⟨s.b,0,none⟩))∧w.rangeAt xb 0 (cells8 ds).toList:=by
 obtain ⟨cv,tv,hbl⟩:=h.sb
 refine ⟨cell_of_row _ _ 0 _ _ _ hbl,fun j v hj=>?_⟩
 rw [cell_of_row _ _ (0+j) _ _ _ hr,Nat.zero_add]
 simpa using hj
theorem con_r {w:World} {xb:Nat} {ds:List Nat} (hr:w.heap[xb]? = some (.cells (cells8 ds) 117 (0,0))):w.rangeAt xb 0 (cells8 ds).toList:=fun j v hj=>by
 rw [cell_of_row _ _ (0+j) _ _ _ hr,Nat.zero_add]
 simpa using hj
theorem size72 (ds:List Nat) (h:ds.length=32):(Tryz.prog.info? 117).map (·.size)=some (cells8 ds).toList.length:=by rw [Array.length_toList];exact size40 _ h
theorem content_any (sb:Nat) (s:PSt) (ds:List Nat) (w:World) (h:On w sb s) (hds:ds.length=32) (hlt:∀ i,ds.getD i 0<256) (hsz:∀ t,rdD s.ds (cPath ds)=some t→t.size≤140737488351232) :
  Calls Tryz.prog 70 #[.pointer (some ⟨sb,0,none⟩),.agg (cells8 ds)] w fun e w'=>e = .returned (.tuple #[.string ((conR s.ds ds).getD ⟨#[]⟩),.bool (conR s.ds ds).isSome])∧PGo s s w w':=by
 have hbo:Below w.heap.size w (w.alloc (.cells (cells8 ds) 117)):=(Below.refl _ _).alloc (Nat.le_refl _) _
 have hrow:(w.alloc (.cells (cells8 ds) 117)).heap[w.heap.size]? = some (.cells (cells8 ds) 117 (0,0)):=heap_alloc_new _ _
 obtain ⟨W,hW⟩ : ∃ W,W=w.alloc (.cells (cells8 ds) 117):=⟨_,rfl⟩
 rw [← hW] at hbo hrow
 have hon:=h.later hbo
 obtain ⟨cv,tv,hbl⟩:=hon.sb
 have c0:W.cell? ⟨sb,0,none⟩=some (.pointer (some ⟨s.b,0,none⟩)):=cell_of_row _ _ 0 _ _ _ hbl
 have HCP:=hide (contentPath_any ds W.drew hds hlt)
 have HR:=hide (fun (w':World) (hb':Below W.heap.size W w')=>dkRead s (cPath ds) w' (hon.inn.later hb') (Nat.le_trans (cPath_size ds) (by decide)))
 have H0:=hide h
 have HON:=hide hon
 have HW:=hide hW
 have HBO:=hide hbo
 have HROW:=hide hrow
 have HSZ:=hide hsz
 have HN:=hide (fun (k:Nat) (hk:s.own k)=>h.inn.lt hk)
 clear h hon hbl hW hbo hrow hsz
 go_enter Tryz.func70,Tryz.ntmps70
 go_upto_region 1 with fail
 rw [← HW.out]
 obtain ⟨xb,hxb⟩ : ∃ xb,xb=w.heap.size:=⟨_,rfl⟩
 rw [← hxb] at HROW HN ⊢
 have HXB:=hide hxb
 clear hxb
 have hS0:=con_s (HON.out.later (Below.refl W.heap.size W).drew) ((((Below.refl W.heap.size W).drew).block _ (lt_heap HROW.out)).trans HROW.out)
 have u72:=Tryz.underlying117
 have i72:=size72 ds hds
 go_region_held3 (fun w'=>w'.cell? ⟨sb,0,none⟩=some (.pointer (some ⟨s.b,0,none⟩))∧w'.rangeAt xb 0 (cells8 ds).toList) (first|exact hS3|exact hS2|exact hS0|go_keep) ((first|(go_at_call 107;refine (HCP.out).mono ?_;rintro _ w1 ⟨rfl,hb1⟩;have hb3:Below W.heap.size W w1:=((Below.refl W.heap.size W).drew).trans hb1;have hr2:=(hb3.block _ (lt_heap HROW.out)).trans HROW.out;have hS2:=con_s (HON.out.later hb3) hr2)|(go_at_call 80;refine (HR.out _ hb3).mono ?_;rintro _ w2 ⟨v,k,rfl,hv,hk,hg,hi⟩;have hr3:=(hg.block _ (lt_heap hr2) (fun e=>by have:=HN.out _ e;omega)).trans hr2;have hS3:=con_s ((HON.out.later hb3).go ⟨rfl,hi,hg,fun _ hk=>.inl hk⟩) hr3)))
 have hgo:PGo s s w1 w2:=⟨rfl,hi,hg,fun _ hk=>.inl hk⟩
 have HGO:=hide (((PGo.refl H0.out.inn HBO.out).trans (PGo.refl HON.out.inn hb3)).trans hgo)
 have HR2:=hide hr3
 have HGL2:=hide ((HON.out.later hb3).go hgo).gl
 clear hgo hg hi HR hS0 hS2 hS3 hr2 hr3 hb1 hb3 HCP c0 u72 i72
 rcases hv with ⟨h0,rfl⟩|⟨h0,sv,nm,rfl, -⟩
 ·have hs:=hk.1 h0
  obtain ⟨t,ht⟩:=Option.isSome_iff_exists.1 hs
  have HOF:=hide (of_any t w2.drew (HSZ.out t ht) (HGL2.out.later (Below.refl _ _).drew).hk)
  rw [ht]
  dsimp only [Option.getD]
  have HT:=hide ht
  clear hk h0 hs ht
  obtain ⟨D,hD⟩ : ∃ D,D=Sha.digest (Sha.state t.data.toList):=⟨_,rfl⟩
  have hl:D.length=32:=by rw [hD];exact Sha.dBytes_len _ _
  have hlt':∀ i,D.getD i 0<256:=by rw [hD];exact fun i=>Sha.dBytes_lt _ _ i
  rw [← hD] at HOF
  have HD:=hide hD
  clear hD
  have u72:=Tryz.underlying117
  have i72:=size72 ds hds
  have hS0:=con_r ((((Below.refl w2.heap.size w2).drew).block _ (lt_heap HR2.out)).trans HR2.out)
  have heq:∀ w,(Op.equalIn 10000 117 (.agg (cells8 D)) (.agg (cells8 ds))).run Tryz.prog w = .ok (decide (D=ds)) w:=fun w=>eq_dig 9998 D ds hl hds hlt' hlt w
  go_wp2_with fail
  go_region_held3 (fun w'=>w'.rangeAt xb 0 (cells8 ds).toList) (first|exact hS3|exact hS0|go_keep) ((go_at_call 71;refine (HOF.out).mono ?_;rintro _ w3 ⟨rfl,hb3⟩;have hb4:Below w2.heap.size w2 w3:=((Below.refl w2.heap.size w2).drew).trans hb3;have hr3:=(hb4.block _ (lt_heap HR2.out)).trans HR2.out;have hS3:=con_r hr3))
  have HGO3:=hide (HGO.out.trans (PGo.refl HGO.out.inn hb4))
  clear hb3 hb4 hr3 hS3 hS0 HOF heq
  by_cases hq:D=ds
  ·have hqd:(!decide (D=ds))=false:=by simp [hq]
   have hc:conR s.ds ds=some t:=by
    unfold conR
    rw [HT.out]
    simp [← HD.out,hq]
   have HC:=hide hc
   clear hc
   rw [hqd]
   clear hq hqd
   go_wp2_with fail
   refine bodyPost_ret (results_tmp2 rfl _ _ _) rfl ?_
   rw [HC.out]
   exact ⟨rfl,HGO3.out⟩
  ·have hqd:(!decide (D=ds))=true:=by simp [hq]
   have hc:conR s.ds ds=none:=by
    unfold conR
    rw [HT.out]
    simp [← HD.out,hq]
   have HC:=hide hc
   clear hc
   rw [hqd]
   clear hq hqd
   go_wp2_with fail
   refine bodyPost_ret (results_tmp2 rfl _ _ _) rfl ?_
   rw [HC.out]
   exact ⟨rfl,HGO3.out⟩
 ·have hs:rdD s.ds (cPath ds)=none:=by
   cases hq:rdD s.ds (cPath ds) with
   | none=>rfl
   | some t=>exact absurd (hk.2 (by rw [hq];rfl)) h0
  have hc:conR s.ds ds=none:=by unfold conR;rw [hs];rfl
  clear hk
  have u72:=Tryz.underlying117
  have i72:=size72 ds hds
  have hS0:=con_r ((((Below.refl w2.heap.size w2).drew).block _ (lt_heap HR2.out)).trans HR2.out)
  have HC:=hide hc
  clear hc
  clear u72 i72 hS0
  go_wp2_with fail
  go_region
  go_wp2_with fail
  refine bodyPost_ret (results_tmp2 rfl _ _ _) rfl ?_
  rw [HC.out]
  exact ⟨rfl,HGO.out.trans (PGo.refl HGO.out.inn (Below.refl _ _).drew)⟩
end Go.Proofs.YtncigfibncmioaaGreatDoor
