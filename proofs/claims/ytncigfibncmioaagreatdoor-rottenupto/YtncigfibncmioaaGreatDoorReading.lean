/-
  PROVED HERE: what the program's function entries of the index's reader answers, or at which place it gives up.
-/
import Derived.Test.YtncigfibncmioaaGreatDoorEntryC
import Derived.Deep.RegionHeld3
import Derived.Defers
import Derived.Recover
namespace Go.Proofs.YtncigfibncmioaaGreatDoor
open Go.RowKit
section
variable {t last:ByteArray} {n k p c:Nat} {es:List En}
end
theorem own_ne {base:Nat} {e:TypeId} {size n:Nat} {v:Value} {xs:List Value} {w:World} {g:Nat} {cs:Array Value} {T:TypeId} {fr:Nat × Nat} (ho:w.ownsRow base e size v n xs) (h:w.heap[g]? = some (.cells cs T fr)) (hT:T ≠ e):v.ownBlock ≠ some g:=by
 intro he
 rcases ho.2 with ⟨rfl,_⟩ | ⟨g2,cap,cur,rfl,h2,h3,_⟩
 ·cases he
 ·have:g2 = g:=by cases he;rfl
  subst this
  rw [h] at h3
  cases h3
  exact hT rfl
theorem own_slice {base:Nat} {e:TypeId} {size n:Nat} {v:Value} {xs:List Value} {w:World} (ho:w.ownsRow base e size v n xs):∃ oa cap,v = .slice oa n cap:=by
 rcases ho.2 with ⟨rfl,rfl⟩ | ⟨g2,cap,cur,rfl,_⟩
 ·exact ⟨none,0,rfl⟩
 ·exact ⟨_,cap,rfl⟩
def readS (t:ByteArray):RS (List En):=readG (nextS t) 0
class Kin (w3 W:World):Prop where
 block:∀ k,k < w3.heap.size → k < W.heap.size ∧ W.heap[k]? = w3.heap[k]?
instance (w3:World):Kin w3 w3.drew:=⟨fun _ h=>⟨h,rfl⟩⟩
instance (w3:World) (o:Obj):Kin w3 (w3.drew.alloc o):=⟨fun k h=>⟨by simp only [size_alloc];exact Nat.lt_succ_of_lt h,Below.heap_alloc w3.drew o k h⟩⟩
instance (w3:World) (o:Obj):Kin w3 (w3.alloc o).drew:=⟨fun k h=>⟨by show k < (w3.alloc o).heap.size;simp only [size_alloc];exact Nat.lt_succ_of_lt h,Below.heap_alloc w3 o k h⟩⟩
end Go.Proofs.YtncigfibncmioaaGreatDoor
namespace Go.Proofs.YtncigfibncmioaaGreatDoor
set_option maxHeartbeats 1000000
set_option maxRecDepth 100000
open Go.RowKit
theorem placeOf_any (p:Nat) (w:World):Calls Tryz.prog 91 #[.iface 217 (.int .i64 ((p:Nat):Int))] w fun e w'=>e = .returned (.int .i64 ((p:Nat):Int)) ∧ w' = w:=by
 have hta:∀ w:World,(Instr.typeAssert (.iface 217 (.int .i64 ((p:Nat):Int))) 20 217 true).run Tryz.prog w = .ok (.tuple #[.int .i64 ((p:Nat):Int),.bool true]) w:=fun w=>by kernel_rfl
 have hnot:∀ (x:Bool) (w:World),(Op.unary .not (.bool x)).run Tryz.prog w = .ok (.bool (!x)) w:=fun _ _=>rfl
 go_enter Tryz.func91,Tryz.ntmps91
 go_wp2
 go_ret
 exact ⟨rfl,rfl⟩
theorem catch_panicking (p q:Nat) (x y:Int) (n:Nat) (older:List PanicEntry) (w:World) (hc:w.cell? ⟨p,0,none⟩ = some (.int .i64 x)) (hz:w.frozen? ⟨p,0,none⟩ = false) (hc2:w.cell? ⟨q,0,none⟩ = some (.int .i64 y)) (hz2:w.frozen? ⟨q,0,none⟩ = false) (hne:p ≠ q) :
  CallsD Tryz.prog 90 #[.pointer (some ⟨p,0,none⟩),.pointer (some ⟨q,0,none⟩)] (.panicking ({ v:=.iface 217 (.int .i64 ((n:Nat):Int)),recovered:=false } :: older)) w fun e u' w' =>
   e = .returned (.tuple #[]) ∧ u' = .panicking ({ v:=.iface 217 (.int .i64 ((n:Nat):Int)),recovered:=true } :: older) ∧ w' = (w.setCell ⟨p,0,none⟩ (.int .i64 7)).setCell ⟨q,0,none⟩ (.int .i64 ((n:Nat):Int)):=by
 refine callsD_of_wpS Tryz.func90 rfl fun c₀ cs hu=>?_
 apply wpS_seq
 apply wpS_region
 simp [wpOpsS,go_sem,recoverD,hu,Tryz.ntmps90,Exit.thenS]
 apply wpS_seq
 apply wpS_region
 simp [wpOpsS,go_sem,Exit.thenS]
 refine wpS_cond (t:=true) (by simp [Act.eval,Array.replicate]) ?_
 simp only [if_true]
 refine wpS_of_wp ?_
 simp only [Array.replicate,List.replicate,List.setIfInBounds_toArray,List.set_cons_zero,List.set_cons_succ,List.append_toArray,List.cons_append,List.nil_append]
 go_wp2_with (go_at_call 91;refine (placeOf_any _ _).mono ?_;rintro e w1 ⟨rfl,rfl⟩)
 simp [bodyPostS,results,Tryz.results90]
theorem catch_idle (p q:Nat) (w:World) :
  CallsD Tryz.prog 90 #[.pointer (some ⟨p,0,none⟩),.pointer (some ⟨q,0,none⟩)] .returning w fun e u' w'=>e = .returned (.tuple #[]) ∧ u' = .returning ∧ w' = w:=by
 refine callsD_of_wpS Tryz.func90 rfl fun c₀ cs hu=>?_
 apply wpS_seq
 apply wpS_region
 simp [wpOpsS,go_sem,recoverD,hu,Tryz.ntmps90,Exit.thenS]
 apply wpS_seq
 apply wpS_region
 simp [wpOpsS,go_sem,Exit.thenS]
 refine wpS_cond (t:=false) (by simp [Act.eval,Array.replicate]) ?_
 simp only [Bool.false_eq_true,if_false]
 refine wpS_of_wp (wp_skip ?_)
 cases c₀
 simp_all [bodyPostS,results,Tryz.results90]
theorem reading_any (K:Nat) (cap:Array Value) (w:World) (G:World → Prop) (B:Nat → World → Prop)
  (hcf:∀ (args:Array Value) (w:World),(callFunc K args).run Tryz.prog w = .ok (.enter K args) w)
  (hv:Calls Tryz.prog K cap ((w.alloc (.cells #[.int .i64 0] 27)).alloc (.cells #[.int .i64 0] 3)) fun e W=>(W.heap[w.heap.size]? = some (.cells #[.int .i64 0] 27 (0,0)) ∧ W.heap[w.heap.size + 1]? = some (.cells #[.int .i64 0] 3 (0,0))) ∧ ((e = .returned (.tuple #[]) ∧ G W) ∨ (∃ p,e = gaveUp p ∧ B p W))) :
  Calls Tryz.prog 48 #[.func (.func K) #[] cap] w fun e w' =>
   (∃ W,G W ∧ e = .returned (.tuple #[.int .i64 0,.int .i64 0]) ∧ w' = (W.setCell ⟨w.heap.size,0,none⟩ (.int .i64 0)).setCell ⟨w.heap.size + 1,0,none⟩ (.int .i64 0)) ∨
   (∃ p W,B p W ∧ e = .returned (.tuple #[.int .i64 7,.int .i64 ((p:Nat):Int)]) ∧ w' = (W.setCell ⟨w.heap.size,0,none⟩ (.int .i64 7)).setCell ⟨w.heap.size + 1,0,none⟩ (.int .i64 ((p:Nat):Int))):=by
 have HV:=hide hv
 clear hv
 have hmf:∀ (fn:Fn) (first cap:Array Value) (w:World),(Instr.makeFunc fn first cap).run Tryz.prog w = .ok (.func fn first cap) w:=fun _ _ _ _=>rfl
 go_enter_defers Tryz.func48,Tryz.ntmps48
 go_wp2_with fail
 refine HV.out.mono ?_
 rintro e W ⟨⟨r0,r1⟩,(⟨rfl,hG⟩ | ⟨p,rfl,hB⟩)⟩
 ·dsimp only
  have c0:W.cell? ⟨w.heap.size,0,none⟩ = some (.int .i64 0):=cell_of_row W _ 0 _ _ _ r0
  have c1:W.cell? ⟨w.heap.size + 1,0,none⟩ = some (.int .i64 0):=cell_of_row W _ 0 _ _ _ r1
  have f0:=frozen_of_row W w.heap.size 0 _ _ r0
  have f1:=frozen_of_row W (w.heap.size + 1) 0 _ _ r1
  have HG:=hide hG
  clear hG r0 r1
  go_wp2_with fail
  refine leaves_cons (f:=90) (args:=#[.pointer (some ⟨w.heap.size,0,none⟩),.pointer (some ⟨w.heap.size + 1,0,none⟩)]) (by simp) (by simp [go_sem]) ?_
  refine (catch_idle w.heap.size (w.heap.size + 1) _).mono ?_
  rintro e u' w'' ⟨rfl,rfl,rfl⟩
  refine ⟨.tuple #[.int .i64 0,.int .i64 0],?_,Or.inl ⟨W,HG.out,rfl,rfl⟩⟩
  simp [results,Tryz.results48,go_sem,c0,c1]
 ·dsimp only [gaveUp]
  have c0:W.cell? ⟨w.heap.size,0,none⟩ = some (.int .i64 0):=cell_of_row W _ 0 _ _ _ r0
  have c1:W.cell? ⟨w.heap.size + 1,0,none⟩ = some (.int .i64 0):=cell_of_row W _ 0 _ _ _ r1
  have f0:=frozen_of_row W w.heap.size 0 _ _ r0
  have f1:=frozen_of_row W (w.heap.size + 1) 0 _ _ r1
  refine leaves_cons (f:=90) (args:=#[.pointer (some ⟨w.heap.size,0,none⟩),.pointer (some ⟨w.heap.size + 1,0,none⟩)]) (by simp) (by simp [go_sem]) ?_
  refine (catch_panicking w.heap.size (w.heap.size + 1) 0 0 p [] _ c0 f0 c1 f1 (by omega)).mono ?_
  rintro e u' w'' ⟨rfl,rfl,rfl⟩
  refine ⟨.tuple #[.int .i64 7,.int .i64 ((p:Nat):Int)],?_,Or.inr ⟨p,W,hB,rfl,rfl⟩⟩
  simp [results,Tryz.results48,go_sem,c0,c1]
end Go.Proofs.YtncigfibncmioaaGreatDoor
