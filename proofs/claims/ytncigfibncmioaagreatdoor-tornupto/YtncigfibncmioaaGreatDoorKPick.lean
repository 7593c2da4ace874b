/-
  PROVED HERE: small facts on rows that one owns; no text of the program.
-/
import Derived.Test.YtncigfibncmioaaGreatDoorRows
import Derived.WalkSpells
import Derived.WalkLawsBesides
import Derived.BigQuiet
import Derived.Test.YtncigfibncmioaaGreatDoorOwnLib
set_option maxRecDepth 100000
namespace Go.Proofs.YtncigfibncmioaaGreatDoor
open Go.RowKit
theorem _root_.Go.World.ownsRow.ez {w:World} {base base':Nat} {v:Value} {n:Nat} {e:TypeId} {size:Nat} {xs:List Value} (h:w.ownsRow base' e size v n xs) (hb:base<=base'):w.ownsRow base e size v n xs:=by
 refine ⟨h.1,h.2.imp id ?_⟩;rintro ⟨g,cap,cur,e1,e2,e3⟩;exact ⟨g,cap,cur,e1,Nat.le_trans hb e2,e3⟩
theorem jQ {w w':World} {base:Nat} {e:TypeId} {size:Nat} {v:Value} {n:Nat} {xs:List Value} (h:w.ownsRow base e size v n xs) (hb:∀ k,v.ownBlock=some k->k<w.heap.size->w'.heap[k]? = w.heap[k]?):w'.ownsRow base e size v n xs:=by
 refine ⟨h.1,h.2.imp id ?_⟩;rintro ⟨g,cap,cur,rfl,e2,e3,e4⟩;exact ⟨g,cap,cur,rfl,e2,(hb g rfl (eB e3)).trans e3,e4⟩
theorem jG {w:World} {base:Nat} {v:Value} {n:Nat} {e:TypeId} {size:Nat} {xs:List Value} (h:w.ownsRow base e size v n xs):∃ o cap,v = .slice o n cap:=by
 rcases h.2 with ⟨rfl,rfl⟩|⟨g,cap,cur,rfl, -⟩
 ·exact ⟨_,_,rfl⟩
 ·exact ⟨_,_,rfl⟩
theorem ax {w:World} {g:Nat} {o:Obj} (h:w.heap[g]? = some o):g<w.heap.size:=(Array.getElem?_eq_some_iff.1 h).1
theorem R7 (w:World) (r:Option Nat):w.grownBy w r:=⟨rfl,rfl,rfl,Nat.le_refl _,fun _ _ _=>rfl⟩
theorem dF {w w1 w2:World} {r:Option Nat} (h1:w.grownBy w1 r) (h2:w1.grownBy w2 r):w.grownBy w2 r :=
 ⟨h2.os.trans h1.os,h2.tape.trans h1.tape,h2.output.trans h1.output,Nat.le_trans h1.size h2.size,fun k hk hne=>(h2.block k (Nat.lt_of_lt_of_le hk h1.size) hne).trans (h1.block k hk hne)⟩
theorem nE (w:World) (b o:Nat) (v:Value):w.grownBy (w.setCell ⟨b,o,none⟩ v) (some b) :=
 ⟨rfl,rfl,rfl,by simp,fun k _ hne=>heap_setCell_other _ _ _ _ (fun e=>hne (by rw [e]))⟩
theorem jJ {w w1:World} (h:Below w.heap.size w w1) (r:Option Nat):w.grownBy w1 r:=⟨h.os,h.tape,h.output,h.size,fun k hk _=>h.block k hk⟩
structure Gr (S:Nat->Prop) (w w':World):Prop where
 os:w'.os=w.os
 tape:w'.tape=w.tape
 output:w'.output=w.output
 size:w.heap.size<=w'.heap.size
 block:∀ k,k<w.heap.size->¬ S k->w'.heap[k]? = w.heap[k]?
theorem Gr.refl (S:Nat->Prop) (w:World):Gr S w w:=⟨rfl,rfl,rfl,Nat.le_refl _,fun _ _ _=>rfl⟩
theorem Gr.trans {S:Nat->Prop} {w w1 w2:World} (h1:Gr S w w1) (h2:Gr S w1 w2):Gr S w w2 :=
 ⟨h2.os.trans h1.os,h2.tape.trans h1.tape,h2.output.trans h1.output,Nat.le_trans h1.size h2.size,fun k hk hn=>(h2.block k (Nat.lt_of_lt_of_le hk h1.size) hn).trans (h1.block k hk hn)⟩
theorem Gr.mono {S S':Nat->Prop} {w w1:World} (h:Gr S w w1) (hS:∀ k,k<w.heap.size->S k->S' k):Gr S' w w1 :=
 ⟨h.os,h.tape,h.output,h.size,fun k hk hn=>h.block k hk fun hs=>hn (hS k hk hs)⟩
theorem Gr.of_grownBy {S:Nat->Prop} {w w1:World} {b:Nat} (h:w.grownBy w1 (some b)) (hb:S b):Gr S w w1 :=
 ⟨h.os,h.tape,h.output,h.size,fun k hk hn=>h.block k hk fun e=>by cases e;exact hn hb⟩
theorem Gr.ae {S:Nat->Prop} {w w1:World} (h:Below w.heap.size w w1):Gr S w w1 :=
 ⟨h.os,h.tape,h.output,h.size,fun k hk _=>h.block k hk⟩
theorem yf {w:World} {g i:Nat} {cs:Array Value} {t:TypeId} (v:Value) (hg:w.heap[g]? = some (.cells cs t (0,0))):(w.setCell ⟨g,i,none⟩ v).heap[g]? = some (.cells (cs.setIfInBounds i v) t (0,0)):=by
 rw [heap_setCell_same w g i _ t _ hg]
theorem R8 (g:Nat) (T:TypeId):∀ (vs:List Value) (o:Nat) (w:World) (cur:Array Value),w.heap[g]? = some (.cells cur T (0,0))->o+vs.length<=cur.size ->
  ∃ cur',(w.setCells g o vs).heap[g]? = some (.cells cur' T (0,0))/\cur'.size=cur.size/\(∀ j,j<o->cur'[j]? = cur[j]?)/\(∀ j,j<vs.length->cur'[o+j]? = vs[j]?)
 | [],o,w,cur,h,_=>⟨cur,h,rfl,fun _ _=>rfl,fun j hj=>by simp at hj⟩
 | v::vs,o,w,cur,h,hl=>by
  simp only [List.length_cons] at hl;obtain ⟨cur',h1,h2,h3,h4⟩:=R8 g T vs (o+1) (w.setCell ⟨g,o,none⟩ v) _ (yf v h) (by simp;omega);refine ⟨cur',h1,by simpa using h2,fun j hj=>?_,fun j hj=>?_⟩
  ·rw [h3 j (by omega)];simp [Array.getElem?_setIfInBounds];intro e;omega
  ·cases j with
   | zero =>
    rw [Nat.add_zero,h3 o (by omega)];simp [Array.getElem?_setIfInBounds];omega
   | succ j =>
    rw [show o+(j+1)=o+1+j by omega,h4 j (by simpa using hj)];simp
theorem Au {B g:Nat} (hg:B<=g):∀ (vs:List Value) (o:Nat) (w:World),Below B w (w.setCells g o vs)
 | [],_,w=>Below.refl _ w
 | v::vs,o,w=>((Below.refl B w).setCell (p:=⟨g,o,none⟩) hg v).trans (Au hg vs (o+1) _)
def BO (w:World) (v v':Value):Prop:=v'.ownBlock=v.ownBlock∨∀ k,v'.ownBlock=some k->w.heap.size<=k
end Go.Proofs.YtncigfibncmioaaGreatDoor
namespace Go.Proofs.YtncigfibncmioaaGreatDoor
open Go.RowKit
def fY (c:Int) (n:Nat):Nat:=((if c<0 then -(c+1) else c) % (n:Int)).toNat
theorem yq (c:Int) (n:Nat) (h:0<n):fY c n<n:=by
 unfold fY;have h1:=Int.emod_nonneg (if c<0 then -(c+1) else c) (show (n:Int)≠0 by omega);have h2:=Int.emod_lt_of_pos (if c<0 then -(c+1) else c) (show (0:Int)<n by omega);omega
theorem QnS (c:Int) (n:Nat) (h:0<n):((fY c n:Nat):Int)=(if c<0 then -(c+1) else c) % (n:Int):=by
 unfold fY;have h1:=Int.emod_nonneg (if c<0 then -(c+1) else c) (show (n:Int)≠0 by omega);omega
theorem vy (c:Int) (n:Nat) (h0:0<n) (h1:n<=9223372036854775807) (hc : -9223372036854775808<=c) (hc2:c<=9223372036854775807) (w:World) :
  Calls Tryz.prog 21 #[.int .i64 c,.int .i64 ((n:Nat):Int)] w fun e w'=>e = .returned (.int .i64 ((fY c n:Nat):Int))/\w'=w:=by
 have hv:=QnS c n h0;obtain ⟨r,hr⟩ : ∃ r,r=fY c n:=⟨_,rfl⟩;rw [<- hr] at hv ⊢;clear hr;have yr:¬ (n:Int)=0:=by omega
 by_cases h:c<0
 ·rw [if_pos h] at hv;have HV:=aa hv;clear hv;have a1:0 <= -(c+1):=by omega
  go_enter Tryz.func21,Tryz.ntmps21;go_wp2;go_ret;refine ⟨?_,rfl⟩;show Ending.returned (.int .i64 (-((c+1).tmod ↑n)))=_;rw [HV.out,<- Int.neg_tmod,Int.tmod_eq_emod_of_nonneg a1]
 ·rw [if_neg h] at hv;have HV:=aa hv;clear hv;have a1:0<=c:=by omega
  go_enter Tryz.func21,Tryz.ntmps21;go_wp2;go_ret;refine ⟨?_,rfl⟩;rw [HV.out];rfl
end Go.Proofs.YtncigfibncmioaaGreatDoor
