/-
  PROVED HERE: what the program's function Read of package index answers, or at which place it gives up.
-/
import Derived.Test.YtncigfibncmioaaGreatDoorTopC
set_option maxHeartbeats 4000000
set_option maxRecDepth 100000
namespace Go.Proofs.YtncigfibncmioaaGreatDoor
open Go.RowKit
def AJ (t:ByteArray):RS (List En):=wV (bO t) 0
def kT (t:ByteArray):RS (List En):=uG (bO t) 0
theorem QsK (w W:World) (o0 o1 o2:Obj) (hW:W=((w.alloc o0).alloc o1).alloc o2) :
  W.heap.size=w.heap.size+3/\W.heap[w.heap.size]? = some o0/\W.heap[w.heap.size+1]? = some o1/\W.heap[w.heap.size+1+1]? = some o2/\Below w.heap.size w W:=by
 subst hW;refine ⟨by simp,?_,?_,?_,?_⟩
 ·exact (Below.heap_alloc _ _ _ (by simp only [size_alloc];omega)).trans ((Below.heap_alloc _ _ _ (by simp)).trans (heap_alloc_new _ _))
 ·have h:=heap_alloc_new (w.alloc o0) o1;simp only [size_alloc] at h;exact (Below.heap_alloc _ _ _ (by simp)).trans h
 ·have h:=heap_alloc_new ((w.alloc o0).alloc o1) o2;simp only [size_alloc] at h;exact h
 ·exact (((Below.refl _ _).alloc (Nat.le_refl _) _).alloc (by simp) _).alloc (by simp only [size_alloc];omega) _
structure L6 (N gn:Nat) (t:ByteArray) (c:Nat) (w3 W:World):Prop where
 gr:Gr (fun k=>k=N) w3 W
 sc:aD W N t c
 row:W.heap[gn]? = some (.cells #[.string sQ,.string uF] 9 (0,0))
theorem QmM (N gn c:Nat) (t:ByteArray) (p0:Nat) (n0:Int) (s0:ByteArray) (w3:World) (hz:N+3<=w3.heap.size) (h1:w3.heap[N+1]? = some (.cells #[.pointer (some ⟨N,0,none⟩)] 199 (0,0))) (h2:w3.heap[N+1+1]? = some (.cells #[.slice none 0 0] 138 (0,0))) (hc:c<=t.size) (ht:t.size<=2000) (W:World) (hR:L6 N gn t c w3 W) :
  Calls Tryz.prog 123 #[.pointer (some ⟨N,0,none⟩),bw 123 p0 n0 s0,.slice (some ⟨gn,0,none⟩) 2 2,.func (.func 125) #[] #[.pointer (some ⟨N+1,0,none⟩),.pointer (some ⟨N+1+1,0,none⟩)]] W fun e W'=>Gr (fun k=>k=N∨k=N+1+1) w3 W' /\
   ((∃ es c',cM (lj t) t true 2 [sQ,uF] [] c = .ok es c'/\e = .returned (.tuple #[])/\aD W' N t c'/\c'<=t.size/\iG (N+1) (N+1+1) N (N+3) es W')∨(∃ p,cM (lj t) t true 2 [sQ,uF] [] c = .bad p/\e=bE p)):=by
 have hzW:=hR.gr.size;have hr1:=(hR.gr.block _ (by omega) (by omega)).trans h1;have hr2:=(hR.gr.block _ (by omega) (by omega)).trans h2;have bS:=YO (lj t) N gn 125 [sQ,uF] #[.pointer (some ⟨N+1,0,none⟩),.pointer (some ⟨N+1+1,0,none⟩)] t c p0 n0 s0 W (fun k=>k=N∨k=N+1+1) (iG (N+1) (N+1+1) N (N+3)) []
  (enters_of Tryz.func125 (by kernel_rfl) rfl) hR.sc hc ht (Or.inl rfl) (by intro k hk;rcases hk with rfl|rfl<;>omega) ⟨hr1,by decide,_,hr2,World.ownsRow_nil _ _ _ _⟩ (by decide)
  (fun j hj=>by
   rw [cell_of_row W _ j _ _ _ hR.row]
   match j,hj with
   | 0,_=>rfl
   | 1,_=>rfl)
  (fun st V V' hV hsz hg=>hV.later hg (by rintro (h|⟨h,_⟩)<;>omega) (by rintro (h|⟨h,_⟩)<;>omega) (by
   rintro k cur (h|⟨h,Tv,h3⟩) hB h4
   ·omega
   ·rw [h3] at h4;cases h4))
  (fun x st c V hV hsz hsc hc=>Qrt (N+1) (N+1+1) N c (N+3) t x st V (by omega) (by omega) hsc hc ht hV)
 simp only [List.length_cons,List.length_nil,Nat.zero_add,Nat.reduceAdd] at bS;refine bS.mono ?_;rintro e w1 ⟨hg1,h⟩;exact ⟨(hR.gr.mono (fun k _ h=>Or.inl h)).trans hg1,h⟩
theorem Pk {B b:Nat} {w W W':World} (h:Below B w W) (hg:W.grownBy W' (some b)) (hb:B<=b) (hs:B<=W.heap.size):Below B w W' :=
 h.grown hg hs fun k hk=>by cases hk;exact hb
theorem Qus {N c:Nat} {t:ByteArray} {w3 w4:World} (hg:w3.drew.grownBy w4 (some N)) (hs:aD w4 N t c):L6 N w4.heap.size t c w3 (w4.alloc (.cells #[.string ⟨#[118,101,114,115,105,111,110]⟩,.string ⟨#[116,97,103,115]⟩] 9)) :=
 ⟨((Gr.ae ((Below.refl _ _).drew)).trans (Gr.of_grownBy (S:=fun k=>k=N) hg rfl)).trans (Gr.ae ((Below.refl _ _).alloc (Nat.le_refl _) _)),hs.later ((Below.refl _ _).alloc (Nat.le_refl _) _),heap_alloc_new _ _⟩
theorem QvT {N c:Nat} {t:ByteArray} {w3 w4:World} (hz:N+3<=w3.heap.size) (hg:(w3.drew.alloc (.cells #[.string ⟨#[118,101,114,115,105,111,110]⟩,.string ⟨#[116,97,103,115]⟩] 9)).grownBy w4 (some N)) (hs:aD w4 N t c):L6 N w3.heap.size t c w3 w4 :=
 ⟨((Gr.ae ((Below.refl _ _).drew)).trans (Gr.ae ((Below.refl _ _).alloc (Nat.le_refl _) _))).trans (Gr.of_grownBy (S:=fun k=>k=N) hg rfl),hs,(hg.block w3.heap.size (by simp only [size_alloc];exact Nat.lt_succ_self _) (by intro e;cases e;omega)).trans (heap_alloc_new w3.drew _)⟩
theorem Qut {N c:Nat} {t:ByteArray} {w3 w4:World} (hz:N+3<=w3.heap.size) (hg:(w3.alloc (.cells #[.string ⟨#[118,101,114,115,105,111,110]⟩,.string ⟨#[116,97,103,115]⟩] 9)).drew.grownBy w4 (some N)) (hs:aD w4 N t c):L6 N w3.heap.size t c w3 w4 :=
 ⟨(Gr.ae (((Below.refl _ _).alloc (Nat.le_refl _) _).drew)).trans (Gr.of_grownBy (S:=fun k=>k=N) hg rfl),hs,(hg.block w3.heap.size (by show _<(w3.alloc _).heap.size;simp only [size_alloc];omega) (by intro e;cases e;omega)).trans (heap_alloc_new w3 _)⟩
class L8 (w3 W:World):Prop where
 block:∀ k,k<w3.heap.size->k<W.heap.size/\W.heap[k]? = w3.heap[k]?
instance (w3:World):L8 w3 w3.drew:=⟨fun _ h=>⟨h,rfl⟩⟩
instance (w3:World) (o:Obj):L8 w3 (w3.drew.alloc o):=⟨fun k h=>⟨by simp only [size_alloc];exact Nat.lt_succ_of_lt h,Below.heap_alloc w3.drew o k h⟩⟩
instance (w3:World) (o:Obj):L8 w3 (w3.alloc o).drew:=⟨fun k h=>⟨by show k<(w3.alloc o).heap.size;simp only [size_alloc];exact Nat.lt_succ_of_lt h,Below.heap_alloc w3 o k h⟩⟩
theorem QrM {N:Nat} {w3 W w4:World} [L8 w3 W] {o:Obj} (hg:W.grownBy w4 (some N)) (hz:N+3<=w3.heap.size) (h:w3.heap[N+1]? = some o):w4.heap[N+1]? = some o:=by
 obtain ⟨h1,h2⟩:=L8.block (w3:=w3) (W:=W) (N+1) (by omega);exact (hg.block _ h1 (by intro e;cases e)).trans (h2.trans h)
theorem Qom (N gn c k0 p0 n0:Nat) (l0:List UInt8) (t:ByteArray) (w3:World) (hz:N+3<=w3.heap.size) (h1:w3.heap[N+1]? = some (.cells #[.pointer (some ⟨N,0,none⟩)] 199 (0,0))) (h2:w3.heap[N+1+1]? = some (.cells #[.slice none 0 0] 138 (0,0))) (hn:bO t 0 = .tok k0 p0 n0 l0 c) (ht:t.size<=2000) (W:World) (hR:L6 N gn t c w3 W) :
  Calls Tryz.prog 123 #[.pointer (some ⟨N,0,none⟩),.agg #[.int .u8 ((k0:Nat):Int),.int .i64 ((p0:Nat):Int),.int .i64 ((n0:Nat):Int),.string ⟨l0.toArray⟩],.slice (some ⟨gn,0,none⟩) 2 2,.func (.func 125) #[] #[.pointer (some ⟨N+1,0,none⟩),.pointer (some ⟨N+1+1,0,none⟩)]] W fun e W'=>Gr (fun k=>k=N∨k=N+1+1) w3 W' /\
   ((∃ es c',AJ t = .ok es c'/\e = .returned (.tuple #[])/\aD W' N t c'/\c'<=t.size/\iG (N+1) (N+1+1) N (N+3) es W')∨(∃ p,AJ t = .bad p/\e=bE p)):=by
 have hc:=(wR (Nat.zero_le _) hn).1;have hw:AJ t=if k0=123 then cM (lj t) t true 2 [sQ,uF] [] c else .bad p0:=by
  unfold AJ wV cM;rw [hn];rfl
 by_cases hk:k0=123
 ·subst hk;rw [if_pos rfl] at hw;rw [hw];exact QmM N gn c t p0 n0 ⟨l0.toArray⟩ w3 hz h1 h2 hc ht W hR
 ·rw [if_neg hk] at hw;rw [hw];refine (YQ N gn 125 2 2 #[.pointer (some ⟨N+1,0,none⟩),.pointer (some ⟨N+1+1,0,none⟩)] k0 p0 n0 ⟨l0.toArray⟩ W (fun k=>k=N∨k=N+1+1) hk).mono ?_;rintro e W' ⟨hg,rfl⟩;exact ⟨(hR.gr.mono (fun k _ h=>Or.inl h)).trans hg,Or.inr ⟨p0,rfl,rfl⟩⟩
theorem Ji {w w3 W:World} {S:Nat->Prop} (h:Below w.heap.size w w3) (hg:Gr S w3 W) (hS:∀ k,S k->w.heap.size<=k):Below w.heap.size w W :=
 ⟨hg.os.trans h.os,hg.tape.trans h.tape,hg.output.trans h.output,Nat.le_trans h.size hg.size,fun k hk=>(hg.block k (Nat.lt_of_lt_of_le hk h.size) fun hs=>by have:=hS k hs;omega).trans (h.block k hk)⟩
theorem QsL {t:ByteArray} {es:List En} {c k p n c2:Nat} {l:List UInt8} (h:AJ t = .ok es c) (hn:bO t c = .tok k p n l c2):kT t=if k=0 then .ok es c2 else .bad p:=by
 unfold kT uG;unfold AJ at h;rw [h];dsimp only;rw [hn]
theorem Qlz {t:ByteArray} {p:Nat} (h:AJ t = .bad p):kT t = .bad p:=by
 unfold kT uG;unfold AJ at h;rw [h]
theorem Qon {t:ByteArray} {es:List En} {c p:Nat} (h:AJ t = .ok es c) (hn:bO t c = .bad p):kT t = .bad p:=by
 unfold kT uG;unfold AJ at h;rw [h];dsimp only;rw [hn]
theorem QjG {t:ByteArray} {p:Nat} (hn:bO t 0 = .bad p):kT t = .bad p:=by
 unfold kT uG wV;rw [hn]
theorem TQ {P:Program} {ops:Array Oper} {Q:Exit->Act->World->Prop} {md:Region.Mode} {S:World->Prop} {i d:Nat} {oi:Oper} {v:Value} {fuel:Nat} {listed:Array Bool} {a:Act} {w:World} (hi:ops[i]? = some oi) (hd:oi.dst=some d)
  (hs:Region.noSelect ops=true) (hf:Region.free md ops listed i=true) (hr:(Region.ready md ops listed).contains i=true)
  (hQ:∀ c a w,Q (.panic c) (a.put oi.dst v) w->Q (.panic c) a w) (hy:YieldsIf P ops S oi v a) (hS:S w)
  (h:wpAnyH P md ops Q S fuel (listed.setIfInBounds i true) { a with tmps:=a.tmps.setIfInBounds d v } w):wpAnyH P md ops Q S (fuel+1) listed a w :=
 wpAnyH_take hi hs hf hr hQ hy hS (by rw [hd];exact h)
theorem Zq (t:ByteArray) (w:World) (ht:t.size<=2000) :
  Calls Tryz.prog 82 #[.string t] w fun e w'=>Below w.heap.size w w' /\
   ((∃ es c v,kT t = .ok es c/\e = .returned v/\w'.ownsRow w.heap.size 193 34 v es.length (es.flatMap En.aP)/\es.length<=8)∨(∃ p,kT t = .bad p/\e=bE p)):=by
 go_enter Tryz.func82,Tryz.ntmps82;go_wp2_with fail;obtain ⟨w3,hw3⟩ : ∃ w3,w3=((w.alloc (.cells #[.string t,.int .i64 0] 201)).alloc (.cells #[.pointer (some ⟨w.heap.size,0,none⟩)] 199)).alloc (.cells #[.slice none 0 0] 138):=⟨_,rfl⟩;rw [<- hw3];obtain ⟨hz,h0,h1,h2,hB⟩:=QsK _ _ _ _ _ hw3;clear hw3;have c1:w3.cell? ⟨w.heap.size+1,0,none⟩=some (.pointer (some ⟨w.heap.size,0,none⟩)):=cell_of_row w3 _ 0 _ _ _ h1;have hz3:w.heap.size+3<=w3.heap.size:=by omega
 clear hz;have c1a:∀ o,(w3.drew.alloc o).cell? ⟨w.heap.size+1,0,none⟩=some (.pointer (some ⟨w.heap.size,0,none⟩)):=fun o=>(World.cell?_alloc_lt _ _ _ (show w.heap.size+1<w3.heap.size by omega)).trans c1
 have c1b:∀ o,(w3.alloc o).cell? ⟨w.heap.size+1,0,none⟩=some (.pointer (some ⟨w.heap.size,0,none⟩)):=fun o=>(World.cell?_alloc_lt _ _ _ (show w.heap.size+1<w3.heap.size by omega)).trans c1
 have HB:=aa hB;have H1:=aa h1;have H2:=aa h2;have SC0:Hid (aD w3 w.heap.size t 0):=h0;clear hB h0 h1 h2;have cw:∀ W,aD W w.heap.size t 0->Calls Tryz.prog 124 #[.pointer (some ⟨w.heap.size,0,none⟩)] W fun e W'=>W.grownBy W' (some w.heap.size)/\((∃ k p n l c,bO t 0 = .tok k p n l c/\e = .returned (bw k p ((n:Nat):Int) ⟨l.toArray⟩)/\aD W' w.heap.size t c)∨(∃ p,bO t 0 = .bad p/\e=bE p)):=fun W hW=>by
  refine (wP w.heap.size 0 t W hW (Nat.zero_le _) ht).mono ?_;rintro e W' ⟨hg,hc⟩;refine ⟨hg,?_⟩
  cases hn:bO t 0 with
  | bad p=>rw [hn] at hc;exact Or.inr ⟨p,rfl,hc⟩
  | tok k p n l c=>rw [hn] at hc;exact Or.inl ⟨k,p,n,l,c,rfl,hc⟩
 have NX:=aa cw;clear cw;refine wp_region_held_drew (S:=fun w'=>w'.cell? ⟨w.heap.size+1,0,none⟩=some (.pointer (some ⟨w.heap.size,0,none⟩))) mixed c1 (fun hS=>?_);refine TQ (i:=0) (d:=9) (v:=.pointer (some ⟨w.heap.size,0,none⟩)) rfl rfl (by kernel_rfl) (by kernel_rfl) (by kernel_rfl) (fun _ _ _ h=>h) (Or.inl ⟨by rfl,by intro w hSw;(try dsimp only at hSw);go_simp⟩) hS ?_;refine TQ (i:=1) (d:=10) (v:=.pointer (some ⟨w.heap.size,0,none⟩)) rfl rfl (by kernel_rfl) (by kernel_rfl) (by kernel_rfl) (fun _ _ _ h=>h) (Or.inl ⟨by rfl,by intro w hSw;(try dsimp only at hSw);go_simp⟩) hS ?_;refine TQ (i:=4) (d:=13) (v:=.func (.func 125) #[] #[.pointer (some ⟨w.heap.size+1,0,none⟩),.pointer (some ⟨w.heap.size+1+1,0,none⟩)]) rfl rfl (by kernel_rfl) (by kernel_rfl) (by kernel_rfl) (fun _ _ _ h=>h) (Or.inl ⟨by rfl,by intro w hSw;(try dsimp only at hSw);go_simp⟩) hS ?_;simp only [List.setIfInBounds_toArray,List.set_cons_zero,List.set_cons_succ];refine wpAnyH_ready (rs:=[2,3]) (by kernel_rfl) (by simp) ?_;refine AllReadyH.cons rfl (fun K hK=>?_) (AllReadyH.cons rfl (fun K hK=>?_) AllReadyH.nil);go_simp;refine (NX.out _ (SC0.out.later ((Below.refl _ _).drew))).mono ?_;rintro e w4 ⟨hg4,h4⟩
 rcases h4.symm with ⟨p,hn,rfl⟩|⟨k,p,n,l,c,hn,rfl,gg⟩
 ·dsimp only [bE];exact ⟨rfl,Pk HB.out.drew hg4 (Nat.le_refl _) (Nat.le_trans (by omega) hz3),Or.inr ⟨p,QjG hn,rfl⟩⟩
 dsimp only [bw];have q4:w4.cell? ⟨w.heap.size+1,0,none⟩=some (.pointer (some ⟨w.heap.size,0,none⟩)):=cell_of_row w4 _ 0 _ _ _ (QrM hg4 hz3 H1.out);have L9:=aa hn;have Ma:=aa gg;have jW:=aa hg4;clear hn gg hg4;refine hK.out _ _ q4 (fun sM=>?_);refine wpAnyH_ready (rs:=[3]) (by kernel_rfl) (by simp) ?_;refine AllReadyH.cons rfl (fun K2 hK2=>?_) AllReadyH.nil;go_simp;refine hK2.out _ _ ((World.cell?_alloc_lt _ _ _ (World.block_lt_of_cell? w4 _ q4)).trans q4) (fun Jv=>?_);clear hK hK2 sM Jv;refine wpAnyH_ready (rs:=[5]) (by kernel_rfl) (by simp) ?_;refine AllReadyH.cons rfl (fun K3 hK3=>?_) AllReadyH.nil;go_simp;refine (Qom w.heap.size _ _ _ _ _ _ t w3 hz3 H1.out H2.out L9.out ht _ (Qus jW.out Ma.out)).mono ?_;rintro e w5 ⟨dR,h5⟩
 rcases h5.symm with ⟨q,pn,rfl⟩|⟨es,c5,pn,rfl,qu,AA,tI⟩
 ·dsimp only [bE];exact ⟨rfl,Ji HB.out dR (by intro k hk;omega),Or.inr ⟨q,Qlz pn,rfl⟩⟩
 dsimp only;have TR:w5.cell? ⟨w.heap.size+1,0,none⟩=some (.pointer (some ⟨w.heap.size,0,none⟩)):=cell_of_row w5 _ 0 _ _ _ tI.1;refine hK3.out _ _ TR (fun nV=>?_);refine wpAnyH_done (by kernel_rfl) ?_ _;have gI:=aa (Ji HB.out dR (by intro k hk;omega));have Cp:=aa pn;have I5:=aa qu;have Jw:=aa tI;clear dR pn qu tI jW Ma L9 nV hK3
 rotate_left
 go_simp;refine hK.out _ _ (c1b _) (fun sM=>?_);refine wpAnyH_ready (rs:=[2]) (by kernel_rfl) (by simp) ?_;refine AllReadyH.cons rfl (fun K2 hK2=>?_) AllReadyH.nil;go_simp;refine (NX.out _ (SC0.out.later (((Below.refl _ _).alloc (Nat.le_refl _) _).drew))).mono ?_;rintro e w4 ⟨hg4,h4⟩
 rcases h4.symm with ⟨p,hn,rfl⟩|⟨k,p,n,l,c,hn,rfl,gg⟩
 ·dsimp only [bE];exact ⟨rfl,Pk ((HB.out.alloc (by omega) _).drew) hg4 (Nat.le_refl _) (by show _<=(w3.alloc _).heap.size;simp only [size_alloc];omega),Or.inr ⟨p,QjG hn,rfl⟩⟩
 dsimp only [bw];have q4:w4.cell? ⟨w.heap.size+1,0,none⟩=some (.pointer (some ⟨w.heap.size,0,none⟩)):=cell_of_row w4 _ 0 _ _ _ (QrM hg4 hz3 H1.out);have L9:=aa hn;have Ma:=aa gg;have jW:=aa hg4;clear hn gg hg4;refine hK2.out _ _ q4 (fun Jv=>?_);clear hK hK2 sM Jv;refine wpAnyH_ready (rs:=[5]) (by kernel_rfl) (by simp) ?_;refine AllReadyH.cons rfl (fun K3 hK3=>?_) AllReadyH.nil;go_simp;refine (Qom w.heap.size _ _ _ _ _ _ t w3 hz3 H1.out H2.out L9.out ht _ (Qut hz3 jW.out Ma.out)).mono ?_;rintro e w5 ⟨dR,h5⟩
 rcases h5.symm with ⟨q,pn,rfl⟩|⟨es,c5,pn,rfl,qu,AA,tI⟩
 ·dsimp only [bE];exact ⟨rfl,Ji HB.out dR (by intro k hk;omega),Or.inr ⟨q,Qlz pn,rfl⟩⟩
 dsimp only;have TR:w5.cell? ⟨w.heap.size+1,0,none⟩=some (.pointer (some ⟨w.heap.size,0,none⟩)):=cell_of_row w5 _ 0 _ _ _ tI.1;refine hK3.out _ _ TR (fun nV=>?_);refine wpAnyH_done (by kernel_rfl) ?_ _;have gI:=aa (Ji HB.out dR (by intro k hk;omega));have Cp:=aa pn;have I5:=aa qu;have Jw:=aa tI;clear dR pn qu tI jW Ma L9 nV hK3
 all_goals
  go_wp2_with fail;refine (wP w.heap.size c5 t w5 I5.out AA ht).mono ?_;rintro e w6 ⟨bQ,BC⟩
  cases cw:bO t c5 with
  | bad p =>
   rw [cw] at BC;have KE:e=bE p:=BC;subst KE;dsimp only [bE];exact ⟨rfl,Pk gI.out bQ (Nat.le_refl _) gI.out.size,Or.inr ⟨p,Qon Cp.out cw,rfl⟩⟩
  | tok k2 p2 n2 l2 c2 =>
   rw [cw] at BC;obtain ⟨rfl,BF⟩ : e = .returned (bw k2 p2 ((n2:Nat):Int) ⟨l2.toArray⟩)/\aD w6 w.heap.size t c2:=BC;dsimp only [bw];have hT6:iG (w.heap.size+1) (w.heap.size+1+1) w.heap.size (w.heap.size+3) es w6:=Jw.out.later (S:=fun k=>k=w.heap.size) (Gr.of_grownBy bQ rfl) (by omega) (by omega) (by intro k cur hk hB;omega);have xf:=aa (QsL Cp.out cw);have Mb:=aa hT6;have oV:=aa (Pk gI.out bQ (Nat.le_refl _) gI.out.size);clear cw BF bQ hT6 Jw gI I5;generalize (⟨l2.toArray⟩ : ByteArray)=txt
   by_cases hk:k2=0
   ·subst hk;go_wp2_with fail;refine (sJ _ _ _ _ _).mono ?_;rintro e w7 ⟨rfl,fZ⟩;dsimp only;have jT:Below w6.heap.size w6 w7:=((Below.refl _ _).alloc (Nat.le_refl _) _).trans (fZ.mono (by simp));obtain ⟨a1,a2,v,a3,a4⟩:=Mb.out.later (S:=fun _=>False) (Gr.ae jT) id id (fun _ _ h=>h.elim);obtain ⟨oa,cap,rfl⟩:=I3 a4;have c7:=cell_of_row w7 _ 0 _ _ _ a3;have sY:Hid (Below w.heap.size w w7):=oV.out.trans (jT.mono oV.out.size);have H8:=aa a2;have HO:=aa (OZ a4 (Nat.le_add_right w.heap.size 3));clear fZ jT a1 a2 a3 a4 oV Mb;go_wp2_with fail;go_ret;exact ⟨sY.out,Or.inl ⟨es,c2,_,by rw [xf.out];simp,rfl,HO.out,H8.out⟩⟩
   ·have hf:((k2:Int) == (0:Int))=false:=by simp;omega
    have HK:=aa hk;go_wp2_with fail;refine (kK _ _ _ _ _).mono ?_;rintro e w7 ⟨rfl,fZ⟩;dsimp only [bE];have jT:Below w6.heap.size w6 w7:=((Below.refl _ _).alloc (Nat.le_refl _) _).trans (fZ.mono (by simp));exact ⟨rfl,oV.out.trans (jT.mono oV.out.size),Or.inr ⟨p2,by rw [xf.out,if_neg HK.out],rfl⟩⟩
open Go.RowKit
theorem QkF (p:Nat) (w:World):Calls Tryz.prog 91 #[.iface 217 (.int .i64 ((p:Nat):Int))] w fun e w'=>e = .returned (.int .i64 ((p:Nat):Int))/\w'=w:=by
 have Pm:∀ w:World,(Instr.typeAssert (.iface 217 (.int .i64 ((p:Nat):Int))) 20 217 true).run Tryz.prog w = .ok (.tuple #[.int .i64 ((p:Nat):Int),.bool true]) w:=fun w=>by kernel_rfl
 have aao:∀ (x:Bool) (w:World),(Op.unary .not (.bool x)).run Tryz.prog w = .ok (.bool (!x)) w:=fun _ _=>rfl
 go_enter Tryz.func91,Tryz.ntmps91;go_wp2;go_ret;exact ⟨rfl,rfl⟩
theorem QgI (p q:Nat) (x y:Int) (n:Nat) (Ef:List PanicEntry) (w:World) (hc:w.cell? ⟨p,0,none⟩=some (.int .i64 x)) (hz:w.frozen? ⟨p,0,none⟩=false) (hc2:w.cell? ⟨q,0,none⟩=some (.int .i64 y)) (hz2:w.frozen? ⟨q,0,none⟩=false) (hne:p≠q) :
  CallsD Tryz.prog 90 #[.pointer (some ⟨p,0,none⟩),.pointer (some ⟨q,0,none⟩)] (.panicking ({ v:=.iface 217 (.int .i64 ((n:Nat):Int)),recovered:=false }::Ef)) w fun e u' w' =>
   e = .returned (.tuple #[])/\u' = .panicking ({ v:=.iface 217 (.int .i64 ((n:Nat):Int)),recovered:=true }::Ef)/\w'=(w.setCell ⟨p,0,none⟩ (.int .i64 7)).setCell ⟨q,0,none⟩ (.int .i64 ((n:Nat):Int)):=by
 refine callsD_of_wpS Tryz.func90 rfl fun c₀ cs hu=>?_
 apply wpS_seq;apply wpS_region;simp [wpOpsS,go_sem,recoverD,hu,Tryz.ntmps90,Exit.thenS];apply wpS_seq;apply wpS_region;simp [wpOpsS,go_sem,Exit.thenS];refine wpS_cond (t:=true) (by simp [Act.eval,Array.replicate]) ?_;simp only [if_true];refine wpS_of_wp ?_;simp only [Array.replicate,List.replicate,List.setIfInBounds_toArray,List.set_cons_zero,List.set_cons_succ,List.append_toArray,List.cons_append,List.nil_append];go_wp2_with (go_at_call 91;refine (QkF _ _).mono ?_;rintro e w1 ⟨rfl,rfl⟩);simp [bodyPostS,results,Tryz.results90]
theorem QmN (p q:Nat) (w:World) :
  CallsD Tryz.prog 90 #[.pointer (some ⟨p,0,none⟩),.pointer (some ⟨q,0,none⟩)] .returning w fun e u' w'=>e = .returned (.tuple #[])/\u' = .returning/\w'=w:=by
 refine callsD_of_wpS Tryz.func90 rfl fun c₀ cs hu=>?_
 apply wpS_seq;apply wpS_region;simp [wpOpsS,go_sem,recoverD,hu,Tryz.ntmps90,Exit.thenS];apply wpS_seq;apply wpS_region;simp [wpOpsS,go_sem,Exit.thenS];refine wpS_cond (t:=false) (by simp [Act.eval,Array.replicate]) ?_;simp only [Bool.false_eq_true,if_false];refine wpS_of_wp (wp_skip ?_)
 cases c₀
 simp_all [bodyPostS,results,Tryz.results90]
theorem XD (K:Nat) (cap:Array Value) (w:World) (G:World->Prop) (B:Nat->World->Prop)
  (oG:∀ (args:Array Value) (w:World),(callFunc K args).run Tryz.prog w = .ok (.enter K args) w)
  (hv:Calls Tryz.prog K cap ((w.alloc (.cells #[.int .i64 0] 27)).alloc (.cells #[.int .i64 0] 3)) fun e W=>(W.heap[w.heap.size]? = some (.cells #[.int .i64 0] 27 (0,0))/\W.heap[w.heap.size+1]? = some (.cells #[.int .i64 0] 3 (0,0)))/\((e = .returned (.tuple #[])/\G W)∨(∃ p,e=bE p/\B p W))) :
  Calls Tryz.prog 48 #[.func (.func K) #[] cap] w fun e w' =>
   (∃ W,G W/\e = .returned (.tuple #[.int .i64 0,.int .i64 0])/\w'=(W.setCell ⟨w.heap.size,0,none⟩ (.int .i64 0)).setCell ⟨w.heap.size+1,0,none⟩ (.int .i64 0)) ∨
   (∃ p W,B p W/\e = .returned (.tuple #[.int .i64 7,.int .i64 ((p:Nat):Int)])/\w'=(W.setCell ⟨w.heap.size,0,none⟩ (.int .i64 7)).setCell ⟨w.heap.size+1,0,none⟩ (.int .i64 ((p:Nat):Int))):=by
 have HV:=aa hv;clear hv;have Fb:∀ (fn:Fn) (first cap:Array Value) (w:World),(Instr.makeFunc fn first cap).run Tryz.prog w = .ok (.func fn first cap) w:=fun _ _ _ _=>rfl
 go_enter_defers Tryz.func48,Tryz.ntmps48
 go_wp2_with fail;refine HV.out.mono ?_;rintro e W ⟨⟨r0,r1⟩,(⟨rfl,hG⟩|⟨p,rfl,hB⟩)⟩
 ·dsimp only;have c0:W.cell? ⟨w.heap.size,0,none⟩=some (.int .i64 0):=cell_of_row W _ 0 _ _ _ r0;have c1:W.cell? ⟨w.heap.size+1,0,none⟩=some (.int .i64 0):=cell_of_row W _ 0 _ _ _ r1;have f0:=frozen_of_row W w.heap.size 0 _ _ r0;have f1:=frozen_of_row W (w.heap.size+1) 0 _ _ r1;have HG:=aa hG;clear hG r0 r1;go_wp2_with fail;refine leaves_cons (f:=90) (args:=#[.pointer (some ⟨w.heap.size,0,none⟩),.pointer (some ⟨w.heap.size+1,0,none⟩)]) (by simp) (by simp [go_sem]) ?_;refine (QmN w.heap.size (w.heap.size+1) _).mono ?_;rintro e u' w'' ⟨rfl,rfl,rfl⟩;refine ⟨.tuple #[.int .i64 0,.int .i64 0],?_,Or.inl ⟨W,HG.out,rfl,rfl⟩⟩;simp [results,Tryz.results48,go_sem,c0,c1]
 ·dsimp only [bE];have c0:W.cell? ⟨w.heap.size,0,none⟩=some (.int .i64 0):=cell_of_row W _ 0 _ _ _ r0;have c1:W.cell? ⟨w.heap.size+1,0,none⟩=some (.int .i64 0):=cell_of_row W _ 0 _ _ _ r1;have f0:=frozen_of_row W w.heap.size 0 _ _ r0;have f1:=frozen_of_row W (w.heap.size+1) 0 _ _ r1;refine leaves_cons (f:=90) (args:=#[.pointer (some ⟨w.heap.size,0,none⟩),.pointer (some ⟨w.heap.size+1,0,none⟩)]) (by simp) (by simp [go_sem]) ?_;refine (QgI w.heap.size (w.heap.size+1) 0 0 p [] _ c0 f0 c1 f1 (by omega)).mono ?_;rintro e u' w'' ⟨rfl,rfl,rfl⟩;refine ⟨.tuple #[.int .i64 7,.int .i64 ((p:Nat):Int)],?_,Or.inr ⟨p,W,hB,rfl,rfl⟩⟩;simp [results,Tryz.results48,go_sem,c0,c1]
end Go.Proofs.YtncigfibncmioaaGreatDoor
namespace Go.Proofs.YtncigfibncmioaaGreatDoor
open Go.RowKit
def Tg.en (t:Tg):En:=⟨t.name,t.dig,t.size.toNat⟩
theorem Y9:∀ (xs:List (List UInt8)) (x:List UInt8),uI (xs ++ [x])=uI xs++(if xs = [] then [] else [44])++x
 | [],x=>rfl
 | [y],x=>by simp [uI]
 | y::z::l,x=>by
  have ih:=Y9 (z::l) x;simp only [List.cons_append] at ih ⊢;rw [uI,ih,uI];simp
def Qp5 (last:ByteArray) (l:List Tg):Nat->ByteArray
 | 0=>last
 | k+1=>(l.getD k default).name
theorem Za:∀ (l:List Tg) (last:ByteArray),(∀ k,k<l.length->leB (l.getD k default).name (Qp5 last l k)=false)->Jb last (l.map Tg.en)
 | [],_,_=>trivial
 | t::l,last,h=>by
  refine ⟨h 0 (by simp),Za l t.name fun k hk=>?_⟩;have:=h (k+1) (by simpa using hk)
  cases k with
  | zero=>exact this
  | succ k=>exact this
theorem QnO {l:List Tg} (h:∀ k,k<l.length->uz l k=true):Jb ⟨#[]⟩ (l.map Tg.en):=by
 refine Za l _ fun k hk=>?_
 have hg:=h k hk;unfold uz at hg;simp only [Bool.and_eq_true,Bool.not_eq_true'] at hg;have:=hg.2.2.1
 cases k with
 | zero=>exact this
 | succ k=>exact this
theorem QnP (t:ByteArray):rest t 0=t.data.toList:=rfl
theorem Qp6 {t:ByteArray} {es:List En} {r:List UInt8} (h:uG eL t.data.toList = .ok es r):∃ c,kT t = .ok es c:=by
 have hm:=((Qql t).read (Nat.zero_le _)).1;rw [QnP,h] at hm;unfold kT
 cases hr:uG (bO t) 0 with
 | ok v c=>rw [hr] at hm;cases hm;exact ⟨c,rfl⟩
 | bad p=>rw [hr] at hm;cases hm
def X0:Bl:=⟨[],[],[],[]⟩
theorem X0.ok:X0.Ok:=⟨Blank.nil,Blank.nil,Blank.nil,Blank.nil⟩
theorem Qsy {l:List Tg} {k:Nat} (h:uz l k=true):Good (l.getD k default).en/\0<=(l.getD k default).size:=by
 unfold uz at h;simp only [Bool.and_eq_true,decide_eq_true_eq] at h;refine ⟨⟨h.2.1,h.1,?_⟩,h.2.2.2.1⟩;show (l.getD k default).size.toNat<=300;have:=h.2.2.2;omega
theorem Qkq {t:Tg} (hg:Good t.en) (h0:0<=t.size):Reads t.en (uJ t):=by
 have h:=Qof t.en hg [] X0 X0 X0 Blank.nil X0.ok X0.ok X0.ok;have hd:Sha.aM (rd t.dig) 32=t.dig.data.toList:=Zb hg.dig;have hi:Lib.itoa t.size=Lib.decDigits t.size.toNat:=by
  unfold Lib.itoa;rw [if_neg (by omega)]
 have e:uJ t = []++123::qB X0 t.en (44::nM X0 t.en (44::kU X0 t.en [125])):=by
  unfold uJ qB nM kU memT;rw [hd,hi];simp [X0,Tg.en,il,rP,rQ]
 rw [e];exact h
theorem QnQ (l:List Tg):∀ k,k<=l.length->dM l k=K1++uI ((l.take k).map uJ):=by
 intro k
 induction k with
 | zero=>intro _;simp [dM,uI]
 | succ k ih =>
  intro hk;rw [dM,ih (by omega),List.take_succ_eq_append_getElem (show k<l.length by omega),List.map_append,List.map_cons,List.map_nil,Y9];have e1:l.getD k default=l[k]:=by simp [List.getD_eq_getElem?_getD,show k<l.length by omega]
  rw [e1];have e2:((l.take k).map uJ = []) ↔ ¬ 0<k:=by
   rw [List.map_eq_nil_iff,List.take_eq_nil_iff]
   constructor
   ·rintro (h|h)
    ·omega
    ·rw [h] at hk;simp at hk
   ·intro h;left;omega
  by_cases h0:0<k
  ·rw [if_pos h0,if_neg (by rw [e2];omega)];simp
  ·rw [if_neg h0,if_pos (by rw [e2];exact h0)];simp
theorem Qkr {l:List Tg} (hg:∀ k,k<l.length->uz l k=true) (h8:l.length<=8):∃ r,uG eL (dM l l.length ++ [93,125]) = .ok (l.map Tg.en) r:=by
 have h:=Qqp (l.map Tg.en) (l.map uJ) [] [] [] X0 X0 (by simp) (fun i h1 h2=>by
  rw [List.length_map] at h1;rw [List.getElem_map,List.getElem_map];have e:l.getD i default=l[i]:=by simp [List.getD_eq_getElem?_getD,h1]
  have:=Qsy (hg i h1);rw [e] at this;exact Qkq this.1 this.2) (QnO hg) (by simpa using h8) Blank.nil Blank.nil X0.ok X0.ok
 have e:dM l l.length ++ [93,125] = []++123::vG X0 (44::DN X0 [] (l.map uJ) (125 :: [])):=by
  rw [QnQ l l.length (Nat.le_refl _),List.take_length];unfold vG DN memT;simp [X0,K1,sQ,uF]
 rw [e];exact Qqq h Blank.nil
end Go.Proofs.YtncigfibncmioaaGreatDoor
