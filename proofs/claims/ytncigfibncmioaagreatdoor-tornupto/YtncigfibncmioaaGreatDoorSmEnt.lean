/-
  PROVED HERE: what Open of package store does where the disk has no layout; what the program's does then.
-/
import Derived.Test.YtncigfibncmioaaGreatDoorStDig
set_option maxHeartbeats 4000000
set_option maxRecDepth 100000
namespace Go.Proofs.YtncigfibncmioaaGreatDoor
open Go.RowKit
theorem Qpd (s:ai) (w:World) {L C B:Nat} (h:s.In w) (cX:Gl w) (dI:fN s) (hf:au s.ds L C B) (hb:cZ (L+s.R.now.length+20) (C+s.R.now.length+20) (B+36)) (fJ:∀ e∈s.R.now,e.path.size<=9223372036854775807) (hno:cr s.ds bK=none) :
  Calls Tryz.prog 50 #[.pointer (some ⟨s.b,0,none⟩)] w fun e w'=>∃ k s' sv ev,e = .returned (.tuple #[sv,ev])/\bR w' ev k/\aC s s' w w'/\KS s.ds k s'.ds /\
   (k=0->∃ sb cb tb,sv = .pointer (some ⟨sb,0,none⟩)/\(w.heap.size<=sb/\w.heap.size<=cb/\w.heap.size<=tb)/\aI w' sb s' cb tb 0 0 (.map []) (.map []))/\(k≠0->sv = .pointer none):=by
 obtain ⟨W,hW,hB,hsz,hcm,kz,hblk⟩:=PG w s.b;have tX:=fun w=>run_makeMap (P:=Tryz.prog) 156 w
 have tY:=fun w=>run_makeMap (P:=Tryz.prog) 157 w
 have hst:aI W (w.heap.size+1+1) s w.heap.size (w.heap.size+1) 0 0 (.map []) (.map []):=⟨h.later hB,cX.later hB,dI,hblk,hcm,kz,fun e=>by have:=h.lt e;omega,fun e=>by have:=h.lt e;omega,fun e=>by have:=cX.lt e;omega,fun e=>by have:=cX.lt e;omega,fun e=>by have:=cX.lt e;omega,by omega⟩;have HST:=aa hst;have HB:=aa hB;have HW:=aa hW;have H:=aa h;have wm:=aa (ve (w.heap.size+1+1) s bK W hst.on.sb hst.ay (by decide));have yV:=aa (fun (W':World) (hg:aC s s W W')=>Qo9 (w.heap.size+1+1) s W' (hst.on.go hg) hf hb fJ);have e1:∀ (args:Array Value) (w:World),(callFunc 92 args).run Tryz.prog w = .ok (.enter 92 args) w:=enters_of Tryz.func92 (by kernel_rfl) rfl;have e2:∀ (args:Array Value) (w:World),(callFunc 94 args).run Tryz.prog w = .ok (.enter 94 args) w:=enters_of Tryz.func94 (by kernel_rfl) rfl;clear hst hB hcm kz hblk h cX dI hf hb fJ hW;go_enter Tryz.func50,Tryz.ntmps50;go_wp2_with fail;rw [<- HW.out];refine (wm.out).mono ?_;rintro _ w1 ⟨rfl,hg1⟩;dsimp only;have bT:=aa hg1;clear hg1 wm HW tX tY;rw [hno];dsimp only [Option.isSome];go_wp2_with fail;refine (yV.out _ bT.out).mono ?_;rintro _ w2 ⟨ev,k,s',rfl,cj,hg2,hr⟩;dsimp only;have bP:=aa (bT.out.trans hg2);have HR:=aa hr;clear hg2 hr
 rcases cj with ⟨rfl,rfl⟩|⟨bu,sv,nm,rfl,dw⟩
 ·go_wp2_with fail;refine bodyPost_ret (results_tmp2 rfl _ _ _) rfl ?_;exact ⟨0,s',_,_,rfl,.inl ⟨rfl,rfl⟩,(aC.refl H.out HB.out).trans bP.out,.inl ⟨hno,HR.out⟩,fun _=>⟨_,_,_,rfl,by omega,HST.out.go bP.out⟩,fun hk=>absurd rfl hk⟩
 ·have gB:=aa dw;clear dw;go_wp2_with fail;refine bodyPost_ret (results_tmp2 rfl _ _ _) rfl ?_;exact ⟨k,s',_,_,rfl,.inr ⟨bu,sv,nm,rfl,gB.out⟩,(aC.refl H.out HB.out).trans bP.out,.inl ⟨hno,HR.out⟩,fun hk=>absurd hk bu,fun _=>rfl⟩
theorem Qpe (s:ai) (w:World) (d:Nat) {L C B:Nat} (h:s.In w) (cX:Gl w) (dI:fN s) (hf:au s.ds L C B) (hb:cZ (L+s.R.now.length+20) (C+s.R.now.length+20) (B+36)) (fJ:∀ e∈s.R.now,e.path.size<=9223372036854775807) (hno:cr s.ds bK=none) (jI:BD w d s.b) :
  Calls Tryz.prog 17 #[.pointer (some ⟨d,0,none⟩)] w fun e w'=>∃ k s' sv,e = .returned (.tuple #[sv,.int .i64 k])/\aC s s' w w'/\KS s.ds k s'.ds /\
   (k=0->∃ xb sb cb tb,sv = .pointer (some ⟨xb,0,none⟩)/\ej w' xb sb/\(w.heap.size<=sb/\w.heap.size<=cb/\w.heap.size<=tb)/\w.heap.size<=xb/\aI w' sb s' cb tb 0 0 (.map []) (.map []))/\(k≠0->sv = .pointer none) :=
 Ol (RO:=KS) s w d h cX dI (fun W hW=>Qpd s W (h.later hW) (cX.later hW) dI hf hb fJ hno) jI
end Go.Proofs.YtncigfibncmioaaGreatDoor
namespace Go.Proofs.YtncigfibncmioaaGreatDoor
open Go.RowKit Go.Shelf
theorem Qm9 (n:ByteArray) (ds:List Nat) (z z':Int) (h:ds.length=32):(aT n ds z).setIfInBounds 33 (.int .i64 z')=aT n ds z':=by
 obtain ⟨x0,x1,x2,x3,x4,x5,x6,x7,x8,x9,lO,lQ,lR,kJ,lS,lT,lU,lV,lW,lX,lY,lZ,l4,l5,l6,l7,l9,ma,mf,mg,mh,mi,rfl⟩:=IZ ds h;rfl
end Go.Proofs.YtncigfibncmioaaGreatDoor
namespace Go.Proofs.YtncigfibncmioaaGreatDoor
open Go.RowKit
theorem QqC (s:ai) (n:Int) (w:World) (h:s.In w) (hn:s.R.room<n) :
  Calls Tryz.prog 135 #[.pointer (some ⟨s.b,0,none⟩),.int .i64 n] w fun e w'=>∃ v,e = .returned v/\o7 w' v 4/\Below w.heap.size w w':=by
 have c0:w.cell? ⟨s.b,0,none⟩=some (.int .i64 s.R.room):=cell_of_row _ _ 0 _ _ _ h.is.blk;have aV:o7 (w.alloc (.cells #[.string ⟨#[70,105,116]⟩,.iface 161 (.int .i64 4)] 167)) (.iface 165 (.pointer (some ⟨w.heap.size,0,none⟩))) 4:=⟨_,_,rfl,heap_alloc_new _ _⟩;have bG:=aa aV;have hd:decide (s.R.room<n)=true:=decide_eq_true hn;clear aV h;go_enter Tryz.func135,Tryz.ntmps135;go_wp2_with fail;go_ret;exact ⟨_,rfl,bG.out,(Below.refl _ _).alloc (Nat.le_refl _) _⟩
theorem QkJ (sb:Nat) (s:ai) (w:World) (h:On w sb s) (hr:s.R.room<36) :
  Calls Tryz.prog 92 #[.pointer (some ⟨sb,0,none⟩)] w fun e w'=>∃ ev,e = .returned ev/\o7 w' ev 4/\aC s s w w':=by
 have xq:=aa (OX (.slice none 0 0) [] w 0 rfl (by decide) 0 (World.ownsRow_nil _ _ _ _) (fun k hk=>absurd hk (by omega)) h.gl.tab);have H:=aa h;clear h;go_enter Tryz.func92,Tryz.ntmps92;go_wp2_with fail;refine (xq.out).mono ?_;rintro _ w1 ⟨rfl,hb1⟩;dsimp only;have hsz:(⟨(dM [] 0 ++ [93,125]).toArray⟩ : ByteArray)=uC:=rfl;rw [hsz];have zJ:=H.out.later hb1;obtain ⟨cv,tv,hbl⟩:=zJ.sb;have c0:=cell_of_row _ _ 0 _ _ _ hbl;have oo:=aa (QqC s 36 w1 zJ.ay hr);have hes:uC.size=23:=rfl;have br:=aa hb1;clear zJ hbl hb1 xq hsz;go_wp2_with fail;refine (oo.out).mono ?_;rintro _ w2 ⟨v,rfl,⟨sv,nm,rfl,dw⟩,hb2⟩;dsimp only;have cL:=aa (br.out.trans (hb2.mono br.out.size));have gB:=aa dw;clear dw hb2 oo;go_wp2_with fail;go_ret;exact ⟨_,rfl,⟨sv,nm,rfl,gB.out⟩,aC.refl H.out.ay cL.out⟩
theorem QkK (s:ai) (w:World) (h:s.In w) (cX:Gl w) (dI:fN s) (hno:cr s.ds bK=none) (hr:s.R.room<36) :
  Calls Tryz.prog 50 #[.pointer (some ⟨s.b,0,none⟩)] w fun e w'=>∃ k s' sv ev,e = .returned (.tuple #[sv,ev])/\bR w' ev k/\aC s s' w w'/\(fun (D:DS) (k:Int) (D':DS)=>k=4/\D'=D) s.ds k s'.ds /\
   (k=0->∃ sb cb tb,sv = .pointer (some ⟨sb,0,none⟩)/\(w.heap.size<=sb/\w.heap.size<=cb/\w.heap.size<=tb)/\aI w' sb s' cb tb 0 0 (.map []) (.map []))/\(k≠0->sv = .pointer none):=by
 obtain ⟨W,hW,hB,hsz,hcm,kz,hblk⟩:=PG w s.b;have tX:=fun w=>run_makeMap (P:=Tryz.prog) 156 w
 have tY:=fun w=>run_makeMap (P:=Tryz.prog) 157 w
 have hst:aI W (w.heap.size+1+1) s w.heap.size (w.heap.size+1) 0 0 (.map []) (.map []):=⟨h.later hB,cX.later hB,dI,hblk,hcm,kz,fun e=>by have:=h.lt e;omega,fun e=>by have:=h.lt e;omega,fun e=>by have:=cX.lt e;omega,fun e=>by have:=cX.lt e;omega,fun e=>by have:=cX.lt e;omega,by omega⟩;have HB:=aa hB;have HW:=aa hW;have H:=aa h;have wm:=aa (ve (w.heap.size+1+1) s bK W hst.on.sb hst.ay (by decide));have yV:=aa (fun (W':World) (hg:aC s s W W')=>QkJ (w.heap.size+1+1) s W' (hst.on.go hg) hr);have e1:∀ (args:Array Value) (w:World),(callFunc 92 args).run Tryz.prog w = .ok (.enter 92 args) w:=enters_of Tryz.func92 (by kernel_rfl) rfl;have e2:∀ (args:Array Value) (w:World),(callFunc 94 args).run Tryz.prog w = .ok (.enter 94 args) w:=enters_of Tryz.func94 (by kernel_rfl) rfl;clear hst hB hcm kz hblk h cX dI hW;go_enter Tryz.func50,Tryz.ntmps50;go_wp2_with fail;rw [<- HW.out];refine (wm.out).mono ?_;rintro _ w1 ⟨rfl,hg1⟩;dsimp only;have bT:=aa hg1;clear hg1 wm HW tX tY;rw [hno];dsimp only [Option.isSome];go_wp2_with fail;refine (yV.out _ bT.out).mono ?_;rintro _ w2 ⟨ev,rfl,⟨sv,nm,rfl,dw⟩,hg2⟩;dsimp only;have bP:=aa (bT.out.trans hg2);have gB:=aa dw;clear hg2 dw;go_wp2_with fail;refine bodyPost_ret (results_tmp2 rfl _ _ _) rfl ?_;exact ⟨4,s,_,_,rfl,.inr ⟨by decide,sv,nm,rfl,gB.out⟩,(aC.refl H.out HB.out).trans bP.out,⟨rfl,rfl⟩,fun hk=>absurd hk (by decide),fun _=>rfl⟩
theorem QkL (s:ai) (w:World) (d:Nat) (h:s.In w) (cX:Gl w) (dI:fN s) (hno:cr s.ds bK=none) (hr:s.R.room<36) (jI:BD w d s.b) :
  Calls Tryz.prog 17 #[.pointer (some ⟨d,0,none⟩)] w fun e w'=>e = .returned (.tuple #[.pointer none,.int .i64 4])/\∃ s',aC s s' w w'/\s'.ds=s.ds:=by
 refine (Ol (RO:=fun (D:DS) (k:Int) (D':DS)=>k=4/\D'=D) s w d h cX dI (fun W hW=>QkK s W (h.later hW) (cX.later hW) dI hno hr) jI).mono ?_;rintro e w' ⟨k,s',sv,rfl,hg,⟨rfl,hd⟩,_,hno⟩;rw [hno (by decide)];exact ⟨rfl,s',hg,hd⟩
open Go.RowKit Go.Shelf Go.Maps Go.Sort
attribute [local go_sem] Oper.semAt_some
theorem PO {F:Fence} {n:Nat} {P:Program} {ops:Array Oper} {rest:List Oper} {o:Oper} {a:Act} {w:World} {Q:Exit->Act->World->Prop} (hgd:o.guard=none) (ty:TypeId) (x:Operand) (ho:o.op = .load ty x)
  (g:Nat) (hx:a.eval x = .pointer (some ⟨g,0,none⟩)) (t:TypeId) (cs:Array Value) (fr:Nat × Nat) (d:TypeDesc) (hg:w.heap[g]? = some (.cells cs t fr))
  (hu:P.underlying ty=some d) (hd:(match d with|.struct _|.array _ _=>true|_=>false)=true) (hi:(P.info? ty).map (·.size)=some cs.size)
  (h:wpListIn F n P ops Q rest (a.put o.dst (.agg cs)) w):wpListIn F n P ops Q (o::rest) a w:=by
 refine wpListIn_plain hgd fun K hK'=>?_
 unfold Oper.wpIn;refine ⟨?_,?_⟩
 ·simp [Oper.about,ho]
 ·rw [Oper.semAt_plain F _ _ (by rw [ho];intro c hc';cases hc')];unfold execOp;simp only [ho,hx,Instr.loadAt,Instr.sureAddr,Sem.run_bind,Sem.run_pure,Result.andThen_ok,run_loadVar_row w g t ty cs fr d hg hu hd hi];exact hK' _ _ h
theorem PN {F:Fence} {n:Nat} {P:Program} {ops:Array Oper} {rest:List Oper} {o:Oper} {a:Act} {w:World} {Q:Exit->Act->World->Prop} (hgd:o.guard=none) (ty:TypeId) (x y:Operand) (ho:o.op = .store ty x y)
  (g:Nat) (cells:Array Value) (hx:a.eval x = .pointer (some ⟨g,0,none⟩)) (hy:a.eval y = .agg cells)
  (t:TypeId) (old:Array Value) (hg:w.heap[g]? = some (.cells old t (0,0))) (hi:(P.info? ty).map (·.size)=some cells.size)
  (hold:old.size=cells.size) (h1:cells.all (·.oneCell')=true)
  (h:wpListIn F n P ops Q rest (a.put o.dst undef) (w.setRow g cells)):wpListIn F n P ops Q (o::rest) a w:=by
 refine wpListIn_plain hgd fun K hK'=>?_
 unfold Oper.wpIn;refine ⟨?_,?_⟩
 ·simp [Oper.about,ho]
 ·rw [Oper.semAt_plain F _ _ (by rw [ho];intro c hc';cases hc')];unfold execOp;simp only [ho,hx,hy,Instr.storeAt,Instr.sureAddr,Sem.run_bind,Sem.run_pure,Result.andThen_ok,run_storeVar_row w g t ty old cells hg hi hold h1];exact hK' _ _ h
abbrev EV:={ v:Value // ∃ n ds z,ds.length=32/\v = .agg (aT n ds z) }
def Hw (D:DataW Value):Prop:=∀ kl v,D.atKey kl .nil = .held v->∃ n ds z,ds.length=32/\v = .agg (aT n ds z)
def C9 (D:DataW Value) (p:List UInt8 × EV):Prop:=∀ zd,D.atKey (.string p.1) zd = .held p.2.1
theorem Qrc (F:Fence) (n:Nat) (hf:F.fn 217) (hro:F.round=none) (hn:1<=n) (l Bm b nn:Nat) (D0:DataW Value) (hE:Hw D0) (J Jx:List EV->World->Prop)
  (hY:∀ pre x W,J pre W->pre.length<Maps.size D0->YieldAt F (n - 1) Tryz.prog l #[x.1] W fun e W' =>
   (e = .returned (.bool true)/\J (pre ++ [x]) W'/\KeepsWalks W W')∨(e = .returned (.bool false)/\Jx (pre ++ [x]) W'))
  (W:World) (hJ:AbidesFrom W.heap.size J) (hm:W.cell? ⟨Bm,0,none⟩=some (.map (some b))) (hown:TM W b nn D0) (h0:J [] W) :
  CallsIn F n Tryz.prog 217 #[.func (.yield l) #[] #[],.pointer (some ⟨Bm,0,none⟩)] W fun e W'=>(∃ v,e = .returned v) /\
   ((∃ xs,(∃ ps:List (List UInt8 × EV),(ps.map (·.1)).Perm (strKeys D0)/\(∀ p∈ps,C9 D0 p)/\xs=ps.map (·.2))/\J xs W')∨(∃ pre,True/\Jx pre W')):=by
 have ji:=(zero_of_info Tryz.cY).1;refine callsIn_of_wp Tryz.func217 rfl hf ?_ hro;simp only [Tryz.ntmps217,List.size_toArray,List.length_cons,List.length_nil,Nat.reduceAdd,Nat.reduceSub,Array.replicate_succ,Array.replicate_zero,List.push_toArray,List.append_toArray,List.nil_append,List.cons_append]
 gi_wp2_with (first
  | (gi_at_range;refine wpListIn_range_own _ rfl _ 157 rfl 9 193 tZ Tryz.underlying157 _ b nn _ rfl hown ?_;intro w0 hrg0 hg0 hs0)
  | gi_in)
 go_frame
 gi_loopw [7] (fun _ wr=>∃ (left:Lit->Bool) (cnt:Nat) (ps:List (List UInt8 × EV)),wr.ranges Tryz.prog 9 fG b W.heap.size nn D0 left cnt/\ps.length+cnt<=Maps.size D0/\Collected D0 left (ps.map (·.1))/\(∀ p∈ps,C9 D0 p)/\J (ps.map (·.2)) wr)
  (fun _ wr=>wr.rangeLeft b W.heap.size)
 case atStart =>
  exact ⟨_,_,[],hrg0,by simp,Collected.start D0,by simp,hJ [] W w0 none h0 hg0 (fun r e=>by cases e)⟩
 case round =>
  obtain ⟨left,cnt,ps,hrg,hcs,hC,hV,hJs⟩:=hrel
  gi_wp2_with (first
   | (gi_at_next;refine wpListIn_next_ranges _ rfl _ rfl 9 tZ fG encStr (fun c:Value=>c) (fun key kl hk=>by obtain ⟨x,hx,_⟩:=Maps.keyOf_str Tryz.underlying9 hk;exact ⟨x,hx⟩) (fun v y hv=>⟨v,rfl⟩) b W.heap.size nn _ _ _ rfl hrg ?_ ?_)
   | gi_in)
  ·intro hc0 hl0
   gi_wp2
   go_end0
   exact ⟨⟨_,rfl⟩,.inl ⟨_,⟨ps,hC.perm hown tZ Tryz.underlying9 hl0,hV,rfl⟩,hJs⟩⟩
  ·intro x c kl yd yp w2 cnt2 hkey hlk hv hat hrg2 hlt hg2 hs2 hen;obtain ⟨x',ex,rfl,_⟩:=Maps.keyOf_str Tryz.underlying9 hkey;obtain rfl:x=x':=encStr_inj ex;have hyd:yd = .held c:=by
    unfold fG at hv;injection hv with hv
    injection hv with hv
    exact hv.symm
   subst hyd;obtain ⟨en,ds,z,aJ,rfl⟩:=hE _ c (hat .nil);have hJ2:J (ps.map (·.2)) w2:=hJ _ wr w2 (some W.heap.size) hJs hg2 (fun r e=>by cases e;exact ⟨Nat.le_refl _,hrg.iter_walk⟩);obtain ⟨X,hX⟩ : ∃ X,X=w2.alloc (.cells (aT en ds z) 193):=⟨_,rfl⟩;have hJ3:J (ps.map (·.2)) X:=by rw [hX];exact hJ _ w2 _ none hJ2 (World.grownBy_alloc _ _ _) (fun r e=>by cases e)
   have iC:X.heap[w2.heap.size]? = some (.cells (aT en ds z) 193 (0,0)):=by rw [hX];exact heap_alloc_new _ _
   have ud:=hrg2.alloc (.cells (aT en ds z) 193);rw [<- hX] at ud;obtain ⟨fn,tmps,assign,body,hy,hR⟩:=hY (ps.map (·.2)) ⟨.agg (aT en ds z),en,ds,z,aJ,rfl⟩ X hJ3 (by simp;omega);have HX:=aa hX;have e8:=aa iC;have wu:=aa ud;clear hs2 hX iC ud hJ2 hJ3;dsimp only at hy
   gi_wp2_with (first
    | (refine PN rfl 193 _ _ rfl w2.heap.size _ rfl rfl 193 _ (heap_alloc_new _ _) (gW _ _ _ aJ) (by rw [eh _ _ _ aJ,eh _ _ _ (Sha.af _)]) (Array.all_eq_true_iff_forall_mem.2 fun u hu=>mj _ _ _ u (by simpa using hu)) ?_;rw [World.setRow_alloc_new,<- HX.out])
    | (refine PO rfl 193 _ rfl w2.heap.size rfl 193 _ _ _ e8.out Tryz.underlying193 rfl (gW _ _ _ aJ) ?_)
    | gi_in)
   refine hR.mono ?_;have Qf:Collected D0 (fun z=>left z && !z.sameKey (.string x)) ((ps ++ [(x,(⟨.agg (aT en ds z),en,ds,z,aJ,rfl⟩ : EV))]).map (·.1)):=by simpa using hC.step hlk hat
   have hV2:∀ p∈ps ++ [(x,(⟨.agg (aT en ds z),en,ds,z,aJ,rfl⟩ : EV))],C9 D0 p:=fun p hp=>(List.mem_append.1 hp).elim (hV p) (fun e=>by simp at e;subst e;exact hat)
   rintro e W3 (⟨rfl,hJ3,hk3⟩|⟨rfl,zU⟩)
   ·gi_wp2
    have hrg3:=wu.out.of_walks hk3
    go_roundw
    case rel=>exact ⟨_,cnt2,ps ++ [(x,_)],hrg3,by simp;omega,Qf,hV2,by simpa using hJ3⟩
    case measure=>rw [hrg3.left_eq,hrg.left_eq];exact hlt
   ·gi_wp2
    refine bodyPost_ret (results_none rfl _ _ _) rfl ?_;exact ⟨⟨_,rfl⟩,.inr ⟨_,trivial,zU⟩⟩
theorem Qtr (F:Fence) (n:Nat) (hf:F.fn 173) (hro:F.round=none) (mb:Option Nat) (w:World) :
  CallsIn F n Tryz.prog 173 #[.map mb] w fun e w'=>e = .returned (.func (.func 217) #[] #[.pointer (some ⟨w.heap.size,0,none⟩)])/\w'=w.alloc (.cells #[.map mb] 157):=by
 refine callsIn_of_wp Tryz.func173 rfl hf ?_ hro;simp only [Tryz.ntmps173,List.size_toArray,List.length_cons,List.length_nil,Nat.reduceAdd,Nat.reduceSub,Array.replicate_succ,Array.replicate_zero,List.push_toArray,List.append_toArray,List.nil_append,List.cons_append]
 gi_wp2
 go_ret;exact ⟨rfl,rfl⟩
def Hv (D0:DataW Value) (xs:List EV):Prop:=∃ ps:List (List UInt8 × EV),(ps.map (·.1)).Perm (strKeys D0)/\(∀ p∈ps,C9 D0 p)/\xs=ps.map (·.2)
theorem Qna (F:Fence) (n:Nat) (hf:F.fn 217) (hro:F.round=none) (hn:1<=n) (Bm b nn:Nat) (D0:DataW Value) (hE:Hw D0) (w:World) (hm:w.cell? ⟨Bm,0,none⟩=some (.map (some b))) (hown:TM w b nn D0) :
  SeqStopsK F n Tryz.prog 217 #[.pointer (some ⟨Bm,0,none⟩)] (fun x:EV=>#[x.1]) KeepsWalks (Hv D0) (fun _=>True) (Maps.size D0) w:=fun l J Jx W hW hJ _ hY h0 =>
 Qrc F n hf hro hn l Bm b nn D0 hE J Jx hY W hJ (cell_later hW hm) (jP hown (hW.block b hown.lt)) h0
open Go.RowKit Go.Shelf Go.Maps Go.Sort
attribute [local go_sem] Oper.semAt_some
def EV.cs (x:EV):List Value:=x.1.cells.toList
def AI (w:World) (pre:List EV) (W:World):Prop:=∃ sv,W.heap[w.heap.size]? = some (.cells #[sv] 138 (0,0))/\W.ownsRow w.heap.size 193 34 sv pre.length (pre.flatMap EV.cs)/\Below w.heap.size w W
theorem Qf1 {F:Fence} {m:Nat} {ops:Array Oper} {rest:List Oper} {op:Oper} {a:Act} {w:World} {Q:Exit->Act->World->Prop} (hgd:op.guard=none) (x:Operand) (ho:op.op = .buildSlice 138 1 #[(0,x)])
  (n:ByteArray) (ds:List Nat) (k:Int) (hl:ds.length=32) (hx:a.eval x = .agg (aT n ds k))
  (h:wpListIn F m Tryz.prog ops Q rest (a.put op.dst (.slice (some ⟨w.heap.size,0,none⟩) 1 1)) (w.alloc (.cells (aT n ds k) 193))):wpListIn F m Tryz.prog ops Q (op::rest) a w:=by
 refine wpListIn_plain hgd fun K hK'=>?_
 have hr:=X7 n ds k hl w;unfold Oper.wpIn;refine ⟨?_,?_⟩
 ·simp [Oper.about,ho]
 ·rw [Oper.semAt_plain F _ _ (by rw [ho];intro c hc';cases hc')];unfold execOp;simp only [ho,hx,List.map_toArray,List.map_cons,List.map_nil,Sem.run_bind,Sem.run_pure,hr,Result.andThen_ok];exact hK' _ _ h
theorem PL (W:World) (cs:Array Value) (T:TypeId):∀ j u,cs.toList[j]? = some u->(W.alloc (.cells cs T)).cell? ((⟨W.heap.size,0,none⟩ : Addr).add j)=some u:=by
 intro j u hu;have mz:(⟨W.heap.size,0,none⟩ : Addr).add j=⟨W.heap.size,j,none⟩:=by unfold Addr.add;split<;>simp_all
 rw [mz,cell_of_row _ _ j _ _ _ (heap_alloc_new _ _)];simpa using hu
theorem su {w:World} {B:Nat} {e:TypeId} {size n:Nat} {v:Value} {l:List Value} (h:w.ownsRow B e size v n l):∀ k,v.ownBlock=some k->B<=k:=by
 intro k hk;obtain ⟨_,h2⟩:=h
 rcases h2 with ⟨rfl,_⟩|⟨g',cap',cur,rfl,hB,_⟩
 ·cases hk
 ·have:some g'=some k:=hk;injection this with this
  omega
theorem QrW (w:World) (B:Nat) (hB:w.heap.size<=B):OwnFrom B (AI w):=by
 rintro pre X Y row ⟨sv,h1,h2,h3⟩ hgr hr;have key:∀ (k:Nat) (cur:Array Value) (T:TypeId),X.heap[k]? = some (.cells cur T (0,0))->Y.heap[k]? = X.heap[k]?:=fun k cur T hc=>hgr.block k (ax hc) (fun e=>by
  obtain ⟨o,x2,x3⟩:=(hr k e.symm).2;rw [hc] at x2
  cases x2
  cases x3)
 refine ⟨sv,(key _ _ _ h1).trans h1,jQ h2 (fun k hk _=>?_),h3.grown hgr h3.size (fun k e=>by have:=(hr k e).1;omega)⟩;obtain ⟨c,hc⟩:=eO h2 k hk;exact key _ _ _ hc
def AX (w:World) (g:Nat) (lb:Array Value) (x:EV) (a:Act) (W:World):Prop:=∃ vb,w.heap.size<vb/\a = { tmps:=#[.slice none 0 0,.func (.func g) #[] lb,.pointer (some ⟨w.heap.size,0,none⟩),undef,.slice none 0 0,.pointer (some ⟨vb,0,none⟩),.func (.func g) #[] lb,x.1,undef,undef,undef,undef,undef],defers:=[] }/\W.heap[vb]? = some (.cells x.1.cells 193 (0,0))
theorem QuS (w:World) (g:Nat) (lb:Array Value) (B:Nat) (x:EV) (a:Act):OwnFrom B (fun (_:Unit) W=>AX w g lb x a W):=by
 rintro _ X Y row ⟨vb,h0,h1,h2⟩ hgr hr;exact ⟨vb,h0,h1,(hgr.block vb (ax h2) (fun e=>by
  obtain ⟨o,x2,x3⟩:=(hr vb e.symm).2;rw [h2] at x2
  cases x2
  cases x3)).trans h2⟩
theorem appendSeq_in (n:Nat) (hn:5<=n) (g:Nat) (lb:Array Value) (eg:∀ args w,(callFunc g args).run Tryz.prog w = .ok (.enter g args) w) (S:List EV->Prop) (N:Nat) (hN:N<=1000) (w:World)
  (hseq:SeqStopsK Fence.wide (n - 1) Tryz.prog g lb (fun x:EV=>#[x.1]) KeepsWalks S (fun _=>True) N w) :
  CallsIn Fence.wide n Tryz.prog 246 #[.slice none 0 0,.func (.func g) #[] lb] w fun e w'=>∃ v xs,e = .returned v/\S xs/\w'.ownsRow w.heap.size 193 34 v xs.length (xs.flatMap EV.cs)/\Below w.heap.size w w':=by
 have ji:=(zero_of_info Tryz.cY).1;obtain ⟨i0,hi,hz0,hz1,hz2⟩:=info_parts Tryz.oZ;refine callsIn_of_wp_marks Tryz.func246 rfl trivial ?_ rfl;simp only [Tryz.ntmps246,List.size_toArray,List.length_cons,List.length_nil,Nat.reduceAdd,Nat.reduceSub,Array.replicate_succ,Array.replicate_zero,List.push_toArray,List.append_toArray,List.nil_append,List.cons_append]
 gi_wp2_with fail
 obtain ⟨w1,eR⟩ : ∃ w1,w1=w.alloc (.cells #[.slice none 0 0] 138):=⟨_,rfl⟩;have hb1:Below w.heap.size w w1:=by rw [eR];exact (Below.refl _ _).alloc (Nat.le_refl _) _
 have hx1:w1.heap[w.heap.size]? = some (.cells #[.slice none 0 0] 138 (0,0)):=by rw [eR];exact heap_alloc_new _ _
 have hs1:w1.heap.size=w.heap.size+1:=by rw [eR,size_alloc]
 rw [<- eR];refine wpIn_rangeFunc_ownH (F:=Fence.wide) (n:=n) rfl (by omega) (gf:=g) (lb:=lb) rfl trivial eg hseq KeepsWalks.trans (walksK_b (w:=w1)) hb1 (fun _=>rfl)
  (AI w) (fun _ _ _=>False) (QrW w _ (by omega)) (fun _ _ _ _ _ h _ _=>h.elim)
  ⟨_,hx1,World.ownsRow_nil _ _ _ _,hb1⟩ (AX w g lb) (QuS w g lb _) ?assign ?body ?done ?stop
 case assign =>
  rintro l pre ⟨_,en,ds,z,aJ,rfl⟩ W K hI hK;have hgr:=World.grownBy_alloc W (.cells (aT en ds z) 193) none;have MH:=QrW w W.heap.size (by obtain ⟨sv,i1,i2,i3⟩:=hI;exact i3.size) pre W _ none hI hgr (fun r e=>by cases e);have MI:w.heap.size<W.heap.size:=by
   obtain ⟨sv,i1,i2,i3⟩:=hI;exact ax i1
  have HK:=aa (hK _ (W.alloc (.cells (aT en ds z) 193)) ⟨by simp,fun k o _ hk _=>(Below.heap_alloc _ _ _ (ax hk)).trans hk⟩ ⟨by simp,fun k o hk _=>(Below.heap_alloc _ _ _ (ax hk)).trans hk⟩ MH ⟨W.heap.size,MI,rfl,heap_alloc_new _ _⟩);clear hI MH hK hgr
  gi_wp2_with (first
   | (refine PN rfl 193 _ _ rfl W.heap.size _ rfl rfl 193 _ (heap_alloc_new _ _) (gW _ _ _ aJ) (by rw [eh _ _ _ aJ,eh _ _ _ (Sha.af _)]) (Array.all_eq_true_iff_forall_mem.2 fun u hu=>mj _ _ _ u (by simpa using hu)) ?_;rw [World.setRow_alloc_new])
   | gi_in)
  exact HK.out
 case body =>
  rintro l pre ⟨_,en,ds,z,aJ,rfl⟩ a' W hl ⟨r,hr⟩ ⟨sv,i1,i2,i3⟩ ⟨vb,MI,rfl,hv⟩ hlen;obtain ⟨so,sc,rfl⟩:=jG i2;have ce:=cell_of_row _ _ 0 _ _ _ i1;have nk:=aa i2;have A3:=aa i1;have zP:=aa i3;have HV:=aa hv;have MJ:w.heap.size<W.heap.size:=ax i1;have Hj:Hid (∀ w2:World,(W.alloc (.cells (aT en ds z) 193)).grownBy w2 (Value.slice so pre.length sc).ownBlock->w2.heap[w.heap.size]? = some (.cells #[.slice so pre.length sc] 138 (0,0))):=aa (fun w2 hg2=>by
   refine (hg2.block _ (by rw [size_alloc];omega) (fun e=>?_)).trans ((Below.heap_alloc _ _ _ MJ).trans i1);obtain ⟨c,hc⟩:=eO i2 _ e.symm;rw [i1] at hc;injection hc with hc
   injection hc with _ hc
   exact absurd hc (by decide))
  have CR:=aa (PL W (aT en ds z) 193);clear i1 i2 i3 hv;dsimp only
  gi_wp2_with (first
   | (refine PO rfl 193 _ rfl vb rfl 193 _ _ _ HV.out Tryz.underlying193 rfl (gW _ _ _ aJ) ?_)
   | (refine Qf1 rfl _ rfl en ds z aJ rfl ?_)
   | (refine wpListIn_append_own _ rfl _ _ 138 rfl w.heap.size 193 i0 _ 34 56 Tryz.underlying138 hi hz0 hz1 hz2 (eh _ _ _ (Sha.af _)) (by decide) _ pre.length _ rfl (gA nk.out ((Below.refl _ _).alloc (Nat.le_refl _) _)) _ 1 1 (aT en ds z).toList rfl (by rw [Array.length_toList,eh _ _ _ aJ]) CR.out (mj _ _ _) (by unfold maxLen;omega) (by omega) (by simp;omega) ?_;rintro v2 w2 hv2 hg2 -;obtain ⟨CS,CT,rfl⟩:=jG hv2;have fI:=Hj.out w2 hg2;have cb:=cell_of_row _ _ 0 _ _ _ fI;have fb:=frozen_of_row _ _ 0 _ _ fI;have qj:=aa hv2;have bP:=aa hg2;have nI:=aa fI;clear hv2 hg2 fI)
   | gi_in)
  have zQ:∀ (k:Nat) (o:Obj),W.heap[k]? = some o->o.isCells=false->(w2.setCell ⟨w.heap.size,0,none⟩ (.slice CS (pre.length+1) CT)).heap[k]? = some o:=by
   intro k o hk ho;rw [heap_setCell_other _ _ _ _ (fun e=>?_)]
   ·refine (bP.out.block k (by rw [size_alloc];have:=ax hk;omega) (fun e=>?_)).trans ((Below.heap_alloc _ _ _ (ax hk)).trans hk);obtain ⟨c,hc⟩:=eO nk.out _ e.symm;rw [hc] at hk
    cases hk
    cases ho
   ·have e:k=w.heap.size:=e;subst e;rw [A3.out] at hk
    cases hk
    cases ho
  have hsz:W.heap.size<=(w2.setCell ⟨w.heap.size,0,none⟩ (.slice CS (pre.length+1) CT)).heap.size:=by
   have:=bP.out.size;simp only [size_alloc] at this;simp;omega
  refine ⟨⟨hsz,fun k o _ hk ho=>zQ k o hk ho⟩,⟨hsz,fun k o hk ho=>zQ k o hk (Obj.not_cells_of_walk ho)⟩,.slice CS (pre.length+1) CT,?_,?_,?_⟩
  ·rw [heap_setCell_same _ w.heap.size 0 _ _ _ nI.out];rfl
  ·have hrow:=jQ (w':=w2.setCell ⟨w.heap.size,0,none⟩ (.slice CS (pre.length+1) CT)) qj.out (fun k hk _=>heap_setCell_other _ _ _ _ (fun e=>by
    have e:k=w.heap.size:=e;subst e;obtain ⟨c,hc⟩:=eO qj.out _ hk;rw [nI.out] at hc;injection hc with hc
    injection hc with _ hc
    exact absurd hc (by decide)))
   rw [List.flatMap_append,List.length_append];simp only [List.flatMap_cons,List.flatMap_nil,List.append_nil];exact hrow
  ·have h1:Below w.heap.size w w2:=(zP.out.alloc zP.out.size _).grown bP.out (by rw [size_alloc];omega) (fun k e=>su nk.out k e);exact ⟨h1.os,h1.tape,h1.output,by simpa using h1.size,fun k hk=>(heap_setCell_other _ _ _ _ (fun e=>by have e:k=w.heap.size:=e;omega)).trans (h1.block k hk)⟩
 case done =>
  rintro D xs W hD hS ⟨sv,i1,i2,i3⟩ hK;obtain ⟨so,sc,rfl⟩:=jG i2;have ce:=cell_of_row _ _ 0 _ _ _ i1;have nk:=aa i2;have zP:=aa i3;have A3:=aa i1;clear i1 i2 i3
  gi_wp2
  refine ⟨by simp,.inl ⟨_,_,rfl,run_takeDeferred hK,?_⟩⟩;refine ⟨_,results_tmp rfl _ _ _,_,xs,rfl,hS,jQ nk.out (fun k hk _=>World.putObj_heap_other (fun e=>?_)),zP.out.grown (PQ _ _ _) zP.out.size (fun k e=>by injection e with e;omega)⟩;subst e;obtain ⟨c,hc⟩:=eO nk.out k hk;rw [hc] at hK
  cases hK
 case stop =>
  rintro D c pre W hD _ h;exact h.elim
theorem collect_in (n:Nat) (hn:6<=n) (g:Nat) (lb:Array Value) (eg:∀ args w,(callFunc g args).run Tryz.prog w = .ok (.enter g args) w) (S:List EV->Prop) (N:Nat) (hN:N<=1000) (w:World)
  (hseq:SeqStopsK Fence.wide (n - 1 - 1) Tryz.prog g lb (fun x:EV=>#[x.1]) KeepsWalks S (fun _=>True) N w) :
  CallsIn Fence.wide n Tryz.prog 215 #[.func (.func g) #[] lb] w fun e w'=>∃ v xs,e = .returned v/\S xs/\w'.ownsRow w.heap.size 193 34 v xs.length (xs.flatMap EV.cs)/\Below w.heap.size w w':=by
 have f1:Fence.wide.fn 246:=trivial;have HA:=aa (appendSeq_in (n - 1) (by omega) g lb eg S N hN w hseq);refine callsIn_of_wp Tryz.func215 rfl trivial ?_ rfl;simp only [Tryz.ntmps215,List.size_toArray,List.length_cons,List.length_nil,Nat.reduceAdd,Nat.reduceSub,Array.replicate_succ,Array.replicate_zero,List.push_toArray,List.append_toArray,List.nil_append,List.cons_append]
 gi_wp2_with fail
 refine ⟨fun _=>by omega,?_⟩;refine (HA.out).mono ?_;rintro _ w1 ⟨v,xs,rfl,h1,h2,h3⟩;dsimp only;have H2:=aa h2;clear h2
 gi_wp2_with fail
 go_ret;exact ⟨_,xs,rfl,h1,H2.out,h3⟩
open Go.RowKit
theorem QiM (n:Nat) (hn:n<=1) (w:World):Calls Tryz.prog 242 #[.int .u64 ((n:Nat):Int)] w fun e w'=>∃ k,e = .returned (.int .i64 k)/\w'=w:=by
 have h2:n=0∨n=1:=by omega
 rcases h2 with rfl|rfl
 ·go_enter Tryz.func242,Tryz.ntmps242;go_wp2_with fail;go_ret;exact ⟨_,rfl,rfl⟩
 ·go_enter Tryz.func242,Tryz.ntmps242;go_wp2_with fail;go_ret;exact ⟨_,rfl,rfl⟩
theorem Qg5 (n:Nat) (hn:n<=1) (w:World):Calls Tryz.prog 209 #[.int .u64 ((n:Nat):Int)] w fun e w'=>∃ k,e = .returned (.int .i64 k)/\w'=w:=by
 have HL:=aa (QiM n hn w);have hw:IntKind.wrap .u64 ((n:Nat):Int)=((n:Nat):Int):=by
  have h2:n=0∨n=1:=by omega
  rcases h2 with rfl|rfl<;>decide
 go_enter Tryz.func209,Tryz.ntmps209;go_wp2_with fail;refine (HL.out).mono ?_;rintro _ w1 ⟨k,rfl,rfl⟩;dsimp only;go_wp2_with fail;go_ret;exact ⟨_,rfl,rfl⟩
theorem Qq8 (o:Option Addr) (n c:Nat) (hn:n<=1) (f:Value) (w:World):Calls Tryz.prog 269 #[.slice o n c,.int .i64 0,.int .i64 ((n:Nat):Int),f] w fun e w'=>e = .returned (.tuple #[])/\w'=w:=by
 have d1:decide ((1:Int)<((n:Nat):Int))=false:=decide_eq_false (by omega);go_enter Tryz.func269,Tryz.ntmps269;go_wp2_with fail
 go_loopw [8] (fun iv wr=>iv = .int .i64 1/\wr=w) (fun _ _=>0)
 case atStart=>exact ⟨rfl,rfl⟩
 case round =>
  obtain ⟨rfl,rfl⟩:=hrel;go_wp2_with fail
  go_end0
  exact ⟨rfl,rfl⟩
theorem Qq9 (o:Option Addr) (n c:Nat) (hn:n<=1) (k:Int) (f:Value) (w:World):Calls Tryz.prog 247 #[.slice o n c,.int .i64 0,.int .i64 ((n:Nat):Int),.int .i64 k,f] w fun e w'=>e = .returned (.tuple #[])/\w'=w:=by
 have HI:=aa (Qq8 o n c hn f w);have d1:decide (((n:Nat):Int)<=12)=true:=decide_eq_true (by omega);go_enter Tryz.func247,Tryz.ntmps247;go_wp2_with fail
 go_loopw [1,2] (fun av bv wr=>av = .int .i64 0/\bv = .int .i64 ((n:Nat):Int)/\wr=w) (fun _ _ _=>0)
 case atStart=>exact ⟨rfl,rfl,rfl⟩
 case round =>
  obtain ⟨rfl,rfl,rfl⟩:=hrel;go_wp2_with fail;refine (HI.out).mono ?_;rintro _ w1 ⟨rfl,rfl⟩;dsimp only;go_wp2_with fail;refine bodyPost_ret (results_none rfl _ _ _) rfl ?_;exact ⟨rfl,rfl⟩
theorem Qpl (o:Option Addr) (n c:Nat) (hn:n<=1) (f:Value) (w:World):Calls Tryz.prog 216 #[.slice o n c,f] w fun e w'=>e = .returned (.tuple #[])/\w'=w:=by
 have HB:=aa (Qg5 n hn w);have HP:=aa (fun k=>Qq9 o n c hn k f w);have hw:IntKind.wrap .u64 ((n:Nat):Int)=((n:Nat):Int):=by
  have h2:n=0∨n=1:=by omega
  rcases h2 with rfl|rfl<;>decide
 go_enter Tryz.func216,Tryz.ntmps216;go_wp2_with fail;refine (HB.out).mono ?_;rintro _ w1 ⟨k,rfl,rfl⟩;dsimp only;go_wp2_with fail;refine (HP.out _).mono ?_;rintro _ w1 ⟨rfl,rfl⟩;dsimp only;go_wp2_with fail
 go_end0
 exact ⟨rfl,rfl⟩
theorem Qra (o:Option Addr) (n c:Nat) (hn:n<=1) (f:Value) (w:World):Calls Tryz.prog 233 #[.slice o n c,.int .i64 0,.int .i64 ((n:Nat):Int),f] w fun e w'=>e = .returned (.tuple #[])/\w'=w:=by
 have d1:decide ((1:Int)<((n:Nat):Int))=false:=decide_eq_false (by omega);go_enter Tryz.func233,Tryz.ntmps233;go_wp2_with fail
 go_loopw [8] (fun iv wr=>iv = .int .i64 1/\wr=w) (fun _ _=>0)
 case atStart=>exact ⟨rfl,rfl⟩
 case round =>
  obtain ⟨rfl,rfl⟩:=hrel;go_wp2_with fail
  go_end0
  exact ⟨rfl,rfl⟩
theorem Qrb (o:Option Addr) (n c:Nat) (hn:n<=1) (k:Int) (f:Value) (w:World):Calls Tryz.prog 208 #[.slice o n c,.int .i64 0,.int .i64 ((n:Nat):Int),.int .i64 k,f] w fun e w'=>e = .returned (.tuple #[])/\w'=w:=by
 have HI:=aa (Qra o n c hn f w);have d1:decide (((n:Nat):Int)<=12)=true:=decide_eq_true (by omega);go_enter Tryz.func208,Tryz.ntmps208;go_wp2_with fail
 go_loopw [1,2] (fun av bv wr=>av = .int .i64 0/\bv = .int .i64 ((n:Nat):Int)/\wr=w) (fun _ _ _=>0)
 case atStart=>exact ⟨rfl,rfl,rfl⟩
 case round =>
  obtain ⟨rfl,rfl,rfl⟩:=hrel;go_wp2_with fail;refine (HI.out).mono ?_;rintro _ w1 ⟨rfl,rfl⟩;dsimp only;go_wp2_with fail;refine bodyPost_ret (results_none rfl _ _ _) rfl ?_;exact ⟨rfl,rfl⟩
theorem Qpm (o:Option Addr) (n c:Nat) (hn:n<=1) (f:Value) (w:World):Calls Tryz.prog 160 #[.slice o n c,f] w fun e w'=>e = .returned (.tuple #[])/\w'=w:=by
 have HB:=aa (Qg5 n hn w);have HP:=aa (fun k=>Qrb o n c hn k f w);have hw:IntKind.wrap .u64 ((n:Nat):Int)=((n:Nat):Int):=by
  have h2:n=0∨n=1:=by omega
  rcases h2 with rfl|rfl<;>decide
 go_enter Tryz.func160,Tryz.ntmps160;go_wp2_with fail;refine (HB.out).mono ?_;rintro _ w1 ⟨k,rfl,rfl⟩;dsimp only;go_wp2_with fail;refine (HP.out _).mono ?_;rintro _ w1 ⟨rfl,rfl⟩;dsimp only;go_wp2_with fail
 go_end0
 exact ⟨rfl,rfl⟩
end Go.Proofs.YtncigfibncmioaaGreatDoor
namespace Go.Proofs.YtncigfibncmioaaGreatDoor
open Go.RowKit Go.Shelf
structure TE where
 n:ByteArray
 d:List Nat
 z:Int
deriving DecidableEq
structure TE.Ok (t:TE):Prop where
 n:t.n.size<=20
 len:t.d.length=32
 lt:∀ i,t.d.getD i 0<256
 z0:0<=t.z
 z1:t.z<=300
def TE.v (t:TE):Value:=.agg (aT t.n t.d t.z)
abbrev tD (l:List TE):DataW Value:=mD TE.n TE.v l
abbrev lF (l:List TE):Prop:=aq TE.n l
def TL (w:World) (b:Nat) (l:List TE):Prop:=TM w b l.length (tD l)
theorem P4 {w:World} {b n:Nat} {l:List TE} (h:TM w b n (tD l)):TL w b l:=PB h
theorem TL.rise {w:World} {b:Nat} {l:List TE} (h:TL w b l):lF l:=GQ h tZ
theorem TL.same {w w':World} {b:Nat} {l:List TE} (h:TL w b l) (hb:w'.heap[b]? = w.heap[b]?):TL w' b l:=jP h hb
theorem TL.lt {w:World} {b:Nat} {l:List TE} (h:TL w b l):b<w.heap.size:=World.ownsMap.lt h
theorem Qs9 {l:List TE} (hr:lF l) (h:∀ t∈l,t.Ok):Hw (tD l):=by
 intro kl v hv;have hk:Maps.has (tD l) kl=true:=by
  simp only [tD,mD,DataW.atKey] at hv;simp only [Maps.has,tD,mD]
  cases hf:(l.map (mE TE.n TE.v)).find? (fun x=>x.1.sameKey kl) with
  | none=>rw [hf] at hv;cases hv
  | some y=>exact List.any_eq_true.2 ⟨y,List.mem_of_find?_eq_some hf,by simpa using List.find?_some hf⟩
 obtain ⟨t,ht,rfl⟩:=Mw hk;rw [JI,lD hr ht] at hv;injection hv with hv
 exact ⟨t.n,t.d,t.z,(h t ht).len,hv.symm⟩
theorem Qm1 (l:List TE):strKeys (tD l)=l.map fun t=>t.n.data.toList:=by
 simp only [strKeys,tD,mD,List.map_map];rfl
end Go.Proofs.YtncigfibncmioaaGreatDoor
namespace Go.Proofs.YtncigfibncmioaaGreatDoor
open Go.RowKit
theorem QkW (b1 b2 n1 n2:Nat) (D1 D2:DataW Value) (w:World) (h1:TM w b1 n1 D1) (h2:TM w b2 n2 D2) (hne:Maps.size D1≠Maps.size D2) :
  Calls Tryz.prog 165 #[.map (some b1),.map (some b2)] w fun e w'=>e = .returned (.bool false)/\w'=w:=by
 have l1:=h1.len Tryz.underlying157;have l2:=h2.len Tryz.underlying157;have hd:(((Maps.size D1:Nat):Int) == ((Maps.size D2:Nat):Int))=false:=by simpa using fun h=>hne (by omega)
 have mJ:¬ ((Maps.size D1:Nat):Int)=((Maps.size D2:Nat):Int):=by omega
 go_enter Tryz.func165,Tryz.ntmps165;go_wp2_with fail;go_ret;exact ⟨rfl,rfl⟩
def AZ (fl:List (ByteArray × ByteArray)):List Value:=fl.flatMap fun f=>[.string f.1,.string f.2]
theorem aI.row {W W':World} {sb:Nat} {s:ai} {cb tb nc nt:Nat} {Dc Dt:DataW Value} {row:Option Nat} (h:aI W sb s cb tb nc nt Dc Dt) (hg:W.grownBy W' row) (hr:∀ r,row=some r->(∃ cur,W.heap[r]? = some (.cells cur 222 (0,0)))/\¬ gj r):aI W' sb s cb tb nc nt Dc Dt:=by
 have hne:∀ {x n:Nat} {k:TypeId} {D:DataW Value},W.ownsMap Tryz.prog k fG x n D->W'.heap[x]? = W.heap[x]?:=by
  rintro x n k D hx;refine hg.block x hx.lt (fun e=>?_);obtain ⟨es,clock,h1,_⟩:=hx;obtain ⟨⟨cur,h2⟩,_⟩:=hr x e.symm;rw [h1] at h2
  cases h2
 refine ⟨h.ay.same (fun k hk=>hg.block k (h.ay.lt hk) (fun e=>?_)),h.gl.same hg.size (fun k hk=>hg.block k (h.gl.lt hk) (fun e=>(hr k e.symm).2 hk)),h.low,(hg.block sb (ax h.blk) (fun e=>?_)).trans h.blk,jP h.cm (hne h.cm),jP h.tm (hne h.tm),h.sk,h.sq,h.rJ,h.vq,h.rK,h.ne⟩
 ·obtain ⟨⟨cur,h2⟩,_⟩:=hr k e.symm
  rcases h.ay.typed hk h2 with h3|h3|h3|h3<;>exact absurd h3 (by decide)
 ·obtain ⟨⟨cur,h2⟩,_⟩:=hr sb e.symm;rw [h.blk] at h2;injection h2 with h2
  injection h2 with _ h2
  exact absurd h2 (by decide)
theorem EE {M:Nat}:∀ (l:List bU),(∀ t∈l,t.sz<=M)->eM l<=l.length * M
 | [],_=>by simp [eM]
 | t::l,h=>by
  have h1:=EE l (fun x hx=>h x (by simp [hx]));have h2:=h t (by simp);unfold eM at h1 ⊢;simp only [List.map_cons,List.sum_cons,List.length_cons];rw [Nat.add_mul];omega
theorem Qpa {M:Nat} (fl:List (ByteArray × ByteArray)) (h:∀ f∈fl,f.2.size<=M):eM (jq fl)<=fl.length * M:=by
 rw [Vy,QuY,Nat.add_zero];have:=EE (M:=M) (A9 fl) (fun t ht=>by
  simp only [A9,List.mem_map,List.mem_range] at ht;obtain ⟨i,hi,rfl⟩:=ht;have:fl.getD i f0∈fl:=by rw [List.getD_eq_getElem?_getD,List.getElem?_eq_getElem hi];exact List.getElem_mem hi
  exact h _ this)
 rwa [Il] at this
theorem Tryz.rr:(Tryz.prog.info? 222).map (fun i=>(i.zero,i.size,i.bytes))=some (some (.agg #[.string ⟨#[]⟩,.string ⟨#[]⟩]),2,32):=by kernel_rfl
theorem QhY (fl:List (ByteArray × ByteArray)):∀ i,i<fl.length->(AZ fl)[i * 2]? = some (.string (fl.getD i f0).1)/\(AZ fl)[i * 2+1]? = some (.string (fl.getD i f0).2):=by
 induction fl with
 | nil=>intro i hi;cases hi
 | cons f fl ih =>
  intro i hi
  cases i with
  | zero=>exact ⟨rfl,rfl⟩
  | succ i =>
   have:=ih i (by simpa using hi);rw [show (i+1) * 2=i * 2+1+1 by omega];exact this
theorem QvI {w:World} {B:Nat} {v:Value} {fl:List (ByteArray × ByteArray)} (h:w.ownsRow B 222 2 v fl.length (AZ fl)):mS w v fl:=by
 obtain ⟨hlen,h2⟩:=h
 rcases h2 with ⟨rfl,hl⟩|⟨g,cap,cur,rfl,_,hg,_,_,hsz,cN⟩
 ·have:fl = []:=List.length_eq_zero_iff.1 hl;subst this;exact ⟨none,0,rfl,fun i hi=>by cases hi⟩
 ·have key:∀ j,j<fl.length * 2->cur[j]? = (AZ fl)[j]?:=by
   intro j hj;rw [<- cN,List.getElem?_take,if_pos (by omega)];simp
  refine ⟨_,cap,rfl,fun i hi=>⟨g,cur,(0,0),rfl,hg,?_,?_⟩⟩
  ·rw [cell_of_row _ _ (i * 2) _ _ _ hg,key _ (by omega)];exact (QhY fl i hi).1
  ·rw [cell_of_row _ _ (i * 2+1) _ _ _ hg,key _ (by omega)];exact (QhY fl i hi).2
end Go.Proofs.YtncigfibncmioaaGreatDoor
namespace Go.Proofs.YtncigfibncmioaaGreatDoor
open Go.RowKit Go.Shelf Go.Maps
theorem QjY (n:ByteArray) (z:Int) (x0 x1 x2 x3 x4 x5 x6 x7 x8 x9 lO lQ lR kJ lS lT lU lV lW lX lY lZ l4 l5 l6 l7 l9 ma mf mg mh mi:Value) (w:World) :
  (part 117 #[.string n,x0,x1,x2,x3,x4,x5,x6,x7,x8,x9,lO,lQ,lR,kJ,lS,lT,lU,lV,lW,lX,lY,lZ,l4,l5,l6,l7,l9,ma,mf,mg,mh,mi,.int .i64 z] 1).run Tryz.prog w = .ok (.agg #[x0,x1,x2,x3,x4,x5,x6,x7,x8,x9,lO,lQ,lR,kJ,lS,lT,lU,lV,lW,lX,lY,lZ,l4,l5,l6,l7,l9,ma,mf,mg,mh,mi]) w
  /\ (part 9 #[.string n,x0,x1,x2,x3,x4,x5,x6,x7,x8,x9,lO,lQ,lR,kJ,lS,lT,lU,lV,lW,lX,lY,lZ,l4,l5,l6,l7,l9,ma,mf,mg,mh,mi,.int .i64 z] 0).run Tryz.prog w = .ok (.string n) w
  /\ (part 3 #[.string n,x0,x1,x2,x3,x4,x5,x6,x7,x8,x9,lO,lQ,lR,kJ,lS,lT,lU,lV,lW,lX,lY,lZ,l4,l5,l6,l7,l9,ma,mf,mg,mh,mi,.int .i64 z] 33).run Tryz.prog w = .ok (.int .i64 z) w:=⟨by kernel_rfl,by kernel_rfl,by kernel_rfl⟩
theorem QlL (n:ByteArray) (ds:List Nat) (z:Int) (h:ds.length=32) (w:World):(part 117 (aT n ds z) 1).run Tryz.prog w = .ok (.agg (ah ds)) w/\(part 9 (aT n ds z) 0).run Tryz.prog w = .ok (.string n) w/\(part 3 (aT n ds z) 33).run Tryz.prog w = .ok (.int .i64 z) w:=by
 obtain ⟨x0,x1,x2,x3,x4,x5,x6,x7,x8,x9,lO,lQ,lR,kJ,lS,lT,lU,lV,lW,lX,lY,lZ,l4,l5,l6,l7,l9,ma,mf,mg,mh,mi,rfl⟩:=IZ ds h;exact QjY n z _ _ _ _ _ _ _ _ _ _ _ _ _ _ _ _ _ _ _ _ _ _ _ _ _ _ _ _ _ _ _ _ w
theorem QoO:Tryz.prog.underlying 193=some (.struct (Tryz.prog.fieldsOf 193)):=by kernel_rfl
theorem QoP:Tryz.prog.stoodInHeld 193=false:=by kernel_rfl
theorem QmW:(Tryz.prog.fieldsOf 193).toList.map (fun f=>(f.name == "_",f.type,f.offset)) = [(false,9,0),(false,117,1),(false,3,33)]:=by kernel_rfl
theorem QoQ:∃ f1 f2 f3:Field,(Tryz.prog.fieldsOf 193).toList = [f1,f2,f3]/\(f1.name == "_")=false/\f1.type=9/\f1.offset=0/\(f2.name == "_")=false/\f2.type=117/\f2.offset=1/\(f3.name == "_")=false/\f3.type=3/\f3.offset=33:=by
 have h:=QmW;generalize (Tryz.prog.fieldsOf 193).toList=fs at h ⊢;obtain ⟨f1,r1,rfl,h1,h⟩:=List.map_eq_cons_iff.1 h;obtain ⟨f2,r2,rfl,h2,h⟩:=List.map_eq_cons_iff.1 h;obtain ⟨f3,r3,rfl,h3,h⟩:=List.map_eq_cons_iff.1 h;have:r3 = []:=List.map_eq_nil_iff.1 h;subst this;simp only [Prod.mk.injEq] at h1 h2 h3;exact ⟨f1,f2,f3,rfl,h1.1,h1.2.1,h1.2.2,h2.1,h2.2.1,h2.2.2,h3.1,h3.2.1,h3.2.2⟩
theorem Qiy {P:Program} (d:Nat) (xs ys:Array Value) (w:World):(Op.eqFields d xs ys []).run P w = .ok true w:=by simp [Op.eqFields]
theorem UA {P:Program} {d:Nat} {xs ys:Array Value} {f:Field} {fs:List Field} {w:World} {a b:Value} {r:Bool} (hn:f.name ≠ "_") (h1:(part f.type xs f.offset).run P w = .ok a w) (h2:(part f.type ys f.offset).run P w = .ok b w) (h3:(Op.equalIn d f.type a b).run P w = .ok r w) :
  (Op.eqFields d xs ys (f::fs)).run P w=if r then (Op.eqFields d xs ys fs).run P w else .ok false w:=by
 simp only [Op.eqFields,Sem.run_bind,Sem.run_ite];rw [if_pos (by simpa using hn),h1];simp only [Result.andThen_ok];rw [h2];simp only [Result.andThen_ok];rw [h3]
 cases r<;>simp
theorem QuK (d:Nat) (a b:TE) (ha:a.Ok) (hb:b.Ok) (w:World) :
  (Op.equalIn (d+3) 193 a.v b.v).run Tryz.prog w = .ok (decide (a=b)) w:=by
 unfold TE.v;rw [run_equalIn_struct w (d+2) 193 _ _ QoO QoP];obtain ⟨f1,f2,f3,ke,n1,t1,o1,n2,t2,o2,n3,t3,o3⟩:=QoQ;rw [ke];obtain ⟨pa1,pa2,pa3⟩:=QlL a.n a.d a.z ha.len w;obtain ⟨pb1,pb2,pb3⟩:=QlL b.n b.d b.z hb.len w;have e1:=run_equalIn_string (P:=Tryz.prog) w (d+1) 9 a.n b.n Tryz.underlying9;have e2:=UB d a.d b.d ha.len hb.len ha.lt hb.lt w;have e3:=run_equalIn_int (P:=Tryz.prog) w (d+1) 3 .i64 .i64 a.z b.z Tryz.underlying3;have m1:f1.name ≠ "_" := by simpa using n1
 have m2:f2.name ≠ "_" := by simpa using n2
 have m3:f3.name ≠ "_" := by simpa using n3
 obtain ⟨an,ad,az⟩:=a;obtain ⟨bn,bd,bz⟩:=b;simp only at pa1 pa2 pa3 pb1 pb2 pb3 e1 e2 e3;have hd:decide ((⟨an,ad,az⟩ : TE)=⟨bn,bd,bz⟩)=((an.toList == bn.toList) && (decide (ad=bd) && (az == bz))):=by
  have h1:(an.toList == bn.toList)=decide (an=bn):=by
   by_cases h:an=bn
   ·subst h;simp
   ·rw [decide_eq_false h,beq_eq_false_iff_ne];exact fun e=>h ((toList_inj an bn).1 e)
  rw [h1]
  by_cases h1:an=bn<;>by_cases h2:ad=bd<;>by_cases h3:az=bz<;>simp [h1,h2,h3,TE.mk.injEq]
 rw [hd];rw [UA (f:=f1) m1 (by rw [t1,o1];exact pa2) (by rw [t1,o1];exact pb2) (by rw [t1];exact e1)];rw [UA (f:=f2) m2 (by rw [t2,o2];exact pa1) (by rw [t2,o2];exact pb1) (by rw [t2];exact e2)];rw [UA (f:=f3) m3 (by rw [t3,o3];exact pa3) (by rw [t3,o3];exact pb3) (by rw [t3];exact e3)];rw [Qiy];generalize (an.toList == bn.toList)=r1;generalize decide (ad=bd)=r2;generalize (az == bz)=r3
 cases r1<;>cases r2<;>cases r3<;>rfl
theorem QoR:Tryz.prog.eqGuardType Tryz.prog.depth 193=false:=by kernel_rfl
theorem Qff {P:Program} {ops:Array Oper} {Q:Exit->Act->World->Prop} {o:Oper} {rest:List Oper} {a:Act} {w:World} (hw:Region.wanted o (yielded ops a.tmps)=true)
  (h:∀ K:Act->World->Prop,(∀ a w,wpList P ops Q rest a w->K a w)->o.wp P a w K Q):wpList P ops Q (o::rest) a w :=
 wpList_step fun K hK=>by rw [if_pos hw];exact h K hK
theorem PX {P:Program} {ops:Array Oper} {Q:Exit->Act->World->Prop} {o:Oper} {rest:List Oper} {a:Act} {w:World} (hw:Region.wanted o (yielded ops a.tmps)=true) (ty:TypeId) (x:Operand) (ho:o.op = .load ty x)
  (g:Nat) (hx:a.eval x = .pointer (some ⟨g,0,none⟩)) (t:TypeId) (cs:Array Value) (fr:Nat × Nat) (d:TypeDesc) (hg:w.heap[g]? = some (.cells cs t fr))
  (hu:P.underlying ty=some d) (hd:(match d with|.struct _|.array _ _=>true|_=>false)=true) (hi:(P.info? ty).map (·.size)=some cs.size)
  (h:wpList P ops Q rest (a.put o.dst (.agg cs)) w):wpList P ops Q (o::rest) a w:=by
 refine Qff hw fun K hK'=>?_
 unfold Oper.wp execOp;simp only [ho,hx,Instr.loadAt,Instr.sureAddr,Sem.run_bind,Sem.run_pure,Result.andThen_ok,run_loadVar_row w g t ty cs fr d hg hu hd hi];exact hK' _ _ h
theorem Qfg {ops:Array Oper} {Q:Exit->Act->World->Prop} {o:Oper} {rest:List Oper} {c:Act} {w:World} (hw:Region.wanted o (yielded ops c.tmps)=true) (x y:Operand) (k:TypeId) (hop:o.op=Op.binOp .neq 193 x y k) (a b:TE) (ha:a.Ok) (hb:b.Ok) (hx:c.eval x=a.v) (hy:c.eval y=b.v)
  (hK:wpList Tryz.prog ops Q rest (c.put o.dst (.bool (!decide (a=b)))) w):wpList Tryz.prog ops Q (o::rest) c w:=by
 refine Qff hw fun K' hK'=>?_
 have hr:=QuK 9997 a b ha hb w;unfold Oper.wp execOp;unfold TE.v at hx hy hr;simp only [hop,hx,hy,eqGuard,binOp,Op.equal,Op.maxDepth,Sem.run_bind,Sem.run_pure,run_program,Result.andThen_ok,QoR,hr,Bool.not_true,Bool.not_false,Bool.false_eq_true,if_false,if_true];exact hK' _ _ hK
def JK:TE:=⟨⟨#[]⟩,Sha.zeros 32,0⟩
theorem QrT:JK.Ok:=⟨by decide,Sha.af _,fun i=>by
 have:∀ x∈JK.d,x<256:=by decide
 rw [List.getD_eq_getElem?_getD]
 cases h:JK.d[i]? with
 | none=>decide
 | some x=>exact this x (List.mem_of_getElem? h),by decide,by decide⟩
def wo (n:ByteArray) (l:List TE):TE:=(aQ TE.n n l).getD JK
theorem Um {n:ByteArray} {l:List TE} (h:∀ t∈l,t.Ok):(wo n l).Ok:=by
 unfold wo
 cases hf:aQ TE.n n l with
 | none=>exact QrT
 | some t=>exact h t (tT hf).1
theorem PH {ops:Array Oper} {Q:Exit->Act->World->Prop} {o:Oper} {rest:List Oper} {a:Act} {w:World} (hg:o.guard=none) (m x:Operand) (hop:o.op=Op.lookup 157 m x true) (b:Nat) (l:List TE) (hm:a.eval m = .map (some b)) (hown:TL w b l) (n:ByteArray) (hx:a.eval x = .string n) (hn:n.size<=1000000)
  (hK:wpList Tryz.prog ops Q rest (a.put o.dst (.tuple #[.agg (aT (wo n l).n (wo n l).d (wo n l).z),.bool (aQ TE.n n l).isSome])) w):wpList Tryz.prog ops Q (o::rest) a w:=by
 refine wpList_lookup_own_ok w hg m x 157 hop 9 193 tZ Tryz.underlying157 fG ((zero_of_info Tryz.cY).1 w) (.held JK.v) [] rfl b l.length (tD l) hm hown (.string n) (bk n) hx (MX n hn) ?_;intro v ps hv;have hv2:v=(wo n l).v:=by
  unfold fG at hv;injection hv with hv
  injection hv with hv
  rw [JI] at hv;unfold wo
  cases hf:aQ TE.n n l with
  | none =>
   rw [hf] at hv;injection hv
  | some t =>
   rw [hf] at hv;injection hv
 rw [hv2,Mu];exact hK
end Go.Proofs.YtncigfibncmioaaGreatDoor
