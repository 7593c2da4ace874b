/-
  PROVED HERE: what change of a store does where there was no tag and there is to be one.
-/
import Derived.Test.YtncigfibncmioaaGreatDoorSmTag
import Derived.Test.YtncigfibncmioaaGreatDoorStTxt
import Derived.Maps.OwnSet
namespace Go.Proofs.YtncigfibncmioaaGreatDoor
set_option maxHeartbeats 1000000
set_option maxRecDepth 100000
open Go.RowKit
theorem equal_short (b1 b2 n1 n2:Nat) (D1 D2:DataW Value) (w:World) (h1:TM w b1 n1 D1) (h2:TM w b2 n2 D2) (hne:Maps.size D1 ≠ Maps.size D2) :
  Calls Tryz.prog 165 #[.map (some b1),.map (some b2)] w fun e w'=>e = .returned (.bool false) ∧ w' = w:=by
 have l1:=h1.len Tryz.underlying157
 have l2:=h2.len Tryz.underlying157
 have hd:(((Maps.size D1:Nat):Int) == ((Maps.size D2:Nat):Int)) = false:=by simpa using fun h=>hne (by omega)
 have hd2:¬ ((Maps.size D1:Nat):Int) = ((Maps.size D2:Nat):Int):=by omega
 go_enter Tryz.func165,Tryz.ntmps165
 go_wp2_with fail
 go_ret
 exact ⟨rfl,rfl⟩
def flCells (fl:List (ByteArray × ByteArray)):List Value:=fl.flatMap fun f=>[.string f.1,.string f.2]
theorem StW.row {W W':World} {sb:Nat} {s:PSt} {cb tb nc nt:Nat} {Dc Dt:DataW Value} {row:Option Nat} (h:StW W sb s cb tb nc nt Dc Dt) (hg:W.grownBy W' row) (hr:∀ r,row = some r → (∃ cur,W.heap[r]? = some (.cells cur 222 (0,0))) ∧ ¬ isG r):StW W' sb s cb tb nc nt Dc Dt:=by
 have hne:∀ {x n:Nat} {k:TypeId} {D:DataW Value},W.ownsMap Tryz.prog k heldR x n D → W'.heap[x]? = W.heap[x]?:=by
  rintro x n k D hx
  refine hg.block x hx.lt (fun e=>?_)
  obtain ⟨es,clock,h1,_⟩:=hx
  obtain ⟨⟨cur,h2⟩,_⟩:=hr x e.symm
  rw [h1] at h2
  cases h2
 refine ⟨h.inn.same (fun k hk=>hg.block k (h.inn.lt hk) (fun e=>?_)),h.gl.same hg.size (fun k hk=>hg.block k (h.gl.lt hk) (fun e=>(hr k e.symm).2 hk)),h.low,(hg.block sb (lt_heap h.blk) (fun e=>?_)).trans h.blk,owns_same h.cm (hne h.cm),owns_same h.tm (hne h.tm),h.ncb,h.ntb,h.gcb,h.gtb,h.gsb,h.ne⟩
 ·obtain ⟨⟨cur,h2⟩,_⟩:=hr k e.symm
  rcases h.inn.typed hk h2 with h3 | h3 | h3 | h3 <;> exact absurd h3 (by decide)
 ·obtain ⟨⟨cur,h2⟩,_⟩:=hr sb e.symm
  rw [h.blk] at h2
  injection h2 with h2
  injection h2 with _ h2
  exact absurd h2 (by decide)
theorem szs_le {M:Nat}:∀ (l:List Stp),(∀ t ∈ l,t.sz ≤ M) → szs l ≤ l.length * M
 | [],_=>by simp [szs]
 | t :: l,h=>by
  have h1:=szs_le l (fun x hx=>h x (by simp [hx]))
  have h2:=h t (by simp)
  unfold szs at h1 ⊢
  simp only [List.map_cons,List.sum_cons,List.length_cons]
  rw [Nat.add_mul]
  omega
theorem szs_wr_le {M:Nat} (fl:List (ByteArray × ByteArray)) (h:∀ f ∈ fl,f.2.size ≤ M):szs (wrS fl) ≤ fl.length * M:=by
 rw [szs_wr,szs_bi,Nat.add_zero]
 have:=szs_le (M:=M) (apL fl) (fun t ht=>by
  simp only [apL,List.mem_map,List.mem_range] at ht
  obtain ⟨i,hi,rfl⟩:=ht
  have:fl.getD i f0 ∈ fl:=by rw [List.getD_eq_getElem?_getD,List.getElem?_eq_getElem hi];exact List.getElem_mem hi
  exact h _ this)
 rwa [apL_len] at this
theorem Tryz.infoFile:(Tryz.prog.info? 222).map (fun i=>(i.zero,i.size,i.bytes)) = some (some (.agg #[.string ⟨#[]⟩,.string ⟨#[]⟩]),2,32):=by kernel_rfl
theorem flCells_at (fl:List (ByteArray × ByteArray)):∀ i,i < fl.length → (flCells fl)[i * 2]? = some (.string (fl.getD i f0).1) ∧ (flCells fl)[i * 2 + 1]? = some (.string (fl.getD i f0).2):=by
 induction fl with
 | nil=>intro i hi;cases hi
 | cons f fl ih =>
  intro i hi
  cases i with
  | zero=>exact ⟨rfl,rfl⟩
  | succ i =>
   have:=ih i (by simpa using hi)
   rw [show (i + 1) * 2 = i * 2 + 1 + 1 by omega]
   exact this
theorem fl_at {w:World} {B:Nat} {v:Value} {fl:List (ByteArray × ByteArray)} (h:w.ownsRow B 222 2 v fl.length (flCells fl)):FlAt w v fl:=by
 obtain ⟨hlen,h2⟩:=h
 rcases h2 with ⟨rfl,hl⟩ | ⟨g,cap,cur,rfl,_,hg,_,_,hsz,htk⟩
 ·have:fl = []:=List.length_eq_zero_iff.1 hl
  subst this
  exact ⟨none,0,rfl,fun i hi=>by cases hi⟩
 ·have key:∀ j,j < fl.length * 2 → cur[j]? = (flCells fl)[j]?:=by
   intro j hj
   rw [← htk,List.getElem?_take,if_pos (by omega)]
   simp
  refine ⟨_,cap,rfl,fun i hi=>⟨g,cur,(0,0),rfl,hg,?_,?_⟩⟩
  ·rw [cell_of_row _ _ (i * 2) _ _ _ hg,key _ (by omega)]
   exact (flCells_at fl i hi).1
  ·rw [cell_of_row _ _ (i * 2 + 1) _ _ _ hg,key _ (by omega)]
   exact (flCells_at fl i hi).2
end Go.Proofs.YtncigfibncmioaaGreatDoor
namespace Go.Proofs.YtncigfibncmioaaGreatDoor
open Go.RowKit Go.Shelf Go.Maps
theorem part_ent_lit (n:ByteArray) (z:Int) (x0 x1 x2 x3 x4 x5 x6 x7 x8 x9 x10 x11 x12 x13 x14 x15 x16 x17 x18 x19 x20 x21 x22 x23 x24 x25 x26 x27 x28 x29 x30 x31:Value) (w:World) :
  (part 117 #[.string n,x0,x1,x2,x3,x4,x5,x6,x7,x8,x9,x10,x11,x12,x13,x14,x15,x16,x17,x18,x19,x20,x21,x22,x23,x24,x25,x26,x27,x28,x29,x30,x31,.int .i64 z] 1).run Tryz.prog w = .ok (.agg #[x0,x1,x2,x3,x4,x5,x6,x7,x8,x9,x10,x11,x12,x13,x14,x15,x16,x17,x18,x19,x20,x21,x22,x23,x24,x25,x26,x27,x28,x29,x30,x31]) w
  ∧ (part 9 #[.string n,x0,x1,x2,x3,x4,x5,x6,x7,x8,x9,x10,x11,x12,x13,x14,x15,x16,x17,x18,x19,x20,x21,x22,x23,x24,x25,x26,x27,x28,x29,x30,x31,.int .i64 z] 0).run Tryz.prog w = .ok (.string n) w
  ∧ (part 3 #[.string n,x0,x1,x2,x3,x4,x5,x6,x7,x8,x9,x10,x11,x12,x13,x14,x15,x16,x17,x18,x19,x20,x21,x22,x23,x24,x25,x26,x27,x28,x29,x30,x31,.int .i64 z] 33).run Tryz.prog w = .ok (.int .i64 z) w:=⟨by kernel_rfl,by kernel_rfl,by kernel_rfl⟩
theorem part_ent (n:ByteArray) (ds:List Nat) (z:Int) (h:ds.length = 32) (w:World):(part 117 (ecellsOf n ds z) 1).run Tryz.prog w = .ok (.agg (cells8 ds)) w ∧ (part 9 (ecellsOf n ds z) 0).run Tryz.prog w = .ok (.string n) w ∧ (part 3 (ecellsOf n ds z) 33).run Tryz.prog w = .ok (.int .i64 z) w:=by
 obtain ⟨x0,x1,x2,x3,x4,x5,x6,x7,x8,x9,x10,x11,x12,x13,x14,x15,x16,x17,x18,x19,x20,x21,x22,x23,x24,x25,x26,x27,x28,x29,x30,x31,rfl⟩:=list32 ds h
 exact part_ent_lit n z _ _ _ _ _ _ _ _ _ _ _ _ _ _ _ _ _ _ _ _ _ _ _ _ _ _ _ _ _ _ _ _ w
theorem ent_under:Tryz.prog.underlying 193 = some (.struct (Tryz.prog.fieldsOf 193)):=by kernel_rfl
theorem ent_stood:Tryz.prog.stoodInHeld 193 = false:=by kernel_rfl
theorem ent_fields:(Tryz.prog.fieldsOf 193).toList.map (fun f=>(f.name == "_",f.type,f.offset)) = [(false,9,0),(false,117,1),(false,3,33)]:=by kernel_rfl
theorem ent_three:∃ f1 f2 f3:Field,(Tryz.prog.fieldsOf 193).toList = [f1,f2,f3] ∧ (f1.name == "_") = false ∧ f1.type = 9 ∧ f1.offset = 0 ∧ (f2.name == "_") = false ∧ f2.type = 117 ∧ f2.offset = 1 ∧ (f3.name == "_") = false ∧ f3.type = 3 ∧ f3.offset = 33:=by
 have h:=ent_fields
 generalize (Tryz.prog.fieldsOf 193).toList = fs at h ⊢
 obtain ⟨f1,r1,rfl,h1,h⟩:=List.map_eq_cons_iff.1 h
 obtain ⟨f2,r2,rfl,h2,h⟩:=List.map_eq_cons_iff.1 h
 obtain ⟨f3,r3,rfl,h3,h⟩:=List.map_eq_cons_iff.1 h
 have:r3 = []:=List.map_eq_nil_iff.1 h
 subst this
 simp only [Prod.mk.injEq] at h1 h2 h3
 exact ⟨f1,f2,f3,rfl,h1.1,h1.2.1,h1.2.2,h2.1,h2.2.1,h2.2.2,h3.1,h3.2.1,h3.2.2⟩
theorem eqFields_none {P:Program} (d:Nat) (xs ys:Array Value) (w:World):(Op.eqFields d xs ys []).run P w = .ok true w:=by simp [Op.eqFields]
theorem eqFields_more {P:Program} {d:Nat} {xs ys:Array Value} {f:Field} {fs:List Field} {w:World} {a b:Value} {r:Bool} (hn:f.name ≠ "_") (h1:(part f.type xs f.offset).run P w = .ok a w) (h2:(part f.type ys f.offset).run P w = .ok b w) (h3:(Op.equalIn d f.type a b).run P w = .ok r w) :
  (Op.eqFields d xs ys (f :: fs)).run P w = if r then (Op.eqFields d xs ys fs).run P w else .ok false w:=by
 simp only [Op.eqFields,Sem.run_bind,Sem.run_ite]
 rw [if_pos (by simpa using hn),h1]
 simp only [Result.andThen_ok]
 rw [h2]
 simp only [Result.andThen_ok]
 rw [h3]
 cases r <;> simp
theorem eq_ent (d:Nat) (a b:TE) (ha:a.Ok) (hb:b.Ok) (w:World) :
  (Op.equalIn (d + 3) 193 a.v b.v).run Tryz.prog w = .ok (decide (a = b)) w:=by
 unfold TE.v
 rw [run_equalIn_struct w (d + 2) 193 _ _ ent_under ent_stood]
 obtain ⟨f1,f2,f3,hfs,n1,t1,o1,n2,t2,o2,n3,t3,o3⟩:=ent_three
 rw [hfs]
 obtain ⟨pa1,pa2,pa3⟩:=part_ent a.n a.d a.z ha.len w
 obtain ⟨pb1,pb2,pb3⟩:=part_ent b.n b.d b.z hb.len w
 have e1:=run_equalIn_string (P:=Tryz.prog) w (d + 1) 9 a.n b.n Tryz.underlying9
 have e2:=eq_dig d a.d b.d ha.len hb.len ha.lt hb.lt w
 have e3:=run_equalIn_int (P:=Tryz.prog) w (d + 1) 3 .i64 .i64 a.z b.z Tryz.underlying3
 have m1:f1.name ≠ "_" := by simpa using n1
 have m2:f2.name ≠ "_" := by simpa using n2
 have m3:f3.name ≠ "_" := by simpa using n3
 obtain ⟨an,ad,az⟩:=a
 obtain ⟨bn,bd,bz⟩:=b
 simp only at pa1 pa2 pa3 pb1 pb2 pb3 e1 e2 e3
 have hd:decide ((⟨an,ad,az⟩ : TE) = ⟨bn,bd,bz⟩) = ((an.toList == bn.toList) && (decide (ad = bd) && (az == bz))):=by
  have h1:(an.toList == bn.toList) = decide (an = bn):=by
   by_cases h:an = bn
   ·subst h;simp
   ·rw [decide_eq_false h,beq_eq_false_iff_ne]
    exact fun e=>h ((toList_inj an bn).1 e)
  rw [h1]
  by_cases h1:an = bn <;> by_cases h2:ad = bd <;> by_cases h3:az = bz <;> simp [h1,h2,h3,TE.mk.injEq]
 rw [hd]
 rw [eqFields_more (f:=f1) m1 (by rw [t1,o1];exact pa2) (by rw [t1,o1];exact pb2) (by rw [t1];exact e1)]
 rw [eqFields_more (f:=f2) m2 (by rw [t2,o2];exact pa1) (by rw [t2,o2];exact pb1) (by rw [t2];exact e2)]
 rw [eqFields_more (f:=f3) m3 (by rw [t3,o3];exact pa3) (by rw [t3,o3];exact pb3) (by rw [t3];exact e3)]
 rw [eqFields_none]
 generalize (an.toList == bn.toList) = r1
 generalize decide (ad = bd) = r2
 generalize (az == bz) = r3
 cases r1 <;> cases r2 <;> cases r3 <;> rfl
theorem guard_ent:Tryz.prog.eqGuardType Tryz.prog.depth 193 = false:=by kernel_rfl
theorem wpList_wanted {P:Program} {ops:Array Oper} {Q:Exit → Act → World → Prop} {o:Oper} {rest:List Oper} {a:Act} {w:World} (hw:Region.wanted o (yielded ops a.tmps) = true)
  (h:∀ K:Act → World → Prop,(∀ a w,wpList P ops Q rest a w → K a w) → o.wp P a w K Q):wpList P ops Q (o :: rest) a w :=
 wpList_step fun K hK=>by rw [if_pos hw];exact h K hK
theorem wpList_load_rowG {P:Program} {ops:Array Oper} {Q:Exit → Act → World → Prop} {o:Oper} {rest:List Oper} {a:Act} {w:World} (hw:Region.wanted o (yielded ops a.tmps) = true) (ty:TypeId) (x:Operand) (ho:o.op = .load ty x)
  (g:Nat) (hx:a.eval x = .pointer (some ⟨g,0,none⟩)) (t:TypeId) (cs:Array Value) (fr:Nat × Nat) (d:TypeDesc) (hg:w.heap[g]? = some (.cells cs t fr))
  (hu:P.underlying ty = some d) (hd:(match d with | .struct _ | .array _ _=>true | _=>false) = true) (hi:(P.info? ty).map (·.size) = some cs.size)
  (h:wpList P ops Q rest (a.put o.dst (.agg cs)) w):wpList P ops Q (o :: rest) a w:=by
 refine wpList_wanted hw fun K hK'=>?_
 unfold Oper.wp execOp
 simp only [ho,hx,Instr.loadAt,Instr.sureAddr,Sem.run_bind,Sem.run_pure,Result.andThen_ok,run_loadVar_row w g t ty cs fr d hg hu hd hi]
 exact hK' _ _ h
theorem wpList_neEntG {ops:Array Oper} {Q:Exit → Act → World → Prop} {o:Oper} {rest:List Oper} {c:Act} {w:World} (hw:Region.wanted o (yielded ops c.tmps) = true) (x y:Operand) (k:TypeId) (hop:o.op = Op.binOp .neq 193 x y k) (a b:TE) (ha:a.Ok) (hb:b.Ok) (hx:c.eval x = a.v) (hy:c.eval y = b.v)
  (hK:wpList Tryz.prog ops Q rest (c.put o.dst (.bool (!decide (a = b)))) w):wpList Tryz.prog ops Q (o :: rest) c w:=by
 refine wpList_wanted hw fun K' hK'=>?_
 have hr:=eq_ent 9997 a b ha hb w
 unfold Oper.wp execOp
 unfold TE.v at hx hy hr
 simp only [hop,hx,hy,eqGuard,binOp,Op.equal,Op.maxDepth,Sem.run_bind,Sem.run_pure,run_program,Result.andThen_ok,guard_ent,hr,Bool.not_true,Bool.not_false,Bool.false_eq_true,if_false,if_true]
 exact hK' _ _ hK
def te0:TE:=⟨⟨#[]⟩,Sha.zeros 32,0⟩
theorem te0_ok:te0.Ok:=⟨by decide,Sha.zeros_len _,fun i=>by
 have:∀ x ∈ te0.d,x < 256:=by decide
 rw [List.getD_eq_getElem?_getD]
 cases h:te0.d[i]? with
 | none=>decide
 | some x=>exact this x (List.mem_of_getElem? h),by decide,by decide⟩
def lookT (n:ByteArray) (l:List TE):TE:=(findK TE.n n l).getD te0
theorem lookT_ok {n:ByteArray} {l:List TE} (h:∀ t ∈ l,t.Ok):(lookT n l).Ok:=by
 unfold lookT
 cases hf:findK TE.n n l with
 | none=>exact te0_ok
 | some t=>exact h t (findK_some hf).1
theorem wpList_lookT {ops:Array Oper} {Q:Exit → Act → World → Prop} {o:Oper} {rest:List Oper} {a:Act} {w:World} (hg:o.guard = none) (m x:Operand) (hop:o.op = Op.lookup 157 m x true) (b:Nat) (l:List TE) (hm:a.eval m = .map (some b)) (hown:TL w b l) (n:ByteArray) (hx:a.eval x = .string n) (hn:n.size ≤ 1000000)
  (hK:wpList Tryz.prog ops Q rest (a.put o.dst (.tuple #[.agg (ecellsOf (lookT n l).n (lookT n l).d (lookT n l).z),.bool (findK TE.n n l).isSome])) w):wpList Tryz.prog ops Q (o :: rest) a w:=by
 refine wpList_lookup_own_ok w hg m x 157 hop 9 193 str_keyed Tryz.underlying157 heldR ((zero_of_info Tryz.info71b).1 w) (.held te0.v) [] rfl b l.length (tD l) hm hown (.string n) (kOf n) hx (key_str n hn) ?_
 intro v ps hv
 have hv2:v = (lookT n l).v:=by
  unfold heldR at hv
  injection hv with hv
  injection hv with hv
  rw [mD_at] at hv
  unfold lookT
  cases hf:findK TE.n n l with
  | none =>
   rw [hf] at hv
   injection hv
  | some t =>
   rw [hf] at hv
   injection hv
 rw [hv2,mD_has]
 exact hK
end Go.Proofs.YtncigfibncmioaaGreatDoor
namespace Go.Proofs.YtncigfibncmioaaGreatDoor
set_option maxHeartbeats 2000000
set_option maxRecDepth 100000
open Go.RowKit
def conR (D:DS) (ds:List Nat):Option ByteArray:=(rdD D (cPath ds)).filter fun t=>decide (Sha.digest (Sha.state t.data.toList) = ds)
theorem cPath_size (ds:List Nat):(cPath ds).size ≤ 1000:=by
 unfold cPath
 rw [bytes_size,List.length_append,Sha.textTo_len]
 show blobsL.length + _ ≤ _
 have:blobsL.length = 6:=rfl
 omega
theorem con_s {w:World} {sb xb:Nat} {s:PSt} {ds:List Nat} (h:On w sb s) (hr:w.heap[xb]? = some (.cells (cells8 ds) 117 (0,0))):w.cell? ⟨sb,0,none⟩ = some (.pointer (some ⟨s.b,0,none⟩)) ∧ w.rangeAt xb 0 (cells8 ds).toList:=by
 obtain ⟨cv,tv,hbl⟩:=h.sb
 refine ⟨cell_of_row _ _ 0 _ _ _ hbl,fun j v hj=>?_⟩
 rw [cell_of_row _ _ (0 + j) _ _ _ hr,Nat.zero_add]
 simpa using hj
theorem con_r {w:World} {xb:Nat} {ds:List Nat} (hr:w.heap[xb]? = some (.cells (cells8 ds) 117 (0,0))):w.rangeAt xb 0 (cells8 ds).toList:=fun j v hj=>by
 rw [cell_of_row _ _ (0 + j) _ _ _ hr,Nat.zero_add]
 simpa using hj
theorem size72 (ds:List Nat) (h:ds.length = 32):(Tryz.prog.info? 117).map (·.size) = some (cells8 ds).toList.length:=by rw [Array.length_toList];exact size40 _ h
theorem content_any (sb:Nat) (s:PSt) (ds:List Nat) (w:World) (h:On w sb s) (hds:ds.length = 32) (hlt:∀ i,ds.getD i 0 < 256) (hsz:∀ t,rdD s.ds (cPath ds) = some t → t.size ≤ 140737488351232) :
  Calls Tryz.prog 70 #[.pointer (some ⟨sb,0,none⟩),.agg (cells8 ds)] w fun e w'=>e = .returned (.tuple #[.string ((conR s.ds ds).getD ⟨#[]⟩),.bool (conR s.ds ds).isSome]) ∧ PGo s s w w':=by
 have hbo:Below w.heap.size w (w.alloc (.cells (cells8 ds) 117)):=(Below.refl _ _).alloc (Nat.le_refl _) _
 have hrow:(w.alloc (.cells (cells8 ds) 117)).heap[w.heap.size]? = some (.cells (cells8 ds) 117 (0,0)):=heap_alloc_new _ _
 obtain ⟨W,hW⟩ : ∃ W,W = w.alloc (.cells (cells8 ds) 117):=⟨_,rfl⟩
 rw [← hW] at hbo hrow
 have hon:=h.later hbo
 obtain ⟨cv,tv,hbl⟩:=hon.sb
 have c0:W.cell? ⟨sb,0,none⟩ = some (.pointer (some ⟨s.b,0,none⟩)):=cell_of_row _ _ 0 _ _ _ hbl
 have HCP:=hide (contentPath_any ds W.drew hds hlt)
 have HR:=hide (fun (w':World) (hb':Below W.heap.size W w')=>dkRead s (cPath ds) w' (hon.inn.later hb') (Nat.le_trans (cPath_size ds) (by decide)))
 have H0:=hide h
 have HON:=hide hon
 have HW:=hide hW
 have HBO:=hide hbo
 have HROW:=hide hrow
 have HSZ:=hide hsz
 have HN:=hide (fun (k:Nat) (hk:s.own k)=>h.inn.lt hk)
 clear h hon hbl hW hbo hrow hsz
 go_enter Tryz.func70,Tryz.ntmps70
 go_upto_region 1 with fail
 rw [← HW.out]
 obtain ⟨xb,hxb⟩ : ∃ xb,xb = w.heap.size:=⟨_,rfl⟩
 rw [← hxb] at HROW HN ⊢
 have HXB:=hide hxb
 clear hxb
 have hS0:=con_s (HON.out.later (Below.refl W.heap.size W).drew) ((((Below.refl W.heap.size W).drew).block _ (lt_heap HROW.out)).trans HROW.out)
 have u72:=Tryz.underlying117
 have i72:=size72 ds hds
 go_region_held3 (fun w'=>w'.cell? ⟨sb,0,none⟩ = some (.pointer (some ⟨s.b,0,none⟩)) ∧ w'.rangeAt xb 0 (cells8 ds).toList) (first | exact hS3 | exact hS2 | exact hS0 | go_keep) ((first | (go_at_call 107;refine (HCP.out).mono ?_;rintro _ w1 ⟨rfl,hb1⟩;have hb3:Below W.heap.size W w1:=((Below.refl W.heap.size W).drew).trans hb1;have hr2:=(hb3.block _ (lt_heap HROW.out)).trans HROW.out;have hS2:=con_s (HON.out.later hb3) hr2) | (go_at_call 80;refine (HR.out _ hb3).mono ?_;rintro _ w2 ⟨v,k,rfl,hv,hk,hg,hi⟩;have hr3:=(hg.block _ (lt_heap hr2) (fun e=>by have:=HN.out _ e;omega)).trans hr2;have hS3:=con_s ((HON.out.later hb3).go ⟨rfl,hi,hg,fun _ hk=>.inl hk⟩) hr3)))
 have hgo:PGo s s w1 w2:=⟨rfl,hi,hg,fun _ hk=>.inl hk⟩
 have HGO:=hide (((PGo.refl H0.out.inn HBO.out).trans (PGo.refl HON.out.inn hb3)).trans hgo)
 have HR2:=hide hr3
 have HGL2:=hide ((HON.out.later hb3).go hgo).gl
 clear hgo hg hi HR hS0 hS2 hS3 hr2 hr3 hb1 hb3 HCP c0 u72 i72
 rcases hv with ⟨h0,rfl⟩ | ⟨h0,sv,nm,rfl, -⟩
 ·have hs:=hk.1 h0
  obtain ⟨t,ht⟩:=Option.isSome_iff_exists.1 hs
  have HOF:=hide (of_any t w2.drew (HSZ.out t ht) (HGL2.out.later (Below.refl _ _).drew).hk)
  rw [ht]
  dsimp only [Option.getD]
  have HT:=hide ht
  clear hk h0 hs ht
  obtain ⟨D,hD⟩ : ∃ D,D = Sha.digest (Sha.state t.data.toList):=⟨_,rfl⟩
  have hl:D.length = 32:=by rw [hD];exact Sha.dBytes_len _ _
  have hlt':∀ i,D.getD i 0 < 256:=by rw [hD];exact fun i=>Sha.dBytes_lt _ _ i
  rw [← hD] at HOF
  have HD:=hide hD
  clear hD
  have u72:=Tryz.underlying117
  have i72:=size72 ds hds
  have hS0:=con_r ((((Below.refl w2.heap.size w2).drew).block _ (lt_heap HR2.out)).trans HR2.out)
  have heq:∀ w,(Op.equalIn 10000 117 (.agg (cells8 D)) (.agg (cells8 ds))).run Tryz.prog w = .ok (decide (D = ds)) w:=fun w=>eq_dig 9998 D ds hl hds hlt' hlt w
  go_wp2_with fail
  go_region_held3 (fun w'=>w'.rangeAt xb 0 (cells8 ds).toList) (first | exact hS3 | exact hS0 | go_keep) ((go_at_call 71;refine (HOF.out).mono ?_;rintro _ w3 ⟨rfl,hb3⟩;have hb4:Below w2.heap.size w2 w3:=((Below.refl w2.heap.size w2).drew).trans hb3;have hr3:=(hb4.block _ (lt_heap HR2.out)).trans HR2.out;have hS3:=con_r hr3))
  have HGO3:=hide (HGO.out.trans (PGo.refl HGO.out.inn hb4))
  clear hb3 hb4 hr3 hS3 hS0 HOF heq
  by_cases hq:D = ds
  ·have hqd:(!decide (D = ds)) = false:=by simp [hq]
   have hc:conR s.ds ds = some t:=by
    unfold conR
    rw [HT.out]
    simp [← HD.out,hq]
   have HC:=hide hc
   clear hc
   rw [hqd]
   clear hq hqd
   go_wp2_with fail
   refine bodyPost_ret (results_tmp2 rfl _ _ _) rfl ?_
   rw [HC.out]
   exact ⟨rfl,HGO3.out⟩
  ·have hqd:(!decide (D = ds)) = true:=by simp [hq]
   have hc:conR s.ds ds = none:=by
    unfold conR
    rw [HT.out]
    simp [← HD.out,hq]
   have HC:=hide hc
   clear hc
   rw [hqd]
   clear hq hqd
   go_wp2_with fail
   refine bodyPost_ret (results_tmp2 rfl _ _ _) rfl ?_
   rw [HC.out]
   exact ⟨rfl,HGO3.out⟩
 ·have hs:rdD s.ds (cPath ds) = none:=by
   cases hq:rdD s.ds (cPath ds) with
   | none=>rfl
   | some t=>exact absurd (hk.2 (by rw [hq];rfl)) h0
  have hc:conR s.ds ds = none:=by unfold conR;rw [hs];rfl
  clear hk
  have u72:=Tryz.underlying117
  have i72:=size72 ds hds
  have hS0:=con_r ((((Below.refl w2.heap.size w2).drew).block _ (lt_heap HR2.out)).trans HR2.out)
  have HC:=hide hc
  clear hc
  clear u72 i72 hS0
  go_wp2_with fail
  go_region
  go_wp2_with fail
  refine bodyPost_ret (results_tmp2 rfl _ _ _) rfl ?_
  rw [HC.out]
  exact ⟨rfl,HGO.out.trans (PGo.refl HGO.out.inn (Below.refl _ _).drew)⟩
set_option maxHeartbeats 4000000
set_option maxRecDepth 100000
open Go.RowKit Go.Shelf
def szE (ds:List Nat) (z:Int) (t:TE):TE:=if t.d = ds then { t with z:=z } else t
def szT (ds:List Nat) (z:Int) (l:List TE):List TE:=l.map (szE ds z)
def szM (ds:List Nat) (z:Int) (left:Lit → Bool) (l:List TE):List TE:=l.map fun t=>if left (kOf t.n) = true then t else szE ds z t
theorem szE_n (ds:List Nat) (z:Int) (t:TE):(szE ds z t).n = t.n:=by unfold szE;split <;> rfl
theorem szM_len (ds:List Nat) (z:Int) (left:Lit → Bool) (l:List TE):(szM ds z left l).length = l.length:=by simp [szM]
theorem szM_all {ds:List Nat} {z:Int} {left:Lit → Bool} {l:List TE} (h:∀ t ∈ l,left (kOf t.n) = true):szM ds z left l = l:=by
 unfold szM
 conv=>rhs;rw [← List.map_id l]
 exact List.map_congr_left fun t ht=>by rw [if_pos (h t ht)];rfl
theorem szM_none {ds:List Nat} {z:Int} {left:Lit → Bool} {l:List TE} (h:∀ kl,left kl = false):szM ds z left l = szT ds z l:=by
 unfold szM szT
 exact List.map_congr_left fun t ht=>by rw [h];rfl
theorem szM_rise {ds:List Nat} {z:Int} {left:Lit → Bool} {l:List TE} (h:RiseT l):RiseT (szM ds z left l):=by
 unfold szM RiseT RiseK
 rw [List.pairwise_map]
 refine h.imp ?_
 intro a b hab
 have:∀ t:TE,(if left (kOf t.n) = true then t else szE ds z t).n = t.n:=fun t=>by split;rfl;exact szE_n ds z t
 rw [this,this]
 exact hab
theorem szT_ok {ds:List Nat} {z:Int} {l:List TE} (h:∀ t ∈ l,t.Ok) (hz:0 ≤ z ∧ z ≤ 300):∀ t ∈ szT ds z l,t.Ok:=by
 intro t ht
 obtain ⟨u,hu,rfl⟩:=List.mem_map.1 ht
 have hk:=h u hu
 unfold szE
 split
 ·exact ⟨hk.n,hk.len,hk.lt,hz.1,hz.2⟩
 ·exact hk
theorem szM_step {ds:List Nat} {z:Int} {left left':Lit → Bool} {l:List TE} (hr:RiseT l) {t:TE} (ht:t ∈ l) (hl':∀ u ∈ l,left' (kOf u.n) = if u.n = t.n then false else left (kOf u.n)) :
  szM ds z left' l = (szM ds z left l).map fun e=>if e.n = t.n then szE ds z t else e:=by
 unfold szM
 rw [List.map_map]
 refine List.map_congr_left fun u hu=>?_
 have hn:∀ t:TE,(if left (kOf t.n) = true then t else szE ds z t).n = t.n:=fun t=>by split;rfl;exact szE_n ds z t
 simp only [Function.comp_apply,hn,hl' u hu]
 by_cases h:u.n = t.n
 ·have:u = t:=riseK_inj hr hu ht h
  subst this
  simp
 ·simp [h]
theorem szM_skip {ds:List Nat} {z:Int} {left left':Lit → Bool} {l:List TE} (hr:RiseT l) {t:TE} (ht:t ∈ l) (hd:t.d ≠ ds) (hl':∀ u ∈ l,left' (kOf u.n) = if u.n = t.n then false else left (kOf u.n)) :
  szM ds z left' l = szM ds z left l:=by
 unfold szM
 refine List.map_congr_left fun u hu=>?_
 rw [hl' u hu]
 by_cases h:u.n = t.n
 ·have:u = t:=riseK_inj hr hu ht h
  subst this
  simp [szE,hd]
 ·simp [h]
theorem sized_any (tb:Nat) (l:List TE) (ds:List Nat) (z':Int) (w:World) (h:TL w tb l) (hok:∀ t ∈ l,t.Ok) (hds:ds.length = 32) (hlt:∀ i,ds.getD i 0 < 256) (hln:l.length ≤ 1000) :
  Calls Tryz.prog 115 #[.map (some tb),.agg (cells8 ds),.int .i64 z'] w fun e w'=>∃ b,e = .returned (.map (some b)) ∧ w.heap.size ≤ b ∧ TL w' b (szT ds z' l) ∧ Below w.heap.size w w':=by
 have hrise:RiseT l:=TL.rise h
 have HCL:=hide (tclone_any tb l.length (tD l))
 have hbo:Below w.heap.size w (w.alloc (.cells (cells8 ds) 117)):=(Below.refl _ _).alloc (Nat.le_refl _) _
 have hrow:(w.alloc (.cells (cells8 ds) 117)).heap[w.heap.size]? = some (.cells (cells8 ds) 117 (0,0)):=heap_alloc_new _ _
 have htm:TM _ tb l.length (tD l):=owns_same h (hbo.block _ (TL.lt h))
 obtain ⟨W,hW⟩ : ∃ W,W = w.alloc (.cells (cells8 ds) 117):=⟨_,rfl⟩
 rw [← hW] at hbo hrow htm
 have HTM:=hide htm
 have HW:=hide hW
 have HBO:=hide hbo
 have HROW:=hide hrow
 clear h hbo htm hW hrow
 have hz71:=(zero_of_info Tryz.info71b).1
 go_enter Tryz.func115,Tryz.ntmps115
 go_upto_region 1 with fail
 rw [← HW.out]
 go_wp2_with fail
 refine (HCL.out _ HTM.out).mono ?_
 rintro _ w1 ⟨rfl,htm1,hb1⟩
 dsimp only
 have HTM1:=hide htm1
 have HTM0:=hide (show TM w1 tb l.length (tD l) from owns_same HTM.out (hb1.block _ HTM.out.lt))
 have HB1:=hide hb1
 clear htm1 hb1 HCL
 go_wp2_with (at_range;refine wpList_range_own _ rfl _ 157 rfl 9 193 str_keyed Tryz.underlying157 heldR tb l.length (tD l) rfl HTM0.out ?_;intro w2 hrg2 hg2 hs2)
 go_frame
 have HRG:=hide hrg2
 have hB2:Below w.heap.size w w2:=(HBO.out.trans (HB1.out.mono HBO.out.size)).grown (hg2.but none) (by have:=HBO.out.size;have:=HB1.out.size;omega) (fun k e=>by cases e)
 have HB2:=hide hB2
 have HT2:=hide (show TM w2 W.heap.size l.length (tD l) from owns_same HTM1.out (hg2.block _ HTM1.out.lt (by simp)))
 have HR2:=hide ((hg2.block _ (by have:=lt_heap HROW.out;have:=HB1.out.size;omega) (by simp)).trans ((HB1.out.block _ (lt_heap HROW.out)).trans HROW.out))
 have hlt1:=HTM1.out.lt
 have hlt0:=HTM0.out.lt
 have hltt:=HTM.out.lt
 have hltw:=HBO.out.size
 have hlt2:=lt_heap HROW.out
 have HRISE:=hide hrise
 have HOK:=hide hok
 clear hrg2 hg2 hB2 hrise hok
 go_loopw [] (fun wr=>∃ left cnt,wr.ranges Tryz.prog 9 heldR tb w1.heap.size l.length (tD l) left cnt ∧ Below w.heap.size w wr ∧ w1.heap.size + 1 ≤ wr.heap.size ∧ wr.heap[w.heap.size]? = some (.cells (cells8 ds) 117 (0,0)) ∧ (∀ kl,left kl = true → Maps.has (tD l) kl = true) ∧ TL wr W.heap.size (szM ds z' left l)) (fun wr=>wr.rangeLeft tb w1.heap.size)
 case atStart=>exact ⟨_,_,HRG.out,HB2.out,by omega,HR2.out,fun kl h=>h,by
  rw [szM_all (fun t ht=>by rw [mD_has,findK_mem HRISE.out ht];rfl)]
  exact HT2.out⟩
 case round =>
  obtain ⟨left,cnt,hrg,hb,hsz,hdr,hlf,htl⟩:=hrel
  have HB:=hide hb
  have HRGR:=hide hrg
  have HDR:=hide hdr
  have HLF:=hide hlf
  have HTL:=hide htl
  clear hb hdr hlf htl
  go_wp2_with (at_next;refine wpList_next_ranges _ rfl _ rfl 9 str_keyed heldR Value.string (fun c:Value=>c) (fun key kl hkey=>str_inv Tryz.underlying9 hkey) (fun v y hv=>⟨v,rfl⟩) tb w1.heap.size _ _ _ _ rfl HRGR.out ?_ ?_)
  ·intro _ hl0
   have hfin:TL wr W.heap.size (szT ds z' l):=by
    have:=HTL.out
    rwa [szM_none hl0] at this
   have HFIN:=hide hfin
   clear hrg hl0 hfin
   go_wp2_with fail
   go_ret
   exact ⟨_,rfl,by omega,HFIN.out,HB.out⟩
  ·intro x c kl d ps w3 cnt1 hkey hlk hv hat hrg1 hltc hg1 hs1 hen
   obtain ⟨t,ht,rfl⟩:=mD_any (HLF.out kl hlk)
   have hxn:x = t.n:=by
    have:=str_key Tryz.underlying9 hkey
    unfold kOf at this
    injection this with this
    exact (ByteArray.ext (Array.ext' this)).symm
   subst hxn
   have hc:c = t.v:=by
    have h1:=hat .nil
    have h2:d = .held c:=by
     unfold heldR at hv
     injection hv with hv
     injection hv with hv
     exact hv.symm
    simp only [h2] at h1
    rw [mD_at,findK_mem HRISE.out ht] at h1
    injection h1 with h1
    exact h1.symm
   have hc:c = .agg (ecellsOf t.n t.d t.z):=hc
   subst hc
   have htok:=HOK.out t ht
   have htd:=htok.len
   have htn:=htok.n
   have HTLT:=hide htok.lt
   clear htok
   have hb3:Below w.heap.size w w3:=HB.out.grown hg1 (by omega) (fun k hk=>by injection hk with hk;omega)
   have hd3:w3.heap[w.heap.size]? = some (.cells (cells8 ds) 117 (0,0)):=(hg1.block _ (lt_heap HDR.out) (fun e=>by injection e with e;omega)).trans HDR.out
   have ht3:TL w3 W.heap.size (szM ds z' left l):=HTL.out.same (hg1.block _ HTL.out.lt (fun e=>by injection e with e;omega))
   have hX1:(w3.alloc (.cells (ecellsOf t.n t.d t.z) 193)).heap[w3.heap.size]? = some (.cells (ecellsOf t.n t.d t.z) 193 (0,0)):=heap_alloc_new _ _
   have hent:Ent w3 (w3.alloc (.cells (ecellsOf t.n t.d t.z) 193)) w3.heap.size t.n t.d t.z:=⟨hX1,(Below.refl _ _).alloc (Nat.le_refl _) _⟩
   obtain ⟨n0,n1,n2⟩:=hent.out htd
   have n3:=frozen_of_row _ _ 33 _ _ hX1
   have hd4:(w3.alloc (.cells (ecellsOf t.n t.d t.z) 193)).heap[w.heap.size]? = some (.cells (cells8 ds) 117 (0,0)):=(hent.below.block _ (lt_heap hd3)).trans hd3
   have hse:=ecells_set t.n t.d t.z z' htd
   have hBx:∀ q,Below w3.heap.size w3 (w3.alloc (.cells (ecellsOf t.n t.d q) 193)):=fun q=>(Below.refl _ _).alloc (Nat.le_refl _) _
   have hX2:(w3.alloc (.cells (ecellsOf t.n t.d z') 193)).heap[w3.heap.size]? = some (.cells (ecellsOf t.n t.d z') 193 (0,0)):=heap_alloc_new _ _
   have HT5:=hide (fun q=>show TL (w3.alloc (.cells (ecellsOf t.n t.d q) 193)) W.heap.size (szM ds z' left l) from ht3.same ((hBx q).block _ ht3.lt))
   have HRG5:=hide (fun q=>hrg1.alloc (.cells (ecellsOf t.n t.d q) 193))
   have HB5:=hide (fun q=>show Below w.heap.size w (w3.alloc (.cells (ecellsOf t.n t.d q) 193)) from hb3.trans ((hBx q).mono hb3.size))
   have HD5:=hide (fun q=>show (w3.alloc (.cells (ecellsOf t.n t.d q) 193)).heap[w.heap.size]? = some (.cells (cells8 ds) 117 (0,0)) from ((hBx q).block _ (lt_heap hd3)).trans hd3)
   have HLK:=hide (show ∀ u ∈ l,∀ kl',kl' = kOf u.n → (left kl' && !kl'.sameKey (kOf t.n)) = if u.n = t.n then false else left (kOf u.n) from fun u hu kl' hk=>by
    subst hk
    rw [kOf_same]
    by_cases h:u.n = t.n
    ·simp [h]
    ·simp [h])
   have HX1:=hide hX1
   have HX2:=hide hX2
   have HD4:=hide hd4
   have HN1:=hide n1
   have HLT:=hide hltc
   have HHT:=hide ht
   have hsz3:w1.heap.size + 1 ≤ w3.heap.size:=by omega
   clear hBx hs1 hrg hrg1 hkey hlk hv hat hltc hg1 hb3 hd3 ht3 hX1 hent n1 hd4 hX2 ht
   by_cases hdd:t.d = ds
   ·have hdt:decide (t.d = ds) = true:=decide_eq_true hdd
    have HDD:=hide hdd
    clear hdd
    go_wp2_with (first | (refine wpList_store_row rfl 193 _ _ rfl w3.heap.size _ rfl rfl 193 _ (heap_alloc_new _ _) (size71 _ _ _ htd) (by rw [ecellsOf_size _ _ _ htd,ecellsOf_size _ _ _ (Sha.zeros_len _)]) (Array.all_eq_true_iff_forall_mem.2 fun u hu=>ecellsOf_one _ _ _ u (by simpa using hu)) ?_;rw [World.setRow_alloc_new]) | (refine wpList_load_mid rfl 117 _ rfl w3.heap.size 1 rfl (cells8 t.d).toList _ HN1.out Tryz.underlying117 rfl (by rw [Array.length_toList];exact size40 _ htd) ?_) | (refine wpList_load_row rfl 117 _ rfl w.heap.size rfl 117 _ _ _ HD4.out Tryz.underlying117 rfl (size40 _ hds) ?_) | (refine wpList_eqDig rfl _ _ _ rfl t.d ds htd hds HTLT.out hlt rfl rfl ?_;rw [hdt]) | (refine wpList_load_row rfl 193 _ rfl w3.heap.size rfl 193 _ _ _ HX2.out Tryz.underlying193 rfl (size71 _ _ _ htd) ?_) | (refine wpList_mapUpdate_own _ rfl _ _ _ 157 rfl 9 193 str_keyed Tryz.underlying157 heldR W.heap.size _ _ rfl (HT5.out z') (by rw [szM_len];unfold maxLen;omega) _ _ (.string t.n.data.toList) rfl rfl (key_str t.n (by omega)) _ [] rfl ?_;intro w6 hm6 hg6))
    go_roundw
    case rel =>
     have hz5:=(HB5.out z').size
     refine ⟨_,⟨cnt1,(HRG5.out z').kept hg6 (fun e=>by injection e with e;omega) (fun e=>by injection e with e;omega)⟩,(HB5.out z').grown hg6 (by omega) (fun k hk=>by injection hk with hk;omega),by have:=hg6.size;simp only [size_alloc] at this;omega,(hg6.block _ (lt_heap (HD5.out z')) (fun e=>by injection e with e;omega)).trans (HD5.out z'),fun kl h=>HLF.out kl (by simp at h;exact h.1),?_⟩
     have hts:szE ds z' t = ⟨t.n,t.d,z'⟩:=by unfold szE;rw [if_pos HDD.out]
     have h7:TM w6 W.heap.size ((szM ds z' left l).length + 1) ((tD (szM ds z' left l)).put (kOf (szE ds z' t).n) (.held (szE ds z' t).v)):=by rw [hts];exact hm6
     rw [mD_put _ _ (szM_rise HRISE.out),insK_there (szM_rise HRISE.out) ⟨if left (kOf t.n) = true then t else szE ds z' t,List.mem_map_of_mem HHT.out,by rw [szE_n];split;rfl;exact szE_n _ _ _⟩] at h7
     have h8:=tl_tight h7
     rw [szM_step HRISE.out HHT.out (fun u hu=>HLK.out u hu _ rfl)]
     rw [szE_n] at h8
     exact h8
    case measure =>
     rw [((HRG5.out z').kept hg6 (fun e=>by injection e with e;omega) (fun e=>by injection e with e;omega)).left_eq,HRGR.out.left_eq]
     exact HLT.out
   ·have hdt:decide (t.d = ds) = false:=decide_eq_false hdd
    have HDD:=hide hdd
    clear hdd
    go_wp2_with (first | (refine wpList_store_row rfl 193 _ _ rfl w3.heap.size _ rfl rfl 193 _ (heap_alloc_new _ _) (size71 _ _ _ htd) (by rw [ecellsOf_size _ _ _ htd,ecellsOf_size _ _ _ (Sha.zeros_len _)]) (Array.all_eq_true_iff_forall_mem.2 fun u hu=>ecellsOf_one _ _ _ u (by simpa using hu)) ?_;rw [World.setRow_alloc_new]) | (refine wpList_load_mid rfl 117 _ rfl w3.heap.size 1 rfl (cells8 t.d).toList _ HN1.out Tryz.underlying117 rfl (by rw [Array.length_toList];exact size40 _ htd) ?_) | (refine wpList_load_row rfl 117 _ rfl w.heap.size rfl 117 _ _ _ HD4.out Tryz.underlying117 rfl (size40 _ hds) ?_) | (refine wpList_eqDig rfl _ _ _ rfl t.d ds htd hds HTLT.out hlt rfl rfl ?_;rw [hdt]))
    refine ⟨?_,?measure⟩
    ·iterate 16 (apply Exists.intro)
     refine ⟨?rel,rfl⟩
     refine ⟨_,cnt1,HRG5.out t.z,HB5.out t.z,by simp only [size_alloc];omega,HD5.out t.z,fun kl h=>HLF.out kl (by simp at h;exact h.1),?_⟩
     rw [szM_skip HRISE.out HHT.out HDD.out (fun u hu=>HLK.out u hu _ rfl)]
     exact HT5.out t.z
    ·rw [(HRG5.out t.z).left_eq,HRGR.out.left_eq]
     exact HLT.out
set_option maxHeartbeats 4000000
set_option maxRecDepth 100000
open Go.RowKit Go.Shelf
theorem rise_sub:∀ {m l:List TE},RiseT l → RiseT m → (∀ t ∈ l,t ∈ m) → l.Sublist m
 | [],l,_,_,h=>by
  cases l with
  | nil=>exact .slnil
  | cons e es=>exact absurd (h e (by simp)) (by simp)
 | f :: fs,l,hl,hm,h=>by
  obtain ⟨m1,m2⟩:=List.pairwise_cons.1 hm
  cases l with
  | nil=>exact List.nil_sublist _
  | cons e es =>
   obtain ⟨l1,l2⟩:=List.pairwise_cons.1 hl
   by_cases he:e = f
   ·subst he
    exact (rise_sub l2 m2 (fun t ht=>(List.mem_cons.1 (h t (by simp [ht]))).resolve_left (fun e2=>by
     subst e2
     have:=l1 t ht
     rw [less_irrefl] at this
     cases this))).cons_cons e
   ·have hef:e ∈ fs:=(List.mem_cons.1 (h e (by simp))).resolve_left he
    refine (rise_sub hl m2 (fun t ht=>(List.mem_cons.1 (h t ht)).resolve_left (fun e2=>?_))).cons f
    subst e2
    rcases List.mem_cons.1 ht with rfl | ht
    ·exact he rfl
    ·have:=less_trans (m1 e hef) (l1 t ht)
     rw [less_irrefl] at this
     cases this
theorem tags_eq {l m:List TE} (hl:RiseT l) (hm:RiseT m) (hlen:l.length = m.length) (h:∀ t ∈ l,t ∈ m):l = m:=(rise_sub hl hm h).eq_of_length hlen
theorem equal_any (b1 b2:Nat) (l m:List TE) (w:World) (h1:TL w b1 l) (h2:TL w b2 m) (ho1:∀ t ∈ l,t.Ok) (ho2:∀ t ∈ m,t.Ok) :
  Calls Tryz.prog 165 #[.map (some b1),.map (some b2)] w fun e w'=>e = .returned (.bool (decide (l = m))) ∧ Below w.heap.size w w':=by
 by_cases hlen:l.length = m.length
 ·have l1:=World.ownsMap.len h1 Tryz.underlying157
  have l2:=World.ownsMap.len h2 Tryz.underlying157
  rw [mD_size] at l1 l2
  rw [← hlen] at l2
  have H1:=hide h1
  have H2:=hide h2
  have HO1:=hide ho1
  have HO2:=hide ho2
  have HLEN:=hide hlen
  clear h1 h2 ho1 ho2 hlen
  go_enter Tryz.func165,Tryz.ntmps165
  go_wp2_with (at_range;refine wpList_range_own _ rfl _ 157 rfl 9 193 str_keyed Tryz.underlying157 heldR b1 l.length (tD l) rfl H1.out ?_;intro w2 hrg2 hg2 hs2)
  go_frame
  have HRG:=hide hrg2
  have hB2:Below w.heap.size w w2:=(Below.refl _ _).grown (hg2.but none) (Nat.le_refl _) (fun k e=>by cases e)
  have HB2:=hide hB2
  have HR1:=hide H1.out.rise
  have HR2:=hide H2.out.rise
  have hlt1:=H1.out.lt
  have hlt2:=H2.out.lt
  clear hrg2 hg2 hB2
  have hz71:=(zero_of_info Tryz.info71b).1
  go_loopw [] (fun wr=>∃ left cnt,wr.ranges Tryz.prog 9 heldR b1 w.heap.size l.length (tD l) left cnt ∧ Below w.heap.size w wr ∧ (∀ kl,left kl = true → Maps.has (tD l) kl = true) ∧ (∀ t ∈ l,left (kOf t.n) = false → t ∈ m)) (fun wr=>wr.rangeLeft b1 w.heap.size)
  case atStart=>exact ⟨_,_,HRG.out,HB2.out,fun kl h=>h,fun t ht h=>by rw [mD_has,findK_mem HR1.out ht] at h;cases h⟩
  case round =>
   obtain ⟨left,cnt,hrg,hb,hlf,hin⟩:=hrel
   have HB:=hide hb
   have HRGR:=hide hrg
   have HLF:=hide hlf
   have HIN:=hide hin
   clear hb hlf hin
   go_wp2_with (at_next;refine wpList_next_ranges _ rfl _ rfl 9 str_keyed heldR Value.string (fun c:Value=>c) (fun key kl hkey=>str_inv Tryz.underlying9 hkey) (fun v y hv=>⟨v,rfl⟩) b1 w.heap.size _ _ _ _ rfl HRGR.out ?_ ?_)
   ·intro _ hl0
    have hlm:l = m:=tags_eq HR1.out HR2.out HLEN.out (fun t ht=>HIN.out t ht (hl0 _))
    have HLM:=hide hlm
    clear hrg hl0 hlm
    go_wp2_with fail
    go_ret
    exact ⟨by rw [decide_eq_true HLM.out];rfl,HB.out⟩
   ·intro x c kl d ps w3 cnt1 hkey hlk hv hat hrg1 hltc hg1 hs1 hen
    obtain ⟨t,ht,rfl⟩:=mD_any (HLF.out kl hlk)
    have hxn:x = t.n:=by
     have:=str_key Tryz.underlying9 hkey
     unfold kOf at this
     injection this with this
     exact (ByteArray.ext (Array.ext' this)).symm
    subst hxn
    have hc:c = t.v:=by
     have h1:=hat .nil
     have h2:d = .held c:=by
      unfold heldR at hv
      injection hv with hv
      injection hv with hv
      exact hv.symm
     simp only [h2] at h1
     rw [mD_at,findK_mem HR1.out ht] at h1
     injection h1 with h1
     exact h1.symm
    have hc:c = .agg (ecellsOf t.n t.d t.z):=hc
    subst hc
    have htok:=HO1.out t ht
    have htd:=htok.len
    have htn:=htok.n
    have hb3:Below w.heap.size w w3:=HB.out.grown hg1 HB.out.size (fun k hk=>by injection hk with hk;omega)
    have HT:=hide (show TL w3 b2 m from H2.out.same (hb3.block _ hlt2))
    have HB3:=hide hb3
    have HTOK:=hide htok
    have HHT:=hide ht
    have HEN:=hide hen
    clear htok ht hb3
    obtain ⟨X,hX⟩ : ∃ X,X = w3.alloc (.cells (ecellsOf t.n t.d t.z) 193):=⟨_,rfl⟩
    have hbX:Below w3.heap.size w3 X:=by rw [hX];exact (Below.refl _ _).alloc (Nat.le_refl _) _
    have hXr:X.heap[w3.heap.size]? = some (.cells (ecellsOf t.n t.d t.z) 193 (0,0)):=by rw [hX];exact heap_alloc_new _ _
    have HXT:=hide (show TL X b2 m from HT.out.same (hbX.block _ HT.out.lt))
    have HX:=hide hX
    have HXR:=hide hXr
    have HBX:=hide hbX
    have HRG1:=hide hrg1
    have HLT:=hide hltc
    clear hX hbX hXr hrg hrg1 hltc hs1 hg1 hkey hlk hv hat
    obtain ⟨u,hu⟩ : ∃ u,u = lookT t.n m:=⟨_,rfl⟩
    have huok:u.Ok:=by rw [hu];exact lookT_ok HO2.out
    have hud:=huok.len
    obtain ⟨Y,hY⟩ : ∃ Y,Y = X.alloc (.cells (ecellsOf u.n u.d u.z) 193):=⟨_,rfl⟩
    have hbY:Below X.heap.size X Y:=by rw [hY];exact (Below.refl _ _).alloc (Nat.le_refl _) _
    have hYr:Y.heap[X.heap.size]? = some (.cells (ecellsOf u.n u.d u.z) 193 (0,0)):=by rw [hY];exact heap_alloc_new _ _
    have HYX:=hide ((hbY.block _ (lt_heap HXR.out)).trans HXR.out)
    have HYR:=hide hYr
    have HY:=hide hY
    have HBY:=hide (HB3.out.trans ((HBX.out.mono HB3.out.size).trans (hbY.mono (Nat.le_trans HB3.out.size HBX.out.size))))
    have HRGY:=hide (show Y.ranges Tryz.prog 9 heldR b1 w.heap.size l.length (tD l) (fun z=>left z && !z.sameKey (kOf t.n)) cnt1 from by
     rw [HY.out]
     have:=HRG1.out.alloc (.cells (ecellsOf t.n t.d t.z) 193)
     rw [← HX.out] at this
     exact this.alloc _)
    have HUOK:=hide huok
    have HU:=hide hu
    clear huok hbY hYr hY hu
    cases hf:findK TE.n t.n m with
    | none =>
     have hsome:(findK TE.n t.n m).isSome = false:=by rw [hf];rfl
     have hlm:¬ l = m:=fun e=>findK_none hf t (by rw [← e];exact HHT.out) rfl
     have HLM:=hide hlm
     clear hlm hf
     go_wp2_with (first | (refine wpList_store_row rfl 193 _ _ rfl w3.heap.size _ rfl rfl 193 _ (heap_alloc_new _ _) (size71 _ _ _ htd) (by rw [ecellsOf_size _ _ _ htd,ecellsOf_size _ _ _ (Sha.zeros_len _)]) (Array.all_eq_true_iff_forall_mem.2 fun u hu=>ecellsOf_one _ _ _ u (by simpa using hu)) ?_;rw [World.setRow_alloc_new,← HX.out]) | (refine wpList_lookT rfl _ _ rfl b2 m rfl HXT.out t.n rfl (by omega) ?_;rw [hsome,← HU.out]) | (refine wpList_store_row rfl 193 _ _ rfl X.heap.size _ rfl rfl 193 _ (heap_alloc_new _ _) (size71 _ _ _ hud) (by rw [ecellsOf_size _ _ _ hud,ecellsOf_size _ _ _ (Sha.zeros_len _)]) (Array.all_eq_true_iff_forall_mem.2 fun u hu=>ecellsOf_one _ _ _ u (by simpa using hu)) ?_;rw [World.setRow_alloc_new,← HY.out]))
     go_ret
     exact ⟨by rw [decide_eq_false HLM.out];rfl,HBY.out⟩
    | some u' =>
     have hsome:(findK TE.n t.n m).isSome = true:=by rw [hf];rfl
     have huu:u = u':=by rw [HU.out];unfold lookT;rw [hf];rfl
     by_cases htu:t = u
     ·have hne:(!decide (t = u)) = false:=by rw [decide_eq_true htu];rfl
      have HTM:=hide (show t ∈ m by rw [htu,huu];exact (findK_some hf).1)
      clear hf huu htu
      go_wp2_with (first | (refine wpList_store_row rfl 193 _ _ rfl w3.heap.size _ rfl rfl 193 _ (heap_alloc_new _ _) (size71 _ _ _ htd) (by rw [ecellsOf_size _ _ _ htd,ecellsOf_size _ _ _ (Sha.zeros_len _)]) (Array.all_eq_true_iff_forall_mem.2 fun u hu=>ecellsOf_one _ _ _ u (by simpa using hu)) ?_;rw [World.setRow_alloc_new,← HX.out]) | (refine wpList_lookT rfl _ _ rfl b2 m rfl HXT.out t.n rfl (by omega) ?_;rw [hsome,← HU.out]) | (refine wpList_store_row rfl 193 _ _ rfl X.heap.size _ rfl rfl 193 _ (heap_alloc_new _ _) (size71 _ _ _ hud) (by rw [ecellsOf_size _ _ _ hud,ecellsOf_size _ _ _ (Sha.zeros_len _)]) (Array.all_eq_true_iff_forall_mem.2 fun u hu=>ecellsOf_one _ _ _ u (by simpa using hu)) ?_;rw [World.setRow_alloc_new,← HY.out]) | (refine wpList_load_rowG rfl 193 _ rfl w3.heap.size rfl 193 _ _ _ HYX.out Tryz.underlying193 rfl (size71 _ _ _ htd) ?_) | (refine wpList_load_rowG rfl 193 _ rfl X.heap.size rfl 193 _ _ _ HYR.out Tryz.underlying193 rfl (size71 _ _ _ hud) ?_) | (refine wpList_neEntG rfl _ _ _ rfl t u HTOK.out HUOK.out rfl rfl ?_;rw [hne]))
      refine ⟨⟨_,cnt1,HRGY.out,HBY.out,fun kl h=>HLF.out kl (by simp at h;exact h.1),fun t' ht' hl'=>?_⟩,?_⟩
      ·by_cases hn:t'.n = t.n
       ·rw [riseK_inj HR1.out ht' HHT.out hn]
        exact HTM.out
       ·refine HIN.out t' ht' ?_
        rw [kOf_same,decide_eq_false hn] at hl'
        simpa using hl'
      ·rw [HRGY.out.left_eq,HRGR.out.left_eq]
       exact HLT.out
     ·have hne:(!decide (t = u)) = true:=by rw [decide_eq_false htu];rfl
      have hlm:¬ l = m:=fun e=>htu (by
       have h1:=findK_mem HR2.out (show t ∈ m by rw [← e];exact HHT.out)
       rw [hf] at h1
       injection h1 with h1
       rw [huu,h1])
      have HLM:=hide hlm
      clear hf huu htu hlm
      go_wp2_with (first | (refine wpList_store_row rfl 193 _ _ rfl w3.heap.size _ rfl rfl 193 _ (heap_alloc_new _ _) (size71 _ _ _ htd) (by rw [ecellsOf_size _ _ _ htd,ecellsOf_size _ _ _ (Sha.zeros_len _)]) (Array.all_eq_true_iff_forall_mem.2 fun u hu=>ecellsOf_one _ _ _ u (by simpa using hu)) ?_;rw [World.setRow_alloc_new,← HX.out]) | (refine wpList_lookT rfl _ _ rfl b2 m rfl HXT.out t.n rfl (by omega) ?_;rw [hsome,← HU.out]) | (refine wpList_store_row rfl 193 _ _ rfl X.heap.size _ rfl rfl 193 _ (heap_alloc_new _ _) (size71 _ _ _ hud) (by rw [ecellsOf_size _ _ _ hud,ecellsOf_size _ _ _ (Sha.zeros_len _)]) (Array.all_eq_true_iff_forall_mem.2 fun u hu=>ecellsOf_one _ _ _ u (by simpa using hu)) ?_;rw [World.setRow_alloc_new,← HY.out]) | (refine wpList_load_rowG rfl 193 _ rfl w3.heap.size rfl 193 _ _ _ HYX.out Tryz.underlying193 rfl (size71 _ _ _ htd) ?_) | (refine wpList_load_rowG rfl 193 _ rfl X.heap.size rfl 193 _ _ _ HYR.out Tryz.underlying193 rfl (size71 _ _ _ hud) ?_) | (refine wpList_neEntG rfl _ _ _ rfl t u HTOK.out HUOK.out rfl rfl ?_;rw [hne]))
      go_ret
      exact ⟨by rw [decide_eq_false HLM.out];rfl,HBY.out⟩
 ·have hne:¬ l = m:=fun e=>hlen (by rw [e])
  rw [decide_eq_false hne]
  exact (equal_short b1 b2 l.length m.length (tD l) (tD m) w h1 h2 (by rw [mD_size,mD_size];exact hlen)).mono fun e w' ⟨he,hw⟩=>⟨he,by rw [hw];exact Below.refl _ _⟩
end Go.Proofs.YtncigfibncmioaaGreatDoor
namespace Go.Proofs.YtncigfibncmioaaGreatDoor
open Go.RowKit
theorem StW.putC {W W':World} {sb:Nat} {s:PSt} {cb tb nc nt n':Nat} {Dc Dt D':DataW Value} (h:StW W sb s cb tb nc nt Dc Dt) (hg:W.grownBy W' (some cb)) (hc:CM W' cb n' D'):StW W' sb s cb tb n' nt D' Dt:=by
 have hne:∀ {k:Nat},k ≠ cb → k < W.heap.size → W'.heap[k]? = W.heap[k]?:=fun hk hl=>hg.block _ hl (fun e=>hk (by injection e))
 refine ⟨h.inn.same (fun k hk=>hne (fun e=>h.ncb (e ▸ hk)) (h.inn.lt hk)),h.gl.same hg.size (fun k hk=>hne (fun e=>h.gcb (e ▸ hk)) (h.gl.lt hk)),h.low,(hne (fun e=>?_) (lt_heap h.blk)).trans h.blk,hc,owns_same h.tm (hne (fun e=>h.ne e.symm) h.tm.lt),h.ncb,h.ntb,h.gcb,h.gtb,h.gsb,h.ne⟩
 obtain ⟨es,clock,h1,_⟩:=h.cm
 rw [← e,h.blk] at h1
 cases h1
def dPut (Dc:DataW Value) (ds:List Nat):DataW Value:=Dc.put (dKey ds) (.held (.agg #[]))
end Go.Proofs.YtncigfibncmioaaGreatDoor
