/-
  PROVED HERE: what errors.As and errnoOf of the program's disks answer: of no error, and of a refusal that is wrapped once.
-/
import Derived.Test.YtncigfibncmioaaGreatDoorSmKey
import Derived.Stop.Asserts
import Derived.RowKitTokens
set_option maxHeartbeats 4000000
set_option maxRecDepth 100000
namespace Go.Proofs.YtncigfibncmioaaGreatDoor
open Go.RowKit Go.Extern.Stop Go.Stop Go.Extern
def eI (k:Int):Value:=.iface 161 (.int .i64 k)
def lI:Value:=.iface 274 (.agg #[.pointer (some ⟨6,94,none⟩)])
theorem Quf (t:Value) (w:World):Calls Tryz.prog 95 #[.nilIface,t] w fun e w'=>e = .returned (.bool false)/\w'=w:=by
 go_enter Tryz.func95,Tryz.ntmps95;go_wp2;go_ret;exact ⟨rfl,rfl⟩
theorem Tryz.zm (t:Addr) (w:World):(ReflectliteValue.unpack (.iface 163 (.pointer (some t)))).run Tryz.prog w
  = .ok (.agg #[.pointer (some ⟨6,163,none⟩),.pointer (some ⟨w.heap.size,0,none⟩),.int .u64 150]) (w.alloc (.cells #[.pointer (some t)] 163)):=by kernel_rfl
theorem Tryz.LJ (a:Addr) (w:World):(ReflectliteValue.methodAny (ReflectliteValue.valueError "reflectlite.Value.Type" 0) (fun t _ _ _=>ReflectliteType.toType t) #[.agg #[.pointer (some ⟨6,163,none⟩),.pointer (some a),.int .u64 150]]).run Tryz.prog w
  = .ok (.iface 274 (.agg #[.pointer (some ⟨6,163,none⟩)])) w:=by kernel_rfl
theorem Tryz.tA (h:Value) (w:World):(Go.method 486 274 (.agg #[h]) "Kind").run Tryz.prog w = .ok (307,h) w:=by kernel_rfl
theorem Tryz.LK (w:World):((ReflectliteType.abiMethod fun t=>(fun a:Nat=>Value.int IntKind.u8 (a:Int)) <$> Rtype.kind t) #[.pointer (some ⟨6,163,none⟩)]).run Tryz.prog w = .ok (.int .u8 22) w:=by kernel_rfl
theorem Tryz.LL (w:World):((ReflectliteType.abiMethod fun t=>(fun a:Nat=>Value.int IntKind.u8 (a:Int)) <$> Rtype.kind t) #[.pointer (some ⟨6,161,none⟩)]).run Tryz.prog w = .ok (.int .u8 2) w:=by kernel_rfl
theorem rlm (z:Sem Value) (f:TypeId->Addr->Nat->Nat->Sem Value) (v:Value) :
  ReflectliteValue.method z f #[v]=(do match <- ReflectliteValue.parts v with|none=>z|some (t,a,fl)=>f t a fl (fl % 32)):=rfl
theorem Tryz.zn (a:Addr) (w:World):(ReflectliteValue.parts (.agg #[.pointer (some ⟨6,163,none⟩),.pointer (some a),.int .u64 150])).run Tryz.prog w = .ok (some (163,a,150)) w:=by kernel_rfl
theorem Tryz.Gw (a p:Addr) (W:World) (ha:W.cell? a=some (.pointer (some p))) :
  (ReflectliteValue.method (ReflectliteValue.valueError "reflectlite.Value.IsNil" 0) ReflectliteValue.isNil #[.agg #[.pointer (some ⟨6,163,none⟩),.pointer (some a),.int .u64 150]]).run Tryz.prog W = .ok (.bool false) W:=by
 rw [rlm];simp only [Sem.run_bind,Tryz.zn,Result.andThen];simp [ReflectliteValue.isNil,loadVar,isAgg,underlying,Tryz.underlying163,ha,Result.andThen]
theorem Tryz.tB (h:Value) (w:World):(Go.method 486 274 (.agg #[h]) "Elem").run Tryz.prog w = .ok (321,.agg #[h]) w:=by kernel_rfl
theorem Tryz.jX (h:Value) (w:World):(Go.method 486 274 (.agg #[h]) "Implements").run Tryz.prog w = .ok (322,.agg #[h]) w:=by kernel_rfl
theorem Tryz.iP (h:Value) (w:World):(Go.method 486 274 (.agg #[h]) "AssignableTo").run Tryz.prog w = .ok (319,.agg #[h]) w:=by kernel_rfl
theorem Tryz.pD (h:Addr) (w:World):(Go.method 486 165 (.pointer (some h)) "Unwrap").run Tryz.prog w = .ok (313,.pointer (some h)) w:=by kernel_rfl
theorem Tryz.LM (w:World):(ReflectliteType.method ReflectliteType.elem #[.agg #[.pointer (some ⟨6,163,none⟩)]]).run Tryz.prog w = .ok (.iface 274 (.agg #[.pointer (some ⟨6,161,none⟩)])) w:=by kernel_rfl
theorem Tryz.qR (w:World):(ReflectliteType.relation "Implements" ReflectliteType.implements_ #[.agg #[.pointer (some ⟨6,161,none⟩)],.iface 274 (.agg #[.pointer (some ⟨6,94,none⟩)])]).run Tryz.prog w = .ok (.bool true) w:=by kernel_rfl
theorem Tryz.Cc (v:Value) (w:World):(ReflectliteType.typeOf #[.iface 165 v]).run Tryz.prog w = .ok (.iface 274 (.agg #[.pointer (some ⟨6,165,none⟩)])) w:=by kernel_rfl
theorem Tryz.Ce (v:Value) (w:World):(ReflectliteType.typeOf #[.iface 161 v]).run Tryz.prog w = .ok (.iface 274 (.agg #[.pointer (some ⟨6,161,none⟩)])) w:=by kernel_rfl
theorem Tryz.Cf (w:World):(ReflectliteType.relation "AssignableTo" ReflectliteType.assignableTo #[.agg #[.pointer (some ⟨6,165,none⟩)],.iface 274 (.agg #[.pointer (some ⟨6,161,none⟩)])]).run Tryz.prog w = .ok (.bool false) w:=by kernel_rfl
theorem Tryz.Cg (w:World):(ReflectliteType.relation "AssignableTo" ReflectliteType.assignableTo #[.agg #[.pointer (some ⟨6,161,none⟩)],.iface 274 (.agg #[.pointer (some ⟨6,161,none⟩)])]).run Tryz.prog w = .ok (.bool true) w:=by kernel_rfl
theorem Tryz.zo (k:Int) (w:World):(ReflectliteValue.unpack (.iface 161 (.int .i64 k))).run Tryz.prog w
  = .ok (.agg #[.pointer (some ⟨6,161,none⟩),.pointer (some ⟨w.heap.size,0,none⟩),.int .u64 130]) (w.alloc (.cells #[.int .i64 k] 161)):=by kernel_rfl
theorem Tryz.Ch (w:World):(Rtype.elem? 163).run Tryz.prog w = .ok (some 161) w:=by kernel_rfl
theorem Tryz.mkR (p:Addr) (w:World):(ReflectliteValue.mk 161 p ReflectliteValue.flagAddr).run Tryz.prog w = .ok (.agg #[.pointer (some ⟨6,161,none⟩),.pointer (some p),.int .u64 386]) w:=by kernel_rfl
theorem Tryz.Gx (a p:Addr) (W:World) (ha:W.cell? a=some (.pointer (some p))) :
  (ReflectliteValue.method (ReflectliteValue.valueError "reflectlite.Value.Elem" 0) ReflectliteValue.elem #[.agg #[.pointer (some ⟨6,163,none⟩),.pointer (some a),.int .u64 150]]).run Tryz.prog W
   = .ok (.agg #[.pointer (some ⟨6,161,none⟩),.pointer (some p),.int .u64 386]) W:=by
 rw [rlm];simp only [Sem.run_bind,Tryz.zn,Result.andThen];simp [ReflectliteValue.elem,loadVar,isAgg,underlying,Tryz.underlying163,ha,Result.andThen,Tryz.Ch,Tryz.mkR]
theorem rls (v x:Value):ReflectliteValue.set #[v,x]=(do
  let (some (dst,a,fl),some (src,b,_)):=(<- ReflectliteValue.parts v,<- ReflectliteValue.parts x)
   | unsupported (.noEntry "extern/(internal/reflectlite.Value).Set.zeroValue")
  if fl / ReflectliteValue.flagAddr % 2 == 0 then unsupported (.noEntry "extern/(internal/reflectlite.Value).Set.unaddressable")
  let val <- loadVar src b
  if <- Rtype.directlyAssignable dst src then storeVar dst a val
  else if <- Rtype.implements dst src then
   if (<- Rtype.kind src) == 20 then
    match val with
    | .nilIface=>unsupported (.noEntry "extern/reflectlite: a nil value of one interface type handed on as a value of another")
    | _=>storeVar dst a val
   else storeVar dst a (.iface src val)
  else panicString ("reflectlite.Set: value of type " ++ (<- Rtype.spelt src) ++ " is not assignable to type " ++ (<- Rtype.spelt dst))
  pure (.tuple #[])):=rfl
theorem Tryz.Ci (a:Addr) (w:World):(ReflectliteValue.parts (.agg #[.pointer (some ⟨6,161,none⟩),.pointer (some a),.int .u64 386])).run Tryz.prog w = .ok (some (161,a,386)) w:=by kernel_rfl
theorem Tryz.Gy (a:Addr) (w:World):(ReflectliteValue.parts (.agg #[.pointer (some ⟨6,161,none⟩),.pointer (some a),.int .u64 130])).run Tryz.prog w = .ok (some (161,a,130)) w:=by kernel_rfl
theorem Tryz.Cj (w:World):(Rtype.directlyAssignable 161 161).run Tryz.prog w = .ok true w:=by kernel_rfl
theorem Tryz.Tj (ta b:Addr) (k:Int) (old:Value) (W:World) (hb:W.cell? b=some (.int .i64 k)) (ht:W.cell? ta=some old) (hf:W.frozen? ta=false) :
  (ReflectliteValue.set #[.agg #[.pointer (some ⟨6,161,none⟩),.pointer (some ta),.int .u64 386],.agg #[.pointer (some ⟨6,161,none⟩),.pointer (some b),.int .u64 130]]).run Tryz.prog W
   = .ok (.tuple #[]) (W.setCell ta (.int .i64 k)):=by
 rw [rls];simp only [Sem.run_bind,Tryz.Ci,Tryz.Gy,Result.andThen];simp [ReflectliteValue.flagAddr,loadVar,isAgg,underlying,Tryz.underlying161,hb,Result.andThen,Tryz.Cj,storeVar,Value.cells,storeCells,Addr.add];rw [run_store Tryz.prog W ta _ _ (by rfl)];simp [ht,hf]
theorem Tryz.LN (p:Value) (w:World):(Instr.typeAssert (.iface 165 p) 94 279 true).run Tryz.prog w = .ok (.tuple #[.nilIface,.bool false]) w :=
 run_typeAssert_lacksB Tryz.underlying279 (by kernel_rfl) (by kernel_rfl) p _ w
theorem Tryz.LO (p:Value) (w:World):(Instr.typeAssert (.iface 165 p) 94 282 true).run Tryz.prog w = .ok (.tuple #[.iface 165 p,.bool true]) w :=
 run_typeAssert_hasB Tryz.underlying282 (by kernel_rfl) p _ w
theorem QsC (s:Nat) (nm:ByteArray) (k:Int) (t:Addr) (old:Value) (w:World) (hg:w.cell? ⟨0,0,none⟩=some lI) (hs:w.heap[s]? = some (.cells #[.string nm,eI k] 167 (0,0))) (ht0:w.cell? t=some old) (Tk:w.frozen? t=false) :
  Calls Tryz.prog 95 #[.iface 165 (.pointer (some ⟨s,0,none⟩)),.iface 163 (.pointer (some t))] w fun ev w'=>ev = .returned (.bool true)/\∃ o1 o2 o3 o4,w'=((((w.alloc o1).alloc o2).alloc o3).alloc o4).setCell t (.int .i64 k):=by
 have h6:=@run_callFunc_extern Tryz.prog 142 _ (fun args=>ReflectliteValue.unpack (args.getD 0 (.tuple #[]))) Tryz.func142 (by kernel_rfl) (by kernel_rfl) (by kernel_rfl) (by kernel_rfl);have h7:=@run_callFunc_extern Tryz.prog 143 _ (ReflectliteValue.methodAny (ReflectliteValue.valueError "reflectlite.Value.Type" 0) (fun t _ _ _=>ReflectliteType.toType t)) Tryz.func143 (by kernel_rfl) (by kernel_rfl) (by kernel_rfl) (by kernel_rfl)
 have h8:=@run_callFunc_extern Tryz.prog 144 _ (ReflectliteValue.method (ReflectliteValue.valueError "reflectlite.Value.IsNil" 0) ReflectliteValue.isNil) Tryz.func144 (by kernel_rfl) (by kernel_rfl) (by kernel_rfl) (by kernel_rfl)
 have h27:=@run_callFunc_extern Tryz.prog 307 _ (ReflectliteType.abiMethod fun t=>do pure (.int .u8 (<- Rtype.kind t))) Tryz.func307 (by kernel_rfl) (by kernel_rfl) (by kernel_rfl) (by kernel_rfl);have h37:=@run_callFunc_extern Tryz.prog 321 _ (ReflectliteType.method ReflectliteType.elem) Tryz.func321 (by kernel_rfl) (by kernel_rfl) (by kernel_rfl) (by kernel_rfl);have h38:=@run_callFunc_extern Tryz.prog 322 _ (ReflectliteType.relation "Implements" ReflectliteType.implements_) Tryz.func322 (by kernel_rfl) (by kernel_rfl) (by kernel_rfl) (by kernel_rfl)
 have h10:=@run_callFunc_extern Tryz.prog 192 _ ReflectliteType.typeOf Tryz.func192 (by kernel_rfl) (by kernel_rfl) (by kernel_rfl) (by kernel_rfl);have h35:=@run_callFunc_extern Tryz.prog 319 _ (ReflectliteType.relation "AssignableTo" ReflectliteType.assignableTo) Tryz.func319 (by kernel_rfl) (by kernel_rfl) (by kernel_rfl) (by kernel_rfl)
 have h11:=@run_callFunc_extern Tryz.prog 193 _ (ReflectliteValue.method (ReflectliteValue.valueError "reflectlite.Value.Elem" 0) ReflectliteValue.elem) Tryz.func193 (by kernel_rfl) (by kernel_rfl) (by kernel_rfl) (by kernel_rfl)
 have h12:=@run_callFunc_extern Tryz.prog 194 _ ReflectliteValue.set Tryz.func194 (by kernel_rfl) (by kernel_rfl) (by kernel_rfl) (by kernel_rfl);have tO:=Tryz.Cc;have tO2:=Tryz.Ce;have mA:=Tryz.iP;have mU:=Tryz.pD;have aS:=Tryz.Cf;have aR:=Tryz.Cg;have vR:=Tryz.zo;have f6:=Tryz.zm;have f7:=Tryz.LJ;have mK:=Tryz.tA;have mE:=Tryz.tB;have mI:=Tryz.jX;have k27:=Tryz.LK;have k25:=Tryz.LL;have e27:=Tryz.LM;have i25:=Tryz.qR;have t164:=Tryz.LN;have t167:=Tryz.LO;unfold lI at hg;unfold eI at hs;have n8:=Tryz.Gw ⟨w.heap.size,0,none⟩ t ((w.alloc (.cells #[.pointer (some t)] 163)).alloc (.cells #[.pointer (some ⟨6,163,none⟩),.pointer (some ⟨w.heap.size,0,none⟩),.int .u64 150] 227)) (by simp);have hlt:0<w.heap.size:=World.block_lt_of_cell? _ _ hg;have hg2:((w.alloc (.cells #[.pointer (some t)] 163)).alloc (.cells #[.pointer (some ⟨6,163,none⟩),.pointer (some ⟨w.heap.size,0,none⟩),.int .u64 150] 227)).cell? ⟨0,0,none⟩=some (.iface 274 (.agg #[.pointer (some ⟨6,94,none⟩)])):=by
  rw [World.cell?_alloc_lt _ _ ⟨0,0,none⟩ (show 0<(w.alloc _).heap.size by rw [size_alloc];omega),World.cell?_alloc_lt _ _ ⟨0,0,none⟩ hlt];exact hg
 have lA:t.block<w.heap.size:=by
  rcases Nat.lt_or_ge t.block w.heap.size with h|h
  ·exact h
  ·simp [World.cell?,Array.getElem?_eq_none h] at ht0
 have OL:=ax hs;have el:=Tryz.Gx ⟨w.heap.size,0,none⟩ t (((w.alloc (.cells #[.pointer (some t)] 163)).alloc (.cells #[.pointer (some ⟨6,163,none⟩),.pointer (some ⟨w.heap.size,0,none⟩),.int .u64 150] 227)).alloc (.cells #[.pointer (some ⟨6,163,none⟩),.pointer (some ⟨w.heap.size,0,none⟩),.int .u64 150] 227)) (by rw [World.cell?_alloc_lt _ _ ⟨w.heap.size,0,none⟩ (by simp;omega)];simp);have sc:(((w.alloc (.cells #[.pointer (some t)] 163)).alloc (.cells #[.pointer (some ⟨6,163,none⟩),.pointer (some ⟨w.heap.size,0,none⟩),.int .u64 150] 227)).alloc (.cells #[.pointer (some ⟨6,163,none⟩),.pointer (some ⟨w.heap.size,0,none⟩),.int .u64 150] 227)).cell? ⟨s,1,none⟩=some (.iface 161 (.int .i64 k)):=by
  rw [World.cell?_alloc_lt _ _ ⟨s,1,none⟩ (by simp;omega),World.cell?_alloc_lt _ _ ⟨s,1,none⟩ (by simp;omega),World.cell?_alloc_lt _ _ ⟨s,1,none⟩ OL];exact cell_of_row _ _ 1 _ _ _ hs
 have st:=Tryz.Tj t ⟨w.heap.size+1+1+1,0,none⟩ k old ((((w.alloc (.cells #[.pointer (some t)] 163)).alloc (.cells #[.pointer (some ⟨6,163,none⟩),.pointer (some ⟨w.heap.size,0,none⟩),.int .u64 150] 227)).alloc (.cells #[.pointer (some ⟨6,163,none⟩),.pointer (some ⟨w.heap.size,0,none⟩),.int .u64 150] 227)).alloc (.cells #[.int .i64 k] 161))
  (by rw [World.cell?_alloc_at _ _ _ _ (by simp)];rfl)
  (by rw [World.cell?_alloc_lt _ _ t (by simp;omega),World.cell?_alloc_lt _ _ t (by simp;omega),World.cell?_alloc_lt _ _ t (by simp;omega),World.cell?_alloc_lt _ _ t lA];exact ht0)
  (by rw [World.frozen?_alloc_old _ _ t (by simp;omega),World.frozen?_alloc_old _ _ t (by simp;omega),World.frozen?_alloc_old _ _ t (by simp;omega),World.frozen?_alloc_old _ _ t (Nat.ne_of_lt lA)];exact Tk)
 clear hs hg;go_enter Tryz.func95,Tryz.ntmps95;go_wp2;refine wp_loop_rounds 2 ?_;rw [rounds_succ];go_wp2;rw [rounds_succ];go_wp2;go_ret;exact ⟨rfl,_,_,_,_,rfl⟩
open Go.RowKit
theorem Xz (w:World):Calls Tryz.prog 51 #[.nilIface] w fun e w'=>e = .returned (.int .i64 0)/\Below w.heap.size w w':=by
 have HA:=aa (fun t w'=>Quf t w');go_enter Tryz.func51,Tryz.ntmps51;go_wp2_with fail;refine (HA.out _ _).mono ?_;rintro _ w1 ⟨rfl,rfl⟩;dsimp only;go_wp2_with fail;go_ret;exact ⟨rfl,(Below.refl _ _).alloc (Nat.le_refl _) _⟩
def o7 (w:World) (v:Value) (k:Int):Prop:=∃ s nm,v = .iface 165 (.pointer (some ⟨s,0,none⟩))/\w.heap[s]? = some (.cells #[.string nm,eI k] 167 (0,0))
theorem XA (v:Value) (k:Int) (w:World) (hv:o7 w v k) (hg:w.cell? ⟨0,0,none⟩=some lI):Calls Tryz.prog 51 #[v] w fun e w'=>e = .returned (.int .i64 k)/\Below w.heap.size w w':=by
 obtain ⟨s,nm,rfl,hs⟩:=hv;have hb0:Below w.heap.size w (w.alloc (.cells #[.int .i64 0] 161)):=(Below.refl _ _).alloc (Nat.le_refl _) _;have hg1:=cell_later hb0 hg;have hs1:=(hb0.block s (ax hs)).trans hs;have HA:=aa (QsC s nm k ⟨w.heap.size,0,none⟩ (.int .i64 0) (w.alloc (.cells #[.int .i64 0] 161)) hg1 hs1 (by simp) (by simp));have HB:=aa hb0;clear hb0 hg1 hs1 hs hg;go_enter Tryz.func51,Tryz.ntmps51;go_wp2_with fail;refine (HA.out).mono ?_;rintro _ w1 ⟨rfl,o1,o2,o3,o4,hw⟩;have hb1:Below w.heap.size w w1:=by
  rw [hw];exact (((((HB.out.alloc (by rw [size_alloc];omega) o1).alloc (by simp;omega) o2).alloc (by simp;omega) o3).alloc (by simp;omega) o4).setCell (by simp) _)
 have c0:w1.cell? ⟨w.heap.size,0,none⟩=some (.int .i64 k):=by
  rw [hw];have hh:(((((w.alloc (.cells #[.int .i64 0] 161)).alloc o1).alloc o2).alloc o3).alloc o4).heap[w.heap.size]? = some (.cells #[.int .i64 0] 161 (0,0)):=by
   rw [Below.heap_alloc _ _ _ (by simp;omega),Below.heap_alloc _ _ _ (by simp;omega),Below.heap_alloc _ _ _ (by simp;omega),Below.heap_alloc _ _ _ (by simp)];exact heap_alloc_new _ _
  rw [cell_of_row _ _ 0 _ _ _ (heap_setCell_same _ _ 0 _ _ _ hh)];rfl
 clear hw;dsimp only;have br:=aa hb1;clear hb1;go_wp2_with fail;go_ret;exact ⟨rfl,br.out⟩
open Go.RowKit
structure bH (w:World) (b:Nat) (R:dz) (mb lb:Nat) (cv:Value):Prop where
 blk:w.heap[b]? = some (.cells #[.int .i64 R.room,.map (some mb),.map (some lb),cv,.int .i64 R.count,.int .i64 R.left] 150 (0,0))
 now:PM Tryz.prog 9 w mb R.now
 safe:PM Tryz.prog 9 w lb R.safe
 apart:mb≠lb
 aw:w.ownsRow 0 214 3 cv R.aw.length (R.aw.flatMap CH.cells)
theorem bH.later {w w':World} {b mb lb:Nat} {R:dz} {cv:Value} (h:bH w b R mb lb cv) (hb:Below w.heap.size w w'):bH w' b R mb lb cv :=
 ⟨(hb.block b (eB h.blk)).trans h.blk,h.now.later (hb.block mb h.now.lt),h.safe.later (hb.block lb h.safe.lt),h.apart,gA h.aw hb⟩
theorem Z7 (s:ByteArray) (w:World) (hs:s.size<=9223372036854775807):Calls Tryz.prog 163 #[.string s] w fun e w'=>e = .returned (.bool (!aK s))/\w'=w:=by
 unfold aK;go_enter Tryz.func163,Tryz.ntmps163
 by_cases h0:s=⟨#[]⟩
 ·subst h0;go_wp2;go_ret;exact ⟨rfl,rfl⟩
 ·have e0:=toList_empty s h0;have h1:1<=s.size:=by
   rcases Nat.eq_zero_or_pos s.size with h|h
   ·exact absurd (ByteArray.ext (Array.eq_empty_of_size_eq_zero h)) h0
   ·exact h
  by_cases h2:s.size<=80
  ·have e2:decide ((80:Int)<(s.size:Int))=false:=by simp;omega
   go_wp2;go_ret;simp [h1,h2]
  ·have e2:(80:Int)<(s.size:Int):=by omega
   go_wp2;go_ret;simp [h2]
theorem Tryz.sZ (w:World):(zeroValue 152).run Tryz.prog w = .ok (.pointer none) w:=by kernel_rfl
theorem Pa (b:Nat) (R:dz) (mb lb:Nat) (cv:Value) (p:ByteArray) (w:World) (h:bH w b R mb lb cv) (hp:p.size<=9223372036854775807) :
  Calls Tryz.prog 108 #[.pointer (some ⟨b,0,none⟩),.string p] w fun e w'=>w'=w /\
   e = .returned (if aK p=true then (match aO p R.now with|none=>.tuple #[.pointer none,eI 3]|some nb=>.tuple #[.pointer (some ⟨nb,0,none⟩),.nilIface]) else .tuple #[.pointer none,eI 2]):=by
 have c1:w.cell? ⟨b,1,none⟩=some (.map (some mb)):=cell_of_row _ _ 1 _ _ _ h.blk;have HP:=aa (Z7 p w hp);have hlk:=h.now.look (t:=147) Tryz.underlying9 Tryz.underlying147 (Tryz.sZ w) p hp;clear h;unfold eI;generalize aK p=bp at HP ⊢;generalize aO p R.now=fo at hlk ⊢
 cases bp with
 | false =>
  simp only [Bool.false_eq_true,if_false];go_enter Tryz.func108,Tryz.ntmps108;go_wp2_with fail;refine (HP.out).mono ?_;rintro _ w1 ⟨rfl,hw⟩;subst hw;dsimp only;go_wp2_with fail;refine bodyPost_ret (results_tmp2 rfl _ _ _) rfl ?_;exact ⟨rfl,rfl⟩
 | true =>
  simp only [if_true]
  cases fo with
  | none =>
   dsimp only [Dz] at hlk ⊢;go_enter Tryz.func108,Tryz.ntmps108;go_wp2_with fail;refine (HP.out).mono ?_;rintro _ w1 ⟨rfl,hw⟩;subst hw;dsimp only;go_wp2_with fail;refine bodyPost_ret (results_tmp2 rfl _ _ _) rfl ?_;exact ⟨rfl,rfl⟩
  | some nb =>
   dsimp only [Dz] at hlk ⊢;go_enter Tryz.func108,Tryz.ntmps108;go_wp2_with fail;refine (HP.out).mono ?_;rintro _ w1 ⟨rfl,hw⟩;subst hw;dsimp only;go_wp2_with fail;refine bodyPost_ret (results_tmp2 rfl _ _ _) rfl ?_;exact ⟨rfl,rfl⟩
theorem Z8 (w:World):PM Tryz.prog 9 (w.alloc (.map #[] 0)) w.heap.size []:=World.ownsMap_made w _ _ _
theorem Z9 (r:Int) (w:World):bH (((w.alloc (.map #[] 0)).alloc (.map #[] 0)).alloc (.cells #[.int .i64 r,.map (some w.heap.size),.map (some (w.heap.size+1)),.slice none 0 0,.int .i64 0,.int .i64 (-1)] 150)) (w.heap.size+1+1) ⟨r,[],[],[],0, -1⟩ w.heap.size (w.heap.size+1) (.slice none 0 0):=by
 have s1:(w.alloc (.map #[] 0)).heap.size=w.heap.size+1:=size_alloc _ _;have s2:((w.alloc (.map #[] 0)).alloc (.map #[] 0)).heap.size=w.heap.size+1+1:=by rw [size_alloc,s1]
 have m1:=Z8 w;have m2:=Z8 (w.alloc (.map #[] 0));rw [s1] at m2;refine ⟨?_,?_,?_,by omega,World.ownsRow_nil _ _ _ _⟩
 ·rw [<- s2];exact heap_alloc_new _ _
 ·exact (m1.later (w':=(w.alloc (.map #[] 0)).alloc (.map #[] 0)) (Below.heap_alloc _ _ _ (by omega))).later (Below.heap_alloc _ _ _ (by omega))
 ·exact m2.later (Below.heap_alloc _ _ _ (by omega))
theorem Al (w:World) (o1 o2 o3:Obj):Below w.heap.size w (((w.alloc o1).alloc o2).alloc o3) :=
 (((Below.refl _ _).alloc (Nat.le_refl _) o1).alloc (by rw [size_alloc];omega) o2).alloc (by rw [size_alloc,size_alloc];omega) o3
theorem ZK (room:Int) (w:World) :
  Calls Tryz.prog 56 #[.int .i64 room] w fun e w'=>e = .returned (.pointer (some ⟨w.heap.size+1+1,0,none⟩))/\Below w.heap.size w w'/\bH w' (w.heap.size+1+1) ⟨if room<0 then 0 else room,[],[],[],0, -1⟩ w.heap.size (w.heap.size+1) (.slice none 0 0)/\w'.heap.size=w.heap.size+1+1+1:=by
 have sR:=fun w=>run_makeMap (P:=Tryz.prog) 147 w
 by_cases hr:room<0
 ·rw [if_pos hr];go_enter Tryz.func56,Tryz.ntmps56;go_wp2_with fail;go_ret;exact ⟨rfl,Al _ _ _ _,Z9 0 w,by simp⟩
 ·rw [if_neg hr];have hr2:decide (room<0)=false:=decide_eq_false hr;go_enter Tryz.func56,Tryz.ntmps56;go_wp2_with fail;go_ret;exact ⟨rfl,Al _ _ _ _,Z9 room w,by simp⟩
def vU (n most:Int):Int:=min (max n 0) most
theorem ZZ (n most:Int) (w:World) :
  Calls Tryz.prog 86 #[.int .i64 n,.int .i64 most] w fun e w'=>w'=w/\e = .returned (.int .i64 (vU n most)):=by
 unfold vU
 by_cases h1:n<0
 ·by_cases h2:0<most
  ·go_enter Tryz.func86,Tryz.ntmps86;go_wp2_with fail
   all_goals go_ret
   all_goals refine ⟨rfl,?_⟩
   all_goals simp
   all_goals omega
  ·go_enter Tryz.func86,Tryz.ntmps86;go_wp2_with fail
   all_goals go_ret
   all_goals refine ⟨rfl,?_⟩
   all_goals simp
   all_goals omega
 ·by_cases h2:n<most
  ·go_enter Tryz.func86,Tryz.ntmps86;go_wp2_with fail
   all_goals go_ret
   all_goals refine ⟨rfl,?_⟩
   all_goals simp
   all_goals omega
  ·go_enter Tryz.func86,Tryz.ntmps86;go_wp2_with fail
   all_goals go_ret
   all_goals refine ⟨rfl,?_⟩
   all_goals simp
   all_goals omega
end Go.Proofs.YtncigfibncmioaaGreatDoor
