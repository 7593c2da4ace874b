/-
  PROVED HERE: blobskeep.Steady holds, as the given card's second form says it: an Open of a disk at rest takes no more than 12 steps, one behind any crash in the midst of any call no more than 12 and 4 for each file, and the second Open leaves what it finds; conditions: what it reads is of bulk at most 1048576, and the package variables that the row lists read as the program's own text lays them (the card ties it).
-/
import Derived.Test.YtncigfibncmioaaGreatDoorSyLaw
import Derived.Test.YtncigfibncmioaaGreatDoorCards
import Derived.Test.YtncigfibncmioaaGreatDoorTie
import Derived.ProofKit
import Derived.OpenShut
import Derived.SizedLaws
import Derived.Deep.DeepHandedRow
import Derived.Deep.Strs
import Derived.Lib.LaidTab
import Derived.Carry
import Derived.LaidHandle
import Derived.Stop.LaidErr
namespace Go.Proofs.YtncigfibncmioaaGreatDoor.steady
set_option maxHeartbeats 4000000
set_option maxRecDepth 100000
open Go.ChangeShapes Go.WideShapes Go.ChangeAt Go.RowKit Go.Deep
open Go.WideMaps Go.WideElems
theorem own:ownKnob Tryz.prog.godebug=none:=by kernel_rfl
theorem cellsF:Tryz.prog.cellsOf 31=3:=by kernel_rfl
theorem cells3:Tryz.prog.cellsOf 3=1:=by kernel_rfl
theorem cellsG:Tryz.prog.cellsOf 50=3:=by kernel_rfl
theorem cellsL:Tryz.prog.cellsOf 37=1:=by kernel_rfl
theorem gPowType:(Tryz.prog.globals[3]?).map (·.type)=some 347:=by kernel_rfl
theorem cells125:Tryz.prog.cellsOf 347=20:=by kernel_rfl
theorem cells92:Tryz.prog.cellsOf 251=1:=by kernel_rfl
theorem gTab:Tryz.prog.globalNamed "blobs/digest.cubeRoots" = some 1:=by kernel_rfl
theorem gTabType:(Tryz.prog.globals[1]?).map (·.type)=some 293:=by kernel_rfl
theorem cells107:Tryz.prog.cellsOf 293=64:=by kernel_rfl
theorem cells56:Tryz.prog.cellsOf 102=1:=by kernel_rfl
theorem laidOut:laidOutB Tryz.prog=true:=by kernel_rfl
theorem gErr:Tryz.prog.globalNamed "errors.errorType" = some 0:=by kernel_rfl
theorem rTy:(Tryz.prog.cutTypes.find? (·.1 == "internal/reflectlite.rtype")).map (·.2)=some 274:=by kernel_rfl
theorem oneRow:((List.range Tryz.prog.types.size).filter fun t=>Tryz.prog.rowNamed t [101,114,114,111,114]) = [94]:=by kernel_rfl
def zs:List Int:=[1116352408,1899447441,3049323471,3921009573,961987163,1508970993,2453635748,2870763221,3624381080,310598401,607225278,1426881987,1925078388,2162078206,2614888103,3248222580,3835390401,4022224774,264347078,604807628,770255983,1249150122,1555081692,1996064986,2554220882,2821834349,2952996808,3210313671,3336571891,3584528711,113926993,338241895,666307205,773529912,1294757372,1396182291,1695183700,1986661051,2177026350,2456956037,2730485921,2820302411,3259730800,3345764771,3516065817,3600352804,4094571909,275423344,430227734,506948616,659060556,883997877,958139571,1322822218,1537002063,1747873779,1955562222,2024104815,2227730452,2361852424,2428436474,2756734187,3204031479,3329325298]
theorem zs_len:zs.length=64:=by decide
theorem zs_k:zs=Sha.kTab.map (fun n=>((n:Nat):Int)):=by decide +kernel
theorem parts {W:World} (h:laidMetH Tryz.prog Rows.steadyUptoRow.laid W):laidMet Tryz.prog [("math/bits.deBruijn32tab",Rows.laid_math_bits_deBruijn32tab),("math/bits.deBruijn64tab",Rows.laid_math_bits_deBruijn64tab),("internal/strconv.uint64pow10",Rows.laid_internal_strconv_uint64pow10),("blobs/digest.cubeRoots",Rows.laid_blobs_digest_cubeRoots)] W∧handlesMet Tryz.prog [("errors.errorType",Rows.laid_errors_errorType)] W:=h
theorem tablePow {W:World} (h:laidMetH Tryz.prog Rows.steadyUptoRow.laid W):Lib.TabIs Tryz.prog W "internal/strconv.uint64pow10" .u64 Lib.pow10Tab :=
 Lib.tabIs_of_head gPow gPowType Tryz.underlying347 Tryz.underlying251 cells92 cells125 (laidMet.tail (laidMet.tail (parts h).1))
theorem tableK {W:World} (h:laidMetH Tryz.prog Rows.steadyUptoRow.laid W):Lib.TabIs Tryz.prog W "blobs/digest.cubeRoots" .u32 zs :=
 Lib.tabIs_of_head (rest:=[]) gTab gTabType Tryz.underlying293 Tryz.underlying102 cells56 cells107 (laidMet.tail (laidMet.tail (laidMet.tail (parts h).1)))
theorem hasK {W:World} (h:laidMetH Tryz.prog Rows.steadyUptoRow.laid W):HasK W:=by
 have hk:∀ i,i<64→W.cell? ⟨1,i,none⟩=some (.int .u32 ((Sha.kTab.getD i 0:Nat):Int)):=fun i hi=>by
  have hl:Sha.kTab.length=64:=by decide
  have c:=(tableK h).cell gTab i (by rw [zs_len];exact hi)
  rw [c,zs_k]
  simp [List.getD_eq_getElem?_getD,hl,hi]
 exact ⟨block_lt_of_cell (hk 0 (by omega)),hk⟩
theorem errCell {W:World} (h:laidMetH Tryz.prog Rows.steadyUptoRow.laid W):W.cell? ⟨0,0,none⟩=some errT:=by
 have h':=parts h
 obtain ⟨name,u,ty,e1,e2,e3,e4,e5⟩:=h'.2 _ (List.mem_singleton.2 rfl)
 have en:name = [101,114,114,111,114]:=(Option.some.inj e1).symm
 subst en
 obtain rfl:=Option.some.inj (rTy.symm.trans e2)
 have hm:ty∈(List.range Tryz.prog.types.size).filter fun t=>Tryz.prog.rowNamed t [101,114,114,111,114]:=List.mem_filter.2 ⟨List.mem_range.2 e3,e4⟩
 rw [oneRow] at hm
 obtain rfl:=List.mem_singleton.1 hm
 have hh:typeHandle Tryz.prog 94 = .pointer (some ⟨6,94,none⟩):=by kernel_rfl
 rw [hh] at e5
 have h9:=World.var?_cell gErr e5 0
 simpa [errT] using h9
theorem gl {W:World} (h:laidMetH Tryz.prog Rows.steadyUptoRow.laid W):Gl W:=⟨tablePow h,hasK h,errCell h⟩
theorem wf_range {n:Int} (h:(Lit.int .i64 n).wf=true) : -9223372036854775808≤n∧n≤9223372036854775807:=by
 simp [Lit.wf,IntKind.min,IntKind.max,IntKind.bits,IntKind.signed] at h
 omega
theorem bulk_pos {H:Type} (d:DataW H):1≤Rows.uptoBulk d:=by
 cases d with
 | lit l=>cases l<;>simp [Rows.uptoBulk]
 | _=>simp [Rows.uptoBulk]
instance:Inhabited StepV:=⟨step0⟩
theorem bulk_four {H:Type}:∀ l:List (DataW H),(∀ d∈l,4≤Rows.uptoBulk d)→4 * l.length≤Rows.uptoBulkAll l
 | [],_=>Nat.zero_le _
 | d::l,h=>by
  have h1:=h d (by simp)
  have h2:=bulk_four l (fun x hx=>h x (by simp [hx]))
  simp only [Rows.uptoBulkAll,List.length_cons]
  omega

theorem step_of {H:Type} {enc:TypeId × Value→H} {W:World} {n:Nat} {cs:List Value} {d:DataW H} {pl:List MemPlace} (h:DataW.trod enc Tryz.prog W 0 (fun _=>true) true n 31 cs=some (d,pl)) :
  ∃ f:StepV,cs=StepV.cells f∧f.ok∧4≤Rows.uptoBulk d:=by
 obtain ⟨xs,m,_,hx,hl,hlen,hf⟩:=DataW.trod_struct Tryz.underlying31 h
 rw [cellsF] at hl
 match cs,hl with
 | [v0,v1,v2],_ =>
  match xs,hlen with
  | [y0,y1,y2],_ =>
   have u0:DataW.trod enc Tryz.prog W 0 (fun _=>true) true m 3 (([v0,v1,v2].drop 0).take (Tryz.prog.cellsOf 3))=some y0:=hf 0 _ rfl
   have u1:DataW.trod enc Tryz.prog W 0 (fun _=>true) true m 3 (([v0,v1,v2].drop 1).take (Tryz.prog.cellsOf 3))=some y1:=hf 1 _ rfl
   have u2:DataW.trod enc Tryz.prog W 0 (fun _=>true) true m 3 (([v0,v1,v2].drop 2).take (Tryz.prog.cellsOf 3))=some y2:=hf 2 _ rfl
   simp only [cells3,List.drop_zero,List.drop_succ_cons,List.take_succ_cons,List.take_zero] at u0 u1 u2
   obtain ⟨z0,e0,_,w0⟩:=DataW.trod_int Tryz.underlying3 u0
   obtain ⟨z1,e1,_,w1⟩:=DataW.trod_int Tryz.underlying3 u1
   obtain ⟨z2,e2,_,w2⟩:=DataW.trod_int Tryz.underlying3 u2
   simp only [List.cons.injEq,and_true] at e0 e1 e2
   refine ⟨⟨z0,z1,z2⟩,by rw [e0,e1,e2];rfl,⟨wf_range w0,wf_range w1,wf_range w2⟩,?_⟩
   have hd:d = .agg ([y0,y1,y2].map (·.1)):=by
    injection hx
   rw [hd]
   have b0:=bulk_pos y0.1
   have b1:=bulk_pos y1.1
   have b2:=bulk_pos y2.1
   simp only [List.map_cons,List.map_nil,Rows.uptoBulk,Rows.uptoBulkAll]
   omega
instance:Inhabited FallV:=⟨fall0⟩
def FallV.cells (f:FallV):List Value:=[.int .i64 f.n,.int .i64 f.paths,f.kv]
theorem ints_at {H:Type} {enc:TypeId × Value→H} {W:World} {m:Nat} {v:Value} {y:DataW H × List MemPlace} (u:DataW.trod enc Tryz.prog W 0 (fun _=>true) true m 37 [v]=some y):∃ ks:List Int,KAt (fun k=>W.heap.size≤k) W v ks:=by
 rcases open_ints Tryz.underlying37 Tryz.underlying3 cells3 u with ⟨hcs0,hx6⟩|⟨a,len',cap',zs,hcs0,_,hl6,hm6,hlen6,hx6,hcell,hwf⟩
 ·simp only [List.cons.injEq,and_true] at hcs0
  exact ⟨[],none,0,hcs0,fun i hi=>by cases hi⟩
 ·simp only [List.cons.injEq,and_true] at hcs0
  have hle:len'≤zs.length:=by rw [hlen6];split<;>omega
  have hlk:(zs.take len').length=len':=by rw [List.length_take];omega
  refine ⟨zs.take len',some a,cap',by rw [hlk];exact hcs0,fun i hi=>?_⟩
  have hi':i<len':=by rw [hlk] at hi;exact hi
  have hc0:=hcell i (by omega)
  have hspot:a.spot=none:=by
   have:=World.cell?_spot (hcell 0 (by omega))
   simpa [Addr.add] using this
  obtain ⟨b,o,sp⟩:=a
  dsimp only at hspot
  subst hspot
  rw [Addr.add_mid] at hc0
  have e:(zs.take len').getD i 0=zs.getD i 0:=by simp [List.getD_eq_getElem?_getD,hi']
  exact ⟨b,o,rfl,Nat.not_le.2 (World.block_lt_of_cell? _ _ hc0),by rw [e];exact hc0⟩

theorem fall_of {H:Type} {enc:TypeId × Value→H} {W:World} {n:Nat} {cs:List Value} {d:DataW H} {pl:List MemPlace} (h:DataW.trod enc Tryz.prog W 0 (fun _=>true) true n 50 cs=some (d,pl)) :
  ∃ f:FallV,cs=FallV.cells f∧KAt (fun k=>W.heap.size≤k) W f.kv f.ks∧f.ok∧4≤Rows.uptoBulk d:=by
 obtain ⟨xs,m,_,hx,hl,hlen,hf⟩:=DataW.trod_struct Tryz.underlying50 h
 rw [cellsG] at hl
 match cs,hl with
 | [v0,v1,v2],_ =>
  match xs,hlen with
  | [y0,y1,y2],_ =>
   have u0:DataW.trod enc Tryz.prog W 0 (fun _=>true) true m 3 (([v0,v1,v2].drop 0).take (Tryz.prog.cellsOf 3))=some y0:=hf 0 _ rfl
   have u1:DataW.trod enc Tryz.prog W 0 (fun _=>true) true m 3 (([v0,v1,v2].drop 1).take (Tryz.prog.cellsOf 3))=some y1:=hf 1 _ rfl
   have u2:DataW.trod enc Tryz.prog W 0 (fun _=>true) true m 37 (([v0,v1,v2].drop 2).take (Tryz.prog.cellsOf 37))=some y2:=hf 2 _ rfl
   simp only [cells3,cellsL,List.drop_zero,List.drop_succ_cons,List.take_succ_cons,List.take_zero] at u0 u1 u2
   obtain ⟨z0,e0,_,w0⟩:=DataW.trod_int Tryz.underlying3 u0
   obtain ⟨z1,e1,_,w1⟩:=DataW.trod_int Tryz.underlying3 u1
   simp only [List.cons.injEq,and_true] at e0 e1
   obtain ⟨ks,hks⟩:=ints_at u2
   refine ⟨⟨z0,z1,v2,ks⟩,by rw [e0,e1];rfl,hks,wf_range w0,?_⟩
   have hd:d = .agg ([y0,y1,y2].map (·.1)):=by
    injection hx
   rw [hd]
   have b0:=bulk_pos y0.1
   have b1:=bulk_pos y1.1
   have b2:=bulk_pos y2.1
   simp only [List.map_cons,List.map_nil,Rows.uptoBulk,Rows.uptoBulkAll]
   omega

theorem contract (H:Type) (enc:TypeId × Value→H) (W:World) (base:Nat) (args:Array Value) (ds gs:List (DataW H)) (before:List MemPlace)
  (hval:∀ (j:Nat) t v,Tryz.f6.params[j]? = some t→args[j]? = some v→Value.okWide Tryz.prog W .any base t v)
  (hW:DataW.Whole enc Tryz.prog Tryz.f6.params.toList Rows.steadySpec.vars false W args.toList ds gs before)
  (hk:Rows.uptoSmall H (ds++gs)=true) (hL:laidMetH Tryz.prog Rows.steadyUptoRow.laid W) :
  Calls Tryz.prog 6 args W fun e W'=>∃ v,e = .returned v∧Rows.steadySpec.post enc Tryz.prog Tryz.f6 false true false false W args v W':=by
 have hbk:Rows.uptoBulkAll (ds++gs)≤1048576:=of_decide_eq_true hk
 have hW':=hW
 obtain ⟨p,q,hA0,hV,rfl,hfz,hnd⟩:=hW
 have hA:DataW.TrodAll enc Tryz.prog W 0 (fun _=>true) true Tryz.f6.params.toList args.toList ds p:=hA0
 rw [Tryz.params6] at hA hval
 obtain ⟨v0,vs0,d0,ds0,p0,q0,hargs,rfl,rfl,h0,r0⟩:=trodAll_cons hA
 obtain ⟨v1,vs1,d1,ds1,p1,q1,rfl,rfl,rfl,h1,r1⟩:=trodAll_cons r0
 obtain ⟨v2,vs2,d2,ds2,p2,q2,rfl,rfl,rfl,h2,r2⟩:=trodAll_cons r1
 obtain ⟨rfl,rfl,rfl⟩:=trodAll_nil r2
 obtain rfl:args = #[v0,v1,v2]:=by cases args;simp_all
 obtain ⟨rfl,rfl⟩:=trodVars_none hV
 obtain ⟨a0,len,cap,rfl⟩:=okWide_slice Tryz.underlying22 (hval 0 22 v0 rfl rfl)
 obtain ⟨cs1,rfl, -⟩:=okWide_struct Tryz.underlying31 (hval 1 31 v1 rfl rfl)
 obtain ⟨cs2,rfl, -⟩:=okWide_struct Tryz.underlying50 (hval 2 50 v2 rfl rfl)
 clear hA0
 simp only [List.append_nil] at hW'
 simp only [List.append_nil,Rows.uptoBulkAll,Nat.add_zero] at hbk
 have hlt:∀ x∈p0++(p1++p2),x.block<W.heap.size:=fun x hx=>hA.lt x (by simpa using hx)
 have kstep:∃ t:StepV,cs1 = #[.int .i64 t.k,.int .i64 t.n,.int .i64 t.b]∧t.ok:=by
  obtain ⟨fuel1,hf1⟩:=h1
  obtain ⟨t,ht,hok,_⟩:=step_of (cs:=cs1.toList) hf1
  exact ⟨t,Array.toList_inj.1 ht,hok⟩
 have kfall:∃ f:FallV,cs2 = #[.int .i64 f.n,.int .i64 f.paths,f.kv]∧KAt (fun k=>W.heap.size≤k) W f.kv f.ks∧f.ok:=by
  obtain ⟨fuel2,hf2⟩:=h2
  obtain ⟨f,hf,hka,hok,_⟩:=fall_of (cs:=cs2.toList) hf2
  exact ⟨f,Array.toList_inj.1 hf,hka,hok⟩
 have key:∃ fl:List StepV,fl.length=len∧StepsAt W.heap.size W a0 fl∧4 * len≤Rows.uptoBulk d0:=by
  obtain ⟨fuel0,hf⟩:=h0
  rcases open_slice Tryz.underlying22 hf with ⟨hcs0,hx⟩|⟨a,len',cap',m,fu,Dd,Pl,hcs0,_,hl,hm,hmm,hx,hel⟩
  ·simp [Value.cells] at hcs0
   obtain ⟨rfl,rfl,rfl⟩:=hcs0
   exact ⟨[],rfl,fun i hi=>by simp at hi,Nat.zero_le _⟩
  ·simp [Value.cells] at hcs0
   obtain ⟨rfl,rfl,rfl⟩:=hcs0
   simp only [Prod.mk.injEq] at hx
   obtain ⟨rfl,_⟩:=hx
   have hlm:len≤m:=by rw [hmm];simp;omega
   have hbl:=bulk_four ((List.range len).map Dd) (fun d hd=>by
    obtain ⟨i,hi,rfl⟩:=List.mem_map.1 hd
    rw [List.mem_range] at hi
    obtain ⟨cs',h1,h2⟩:=hel i (by omega)
    obtain ⟨_,_,_,h5⟩:=step_of h2
    exact h5)
   rw [List.length_map,List.length_range] at hbl
   obtain ⟨T,hT⟩:=choose_lt (α:=StepV) (n:=len) (p:=fun i t=>W.cells? 0 (a.add (i * 3)) 3=some (StepV.cells t)∧t.ok) (fun i hi=>by
    obtain ⟨cs',h1,h2⟩:=hel i (by omega)
    rw [cellsF] at h1
    obtain ⟨t,rfl,h3,_⟩:=step_of h2
    exact ⟨t,h1,h3⟩)
   refine ⟨(List.range len).map T,by simp,?_,by simp only [Rows.uptoBulk];omega⟩
   intro i hi
   have hi':i<len:=by simpa using hi
   have e:((List.range len).map T).getD i step0=T i:=by simp [List.getD_eq_getElem?_getD,hi']
   have hc:=World.cells?_some (hT 0 (by omega)).1
   have hspot:a.spot=none:=by
    have:=hc.2.2 0 (by omega)
    simpa [Addr.add] using World.cell?_spot this
   obtain ⟨b,o,sp⟩:=a
   dsimp only at hspot
   subst hspot
   rw [e]
   have hci:=World.cells?_some (hT i hi').1
   have k0:=hci.2.2 0 (by omega)
   have k1:=hci.2.2 1 (by omega)
   have k2:=hci.2.2 2 (by omega)
   rw [Addr.add_mid,Addr.add_mid] at k0 k1 k2
   refine ⟨b,o,rfl,World.block_lt_of_cell? _ _ k0,fun j v hj=>?_,(hT i hi').2⟩
   match j with
   | 0=>cases hj;exact k0
   | 1=>cases hj;exact k1
   | 2=>cases hj;exact k2
   | j+3=>cases hj
 obtain ⟨fl,hl,hO,hB⟩:=key
 obtain ⟨t,ht,hok⟩:=kstep
 obtain ⟨f,hf,hks,hfo⟩:=kfall
 subst hl
 subst ht
 subst hf
 refine (steady_any W a0 cap fl t.k t.n t.b f.n f.paths f.kv f.ks (gl hL) hO hok.1 hok.2.1 hok.2.2 hks hfo (by omega)).mono fun e W' ⟨he,hg⟩=>?_
 subst he
 refine ⟨_,rfl,_,_,_,[],p0++(p1++p2),[],hW',?_,?_,rfl,hg.frame _,fun h=>by cases h⟩
 ·exact trodAll_cons_mk (shut_bool Tryz.underlying4 _) trodAll_mk0
 ·have h9:=trodAll_cons_mk (hg.trod laidOut (by kernel_rfl) (of_decide_eq_true (by kernel_rfl)) h0 (fun x hx=>hlt x (by simp [hx]))) (trodAll_cons_mk (hg.trod laidOut (by kernel_rfl) (of_decide_eq_true (by kernel_rfl)) h1 (fun x hx=>hlt x (by simp [hx]))) (trodAll_cons_mk (hg.trod laidOut (by kernel_rfl) (of_decide_eq_true (by kernel_rfl)) h2 (fun x hx=>hlt x (by simp [hx]))) trodAll_mk0))
  simp only [List.append_nil] at h9
  exact h9
noncomputable def laidWorld (os:Os):World :=
 { World.holding Tryz.prog os ⟨#[],#[],[]⟩ with heap:=((((((World.holding Tryz.prog os ⟨#[],#[],[]⟩).heap.modify 3 fun|.cells _ t frozen=>.cells #[.int .u64 1,.int .u64 10,.int .u64 100,.int .u64 1000,.int .u64 10000,.int .u64 100000,.int .u64 1000000,.int .u64 10000000,.int .u64 100000000,.int .u64 1000000000,.int .u64 10000000000,.int .u64 100000000000,.int .u64 1000000000000,.int .u64 10000000000000,.int .u64 100000000000000,.int .u64 1000000000000000,.int .u64 10000000000000000,.int .u64 100000000000000000,.int .u64 1000000000000000000,.int .u64 10000000000000000000] t frozen|o=>o).modify 4 fun|.cells _ t frozen=>.cells #[.int .u8 0,.int .u8 1,.int .u8 28,.int .u8 2,.int .u8 29,.int .u8 14,.int .u8 24,.int .u8 3,.int .u8 30,.int .u8 22,.int .u8 20,.int .u8 15,.int .u8 25,.int .u8 17,.int .u8 4,.int .u8 8,.int .u8 31,.int .u8 27,.int .u8 13,.int .u8 23,.int .u8 21,.int .u8 19,.int .u8 16,.int .u8 7,.int .u8 26,.int .u8 12,.int .u8 18,.int .u8 6,.int .u8 11,.int .u8 5,.int .u8 10,.int .u8 9] t frozen|o=>o).modify 5 fun|.cells _ t frozen=>.cells #[.int .u8 0,.int .u8 1,.int .u8 56,.int .u8 2,.int .u8 57,.int .u8 49,.int .u8 28,.int .u8 3,.int .u8 61,.int .u8 58,.int .u8 42,.int .u8 50,.int .u8 38,.int .u8 29,.int .u8 17,.int .u8 4,.int .u8 62,.int .u8 47,.int .u8 59,.int .u8 36,.int .u8 45,.int .u8 43,.int .u8 51,.int .u8 22,.int .u8 53,.int .u8 39,.int .u8 33,.int .u8 30,.int .u8 24,.int .u8 18,.int .u8 12,.int .u8 5,.int .u8 63,.int .u8 55,.int .u8 48,.int .u8 27,.int .u8 60,.int .u8 41,.int .u8 37,.int .u8 16,.int .u8 46,.int .u8 35,.int .u8 44,.int .u8 21,.int .u8 52,.int .u8 32,.int .u8 23,.int .u8 11,.int .u8 54,.int .u8 26,.int .u8 40,.int .u8 15,.int .u8 34,.int .u8 20,.int .u8 31,.int .u8 10,.int .u8 25,.int .u8 14,.int .u8 19,.int .u8 9,.int .u8 13,.int .u8 8,.int .u8 7,.int .u8 6] t frozen|o=>o).modify 1 fun|.cells _ t frozen=>.cells #[.int .u32 1116352408,.int .u32 1899447441,.int .u32 3049323471,.int .u32 3921009573,.int .u32 961987163,.int .u32 1508970993,.int .u32 2453635748,.int .u32 2870763221,.int .u32 3624381080,.int .u32 310598401,.int .u32 607225278,.int .u32 1426881987,.int .u32 1925078388,.int .u32 2162078206,.int .u32 2614888103,.int .u32 3248222580,.int .u32 3835390401,.int .u32 4022224774,.int .u32 264347078,.int .u32 604807628,.int .u32 770255983,.int .u32 1249150122,.int .u32 1555081692,.int .u32 1996064986,.int .u32 2554220882,.int .u32 2821834349,.int .u32 2952996808,.int .u32 3210313671,.int .u32 3336571891,.int .u32 3584528711,.int .u32 113926993,.int .u32 338241895,.int .u32 666307205,.int .u32 773529912,.int .u32 1294757372,.int .u32 1396182291,.int .u32 1695183700,.int .u32 1986661051,.int .u32 2177026350,.int .u32 2456956037,.int .u32 2730485921,.int .u32 2820302411,.int .u32 3259730800,.int .u32 3345764771,.int .u32 3516065817,.int .u32 3600352804,.int .u32 4094571909,.int .u32 275423344,.int .u32 430227734,.int .u32 506948616,.int .u32 659060556,.int .u32 883997877,.int .u32 958139571,.int .u32 1322822218,.int .u32 1537002063,.int .u32 1747873779,.int .u32 1955562222,.int .u32 2024104815,.int .u32 2227730452,.int .u32 2361852424,.int .u32 2428436474,.int .u32 2756734187,.int .u32 3204031479,.int .u32 3329325298] t frozen|o=>o).modify 0 fun|.cells _ t frozen=>.cells #[errT] t frozen|o=>o) }
theorem laid_met (os:Os):laidMetH Tryz.prog Rows.steadyUptoRow.laid ((laidWorld os).forCall (fun _ _=>0) ⟨#[],#[.slice none 0 0,.agg #[.int .i64 0,.int .i64 0,.int .i64 0],.agg #[.int .i64 0,.int .i64 0,.slice none 0 0]],[]⟩).memory :=
 laidMetH_of_parts (laidMet_of_run' 8 (by kernel_rfl) (by kernel_rfl)) (by kernel_rfl)
theorem reads (os:Os) {H:Type} (enc:TypeId × Value→H):∃ places,DataW.whole enc Tryz.prog ((laidWorld os).forCall (fun _ _=>0) ⟨#[],#[.slice none 0 0,.agg #[.int .i64 0,.int .i64 0,.int .i64 0],.agg #[.int .i64 0,.int .i64 0,.slice none 0 0]],[]⟩).memory Tryz.f6.params.toList Rows.steadySpec.vars false #[Value.slice none 0 0,.agg #[.int .i64 0,.int .i64 0,.int .i64 0],.agg #[.int .i64 0,.int .i64 0,.slice none 0 0]].toList 8=some ([.nil,.agg [.lit (.int .i64 0),.lit (.int .i64 0),.lit (.int .i64 0)],.agg [.lit (.int .i64 0),.lit (.int .i64 0),.nil]],[],places) :=
 ⟨[],by kernel_rfl⟩
theorem lifted (os:Os) (started:os.Started) (H:Type) (enc:TypeId × Value→H) (F:Stop.Interp) :
  ReturnsInHanded {} Tryz.checked os 6 .any ((Rows.OpenSpec.upto Rows.steadySpec).preRow enc Tryz.prog Tryz.f6 Rows.steadyUptoRow.domain false Rows.steadyUptoRow.laid) (((Rows.OpenSpec.upto Rows.steadySpec).at F).post enc Tryz.prog Tryz.f6 false true false false):=by
 obtain ⟨places,hx⟩:=reads os enc
 refine returnsInHanded_of_row (C:=Tryz.checked) (s:=Rows.OpenSpec.upto Rows.steadySpec) own started (by kernel_rfl) Tryz.func6
  (witness_row_at (enc:=enc) (C:=Tryz.checked) false (laidWorld os) #[.slice none 0 0,.agg #[.int .i64 0,.int .i64 0,.int .i64 0],.agg #[.int .i64 0,.int .i64 0,.slice none 0 0]] rfl (by kernel_rfl) (by kernel_rfl) (by kernel_rfl)
   (OpenSpec.preRow_of_cond 8 hx (by kernel_rfl) (fun k hk=>by cases hk;kernel_rfl) (by kernel_rfl) (laid_met os))) ?_
 intro W base args ds gs before hval hW _ hcond _ hL _ _
 exact contract H enc W base args ds gs before hval hW (hcond _ rfl) hL
theorem said:Rows.SteadyUptoSaid :=
 OpenClaim.holds_of_cond 6 Tryz.f6 rfl rfl rfl rfl rfl rfl rfl ⟨rfl,rfl,rfl,rfl,rfl⟩ rfl rfl rfl rfl rfl (by as_aux_lemma=>kernel_rfl) Tryz.func6 (by as_aux_lemma=>kernel_rfl)
  (of_decide_eq_true (by as_aux_lemma=>kernel_rfl)) (by unfold Func.isWrapper;first|(rw [if_pos (by decide +kernel)];as_aux_lemma=>kernel_rfl)|(rw [if_neg (by decide +kernel)];exact ⟨rfl,rfl⟩))
  (fun os started H enc _ F=>by rw [OpenClaim.pre_eq_preRow];exact lifted os started H enc F)
theorem plain (f:FuncId) (fn:Func) (hf:Tryz.pinned.checked.prog.funcNamed "blobs/blobskeep.Steady" = some f) (hfn:Tryz.pinned.checked.prog.funcs[f]? = some fn) :
  true=Tryz.pinned.checked.prog.looks []∧∀ (j:Nat) t,fn.params[j]? = some t→Tryz.pinned.checked.prog.wantsStandIn t=false:=by
 obtain rfl:f=6:=Option.some.inj ((show Tryz.prog.funcNamed "blobs/blobskeep.Steady" = some 6 by kernel_rfl).symm.trans hf) |>.symm
 obtain rfl:fn=Tryz.f6:=(Option.some.inj (Tryz.func6.symm.trans hfn)).symm
 refine ⟨by kernel_rfl,fun j t ht=>?_⟩
 rw [Tryz.params6] at ht
 have hm:=Array.mem_of_getElem? ht
 simp only [List.mem_toArray,List.mem_cons,List.not_mem_nil,or_false] at hm
 rcases hm with rfl|rfl|rfl
 ·exact (show Tryz.prog.wantsStandIn 22=false by kernel_rfl)
 ·exact (show Tryz.prog.wantsStandIn 31=false by kernel_rfl)
 ·exact (show Tryz.prog.wantsStandIn 50=false by kernel_rfl)
end Go.Proofs.YtncigfibncmioaaGreatDoor.steady
namespace Go.Proofs.YtncigfibncmioaaGreatDoor
theorem steady_card:Rows.SteadyUptoCardSaid :=
 Claim7.holds_tied_plain_at .later [] _ _ _ _ steady.said (fun _ h=>by cases h) (by kernel_rfl) (fun _ h=>by cases h) steadyUpto_row_tie rfl ⟨rfl,rfl⟩ (by kernel_rfl) rfl steady.plain (by kernel_rfl)
end Go.Proofs.YtncigfibncmioaaGreatDoor
