/-
  PROVED HERE: blobskeep.Torn holds, as the given card's second form says it: a disk breaks in the midst of any call of a store, at any step, and crashes, whatever survives, and so again and again while it is opened; a store that is opened then has all of before or all of behind, its disk is at rest and outlasts a crash; with little room too; conditions: what it reads is of bulk at most 1048576, and the package variables that the row lists read as the program's own text lays them (the card ties it).
-/
import Derived.Test.YtncigfibncmioaaGreatDoorTnLaw
import Derived.Test.YtncigfibncmioaaGreatDoorCards
import Derived.Test.YtncigfibncmioaaGreatDoorTie
import Derived.ProofKit
import Derived.OpenShut
import Derived.Deep.DeepHandedRow
import Derived.Deep.Strs
import Derived.Stop.LaidErr
set_option maxHeartbeats 4000000
set_option maxRecDepth 100000
namespace Go.Proofs.YtncigfibncmioaaGreatDoor.torn
open Go.ChangeShapes Go.WideShapes Go.ChangeAt Go.RowKit Go.Deep
open Go.WideMaps Go.WideElems
theorem own:ownKnob Tryz.prog.godebug=none:=by kernel_rfl
theorem Qr9:Tryz.prog.cellsOf 31=3:=by kernel_rfl
theorem WC:Tryz.prog.cellsOf 3=1:=by kernel_rfl
theorem Qsa:Tryz.prog.cellsOf 50=3:=by kernel_rfl
theorem Qvm:Tryz.prog.cellsOf 37=1:=by kernel_rfl
theorem Qru:(Tryz.prog.globals[3]?).map (·.type)=some 347:=by kernel_rfl
theorem Qrv:Tryz.prog.cellsOf 347=20:=by kernel_rfl
theorem QtR:Tryz.prog.cellsOf 251=1:=by kernel_rfl
theorem N3:Tryz.prog.globalNamed "blobs/digest.cubeRoots" = some 1:=by kernel_rfl
theorem Qrw:(Tryz.prog.globals[1]?).map (·.type)=some 293:=by kernel_rfl
theorem Qrx:Tryz.prog.cellsOf 293=64:=by kernel_rfl
theorem QtS:Tryz.prog.cellsOf 102=1:=by kernel_rfl
theorem laidOut:laidOutB Tryz.prog=true:=by kernel_rfl
theorem WD:Tryz.prog.globalNamed "errors.errorType" = some 0:=by kernel_rfl
theorem rTy:(Tryz.prog.cutTypes.find? (·.1 == "internal/reflectlite.rtype")).map (·.2)=some 274:=by kernel_rfl
theorem Qvn:((List.range Tryz.prog.types.size).filter fun t=>Tryz.prog.rowNamed t [101,114,114,111,114]) = [94]:=by kernel_rfl
def zs:List Int:=[1116352408,1899447441,3049323471,3921009573,961987163,1508970993,2453635748,2870763221,3624381080,310598401,607225278,1426881987,1925078388,2162078206,2614888103,3248222580,3835390401,4022224774,264347078,604807628,770255983,1249150122,1555081692,1996064986,2554220882,2821834349,2952996808,3210313671,3336571891,3584528711,113926993,338241895,666307205,773529912,1294757372,1396182291,1695183700,1986661051,2177026350,2456956037,2730485921,2820302411,3259730800,3345764771,3516065817,3600352804,4094571909,275423344,430227734,506948616,659060556,883997877,958139571,1322822218,1537002063,1747873779,1955562222,2024104815,2227730452,2361852424,2428436474,2756734187,3204031479,3329325298]
theorem Qvo:zs.length=64:=by decide
theorem WE:zs=Sha.sg.map (fun n=>((n:Nat):Int)):=by decide +kernel
theorem parts {W:World} (h:laidMetH Tryz.prog Rows.tornUptoRow.laid W):laidMet Tryz.prog [("math/bits.deBruijn32tab",Rows.laid_math_bits_deBruijn32tab),("math/bits.deBruijn64tab",Rows.laid_math_bits_deBruijn64tab),("internal/strconv.uint64pow10",Rows.laid_internal_strconv_uint64pow10),("blobs/digest.cubeRoots",Rows.laid_blobs_digest_cubeRoots)] W/\handlesMet Tryz.prog [("errors.errorType",Rows.laid_errors_errorType)] W:=h
theorem Qry {W:World} (h:laidMetH Tryz.prog Rows.tornUptoRow.laid W):Lib.TabIs Tryz.prog W "internal/strconv.uint64pow10" .u64 Lib.pow10Tab :=
 Lib.tabIs_of_head px Qru Tryz.underlying347 Tryz.underlying251 QtR Qrv (laidMet.tail (laidMet.tail (parts h).1))
theorem Qvp {W:World} (h:laidMetH Tryz.prog Rows.tornUptoRow.laid W):Lib.TabIs Tryz.prog W "blobs/digest.cubeRoots" .u32 zs :=
 Lib.tabIs_of_head (rest:=[]) N3 Qrw Tryz.underlying293 Tryz.underlying102 QtS Qrx (laidMet.tail (laidMet.tail (laidMet.tail (parts h).1)))
theorem WG {W:World} (h:laidMetH Tryz.prog Rows.tornUptoRow.laid W):ic W:=by
 have hk:∀ i,i<64->W.cell? ⟨1,i,none⟩=some (.int .u32 ((Sha.sg.getD i 0:Nat):Int)):=fun i hi=>by
  have hl:Sha.sg.length=64:=by decide
  have c:=(Qvp h).cell N3 i (by rw [Qvo];exact hi);rw [c,WE];simp [List.getD_eq_getElem?_getD,hl,hi]
 exact ⟨block_lt_of_cell (hk 0 (by omega)),hk⟩
theorem QtT {W:World} (h:laidMetH Tryz.prog Rows.tornUptoRow.laid W):W.cell? ⟨0,0,none⟩=some lI:=by
 have h':=parts h;obtain ⟨name,u,ty,e1,e2,e3,e4,e5⟩:=h'.2 _ (List.mem_singleton.2 rfl);have en:name = [101,114,114,111,114]:=(Option.some.inj e1).symm;subst en;obtain rfl:=Option.some.inj (rTy.symm.trans e2);have hm:ty∈(List.range Tryz.prog.types.size).filter fun t=>Tryz.prog.rowNamed t [101,114,114,111,114]:=List.mem_filter.2 ⟨List.mem_range.2 e3,e4⟩
 rw [Qvn] at hm;obtain rfl:=List.mem_singleton.1 hm;have hh:typeHandle Tryz.prog 94 = .pointer (some ⟨6,94,none⟩):=by kernel_rfl
 rw [hh] at e5;have h9:=World.var?_cell WD e5 0;simpa [lI] using h9
theorem gl {W:World} (h:laidMetH Tryz.prog Rows.tornUptoRow.laid W):Gl W:=⟨Qry h,WG h,QtT h⟩
theorem N4 {n:Int} (h:(Lit.int .i64 n).wf=true) : -9223372036854775808<=n/\n<=9223372036854775807:=by
 simp [Lit.wf,IntKind.min,IntKind.max,IntKind.bits,IntKind.signed] at h;omega
theorem J5 {H:Type} (d:DataW H):1<=Rows.uptoBulk d:=by
 cases d with
 | lit l=>cases l<;>simp [Rows.uptoBulk]
 | _=>simp [Rows.uptoBulk]
instance:Inhabited eJ:=⟨Mc⟩
theorem WH {H:Type}:∀ l:List (DataW H),(∀ d∈l,4<=Rows.uptoBulk d)->4 * l.length<=Rows.uptoBulkAll l
 | [],_=>Nat.zero_le _
 | d::l,h=>by
  have h1:=h d (by simp);have h2:=WH l (fun x hx=>h x (by simp [hx]));simp only [Rows.uptoBulkAll,List.length_cons];omega
theorem WI {H:Type} {enc:TypeId × Value->H} {W:World} {n:Nat} {cs:List Value} {d:DataW H} {pl:List MemPlace} (h:DataW.trod enc Tryz.prog W 0 (fun _=>true) true n 31 cs=some (d,pl)) :
  ∃ f:eJ,cs=eJ.cells f/\f.ok/\4<=Rows.uptoBulk d:=by
 obtain ⟨xs,m,_,hx,hl,hlen,hf⟩:=DataW.trod_struct Tryz.underlying31 h;rw [Qr9] at hl
 match cs,hl with
 | [v0,v1,v2],_ =>
  match xs,hlen with
  | [y0,y1,y2],_ =>
   have u0:DataW.trod enc Tryz.prog W 0 (fun _=>true) true m 3 (([v0,v1,v2].drop 0).take (Tryz.prog.cellsOf 3))=some y0:=hf 0 _ rfl;have u1:DataW.trod enc Tryz.prog W 0 (fun _=>true) true m 3 (([v0,v1,v2].drop 1).take (Tryz.prog.cellsOf 3))=some y1:=hf 1 _ rfl;have u2:DataW.trod enc Tryz.prog W 0 (fun _=>true) true m 3 (([v0,v1,v2].drop 2).take (Tryz.prog.cellsOf 3))=some y2:=hf 2 _ rfl;simp only [WC,List.drop_zero,List.drop_succ_cons,List.take_succ_cons,List.take_zero] at u0 u1 u2;obtain ⟨z0,e0,_,w0⟩:=DataW.trod_int Tryz.underlying3 u0;obtain ⟨z1,e1,_,w1⟩:=DataW.trod_int Tryz.underlying3 u1;obtain ⟨z2,e2,_,w2⟩:=DataW.trod_int Tryz.underlying3 u2;simp only [List.cons.injEq,and_true] at e0 e1 e2;refine ⟨⟨z0,z1,z2⟩,by rw [e0,e1,e2];rfl,⟨N4 w0,N4 w1,N4 w2⟩,?_⟩;have hd:d = .agg ([y0,y1,y2].map (·.1)):=by
    injection hx
   rw [hd];have b0:=J5 y0.1;have b1:=J5 y1.1;have b2:=J5 y2.1;simp only [List.map_cons,List.map_nil,Rows.uptoBulk,Rows.uptoBulkAll];omega
instance:Inhabited dJ:=⟨BM⟩
def dJ.cells (f:dJ):List Value:=[.int .i64 f.n,.int .i64 f.paths,f.kv]
theorem ints_at {H:Type} {enc:TypeId × Value->H} {W:World} {m:Nat} {v:Value} {y:DataW H × List MemPlace} (u:DataW.trod enc Tryz.prog W 0 (fun _=>true) true m 37 [v]=some y):∃ ks:List Int,kh (fun k=>W.heap.size<=k) W v ks:=by
 rcases open_ints Tryz.underlying37 Tryz.underlying3 WC u with ⟨gO,hx6⟩|⟨a,len',cap',zs,gO,_,hl6,jc,N5,hx6,hcell,hwf⟩
 ·simp only [List.cons.injEq,and_true] at gO;exact ⟨[],none,0,gO,fun i hi=>by cases hi⟩
 ·simp only [List.cons.injEq,and_true] at gO;have hle:len'<=zs.length:=by rw [N5];split<;>omega
  have hlk:(zs.take len').length=len':=by rw [List.length_take];omega
  refine ⟨zs.take len',some a,cap',by rw [hlk];exact gO,fun i hi=>?_⟩;have hi':i<len':=by rw [hlk] at hi;exact hi
  have hc0:=hcell i (by omega);have hspot:a.spot=none:=by
   have:=World.cell?_spot (hcell 0 (by omega));simpa [Addr.add] using this
  obtain ⟨b,o,sp⟩:=a;dsimp only at hspot;subst hspot;rw [Addr.add_mid] at hc0;have e:(zs.take len').getD i 0=zs.getD i 0:=by simp [List.getD_eq_getElem?_getD,hi']
  exact ⟨b,o,rfl,Nat.not_le.2 (World.block_lt_of_cell? _ _ hc0),by rw [e];exact hc0⟩
theorem WJ {H:Type} {enc:TypeId × Value->H} {W:World} {n:Nat} {cs:List Value} {d:DataW H} {pl:List MemPlace} (h:DataW.trod enc Tryz.prog W 0 (fun _=>true) true n 50 cs=some (d,pl)) :
  ∃ f:dJ,cs=dJ.cells f/\kh (fun k=>W.heap.size<=k) W f.kv f.ks/\f.ok/\4<=Rows.uptoBulk d:=by
 obtain ⟨xs,m,_,hx,hl,hlen,hf⟩:=DataW.trod_struct Tryz.underlying50 h;rw [Qsa] at hl
 match cs,hl with
 | [v0,v1,v2],_ =>
  match xs,hlen with
  | [y0,y1,y2],_ =>
   have u0:DataW.trod enc Tryz.prog W 0 (fun _=>true) true m 3 (([v0,v1,v2].drop 0).take (Tryz.prog.cellsOf 3))=some y0:=hf 0 _ rfl;have u1:DataW.trod enc Tryz.prog W 0 (fun _=>true) true m 3 (([v0,v1,v2].drop 1).take (Tryz.prog.cellsOf 3))=some y1:=hf 1 _ rfl;have u2:DataW.trod enc Tryz.prog W 0 (fun _=>true) true m 37 (([v0,v1,v2].drop 2).take (Tryz.prog.cellsOf 37))=some y2:=hf 2 _ rfl;simp only [WC,Qvm,List.drop_zero,List.drop_succ_cons,List.take_succ_cons,List.take_zero] at u0 u1 u2;obtain ⟨z0,e0,_,w0⟩:=DataW.trod_int Tryz.underlying3 u0;obtain ⟨z1,e1,_,w1⟩:=DataW.trod_int Tryz.underlying3 u1;simp only [List.cons.injEq,and_true] at e0 e1;obtain ⟨ks,Lz⟩:=ints_at u2;refine ⟨⟨z0,z1,v2,ks⟩,by rw [e0,e1];rfl,Lz,N4 w0,?_⟩;have hd:d = .agg ([y0,y1,y2].map (·.1)):=by
    injection hx
   rw [hd];have b0:=J5 y0.1;have b1:=J5 y1.1;have b2:=J5 y2.1;simp only [List.map_cons,List.map_nil,Rows.uptoBulk,Rows.uptoBulkAll];omega
theorem Qrz (H:Type) (enc:TypeId × Value->H) (W:World) (base:Nat) (args:Array Value) (ds gs:List (DataW H)) (before:List MemPlace)
  (hval:∀ (j:Nat) t v,Tryz.f8.params[j]? = some t->args[j]? = some v->Value.okWide Tryz.prog W .any base t v)
  (hW:DataW.Whole enc Tryz.prog Tryz.f8.params.toList Rows.tornSpec.vars false W args.toList ds gs before)
  (hk:Rows.uptoSmall H (ds++gs)=true) (hL:laidMetH Tryz.prog Rows.tornUptoRow.laid W) :
  Calls Tryz.prog 8 args W fun e W'=>∃ v,e = .returned v/\Rows.tornSpec.post enc Tryz.prog Tryz.f8 false true false false W args v W':=by
 have tu:Rows.uptoBulkAll (ds++gs)<=1048576:=of_decide_eq_true hk;have hW':=hW;obtain ⟨p,q,hA0,hV,rfl,hfz,M4⟩:=hW;have hA:DataW.TrodAll enc Tryz.prog W 0 (fun _=>true) true Tryz.f8.params.toList args.toList ds p:=hA0;rw [Tryz.params8] at hA hval;obtain ⟨v0,vs0,d0,ds0,p0,q0,aac,rfl,rfl,h0,r0⟩:=trodAll_cons hA;obtain ⟨v1,vs1,d1,ds1,p1,q1,rfl,rfl,rfl,h1,r1⟩:=trodAll_cons r0;obtain ⟨v2,vs2,d2,ds2,p2,q2,rfl,rfl,rfl,h2,r2⟩:=trodAll_cons r1;obtain ⟨v3,vs3,d3,ds3,p3,q3,rfl,rfl,rfl,h3,r3⟩:=trodAll_cons r2;obtain ⟨v4,vs4,d4,ds4,p4,q4,rfl,rfl,rfl,h4,r4⟩:=trodAll_cons r3;obtain ⟨rfl,rfl,rfl⟩:=trodAll_nil r4;obtain rfl:args = #[v0,v1,v2,v3,v4]:=by cases args;simp_all
 obtain ⟨rfl,rfl⟩:=trodVars_none hV;obtain ⟨a0,len,cap,rfl⟩:=okWide_slice Tryz.underlying22 (hval 0 22 v0 rfl rfl);obtain ⟨cs1,rfl, -⟩:=okWide_struct Tryz.underlying31 (hval 1 31 v1 rfl rfl);obtain ⟨cs2,rfl, -⟩:=okWide_struct Tryz.underlying50 (hval 2 50 v2 rfl rfl);obtain ⟨a3,rH,FC,rfl⟩:=okWide_slice Tryz.underlying45 (hval 3 45 v3 rfl rfl);obtain ⟨z4,rfl,rfl,rfl,rO⟩:=open_int Tryz.underlying3 (hval 4 3 v4 rfl rfl) h4;clear hA0;simp only [List.append_nil] at hW';simp only [List.append_nil,Rows.uptoBulkAll,Nat.add_zero] at tu;have hlt:∀ x∈p0++(p1++(p2++p3)),x.block<W.heap.size:=fun x hx=>hA.lt x (by simpa using hx)
 have N6:∃ t:eJ,cs1 = #[.int .i64 t.k,.int .i64 t.n,.int .i64 t.b]/\t.ok:=by
  obtain ⟨aad,rE⟩:=h1;obtain ⟨t,ht,aF,_⟩:=WI (cs:=cs1.toList) rE;exact ⟨t,Array.toList_inj.1 ht,aF⟩
 have N7:∃ f:dJ,cs2 = #[.int .i64 f.n,.int .i64 f.paths,f.kv]/\kh (fun k=>W.heap.size<=k) W f.kv f.ks/\f.ok:=by
  obtain ⟨aae,hf2⟩:=h2;obtain ⟨f,hf,hka,aF,_⟩:=WJ (cs:=cs2.toList) hf2;exact ⟨f,Array.toList_inj.1 hf,hka,aF⟩
 have key:∃ fl:List eJ,fl.length=len/\jx W.heap.size W a0 fl/\4 * len<=Rows.uptoBulk d0:=by
  obtain ⟨N8,hf⟩:=h0
  rcases open_slice Tryz.underlying22 hf with ⟨gO,hx⟩|⟨a,len',cap',m,fu,Dd,Pl,gO,_,hl,hm,wz,hx,pU⟩
  ·simp [Value.cells] at gO;obtain ⟨rfl,rfl,rfl⟩:=gO;exact ⟨[],rfl,fun i hi=>by simp at hi,Nat.zero_le _⟩
  ·simp [Value.cells] at gO;obtain ⟨rfl,rfl,rfl⟩:=gO;simp only [Prod.mk.injEq] at hx;obtain ⟨rfl,_⟩:=hx;have vF:len<=m:=by rw [wz];simp;omega
   have hbl:=WH ((List.range len).map Dd) (fun d hd=>by
    obtain ⟨i,hi,rfl⟩:=List.mem_map.1 hd;rw [List.mem_range] at hi;obtain ⟨cs',h1,h2⟩:=pU i (by omega);obtain ⟨_,_,_,h5⟩:=WI h2;exact h5)
   rw [List.length_map,List.length_range] at hbl;obtain ⟨T,hT⟩:=choose_lt (α:=eJ) (n:=len) (p:=fun i t=>W.cells? 0 (a.add (i * 3)) 3=some (eJ.cells t)/\t.ok) (fun i hi=>by
    obtain ⟨cs',h1,h2⟩:=pU i (by omega);rw [Qr9] at h1;obtain ⟨t,rfl,h3,_⟩:=WI h2;exact ⟨t,h1,h3⟩)
   refine ⟨(List.range len).map T,by simp,?_,by simp only [Rows.uptoBulk];omega⟩;intro i hi;have hi':i<len:=by simpa using hi
   have e:((List.range len).map T).getD i Mc=T i:=by simp [List.getD_eq_getElem?_getD,hi']
   have hc:=World.cells?_some (hT 0 (by omega)).1;have hspot:a.spot=none:=by
    have:=hc.2.2 0 (by omega);simpa [Addr.add] using World.cell?_spot this
   obtain ⟨b,o,sp⟩:=a;dsimp only at hspot;subst hspot;rw [e];have IK:=World.cells?_some (hT i hi').1;have k0:=IK.2.2 0 (by omega);have k1:=IK.2.2 1 (by omega);have k2:=IK.2.2 2 (by omega);rw [Addr.add_mid,Addr.add_mid] at k0 k1 k2;refine ⟨b,o,rfl,World.block_lt_of_cell? _ _ k0,fun j v hj=>?_,(hT i hi').2⟩
   match j with
   | 0=>cases hj;exact k0
   | 1=>cases hj;exact k1
   | 2=>cases hj;exact k2
   | j+3=>cases hj
 have WK:∃ fl:List dJ,fl.length=rH/\dG W.heap.size W a3 fl/\4 * rH<=Rows.uptoBulk d3:=by
  obtain ⟨N8,hf⟩:=h3
  rcases open_slice Tryz.underlying45 hf with ⟨gO,hx⟩|⟨a,len',cap',m,fu,Dd,Pl,gO,_,hl,hm,wz,hx,pU⟩
  ·simp [Value.cells] at gO;obtain ⟨rfl,rfl,rfl⟩:=gO;exact ⟨[],rfl,fun i hi=>by simp at hi,Nat.zero_le _⟩
  ·simp [Value.cells] at gO;obtain ⟨rfl,rfl,rfl⟩:=gO;simp only [Prod.mk.injEq] at hx;obtain ⟨rfl,_⟩:=hx;have vF:rH<=m:=by rw [wz];simp;omega
   have hbl:=WH ((List.range rH).map Dd) (fun d hd=>by
    obtain ⟨i,hi,rfl⟩:=List.mem_map.1 hd;rw [List.mem_range] at hi;obtain ⟨cs',h1,h2⟩:=pU i (by omega);obtain ⟨_,_,_,_,h5⟩:=WJ h2;exact h5)
   rw [List.length_map,List.length_range] at hbl;obtain ⟨T,hT⟩:=choose_lt (α:=dJ) (n:=rH) (p:=fun i t=>W.cells? 0 (a.add (i * 3)) 3=some (dJ.cells t)/\kh (fun k=>W.heap.size<=k) W t.kv t.ks/\t.ok) (fun i hi=>by
    obtain ⟨cs',h1,h2⟩:=pU i (by omega);rw [Qsa] at h1;obtain ⟨t,rfl,h3,h4,_⟩:=WJ h2;exact ⟨t,h1,h3,h4⟩)
   refine ⟨(List.range rH).map T,by simp,?_,by simp only [Rows.uptoBulk];omega⟩;intro i hi;have hi':i<rH:=by simpa using hi
   have e:((List.range rH).map T).getD i BM=T i:=by simp [List.getD_eq_getElem?_getD,hi']
   have hc:=World.cells?_some (hT 0 (by omega)).1;have hspot:a.spot=none:=by
    have:=hc.2.2 0 (by omega);simpa [Addr.add] using World.cell?_spot this
   obtain ⟨b,o,sp⟩:=a;dsimp only at hspot;subst hspot;rw [e];have IK:=World.cells?_some (hT i hi').1;have k0:=IK.2.2 0 (by omega);have k1:=IK.2.2 1 (by omega);have k2:=IK.2.2 2 (by omega);rw [Addr.add_mid,Addr.add_mid] at k0 k1 k2;exact ⟨b,o,rfl,World.block_lt_of_cell? _ _ k0,k0,k1,k2,(hT i hi').2.1,(hT i hi').2.2⟩
 obtain ⟨fl,hl,hO,hB⟩:=key;obtain ⟨fl2,hl2,hO2,km⟩:=WK;obtain ⟨t,ht,aF⟩:=N6;obtain ⟨f,hf,Lz,kY⟩:=N7;subst hl;subst ht;subst hf;subst hl2;refine (Qrh W a0 cap fl t.k t.n t.b f.n f.paths f.kv f.ks a3 FC fl2 z4 (gl hL) hO aF.1 aF.2.1 aF.2.2 Lz kY hO2 (N4 rO) (by omega)).mono fun e W' ⟨he,hg⟩=>?_
 subst he;refine ⟨_,rfl,_,_,_,[],p0++(p1++(p2++p3)),[],hW',?_,?_,rfl,hg.frame _,fun h=>by cases h⟩
 ·exact trodAll_cons_mk (shut_bool Tryz.underlying4 _) trodAll_mk0
 ·have h9:=trodAll_cons_mk (hg.trod laidOut (by kernel_rfl) (of_decide_eq_true (by kernel_rfl)) h0 (fun x hx=>hlt x (by simp [hx]))) (trodAll_cons_mk (hg.trod laidOut (by kernel_rfl) (of_decide_eq_true (by kernel_rfl)) h1 (fun x hx=>hlt x (by simp [hx]))) (trodAll_cons_mk (hg.trod laidOut (by kernel_rfl) (of_decide_eq_true (by kernel_rfl)) h2 (fun x hx=>hlt x (by simp [hx]))) (trodAll_cons_mk (hg.trod laidOut (by kernel_rfl) (of_decide_eq_true (by kernel_rfl)) h3 (fun x hx=>hlt x (by simp [hx]))) (trodAll_cons_mk (shut_int Tryz.underlying3 rO) trodAll_mk0))));simp only [List.append_nil] at h9;exact h9
noncomputable def WL (os:Os):World :=
 { World.holding Tryz.prog os ⟨#[],#[],[]⟩ with heap:=((((((World.holding Tryz.prog os ⟨#[],#[],[]⟩).heap.modify 3 fun|.cells _ t frozen=>.cells #[.int .u64 1,.int .u64 10,.int .u64 100,.int .u64 1000,.int .u64 10000,.int .u64 100000,.int .u64 1000000,.int .u64 10000000,.int .u64 100000000,.int .u64 1000000000,.int .u64 10000000000,.int .u64 100000000000,.int .u64 1000000000000,.int .u64 10000000000000,.int .u64 100000000000000,.int .u64 1000000000000000,.int .u64 10000000000000000,.int .u64 100000000000000000,.int .u64 1000000000000000000,.int .u64 10000000000000000000] t frozen|o=>o).modify 4 fun|.cells _ t frozen=>.cells #[.int .u8 0,.int .u8 1,.int .u8 28,.int .u8 2,.int .u8 29,.int .u8 14,.int .u8 24,.int .u8 3,.int .u8 30,.int .u8 22,.int .u8 20,.int .u8 15,.int .u8 25,.int .u8 17,.int .u8 4,.int .u8 8,.int .u8 31,.int .u8 27,.int .u8 13,.int .u8 23,.int .u8 21,.int .u8 19,.int .u8 16,.int .u8 7,.int .u8 26,.int .u8 12,.int .u8 18,.int .u8 6,.int .u8 11,.int .u8 5,.int .u8 10,.int .u8 9] t frozen|o=>o).modify 5 fun|.cells _ t frozen=>.cells #[.int .u8 0,.int .u8 1,.int .u8 56,.int .u8 2,.int .u8 57,.int .u8 49,.int .u8 28,.int .u8 3,.int .u8 61,.int .u8 58,.int .u8 42,.int .u8 50,.int .u8 38,.int .u8 29,.int .u8 17,.int .u8 4,.int .u8 62,.int .u8 47,.int .u8 59,.int .u8 36,.int .u8 45,.int .u8 43,.int .u8 51,.int .u8 22,.int .u8 53,.int .u8 39,.int .u8 33,.int .u8 30,.int .u8 24,.int .u8 18,.int .u8 12,.int .u8 5,.int .u8 63,.int .u8 55,.int .u8 48,.int .u8 27,.int .u8 60,.int .u8 41,.int .u8 37,.int .u8 16,.int .u8 46,.int .u8 35,.int .u8 44,.int .u8 21,.int .u8 52,.int .u8 32,.int .u8 23,.int .u8 11,.int .u8 54,.int .u8 26,.int .u8 40,.int .u8 15,.int .u8 34,.int .u8 20,.int .u8 31,.int .u8 10,.int .u8 25,.int .u8 14,.int .u8 19,.int .u8 9,.int .u8 13,.int .u8 8,.int .u8 7,.int .u8 6] t frozen|o=>o).modify 1 fun|.cells _ t frozen=>.cells #[.int .u32 1116352408,.int .u32 1899447441,.int .u32 3049323471,.int .u32 3921009573,.int .u32 961987163,.int .u32 1508970993,.int .u32 2453635748,.int .u32 2870763221,.int .u32 3624381080,.int .u32 310598401,.int .u32 607225278,.int .u32 1426881987,.int .u32 1925078388,.int .u32 2162078206,.int .u32 2614888103,.int .u32 3248222580,.int .u32 3835390401,.int .u32 4022224774,.int .u32 264347078,.int .u32 604807628,.int .u32 770255983,.int .u32 1249150122,.int .u32 1555081692,.int .u32 1996064986,.int .u32 2554220882,.int .u32 2821834349,.int .u32 2952996808,.int .u32 3210313671,.int .u32 3336571891,.int .u32 3584528711,.int .u32 113926993,.int .u32 338241895,.int .u32 666307205,.int .u32 773529912,.int .u32 1294757372,.int .u32 1396182291,.int .u32 1695183700,.int .u32 1986661051,.int .u32 2177026350,.int .u32 2456956037,.int .u32 2730485921,.int .u32 2820302411,.int .u32 3259730800,.int .u32 3345764771,.int .u32 3516065817,.int .u32 3600352804,.int .u32 4094571909,.int .u32 275423344,.int .u32 430227734,.int .u32 506948616,.int .u32 659060556,.int .u32 883997877,.int .u32 958139571,.int .u32 1322822218,.int .u32 1537002063,.int .u32 1747873779,.int .u32 1955562222,.int .u32 2024104815,.int .u32 2227730452,.int .u32 2361852424,.int .u32 2428436474,.int .u32 2756734187,.int .u32 3204031479,.int .u32 3329325298] t frozen|o=>o).modify 0 fun|.cells _ t frozen=>.cells #[lI] t frozen|o=>o) }
theorem QrA (os:Os):laidMetH Tryz.prog Rows.tornUptoRow.laid ((WL os).forCall (fun _ _=>0) ⟨#[],#[.slice none 0 0,.agg #[.int .i64 0,.int .i64 0,.int .i64 0],.agg #[.int .i64 0,.int .i64 0,.slice none 0 0],.slice none 0 0,.int .i64 0],[]⟩).memory :=
 laidMetH_of_parts (laidMet_of_run' 8 (by kernel_rfl) (by kernel_rfl)) (by kernel_rfl)
theorem reads (os:Os) {H:Type} (enc:TypeId × Value->H):∃ places,DataW.whole enc Tryz.prog ((WL os).forCall (fun _ _=>0) ⟨#[],#[.slice none 0 0,.agg #[.int .i64 0,.int .i64 0,.int .i64 0],.agg #[.int .i64 0,.int .i64 0,.slice none 0 0],.slice none 0 0,.int .i64 0],[]⟩).memory Tryz.f8.params.toList Rows.tornSpec.vars false #[Value.slice none 0 0,.agg #[.int .i64 0,.int .i64 0,.int .i64 0],.agg #[.int .i64 0,.int .i64 0,.slice none 0 0],.slice none 0 0,.int .i64 0].toList 8=some ([.nil,.agg [.lit (.int .i64 0),.lit (.int .i64 0),.lit (.int .i64 0)],.agg [.lit (.int .i64 0),.lit (.int .i64 0),.nil],.nil,.lit (.int .i64 0)],[],places) :=
 ⟨[],by kernel_rfl⟩
theorem lifted (os:Os) (started:os.Started) (H:Type) (enc:TypeId × Value->H) (F:Stop.Interp) :
  ReturnsInHanded {} Tryz.checked os 8 .any ((Rows.OpenSpec.upto Rows.tornSpec).preRow enc Tryz.prog Tryz.f8 Rows.tornUptoRow.domain false Rows.tornUptoRow.laid) (((Rows.OpenSpec.upto Rows.tornSpec).at F).post enc Tryz.prog Tryz.f8 false true false false):=by
 obtain ⟨places,hx⟩:=reads os enc;refine returnsInHanded_of_row (C:=Tryz.checked) (s:=Rows.OpenSpec.upto Rows.tornSpec) own started (by kernel_rfl) Tryz.func8
  (witness_row_at (enc:=enc) (C:=Tryz.checked) false (WL os) #[.slice none 0 0,.agg #[.int .i64 0,.int .i64 0,.int .i64 0],.agg #[.int .i64 0,.int .i64 0,.slice none 0 0],.slice none 0 0,.int .i64 0] rfl (by kernel_rfl) (by kernel_rfl) (by kernel_rfl)
   (OpenSpec.preRow_of_cond 8 hx (by kernel_rfl) (fun k hk=>by cases hk;kernel_rfl) (by kernel_rfl) (QrA os))) ?_
 intro W base args ds gs before hval hW _ yc _ hL _ _;exact Qrz H enc W base args ds gs before hval hW (yc _ rfl) hL
theorem said:Rows.TornUptoSaid :=
 OpenClaim.holds_of_cond 8 Tryz.f8 rfl rfl rfl rfl rfl rfl rfl ⟨rfl,rfl,rfl,rfl,rfl⟩ rfl rfl rfl rfl rfl (by as_aux_lemma=>kernel_rfl) Tryz.func8 (by as_aux_lemma=>kernel_rfl)
  (of_decide_eq_true (by as_aux_lemma=>kernel_rfl)) (by unfold Func.isWrapper;first|(rw [if_pos (by decide +kernel)];as_aux_lemma=>kernel_rfl)|(rw [if_neg (by decide +kernel)];exact ⟨rfl,rfl⟩))
  (fun os started H enc _ F=>by rw [OpenClaim.pre_eq_preRow];exact lifted os started H enc F)
theorem plain (f:FuncId) (fn:Func) (hf:Tryz.pinned.checked.prog.funcNamed "blobs/blobskeep.Torn" = some f) (hfn:Tryz.pinned.checked.prog.funcs[f]? = some fn) :
  true=Tryz.pinned.checked.prog.looks []/\∀ (j:Nat) t,fn.params[j]? = some t->Tryz.pinned.checked.prog.wantsStandIn t=false:=by
 obtain rfl:f=8:=Option.some.inj ((show Tryz.prog.funcNamed "blobs/blobskeep.Torn" = some 8 by kernel_rfl).symm.trans hf) |>.symm
 obtain rfl:fn=Tryz.f8:=(Option.some.inj (Tryz.func8.symm.trans hfn)).symm;refine ⟨by kernel_rfl,fun j t ht=>?_⟩;rw [Tryz.params8] at ht;have hm:=Array.mem_of_getElem? ht;simp only [List.mem_toArray,List.mem_cons,List.not_mem_nil,or_false] at hm
 rcases hm with rfl|rfl|rfl|rfl|rfl
 ·exact (show Tryz.prog.wantsStandIn 22=false by kernel_rfl)
 ·exact (show Tryz.prog.wantsStandIn 31=false by kernel_rfl)
 ·exact (show Tryz.prog.wantsStandIn 50=false by kernel_rfl)
 ·exact (show Tryz.prog.wantsStandIn 45=false by kernel_rfl)
 ·exact (show Tryz.prog.wantsStandIn 3=false by kernel_rfl)
end Go.Proofs.YtncigfibncmioaaGreatDoor.torn
namespace Go.Proofs.YtncigfibncmioaaGreatDoor
theorem torn_card:Rows.TornUptoCardSaid :=
 Claim7.holds_tied_plain_at .later [] _ _ _ _ torn.said (fun _ h=>by cases h) (by kernel_rfl) (fun _ h=>by cases h) tornUpto_row_tie rfl ⟨rfl,rfl⟩ (by kernel_rfl) rfl torn.plain (by kernel_rfl)
end Go.Proofs.YtncigfibncmioaaGreatDoor
