/-
  PROVED HERE: a store of the program at rest, with its disk: what it is, that another store's calls leave it, and what each call of the program's store answers and leaves, as changes of plain lists.
-/
import Derived.Test.YtncigfibncmioaaGreatDoorToHist
import Derived.Test.YtncigfibncmioaaGreatDoorBmRef
import Derived.Test.YtncigfibncmioaaGreatDoorBmTags
import Derived.Test.YtncigfibncmioaaGreatDoorSmDig
import Derived.Test.YtncigfibncmioaaGreatDoorIdxRd
import Derived.Test.YtncigfibncmioaaGreatDoorSmDApp
import Derived.Test.YtncigfibncmioaaGreatDoorKDecB
import Derived.Test.YtncigfibncmioaaGreatDoorKCont
namespace Go.Proofs.YtncigfibncmioaaGreatDoor
open Go.RowKit
structure SA (w:World) (db xb sb cb:Nat) (s:PSt) (tb:Nat) (cl:List (List Nat)) (A:Sto) (r:Int) (n cu:Nat):Prop where
 st:BSt w xb sb
 hG:¬ isG xb
 sw:StW w sb s cb tb cl.length A.tg.length (cD cl) (tD A.tg)
 bd:BD w db s.b
 ok:∀ d∈cl,DigOk d
 mem:∀ d,d∈cl ↔ ∃ b∈A.cs,d=dOfB b
 len:A.cs.length≤n
 rst:Rst s.ds (fA A) r 2000
 c0:0≤s.ds.R.count
 c1:s.ds.R.count≤(cu:Int)
 good:GoodA A
 use:(szA A:Int)≤r
 r0:0≤r
 r1:r≤9223372036854775807
theorem fA_len (A:Sto):(fA A).length=A.cs.length+3:=by simp [fA,tailF]
theorem SA.fit {w:World} {db xb sb cb:Nat} {s:PSt} {tb:Nat} {cl:List (List Nat)} {A:Sto} {r:Int} {n cu:Nat} (h:SA w db xb sb cb s tb cl A r n cu):DFit s.ds (n+3) cu 2000 :=
 (h.rst.fit h.c0 h.c1 h.r0 h.r1).mono (by rw [fA_len];have:=h.len;omega) (Nat.le_refl _) (Nat.le_refl _)
theorem sa_bud {n cu:Nat} (hn:n≤300000) (hc:cu≤90000000000):Bud (n+3+100) (cu+100) (2000+40000):=⟨by omega,by omega,by omega⟩
theorem SA.clen {w:World} {db xb sb cb:Nat} {s:PSt} {tb:Nat} {cl:List (List Nat)} {A:Sto} {r:Int} {n cu:Nat} (h:SA w db xb sb cb s tb cl A r n cu):cl.length≤n:=by
 have h1:cl.length≤(A.cs.map dOfB).length:=nodup_len (riseK_nodup (mD_rise h.sw.cm dig_keyed)) (fun x hx=>by
  obtain ⟨b,hb,e⟩:=(h.mem x).1 hx
  exact List.mem_map.2 ⟨b,hb,e.symm⟩)
 rw [List.length_map] at h1
 exact Nat.le_trans h1 h.len
theorem SA.has {w:World} {db xb sb cb:Nat} {s:PSt} {tb:Nat} {cl:List (List Nat)} {A:Sto} {r:Int} {n cu:Nat} (h:SA w db xb sb cb s tb cl A r n cu) (b:ByteArray):Maps.has (cD cl) (dKey (dOfB b))=(findK kC (kC b) A.cs).isSome:=by
 rw [cD_has h.ok (dOfB_ok b)]
 cases hf:findK kC (kC b) A.cs with
 | none =>
  refine decide_eq_false (fun hm=>?_)
  obtain ⟨c,hc,e⟩:=(h.mem _).1 hm
  exact findK_none hf c hc (by unfold kC;rw [e])
 | some c =>
  obtain ⟨h1,h2⟩:=find_kC_some hf
  exact decide_eq_true ((h.mem _).2 ⟨c,h1,h2.symm⟩)
theorem SA.notOwn {w:World} {db xb sb cb:Nat} {s:PSt} {tb:Nat} {cl:List (List Nat)} {A:Sto} {r:Int} {n cu:Nat} (h:SA w db xb sb cb s tb cl A r n cu) {k:Nat} {cur:Array Value} {T:TypeId} {fr:Nat × Nat} (hk:w.heap[k]? = some (.cells cur T fr)) (h1:T≠150) (h2:T≠214) (h3:T≠154) (h4:T≠5) (h5:T≠108) (h6:T≠159):¬ (s.own k∨sS xb sb cb k):=by
 rintro (e|e|e|e)
 ·exact h.sw.inn.notOwn hk h1 h2 h3 h4 e
 ·subst e
  have h7:=h.st
  unfold BSt at h7
  rw [hk] at h7
  injection h7 with h7
  injection h7 with _ h7
  exact h5 h7
 ·subst e
  have h7:=h.sw.blk
  rw [hk] at h7
  injection h7 with h7
  injection h7 with _ h7
  exact h6 h7
 ·subst e
  obtain ⟨es,clock,h7,_⟩:=h.sw.cm
  rw [hk] at h7
  cases h7
theorem SA.bdGo {w w':World} {db xb sb cb:Nat} {s s':PSt} {tb:Nat} {cl:List (List Nat)} {A:Sto} {r:Int} {n cu:Nat} (h:SA w db xb sb cb s tb cl A r n cu) (hg:SGo (sS xb sb cb) s s' w w'):BD w' db s'.b:=by
 rw [hg.b]
 exact (hg.gr.block db (lt_heap h.bd) (h.notOwn h.bd (by decide) (by decide) (by decide) (by decide) (by decide) (by decide))).trans h.bd
def fpr (s:PSt) (xb sb cb tb:Nat) (k:Nat):Prop:=s.own k∨sS xb sb cb k∨k=tb
theorem StW.tight {w:World} {sb:Nat} {s:PSt} {cb tb nc nt:Nat} {cl:List (List Nat)} {Dt:DataW Value} (h:StW w sb s cb tb nc nt (cD cl) Dt):StW w sb s cb tb cl.length nt (cD cl) Dt :=
 ⟨h.inn,h.gl,h.low,h.blk,mD_tight h.cm,h.tm,h.ncb,h.ntb,h.gcb,h.gtb,h.gsb,h.ne⟩
def SaN (w w':World) (db xb sb cb:Nat) (s:PSt) (tb:Nat) (A':Sto) (r:Int) (n cu:Nat):Prop:=∃ s' tb' cl',SGo (sS xb sb cb) s s' w w'∧(tb'=tb∨w.heap.size≤tb')∧SA w' db xb sb cb s' tb' cl' A' r n cu
theorem SA.mono {w:World} {db xb sb cb:Nat} {s:PSt} {tb:Nat} {cl:List (List Nat)} {A:Sto} {r:Int} {n cu m cv:Nat} (h:SA w db xb sb cb s tb cl A r n cu) (hm:n≤m) (hc:cu≤cv):SA w db xb sb cb s tb cl A r m cv :=
 ⟨h.st,h.hG,h.sw,h.bd,h.ok,h.mem,Nat.le_trans h.len hm,h.rst,h.c0,by have:=h.c1;omega,h.good,h.use,h.r0,h.r1⟩
theorem SA.same {w w':World} {db xb sb cb:Nat} {s:PSt} {tb:Nat} {cl:List (List Nat)} {A:Sto} {r:Int} {n cu:Nat} (h:SA w db xb sb cb s tb cl A r n cu) (hg:SGo (sS xb sb cb) s s w w') (hx:BSt w' xb sb) (hst:StW w' sb s cb tb cl.length A.tg.length (cD cl) (tD A.tg)):SA w' db xb sb cb s tb cl A r n cu :=
 ⟨hx,h.hG,hst,h.bdGo hg,h.ok,h.mem,h.len,h.rst,h.c0,h.c1,h.good,h.use,h.r0,h.r1⟩
theorem SA.still {w w':World} {db xb sb cb:Nat} {s:PSt} {tb:Nat} {cl:List (List Nat)} {A:Sto} {r:Int} {n cu:Nat} (h:SA w db xb sb cb s tb cl A r n cu) (hg:SGo (sS xb sb cb) s s w w') (hx:BSt w' xb sb) (hst:StW w' sb s cb tb cl.length A.tg.length (cD cl) (tD A.tg)):SaN w w' db xb sb cb s tb A r (n+1) (cu+n+20) :=
 ⟨s,tb,cl,hg,.inl rfl,(h.same hg hx hst).mono (Nat.le_succ n) (by omega)⟩
theorem biS_two (fl:List (ByteArray × ByteArray)) (h:fl.length≤2):(wrS fl).length≤8:=by rw [wrS_len,biS_len];omega
theorem tbS_two (n:Nat) (h:n≤2):(tbS n).length≤3:=by
 unfold tbS
 split
 ·decide
 ·rw [List.length_append]
  simp [tbL]
  omega
theorem wrz_count {D D':DS} {L C B:Nat} {fl:List (ByteArray × ByteArray)} {k:Int} (hf:DFit D L C B) (h2:fl.length≤2) (hw:WrZ D fl k D'):0≤D'.R.count∧D'.R.count≤((C+20:Nat):Int):=by
 unfold WrZ at hw
 by_cases he:fl = []
 ·rw [if_pos he] at hw
  obtain ⟨_,rfl⟩:=hw
  have:=hf.c1
  exact ⟨hf.c0,by omega⟩
 ·rw [if_neg he] at hw
  obtain ⟨m,D1,hr,h3⟩:=hw
  have f1:=hf.ran hr
  have h8:=biS_two fl h2
  rcases h3 with ⟨_,rfl⟩|⟨_,h3⟩
  ·have:=f1.c1
   exact ⟨f1.c0,by omega⟩
  ·have f2:=f1.ranI h3
   have h9:=tbS_two (min m fl.length) (by omega)
   have:=f2.c1
   exact ⟨f2.c0,by omega⟩
structure Pl where
 need:Nat
 txt:ByteArray
 err:Int
 nx:Sto
def Pl.run (r:Int) (A:Sto) (p:Pl):ByteArray × Int × Sto:=if (szA A:Int)+(p.need:Int)≤r then (p.txt,p.err,p.nx) else (⟨#[]⟩,4,A)
theorem Pl.run_yes {r:Int} {A:Sto} {p:Pl} (h:(szA A:Int)+(p.need:Int)≤r):p.run r A=(p.txt,p.err,p.nx):=if_pos h
theorem Pl.run_no {r:Int} {A:Sto} {p:Pl} (h:r<(szA A:Int)+(p.need:Int)):p.run r A=(⟨#[]⟩,4,A):=if_neg (by omega)
def hxB (b:ByteArray):ByteArray:=dtx (dOfB b)
def mayB (A:Sto) (n:ByteArray):Bool:=(findK TE.n n A.tg).isSome || decide (A.tg.length<8)
def conC (A:Sto) (b:ByteArray):Option ByteArray:=findK kC (kC b) A.cs
def newC (A:Sto) (b:ByteArray):Option ByteArray:=match conC A b with|some _=>none|none=>some b
def tgNew (A:Sto) (n b:ByteArray):List TE:=insK TE.n ⟨n,dOfB b,(((conC A b).getD b).size:Int)⟩ A.tg
def putPl (A:Sto) (b:ByteArray):Pl:=⟨nbN (newC A b)+tgNeed A.tg A.tg,hxB b,0,⟨nbC A.cs (newC A b),A.tg⟩⟩
def pubPl (A:Sto) (n b:ByteArray):Pl:=if mayB A n then ⟨nbN (newC A b)+tgNeed A.tg (tgNew A n b),hxB b,0,⟨nbC A.cs (newC A b),tgNew A n b⟩⟩ else ⟨0,⟨#[]⟩,12,A⟩
def tagPl (A:Sto) (n b:ByteArray):Pl:=if (conC A b).isSome then (if mayB A n then ⟨nbN none+tgNeed A.tg (tgNew A n b),⟨#[]⟩,0,⟨A.cs,tgNew A n b⟩⟩ else ⟨0,⟨#[]⟩,12,A⟩) else ⟨0,⟨#[]⟩,10,A⟩
def untPl (A:Sto) (n:ByteArray):Pl:=if (findK TE.n n A.tg).isSome then ⟨nbN none+tgNeed A.tg (delK TE.n n A.tg),⟨#[]⟩,0,⟨A.cs,delK TE.n n A.tg⟩⟩ else ⟨0,⟨#[]⟩,10,A⟩
def delPl (A:Sto) (b:ByteArray):Pl:=if (conC A b).isSome then (if tagd (dOfB b) A.tg then ⟨0,⟨#[]⟩,11,A⟩ else ⟨0,⟨#[]⟩,0,⟨delK kC (kC b) A.cs,A.tg⟩⟩) else ⟨0,⟨#[]⟩,10,A⟩
def untN (A:Sto):Nat:=(unT A.tg (dlA A)).length
def pruPl (A:Sto):Pl:=⟨0,⟨(Lib.itoa (untN A:Int)).toArray⟩,0,⟨taggedC A,A.tg⟩⟩
theorem newC_ok {A:Sto} {b:ByteArray} (hb:b.size≤300):∀ x,newC A b=some x→findK kC (kC x) A.cs=none∧x.size≤300:=fun x hx=>by
 unfold newC conC at hx
 cases hf:findK kC (kC b) A.cs with
 | some c=>rw [hf] at hx;cases hx
 | none =>
  rw [hf] at hx
  injection hx with hx
  subst hx
  exact ⟨hf,hb⟩
theorem newC_none {A:Sto} {b y:ByteArray} (hn:newC A b=some y):y=b∧findK kC (kC b) A.cs=none:=by
 unfold newC conC at hn
 cases hf:findK kC (kC b) A.cs with
 | some c=>rw [hf] at hn;cases hn
 | none =>
  rw [hf] at hn
  injection hn with hn
  exact ⟨hn.symm,rfl⟩
theorem GoodA.new {A:Sto} (g:GoodA A) {b:ByteArray} (hb:b.size≤300):GoodA ⟨nbC A.cs (newC A b),A.tg⟩:=by
 cases hn:newC A b with
 | none=>exact g
 | some x=>exact g.ins (newC_ok hb x hn).2 (newC_ok hb x hn).1
theorem con_in {A:Sto} (g:GoodA A) (b:ByteArray):((conC A b).getD b)∈nbC A.cs (newC A b)∧dOfB ((conC A b).getD b)=dOfB b:=by
 unfold newC
 cases hf:conC A b with
 | some c =>
  obtain ⟨h1,h2⟩:=find_kC_some hf
  exact ⟨h1,h2⟩
 | none =>
  refine ⟨?_,rfl⟩
  exact (insK_mem_iff (fun a ha e=>absurd e (findK_none hf a ha)) g.rise).2 (.inl rfl)
theorem tgNew_len {A:Sto} (g:GoodA A) {n:ByteArray} {d:List Nat} {z:Int} (h:mayB A n=true):(insK TE.n ⟨n,d,z⟩ A.tg).length≤8:=by
 unfold mayB at h
 cases hf:findK TE.n n A.tg with
 | some t =>
  obtain ⟨h1,h2⟩:=findK_some hf
  rw [insK_len_old (t:=⟨n,d,z⟩) g.tr ⟨t,h1,h2⟩]
  exact g.t8
 | none =>
  rw [hf] at h
  simp at h
  have:=insK_len (key:=TE.n) ⟨n,d,z⟩ A.tg
  omega
theorem GoodA.pub {A:Sto} (g:GoodA A) {n b:ByteArray} (hb:b.size≤300) (hn:n.size≤20) (htag:isTagB n=true) (h:mayB A n=true):GoodA ⟨nbC A.cs (newC A b),tgNew A n b⟩:=by
 obtain ⟨h1,h2⟩:=con_in g b
 have h3:=(g.new hb).tag (n:=n) h1 hn htag (tgNew_len g h)
 unfold tgNew
 rw [← h2]
 exact h3
theorem GoodA.told2 {A:Sto} (g:GoodA A) (b:ByteArray):∀ t∈A.tg,t.d=dOfB b→t.z=(((conC A b).getD b).size:Int):=by
 cases hf:conC A b with
 | some c=>exact g.told hf
 | none=>exact g.untold hf
def offL (D:DS):DS:=⟨{ D.R with left := -1 },D.fs,D.fd⟩
structure Rq (D:DS) (A:Sto) (r:Int):Prop where
 rst:Rst (offL D) (fA A) r 2000
 l0 : -1≤D.R.left
 l1:D.R.left≤9223372036854775807
theorem Rq.vw {D:DS} {A:Sto} {r:Int} (h:Rq D A r):vwL D=fA A:=h.rst.wh.vw
theorem rd_vw {D:DS} {F:List FF} (hv:vwL D=F) {p:ByteArray} (hp:isPathB p=true):rdD D p=(findK FF.p p F).map FF.t:=by
 subst hv
 unfold rdD vwL
 rw [if_neg (by rw [hp];decide),findK_vw]
 cases findE p D.R.now with
 | none=>rfl
 | some g=>rfl
theorem find_index (A:Sto):findK FF.p indexP (fA A)=some (ff indexP (idxX A.tg)):=by
 rw [find_fA,find_kC_out (fun b=>kC_index b)]
 unfold tailF
 rw [findK_cons,if_pos (show (ff indexP (idxX A.tg)).p=indexP from rfl)]
 rfl
theorem find_layout (A:Sto):findK FF.p layoutP (fA A)=some (ff layoutP layoutT):=by
 rw [find_fA,find_kC_out (fun b=>kC_layout b)]
 unfold tailF
 rw [findK_cons,if_neg (show ¬ (ff indexP (idxX A.tg)).p=layoutP by show ¬ indexP=layoutP;decide),findK_cons,if_neg (show ¬ (ff journalP ⟨#[]⟩).p=layoutP by show ¬ journalP=layoutP;decide),findK_cons,if_pos (show (ff layoutP layoutT).p=layoutP from rfl)]
 rfl
theorem le_of_less {a b:ByteArray} (h:lessB a b=true):leB b a=false:=by
 unfold leB
 have h1:lessB b a=false:=by
  cases h2:lessB b a with
  | false=>rfl
  | true=>have:=less_trans h h2;rw [less_irrefl] at this;cases this
 rw [less_eq] at h1
 have h3:(b.toList == a.toList)=false:=by
  rw [beq_eq_false_iff_ne]
  intro e
  exact less_ne h (by
   have:b.data.toList=a.data.toList:=by simpa [ByteArray.toList_eq] using e
   cases a;cases b
   simp only [ByteArray.mk.injEq] at this ⊢
   exact (Array.toList_inj.1 this).symm)
 rw [h3,Bool.or_false]
 simpa [ByteArray.toList_eq] using h1
theorem le_first {a:ByteArray} (h:isTagB a=true):leB a ⟨#[]⟩=false:=by
 refine le_of_less ?_
 rw [less_eq]
 have h1:1≤a.size:=by
  unfold isTagB at h
  simp only [Bool.and_eq_true,decide_eq_true_eq] at h
  exact h.1.1.1
 cases hl:a.data.toList with
 | nil =>
  have:a.data.toList.length=0:=by rw [hl];rfl
  rw [Array.length_toList] at this
  have h2:a.size=a.data.size:=rfl
  omega
 | cons x xs=>rfl
theorem getD_tg {l:List TE} {k:Nat} (hk:k<l.length):(l.map TE.tg).getD k default=(l[k]'hk).tg:=by
 rw [List.getD_eq_getElem?_getD,List.getElem?_map,List.getElem?_eq_getElem hk]
 rfl
theorem good_tg {l:List TE} (hok:∀ t∈l,t.Ok) (ht:∀ t∈l,isTagB t.n=true) (hr:RiseT l):∀ k,k<(l.map TE.tg).length→goodB (l.map TE.tg) k=true:=fun k hk=>by
 rw [List.length_map] at hk
 have h1:=hok _ (List.getElem_mem hk)
 have h2:=ht _ (List.getElem_mem hk)
 have h3:leB (l[k]'hk).n (lastName (l.map TE.tg) k)=false:=by
  cases k with
  | zero=>exact le_first h2
  | succ k =>
   show leB _ ((l.map TE.tg).getD k default).name=false
   rw [getD_tg (show k<l.length by omega)]
   exact le_of_less (List.pairwise_iff_getElem.1 hr k (k+1) (by omega) hk (by omega))
 unfold goodB
 rw [getD_tg hk]
 have h4:isDigB (l[k]'hk).tg.dig=true:=dtx_dig _ h1.lt
 have h5:isTagB (l[k]'hk).tg.name=true:=h2
 have h6:leB (l[k]'hk).tg.name (lastName (l.map TE.tg) k)=false:=h3
 have h7:(0:Int)≤(l[k]'hk).tg.size∧(l[k]'hk).tg.size≤300:=⟨h1.z0,h1.z1⟩
 rw [h4,h5,h6]
 simp [h7.1,h7.2]
theorem idx_read {A:Sto} (g:GoodA A):∃ c,readS (idxX A.tg) = .ok (A.tg.map TE.en) c:=by
 obtain ⟨r,hr⟩:=print_reads (good_tg g.tok g.ttag g.tr) (by rw [List.length_map];exact g.t8)
 rw [List.length_map,List.map_map] at hr
 have e1:(idxX A.tg).data.toList=prTo (A.tg.map TE.tg) A.tg.length ++ [93,125]:=by unfold idxX;simp
 have e2:A.tg.map (Tg.en ∘ TE.tg)=A.tg.map TE.en:=rfl
 rw [← e1,e2] at hr
 exact readS_ok hr
theorem Rq.qui {D:DS} {A:Sto} {r:Int} (h:Rq D A r) (g:GoodA A):QuI D A.tg:=by
 obtain ⟨c,hc⟩:=idx_read g
 refine ⟨⟨idxX A.tg,c,?_,idxX_size g.tok g.t8,hc⟩,g.tok,g.tr,g.t8,?_,?_,?_⟩
 ·rw [rd_vw h.vw index_path,find_index]
  rfl
 ·rw [bPath1,rd_vw h.vw p1_path,find_p1]
  rfl
 ·rw [rd_vw h.vw (by decide),find_pruning]
  rfl
 ·rw [rd_vw h.vw (by decide),find_layout]
  rfl
theorem cPath_app (d:List Nat):cPath d=blobsP++dtx d:=by
 unfold cPath dtx
 rw [show blobsP=⟨blobsL.toArray⟩ from rfl,ba_app]
theorem pre_app (p t:ByteArray):hasPre (p++t) p=true∧cutPre (p++t) p=t:=by
 have h1:hasPre (p++t) p=true:=by
  unfold hasPre
  rw [ByteArray.size_append,ByteArray.extract_append_eq_left rfl]
  simp
 refine ⟨h1,?_⟩
 unfold cutPre
 rw [if_pos h1,ByteArray.extract_append_eq_right rfl ByteArray.size_append]
theorem dg_c {d:List Nat} (h:DigOk d):dgB (cPath d)=true∧dgV (cPath d)=d:=by
 obtain ⟨h1,h2⟩:=pre_app blobsP (dtx d)
 unfold dgB dgV
 rw [cPath_app,h1,h2,dtx_dig d h.2]
 exact ⟨rfl,by rw [if_pos rfl];exact rd_dtx d h.1 h.2⟩
theorem ctF_in {d:List Nat}:∀ (l:List DE) (c:List (List Nat)),RiseK dK c→(∀ x∈c,DigOk x)→(d∈l.foldl (fun c e=>if dgB e.path then insK dK (dgV e.path) c else c) c ↔ d∈c∨∃ e∈l,dgB e.path=true∧d=dgV e.path)
 | [],c,_,_=>by simp
 | e::l,c,h,hok=>by
  rw [List.foldl_cons]
  by_cases hd:dgB e.path=true
  ·rw [if_pos hd]
   have hm:∀ x,x∈insK dK (dgV e.path) c ↔ x=dgV e.path∨x∈c:=fun x=>insK_mem_iff (fun a ha e2=>dK_inj (hok a ha) (dgV_ok _) e2) h
   rw [ctF_in l _ (riseK_ins _ h) (fun x hx=>by
    rcases (hm x).1 hx with e2|hx
    ·rw [e2];exact dgV_ok _
    ·exact hok x hx),hm]
   constructor
   ·rintro ((h1|h1)|⟨x,hx,h2⟩)
    ·exact .inr ⟨e,by simp,hd,h1⟩
    ·exact .inl h1
    ·exact .inr ⟨x,by simp [hx],h2⟩
   ·rintro (h1|⟨x,hx,h2⟩)
    ·exact .inl (.inr h1)
    ·rcases List.mem_cons.1 hx with rfl|hx
     ·exact .inl (.inl h2.2)
     ·exact .inr ⟨x,hx,h2⟩
  ·rw [if_neg hd,ctF_in l c h hok]
   constructor
   ·rintro (h1|⟨x,hx,h2⟩)
    ·exact .inl h1
    ·exact .inr ⟨x,by simp [hx],h2⟩
   ·rintro (h1|⟨x,hx,h2⟩)
    ·exact .inl h1
    ·rcases List.mem_cons.1 hx with rfl|hx
     ·exact absurd h2.1 hd
     ·exact .inr ⟨x,hx,h2⟩
theorem ctF_ok {l:List DE}:∀ d∈ctF l,DigOk d:=fun d hd=>by
 rcases (ctF_in l [] List.Pairwise.nil (fun x hx=>by cases hx)).1 hd with h|⟨e,_,_,h⟩
 ·cases h
 ·rw [h];exact dgV_ok _
theorem tail_dg {l:List TE} {x:FF} (h:x∈tailF l):dgB x.p=false:=by
 rcases tail_mem h with rfl|rfl|rfl
 ·show dgB indexP=false;decide +kernel
 ·show dgB journalP=false;decide +kernel
 ·show dgB layoutP=false;decide +kernel
theorem Rq.cont {D:DS} {A:Sto} {r:Int} (h:Rq D A r):∀ d,d∈ctF D.R.now ↔ ∃ b∈A.cs,d=dOfB b:=fun d=>by
 have hv:D.R.now.map (vwE D.fd)=fA A:=h.vw
 unfold ctF
 rw [ctF_in D.R.now [] List.Pairwise.nil (fun x hx=>by cases hx)]
 constructor
 ·rintro (h1|⟨e,he,h1,h2⟩)
  ·cases h1
  ·have hm:vwE D.fd e∈fA A:=by rw [← hv];exact List.mem_map_of_mem he
   unfold fA at hm
   rcases List.mem_append.1 hm with hm|hm
   ·obtain ⟨b,hb,e1⟩:=List.mem_map.1 hm
    have e2:kC b=e.path:=congrArg FF.p e1
    refine ⟨b,hb,?_⟩
    rw [h2,← e2]
    exact (dg_c (dOfB_ok b)).2
   ·have:=tail_dg hm
    rw [show (vwE D.fd e).p=e.path from rfl,h1] at this
    cases this
 ·rintro ⟨b,hb,h1⟩
  have hm:fC b∈D.R.now.map (vwE D.fd):=by
   rw [hv]
   unfold fA
   exact List.mem_append.2 (.inl (List.mem_map_of_mem hb))
  obtain ⟨e,he,e1⟩:=List.mem_map.1 hm
  have e2:e.path=kC b:=congrArg FF.p e1
  refine .inr ⟨e,he,?_,?_⟩
  ·rw [e2];exact (dg_c (dOfB_ok b)).1
  ·rw [e2,h1];exact (dg_c (dOfB_ok b)).2.symm
theorem Rq.foreign {D:DS} {A:Sto} {r:Int} (h:Rq D A r):rmS foreignB D.R.now = []:=by
 have hv:D.R.now.map (vwE D.fd)=fA A:=h.vw
 unfold rmS
 rw [List.map_eq_nil_iff,List.filter_eq_nil_iff]
 intro p hp
 rw [List.mem_reverse] at hp
 obtain ⟨e,he,rfl⟩:=List.mem_map.1 hp
 have hm:vwE D.fd e∈fA A:=by rw [← hv];exact List.mem_map_of_mem he
 unfold fA at hm
 rcases List.mem_append.1 hm with hm|hm
 ·obtain ⟨b,hb,e1⟩:=List.mem_map.1 hm
  have e2:kC b=e.path:=congrArg FF.p e1
  unfold foreignB
  rw [← e2]
  have:=(dg_c (dOfB_ok b)).1
  rw [show kC b=cPath (dOfB b) from rfl,this]
  simp
 ·unfold foreignB
  rcases tail_mem hm with e1|e1|e1
  ·have e2:e.path=indexP:=congrArg FF.p e1
   rw [e2];simp
  ·have e2:e.path=journalP:=congrArg FF.p e1
   rw [e2];simp
  ·have e2:e.path=layoutP:=congrArg FF.p e1
   rw [e2];simp
theorem Rst.count {D:DS} {F:List FF} {r:Int} {B:Nat} (h:Rst D F r B) (c:Int):Rst ⟨{ D.R with count:=c },D.fs,D.fd⟩ F r B :=
 ⟨⟨h.wh.vw,h.wh.left,h.wh.room,h.wh.inj,h.wh.inn,h.wh.isafe,h.wh.ichg,⟨h.wh.inv.go,h.wh.inv.ne⟩,h.wh.rise,h.wh.dat,h.wh.chf⟩,h.safe,h.chg,h.syn⟩
theorem Rq.open {D D':DS} {A:Sto} {r k:Int} (h:Rq D A r) (hr:GoR D k D'):k=0∧Rq D' A r∧(D.R.left = -1→D'.R.left = -1)∧D.R.count≤D'.R.count∧D'.R.count≤D.R.count+1:=by
 obtain ⟨k1,m,D1,h1,h2⟩:=hr
 rw [h.foreign] at h1
 obtain ⟨rfl,rfl,rfl⟩:=h1
 rcases h2 with ⟨h2,_⟩|⟨_,h2⟩
 ·exact absurd rfl h2
 ·by_cases hl:D1.R.left=0
  ·have h3:(k,D')=sdD D1:=h2
   unfold sdD at h3
   rw [if_pos hl] at h3
   injection h3 with h3 h4
   rw [h3,h4]
   exact ⟨rfl,h,fun e=>e,Int.le_refl _,by omega⟩
  ·obtain ⟨rfl,rfl⟩:=st_sd h2 hl
   have hs:D1.R.safe=D1.R.now:=h.rst.safe
   have hc:D1.R.chg = []:=h.rst.chg
   have e:offL ⟨RDk.wrote { D1.R with safe:=D1.R.now,chg:=[] },D1.fs,D1.fd⟩=⟨{ (offL D1).R with count:=D1.R.count+1 },(offL D1).fs,(offL D1).fd⟩:=by
    unfold offL RDk.wrote
    dsimp only
    rw [hs,hc]
   have h0:=h.l0
   have h9:=h.l1
   refine ⟨rfl,⟨?_,?_,?_⟩,fun e=>?_,?_,?_⟩
   ·rw [e];exact h.rst.count _
   ·show -1≤(if 0<D1.R.left then D1.R.left - 1 else D1.R.left)
    split<;>omega
   ·show (if 0<D1.R.left then D1.R.left - 1 else D1.R.left)≤_
    split<;>omega
   ·show (if 0<D1.R.left then D1.R.left - 1 else D1.R.left) = -1
    rw [e]
    rfl
   ·show D1.R.count≤D1.R.count+1
    omega
   ·show D1.R.count+1≤D1.R.count+1
    omega
section
variable {w:World} {db xb sb cb:Nat} {s:PSt} {tb:Nat} {cl:List (List Nat)} {A:Sto} {r:Int} {n cu:Nat}
theorem SA.con (h:SA w db xb sb cb s tb cl A r n cu) (b:ByteArray):conR s.ds (dOfB b)=conC A b:=con_con h.rst.wh (dOfB_ok b)
theorem SA.rd (h:SA w db xb sb cb s tb cl A r n cu) (b:ByteArray):rdD s.ds (cPath (dOfB b))=conC A b:=rd_con h.rst.wh (dOfB b)
theorem SA.con300 (h:SA w db xb sb cb s tb cl A r n cu) {b t:ByteArray} (ht:conC A b=some t):t.size≤300:=h.good.sz t (find_kC_some ht).1
theorem SA.kpF (h:SA w db xb sb cb s tb cl A r n cu) (b:ByteArray):kpF s.ds (dOfB b) b=nbF (newC A b):=by
 unfold Go.Proofs.YtncigfibncmioaaGreatDoor.kpF newC
 rw [h.con b]
 cases conC A b with
 | none=>rfl
 | some c=>rfl
theorem SA.kpB (h:SA w db xb sb cb s tb cl A r n cu) (b:ByteArray):kpB s.ds (dOfB b) b=(conC A b).getD b:=by
 unfold Go.Proofs.YtncigfibncmioaaGreatDoor.kpB
 rw [h.con b]
theorem SA.put (h:SA w db xb sb cb s tb cl A r n cu) (b:ByteArray):szT (dOfB b) (Go.Proofs.YtncigfibncmioaaGreatDoor.kpB s.ds (dOfB b) b).size A.tg=A.tg:=by
 rw [h.kpB b]
 exact szT_same (h.good.told2 b)
theorem SA.puT (h:SA w db xb sb cb s tb cl A r n cu) (m b:ByteArray):puT s.ds (dOfB b) m b A.tg=tgNew A m b:=by
 unfold Go.Proofs.YtncigfibncmioaaGreatDoor.puT tgNew
 rw [h.kpB b]
 exact szT_ins (h.good.told2 b)
theorem cD_put (d:List Nat) (cl:List (List Nat)) (hr:RiseK dK cl):dPut (cD cl) d=cD (insK dK d cl):=by
 unfold dPut
 rw [dKey_eq]
 exact mD_put (key:=dK) (val:=fun _=>.agg #[]) d cl hr
theorem SA.clPut (h:SA w db xb sb cb s tb cl A r n cu) (b:ByteArray):dPut (cD cl) (dOfB b)=cD (insK dK (dOfB b) cl)∧(∀ d∈insK dK (dOfB b) cl,DigOk d)∧∀ d,d∈insK dK (dOfB b) cl ↔ ∃ x∈nbC A.cs (newC A b),d=dOfB x:=by
 have hr:RiseK dK cl:=mD_rise h.sw.cm dig_keyed
 have hm:∀ d,d∈insK dK (dOfB b) cl ↔ d=dOfB b∨d∈cl:=fun d=>insK_mem_iff (fun a ha e=>dK_inj (h.ok a ha) (dOfB_ok b) e) hr
 refine ⟨cD_put _ cl hr,fun d hd=>?_,fun d=>?_⟩
 ·rcases (hm d).1 hd with e|hd
  ·rw [e]
   exact dOfB_ok b
  ·exact h.ok d hd
 ·rw [hm]
  have hc:=con_in h.good b
  constructor
  ·rintro (e|hd)
   ·exact ⟨_,hc.1,e.trans hc.2.symm⟩
   ·obtain ⟨x,hx,e⟩:=(h.mem d).1 hd
    refine ⟨x,?_,e⟩
    cases hn:newC A b with
    | none=>exact hx
    | some y =>
     obtain ⟨e9,hy⟩:=newC_none hn
     rw [← e9] at hy
     exact (insK_mem_iff (fun a ha e=>absurd e (findK_none hy a ha)) h.good.rise).2 (.inr hx)
  ·rintro ⟨x,hx,e⟩
   cases hn:newC A b with
   | none =>
    rw [hn] at hx
    exact .inr ((h.mem d).2 ⟨x,hx,e⟩)
   | some y =>
    have hy:=newC_none hn
    rw [hn,hy.1] at hx
    rcases (insK_mem_iff (fun a ha e=>absurd e (findK_none hy.2 a ha)) h.good.rise).1 hx with rfl|hx
    ·exact .inl e
    ·exact .inr ((h.mem d).2 ⟨x,hx,e⟩)
theorem nbC_len (cs:List ByteArray) (nb:Option ByteArray):(nbC cs nb).length≤cs.length+1:=by
 cases nb with
 | none=>exact Nat.le_succ _
 | some b=>exact insK_len b cs
theorem SA.made {w':World} {s':PSt} {t2 nc:Nat} {A':Sto} {cl':List (List Nat)} {fl:List (ByteArray × ByteArray)} {k:Int} (h:SA w db xb sb cb s tb cl A r n cu) (hg:SGo (sS xb sb cb) s s' w w') (hx:BSt w' xb sb) (hw:WrZ s.ds fl k s'.ds) (hfl:fl.length≤2) (ht2:t2=tb∨w.heap.size≤t2)
  (hst:StW w' sb s' cb t2 nc A'.tg.length (cD cl') (tD A'.tg)) (hok:∀ d∈cl',DigOk d) (hmem:∀ d,d∈cl' ↔ ∃ b∈A'.cs,d=dOfB b) (hlen:A'.cs.length≤n+1) (hr:Rst s'.ds (fA A') r 2000) (hgd:GoodA A') (hu:(szA A':Int)≤r):SaN w w' db xb sb cb s tb A' r (n+1) (cu+n+20):=by
 have hc:=wrz_count h.fit hfl hw
 refine ⟨s',t2,cl',hg,ht2,hx,h.hG,hst.tight,h.bdGo hg,hok,hmem,hlen,hr,hc.1,?_,hgd,hu,h.r0,h.r1⟩
 have:=hc.2
 omega
theorem chF_len (fl:List (ByteArray × ByteArray)) (l l':List TE) (h:fl.length≤1):(chF fl l l').length≤2:=by
 unfold chF
 split
 ·omega
 ·rw [List.length_append]
  simp
  omega
theorem nbF_len (nb:Option ByteArray):(nbF nb).length≤1:=by cases nb<;>simp [nbF]
theorem SA.changed {w':World} {s':PSt} {k:Int} {nb:Option ByteArray} {l':List TE} {txt:ByteArray} {cl':List (List Nat)} {nc:Nat} (h:SA w db xb sb cb s tb cl A r n cu) (hg:SGo (sS xb sb cb) s s' w w') (hx:BSt w' xb sb) (hw:WrZ s.ds (chF (nbF nb) A.tg l') k s'.ds)
  (hnb:∀ b,nb=some b→findK kC (kC b) A.cs=none∧b.size≤300) (hgd:GoodA ⟨nbC A.cs nb,l'⟩)
  (h0:k=0→∃ t2,w.heap.size≤t2∧StW w' sb s' cb t2 nc l'.length (cD cl') (tD l')) (h1:k≠0→StW w' sb s' cb tb cl.length A.tg.length (cD cl) (tD A.tg))
  (hok:∀ d∈cl',DigOk d) (hmem:∀ d,d∈cl' ↔ ∃ b∈nbC A.cs nb,d=dOfB b) :
  ((k=0∧Pl.run r A ⟨nbN nb+tgNeed A.tg l',txt,0,⟨nbC A.cs nb,l'⟩⟩=(txt,0,⟨nbC A.cs nb,l'⟩))∨(k=4∧Pl.run r A ⟨nbN nb+tgNeed A.tg l',txt,0,⟨nbC A.cs nb,l'⟩⟩=(⟨#[]⟩,4,A))) ∧
  SaN w w' db xb sb cb s tb (Pl.run r A ⟨nbN nb+tgNeed A.tg l',txt,0,⟨nbC A.cs nb,l'⟩⟩).2.2 r (n+1) (cu+n+20):=by
 have hfl:=chF_len (nbF nb) A.tg l' (nbF_len nb)
 rcases chg_rest h.rst h.good h.use nb hnb l' hgd.tok hgd.t8 hw with ⟨x1,rfl,x3⟩|⟨x1,rfl,x3⟩
 ·have hrun:=Pl.run_yes (p:=⟨nbN nb+tgNeed A.tg l',txt,0,⟨nbC A.cs nb,l'⟩⟩) x1
  obtain ⟨t2,ht2,hst⟩:=h0 rfl
  rw [hrun]
  refine ⟨.inl ⟨rfl,rfl⟩,h.made hg hx hw hfl (.inr ht2) hst hok hmem ?_ x3 hgd ?_⟩
  ·have:=nbC_len A.cs nb
   have:=h.len
   show (nbC A.cs nb).length≤n+1
   omega
  ·have h2:=szA_next h.good.rise nb (fun b hb=>(hnb b hb).1) l'
   show (szA ⟨nbC A.cs nb,l'⟩ : Int)≤r
   omega
 ·have hrun:=Pl.run_no (p:=⟨nbN nb+tgNeed A.tg l',txt,0,⟨nbC A.cs nb,l'⟩⟩) x1
  rw [hrun]
  refine ⟨.inr ⟨rfl,rfl⟩,h.made hg hx hw hfl (.inl rfl) (h1 (by decide)) h.ok h.mem ?_ x3 h.good h.use⟩
  have:=h.len
  show A.cs.length≤n+1
  omega
theorem saPut (h:SA w db xb sb cb s tb cl A r n cu) (hn:n≤300000) (hcu:cu≤90000000000) (b:ByteArray) (hb:b.size≤300) :
  Calls Tryz.prog 30 #[.pointer (some ⟨xb,0,none⟩),.string b] w fun e w'=>e = .returned (.tuple #[.string ((putPl A b).run r A).1,.int .i64 ((putPl A b).run r A).2.1])∧SaN w w' db xb sb cb s tb ((putPl A b).run r A).2.2 r (n+1) (cu+n+20):=by
 refine (bPut_any xb sb s cb tb cl.length (cD cl) A.tg b w h.st h.hG h.sw hb (fun t ht=>h.con300 ((h.con b).symm.trans ht)) (by have:=h.clen;omega) (fun t ht=>by have:=h.con300 ((h.rd b).symm.trans ht);omega) h.good.tok h.good.t8 h.fit (sa_bud hn hcu)).mono ?_
 rintro e w' ⟨k,s',rfl,hg,hx,hw,h0,h1⟩
 rw [h.kpF b,h.put b] at hw
 obtain ⟨c1,c2,c3⟩:=h.clPut b
 obtain ⟨q1,q2⟩:=h.changed (txt:=hxB b) hg hx hw (newC_ok hb) (h.good.new hb) (fun hk=>by
  obtain ⟨t2,a1,a2⟩:=h0 hk
  rw [h.put b,c1] at a2
  exact ⟨t2,a1,a2⟩) h1 c2 c3
 refine ⟨?_,q2⟩
 rcases q1 with ⟨rfl,q1⟩|⟨rfl,q1⟩
 ·show _=Ending.returned (.tuple #[.string ((Pl.run r A ⟨nbN (newC A b)+tgNeed A.tg A.tg,hxB b,0,⟨nbC A.cs (newC A b),A.tg⟩⟩)).1,.int .i64 ((Pl.run r A ⟨nbN (newC A b)+tgNeed A.tg A.tg,hxB b,0,⟨nbC A.cs (newC A b),A.tg⟩⟩)).2.1])
  rw [q1]
  rfl
 ·show _=Ending.returned (.tuple #[.string ((Pl.run r A ⟨nbN (newC A b)+tgNeed A.tg A.tg,hxB b,0,⟨nbC A.cs (newC A b),A.tg⟩⟩)).1,.int .i64 ((Pl.run r A ⟨nbN (newC A b)+tgNeed A.tg A.tg,hxB b,0,⟨nbC A.cs (newC A b),A.tg⟩⟩)).2.1])
  rw [q1]
  rfl
theorem Pl.run_zero (h:SA w db xb sb cb s tb cl A r n cu) (t:ByteArray) (e:Int) (A':Sto):Pl.run r A ⟨0,t,e,A'⟩=(t,e,A'):=Pl.run_yes (by have:=h.use;show (szA A:Int)+((0:Nat):Int)≤r;omega)
theorem saPub (h:SA w db xb sb cb s tb cl A r n cu) (hn:n≤300000) (hcu:cu≤90000000000) (m b:ByteArray) (hm:m.size≤20) (htag:isTagB m=true) (hb:b.size≤300) :
  Calls Tryz.prog 25 #[.pointer (some ⟨xb,0,none⟩),.string m,.string b] w fun e w'=>e = .returned (.tuple #[.string ((pubPl A m b).run r A).1,.int .i64 ((pubPl A m b).run r A).2.1])∧SaN w w' db xb sb cb s tb ((pubPl A m b).run r A).2.2 r (n+1) (cu+n+20):=by
 unfold pubPl
 cases hmay:mayB A m with
 | false =>
  rw [if_neg (by decide),Pl.run_zero h]
  refine (bPub_many xb sb s cb tb cl.length (cD cl) A.tg m b w h.st h.hG h.sw h.good.tok (by omega) htag hb hmay).mono ?_
  rintro e w' ⟨rfl,hg,hx,hst⟩
  exact ⟨rfl,h.still hg hx hst⟩
 | true =>
  rw [if_pos rfl]
  refine (bPub_any xb sb s cb tb cl.length (cD cl) A.tg m b w h.st h.hG h.sw h.good.tok htag hmay hb (fun t ht=>h.con300 ((h.con b).symm.trans ht)) (by have:=h.clen;omega) (fun t ht=>by have:=h.con300 ((h.rd b).symm.trans ht);omega) hm h.good.t8 (tgNew_len h.good hmay) h.fit (sa_bud hn hcu)).mono ?_
  rintro e w' ⟨k,s',rfl,hg,hx,hw,h0,h1⟩
  rw [h.kpF b,h.puT m b] at hw
  obtain ⟨c1,c2,c3⟩:=h.clPut b
  obtain ⟨q1,q2⟩:=h.changed (txt:=hxB b) hg hx hw (newC_ok hb) (h.good.pub hb hm htag hmay) (fun hk=>by
   obtain ⟨t2,a1,a2⟩:=h0 hk
   rw [h.puT m b,c1] at a2
   exact ⟨t2,a1,a2⟩) h1 c2 c3
  refine ⟨?_,q2⟩
  rcases q1 with ⟨rfl,q1⟩|⟨rfl,q1⟩
  ·rw [q1]
   rfl
  ·rw [q1]
   rfl
theorem hx_dig (b:ByteArray):isDigB (hxB b)=true:=dtx_dig _ (dOfB_lt b)
theorem hx_rd (b:ByteArray):rd (hxB b)=dOfB b:=rd_dtx _ (dOfB_len b) (dOfB_lt b)
theorem saTag (h:SA w db xb sb cb s tb cl A r n cu) (hn:n≤300000) (hcu:cu≤90000000000) (m b:ByteArray) (hm:m.size≤20) (htag:isTagB m=true) (hb:b.size≤300) :
  Calls Tryz.prog 36 #[.pointer (some ⟨xb,0,none⟩),.string m,.string (hxB b)] w fun e w'=>((tagPl A m b).run r A).1=⟨#[]⟩∧e = .returned (.int .i64 ((tagPl A m b).run r A).2.1)∧SaN w w' db xb sb cb s tb ((tagPl A m b).run r A).2.2 r (n+1) (cu+n+20):=by
 have hh:=h.has b
 have hu:=unitC_cD cl
 unfold tagPl
 cases hc:conC A b with
 | none =>
  rw [show findK kC (kC b) A.cs=none from hc] at hh
  rw [if_neg (by simp),Pl.run_zero h]
  refine (bTag_none xb sb s cb tb cl.length (cD cl) A.tg m (hxB b) w h.st h.hG h.sw (by omega) htag hu (hx_dig b) (by rw [hx_rd];exact hh)).mono ?_
  rintro e w' ⟨rfl,hg,hx,hst⟩
  exact ⟨rfl,rfl,h.still hg hx hst⟩
 | some c =>
  rw [show findK kC (kC b) A.cs=some c from hc] at hh
  rw [if_pos (by simp)]
  cases hmay:mayB A m with
  | false =>
   rw [if_neg (by decide),Pl.run_zero h]
   refine (bTag_many xb sb s cb tb cl.length (cD cl) A.tg m (hxB b) w h.st h.hG h.sw (by omega) htag h.good.tok hu (hx_dig b) (by rw [hx_rd];exact hh) hmay).mono ?_
   rintro e w' ⟨rfl,hg,hx,hst⟩
   exact ⟨rfl,rfl,h.still hg hx hst⟩
  | true =>
   rw [if_pos rfl]
   refine (bTag_any xb sb s cb tb cl.length (cD cl) A.tg m (hxB b) w h.st h.hG h.sw hm htag h.good.tok hu (hx_dig b) (by rw [hx_rd];exact hh) hmay (fun t ht=>by rw [hx_rd] at ht;exact h.con300 ((h.rd b).symm.trans ht)) h.good.t8 (tgNew_len h.good hmay) h.fit (sa_bud hn hcu)).mono ?_
   rintro e w' ⟨k,s',rfl,hg,hx,hw,h0,h1⟩
   have hta:taT s.ds (rd (hxB b)) m A.tg=tgNew A m b:=by
    unfold taT tgNew
    rw [hx_rd,h.rd b,hc]
    have:=szT_ins (n:=m) (h.good.told2 b)
    rw [hc] at this
    exact this
   rw [hta] at hw h0
   have hgp:=h.good.pub hb hm htag hmay
   have hnw:newC A b=none:=by unfold newC;rw [hc]
   rw [hnw] at hgp
   obtain ⟨q1,q2⟩:=h.changed (nb:=none) (txt:=⟨#[]⟩) (cl':=cl) hg hx hw (fun b hb=>by cases hb) hgp h0 h1 h.ok h.mem
   rcases q1 with ⟨rfl,q1⟩|⟨rfl,q1⟩
   ·refine ⟨congrArg Prod.fst q1,?_,q2⟩
    have:=congrArg (fun x=>x.2.1) q1
    simp only at this
    show _=Ending.returned (.int .i64 (Pl.run r A ⟨nbN none+tgNeed A.tg (tgNew A m b),⟨#[]⟩,0,⟨nbC A.cs none,tgNew A m b⟩⟩).2.1)
    rw [this]
   ·refine ⟨congrArg Prod.fst q1,?_,q2⟩
    have:=congrArg (fun x=>x.2.1) q1
    simp only at this
    show _=Ending.returned (.int .i64 (Pl.run r A ⟨nbN none+tgNeed A.tg (tgNew A m b),⟨#[]⟩,0,⟨nbC A.cs none,tgNew A m b⟩⟩).2.1)
    rw [this]
theorem saUntag (h:SA w db xb sb cb s tb cl A r n cu) (hn:n≤300000) (hcu:cu≤90000000000) (m:ByteArray) (hm:m.size≤20) (htag:isTagB m=true) :
  Calls Tryz.prog 38 #[.pointer (some ⟨xb,0,none⟩),.string m] w fun e w'=>((untPl A m).run r A).1=⟨#[]⟩∧e = .returned (.int .i64 ((untPl A m).run r A).2.1)∧SaN w w' db xb sb cb s tb ((untPl A m).run r A).2.2 r (n+1) (cu+n+20):=by
 unfold untPl
 cases hf:(findK TE.n m A.tg).isSome with
 | false =>
  rw [if_neg (by decide),Pl.run_zero h]
  refine (bUntag_none xb sb s cb tb cl.length (cD cl) A.tg m w h.st h.hG h.sw h.good.tok (by omega) htag hf).mono ?_
  rintro e w' ⟨rfl,hg,hx,hst⟩
  exact ⟨rfl,rfl,h.still hg hx hst⟩
 | true =>
  rw [if_pos rfl]
  refine (bUntag_any xb sb s cb tb cl.length (cD cl) A.tg m w h.st h.hG h.sw h.good.tok (by omega) htag hf h.good.t8 h.fit (sa_bud hn hcu)).mono ?_
  rintro e w' ⟨k,s',rfl,hg,hx,hw,h0,h1⟩
  obtain ⟨q1,q2⟩:=h.changed (nb:=none) (txt:=⟨#[]⟩) (cl':=cl) hg hx hw (fun b hb=>by cases hb) (h.good.untag m) h0 h1 h.ok h.mem
  rcases q1 with ⟨rfl,q1⟩|⟨rfl,q1⟩
  ·refine ⟨congrArg Prod.fst q1,?_,q2⟩
   have:=congrArg (fun x=>x.2.1) q1
   simp only at this
   show _=Ending.returned (.int .i64 (Pl.run r A ⟨nbN none+tgNeed A.tg (delK TE.n m A.tg),⟨#[]⟩,0,⟨nbC A.cs none,delK TE.n m A.tg⟩⟩).2.1)
   rw [this]
  ·refine ⟨congrArg Prod.fst q1,?_,q2⟩
   have:=congrArg (fun x=>x.2.1) q1
   simp only at this
   show _=Ending.returned (.int .i64 (Pl.run r A ⟨nbN none+tgNeed A.tg (delK TE.n m A.tg),⟨#[]⟩,0,⟨nbC A.cs none,delK TE.n m A.tg⟩⟩).2.1)
   rw [this]
theorem SA.ran {w':World} {s':PSt} {nc m:Nat} {A':Sto} {cl':List (List Nat)} {l:List Stp} {k:Int} (h:SA w db xb sb cb s tb cl A r n cu) (hg:SGo (sS xb sb cb) s s' w w') (hx:BSt w' xb sb) (hr:Ran s.ds l k m s'.ds) (hl:l.length≤n+20)
  (hst:StW w' sb s' cb tb nc A'.tg.length (cD cl') (tD A'.tg)) (hok:∀ d∈cl',DigOk d) (hmem:∀ d,d∈cl' ↔ ∃ b∈A'.cs,d=dOfB b) (hlen:A'.cs.length≤n+1) (hrs:Rst s'.ds (fA A') r 2000) (hgd:GoodA A') (hu:(szA A':Int)≤r):SaN w w' db xb sb cb s tb A' r (n+1) (cu+n+20):=by
 have hc:=h.fit.ran hr
 refine ⟨s',tb,cl',hg,.inl rfl,hx,h.hG,hst.tight,h.bdGo hg,hok,hmem,hlen,hrs,hc.c0,?_,hgd,hu,h.r0,h.r1⟩
 have:=hc.c1
 omega
theorem cD_del (cl:List (List Nat)) (d:List Nat):(cD cl).del (dKey d)=cD (delK dK (dK d) cl):=by
 rw [dKey_eq]
 exact mD_del (key:=dK) (val:=fun _=>.agg #[]) (dK d) cl
theorem saDel (h:SA w db xb sb cb s tb cl A r n cu) (hn:n≤300000) (hcu:cu≤90000000000) (b:ByteArray) :
  Calls Tryz.prog 39 #[.pointer (some ⟨xb,0,none⟩),.string (hxB b)] w fun e w'=>((delPl A b).run r A).1=⟨#[]⟩∧e = .returned (.int .i64 ((delPl A b).run r A).2.1)∧SaN w w' db xb sb cb s tb ((delPl A b).run r A).2.2 r (n+1) (cu+n+20):=by
 have hh:=h.has b
 have hu:=unitC_cD cl
 unfold delPl
 cases hc:conC A b with
 | none =>
  rw [show findK kC (kC b) A.cs=none from hc] at hh
  rw [if_neg (by simp),Pl.run_zero h]
  refine (bDel_none xb sb s cb tb cl.length (cD cl) A.tg (hxB b) w h.st h.hG h.sw hu (hx_dig b) (by rw [hx_rd];exact hh)).mono ?_
  rintro e w' ⟨rfl,hg,hx,hst⟩
  exact ⟨rfl,rfl,h.still hg hx hst⟩
 | some c =>
  rw [show findK kC (kC b) A.cs=some c from hc] at hh
  rw [if_pos (by simp)]
  cases ht:tagd (dOfB b) A.tg with
  | true =>
   rw [if_pos rfl,Pl.run_zero h]
   refine (bDel_tagged xb sb s cb tb cl.length (cD cl) A.tg (hxB b) w h.st h.hG h.sw h.good.tok hu (hx_dig b) (by rw [hx_rd];exact hh) (by rw [hx_rd];exact ht)).mono ?_
   rintro e w' ⟨rfl,hg,hx,hst⟩
   exact ⟨rfl,rfl,h.still hg hx hst⟩
  | false =>
   rw [if_neg (by decide),Pl.run_zero h]
   refine (bDel_any xb sb s cb tb cl.length (cD cl) A.tg (hxB b) w h.st h.hG h.sw h.good.tok hu (hx_dig b) (by rw [hx_rd];exact hh) (by rw [hx_rd];exact ht) h.fit (show Bud _ _ _ from ⟨by omega,by omega,by omega⟩)).mono ?_
   rintro e w' ⟨k,s',m,rfl,hg,hx,hr,hcase⟩
   rw [hx_rd] at hr hcase
   obtain ⟨c1,c2⟩:=find_kC_some hc
   obtain ⟨rfl,rfl,hrs⟩:=del_rest (x:=fC c) h.rst (by unfold fA;exact List.mem_append.2 (.inl (List.mem_map_of_mem c1))) (cP_path _) (by
    show Ran s.ds [sRm (kC c),sSd] k m s'.ds
    unfold kC
    rw [c2]
    exact hr)
   have hkc:(fC c).p=kC b:=by show kC c=kC b;unfold kC;rw [c2]
   rw [hkc,fA_del h.good.rise] at hrs
   rcases hcase with ⟨hm,_⟩|⟨_,hst⟩
   ·cases hm
   ·rw [cD_del] at hst
    refine ⟨rfl,rfl,h.ran (A':=⟨delK kC (kC b) A.cs,A.tg⟩) hg hx hr (by simp) hst (fun d hd=>h.ok d (delK_mem.1 hd).1) (fun d=>?_) ?_ hrs (h.good.del ht) ?_⟩
    ·rw [delK_mem,h.mem]
     constructor
     ·rintro ⟨⟨x,hx,e⟩,hne⟩
      refine ⟨x,delK_mem.2 ⟨hx,fun e2=>hne ?_⟩,e⟩
      rw [e,kC_inj e2]
     ·rintro ⟨x,hx,e⟩
      obtain ⟨x1,x2⟩:=delK_mem.1 hx
      refine ⟨⟨x,x1,e⟩,fun e2=>x2 ?_⟩
      have:d=dOfB b:=dK_inj (by rw [e];exact dOfB_ok x) (dOfB_ok b) e2
      unfold kC
      rw [← e,this]
    ·have:=delK_len (key:=kC) (kC b) A.cs
     have:=h.len
     show (delK kC (kC b) A.cs).length≤n+1
     omega
    ·have:=szA_del A b
     have:=h.use
     omega
theorem delsD_cD:∀ (ul:List DV) (cl:List (List Nat)),delsD (cD cl) ul=cD (ul.foldl (fun c d=>delK dK (dK d.1) c) cl)
 | [],_=>rfl
 | d::ul,cl=>by
  show delsD ((cD cl).del (dKey d.1)) ul=_
  rw [cD_del,delsD_cD ul]
  rfl
theorem dels_mem {x:List Nat}:∀ (ul:List DV) (cl:List (List Nat)),x∈ul.foldl (fun c d=>delK dK (dK d.1) c) cl ↔ x∈cl∧∀ d∈ul,dK x≠dK d.1
 | [],_=>by simp
 | d::ul,cl=>by
  rw [List.foldl_cons,dels_mem ul,delK_mem]
  constructor
  ·rintro ⟨⟨h1,h2⟩,h3⟩
   exact ⟨h1,fun e he=>by
    rcases List.mem_cons.1 he with rfl|he
    ·exact h2
    ·exact h3 e he⟩
  ·rintro ⟨h1,h2⟩
   exact ⟨⟨h1,h2 d (by simp)⟩,fun e he=>h2 e (by simp [he])⟩
theorem dl_nodup (h:RiseK kC A.cs):(dlA A).Nodup:=riseK_nodup (dl_rise h)
theorem taggedC_all (h:unT A.tg (dlA A) = []):taggedC A=A.cs:=by
 unfold taggedC
 refine List.filter_eq_self.2 (fun b hb=>?_)
 have h1:dvC b ∉ unT A.tg (dlA A):=by rw [h];simp
 unfold unT at h1
 rw [List.mem_filter] at h1
 cases ht:tagd (dOfB b) A.tg with
 | true=>rfl
 | false =>
  refine absurd ⟨dl_mem.2 ⟨b,hb,dvC_val b⟩,?_⟩ h1
  rw [dvC_val,ht]
  rfl
theorem saPrune (h:SA w db xb sb cb s tb cl A r n cu) (hn:n≤300000) (hcu:cu≤90000000000) :
  Calls Tryz.prog 40 #[.pointer (some ⟨xb,0,none⟩)] w fun e w'=>(pruPl A).run r A=(⟨(Lib.itoa (untN A:Int)).toArray⟩,0,⟨taggedC A,A.tg⟩)∧e = .returned (.tuple #[.int .i64 (untN A:Int),.int .i64 0])∧SaN w w' db xb sb cb s tb ((pruPl A).run r A).2.2 r (n+1) (cu+n+20):=by
 have hrun:(pruPl A).run r A=(⟨(Lib.itoa (untN A:Int)).toArray⟩,0,⟨taggedC A,A.tg⟩):=Pl.run_zero h _ _ _
 rw [hrun]
 have hdl:(dlA A).length≤n:=by unfold dlA;rw [List.length_map];exact h.len
 have hmem:∀ x,x∈dlA A ↔ x.1∈cl:=fun x=>by rw [dl_mem,h.mem]
 refine (bPrune_any xb sb s cb tb cl.length A.tg cl (dlA A) w h.st h.hG h.sw h.good.tok h.ok (dl_rise h.good.rise) hmem (by have:=h.clen;omega) (by omega) h.fit (show Bud _ _ _ from ⟨by omega,by omega,by omega⟩)).mono ?_
 rintro e w' ⟨k,s',rfl,hg,hx,hcase⟩
 rcases hcase with ⟨hu,rfl,rfl,hst⟩|⟨hu,m,hr,hst⟩
 ·refine ⟨rfl,rfl,?_⟩
  have hA:(⟨taggedC A,A.tg⟩ : Sto)=A:=by rw [taggedC_all hu]
  show SaN w w' db xb sb cb s' tb (⟨taggedC A,A.tg⟩ : Sto) r (n+1) (cu+n+20)
  rw [hA]
  exact h.still hg hx hst
 ·have hun:(unT A.tg (dlA A)).length≤n:=Nat.le_trans (List.length_filter_le _ _) hdl
  obtain ⟨rfl,rfl,hrs⟩:=prune_rest (ul:=unT A.tg (dlA A)) (t:=⟨#[]⟩) (y:=((⟨#[]⟩ : ByteArray).size:Int)) h.rst (by unfold fA tailF;simp [ff]) (find_pruning A) ((dl_nodup h.good.rise).sublist List.filter_sublist) (fun d hd=>by
   obtain ⟨b,hb,e⟩:=dl_mem.1 (List.mem_filter.1 hd).1
   exact ⟨fC b,by unfold fA;exact List.mem_append.2 (.inl (List.mem_map_of_mem hb)),by show kC b=_;unfold kC;rw [e]⟩) hr
  rw [fA_prune h.good.rise] at hrs
  rw [List.take_of_length_le (by omega),delsD_cD] at hst
  refine ⟨rfl,rfl,h.ran (A':=⟨taggedC A,A.tg⟩) hg hx hr (by simp [prS,epS,rmC];omega) hst (fun d hd=>h.ok d ((dels_mem _ _).1 hd).1) (fun d=>?_) ?_ hrs h.good.prune ?_⟩
  ·rw [dels_mem,h.mem]
   constructor
   ·rintro ⟨⟨x,hx,e⟩,hne⟩
    refine ⟨x,List.mem_filter.2 ⟨hx,?_⟩,e⟩
    cases ht:tagd (dOfB x) A.tg with
    | true=>rfl
    | false =>
     refine absurd ?_ (hne (dvC x) (List.mem_filter.2 ⟨dl_mem.2 ⟨x,hx,dvC_val x⟩,?_⟩))
     ·rw [e,dvC_val]
     ·rw [dvC_val,ht]
      rfl
   ·rintro ⟨x,hx,e⟩
    obtain ⟨x1,x2⟩:=List.mem_filter.1 hx
    refine ⟨⟨x,x1,e⟩,fun u hu2 e2=>?_⟩
    have h3:d=u.1:=dK_inj (by rw [e];exact dOfB_ok x) u.2 e2
    have h4:=(List.mem_filter.1 hu2).2
    rw [← h3,e] at h4
    simp [x2] at h4
  ·have:(taggedC A).length≤A.cs.length:=List.length_filter_le _ _
   have:=h.len
   show (taggedC A).length≤n+1
   omega
  ·have:=szA_prune A
   have:=h.use
   omega
end
end Go.Proofs.YtncigfibncmioaaGreatDoor
namespace Go.Proofs.YtncigfibncmioaaGreatDoor
set_option maxHeartbeats 4000000
set_option maxRecDepth 100000
open Go.RowKit
theorem itoa_lenB (z:Nat) (hz:z≤1000000):(Lib.itoa (z:Int)).length≤21:=Lib.itoa_length_le (z:Int) (by omega) (by omega)
theorem hOne_sizeB (fd:Nat→ByteArray × Int) (out:ByteArray) (e:DE) (hp:e.path.size≤80) (hz:(fd e.blk).1.size≤2000):(hOne fd out e).size≤out.size+2500:=by
 unfold hOne
 simp only [ba_size]
 have h1:=itoa_lenB _ (show (fd e.blk).1.size≤1000000 by omega)
 have h2:(⟨(Lib.itoa ((fd e.blk).1.size:Int)).toArray⟩ : ByteArray).size=(Lib.itoa ((fd e.blk).1.size:Int)).length:=bytes_size _
 have h3:(⟨#[32]⟩ : ByteArray).size=1:=rfl
 have h4:(⟨#[59]⟩ : ByteArray).size=1:=rfl
 omega
theorem held_many (s:PSt) (d:Nat) (w:World) (h:DkW w d s) (hl:s.R.now.length≤1000000) (hp:∀ e∈s.R.now,isPathB e.path=true) (hr:Rise s.R.now) (hz:∀ e∈s.R.now,(s.fd e.blk).1.size≤2000) :
  Calls Tryz.prog 14 #[.pointer (some ⟨d,0,none⟩)] w fun e w'=>e = .returned (.string (hT s.fd s.R.now))∧PGo s s w w':=by
 have HLS:=hide (bList_any s d w h (by omega))
 have H:=hide h
 have HP:=hide hp
 have HR:=hide hr
 have HZ:=hide hz
 obtain ⟨n,hn⟩ : ∃ n,n=s.R.now.length:=⟨_,rfl⟩
 rw [← hn] at hl
 have HN:=hide hn
 clear h hp hr hz hn
 go_enter Tryz.func14,Tryz.ntmps14
 go_wp2_with fail
 refine (HLS.out).mono ?_
 rintro _ w1 ⟨v,rfl,hrow,hb1⟩
 dsimp only
 obtain ⟨so,sc,rfl⟩:=own_sl hrow
 rw [← HN.out]
 rw [← HN.out] at hrow
 have HROW:=hide hrow
 have HB1:=hide hb1
 clear hrow hb1 HLS
 go_wp2_with fail
 go_loopw [5,6] (fun ov iv wr=>∃ (j:Nat),iv = .int .i64 ((j:Nat):Int)∧j≤n∧ov = .string (hT s.fd (s.R.now.take j))∧(hT s.fd (s.R.now.take j)).size≤j * 2500∧PGo s s w wr∧wr.ownsRow w.heap.size 9 1 (.slice so n sc) n (pathVs s.R.now)) (fun _ iv _=>n - (intOf iv).toNat)
 case atStart=>exact ⟨0,rfl,Nat.zero_le _,rfl,Nat.le_refl _,PGo.refl H.out.inn HB1.out,HROW.out⟩
 case round =>
  obtain ⟨j,rfl,hj,rfl,hsz,hgo,hrw⟩:=hrel
  have HGO:=hide hgo
  have HRW:=hide hrw
  by_cases hlt:j<n
  ·have hjl:j<s.R.now.length:=by rw [← HN.out];exact hlt
   have he:s.R.now.getD j DE0∈s.R.now:=de_mem hjl
   have htk:s.R.now.take (j+1)=s.R.now.take j ++ [s.R.now.getD j DE0]:=by
    rw [List.take_add_one,List.getElem?_eq_getElem hjl,List.getD_eq_getElem?_getD,List.getElem?_eq_getElem hjl]
    rfl
   have hrw2:wr.ownsRow w.heap.size 9 1 (.slice so n sc) s.R.now.length (pathVs s.R.now):=by rw [← HN.out];exact hrw
   obtain ⟨o2,cap2,e2,hcells⟩:=own_str hrw2
   obtain ⟨g,rfl,hc⟩:=hcells j hjl
   injection e2 with e2 e3 e4
   subst e2
   have hpp:=HP.out _ he
   have hp80:(s.R.now.getD j DE0).path.size≤80:=by
    simp only [isPathB,Bool.and_eq_true,decide_eq_true_eq] at hpp
    omega
   have hz3:=HZ.out _ he
   have hdk:=H.out.go hgo
   have HRD:=hide (bRead_any s d _ _ wr hdk hpp (find_mem HR.out _ he))
   have hone:=hOne_sizeB s.fd (hT s.fd (s.R.now.take j)) (s.R.now.getD j DE0) hp80 hz3
   have HNX:=hide (hT_snoc s.fd (s.R.now.take j) (s.R.now.getD j DE0))
   rw [← htk] at HNX
   have HONE:=hide hone
   unfold hOne at HNX
   generalize hT s.fd (s.R.now.take j)=O at *
   generalize hE:s.R.now.getD j DE0=E at *
   have d1:decide (((j:Nat):Int)<((n:Nat):Int))=true:=decide_eq_true (by omega)
   clear hgo hrw hrw2 he htk hjl hpp hdk hone e3 e4 hcells
   go_wp2_with fail
   refine (HRD.out).mono ?_
   rintro _ w2 ⟨rfl,hg2⟩
   dsimp only
   have hin1:=(H.out.go HGO.out).inn
   have hrw3:=row_go HRW.out hin1 hg2
   have hc2:w2.cell? ⟨g,j,none⟩=some (.string E.path):=by
    have hrw4:w2.ownsRow w.heap.size 9 1 (.slice (some ⟨g,0,none⟩) n sc) s.R.now.length (pathVs s.R.now):=by rw [← HN.out];exact hrw3
    obtain ⟨o3,cap3,e5,hcells3⟩:=own_str hrw4
    obtain ⟨g3,rfl,hc3⟩:=hcells3 j (by rw [← HN.out];exact hlt)
    injection e5 with e5 _ _
    injection e5 with e5
    injection e5 with e5
    subst e5
    rw [hE] at hc3
    exact hc3
   have HDC:=hide (fun W=>decimalB_any (s.fd E.blk).1.size (by omega) W)
   have hti:=itoa_lenB (s.fd E.blk).1.size (by omega)
   have htz:(⟨(Lib.itoa ((s.fd E.blk).1.size:Int)).toArray⟩ : ByteArray).size≤21:=by rw [bytes_size];exact hti
   have HGO2:=hide (HGO.out.trans hg2)
   have HRW3:=hide hrw3
   generalize (s.fd E.blk).1=Bt at *
   generalize (⟨(Lib.itoa (Bt.size:Int)).toArray⟩ : ByteArray)=Tx at *
   have q1:¬ 9223372036854775807<O.size+E.path.size:=by omega
   have q2:¬ 9223372036854775807<O.size+E.path.size+1:=by omega
   have q3:¬ 9223372036854775807<O.size+E.path.size+1+Tx.size:=by omega
   have q4:¬ 9223372036854775807<O.size+E.path.size+1+Tx.size+1:=by omega
   have q5:¬ 9223372036854775807<O.size+E.path.size+1+Tx.size+1+Bt.size:=by omega
   have q6:¬ 9223372036854775807<O.size+E.path.size+1+Tx.size+1+Bt.size+1:=by omega
   clear hg2 hin1 hrw3 hc hti HRD HRW
   have HDC2:=hide (HDC.out w2.drew)
   have hgl:g<w2.heap.size:=World.block_lt_of_cell? _ _ hc2
   have hS0:w2.drew.cell? ⟨g,j,none⟩=some (.string E.path):=cell_later (Below.refl w2.heap.size w2).drew hc2
   go_wp2_with fail
   go_region_held3 (fun w'=>w'.cell? ⟨g,j,none⟩=some (.string E.path)) (first|exact hS0|exact hS3|go_keep) ((go_at_call 41;refine (HDC2.out).mono ?_;rintro _ w3 ⟨rfl,hb3⟩;have hb4:Below w2.heap.size w2 w3:=((Below.refl w2.heap.size w2).drew).trans hb3;have hS3:=cell_later hb4 hc2))
   have HB4:=hide hb4
   clear hb3 hb4 hS0 hS3 hc2 HDC HDC2
   go_wp2_with fail
   have hr9:=ownsRow_later HRW3.out HB4.out
   refine ⟨⟨j+1,by simp,by omega,by rw [HNX.out],?_,HGO2.out.trans (PGo.refl HGO2.out.inn HB4.out),hr9⟩,by simp only [intOf];omega⟩
   rw [HNX.out]
   simp only [ba_size]
   have h3:(⟨#[32]⟩ : ByteArray).size=1:=rfl
   have h4:(⟨#[59]⟩ : ByteArray).size=1:=rfl
   omega
  ·have hjn:j=n:=by omega
   subst hjn
   have d1:decide (((j:Nat):Int)<((j:Nat):Int))=false:=decide_eq_false (by omega)
   have ht:s.R.now.take j=s.R.now:=List.take_of_length_le (by rw [← HN.out];exact Nat.le_refl _)
   rw [ht]
   clear hgo hrw hsz
   go_wp2_with fail
   go_ret
   exact ⟨rfl,HGO.out⟩
def hF (F:List FF):ByteArray:=F.foldl (fun out x=>out++x.p++⟨#[32]⟩++⟨(Lib.itoa (x.t.size:Int)).toArray⟩++⟨#[32]⟩++x.t++⟨#[59]⟩) ⟨#[]⟩
theorem hT_hF (D:DS):hT D.fd D.R.now=hF (vwL D):=by
 unfold hT hF vwL
 rw [List.foldl_map]
 rfl
theorem fA_path {A:Sto} {x:FF} (hx:x∈fA A):isPathB x.p=true:=by
 unfold fA at hx
 rcases List.mem_append.1 hx with hx|hx
 ·obtain ⟨b,_,rfl⟩:=List.mem_map.1 hx
  exact cP_path _
 ·rcases tail_mem hx with rfl|rfl|rfl
  ·show isPathB indexP=true;decide
  ·show isPathB journalP=true;decide
  ·show isPathB layoutP=true;decide
theorem fA_small {A:Sto} (g:GoodA A) {x:FF} (hx:x∈fA A):x.t.size≤2000:=by
 unfold fA at hx
 rcases List.mem_append.1 hx with hx|hx
 ·obtain ⟨b,hb,rfl⟩:=List.mem_map.1 hx
  have:=g.sz b hb
  show b.size≤2000
  omega
 ·rcases tail_mem hx with rfl|rfl|rfl
  ·exact idxX_size g.tok g.t8
  ·show (⟨#[]⟩ : ByteArray).size≤2000;decide
  ·show layoutT.size≤2000;decide
section
variable {w:World} {db xb sb cb:Nat} {s:PSt} {tb:Nat} {cl:List (List Nat)} {A:Sto} {r:Int} {n cu:Nat}
theorem SA.dk (h:SA w db xb sb cb s tb cl A r n cu):DkW w db s:=⟨h.sw.inn,h.bd,h.sw.gl,h.sw.low⟩
theorem SA.goP {w':World} (h:SA w db xb sb cb s tb cl A r n cu) (hg:PGo s s w w'):SA w' db xb sb cb s tb cl A r n cu:=h.same (SGo.of_go hg) (show BLk w' xb sb 0 from BLk.sgo (S:=fun _=>False) h.st h.sw (SGo.of_go hg) (fun _ hk=>hk.elim)) (h.sw.go hg)
theorem saHeld (h:SA w db xb sb cb s tb cl A r n cu) (hn:n≤300000) :
  Calls Tryz.prog 14 #[.pointer (some ⟨db,0,none⟩)] w fun e w'=>e = .returned (.string (hF (fA A)))∧SGo (sS xb sb cb) s s w w'∧SA w' db xb sb cb s tb cl A r n cu:=by
 have hvw:s.ds.R.now.map (vwE s.ds.fd)=fA A:=h.rst.wh.vw
 have hmem:∀ e∈s.R.now,vwE s.fd e∈fA A:=fun e he=>by rw [← hvw];exact List.mem_map_of_mem he
 have hlen:s.R.now.length≤1000000:=by
  have h1:(s.ds.R.now.map (vwE s.ds.fd)).length=s.R.now.length:=List.length_map _
  rw [hvw,fA_len] at h1
  have:=h.len
  omega
 refine (held_many s db w h.dk hlen (fun e he=>fA_path (hmem e he)) h.rst.wh.riseN (fun e he=>fA_small h.good (hmem e he))).mono ?_
 rintro e w' ⟨rfl,hg⟩
 refine ⟨?_,SGo.of_go hg,h.goP hg⟩
 have h2:hT s.fd s.R.now=hF (fA A):=by
  have:=hT_hF s.ds
  rw [show vwL s.ds=fA A from hvw] at this
  exact this
 rw [h2]
end
set_option maxHeartbeats 4000000
set_option maxRecDepth 100000
open Go.RowKit
theorem hashK (b:ByteArray) (w:World) (hb:b.size≤300) (hg:Gl w):Calls Tryz.prog 35 #[.string b] w fun e w'=>e = .returned (.string (hxB b))∧Below w.heap.size w w':=hash_any b w (by omega) hg.hk
def i64r (x:Int):Prop := -9223372036854775808≤x∧x≤9223372036854775807
structure DoC (w:World) (I:World→Prop) (Q:ByteArray→Int→World→World→Prop):Prop where
 i:I w
 later:∀ W W',I W→Below W.heap.size W W'→I W'
 gl:∀ W,I W→Gl W
 pre:∀ W W1 w' t k,Below W.heap.size W W1→Q t k W1 w'→Q t k W w'
 post:∀ W w1 w' t k,Q t k W w1→Below w1.heap.size w1 w'→Q t k W w'
 keep:∀ W w' t k,Q t k W w'→∀ b,w.heap.size≤b→b<W.heap.size→w'.heap[b]? = W.heap[b]?
section
variable {w:World} {I:World→Prop} {Q:ByteArray→Int→World→World→Prop} {xb:Nat}
theorem dsg_put (hd:DoC w I Q) (K N B:Int) (hK:i64r K) (_:i64r N) (hB:i64r B) (hk:pickN K 8=0∨pickN K 8=1)
  (hc:∀ W,I W→Calls Tryz.prog 30 #[.pointer (some ⟨xb,0,none⟩),.string (conT B)] W fun e w'=>∃ t k,e = .returned (.tuple #[.string t,.int .i64 k])∧Q t k W w') :
  Calls Tryz.prog 11 #[.pointer (some ⟨xb,0,none⟩),.agg #[.int .i64 K,.int .i64 N,.int .i64 B]] w fun e w'=>∃ t k,e = .returned (.tuple #[.string t,.int .i64 k])∧Q t k w w':=by
 obtain ⟨z,hz,hpk⟩ : ∃ z:Int,(z=0∨z=1)∧∀ w,Calls Tryz.prog 21 #[.int .i64 K,.int .i64 8] w fun e w'=>e = .returned (.int .i64 z)∧w'=w:=⟨(pickN K 8:Int),by omega,fun w=>pick_any K 8 (by decide) (by decide) hK.1 hK.2 w⟩
 have HPK:=hide hpk
 have HCT:=hide (fun w=>content_of B hB.1 hB.2 w)
 have HC:=hide hc
 generalize conT B=bb at HCT HC
 have hbo:Below w.heap.size w (w.alloc (.cells #[.int .i64 K,.int .i64 N,.int .i64 B] 31)):=(Below.refl _ _).alloc (Nat.le_refl _) _
 have hrow:(w.alloc (.cells #[.int .i64 K,.int .i64 N,.int .i64 B] 31)).heap[w.heap.size]? = some (.cells #[.int .i64 K,.int .i64 N,.int .i64 B] 31 (0,0)):=heap_alloc_new _ _
 obtain ⟨W,hW⟩ : ∃ W,W=w.alloc (.cells #[.int .i64 K,.int .i64 N,.int .i64 B] 31):=⟨_,rfl⟩
 rw [← hW] at hbo hrow
 have c0:W.cell? ⟨w.heap.size,0,none⟩=some (.int .i64 K):=cell_of_row _ _ 0 _ _ _ hrow
 have c1:W.cell? ⟨w.heap.size,1,none⟩=some (.int .i64 N):=cell_of_row _ _ 1 _ _ _ hrow
 have c2:W.cell? ⟨w.heap.size,2,none⟩=some (.int .i64 B):=cell_of_row _ _ 2 _ _ _ hrow
 have HI:=hide (hd.later _ _ hd.i hbo)
 have HD:=hide hd
 have HW:=hide hW
 have HBO:=hide hbo
 have HRW:=hide hrow
 clear hd hc hW hbo hrow hK hk hpk hB
 rcases hz with rfl|rfl
 all_goals (
  go_enter Tryz.func11,Tryz.ntmps11
  go_upto_region 1 with fail
  rw [← HW.out]
  go_wp2_with fail
  refine (HPK.out _).mono ?_
  rintro _ w1 ⟨rfl,hw1⟩
  rw [hw1]
  dsimp only
  clear hw1 HPK
  go_wp2_with fail
  refine (HCT.out _).mono ?_
  rintro _ w2 ⟨rfl,hb2⟩
  dsimp only
  have HB2:=hide (HBO.out.trans (hb2.mono HBO.out.size))
  have HC2:=hide (HC.out w2 (HD.out.later _ _ HI.out hb2))
  clear hb2 c0 c1 c2 HC
  go_wp2_with fail
  refine (HC2.out).mono ?_
  rintro _ w3 ⟨t,k,rfl,hq⟩
  dsimp only
  have HN:=hide (HD.out.pre _ _ _ _ _ HB2.out hq)
  clear hq HC2
  go_wp2_with fail
  refine bodyPost_ret (results_tmp2 rfl _ _ _) rfl ?_
  exact ⟨t,k,rfl,HN.out⟩)
theorem dsg_tag (hd:DoC w I Q) (K N B:Int) (hK:i64r K) (hN:i64r N) (hB:i64r B) (hk:pickN K 8=2)
  (hc:∀ W,I W→Calls Tryz.prog 36 #[.pointer (some ⟨xb,0,none⟩),.string (nmT N),.string (hxB (conT B))] W fun e w'=>∃ k,e = .returned (.int .i64 k)∧Q ⟨#[]⟩ k W w') :
  Calls Tryz.prog 11 #[.pointer (some ⟨xb,0,none⟩),.agg #[.int .i64 K,.int .i64 N,.int .i64 B]] w fun e w'=>∃ t k,e = .returned (.tuple #[.string t,.int .i64 k])∧Q t k w w':=by
 obtain ⟨z,hz,hpk⟩ : ∃ z:Int,(z=2)∧∀ w,Calls Tryz.prog 21 #[.int .i64 K,.int .i64 8] w fun e w'=>e = .returned (.int .i64 z)∧w'=w:=⟨(pickN K 8:Int),by omega,fun w=>pick_any K 8 (by decide) (by decide) hK.1 hK.2 w⟩
 have HPK:=hide hpk
 have HCT:=hide (fun w=>content_of B hB.1 hB.2 w)
 have HNM:Hid (∀ w,Calls Tryz.prog 37 #[.int .i64 N] w fun e w'=>e = .returned (.string (nmT N))∧Below w.heap.size w w'):=hide (fun w=>name_any N hN.1 hN.2 w)
 have hbs:=conT_size B
 have HHS:=hide (fun (W:World) (hg:Gl W)=>hashK (conT B) W (by omega) hg)
 have HC:=hide hc
 generalize hxB (conT B)=hh at HC HHS
 generalize conT B=bb at HCT HHS
 generalize nmT N=nn at HNM HC
 have hbo:Below w.heap.size w (w.alloc (.cells #[.int .i64 K,.int .i64 N,.int .i64 B] 31)):=(Below.refl _ _).alloc (Nat.le_refl _) _
 have hrow:(w.alloc (.cells #[.int .i64 K,.int .i64 N,.int .i64 B] 31)).heap[w.heap.size]? = some (.cells #[.int .i64 K,.int .i64 N,.int .i64 B] 31 (0,0)):=heap_alloc_new _ _
 obtain ⟨W,hW⟩ : ∃ W,W=w.alloc (.cells #[.int .i64 K,.int .i64 N,.int .i64 B] 31):=⟨_,rfl⟩
 rw [← hW] at hbo hrow
 have c0:W.cell? ⟨w.heap.size,0,none⟩=some (.int .i64 K):=cell_of_row _ _ 0 _ _ _ hrow
 have c1:W.cell? ⟨w.heap.size,1,none⟩=some (.int .i64 N):=cell_of_row _ _ 1 _ _ _ hrow
 have c2:W.cell? ⟨w.heap.size,2,none⟩=some (.int .i64 B):=cell_of_row _ _ 2 _ _ _ hrow
 have HI:=hide (hd.later _ _ hd.i hbo)
 have HD:=hide hd
 have HW:=hide hW
 have HBO:=hide hbo
 have HRW:=hide hrow
 clear hd hc hW hbo hrow hK hk hpk hbs hN hB
 subst hz
 go_enter Tryz.func11,Tryz.ntmps11
 go_upto_region 1 with fail
 rw [← HW.out]
 go_wp2_with fail
 refine (HPK.out _).mono ?_
 rintro _ w1 ⟨rfl,hw1⟩
 rw [hw1]
 dsimp only
 clear hw1 HPK
 go_wp2_with fail
 obtain ⟨bx,hbx⟩ : ∃ bx,bx=w.heap.size:=⟨_,rfl⟩
 rw [← hbx] at c1 c2 HRW ⊢
 have HBX:=hide hbx
 have hdr:Below W.heap.size W W.drew:=(Below.refl _ _).drew
 have hS0:W.drew.cell? ⟨bx,1,none⟩=some (.int .i64 N)∧W.drew.cell? ⟨bx,2,none⟩=some (.int .i64 B):=⟨cell_later hdr c1,cell_later hdr c2⟩
 have HC1:=hide c1
 have HC2:=hide c2
 clear hbx c0 c1 c2
 go_region_held3 (fun w'=>w'.cell? ⟨bx,1,none⟩=some (.int .i64 N)∧w'.cell? ⟨bx,2,none⟩=some (.int .i64 B)) (first|exact hS0|exact hS1|exact hS2|exact hS3|exact hS4|go_keep) ((first
  | (go_at_call 37;refine (HNM.out _).mono ?_;rintro _ w2 ⟨rfl,hb2⟩;have hbn:Below W.heap.size W w2:=hdr.trans hb2;have hS1:w2.cell? ⟨bx,1,none⟩=some (.int .i64 N)∧w2.cell? ⟨bx,2,none⟩=some (.int .i64 B):=⟨cell_later hbn HC1.out,cell_later hbn HC2.out⟩)
  | (go_at_call 31;refine (HCT.out _).mono ?_;rintro _ w3 ⟨rfl,hb3⟩;have hbc:Below W.heap.size W w3:=hbn.trans (hb3.mono hbn.size);have hS2:w3.cell? ⟨bx,1,none⟩=some (.int .i64 N)∧w3.cell? ⟨bx,2,none⟩=some (.int .i64 B):=⟨cell_later hbc HC1.out,cell_later hbc HC2.out⟩)
  | (go_at_call 35;refine (HHS.out _ (HD.out.gl _ (HD.out.later _ _ HI.out hbc))).mono ?_;rintro _ w4 ⟨rfl,hb4⟩;have hbh:Below W.heap.size W w4:=hbc.trans (hb4.mono hbc.size);have hS3:w4.cell? ⟨bx,1,none⟩=some (.int .i64 N)∧w4.cell? ⟨bx,2,none⟩=some (.int .i64 B):=⟨cell_later hbh HC1.out,cell_later hbh HC2.out⟩)
  | (go_at_call 36;refine (HC.out _ (HD.out.later _ _ HI.out hbh)).mono ?_;rintro _ w5 ⟨k,rfl,hq⟩;have hr9:=(HD.out.keep _ _ _ _ hq bx (by have:=HBX.out;omega) (Nat.lt_of_lt_of_le (lt_heap HRW.out) hbh.size)).trans ((hbh.block _ (lt_heap HRW.out)).trans HRW.out);have hS4:w5.cell? ⟨bx,1,none⟩=some (.int .i64 N)∧w5.cell? ⟨bx,2,none⟩=some (.int .i64 B):=⟨cell_of_row _ _ 1 _ _ _ hr9,cell_of_row _ _ 2 _ _ _ hr9⟩)))
 have HN:=hide (HD.out.pre _ _ _ _ _ (HBO.out.trans (hbh.mono HBO.out.size)) hq)
 clear hq hr9 hS0 hS1 hS2 hS3 hS4 hb2 hb3 hb4 hbn hbc hbh HC hdr
 go_wp2_with fail
 refine bodyPost_ret (results_tmp2 rfl _ _ _) rfl ?_
 exact ⟨_,k,rfl,HN.out⟩
theorem dsg_unt (hd:DoC w I Q) (K N B:Int) (hK:i64r K) (hN:i64r N) (_:i64r B) (hk:pickN K 8=3)
  (hc:∀ W,I W→Calls Tryz.prog 38 #[.pointer (some ⟨xb,0,none⟩),.string (nmT N)] W fun e w'=>∃ k,e = .returned (.int .i64 k)∧Q ⟨#[]⟩ k W w') :
  Calls Tryz.prog 11 #[.pointer (some ⟨xb,0,none⟩),.agg #[.int .i64 K,.int .i64 N,.int .i64 B]] w fun e w'=>∃ t k,e = .returned (.tuple #[.string t,.int .i64 k])∧Q t k w w':=by
 obtain ⟨z,hz,hpk⟩ : ∃ z:Int,(z=3)∧∀ w,Calls Tryz.prog 21 #[.int .i64 K,.int .i64 8] w fun e w'=>e = .returned (.int .i64 z)∧w'=w:=⟨(pickN K 8:Int),by omega,fun w=>pick_any K 8 (by decide) (by decide) hK.1 hK.2 w⟩
 have HPK:=hide hpk
 have HNM:Hid (∀ w,Calls Tryz.prog 37 #[.int .i64 N] w fun e w'=>e = .returned (.string (nmT N))∧Below w.heap.size w w'):=hide (fun w=>name_any N hN.1 hN.2 w)
 have HC:=hide hc
 generalize nmT N=nn at HNM HC
 have hbo:Below w.heap.size w (w.alloc (.cells #[.int .i64 K,.int .i64 N,.int .i64 B] 31)):=(Below.refl _ _).alloc (Nat.le_refl _) _
 have hrow:(w.alloc (.cells #[.int .i64 K,.int .i64 N,.int .i64 B] 31)).heap[w.heap.size]? = some (.cells #[.int .i64 K,.int .i64 N,.int .i64 B] 31 (0,0)):=heap_alloc_new _ _
 obtain ⟨W,hW⟩ : ∃ W,W=w.alloc (.cells #[.int .i64 K,.int .i64 N,.int .i64 B] 31):=⟨_,rfl⟩
 rw [← hW] at hbo hrow
 have c0:W.cell? ⟨w.heap.size,0,none⟩=some (.int .i64 K):=cell_of_row _ _ 0 _ _ _ hrow
 have c1:W.cell? ⟨w.heap.size,1,none⟩=some (.int .i64 N):=cell_of_row _ _ 1 _ _ _ hrow
 have c2:W.cell? ⟨w.heap.size,2,none⟩=some (.int .i64 B):=cell_of_row _ _ 2 _ _ _ hrow
 have HI:=hide (hd.later _ _ hd.i hbo)
 have HD:=hide hd
 have HW:=hide hW
 have HBO:=hide hbo
 have HRW:=hide hrow
 clear hd hc hW hbo hrow hK hk hpk hN
 subst hz
 go_enter Tryz.func11,Tryz.ntmps11
 go_upto_region 1 with fail
 rw [← HW.out]
 go_wp2_with fail
 refine (HPK.out _).mono ?_
 rintro _ w1 ⟨rfl,hw1⟩
 rw [hw1]
 dsimp only
 clear hw1 HPK
 go_wp2_with fail
 refine (HNM.out _).mono ?_
 rintro _ w2 ⟨rfl,hb2⟩
 dsimp only
 have HB2:=hide (HBO.out.trans (hb2.mono HBO.out.size))
 have HC2:=hide (HC.out w2 (HD.out.later _ _ HI.out hb2))
 clear hb2 c0 c1 c2 HC
 go_wp2_with fail
 refine (HC2.out).mono ?_
 rintro _ w3 ⟨k,rfl,hq⟩
 dsimp only
 have HN:=hide (HD.out.pre _ _ _ _ _ HB2.out hq)
 clear hq HC2
 go_wp2_with fail
 refine bodyPost_ret (results_tmp2 rfl _ _ _) rfl ?_
 exact ⟨_,k,rfl,HN.out⟩
theorem dsg_pub (hd:DoC w I Q) (K N B:Int) (hK:i64r K) (hN:i64r N) (hB:i64r B) (hk:pickN K 8=4∨pickN K 8=5)
  (hc:∀ W,I W→Calls Tryz.prog 25 #[.pointer (some ⟨xb,0,none⟩),.string (nmT N),.string (conT B)] W fun e w'=>∃ t k,e = .returned (.tuple #[.string t,.int .i64 k])∧Q t k W w') :
  Calls Tryz.prog 11 #[.pointer (some ⟨xb,0,none⟩),.agg #[.int .i64 K,.int .i64 N,.int .i64 B]] w fun e w'=>∃ t k,e = .returned (.tuple #[.string t,.int .i64 k])∧Q t k w w':=by
 obtain ⟨z,hz,hpk⟩ : ∃ z:Int,(z=4∨z=5)∧∀ w,Calls Tryz.prog 21 #[.int .i64 K,.int .i64 8] w fun e w'=>e = .returned (.int .i64 z)∧w'=w:=⟨(pickN K 8:Int),by omega,fun w=>pick_any K 8 (by decide) (by decide) hK.1 hK.2 w⟩
 have HPK:=hide hpk
 have HCT:=hide (fun w=>content_of B hB.1 hB.2 w)
 have HNM:Hid (∀ w,Calls Tryz.prog 37 #[.int .i64 N] w fun e w'=>e = .returned (.string (nmT N))∧Below w.heap.size w w'):=hide (fun w=>name_any N hN.1 hN.2 w)
 have HC:=hide hc
 generalize conT B=bb at HCT HC
 generalize nmT N=nn at HNM HC
 have hbo:Below w.heap.size w (w.alloc (.cells #[.int .i64 K,.int .i64 N,.int .i64 B] 31)):=(Below.refl _ _).alloc (Nat.le_refl _) _
 have hrow:(w.alloc (.cells #[.int .i64 K,.int .i64 N,.int .i64 B] 31)).heap[w.heap.size]? = some (.cells #[.int .i64 K,.int .i64 N,.int .i64 B] 31 (0,0)):=heap_alloc_new _ _
 obtain ⟨W,hW⟩ : ∃ W,W=w.alloc (.cells #[.int .i64 K,.int .i64 N,.int .i64 B] 31):=⟨_,rfl⟩
 rw [← hW] at hbo hrow
 have c0:W.cell? ⟨w.heap.size,0,none⟩=some (.int .i64 K):=cell_of_row _ _ 0 _ _ _ hrow
 have c1:W.cell? ⟨w.heap.size,1,none⟩=some (.int .i64 N):=cell_of_row _ _ 1 _ _ _ hrow
 have c2:W.cell? ⟨w.heap.size,2,none⟩=some (.int .i64 B):=cell_of_row _ _ 2 _ _ _ hrow
 have HI:=hide (hd.later _ _ hd.i hbo)
 have HD:=hide hd
 have HW:=hide hW
 have HBO:=hide hbo
 have HRW:=hide hrow
 clear hd hc hW hbo hrow hK hk hpk hN hB
 rcases hz with rfl|rfl
 all_goals (
  go_enter Tryz.func11,Tryz.ntmps11
  go_upto_region 1 with fail
  rw [← HW.out]
  go_wp2_with fail
  refine (HPK.out _).mono ?_
  rintro _ w1 ⟨rfl,hw1⟩
  rw [hw1]
  dsimp only
  clear hw1 HPK
  go_wp2_with fail
  obtain ⟨bx,hbx⟩ : ∃ bx,bx=w.heap.size:=⟨_,rfl⟩
  rw [← hbx] at c1 c2 HRW ⊢
  have HBX:=hide hbx
  have hdr:Below W.heap.size W W.drew:=(Below.refl _ _).drew
  have hS0:W.drew.cell? ⟨bx,1,none⟩=some (.int .i64 N)∧W.drew.cell? ⟨bx,2,none⟩=some (.int .i64 B):=⟨cell_later hdr c1,cell_later hdr c2⟩
  have HC1:=hide c1
  have HC2:=hide c2
  clear hbx c0 c1 c2
  go_region_held3 (fun w'=>w'.cell? ⟨bx,1,none⟩=some (.int .i64 N)∧w'.cell? ⟨bx,2,none⟩=some (.int .i64 B)) (first|exact hS0|exact hS1|exact hS2|exact hS3|exact hS4|go_keep) ((first
   | (go_at_call 37;refine (HNM.out _).mono ?_;rintro _ w2 ⟨rfl,hb2⟩;have hbn:Below W.heap.size W w2:=hdr.trans hb2;have hS1:w2.cell? ⟨bx,1,none⟩=some (.int .i64 N)∧w2.cell? ⟨bx,2,none⟩=some (.int .i64 B):=⟨cell_later hbn HC1.out,cell_later hbn HC2.out⟩)
   | (go_at_call 31;refine (HCT.out _).mono ?_;rintro _ w3 ⟨rfl,hb3⟩;have hbc:Below W.heap.size W w3:=hbn.trans (hb3.mono hbn.size);have hS2:w3.cell? ⟨bx,1,none⟩=some (.int .i64 N)∧w3.cell? ⟨bx,2,none⟩=some (.int .i64 B):=⟨cell_later hbc HC1.out,cell_later hbc HC2.out⟩)
   | (go_at_call 25;refine (HC.out _ (HD.out.later _ _ HI.out hbc)).mono ?_;rintro _ w5 ⟨t,k,rfl,hq⟩;have hr9:=(HD.out.keep _ _ _ _ hq bx (by have:=HBX.out;omega) (Nat.lt_of_lt_of_le (lt_heap HRW.out) hbc.size)).trans ((hbc.block _ (lt_heap HRW.out)).trans HRW.out);have hS4:w5.cell? ⟨bx,1,none⟩=some (.int .i64 N)∧w5.cell? ⟨bx,2,none⟩=some (.int .i64 B):=⟨cell_of_row _ _ 1 _ _ _ hr9,cell_of_row _ _ 2 _ _ _ hr9⟩)))
  have HN:=hide (HD.out.pre _ _ _ _ _ (HBO.out.trans (hbc.mono HBO.out.size)) hq)
  clear hq hr9 hS0 hS1 hS2 hS4 hb2 hb3 hbn hbc HC hdr
  go_wp2_with fail
  refine bodyPost_ret (results_tmp2 rfl _ _ _) rfl ?_
  exact ⟨t,k,rfl,HN.out⟩)
theorem dsg_del (hd:DoC w I Q) (K N B:Int) (hK:i64r K) (_:i64r N) (hB:i64r B) (hk:pickN K 8=6)
  (hc:∀ W,I W→Calls Tryz.prog 39 #[.pointer (some ⟨xb,0,none⟩),.string (hxB (conT B))] W fun e w'=>∃ k,e = .returned (.int .i64 k)∧Q ⟨#[]⟩ k W w') :
  Calls Tryz.prog 11 #[.pointer (some ⟨xb,0,none⟩),.agg #[.int .i64 K,.int .i64 N,.int .i64 B]] w fun e w'=>∃ t k,e = .returned (.tuple #[.string t,.int .i64 k])∧Q t k w w':=by
 obtain ⟨z,hz,hpk⟩ : ∃ z:Int,(z=6)∧∀ w,Calls Tryz.prog 21 #[.int .i64 K,.int .i64 8] w fun e w'=>e = .returned (.int .i64 z)∧w'=w:=⟨(pickN K 8:Int),by omega,fun w=>pick_any K 8 (by decide) (by decide) hK.1 hK.2 w⟩
 have HPK:=hide hpk
 have HCT:=hide (fun w=>content_of B hB.1 hB.2 w)
 have hbs:=conT_size B
 have HHS:=hide (fun (W:World) (hg:Gl W)=>hashK (conT B) W (by omega) hg)
 have HC:=hide hc
 generalize hxB (conT B)=hh at HC HHS
 generalize conT B=bb at HCT HHS
 have hbo:Below w.heap.size w (w.alloc (.cells #[.int .i64 K,.int .i64 N,.int .i64 B] 31)):=(Below.refl _ _).alloc (Nat.le_refl _) _
 have hrow:(w.alloc (.cells #[.int .i64 K,.int .i64 N,.int .i64 B] 31)).heap[w.heap.size]? = some (.cells #[.int .i64 K,.int .i64 N,.int .i64 B] 31 (0,0)):=heap_alloc_new _ _
 obtain ⟨W,hW⟩ : ∃ W,W=w.alloc (.cells #[.int .i64 K,.int .i64 N,.int .i64 B] 31):=⟨_,rfl⟩
 rw [← hW] at hbo hrow
 have c0:W.cell? ⟨w.heap.size,0,none⟩=some (.int .i64 K):=cell_of_row _ _ 0 _ _ _ hrow
 have c1:W.cell? ⟨w.heap.size,1,none⟩=some (.int .i64 N):=cell_of_row _ _ 1 _ _ _ hrow
 have c2:W.cell? ⟨w.heap.size,2,none⟩=some (.int .i64 B):=cell_of_row _ _ 2 _ _ _ hrow
 have HI:=hide (hd.later _ _ hd.i hbo)
 have HD:=hide hd
 have HW:=hide hW
 have HBO:=hide hbo
 have HRW:=hide hrow
 clear hd hc hW hbo hrow hK hk hpk hbs hB
 subst hz
 go_enter Tryz.func11,Tryz.ntmps11
 go_upto_region 1 with fail
 rw [← HW.out]
 go_wp2_with fail
 refine (HPK.out _).mono ?_
 rintro _ w1 ⟨rfl,hw1⟩
 rw [hw1]
 dsimp only
 clear hw1 HPK
 go_wp2_with fail
 refine (HCT.out _).mono ?_
 rintro _ w2 ⟨rfl,hb2⟩
 dsimp only
 have hi2:=HD.out.later _ _ HI.out hb2
 have HB2:=hide (HBO.out.trans (hb2.mono HBO.out.size))
 have HH2:=hide (HHS.out w2 (HD.out.gl _ hi2))
 have HI2:=hide hi2
 clear hb2 c0 c1 c2 hi2
 go_wp2_with fail
 refine (HH2.out).mono ?_
 rintro _ w4 ⟨rfl,hb4⟩
 dsimp only
 have HB4:=hide (HB2.out.trans (hb4.mono HB2.out.size))
 have HC2:=hide (HC.out w4 (HD.out.later _ _ HI2.out hb4))
 clear hb4 HC HH2
 go_wp2_with fail
 refine (HC2.out).mono ?_
 rintro _ w3 ⟨k,rfl,hq⟩
 dsimp only
 have HN:=hide (HD.out.pre _ _ _ _ _ HB4.out hq)
 clear hq HC2
 go_wp2_with fail
 refine bodyPost_ret (results_tmp2 rfl _ _ _) rfl ?_
 exact ⟨_,k,rfl,HN.out⟩
theorem dsg_pru (hd:DoC w I Q) (K N B:Int) (hK:i64r K) (_:i64r N) (_:i64r B) (hk:pickN K 8=7)
  (hc:∀ W,I W→Calls Tryz.prog 40 #[.pointer (some ⟨xb,0,none⟩)] W fun e w'=>∃ (m:Nat) (k:Int),m≤1000000∧e = .returned (.tuple #[.int .i64 (m:Int),.int .i64 k])∧Q ⟨(Lib.itoa (m:Int)).toArray⟩ k W w') :
  Calls Tryz.prog 11 #[.pointer (some ⟨xb,0,none⟩),.agg #[.int .i64 K,.int .i64 N,.int .i64 B]] w fun e w'=>∃ t k,e = .returned (.tuple #[.string t,.int .i64 k])∧Q t k w w':=by
 obtain ⟨z,hz,hpk⟩ : ∃ z:Int,(z=7)∧∀ w,Calls Tryz.prog 21 #[.int .i64 K,.int .i64 8] w fun e w'=>e = .returned (.int .i64 z)∧w'=w:=⟨(pickN K 8:Int),by omega,fun w=>pick_any K 8 (by decide) (by decide) hK.1 hK.2 w⟩
 have HPK:=hide hpk
 have HC:=hide hc
 have hbo:Below w.heap.size w (w.alloc (.cells #[.int .i64 K,.int .i64 N,.int .i64 B] 31)):=(Below.refl _ _).alloc (Nat.le_refl _) _
 have hrow:(w.alloc (.cells #[.int .i64 K,.int .i64 N,.int .i64 B] 31)).heap[w.heap.size]? = some (.cells #[.int .i64 K,.int .i64 N,.int .i64 B] 31 (0,0)):=heap_alloc_new _ _
 obtain ⟨W,hW⟩ : ∃ W,W=w.alloc (.cells #[.int .i64 K,.int .i64 N,.int .i64 B] 31):=⟨_,rfl⟩
 rw [← hW] at hbo hrow
 have c0:W.cell? ⟨w.heap.size,0,none⟩=some (.int .i64 K):=cell_of_row _ _ 0 _ _ _ hrow
 have c1:W.cell? ⟨w.heap.size,1,none⟩=some (.int .i64 N):=cell_of_row _ _ 1 _ _ _ hrow
 have c2:W.cell? ⟨w.heap.size,2,none⟩=some (.int .i64 B):=cell_of_row _ _ 2 _ _ _ hrow
 have HI:=hide (hd.later _ _ hd.i hbo)
 have HD:=hide hd
 have HW:=hide hW
 have HBO:=hide hbo
 have HRW:=hide hrow
 clear hd hc hW hbo hrow hK hk hpk
 subst hz
 go_enter Tryz.func11,Tryz.ntmps11
 go_upto_region 1 with fail
 rw [← HW.out]
 go_wp2_with fail
 refine (HPK.out _).mono ?_
 rintro _ w1 ⟨rfl,hw1⟩
 rw [hw1]
 dsimp only
 clear hw1 HPK
 go_wp2_with fail
 refine (HC.out W HI.out).mono ?_
 rintro _ w2 ⟨m,k,hm,rfl,hq⟩
 dsimp only
 have HN:=hide (HD.out.pre _ _ _ _ _ HBO.out hq)
 have HDC:=hide (fun W=>decimalB_any m hm W)
 clear hq hm c0 c1 c2 HC
 go_wp2_with fail
 refine (HDC.out _).mono ?_
 rintro _ w3 ⟨rfl,hb3⟩
 dsimp only
 have HN3:=hide (HD.out.post _ _ _ _ _ HN.out hb3)
 clear hb3 HDC
 go_wp2_with fail
 refine bodyPost_ret (results_tmp2 rfl _ _ _) rfl ?_
 exact ⟨_,k,rfl,HN3.out⟩
end
end Go.Proofs.YtncigfibncmioaaGreatDoor
