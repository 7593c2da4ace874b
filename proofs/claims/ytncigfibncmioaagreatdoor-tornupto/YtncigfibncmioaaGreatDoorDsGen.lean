/-
  PROVED HERE: a store of the program at rest, with its disk: what it is, that another store's calls leave it, and what each call of the program's store answers and leaves, as changes of plain lists.
-/
import Derived.Test.YtncigfibncmioaaGreatDoorToHist
import Derived.Test.YtncigfibncmioaaGreatDoorBmTags
set_option maxHeartbeats 4000000
set_option maxRecDepth 100000
namespace Go.Proofs.YtncigfibncmioaaGreatDoor
open Go.RowKit
structure SA (w:World) (db xb sb cb:Nat) (s:ai) (tb:Nat) (cl:List (List Nat)) (A:aN) (r:Int) (n cu:Nat):Prop where
 st:ej w xb sb
 hG:¬ gj xb
 sw:aI w sb s cb tb cl.length A.tg.length (cD cl) (tD A.tg)
 bd:BD w db s.b
 ok:∀ d∈cl,gz d
 mem:∀ d,d∈cl ↔ ∃ b∈A.cs,d=ak b
 len:A.cs.length<=n
 ft:dY s.ds (fA A) r 2000
 c0:0<=s.ds.R.count
 c1:s.ds.R.count<=(cu:Int)
 good:aG A
 use:(dD A:Int)<=r
 r0:0<=r
 r1:r<=9223372036854775807
theorem xn (A:aN):(fA A).length=A.cs.length+3:=by simp [fA,oL]
theorem SA.fit {w:World} {db xb sb cb:Nat} {s:ai} {tb:Nat} {cl:List (List Nat)} {A:aN} {r:Int} {n cu:Nat} (h:SA w db xb sb cb s tb cl A r n cu):au s.ds (n+3) cu 2000 :=
 (h.ft.fit h.c0 h.c1 h.r0 h.r1).mono (by rw [xn];have:=h.len;omega) (Nat.le_refl _) (Nat.le_refl _)
theorem Em {n cu:Nat} (hn:n<=300000) (hc:cu<=90000000000):cZ (n+3+100) (cu+100) (2000+40000):=⟨by omega,by omega,by omega⟩
theorem SA.qW {w:World} {db xb sb cb:Nat} {s:ai} {tb:Nat} {cl:List (List Nat)} {A:aN} {r:Int} {n cu:Nat} (h:SA w db xb sb cb s tb cl A r n cu):cl.length<=n:=by
 have h1:cl.length<=(A.cs.map ak).length:=xo (Ep (GQ h.sw.cm rY)) (fun x hx=>by
  obtain ⟨b,hb,e⟩:=(h.mem x).1 hx;exact List.mem_map.2 ⟨b,hb,e.symm⟩)
 rw [List.length_map] at h1;exact Nat.le_trans h1 h.len
theorem SA.has {w:World} {db xb sb cb:Nat} {s:ai} {tb:Nat} {cl:List (List Nat)} {A:aN} {r:Int} {n cu:Nat} (h:SA w db xb sb cb s tb cl A r n cu) (b:ByteArray):Maps.has (cD cl) (dy (ak b))=(aQ kC (kC b) A.cs).isSome:=by
 rw [Ub h.ok (jN b)]
 cases hf:aQ kC (kC b) A.cs with
 | none =>
  refine decide_eq_false (fun hm=>?_);obtain ⟨c,hc,e⟩:=(h.mem _).1 hm;exact tL hf c hc (by unfold kC;rw [e])
 | some c =>
  obtain ⟨h1,h2⟩:=Eh hf;exact decide_eq_true ((h.mem _).2 ⟨c,h1,h2.symm⟩)
theorem SA.gh {w:World} {db xb sb cb:Nat} {s:ai} {tb:Nat} {cl:List (List Nat)} {A:aN} {r:Int} {n cu:Nat} (h:SA w db xb sb cb s tb cl A r n cu) {k:Nat} {cur:Array Value} {T:TypeId} {fr:Nat × Nat} (hk:w.heap[k]? = some (.cells cur T fr)) (h1:T≠150) (h2:T≠214) (h3:T≠154) (h4:T≠5) (h5:T≠108) (h6:T≠159):¬ (s.own k∨sS xb sb cb k):=by
 rintro (e|e|e|e)
 ·exact h.sw.ay.gh hk h1 h2 h3 h4 e
 ·subst e;have h7:=h.st;unfold ej at h7;rw [hk] at h7;injection h7 with h7
  injection h7 with _ h7
  exact h5 h7
 ·subst e;have h7:=h.sw.blk;rw [hk] at h7;injection h7 with h7
  injection h7 with _ h7
  exact h6 h7
 ·subst e;obtain ⟨es,clock,h7,_⟩:=h.sw.cm;rw [hk] at h7
  cases h7
theorem SA.zy {w w':World} {db xb sb cb:Nat} {s s':ai} {tb:Nat} {cl:List (List Nat)} {A:aN} {r:Int} {n cu:Nat} (h:SA w db xb sb cb s tb cl A r n cu) (hg:ar (sS xb sb cb) s s' w w'):BD w' db s'.b:=by
 rw [hg.b];exact (hg.gr.block db (ax h.bd) (h.gh h.bd (by decide) (by decide) (by decide) (by decide) (by decide) (by decide))).trans h.bd
def oJ (s:ai) (xb sb cb tb:Nat) (k:Nat):Prop:=s.own k∨sS xb sb cb k∨k=tb
theorem SA.other {w w':World} {db xb sb cb:Nat} {s:ai} {tb:Nat} {cl:List (List Nat)} {A:aN} {r:Int} {n cu:Nat} {Uc G0 CA CB:Nat} {s2 GL:ai} {G4:Nat} {Jl:List (List Nat)} {A2:aN} {r2:Int} {n2 Ud:Nat}
  (h:SA w db xb sb cb s tb cl A r n cu) (h2:SA w Uc G0 CA CB s2 G4 Jl A2 r2 n2 Ud) (hg:ar (sS G0 CA CB) s2 GL w w') (ha:∀ k,oJ s xb sb cb tb k->¬ oJ s2 G0 CA CB G4 k):SA w' db xb sb cb s tb cl A r n cu:=by
 have hb:∀ k,oJ s xb sb cb tb k->k<w.heap.size->w'.heap[k]? = w.heap[k]?:=fun k hk hl=>hg.gr.block k hl (fun e=>ha k hk (e.elim .inl (fun e=>.inr (.inl e))))
 have cJ:s.In w':=h.sw.ay.same (fun k hk=>hb k (.inl hk) (h.sw.ay.lt hk));have cX:Gl w':=h.sw.gl.same hg.gr.size (fun k hk=>hg.gr.block k (h.sw.gl.lt hk) (fun e=>by
  rcases e with e|e|e|e
  ·exact h2.sw.low k e hk
  ·exact h2.hG (e ▸ hk)
  ·exact h2.sw.rK (e ▸ hk)
  ·exact h2.sw.rJ (e ▸ hk)))
 refine ⟨(hb xb (.inr (.inl (.inl rfl))) (ax h.st)).trans h.st,h.hG,⟨cJ,cX,h.sw.low,(hb sb (.inr (.inl (.inr (.inl rfl)))) (ax h.sw.blk)).trans h.sw.blk,jP h.sw.cm (hb cb (.inr (.inl (.inr (.inr rfl)))) h.sw.cm.lt),jP h.sw.tm (hb tb (.inr (.inr rfl)) h.sw.tm.lt),h.sw.sk,h.sw.sq,h.sw.rJ,h.sw.vq,h.sw.rK,h.sw.ne⟩,?_,h.ok,h.mem,h.len,h.ft,h.c0,h.c1,h.good,h.use,h.r0,h.r1⟩;exact (hg.gr.block db (ax h.bd) (h2.gh h.bd (by decide) (by decide) (by decide) (by decide) (by decide) (by decide))).trans h.bd
theorem aI.tight {w:World} {sb:Nat} {s:ai} {cb tb nc nt:Nat} {cl:List (List Nat)} {Dt:DataW Value} (h:aI w sb s cb tb nc nt (cD cl) Dt):aI w sb s cb tb cl.length nt (cD cl) Dt :=
 ⟨h.ay,h.gl,h.low,h.blk,PB h.cm,h.tm,h.sk,h.sq,h.rJ,h.vq,h.rK,h.ne⟩
def mP (w w':World) (db xb sb cb:Nat) (s:ai) (tb:Nat) (A':aN) (r:Int) (n cu:Nat):Prop:=∃ s' zx cl',ar (sS xb sb cb) s s' w w'/\(zx=tb∨w.heap.size<=zx)/\SA w' db xb sb cb s' zx cl' A' r n cu
theorem SA.mono {w:World} {db xb sb cb:Nat} {s:ai} {tb:Nat} {cl:List (List Nat)} {A:aN} {r:Int} {n cu m cv:Nat} (h:SA w db xb sb cb s tb cl A r n cu) (hm:n<=m) (hc:cu<=cv):SA w db xb sb cb s tb cl A r m cv :=
 ⟨h.st,h.hG,h.sw,h.bd,h.ok,h.mem,Nat.le_trans h.len hm,h.ft,h.c0,by have:=h.c1;omega,h.good,h.use,h.r0,h.r1⟩
theorem SA.same {w w':World} {db xb sb cb:Nat} {s:ai} {tb:Nat} {cl:List (List Nat)} {A:aN} {r:Int} {n cu:Nat} (h:SA w db xb sb cb s tb cl A r n cu) (hg:ar (sS xb sb cb) s s w w') (hx:ej w' xb sb) (hst:aI w' sb s cb tb cl.length A.tg.length (cD cl) (tD A.tg)):SA w' db xb sb cb s tb cl A r n cu :=
 ⟨hx,h.hG,hst,h.zy hg,h.ok,h.mem,h.len,h.ft,h.c0,h.c1,h.good,h.use,h.r0,h.r1⟩
theorem SA.still {w w':World} {db xb sb cb:Nat} {s:ai} {tb:Nat} {cl:List (List Nat)} {A:aN} {r:Int} {n cu:Nat} (h:SA w db xb sb cb s tb cl A r n cu) (hg:ar (sS xb sb cb) s s w w') (hx:ej w' xb sb) (hst:aI w' sb s cb tb cl.length A.tg.length (cD cl) (tD A.tg)):mP w w' db xb sb cb s tb A r (n+1) (cu+n+20) :=
 ⟨s,tb,cl,hg,.inl rfl,(h.same hg hx hst).mono (Nat.le_succ n) (by omega)⟩
theorem QoC (fl:List (ByteArray × ByteArray)) (h:fl.length<=2):(jq fl).length<=8:=by rw [JC,Ue];omega
theorem QoD (n:Nat) (h:n<=2):(tV n).length<=3:=by
 unfold tV
 split
 ·decide
 ·rw [List.length_append];simp [CC];omega
theorem QoE {D D':DS} {L C B:Nat} {fl:List (ByteArray × ByteArray)} {k:Int} (hf:au D L C B) (h2:fl.length<=2) (hw:gK D fl k D'):0<=D'.R.count/\D'.R.count<=((C+20:Nat):Int):=by
 unfold gK at hw
 by_cases he:fl = []
 ·rw [if_pos he] at hw;obtain ⟨_,rfl⟩:=hw;have:=hf.c1;exact ⟨hf.c0,by omega⟩
 ·rw [if_neg he] at hw;obtain ⟨m,D1,hr,h3⟩:=hw;have f1:=hf.ran hr;have h8:=QoC fl h2
  rcases h3 with ⟨_,rfl⟩|⟨_,h3⟩
  ·have:=f1.c1;exact ⟨f1.c0,by omega⟩
  ·have f2:=f1.CD h3;have h9:=QoD (min m fl.length) (by omega);have:=f2.c1;exact ⟨f2.c0,by omega⟩
structure Pl where
 need:Nat
 txt:ByteArray
 err:Int
 nx:aN
def Pl.run (r:Int) (A:aN) (p:Pl):ByteArray × Int × aN:=if (dD A:Int)+(p.need:Int)<=r then (p.txt,p.err,p.nx) else (⟨#[]⟩,4,A)
theorem Pl.jy {r:Int} {A:aN} {p:Pl} (h:(dD A:Int)+(p.need:Int)<=r):p.run r A=(p.txt,p.err,p.nx):=if_pos h
theorem Pl.zz {r:Int} {A:aN} {p:Pl} (h:r<(dD A:Int)+(p.need:Int)):p.run r A=(⟨#[]⟩,4,A):=if_neg (by omega)
def dr (b:ByteArray):ByteArray:=fV (ak b)
def jZ (A:aN) (n:ByteArray):Bool:=(aQ TE.n n A.tg).isSome || decide (A.tg.length<8)
def dn (A:aN) (b:ByteArray):Option ByteArray:=aQ kC (kC b) A.cs
def b8 (A:aN) (b:ByteArray):Option ByteArray:=match dn A b with|some _=>none|none=>some b
def nW (A:aN) (n b:ByteArray):List TE:=ag TE.n ⟨n,ak b,(((dn A b).getD b).size:Int)⟩ A.tg
def El (A:aN) (b:ByteArray):Pl:=⟨jz (b8 A b)+iy A.tg A.tg,dr b,0,⟨ia A.cs (b8 A b),A.tg⟩⟩
def pF (A:aN) (n b:ByteArray):Pl:=if jZ A n then ⟨jz (b8 A b)+iy A.tg (nW A n b),dr b,0,⟨ia A.cs (b8 A b),nW A n b⟩⟩ else ⟨0,⟨#[]⟩,12,A⟩
def Cr (A:aN) (n b:ByteArray):Pl:=if (dn A b).isSome then (if jZ A n then ⟨jz none+iy A.tg (nW A n b),⟨#[]⟩,0,⟨A.cs,nW A n b⟩⟩ else ⟨0,⟨#[]⟩,12,A⟩) else ⟨0,⟨#[]⟩,10,A⟩
def Cs (A:aN) (n:ByteArray):Pl:=if (aQ TE.n n A.tg).isSome then ⟨jz none+iy A.tg (aB TE.n n A.tg),⟨#[]⟩,0,⟨A.cs,aB TE.n n A.tg⟩⟩ else ⟨0,⟨#[]⟩,10,A⟩
def Ct (A:aN) (b:ByteArray):Pl:=if (dn A b).isSome then (if bD (ak b) A.tg then ⟨0,⟨#[]⟩,11,A⟩ else ⟨0,⟨#[]⟩,0,⟨aB kC (kC b) A.cs,A.tg⟩⟩) else ⟨0,⟨#[]⟩,10,A⟩
def tN (A:aN):Nat:=(dp A.tg (iw A)).length
def GV (A:aN):Pl:=⟨0,⟨(Lib.itoa (tN A:Int)).toArray⟩,0,⟨nX A,A.tg⟩⟩
theorem Cq {A:aN} {b:ByteArray} (hb:b.size<=300):∀ x,b8 A b=some x->aQ kC (kC x) A.cs=none/\x.size<=300:=fun x hx=>by
 unfold b8 dn at hx
 cases hf:aQ kC (kC b) A.cs with
 | some c=>rw [hf] at hx;cases hx
 | none =>
  rw [hf] at hx;injection hx with hx
  subst hx;exact ⟨hf,hb⟩
theorem QjP {A:aN} {b y:ByteArray} (hn:b8 A b=some y):y=b/\aQ kC (kC b) A.cs=none:=by
 unfold b8 dn at hn
 cases hf:aQ kC (kC b) A.cs with
 | some c=>rw [hf] at hn;cases hn
 | none =>
  rw [hf] at hn;injection hn with hn
  exact ⟨hn.symm,rfl⟩
theorem aG.new {A:aN} (g:aG A) {b:ByteArray} (hb:b.size<=300):aG ⟨ia A.cs (b8 A b),A.tg⟩:=by
 cases hn:b8 A b with
 | none=>exact g
 | some x=>exact g.ins (Cq hb x hn).2 (Cq hb x hn).1
theorem QrR {A:aN} (g:aG A) (b:ByteArray):((dn A b).getD b)∈ia A.cs (b8 A b)/\ak ((dn A b).getD b)=ak b:=by
 unfold b8
 cases hf:dn A b with
 | some c =>
  obtain ⟨h1,h2⟩:=Eh hf;exact ⟨h1,h2⟩
 | none =>
  refine ⟨?_,rfl⟩;exact (Ek (fun a ha e=>absurd e (tL hf a ha)) g.rise).2 (.inl rfl)
theorem Mh {A:aN} (g:aG A) {n:ByteArray} {d:List Nat} {z:Int} (h:jZ A n=true):(ag TE.n ⟨n,d,z⟩ A.tg).length<=8:=by
 unfold jZ at h
 cases hf:aQ TE.n n A.tg with
 | some t =>
  obtain ⟨h1,h2⟩:=tT hf;rw [QjX (t:=⟨n,d,z⟩) g.tr ⟨t,h1,h2⟩];exact g.t8
 | none =>
  rw [hf] at h;simp at h;have:=AP (key:=TE.n) ⟨n,d,z⟩ A.tg;omega
theorem aG.GU {A:aN} (g:aG A) {n b:ByteArray} (hb:b.size<=300) (hn:n.size<=20) (aW:eP n=true) (h:jZ A n=true):aG ⟨ia A.cs (b8 A b),nW A n b⟩:=by
 obtain ⟨h1,h2⟩:=QrR g b;have h3:=(g.new hb).tag (n:=n) h1 hn aW (Mh g h);unfold nW;rw [<- h2];exact h3
theorem aG.oM {A:aN} (g:aG A) (b:ByteArray):∀ t∈A.tg,t.d=ak b->t.z=(((dn A b).getD b).size:Int):=by
 cases hf:dn A b with
 | some c=>exact g.told hf
 | none=>exact g.untold hf
def aH (D:DS):DS:=⟨{ D.R with left := -1 },D.fs,D.fd⟩
structure Rq (D:DS) (A:aN) (r:Int):Prop where
 ft:dY (aH D) (fA A) r 2000
 l0 : -1<=D.R.left
 l1:D.R.left<=9223372036854775807
theorem Rq.vw {D:DS} {A:aN} {r:Int} (h:Rq D A r):iQ D=fA A:=h.ft.wh.vw
theorem j3 {D:DS} {F:List FF} (hv:iQ D=F) {p:ByteArray} (hp:aK p=true):cr D p=(aQ FF.p p F).map FF.t:=by
 subst hv;unfold cr iQ;rw [if_neg (by rw [hp];decide),JN]
 cases aO p D.R.now with
 | none=>rfl
 | some g=>rfl
theorem JR (A:aN):aQ FF.p bB (fA A)=some (ff bB (aL A.tg)):=by
 rw [uU,GW (fun b=>TX b)];unfold oL;rw [ib,if_pos (show (ff bB (aL A.tg)).p=bB from rfl)];rfl
theorem EN (A:aN):aQ FF.p bK (fA A)=some (ff bK pX):=by
 rw [uU,GW (fun b=>QjI b)];unfold oL;rw [ib,if_neg (show ¬ (ff bB (aL A.tg)).p=bK by show ¬ bB=bK;decide),ib,if_neg (show ¬ (ff bo ⟨#[]⟩).p=bK by show ¬ bo=bK;decide),ib,if_pos (show (ff bK pX).p=bK from rfl)];rfl
theorem QhX {a b:ByteArray} (h:bJ a b=true):leB b a=false:=by
 unfold leB;have h1:bJ b a=false:=by
  cases h2:bJ b a with
  | false=>rfl
  | true=>have:=uA h h2;rw [mo] at this;cases this
 rw [gX] at h1;have h3:(b.toList == a.toList)=false:=by
  rw [beq_eq_false_iff_ne];intro e;exact pg h (by
   have:b.data.toList=a.data.toList:=by simpa [ByteArray.toList_eq] using e
   cases a;cases b
   simp only [ByteArray.mk.injEq] at this ⊢;exact (Array.toList_inj.1 this).symm)
 rw [h3,Bool.or_false];simpa [ByteArray.toList_eq] using h1
theorem QqZ {a:ByteArray} (h:eP a=true):leB a ⟨#[]⟩=false:=by
 refine QhX ?_;rw [gX];have h1:1<=a.size:=by
  unfold eP at h;simp only [Bool.and_eq_true,decide_eq_true_eq] at h;exact h.1.1.1
 cases hl:a.data.toList with
 | nil =>
  have:a.data.toList.length=0:=by rw [hl];rfl
  rw [Array.length_toList] at this;have h2:a.size=a.data.size:=rfl;omega
 | cons x xs=>rfl
theorem Nl {l:List TE} {k:Nat} (hk:k<l.length):(l.map TE.tg).getD k default=(l[k]'hk).tg:=by
 rw [List.getD_eq_getElem?_getD,List.getElem?_map,List.getElem?_eq_getElem hk];rfl
theorem Qo3 {l:List TE} (aF:∀ t∈l,t.Ok) (ht:∀ t∈l,eP t.n=true) (hr:lF l):∀ k,k<(l.map TE.tg).length->uz (l.map TE.tg) k=true:=fun k hk=>by
 rw [List.length_map] at hk;have h1:=aF _ (List.getElem_mem hk);have h2:=ht _ (List.getElem_mem hk);have h3:leB (l[k]'hk).n (I0 (l.map TE.tg) k)=false:=by
  cases k with
  | zero=>exact QqZ h2
  | succ k =>
   show leB _ ((l.map TE.tg).getD k default).name=false;rw [Nl (show k<l.length by omega)];exact QhX (List.pairwise_iff_getElem.1 hr k (k+1) (by omega) hk (by omega))
 unfold uz;rw [Nl hk];have h4:fE (l[k]'hk).tg.dig=true:=Pp _ h1.lt;have h5:eP (l[k]'hk).tg.name=true:=h2;have h6:leB (l[k]'hk).tg.name (I0 (l.map TE.tg) k)=false:=h3;have h7:(0:Int)<=(l[k]'hk).tg.size/\(l[k]'hk).tg.size<=300:=⟨h1.z0,h1.z1⟩;rw [h4,h5,h6];simp [h7.1,h7.2]
theorem Ia {A:aN} (g:aG A):∃ c,kT (aL A.tg) = .ok (A.tg.map TE.en) c:=by
 obtain ⟨r,hr⟩:=Qkr (Qo3 g.tok g.tS g.tr) (by rw [List.length_map];exact g.t8);rw [List.length_map,List.map_map] at hr;have e1:(aL A.tg).data.toList=dM (A.tg.map TE.tg) A.tg.length ++ [93,125]:=by unfold aL;simp
 have e2:A.tg.map (Tg.en ∘ TE.tg)=A.tg.map TE.en:=rfl;rw [<- e1,e2] at hr;exact Qp6 hr
theorem Rq.qui {D:DS} {A:aN} {r:Int} (h:Rq D A r) (g:aG A):JS D A.tg:=by
 obtain ⟨c,hc⟩:=Ia g;refine ⟨⟨aL A.tg,c,?_,vZ g.tok g.t8,hc⟩,g.tok,g.tr,g.t8,?_,?_,?_⟩
 ·rw [j3 h.vw uW,JR];rfl
 ·rw [vB,j3 h.vw pM,xj];rfl
 ·rw [j3 h.vw (by decide),AQ];rfl
 ·rw [j3 h.vw (by decide),EN];rfl
theorem Qj4 (d:List Nat):bW d=se++fV d:=by
 unfold bW fV;rw [show se=⟨Hm.toArray⟩ from rfl,Vj]
theorem Qtc (p t:ByteArray):wD (p++t) p=true/\EO (p++t) p=t:=by
 have h1:wD (p++t) p=true:=by
  unfold wD;rw [ByteArray.size_append,ByteArray.extract_append_eq_left rfl];simp
 refine ⟨h1,?_⟩;unfold EO;rw [if_pos h1,ByteArray.extract_append_eq_right rfl ByteArray.size_append]
theorem rB {d:List Nat} (h:gz d):jg (bW d)=true/\ou (bW d)=d:=by
 obtain ⟨h1,h2⟩:=Qtc se (fV d);unfold jg ou;rw [Qj4,h1,h2,Pp d h.2];exact ⟨rfl,by rw [if_pos rfl];exact Eg d h.1 h.2⟩
theorem Nn {d:List Nat}:∀ (l:List DE) (c:List (List Nat)),aq dK c->(∀ x∈c,gz x)->(d∈l.foldl (fun c e=>if jg e.path then ag dK (ou e.path) c else c) c ↔ d∈c∨∃ e∈l,jg e.path=true/\d=ou e.path)
 | [],c,_,_=>by simp
 | e::l,c,h,aF=>by
  rw [List.foldl_cons]
  by_cases hd:jg e.path=true
  ·rw [if_pos hd];have hm:∀ x,x∈ag dK (ou e.path) c ↔ x=ou e.path∨x∈c:=fun x=>Ek (fun a ha e2=>GS (aF a ha) (Qc _) e2) h
   rw [Nn l _ (eA _ h) (fun x hx=>by
    rcases (hm x).1 hx with e2|hx
    ·rw [e2];exact Qc _
    ·exact aF x hx),hm]
   constructor
   ·rintro ((h1|h1)|⟨x,hx,h2⟩)
    ·exact .inr ⟨e,by simp,hd,h1⟩
    ·exact .inl h1
    ·exact .inr ⟨x,by simp [hx],h2⟩
   ·rintro (h1|⟨x,hx,h2⟩)
    ·exact .inl (.inr h1)
    ·rcases List.mem_cons.1 hx with rfl|hx
     ·exact .inl (.inl h2.2)
     ·exact .inr ⟨x,hx,h2⟩
  ·rw [if_neg hd,Nn l c h aF]
   constructor
   ·rintro (h1|⟨x,hx,h2⟩)
    ·exact .inl h1
    ·exact .inr ⟨x,by simp [hx],h2⟩
   ·rintro (h1|⟨x,hx,h2⟩)
    ·exact .inl h1
    ·rcases List.mem_cons.1 hx with rfl|hx
     ·exact absurd h2.1 hd
     ·exact .inr ⟨x,hx,h2⟩
theorem Hz {l:List DE}:∀ d∈eK l,gz d:=fun d hd=>by
 rcases (Nn l [] List.Pairwise.nil (fun x hx=>by cases hx)).1 hd with h|⟨e,_,_,h⟩
 ·cases h
 ·rw [h];exact Qc _
theorem Qo4 {l:List TE} {x:FF} (h:x∈oL l):jg x.p=false:=by
 rcases xg h with rfl|rfl|rfl
 ·show jg bB=false;decide +kernel
 ·show jg bo=false;decide +kernel
 ·show jg bK=false;decide +kernel
theorem Rq.cont {D:DS} {A:aN} {r:Int} (h:Rq D A r):∀ d,d∈eK D.R.now ↔ ∃ b∈A.cs,d=ak b:=fun d=>by
 have hv:D.R.now.map (eu D.fd)=fA A:=h.vw;unfold eK;rw [Nn D.R.now [] List.Pairwise.nil (fun x hx=>by cases hx)]
 constructor
 ·rintro (h1|⟨e,he,h1,h2⟩)
  ·cases h1
  ·have hm:eu D.fd e∈fA A:=by rw [<- hv];exact List.mem_map_of_mem he
   unfold fA at hm
   rcases List.mem_append.1 hm with hm|hm
   ·obtain ⟨b,hb,e1⟩:=List.mem_map.1 hm;have e2:kC b=e.path:=congrArg FF.p e1;refine ⟨b,hb,?_⟩;rw [h2,<- e2];exact (rB (jN b)).2
   ·have:=Qo4 hm;rw [show (eu D.fd e).p=e.path from rfl,h1] at this
    cases this
 ·rintro ⟨b,hb,h1⟩;have hm:fC b∈D.R.now.map (eu D.fd):=by
   rw [hv];unfold fA;exact List.mem_append.2 (.inl (List.mem_map_of_mem hb))
  obtain ⟨e,he,e1⟩:=List.mem_map.1 hm;have e2:e.path=kC b:=congrArg FF.p e1;refine .inr ⟨e,he,?_,?_⟩
  ·rw [e2];exact (rB (jN b)).1
  ·rw [e2,h1];exact (rB (jN b)).2.symm
theorem Rq.C3 {D:DS} {A:aN} {r:Int} (h:Rq D A r):nK eW D.R.now = []:=by
 have hv:D.R.now.map (eu D.fd)=fA A:=h.vw;unfold nK;rw [List.map_eq_nil_iff,List.filter_eq_nil_iff];intro p hp;rw [List.mem_reverse] at hp;obtain ⟨e,he,rfl⟩:=List.mem_map.1 hp;have hm:eu D.fd e∈fA A:=by rw [<- hv];exact List.mem_map_of_mem he
 unfold fA at hm
 rcases List.mem_append.1 hm with hm|hm
 ·obtain ⟨b,hb,e1⟩:=List.mem_map.1 hm;have e2:kC b=e.path:=congrArg FF.p e1;unfold eW;rw [<- e2];have:=(rB (jN b)).1;rw [show kC b=bW (ak b) from rfl,this];simp
 ·unfold eW
  rcases xg hm with e1|e1|e1
  ·have e2:e.path=bB:=congrArg FF.p e1;rw [e2];simp
  ·have e2:e.path=bo:=congrArg FF.p e1;rw [e2];simp
  ·have e2:e.path=bK:=congrArg FF.p e1;rw [e2];simp
theorem dY.count {D:DS} {F:List FF} {r:Int} {B:Nat} (h:dY D F r B) (c:Int):dY ⟨{ D.R with count:=c },D.fs,D.fd⟩ F r B :=
 ⟨⟨h.wh.vw,h.wh.left,h.wh.room,h.wh.inj,h.wh.ay,h.wh.cH,h.wh.er,⟨h.wh.inv.go,h.wh.inv.ne⟩,h.wh.rise,h.wh.dS,h.wh.ql⟩,h.safe,h.aw,h.vh⟩
theorem Rq.open {D D':DS} {A:aN} {r k:Int} (h:Rq D A r) (hr:vC D k D'):k=0/\Rq D' A r/\(D.R.left = -1->D'.R.left = -1)/\D.R.count<=D'.R.count/\D'.R.count<=D.R.count+1:=by
 obtain ⟨k1,m,D1,h1,h2⟩:=hr;rw [h.C3] at h1;obtain ⟨rfl,rfl,rfl⟩:=h1
 rcases h2 with ⟨h2,_⟩|⟨_,h2⟩
 ·exact absurd rfl h2
 ·by_cases hl:D1.R.left=0
  ·have h3:(k,D')=pc D1:=h2;unfold pc at h3;rw [if_pos hl] at h3;injection h3 with h3 h4
   rw [h3,h4];exact ⟨rfl,h,fun e=>e,Int.le_refl _,by omega⟩
  ·obtain ⟨rfl,rfl⟩:=KR h2 hl;have hs:D1.R.safe=D1.R.now:=h.ft.safe;have hc:D1.R.aw = []:=h.ft.aw;have e:aH ⟨dz.wrote { D1.R with safe:=D1.R.now,aw:=[] },D1.fs,D1.fd⟩=⟨{ (aH D1).R with count:=D1.R.count+1 },(aH D1).fs,(aH D1).fd⟩:=by
    unfold aH dz.wrote;dsimp only;rw [hs,hc]
   have h0:=h.l0;have h9:=h.l1;refine ⟨rfl,⟨?_,?_,?_⟩,fun e=>?_,?_,?_⟩
   ·rw [e];exact h.ft.count _
   ·show -1<=(if 0<D1.R.left then D1.R.left - 1 else D1.R.left)
    split<;>omega
   ·show (if 0<D1.R.left then D1.R.left - 1 else D1.R.left)<=_
    split<;>omega
   ·show (if 0<D1.R.left then D1.R.left - 1 else D1.R.left) = -1;rw [e];rfl
   ·show D1.R.count<=D1.R.count+1;omega
   ·show D1.R.count+1<=D1.R.count+1;omega
theorem Rq.crash {D:DS} {A:aN} {r:Int} (h:Rq D A r) (n:Nat) (ks:List Int):I9 D n ks=aH D:=by
 have hs:D.R.safe=D.R.now:=h.ft.safe;have hc:D.R.aw = []:=h.ft.aw;have h1:fh D.R.safe (D.R.aw.take n)=D.R.now:=by rw [hc,List.take_nil,hs];rfl
 have hv:D.R.now.map (eu D.fd)=fA A:=h.vw;unfold I9 aH;rw [h1,YY _ _ _ (fun e he k=>by
  have hm:eu D.fd e∈fA A:=by rw [<- hv];exact List.mem_map_of_mem he
  have:=h.ft.vh _ hm;have e2:D.fd e.blk=((D.fd e.blk).1,((D.fd e.blk).1.size:Int)):=by
   have h3:(D.fd e.blk).2=((D.fd e.blk).1.size:Int):=this;rw [<- h3]
  rw [e2];exact QnE _ k)]
 obtain ⟨⟨room,now,safe,aw,count,left⟩,fs,fd⟩:=D;simp only at hs hc;subst hs hc;rfl
theorem Rq.off {D:DS} {A:aN} {r:Int} (h:Rq D A r):Rq (aH D) A r:=⟨h.ft,by show (-1:Int) <= -1;decide,by show (-1:Int)<=_;decide⟩
theorem QlW {s so:ai} {ψ:ByteArray->Nat} {w:World} {F:List FF} {r:Int} (h:dY (aH s.ds) F r 2000) (g:∀ x∈F,x.t.size<=2000) (Jj:so.In w) (hR:so.R=⟨s.R.room,so.R.now,so.R.now,[],0, -1⟩) (hc:iF s so ψ (fun _=>false)):dY so.cut.ds F r 2000/\so.R.count=0:=by
 have rC:so.R.safe=so.R.now:=by rw [hR]
 have C4:so.R.aw = []:=by rw [hR]
 have rD:so.R.left = -1:=by rw [hR]
 have hroom:so.R.room=s.R.room:=by rw [hR]
 have Ib:so.R.count=0:=by rw [hR]
 have ba:bZ so.R.now:=PM.rise Jj.is.now (Maps.string_keyed Tryz.underlying9);have hw:=h.wh;have Np:∀ x,aO x so.R.now=(aO x s.R.now).map fun _=>ψ x:=fun x=>by simpa using hc.SR x
 have EP:∀ x,aQ FF.p x F=(aO x s.R.now).map fun f=>⟨x,(s.fd f).1,(s.fd f).2⟩:=fun x=>hw.look x
 have hback:∀ e∈so.R.now,∃ f,aO e.path s.R.now=some f/\e.blk=ψ e.path/\so.fd e.blk=((s.fd f).1,((s.fd f).1.size:Int)):=fun e he=>by
  have h1:=RF ba e he;rw [Np] at h1
  cases h2:aO e.path s.R.now with
  | none=>rw [h2] at h1;cases h1
  | some f =>
   rw [h2] at h1;injection h1 with h1
   refine ⟨f,rfl,h1.symm,?_⟩;rw [<- h1];exact hc.dS _ f rfl h2
 have Nq:∀ x f,aO x s.R.now=some f->(s.fd f).2=((s.fd f).1.size:Int)/\(s.fd f).1.size<=2000:=fun x f hf=>by
  have h1:=EP x;rw [hf] at h1;have h2:=(tT h1).1;exact ⟨h.vh _ h2,g _ h2⟩
 have hib:∀ e∈so.R.now,e.blk∈so.cut.fs:=fun e he=>List.mem_map.2 ⟨e,he,rfl⟩
 have hne:vX so.R.now:=fun e he e2=>by
  obtain ⟨f,hf,_⟩:=hback e he;exact hw.inv.kg _ (r6 hf) e2
 refine ⟨⟨⟨?_,rD,?_,?_,hib,?_,?_,⟨?_,?_⟩,?_,?_,?_⟩,rC,C4,h.vh⟩,Ib⟩
 ·refine rZ (key:=FF.p) (by unfold iQ aq;rw [List.pairwise_map];exact ba) hw.ei (fun x=>?_);rw [EP x];show aQ FF.p x (so.R.now.map (eu so.fd))=_;rw [JN,Np]
  cases hf:aO x s.R.now with
  | none=>rfl
  | some f =>
   have h1:=hc.dS x f rfl hf;have h2:=(Nq x f hf).1;simp only [Option.map_some];rw [h1,h2]
 ·show so.R.room=r;rw [hroom];exact hw.room
 ·intro e he e' vE hb;obtain ⟨f,hf,h1,_⟩:=hback e he;obtain ⟨f',hf',h1',_⟩:=hback e' vE;have h2:e.path=e'.path:=hc.inj _ _ rfl rfl (by rw [hf];rfl) (by rw [hf'];rfl) (by rw [<- h1,<- h1',hb]);obtain ⟨p,b⟩:=e;obtain ⟨p',b'⟩:=e';simp only at h2 hb;rw [h2,hb]
 ·intro e he;have he:e∈so.R.safe:=he;rw [rC] at he;exact hib e he
 ·intro c hc2;have hc2:c∈so.R.aw:=hc2;rw [C4] at hc2
  cases hc2
 ·show so.R.now=fh so.R.safe so.R.aw;rw [rC,C4];rfl
 ·show vX so.R.safe;rw [rC];exact hne
 ·show bZ so.R.safe;rw [rC];exact ba
 ·intro f hf;obtain ⟨e,he,rfl⟩:=List.mem_map.1 hf;obtain ⟨f',hf',_,hd⟩:=hback e he;show dA 2000 (so.fd e.blk);rw [hd];exact ⟨(Nq _ _ hf').2,by show (0:Int)<=_;omega,Int.le_refl _⟩
 ·intro c hc2;have hc2:c∈so.R.aw:=hc2;rw [C4] at hc2
  cases hc2
theorem Qtd {s so:ai} {ψ:ByteArray->Nat} {w:World} {A:aN} {r:Int} (h:Rq s.ds A r) (g:∀ x∈fA A,x.t.size<=2000) (Jj:so.In w) (hR:so.R=⟨s.R.room,so.R.now,so.R.now,[],0, -1⟩) (hc:iF s so ψ (fun _=>false)):dY so.cut.ds (fA A) r 2000/\so.R.count=0:=QlW h.ft g Jj hR hc
section
variable {w:World} {db xb sb cb:Nat} {s:ai} {tb:Nat} {cl:List (List Nat)} {A:aN} {r:Int} {n cu:Nat}
theorem SA.AK (h:SA w db xb sb cb s tb cl A r n cu) (b:ByteArray):eG s.ds (ak b)=dn A b:=QoA h.ft.wh (jN b)
theorem SA.rd (h:SA w db xb sb cb s tb cl A r n cu) (b:ByteArray):cr s.ds (bW (ak b))=dn A b:=TT h.ft.wh (ak b)
theorem SA.dX (h:SA w db xb sb cb s tb cl A r n cu) {b t:ByteArray} (ht:dn A b=some t):t.size<=300:=h.good.sz t (Eh ht).1
theorem SA.oY (h:SA w db xb sb cb s tb cl A r n cu) (b:ByteArray):oY s.ds (ak b) b=AO (b8 A b):=by
 unfold Go.Proofs.YtncigfibncmioaaGreatDoor.oY b8;rw [h.AK b]
 cases dn A b with
 | none=>rfl
 | some c=>rfl
theorem SA.j6 (h:SA w db xb sb cb s tb cl A r n cu) (b:ByteArray):j6 s.ds (ak b) b=(dn A b).getD b:=by
 unfold Go.Proofs.YtncigfibncmioaaGreatDoor.j6;rw [h.AK b]
theorem SA.put (h:SA w db xb sb cb s tb cl A r n cu) (b:ByteArray):gT (ak b) (Go.Proofs.YtncigfibncmioaaGreatDoor.j6 s.ds (ak b) b).size A.tg=A.tg:=by
 rw [h.j6 b];exact Mf (h.good.oM b)
theorem SA.sF (h:SA w db xb sb cb s tb cl A r n cu) (m b:ByteArray):sF s.ds (ak b) m b A.tg=nW A m b:=by
 unfold Go.Proofs.YtncigfibncmioaaGreatDoor.sF nW;rw [h.j6 b];exact Mg (h.good.oM b)
theorem Quy (d:List Nat) (cl:List (List Nat)) (hr:aq dK cl):qg (cD cl) d=cD (ag dK d cl):=by
 unfold qg;rw [Ei];exact Jy (key:=dK) (val:=fun _=>.agg #[]) d cl hr
theorem SA.Ej (h:SA w db xb sb cb s tb cl A r n cu) (b:ByteArray):qg (cD cl) (ak b)=cD (ag dK (ak b) cl)/\(∀ d∈ag dK (ak b) cl,gz d)/\∀ d,d∈ag dK (ak b) cl ↔ ∃ x∈ia A.cs (b8 A b),d=ak x:=by
 have hr:aq dK cl:=GQ h.sw.cm rY;have hm:∀ d,d∈ag dK (ak b) cl ↔ d=ak b∨d∈cl:=fun d=>Ek (fun a ha e=>GS (h.ok a ha) (jN b) e) hr
 refine ⟨Quy _ cl hr,fun d hd=>?_,fun d=>?_⟩
 ·rcases (hm d).1 hd with e|hd
  ·rw [e];exact jN b
  ·exact h.ok d hd
 ·rw [hm];have hc:=QrR h.good b
  constructor
  ·rintro (e|hd)
   ·exact ⟨_,hc.1,e.trans hc.2.symm⟩
   ·obtain ⟨x,hx,e⟩:=(h.mem d).1 hd;refine ⟨x,?_,e⟩
    cases hn:b8 A b with
    | none=>exact hx
    | some y =>
     obtain ⟨e9,hy⟩:=QjP hn;rw [<- e9] at hy;exact (Ek (fun a ha e=>absurd e (tL hy a ha)) h.good.rise).2 (.inr hx)
  ·rintro ⟨x,hx,e⟩
   cases hn:b8 A b with
   | none =>
    rw [hn] at hx;exact .inr ((h.mem d).2 ⟨x,hx,e⟩)
   | some y =>
    have hy:=QjP hn;rw [hn,hy.1] at hx
    rcases (Ek (fun a ha e=>absurd e (tL hy.2 a ha)) h.good.rise).1 hx with rfl|hx
    ·exact .inl e
    ·exact .inr ((h.mem d).2 ⟨x,hx,e⟩)
theorem Qor (cs:List ByteArray) (nb:Option ByteArray):(ia cs nb).length<=cs.length+1:=by
 cases nb with
 | none=>exact Nat.le_succ _
 | some b=>exact AP b cs
theorem SA.made {w':World} {s':ai} {t2 nc:Nat} {A':aN} {cl':List (List Nat)} {fl:List (ByteArray × ByteArray)} {k:Int} (h:SA w db xb sb cb s tb cl A r n cu) (hg:ar (sS xb sb cb) s s' w w') (hx:ej w' xb sb) (hw:gK s.ds fl k s'.ds) (gZ:fl.length<=2) (fU:t2=tb∨w.heap.size<=t2)
  (hst:aI w' sb s' cb t2 nc A'.tg.length (cD cl') (tD A'.tg)) (aF:∀ d∈cl',gz d) (bc:∀ d,d∈cl' ↔ ∃ b∈A'.cs,d=ak b) (hlen:A'.cs.length<=n+1) (hr:dY s'.ds (fA A') r 2000) (hgd:aG A') (hu:(dD A':Int)<=r):mP w w' db xb sb cb s tb A' r (n+1) (cu+n+20):=by
 have hc:=QoE h.fit gZ hw;refine ⟨s',t2,cl',hg,fU,hx,h.hG,hst.tight,h.zy hg,aF,bc,hlen,hr,hc.1,?_,hgd,hu,h.r0,h.r1⟩;have:=hc.2;omega
theorem Qos (fl:List (ByteArray × ByteArray)) (l l':List TE) (h:fl.length<=1):(ng fl l l').length<=2:=by
 unfold ng
 split
 ·omega
 ·rw [List.length_append];simp;omega
theorem Qot (nb:Option ByteArray):(AO nb).length<=1:=by cases nb<;>simp [AO]
theorem SA.changed {w':World} {s':ai} {k:Int} {nb:Option ByteArray} {l':List TE} {txt:ByteArray} {cl':List (List Nat)} {nc:Nat} (h:SA w db xb sb cb s tb cl A r n cu) (hg:ar (sS xb sb cb) s s' w w') (hx:ej w' xb sb) (hw:gK s.ds (ng (AO nb) A.tg l') k s'.ds)
  (tM:∀ b,nb=some b->aQ kC (kC b) A.cs=none/\b.size<=300) (hgd:aG ⟨ia A.cs nb,l'⟩)
  (h0:k=0->∃ t2,w.heap.size<=t2/\aI w' sb s' cb t2 nc l'.length (cD cl') (tD l')) (h1:k≠0->aI w' sb s' cb tb cl.length A.tg.length (cD cl) (tD A.tg))
  (aF:∀ d∈cl',gz d) (bc:∀ d,d∈cl' ↔ ∃ b∈ia A.cs nb,d=ak b) :
  ((k=0/\Pl.run r A ⟨jz nb+iy A.tg l',txt,0,⟨ia A.cs nb,l'⟩⟩=(txt,0,⟨ia A.cs nb,l'⟩))∨(k=4/\Pl.run r A ⟨jz nb+iy A.tg l',txt,0,⟨ia A.cs nb,l'⟩⟩=(⟨#[]⟩,4,A))) /\
  mP w w' db xb sb cb s tb (Pl.run r A ⟨jz nb+iy A.tg l',txt,0,⟨ia A.cs nb,l'⟩⟩).2.2 r (n+1) (cu+n+20):=by
 have gZ:=Qos (AO nb) A.tg l' (Qot nb)
 rcases Qqu h.ft h.good h.use nb tM l' hgd.tok hgd.t8 hw with ⟨x1,rfl,x3⟩|⟨x1,rfl,x3⟩
 ·have hrun:=Pl.jy (p:=⟨jz nb+iy A.tg l',txt,0,⟨ia A.cs nb,l'⟩⟩) x1;obtain ⟨t2,fU,hst⟩:=h0 rfl;rw [hrun];refine ⟨.inl ⟨rfl,rfl⟩,h.made hg hx hw gZ (.inr fU) hst aF bc ?_ x3 hgd ?_⟩
  ·have:=Qor A.cs nb;have:=h.len;show (ia A.cs nb).length<=n+1;omega
  ·have h2:=QlH h.good.rise nb (fun b hb=>(tM b hb).1) l';show (dD ⟨ia A.cs nb,l'⟩ : Int)<=r;omega
 ·have hrun:=Pl.zz (p:=⟨jz nb+iy A.tg l',txt,0,⟨ia A.cs nb,l'⟩⟩) x1;rw [hrun];refine ⟨.inr ⟨rfl,rfl⟩,h.made hg hx hw gZ (.inl rfl) (h1 (by decide)) h.ok h.mem ?_ x3 h.good h.use⟩;have:=h.len;show A.cs.length<=n+1;omega
theorem Qvz (h:SA w db xb sb cb s tb cl A r n cu) (hn:n<=300000) (gi:cu<=90000000000) (b:ByteArray) (hb:b.size<=300) :
  Calls Tryz.prog 30 #[.pointer (some ⟨xb,0,none⟩),.string b] w fun e w'=>e = .returned (.tuple #[.string ((El A b).run r A).1,.int .i64 ((El A b).run r A).2.1])/\mP w w' db xb sb cb s tb ((El A b).run r A).2.2 r (n+1) (cu+n+20):=by
 refine (Xp xb sb s cb tb cl.length (cD cl) A.tg b w h.st h.hG h.sw hb (fun t ht=>h.dX ((h.AK b).symm.trans ht)) (by have:=h.qW;omega) (fun t ht=>by have:=h.dX ((h.rd b).symm.trans ht);omega) h.good.tok h.good.t8 h.fit (Em hn gi)).mono ?_;rintro e w' ⟨k,s',rfl,hg,hx,hw,h0,h1⟩;rw [h.oY b,h.put b] at hw;obtain ⟨c1,c2,c3⟩:=h.Ej b;obtain ⟨q1,q2⟩:=h.changed (txt:=dr b) hg hx hw (Cq hb) (h.good.new hb) (fun hk=>by
  obtain ⟨t2,a1,a2⟩:=h0 hk;rw [h.put b,c1] at a2;exact ⟨t2,a1,a2⟩) h1 c2 c3
 refine ⟨?_,q2⟩
 rcases q1 with ⟨rfl,q1⟩|⟨rfl,q1⟩
 ·show _=Ending.returned (.tuple #[.string ((Pl.run r A ⟨jz (b8 A b)+iy A.tg A.tg,dr b,0,⟨ia A.cs (b8 A b),A.tg⟩⟩)).1,.int .i64 ((Pl.run r A ⟨jz (b8 A b)+iy A.tg A.tg,dr b,0,⟨ia A.cs (b8 A b),A.tg⟩⟩)).2.1]);rw [q1];rfl
 ·show _=Ending.returned (.tuple #[.string ((Pl.run r A ⟨jz (b8 A b)+iy A.tg A.tg,dr b,0,⟨ia A.cs (b8 A b),A.tg⟩⟩)).1,.int .i64 ((Pl.run r A ⟨jz (b8 A b)+iy A.tg A.tg,dr b,0,⟨ia A.cs (b8 A b),A.tg⟩⟩)).2.1]);rw [q1];rfl
theorem Pl.dO (h:SA w db xb sb cb s tb cl A r n cu) (t:ByteArray) (e:Int) (A':aN):Pl.run r A ⟨0,t,e,A'⟩=(t,e,A'):=Pl.jy (by have:=h.use;show (dD A:Int)+((0:Nat):Int)<=r;omega)
theorem Quz (h:SA w db xb sb cb s tb cl A r n cu) (hn:n<=300000) (gi:cu<=90000000000) (m b:ByteArray) (hm:m.size<=20) (aW:eP m=true) (hb:b.size<=300) :
  Calls Tryz.prog 25 #[.pointer (some ⟨xb,0,none⟩),.string m,.string b] w fun e w'=>e = .returned (.tuple #[.string ((pF A m b).run r A).1,.int .i64 ((pF A m b).run r A).2.1])/\mP w w' db xb sb cb s tb ((pF A m b).run r A).2.2 r (n+1) (cu+n+20):=by
 unfold pF
 cases bF:jZ A m with
 | false =>
  rw [if_neg (by decide),Pl.dO h];refine (Xm xb sb s cb tb cl.length (cD cl) A.tg m b w h.st h.hG h.sw h.good.tok (by omega) aW hb bF).mono ?_;rintro e w' ⟨rfl,hg,hx,hst⟩;exact ⟨rfl,h.still hg hx hst⟩
 | true =>
  rw [if_pos rfl];refine (Xn xb sb s cb tb cl.length (cD cl) A.tg m b w h.st h.hG h.sw h.good.tok aW bF hb (fun t ht=>h.dX ((h.AK b).symm.trans ht)) (by have:=h.qW;omega) (fun t ht=>by have:=h.dX ((h.rd b).symm.trans ht);omega) hm h.good.t8 (Mh h.good bF) h.fit (Em hn gi)).mono ?_;rintro e w' ⟨k,s',rfl,hg,hx,hw,h0,h1⟩;rw [h.oY b,h.sF m b] at hw;obtain ⟨c1,c2,c3⟩:=h.Ej b;obtain ⟨q1,q2⟩:=h.changed (txt:=dr b) hg hx hw (Cq hb) (h.good.GU hb hm aW bF) (fun hk=>by
   obtain ⟨t2,a1,a2⟩:=h0 hk;rw [h.sF m b,c1] at a2;exact ⟨t2,a1,a2⟩) h1 c2 c3
  refine ⟨?_,q2⟩
  rcases q1 with ⟨rfl,q1⟩|⟨rfl,q1⟩
  ·rw [q1];rfl
  ·rw [q1];rfl
theorem vY (b:ByteArray):fE (dr b)=true:=Pp _ (Dr b)
theorem ll (b:ByteArray):rd (dr b)=ak b:=Eg _ (E8 b) (Dr b)
theorem QvA (h:SA w db xb sb cb s tb cl A r n cu) (hn:n<=300000) (gi:cu<=90000000000) (m b:ByteArray) (hm:m.size<=20) (aW:eP m=true) (hb:b.size<=300) :
  Calls Tryz.prog 36 #[.pointer (some ⟨xb,0,none⟩),.string m,.string (dr b)] w fun e w'=>((Cr A m b).run r A).1=⟨#[]⟩/\e = .returned (.int .i64 ((Cr A m b).run r A).2.1)/\mP w w' db xb sb cb s tb ((Cr A m b).run r A).2.2 r (n+1) (cu+n+20):=by
 have hh:=h.has b;have hu:=Md cl;unfold Cr
 cases hc:dn A b with
 | none =>
  rw [show aQ kC (kC b) A.cs=none from hc] at hh;rw [if_neg (by simp),Pl.dO h];refine (Xq xb sb s cb tb cl.length (cD cl) A.tg m (dr b) w h.st h.hG h.sw (by omega) aW hu (vY b) (by rw [ll];exact hh)).mono ?_;rintro e w' ⟨rfl,hg,hx,hst⟩;exact ⟨rfl,rfl,h.still hg hx hst⟩
 | some c =>
  rw [show aQ kC (kC b) A.cs=some c from hc] at hh;rw [if_pos (by simp)]
  cases bF:jZ A m with
  | false =>
   rw [if_neg (by decide),Pl.dO h];refine (Xs xb sb s cb tb cl.length (cD cl) A.tg m (dr b) w h.st h.hG h.sw (by omega) aW h.good.tok hu (vY b) (by rw [ll];exact hh) bF).mono ?_;rintro e w' ⟨rfl,hg,hx,hst⟩;exact ⟨rfl,rfl,h.still hg hx hst⟩
  | true =>
   rw [if_pos rfl];refine (Xt xb sb s cb tb cl.length (cD cl) A.tg m (dr b) w h.st h.hG h.sw hm aW h.good.tok hu (vY b) (by rw [ll];exact hh) bF (fun t ht=>by rw [ll] at ht;exact h.dX ((h.rd b).symm.trans ht)) h.good.t8 (Mh h.good bF) h.fit (Em hn gi)).mono ?_;rintro e w' ⟨k,s',rfl,hg,hx,hw,h0,h1⟩;have Pm:wL s.ds (rd (dr b)) m A.tg=nW A m b:=by
    unfold wL nW;rw [ll,h.rd b,hc];have:=Mg (n:=m) (h.good.oM b);rw [hc] at this;exact this
   rw [Pm] at hw h0;have Eo:=h.good.GU hb hm aW bF;have Mi:b8 A b=none:=by unfold b8;rw [hc]
   rw [Mi] at Eo;obtain ⟨q1,q2⟩:=h.changed (nb:=none) (txt:=⟨#[]⟩) (cl':=cl) hg hx hw (fun b hb=>by cases hb) Eo h0 h1 h.ok h.mem
   rcases q1 with ⟨rfl,q1⟩|⟨rfl,q1⟩
   ·refine ⟨congrArg Prod.fst q1,?_,q2⟩;have:=congrArg (fun x=>x.2.1) q1;simp only at this;show _=Ending.returned (.int .i64 (Pl.run r A ⟨jz none+iy A.tg (nW A m b),⟨#[]⟩,0,⟨ia A.cs none,nW A m b⟩⟩).2.1);rw [this]
   ·refine ⟨congrArg Prod.fst q1,?_,q2⟩;have:=congrArg (fun x=>x.2.1) q1;simp only at this;show _=Ending.returned (.int .i64 (Pl.run r A ⟨jz none+iy A.tg (nW A m b),⟨#[]⟩,0,⟨ia A.cs none,nW A m b⟩⟩).2.1);rw [this]
theorem QsS (h:SA w db xb sb cb s tb cl A r n cu) (hn:n<=300000) (gi:cu<=90000000000) (m:ByteArray) (hm:m.size<=20) (aW:eP m=true) :
  Calls Tryz.prog 38 #[.pointer (some ⟨xb,0,none⟩),.string m] w fun e w'=>((Cs A m).run r A).1=⟨#[]⟩/\e = .returned (.int .i64 ((Cs A m).run r A).2.1)/\mP w w' db xb sb cb s tb ((Cs A m).run r A).2.2 r (n+1) (cu+n+20):=by
 unfold Cs
 cases hf:(aQ TE.n m A.tg).isSome with
 | false =>
  rw [if_neg (by decide),Pl.dO h];refine (Xx xb sb s cb tb cl.length (cD cl) A.tg m w h.st h.hG h.sw h.good.tok (by omega) aW hf).mono ?_;rintro e w' ⟨rfl,hg,hx,hst⟩;exact ⟨rfl,rfl,h.still hg hx hst⟩
 | true =>
  rw [if_pos rfl];refine (Xy xb sb s cb tb cl.length (cD cl) A.tg m w h.st h.hG h.sw h.good.tok (by omega) aW hf h.good.t8 h.fit (Em hn gi)).mono ?_;rintro e w' ⟨k,s',rfl,hg,hx,hw,h0,h1⟩;obtain ⟨q1,q2⟩:=h.changed (nb:=none) (txt:=⟨#[]⟩) (cl':=cl) hg hx hw (fun b hb=>by cases hb) (h.good.zA m) h0 h1 h.ok h.mem
  rcases q1 with ⟨rfl,q1⟩|⟨rfl,q1⟩
  ·refine ⟨congrArg Prod.fst q1,?_,q2⟩;have:=congrArg (fun x=>x.2.1) q1;simp only at this;show _=Ending.returned (.int .i64 (Pl.run r A ⟨jz none+iy A.tg (aB TE.n m A.tg),⟨#[]⟩,0,⟨ia A.cs none,aB TE.n m A.tg⟩⟩).2.1);rw [this]
  ·refine ⟨congrArg Prod.fst q1,?_,q2⟩;have:=congrArg (fun x=>x.2.1) q1;simp only at this;show _=Ending.returned (.int .i64 (Pl.run r A ⟨jz none+iy A.tg (aB TE.n m A.tg),⟨#[]⟩,0,⟨ia A.cs none,aB TE.n m A.tg⟩⟩).2.1);rw [this]
theorem SA.ran {w':World} {s':ai} {nc m:Nat} {A':aN} {cl':List (List Nat)} {l:List bU} {k:Int} (h:SA w db xb sb cb s tb cl A r n cu) (hg:ar (sS xb sb cb) s s' w w') (hx:ej w' xb sb) (hr:bM s.ds l k m s'.ds) (hl:l.length<=n+20)
  (hst:aI w' sb s' cb tb nc A'.tg.length (cD cl') (tD A'.tg)) (aF:∀ d∈cl',gz d) (bc:∀ d,d∈cl' ↔ ∃ b∈A'.cs,d=ak b) (hlen:A'.cs.length<=n+1) (wW:dY s'.ds (fA A') r 2000) (hgd:aG A') (hu:(dD A':Int)<=r):mP w w' db xb sb cb s tb A' r (n+1) (cu+n+20):=by
 have hc:=h.fit.ran hr;refine ⟨s',tb,cl',hg,.inl rfl,hx,h.hG,hst.tight,h.zy hg,aF,bc,hlen,wW,hc.c0,?_,hgd,hu,h.r0,h.r1⟩;have:=hc.c1;omega
theorem QrQ (cl:List (List Nat)) (d:List Nat):(cD cl).del (dy d)=cD (aB dK (dK d) cl):=by
 rw [Ei];exact QrU (key:=dK) (val:=fun _=>.agg #[]) (dK d) cl
theorem QvB (h:SA w db xb sb cb s tb cl A r n cu) (hn:n<=300000) (gi:cu<=90000000000) (b:ByteArray) :
  Calls Tryz.prog 39 #[.pointer (some ⟨xb,0,none⟩),.string (dr b)] w fun e w'=>((Ct A b).run r A).1=⟨#[]⟩/\e = .returned (.int .i64 ((Ct A b).run r A).2.1)/\mP w w' db xb sb cb s tb ((Ct A b).run r A).2.2 r (n+1) (cu+n+20):=by
 have hh:=h.has b;have hu:=Md cl;unfold Ct
 cases hc:dn A b with
 | none =>
  rw [show aQ kC (kC b) A.cs=none from hc] at hh;rw [if_neg (by simp),Pl.dO h];refine (Xr xb sb s cb tb cl.length (cD cl) A.tg (dr b) w h.st h.hG h.sw hu (vY b) (by rw [ll];exact hh)).mono ?_;rintro e w' ⟨rfl,hg,hx,hst⟩;exact ⟨rfl,rfl,h.still hg hx hst⟩
 | some c =>
  rw [show aQ kC (kC b) A.cs=some c from hc] at hh;rw [if_pos (by simp)]
  cases ht:bD (ak b) A.tg with
  | true =>
   rw [if_pos rfl,Pl.dO h];refine (Xu xb sb s cb tb cl.length (cD cl) A.tg (dr b) w h.st h.hG h.sw h.good.tok hu (vY b) (by rw [ll];exact hh) (by rw [ll];exact ht)).mono ?_;rintro e w' ⟨rfl,hg,hx,hst⟩;exact ⟨rfl,rfl,h.still hg hx hst⟩
  | false =>
   rw [if_neg (by decide),Pl.dO h];refine (Xh xb sb s cb tb cl.length (cD cl) A.tg (dr b) w h.st h.hG h.sw h.good.tok hu (vY b) (by rw [ll];exact hh) (by rw [ll];exact ht) h.fit (show cZ _ _ _ from ⟨by omega,by omega,by omega⟩)).mono ?_;rintro e w' ⟨k,s',m,rfl,hg,hx,hr,gp⟩;rw [ll] at hr gp;obtain ⟨c1,c2⟩:=Eh hc;obtain ⟨rfl,rfl,wW⟩:=QqN (x:=fC c) h.ft (by unfold fA;exact List.mem_append.2 (.inl (List.mem_map_of_mem c1))) (yl _) (by
    show bM s.ds [fM (kC c),gQ] k m s'.ds;unfold kC;rw [c2];exact hr)
   have B8:(fC c).p=kC b:=by show kC c=kC b;unfold kC;rw [c2]
   rw [B8,TU h.good.rise] at wW
   rcases gp with ⟨hm,_⟩|⟨_,hst⟩
   ·cases hm
   ·rw [QrQ] at hst;refine ⟨rfl,rfl,h.ran (A':=⟨aB kC (kC b) A.cs,A.tg⟩) hg hx hr (by simp) hst (fun d hd=>h.ok d (jA.1 hd).1) (fun d=>?_) ?_ wW (h.good.del ht) ?_⟩
    ·rw [jA,h.mem]
     constructor
     ·rintro ⟨⟨x,hx,e⟩,hne⟩;refine ⟨x,jA.2 ⟨hx,fun e2=>hne ?_⟩,e⟩;rw [e,Mj e2]
     ·rintro ⟨x,hx,e⟩;obtain ⟨x1,x2⟩:=jA.1 hx;refine ⟨⟨x,x1,e⟩,fun e2=>x2 ?_⟩;have:d=ak b:=GS (by rw [e];exact jN x) (jN b) e2;unfold kC;rw [<- e,this]
    ·have:=Jz (key:=kC) (kC b) A.cs;have:=h.len;show (aB kC (kC b) A.cs).length<=n+1;omega
    ·have:=QoB A b;have:=h.use;omega
theorem TV:∀ (ul:List DV) (cl:List (List Nat)),wI (cD cl) ul=cD (ul.foldl (fun c d=>aB dK (dK d.1) c) cl)
 | [],_=>rfl
 | d::ul,cl=>by
  show wI ((cD cl).del (dy d.1)) ul=_;rw [QrQ,TV ul];rfl
theorem Mk {x:List Nat}:∀ (ul:List DV) (cl:List (List Nat)),x∈ul.foldl (fun c d=>aB dK (dK d.1) c) cl ↔ x∈cl/\∀ d∈ul,dK x≠dK d.1
 | [],_=>by simp
 | d::ul,cl=>by
  rw [List.foldl_cons,Mk ul,jA]
  constructor
  ·rintro ⟨⟨h1,h2⟩,h3⟩;exact ⟨h1,fun e he=>by
    rcases List.mem_cons.1 he with rfl|he
    ·exact h2
    ·exact h3 e he⟩
  ·rintro ⟨h1,h2⟩;exact ⟨⟨h1,h2 d (by simp)⟩,fun e he=>h2 e (by simp [he])⟩
theorem QlC (h:aq kC A.cs):(iw A).Nodup:=Ep (Me h)
theorem QgK (h:dp A.tg (iw A) = []):nX A=A.cs:=by
 unfold nX;refine List.filter_eq_self.2 (fun b hb=>?_);have h1:nz b ∉ dp A.tg (iw A):=by rw [h];simp
 unfold dp at h1;rw [List.mem_filter] at h1
 cases ht:bD (ak b) A.tg with
 | true=>rfl
 | false =>
  refine absurd ⟨AL.2 ⟨b,hb,tJ b⟩,?_⟩ h1;rw [tJ,ht];rfl
theorem QsT (h:SA w db xb sb cb s tb cl A r n cu) (hn:n<=300000) (gi:cu<=90000000000) :
  Calls Tryz.prog 40 #[.pointer (some ⟨xb,0,none⟩)] w fun e w'=>(GV A).run r A=(⟨(Lib.itoa (tN A:Int)).toArray⟩,0,⟨nX A,A.tg⟩)/\e = .returned (.tuple #[.int .i64 (tN A:Int),.int .i64 0])/\mP w w' db xb sb cb s tb ((GV A).run r A).2.2 r (n+1) (cu+n+20):=by
 have hrun:(GV A).run r A=(⟨(Lib.itoa (tN A:Int)).toArray⟩,0,⟨nX A,A.tg⟩):=Pl.dO h _ _ _;rw [hrun];have a8:(iw A).length<=n:=by unfold iw;rw [List.length_map];exact h.len
 have bc:∀ x,x∈iw A ↔ x.1∈cl:=fun x=>by rw [AL,h.mem]
 refine (Xl xb sb s cb tb cl.length A.tg cl (iw A) w h.st h.hG h.sw h.good.tok h.ok (Me h.good.rise) bc (by have:=h.qW;omega) (by omega) h.fit (show cZ _ _ _ from ⟨by omega,by omega,by omega⟩)).mono ?_;rintro e w' ⟨k,s',rfl,hg,hx,gp⟩
 rcases gp with ⟨hu,rfl,rfl,hst⟩|⟨hu,m,hr,hst⟩
 ·refine ⟨rfl,rfl,?_⟩;have hA:(⟨nX A,A.tg⟩ : aN)=A:=by rw [QgK hu]
  show mP w w' db xb sb cb s' tb (⟨nX A,A.tg⟩ : aN) r (n+1) (cu+n+20);rw [hA];exact h.still hg hx hst
 ·have JA:(dp A.tg (iw A)).length<=n:=Nat.le_trans (List.length_filter_le _ _) a8;obtain ⟨rfl,rfl,wW⟩:=QmZ (ul:=dp A.tg (iw A)) (t:=⟨#[]⟩) (y:=((⟨#[]⟩ : ByteArray).size:Int)) h.ft (by unfold fA oL;simp [ff]) (AQ A) ((QlC h.good.rise).sublist List.filter_sublist) (fun d hd=>by
   obtain ⟨b,hb,e⟩:=AL.1 (List.mem_filter.1 hd).1;exact ⟨fC b,by unfold fA;exact List.mem_append.2 (.inl (List.mem_map_of_mem hb)),by show kC b=_;unfold kC;rw [e]⟩) hr
  rw [Qqt h.good.rise] at wW;rw [List.take_of_length_le (by omega),TV] at hst;refine ⟨rfl,rfl,h.ran (A':=⟨nX A,A.tg⟩) hg hx hr (by simp [Dp,mQ,oN];omega) hst (fun d hd=>h.ok d ((Mk _ _).1 hd).1) (fun d=>?_) ?_ wW h.good.prune ?_⟩
  ·rw [Mk,h.mem]
   constructor
   ·rintro ⟨⟨x,hx,e⟩,hne⟩;refine ⟨x,List.mem_filter.2 ⟨hx,?_⟩,e⟩
    cases ht:bD (ak x) A.tg with
    | true=>rfl
    | false =>
     refine absurd ?_ (hne (nz x) (List.mem_filter.2 ⟨AL.2 ⟨x,hx,tJ x⟩,?_⟩))
     ·rw [e,tJ]
     ·rw [tJ,ht];rfl
   ·rintro ⟨x,hx,e⟩;obtain ⟨x1,x2⟩:=List.mem_filter.1 hx;refine ⟨⟨x,x1,e⟩,fun u hu2 e2=>?_⟩;have h3:d=u.1:=GS (by rw [e];exact jN x) u.2 e2;have h4:=(List.mem_filter.1 hu2).2;rw [<- h3,e] at h4;simp [x2] at h4
  ·have:(nX A).length<=A.cs.length:=List.length_filter_le _ _;have:=h.len;show (nX A).length<=n+1;omega
  ·have:=QjM A;have:=h.use;omega
end
end Go.Proofs.YtncigfibncmioaaGreatDoor
namespace Go.Proofs.YtncigfibncmioaaGreatDoor
open Go.RowKit
theorem Es (z:Nat) (hz:z<=1000000):(Lib.itoa (z:Int)).length<=21:=Lib.itoa_length_le (z:Int) (by omega) (by omega)
theorem QmO (fd:Nat->ByteArray × Int) (out:ByteArray) (e:DE) (hp:e.path.size<=80) (hz:(fd e.blk).1.size<=2000):(yj fd out e).size<=out.size+2500:=by
 unfold yj;simp only [I7];have h1:=Es _ (show (fd e.blk).1.size<=1000000 by omega);have h2:(⟨(Lib.itoa ((fd e.blk).1.size:Int)).toArray⟩ : ByteArray).size=(Lib.itoa ((fd e.blk).1.size:Int)).length:=sP _;have h3:(⟨#[32]⟩ : ByteArray).size=1:=rfl;have h4:(⟨#[59]⟩ : ByteArray).size=1:=rfl;omega
theorem Qou (s:ai) (d:Nat) (w:World) (h:rS w d s) (hl:s.R.now.length<=1000000) (hp:∀ e∈s.R.now,aK e.path=true) (hr:bZ s.R.now) (hz:∀ e∈s.R.now,(s.fd e.blk).1.size<=2000) :
  Calls Tryz.prog 14 #[.pointer (some ⟨d,0,none⟩)] w fun e w'=>e = .returned (.string (hT s.fd s.R.now))/\aC s s w w':=by
 have xh:=aa (YT s d w h (by omega));have H:=aa h;have HP:=aa hp;have HR:=aa hr;have HZ:=aa hz;obtain ⟨n,hn⟩ : ∃ n,n=s.R.now.length:=⟨_,rfl⟩;rw [<- hn] at hl;have HN:=aa hn;clear h hp hr hz hn;go_enter Tryz.func14,Tryz.ntmps14;go_wp2_with fail;refine (xh.out).mono ?_;rintro _ w1 ⟨v,rfl,hrow,hb1⟩;dsimp only;obtain ⟨so,sc,rfl⟩:=jG hrow;rw [<- HN.out];rw [<- HN.out] at hrow;have aA:=aa hrow;have br:=aa hb1;clear hrow hb1 xh;go_wp2_with fail
 go_loopw [5,6] (fun ov iv wr=>∃ (j:Nat),iv = .int .i64 ((j:Nat):Int)/\j<=n/\ov = .string (hT s.fd (s.R.now.take j))/\(hT s.fd (s.R.now.take j)).size<=j * 2500/\aC s s w wr/\wr.ownsRow w.heap.size 9 1 (.slice so n sc) n (pW s.R.now)) (fun _ iv _=>n - (intOf iv).toNat)
 case atStart=>exact ⟨0,rfl,Nat.zero_le _,rfl,Nat.le_refl _,aC.refl H.out.ay br.out,aA.out⟩
 case round =>
  obtain ⟨j,rfl,hj,rfl,hsz,hgo,kF⟩:=hrel;have cQ:=aa hgo;have eE:=aa kF
  by_cases hlt:j<n
  ·have eN:j<s.R.now.length:=by rw [<- HN.out];exact hlt
   have he:s.R.now.getD j gV∈s.R.now:=Qug eN;have cN:s.R.now.take (j+1)=s.R.now.take j ++ [s.R.now.getD j gV]:=by
    rw [List.take_add_one,List.getElem?_eq_getElem eN,List.getD_eq_getElem?_getD,List.getElem?_eq_getElem eN];rfl
   have jB:wr.ownsRow w.heap.size 9 1 (.slice so n sc) s.R.now.length (pW s.R.now):=by rw [<- HN.out];exact kF
   obtain ⟨o2,pk,e2,iR⟩:=Jk jB;obtain ⟨g,rfl,hc⟩:=iR j eN;injection e2 with e2 e3 e4
   subst e2;have dV:=HP.out _ he;have TW:(s.R.now.getD j gV).path.size<=80:=by
    simp only [aK,Bool.and_eq_true,decide_eq_true_eq] at dV;omega
   have hz3:=HZ.out _ he;have iz:=H.out.go hgo;have na:=aa (KP s d _ _ wr iz dV (RF HR.out _ he));have tQ:=QmO s.fd (hT s.fd (s.R.now.take j)) (s.R.now.getD j gV) TW hz3;have fP:=aa (Qsr s.fd (s.R.now.take j) (s.R.now.getD j gV));rw [<- cN] at fP;have B5:=aa tQ;unfold yj at fP;generalize hT s.fd (s.R.now.take j)=O at *;generalize hE:s.R.now.getD j gV=E at *;have d1:decide (((j:Nat):Int)<((n:Nat):Int))=true:=decide_eq_true (by omega);clear hgo kF jB he cN eN dV iz tQ e3 e4 iR;go_wp2_with fail;refine (na.out).mono ?_;rintro _ w2 ⟨rfl,hg2⟩;dsimp only;have vP:=(H.out.go cQ.out).ay;have tR:=KQ eE.out vP hg2;have hc2:w2.cell? ⟨g,j,none⟩=some (.string E.path):=by
    have qa:w2.ownsRow w.heap.size 9 1 (.slice (some ⟨g,0,none⟩) n sc) s.R.now.length (pW s.R.now):=by rw [<- HN.out];exact tR
    obtain ⟨o3,FC,e5,Cu⟩:=Jk qa;obtain ⟨g3,rfl,hc3⟩:=Cu j (by rw [<- HN.out];exact hlt);injection e5 with e5 _ _
    injection e5 with e5
    injection e5 with e5
    subst e5;rw [hE] at hc3;exact hc3
   have xX:=aa (fun W=>Kn (s.fd E.blk).1.size (by omega) W);have Ml:=Es (s.fd E.blk).1.size (by omega);have htz:(⟨(Lib.itoa ((s.fd E.blk).1.size:Int)).toArray⟩ : ByteArray).size<=21:=by rw [sP];exact Ml
   have fq:=aa (cQ.out.trans hg2);have Cv:=aa tR;generalize (s.fd E.blk).1=Bt at *;generalize (⟨(Lib.itoa (Bt.size:Int)).toArray⟩ : ByteArray)=Tx at *;have q1:¬ 9223372036854775807<O.size+E.path.size:=by omega
   have q2:¬ 9223372036854775807<O.size+E.path.size+1:=by omega
   have q3:¬ 9223372036854775807<O.size+E.path.size+1+Tx.size:=by omega
   have q4:¬ 9223372036854775807<O.size+E.path.size+1+Tx.size+1:=by omega
   have q5:¬ 9223372036854775807<O.size+E.path.size+1+Tx.size+1+Bt.size:=by omega
   have q6:¬ 9223372036854775807<O.size+E.path.size+1+Tx.size+1+Bt.size+1:=by omega
   clear hg2 vP tR hc Ml na eE;have Mm:=aa (xX.out w2.drew);have cX:g<w2.heap.size:=World.block_lt_of_cell? _ _ hc2;have bA:w2.drew.cell? ⟨g,j,none⟩=some (.string E.path):=cell_later (Below.refl w2.heap.size w2).drew hc2;go_wp2_with fail
   go_region_held3 (fun w'=>w'.cell? ⟨g,j,none⟩=some (.string E.path)) (first|exact bA|exact eb|go_keep) ((go_at_call 41;refine (Mm.out).mono ?_;rintro _ w3 ⟨rfl,hb3⟩;have hb4:Below w2.heap.size w2 w3:=((Below.refl w2.heap.size w2).drew).trans hb3;have eb:=cell_later hb4 hc2))
   have kI:=aa hb4;clear hb3 hb4 bA eb hc2 xX Mm;go_wp2_with fail;have BA:=gA Cv.out kI.out;refine ⟨⟨j+1,by simp,by omega,by rw [fP.out],?_,fq.out.trans (aC.refl fq.out.ay kI.out),BA⟩,by simp only [intOf];omega⟩;rw [fP.out];simp only [I7];have h3:(⟨#[32]⟩ : ByteArray).size=1:=rfl;have h4:(⟨#[59]⟩ : ByteArray).size=1:=rfl;omega
  ·have ly:j=n:=by omega
   subst ly;have d1:decide (((j:Nat):Int)<((j:Nat):Int))=false:=decide_eq_false (by omega);have ht:s.R.now.take j=s.R.now:=List.take_of_length_le (by rw [<- HN.out];exact Nat.le_refl _);rw [ht];clear hgo kF hsz;go_wp2_with fail;go_ret;exact ⟨rfl,cQ.out⟩
def hF (F:List FF):ByteArray:=F.foldl (fun out x=>out++x.p++⟨#[32]⟩++⟨(Lib.itoa (x.t.size:Int)).toArray⟩++⟨#[32]⟩++x.t++⟨#[59]⟩) ⟨#[]⟩
theorem QvC (D:DS):hT D.fd D.R.now=hF (iQ D):=by
 unfold hT hF iQ;rw [List.foldl_map];rfl
theorem Qov {A:aN} {x:FF} (hx:x∈fA A):aK x.p=true:=by
 unfold fA at hx
 rcases List.mem_append.1 hx with hx|hx
 ·obtain ⟨b,_,rfl⟩:=List.mem_map.1 hx;exact yl _
 ·rcases xg hx with rfl|rfl|rfl
  ·show aK bB=true;decide
  ·show aK bo=true;decide
  ·show aK bK=true;decide
theorem QlE {A:aN} (g:aG A) {x:FF} (hx:x∈fA A):x.t.size<=2000:=by
 unfold fA at hx
 rcases List.mem_append.1 hx with hx|hx
 ·obtain ⟨b,hb,rfl⟩:=List.mem_map.1 hx;have:=g.sz b hb;show b.size<=2000;omega
 ·rcases xg hx with rfl|rfl|rfl
  ·exact vZ g.tok g.t8
  ·show (⟨#[]⟩ : ByteArray).size<=2000;decide
  ·show pX.size<=2000;decide
section
variable {w:World} {db xb sb cb:Nat} {s:ai} {tb:Nat} {cl:List (List Nat)} {A:aN} {r:Int} {n cu:Nat}
theorem SA.dk (h:SA w db xb sb cb s tb cl A r n cu):rS w db s:=⟨h.sw.ay,h.bd,h.sw.gl,h.sw.low⟩
end
open Go.RowKit
theorem Rs (b:ByteArray) (w:World) (hb:b.size<=300) (hg:Gl w):Calls Tryz.prog 35 #[.string b] w fun e w'=>e = .returned (.string (dr b))/\Below w.heap.size w w':=Qp4 b w (by omega) hg.hk
def cE (x:Int):Prop := -9223372036854775808<=x/\x<=9223372036854775807
structure DB (w:World) (I:World->Prop) (Q:ByteArray->Int->World->World->Prop):Prop where
 i:I w
 later:∀ W W',I W->Below W.heap.size W W'->I W'
 gl:∀ W,I W->Gl W
 pre:∀ W W1 w' t k,Below W.heap.size W W1->Q t k W1 w'->Q t k W w'
 post:∀ W w1 w' t k,Q t k W w1->Below w1.heap.size w1 w'->Q t k W w'
 keep:∀ W w' t k,Q t k W w'->∀ b,w.heap.size<=b->b<W.heap.size->w'.heap[b]? = W.heap[b]?
section
variable {w:World} {I:World->Prop} {Q:ByteArray->Int->World->World->Prop} {xb:Nat}
theorem Rt (hd:DB w I Q) (K N B:Int) (hK:cE K) (_:cE N) (hB:cE B) (hk:fY K 8=0∨fY K 8=1)
  (hc:∀ W,I W->Calls Tryz.prog 30 #[.pointer (some ⟨xb,0,none⟩),.string (bN B)] W fun e w'=>∃ t k,e = .returned (.tuple #[.string t,.int .i64 k])/\Q t k W w') :
  Calls Tryz.prog 11 #[.pointer (some ⟨xb,0,none⟩),.agg #[.int .i64 K,.int .i64 N,.int .i64 B]] w fun e w'=>∃ t k,e = .returned (.tuple #[.string t,.int .i64 k])/\Q t k w w':=by
 obtain ⟨z,hz,qp⟩ : ∃ z:Int,(z=0∨z=1)/\∀ w,Calls Tryz.prog 21 #[.int .i64 K,.int .i64 8] w fun e w'=>e = .returned (.int .i64 z)/\w'=w:=⟨(fY K 8:Int),by omega,fun w=>vy K 8 (by decide) (by decide) hK.1 hK.2 w⟩
 have lz:=aa qp;have iX:=aa (fun w=>Ox B hB.1 hB.2 w);have HC:=aa hc;generalize bN B=bb at iX HC;have bh:Below w.heap.size w (w.alloc (.cells #[.int .i64 K,.int .i64 N,.int .i64 B] 31)):=(Below.refl _ _).alloc (Nat.le_refl _) _;have hrow:(w.alloc (.cells #[.int .i64 K,.int .i64 N,.int .i64 B] 31)).heap[w.heap.size]? = some (.cells #[.int .i64 K,.int .i64 N,.int .i64 B] 31 (0,0)):=heap_alloc_new _ _;obtain ⟨W,hW⟩ : ∃ W,W=w.alloc (.cells #[.int .i64 K,.int .i64 N,.int .i64 B] 31):=⟨_,rfl⟩;rw [<- hW] at bh hrow;have c0:W.cell? ⟨w.heap.size,0,none⟩=some (.int .i64 K):=cell_of_row _ _ 0 _ _ _ hrow;have c1:W.cell? ⟨w.heap.size,1,none⟩=some (.int .i64 N):=cell_of_row _ _ 1 _ _ _ hrow;have c2:W.cell? ⟨w.heap.size,2,none⟩=some (.int .i64 B):=cell_of_row _ _ 2 _ _ _ hrow;have HI:=aa (hd.later _ _ hd.i bh);have HD:=aa hd;have HW:=aa hW;have cI:=aa bh;have eE:=aa hrow;clear hd hc hW bh hrow hK hk qp hB
 rcases hz with rfl|rfl
 all_goals (
  go_enter Tryz.func11,Tryz.ntmps11;go_upto_region 1 with fail
  rw [<- HW.out];go_wp2_with fail;refine (lz.out _).mono ?_;rintro _ w1 ⟨rfl,eR⟩;rw [eR];dsimp only;clear eR lz;go_wp2_with fail;refine (iX.out _).mono ?_;rintro _ w2 ⟨rfl,hb2⟩;dsimp only;have cL:=aa (cI.out.trans (hb2.mono cI.out.size));have iM:=aa (HC.out w2 (HD.out.later _ _ HI.out hb2));clear hb2 c0 c1 c2 HC;go_wp2_with fail;refine (iM.out).mono ?_;rintro _ w3 ⟨t,k,rfl,hq⟩;dsimp only;have HN:=aa (HD.out.pre _ _ _ _ _ cL.out hq);clear hq iM;go_wp2_with fail;refine bodyPost_ret (results_tmp2 rfl _ _ _) rfl ?_;exact ⟨t,k,rfl,HN.out⟩)
theorem Yw (hd:DB w I Q) (K N B:Int) (hK:cE K) (hN:cE N) (hB:cE B) (hk:fY K 8=2)
  (hc:∀ W,I W->Calls Tryz.prog 36 #[.pointer (some ⟨xb,0,none⟩),.string (gu N),.string (dr (bN B))] W fun e w'=>∃ k,e = .returned (.int .i64 k)/\Q ⟨#[]⟩ k W w') :
  Calls Tryz.prog 11 #[.pointer (some ⟨xb,0,none⟩),.agg #[.int .i64 K,.int .i64 N,.int .i64 B]] w fun e w'=>∃ t k,e = .returned (.tuple #[.string t,.int .i64 k])/\Q t k w w':=by
 obtain ⟨z,hz,qp⟩ : ∃ z:Int,(z=2)/\∀ w,Calls Tryz.prog 21 #[.int .i64 K,.int .i64 8] w fun e w'=>e = .returned (.int .i64 z)/\w'=w:=⟨(fY K 8:Int),by omega,fun w=>vy K 8 (by decide) (by decide) hK.1 hK.2 w⟩
 have lz:=aa qp;have iX:=aa (fun w=>Ox B hB.1 hB.2 w);have xW:Hid (∀ w,Calls Tryz.prog 37 #[.int .i64 N] w fun e w'=>e = .returned (.string (gu N))/\Below w.heap.size w w'):=aa (fun w=>Oy N hN.1 hN.2 w);have kL:=Km B;have sB:=aa (fun (W:World) (hg:Gl W)=>Rs (bN B) W (by omega) hg);have HC:=aa hc;generalize dr (bN B)=hh at HC sB;generalize bN B=bb at iX sB;generalize gu N=nn at xW HC;have bh:Below w.heap.size w (w.alloc (.cells #[.int .i64 K,.int .i64 N,.int .i64 B] 31)):=(Below.refl _ _).alloc (Nat.le_refl _) _;have hrow:(w.alloc (.cells #[.int .i64 K,.int .i64 N,.int .i64 B] 31)).heap[w.heap.size]? = some (.cells #[.int .i64 K,.int .i64 N,.int .i64 B] 31 (0,0)):=heap_alloc_new _ _;obtain ⟨W,hW⟩ : ∃ W,W=w.alloc (.cells #[.int .i64 K,.int .i64 N,.int .i64 B] 31):=⟨_,rfl⟩;rw [<- hW] at bh hrow;have c0:W.cell? ⟨w.heap.size,0,none⟩=some (.int .i64 K):=cell_of_row _ _ 0 _ _ _ hrow;have c1:W.cell? ⟨w.heap.size,1,none⟩=some (.int .i64 N):=cell_of_row _ _ 1 _ _ _ hrow;have c2:W.cell? ⟨w.heap.size,2,none⟩=some (.int .i64 B):=cell_of_row _ _ 2 _ _ _ hrow;have HI:=aa (hd.later _ _ hd.i bh);have HD:=aa hd;have HW:=aa hW;have cI:=aa bh;have eE:=aa hrow;clear hd hc hW bh hrow hK hk qp kL hN hB;subst hz;go_enter Tryz.func11,Tryz.ntmps11;go_upto_region 1 with fail
 rw [<- HW.out];go_wp2_with fail;refine (lz.out _).mono ?_;rintro _ w1 ⟨rfl,eR⟩;rw [eR];dsimp only;clear eR lz;go_wp2_with fail;obtain ⟨bx,fI⟩ : ∃ bx,bx=w.heap.size:=⟨_,rfl⟩;rw [<- fI] at c1 c2 eE ⊢;have nI:=aa fI;have hdr:Below W.heap.size W W.drew:=(Below.refl _ _).drew;have bA:W.drew.cell? ⟨bx,1,none⟩=some (.int .i64 N)/\W.drew.cell? ⟨bx,2,none⟩=some (.int .i64 B):=⟨cell_later hdr c1,cell_later hdr c2⟩;have pR:=aa c1;have iM:=aa c2;clear fI c0 c1 c2
 go_region_held3 (fun w'=>w'.cell? ⟨bx,1,none⟩=some (.int .i64 N)/\w'.cell? ⟨bx,2,none⟩=some (.int .i64 B)) (first|exact bA|exact hS1|exact ie|exact eb|exact sM|go_keep) ((first
  | (go_at_call 37;refine (xW.out _).mono ?_;rintro _ w2 ⟨rfl,hb2⟩;have nJ:Below W.heap.size W w2:=hdr.trans hb2;have hS1:w2.cell? ⟨bx,1,none⟩=some (.int .i64 N)/\w2.cell? ⟨bx,2,none⟩=some (.int .i64 B):=⟨cell_later nJ pR.out,cell_later nJ iM.out⟩)
  | (go_at_call 31;refine (iX.out _).mono ?_;rintro _ w3 ⟨rfl,hb3⟩;have jK:Below W.heap.size W w3:=nJ.trans (hb3.mono nJ.size);have ie:w3.cell? ⟨bx,1,none⟩=some (.int .i64 N)/\w3.cell? ⟨bx,2,none⟩=some (.int .i64 B):=⟨cell_later jK pR.out,cell_later jK iM.out⟩)
  | (go_at_call 35;refine (sB.out _ (HD.out.gl _ (HD.out.later _ _ HI.out jK))).mono ?_;rintro _ w4 ⟨rfl,hb4⟩;have Fp:Below W.heap.size W w4:=jK.trans (hb4.mono jK.size);have eb:w4.cell? ⟨bx,1,none⟩=some (.int .i64 N)/\w4.cell? ⟨bx,2,none⟩=some (.int .i64 B):=⟨cell_later Fp pR.out,cell_later Fp iM.out⟩)
  | (go_at_call 36;refine (HC.out _ (HD.out.later _ _ HI.out Fp)).mono ?_;rintro _ w5 ⟨k,rfl,hq⟩;have BA:=(HD.out.keep _ _ _ _ hq bx (by have:=nI.out;omega) (Nat.lt_of_lt_of_le (ax eE.out) Fp.size)).trans ((Fp.block _ (ax eE.out)).trans eE.out);have sM:w5.cell? ⟨bx,1,none⟩=some (.int .i64 N)/\w5.cell? ⟨bx,2,none⟩=some (.int .i64 B):=⟨cell_of_row _ _ 1 _ _ _ BA,cell_of_row _ _ 2 _ _ _ BA⟩)))
 have HN:=aa (HD.out.pre _ _ _ _ _ (cI.out.trans (Fp.mono cI.out.size)) hq);clear hq BA bA hS1 ie eb sM hb2 hb3 hb4 nJ jK Fp HC hdr;go_wp2_with fail;refine bodyPost_ret (results_tmp2 rfl _ _ _) rfl ?_;exact ⟨_,k,rfl,HN.out⟩
theorem Yx (hd:DB w I Q) (K N B:Int) (hK:cE K) (hN:cE N) (_:cE B) (hk:fY K 8=3)
  (hc:∀ W,I W->Calls Tryz.prog 38 #[.pointer (some ⟨xb,0,none⟩),.string (gu N)] W fun e w'=>∃ k,e = .returned (.int .i64 k)/\Q ⟨#[]⟩ k W w') :
  Calls Tryz.prog 11 #[.pointer (some ⟨xb,0,none⟩),.agg #[.int .i64 K,.int .i64 N,.int .i64 B]] w fun e w'=>∃ t k,e = .returned (.tuple #[.string t,.int .i64 k])/\Q t k w w':=by
 obtain ⟨z,hz,qp⟩ : ∃ z:Int,(z=3)/\∀ w,Calls Tryz.prog 21 #[.int .i64 K,.int .i64 8] w fun e w'=>e = .returned (.int .i64 z)/\w'=w:=⟨(fY K 8:Int),by omega,fun w=>vy K 8 (by decide) (by decide) hK.1 hK.2 w⟩
 have lz:=aa qp;have xW:Hid (∀ w,Calls Tryz.prog 37 #[.int .i64 N] w fun e w'=>e = .returned (.string (gu N))/\Below w.heap.size w w'):=aa (fun w=>Oy N hN.1 hN.2 w);have HC:=aa hc;generalize gu N=nn at xW HC;have bh:Below w.heap.size w (w.alloc (.cells #[.int .i64 K,.int .i64 N,.int .i64 B] 31)):=(Below.refl _ _).alloc (Nat.le_refl _) _;have hrow:(w.alloc (.cells #[.int .i64 K,.int .i64 N,.int .i64 B] 31)).heap[w.heap.size]? = some (.cells #[.int .i64 K,.int .i64 N,.int .i64 B] 31 (0,0)):=heap_alloc_new _ _;obtain ⟨W,hW⟩ : ∃ W,W=w.alloc (.cells #[.int .i64 K,.int .i64 N,.int .i64 B] 31):=⟨_,rfl⟩;rw [<- hW] at bh hrow;have c0:W.cell? ⟨w.heap.size,0,none⟩=some (.int .i64 K):=cell_of_row _ _ 0 _ _ _ hrow;have c1:W.cell? ⟨w.heap.size,1,none⟩=some (.int .i64 N):=cell_of_row _ _ 1 _ _ _ hrow;have c2:W.cell? ⟨w.heap.size,2,none⟩=some (.int .i64 B):=cell_of_row _ _ 2 _ _ _ hrow;have HI:=aa (hd.later _ _ hd.i bh);have HD:=aa hd;have HW:=aa hW;have cI:=aa bh;have eE:=aa hrow;clear hd hc hW bh hrow hK hk qp hN;subst hz;go_enter Tryz.func11,Tryz.ntmps11;go_upto_region 1 with fail
 rw [<- HW.out];go_wp2_with fail;refine (lz.out _).mono ?_;rintro _ w1 ⟨rfl,eR⟩;rw [eR];dsimp only;clear eR lz;go_wp2_with fail;refine (xW.out _).mono ?_;rintro _ w2 ⟨rfl,hb2⟩;dsimp only;have cL:=aa (cI.out.trans (hb2.mono cI.out.size));have iM:=aa (HC.out w2 (HD.out.later _ _ HI.out hb2));clear hb2 c0 c1 c2 HC;go_wp2_with fail;refine (iM.out).mono ?_;rintro _ w3 ⟨k,rfl,hq⟩;dsimp only;have HN:=aa (HD.out.pre _ _ _ _ _ cL.out hq);clear hq iM;go_wp2_with fail;refine bodyPost_ret (results_tmp2 rfl _ _ _) rfl ?_;exact ⟨_,k,rfl,HN.out⟩
theorem Ru (hd:DB w I Q) (K N B:Int) (hK:cE K) (hN:cE N) (hB:cE B) (hk:fY K 8=4∨fY K 8=5)
  (hc:∀ W,I W->Calls Tryz.prog 25 #[.pointer (some ⟨xb,0,none⟩),.string (gu N),.string (bN B)] W fun e w'=>∃ t k,e = .returned (.tuple #[.string t,.int .i64 k])/\Q t k W w') :
  Calls Tryz.prog 11 #[.pointer (some ⟨xb,0,none⟩),.agg #[.int .i64 K,.int .i64 N,.int .i64 B]] w fun e w'=>∃ t k,e = .returned (.tuple #[.string t,.int .i64 k])/\Q t k w w':=by
 obtain ⟨z,hz,qp⟩ : ∃ z:Int,(z=4∨z=5)/\∀ w,Calls Tryz.prog 21 #[.int .i64 K,.int .i64 8] w fun e w'=>e = .returned (.int .i64 z)/\w'=w:=⟨(fY K 8:Int),by omega,fun w=>vy K 8 (by decide) (by decide) hK.1 hK.2 w⟩
 have lz:=aa qp;have iX:=aa (fun w=>Ox B hB.1 hB.2 w);have xW:Hid (∀ w,Calls Tryz.prog 37 #[.int .i64 N] w fun e w'=>e = .returned (.string (gu N))/\Below w.heap.size w w'):=aa (fun w=>Oy N hN.1 hN.2 w);have HC:=aa hc;generalize bN B=bb at iX HC;generalize gu N=nn at xW HC;have bh:Below w.heap.size w (w.alloc (.cells #[.int .i64 K,.int .i64 N,.int .i64 B] 31)):=(Below.refl _ _).alloc (Nat.le_refl _) _;have hrow:(w.alloc (.cells #[.int .i64 K,.int .i64 N,.int .i64 B] 31)).heap[w.heap.size]? = some (.cells #[.int .i64 K,.int .i64 N,.int .i64 B] 31 (0,0)):=heap_alloc_new _ _;obtain ⟨W,hW⟩ : ∃ W,W=w.alloc (.cells #[.int .i64 K,.int .i64 N,.int .i64 B] 31):=⟨_,rfl⟩;rw [<- hW] at bh hrow;have c0:W.cell? ⟨w.heap.size,0,none⟩=some (.int .i64 K):=cell_of_row _ _ 0 _ _ _ hrow;have c1:W.cell? ⟨w.heap.size,1,none⟩=some (.int .i64 N):=cell_of_row _ _ 1 _ _ _ hrow;have c2:W.cell? ⟨w.heap.size,2,none⟩=some (.int .i64 B):=cell_of_row _ _ 2 _ _ _ hrow;have HI:=aa (hd.later _ _ hd.i bh);have HD:=aa hd;have HW:=aa hW;have cI:=aa bh;have eE:=aa hrow;clear hd hc hW bh hrow hK hk qp hN hB
 rcases hz with rfl|rfl
 all_goals (
  go_enter Tryz.func11,Tryz.ntmps11;go_upto_region 1 with fail
  rw [<- HW.out];go_wp2_with fail;refine (lz.out _).mono ?_;rintro _ w1 ⟨rfl,eR⟩;rw [eR];dsimp only;clear eR lz;go_wp2_with fail;obtain ⟨bx,fI⟩ : ∃ bx,bx=w.heap.size:=⟨_,rfl⟩;rw [<- fI] at c1 c2 eE ⊢;have nI:=aa fI;have hdr:Below W.heap.size W W.drew:=(Below.refl _ _).drew;have bA:W.drew.cell? ⟨bx,1,none⟩=some (.int .i64 N)/\W.drew.cell? ⟨bx,2,none⟩=some (.int .i64 B):=⟨cell_later hdr c1,cell_later hdr c2⟩;have pR:=aa c1;have iM:=aa c2;clear fI c0 c1 c2
  go_region_held3 (fun w'=>w'.cell? ⟨bx,1,none⟩=some (.int .i64 N)/\w'.cell? ⟨bx,2,none⟩=some (.int .i64 B)) (first|exact bA|exact hS1|exact ie|exact eb|exact sM|go_keep) ((first
   | (go_at_call 37;refine (xW.out _).mono ?_;rintro _ w2 ⟨rfl,hb2⟩;have nJ:Below W.heap.size W w2:=hdr.trans hb2;have hS1:w2.cell? ⟨bx,1,none⟩=some (.int .i64 N)/\w2.cell? ⟨bx,2,none⟩=some (.int .i64 B):=⟨cell_later nJ pR.out,cell_later nJ iM.out⟩)
   | (go_at_call 31;refine (iX.out _).mono ?_;rintro _ w3 ⟨rfl,hb3⟩;have jK:Below W.heap.size W w3:=nJ.trans (hb3.mono nJ.size);have ie:w3.cell? ⟨bx,1,none⟩=some (.int .i64 N)/\w3.cell? ⟨bx,2,none⟩=some (.int .i64 B):=⟨cell_later jK pR.out,cell_later jK iM.out⟩)
   | (go_at_call 25;refine (HC.out _ (HD.out.later _ _ HI.out jK)).mono ?_;rintro _ w5 ⟨t,k,rfl,hq⟩;have BA:=(HD.out.keep _ _ _ _ hq bx (by have:=nI.out;omega) (Nat.lt_of_lt_of_le (ax eE.out) jK.size)).trans ((jK.block _ (ax eE.out)).trans eE.out);have sM:w5.cell? ⟨bx,1,none⟩=some (.int .i64 N)/\w5.cell? ⟨bx,2,none⟩=some (.int .i64 B):=⟨cell_of_row _ _ 1 _ _ _ BA,cell_of_row _ _ 2 _ _ _ BA⟩)))
  have HN:=aa (HD.out.pre _ _ _ _ _ (cI.out.trans (jK.mono cI.out.size)) hq);clear hq BA bA hS1 ie sM hb2 hb3 nJ jK HC hdr;go_wp2_with fail;refine bodyPost_ret (results_tmp2 rfl _ _ _) rfl ?_;exact ⟨t,k,rfl,HN.out⟩)
theorem Yy (hd:DB w I Q) (K N B:Int) (hK:cE K) (_:cE N) (hB:cE B) (hk:fY K 8=6)
  (hc:∀ W,I W->Calls Tryz.prog 39 #[.pointer (some ⟨xb,0,none⟩),.string (dr (bN B))] W fun e w'=>∃ k,e = .returned (.int .i64 k)/\Q ⟨#[]⟩ k W w') :
  Calls Tryz.prog 11 #[.pointer (some ⟨xb,0,none⟩),.agg #[.int .i64 K,.int .i64 N,.int .i64 B]] w fun e w'=>∃ t k,e = .returned (.tuple #[.string t,.int .i64 k])/\Q t k w w':=by
 obtain ⟨z,hz,qp⟩ : ∃ z:Int,(z=6)/\∀ w,Calls Tryz.prog 21 #[.int .i64 K,.int .i64 8] w fun e w'=>e = .returned (.int .i64 z)/\w'=w:=⟨(fY K 8:Int),by omega,fun w=>vy K 8 (by decide) (by decide) hK.1 hK.2 w⟩
 have lz:=aa qp;have iX:=aa (fun w=>Ox B hB.1 hB.2 w);have kL:=Km B;have sB:=aa (fun (W:World) (hg:Gl W)=>Rs (bN B) W (by omega) hg);have HC:=aa hc;generalize dr (bN B)=hh at HC sB;generalize bN B=bb at iX sB;have bh:Below w.heap.size w (w.alloc (.cells #[.int .i64 K,.int .i64 N,.int .i64 B] 31)):=(Below.refl _ _).alloc (Nat.le_refl _) _;have hrow:(w.alloc (.cells #[.int .i64 K,.int .i64 N,.int .i64 B] 31)).heap[w.heap.size]? = some (.cells #[.int .i64 K,.int .i64 N,.int .i64 B] 31 (0,0)):=heap_alloc_new _ _;obtain ⟨W,hW⟩ : ∃ W,W=w.alloc (.cells #[.int .i64 K,.int .i64 N,.int .i64 B] 31):=⟨_,rfl⟩;rw [<- hW] at bh hrow;have c0:W.cell? ⟨w.heap.size,0,none⟩=some (.int .i64 K):=cell_of_row _ _ 0 _ _ _ hrow;have c1:W.cell? ⟨w.heap.size,1,none⟩=some (.int .i64 N):=cell_of_row _ _ 1 _ _ _ hrow;have c2:W.cell? ⟨w.heap.size,2,none⟩=some (.int .i64 B):=cell_of_row _ _ 2 _ _ _ hrow;have HI:=aa (hd.later _ _ hd.i bh);have HD:=aa hd;have HW:=aa hW;have cI:=aa bh;have eE:=aa hrow;clear hd hc hW bh hrow hK hk qp kL hB;subst hz;go_enter Tryz.func11,Tryz.ntmps11;go_upto_region 1 with fail
 rw [<- HW.out];go_wp2_with fail;refine (lz.out _).mono ?_;rintro _ w1 ⟨rfl,eR⟩;rw [eR];dsimp only;clear eR lz;go_wp2_with fail;refine (iX.out _).mono ?_;rintro _ w2 ⟨rfl,hb2⟩;dsimp only;have Aq:=HD.out.later _ _ HI.out hb2;have cL:=aa (cI.out.trans (hb2.mono cI.out.size));have I2:=aa (sB.out w2 (HD.out.gl _ Aq));have nk:=aa Aq;clear hb2 c0 c1 c2 Aq;go_wp2_with fail;refine (I2.out).mono ?_;rintro _ w4 ⟨rfl,hb4⟩;dsimp only;have kI:=aa (cL.out.trans (hb4.mono cL.out.size));have iM:=aa (HC.out w4 (HD.out.later _ _ nk.out hb4));clear hb4 HC I2;go_wp2_with fail;refine (iM.out).mono ?_;rintro _ w3 ⟨k,rfl,hq⟩;dsimp only;have HN:=aa (HD.out.pre _ _ _ _ _ kI.out hq);clear hq iM;go_wp2_with fail;refine bodyPost_ret (results_tmp2 rfl _ _ _) rfl ?_;exact ⟨_,k,rfl,HN.out⟩
theorem Yz (hd:DB w I Q) (K N B:Int) (hK:cE K) (_:cE N) (_:cE B) (hk:fY K 8=7)
  (hc:∀ W,I W->Calls Tryz.prog 40 #[.pointer (some ⟨xb,0,none⟩)] W fun e w'=>∃ (m:Nat) (k:Int),m<=1000000/\e = .returned (.tuple #[.int .i64 (m:Int),.int .i64 k])/\Q ⟨(Lib.itoa (m:Int)).toArray⟩ k W w') :
  Calls Tryz.prog 11 #[.pointer (some ⟨xb,0,none⟩),.agg #[.int .i64 K,.int .i64 N,.int .i64 B]] w fun e w'=>∃ t k,e = .returned (.tuple #[.string t,.int .i64 k])/\Q t k w w':=by
 obtain ⟨z,hz,qp⟩ : ∃ z:Int,(z=7)/\∀ w,Calls Tryz.prog 21 #[.int .i64 K,.int .i64 8] w fun e w'=>e = .returned (.int .i64 z)/\w'=w:=⟨(fY K 8:Int),by omega,fun w=>vy K 8 (by decide) (by decide) hK.1 hK.2 w⟩
 have lz:=aa qp;have HC:=aa hc;have bh:Below w.heap.size w (w.alloc (.cells #[.int .i64 K,.int .i64 N,.int .i64 B] 31)):=(Below.refl _ _).alloc (Nat.le_refl _) _;have hrow:(w.alloc (.cells #[.int .i64 K,.int .i64 N,.int .i64 B] 31)).heap[w.heap.size]? = some (.cells #[.int .i64 K,.int .i64 N,.int .i64 B] 31 (0,0)):=heap_alloc_new _ _;obtain ⟨W,hW⟩ : ∃ W,W=w.alloc (.cells #[.int .i64 K,.int .i64 N,.int .i64 B] 31):=⟨_,rfl⟩;rw [<- hW] at bh hrow;have c0:W.cell? ⟨w.heap.size,0,none⟩=some (.int .i64 K):=cell_of_row _ _ 0 _ _ _ hrow;have c1:W.cell? ⟨w.heap.size,1,none⟩=some (.int .i64 N):=cell_of_row _ _ 1 _ _ _ hrow;have c2:W.cell? ⟨w.heap.size,2,none⟩=some (.int .i64 B):=cell_of_row _ _ 2 _ _ _ hrow;have HI:=aa (hd.later _ _ hd.i bh);have HD:=aa hd;have HW:=aa hW;have cI:=aa bh;have eE:=aa hrow;clear hd hc hW bh hrow hK hk qp;subst hz;go_enter Tryz.func11,Tryz.ntmps11;go_upto_region 1 with fail
 rw [<- HW.out];go_wp2_with fail;refine (lz.out _).mono ?_;rintro _ w1 ⟨rfl,eR⟩;rw [eR];dsimp only;clear eR lz;go_wp2_with fail;refine (HC.out W HI.out).mono ?_;rintro _ w2 ⟨m,k,hm,rfl,hq⟩;dsimp only;have HN:=aa (HD.out.pre _ _ _ _ _ cI.out hq);have xX:=aa (fun W=>Kn m hm W);clear hq hm c0 c1 c2 HC;go_wp2_with fail;refine (xX.out _).mono ?_;rintro _ w3 ⟨rfl,hb3⟩;dsimp only;have HN3:=aa (HD.out.post _ _ _ _ _ HN.out hb3);clear hb3 xX;go_wp2_with fail;refine bodyPost_ret (results_tmp2 rfl _ _ _) rfl ?_;exact ⟨_,k,rfl,HN3.out⟩
end
end Go.Proofs.YtncigfibncmioaaGreatDoor
