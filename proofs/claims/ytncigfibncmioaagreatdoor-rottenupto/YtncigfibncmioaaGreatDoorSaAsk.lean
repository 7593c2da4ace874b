/-
  PROVED HERE: what each call of the program's store at rest answers and leaves, as changes of plain lists.
-/
import Derived.Test.YtncigfibncmioaaGreatDoorSaHeld
import Derived.Test.YtncigfibncmioaaGreatDoorPrintLib
import Derived.Test.YtncigfibncmioaaGreatDoorKDecB
import Derived.Test.YtncigfibncmioaaGreatDoorBmTags
import Derived.Test.YtncigfibncmioaaGreatDoorSmUntd
namespace Go.Proofs.YtncigfibncmioaaGreatDoor
open Go.RowKit
section
variable {w:World} {db xb sb cb:Nat} {s:PSt} {tb:Nat} {cl:List (List Nat)} {A:Sto} {r:Int} {n cu:Nat}
theorem SA.con (h:SA w db xb sb cb s tb cl A r n cu) (b:ByteArray):conR s.ds (dOfB b) = conC A b:=con_con h.rst.wh (dOfB_ok b)
theorem SA.rd (h:SA w db xb sb cb s tb cl A r n cu) (b:ByteArray):rdD s.ds (cPath (dOfB b)) = conC A b:=rd_con h.rst.wh (dOfB b)
theorem SA.con300 (h:SA w db xb sb cb s tb cl A r n cu) {b t:ByteArray} (ht:conC A b = some t):t.size ≤ 300:=h.good.sz t (find_kC_some ht).1
theorem SA.kpF (h:SA w db xb sb cb s tb cl A r n cu) (b:ByteArray):kpF s.ds (dOfB b) b = nbF (newC A b):=by
 unfold Go.Proofs.YtncigfibncmioaaGreatDoor.kpF newC
 rw [h.con b]
 cases conC A b with
 | none=>rfl
 | some c=>rfl
theorem SA.kpB (h:SA w db xb sb cb s tb cl A r n cu) (b:ByteArray):kpB s.ds (dOfB b) b = (conC A b).getD b:=by
 unfold Go.Proofs.YtncigfibncmioaaGreatDoor.kpB
 rw [h.con b]
theorem SA.put (h:SA w db xb sb cb s tb cl A r n cu) (b:ByteArray):szT (dOfB b) (Go.Proofs.YtncigfibncmioaaGreatDoor.kpB s.ds (dOfB b) b).size A.tg = A.tg:=by
 rw [h.kpB b]
 exact szT_same (h.good.told2 b)
theorem SA.puT (h:SA w db xb sb cb s tb cl A r n cu) (m b:ByteArray):puT s.ds (dOfB b) m b A.tg = tgNew A m b:=by
 unfold Go.Proofs.YtncigfibncmioaaGreatDoor.puT tgNew
 rw [h.kpB b]
 exact szT_ins (h.good.told2 b)
theorem cD_put (d:List Nat) (cl:List (List Nat)) (hr:RiseK dK cl):dPut (cD cl) d = cD (insK dK d cl):=by
 unfold dPut
 rw [dKey_eq]
 exact mD_put (key:=dK) (val:=fun _=>.agg #[]) d cl hr
theorem SA.clPut (h:SA w db xb sb cb s tb cl A r n cu) (b:ByteArray):dPut (cD cl) (dOfB b) = cD (insK dK (dOfB b) cl) ∧ (∀ d ∈ insK dK (dOfB b) cl,DigOk d) ∧ ∀ d,d ∈ insK dK (dOfB b) cl ↔ ∃ x ∈ nbC A.cs (newC A b),d = dOfB x:=by
 have hr:RiseK dK cl:=mD_rise h.sw.cm dig_keyed
 have hm:∀ d,d ∈ insK dK (dOfB b) cl ↔ d = dOfB b ∨ d ∈ cl:=fun d=>insK_mem_iff (fun a ha e=>dK_inj (h.ok a ha) (dOfB_ok b) e) hr
 refine ⟨cD_put _ cl hr,fun d hd=>?_,fun d=>?_⟩
 ·rcases (hm d).1 hd with e | hd
  ·rw [e]
   exact dOfB_ok b
  ·exact h.ok d hd
 ·rw [hm]
  have hc:=con_in h.good b
  constructor
  ·rintro (e | hd)
   ·exact ⟨_,hc.1,e.trans hc.2.symm⟩
   ·obtain ⟨x,hx,e⟩:=(h.mem d).1 hd
    refine ⟨x,?_,e⟩
    cases hn:newC A b with
    | none=>exact hx
    | some y =>
     obtain ⟨e9,hy⟩:=newC_none hn
     rw [← e9] at hy
     exact (insK_mem_iff (fun a ha e=>absurd e (findK_none hy a ha)) h.good.rise).2 (.inr hx)
  ·rintro ⟨x,hx,e⟩
   cases hn:newC A b with
   | none =>
    rw [hn] at hx
    exact .inr ((h.mem d).2 ⟨x,hx,e⟩)
   | some y =>
    have hy:=newC_none hn
    rw [hn,hy.1] at hx
    rcases (insK_mem_iff (fun a ha e=>absurd e (findK_none hy.2 a ha)) h.good.rise).1 hx with rfl | hx
    ·exact .inl e
    ·exact .inr ((h.mem d).2 ⟨x,hx,e⟩)
theorem nbC_len (cs:List ByteArray) (nb:Option ByteArray):(nbC cs nb).length ≤ cs.length + 1:=by
 cases nb with
 | none=>exact Nat.le_succ _
 | some b=>exact insK_len b cs
theorem SA.made {w':World} {s':PSt} {t2 nc:Nat} {A':Sto} {cl':List (List Nat)} {fl:List (ByteArray × ByteArray)} {k:Int} (h:SA w db xb sb cb s tb cl A r n cu) (hg:SGo (sS xb sb cb) s s' w w') (hx:BSt w' xb sb) (hw:WrZ s.ds fl k s'.ds) (hfl:fl.length ≤ 2) (ht2:t2 = tb ∨ w.heap.size ≤ t2)
  (hst:StW w' sb s' cb t2 nc A'.tg.length (cD cl') (tD A'.tg)) (hok:∀ d ∈ cl',DigOk d) (hmem:∀ d,d ∈ cl' ↔ ∃ b ∈ A'.cs,d = dOfB b) (hlen:A'.cs.length ≤ n + 1) (hr:Rst s'.ds (fA A') r 2000) (hgd:GoodA A') (hu:(szA A':Int) ≤ r):SaN w w' db xb sb cb s tb A' r (n + 1) (cu + n + 20):=by
 have hc:=wrz_count h.fit hfl hw
 refine ⟨s',t2,cl',hg,ht2,hx,h.hG,hst.tight,h.bdGo hg,hok,hmem,hlen,hr,hc.1,?_,hgd,hu,h.r0,h.r1⟩
 have:=hc.2
 omega
theorem chF_len (fl:List (ByteArray × ByteArray)) (l l':List TE) (h:fl.length ≤ 1):(chF fl l l').length ≤ 2:=by
 unfold chF
 split
 ·omega
 ·rw [List.length_append]
  simp
  omega
theorem nbF_len (nb:Option ByteArray):(nbF nb).length ≤ 1:=by cases nb <;> simp [nbF]
theorem SA.changed {w':World} {s':PSt} {k:Int} {nb:Option ByteArray} {l':List TE} {txt:ByteArray} {cl':List (List Nat)} {nc:Nat} (h:SA w db xb sb cb s tb cl A r n cu) (hg:SGo (sS xb sb cb) s s' w w') (hx:BSt w' xb sb) (hw:WrZ s.ds (chF (nbF nb) A.tg l') k s'.ds)
  (hnb:∀ b,nb = some b → findK kC (kC b) A.cs = none ∧ b.size ≤ 300) (hgd:GoodA ⟨nbC A.cs nb,l'⟩)
  (h0:k = 0 → ∃ t2,w.heap.size ≤ t2 ∧ StW w' sb s' cb t2 nc l'.length (cD cl') (tD l')) (h1:k ≠ 0 → StW w' sb s' cb tb cl.length A.tg.length (cD cl) (tD A.tg))
  (hok:∀ d ∈ cl',DigOk d) (hmem:∀ d,d ∈ cl' ↔ ∃ b ∈ nbC A.cs nb,d = dOfB b) :
  ((k = 0 ∧ Pl.run r A ⟨nbN nb + tgNeed A.tg l',txt,0,⟨nbC A.cs nb,l'⟩⟩ = (txt,0,⟨nbC A.cs nb,l'⟩)) ∨ (k = 4 ∧ Pl.run r A ⟨nbN nb + tgNeed A.tg l',txt,0,⟨nbC A.cs nb,l'⟩⟩ = (⟨#[]⟩,4,A))) ∧
  SaN w w' db xb sb cb s tb (Pl.run r A ⟨nbN nb + tgNeed A.tg l',txt,0,⟨nbC A.cs nb,l'⟩⟩).2.2 r (n + 1) (cu + n + 20):=by
 have hfl:=chF_len (nbF nb) A.tg l' (nbF_len nb)
 rcases chg_rest h.rst h.good h.use nb hnb l' hgd.tok hgd.t8 hw with ⟨x1,rfl,x3⟩ | ⟨x1,rfl,x3⟩
 ·have hrun:=Pl.run_yes (p:=⟨nbN nb + tgNeed A.tg l',txt,0,⟨nbC A.cs nb,l'⟩⟩) x1
  obtain ⟨t2,ht2,hst⟩:=h0 rfl
  rw [hrun]
  refine ⟨.inl ⟨rfl,rfl⟩,h.made hg hx hw hfl (.inr ht2) hst hok hmem ?_ x3 hgd ?_⟩
  ·have:=nbC_len A.cs nb
   have:=h.len
   show (nbC A.cs nb).length ≤ n + 1
   omega
  ·have h2:=szA_next h.good.rise nb (fun b hb=>(hnb b hb).1) l'
   show (szA ⟨nbC A.cs nb,l'⟩ : Int) ≤ r
   omega
 ·have hrun:=Pl.run_no (p:=⟨nbN nb + tgNeed A.tg l',txt,0,⟨nbC A.cs nb,l'⟩⟩) x1
  rw [hrun]
  refine ⟨.inr ⟨rfl,rfl⟩,h.made hg hx hw hfl (.inl rfl) (h1 (by decide)) h.ok h.mem ?_ x3 h.good h.use⟩
  have:=h.len
  show A.cs.length ≤ n + 1
  omega
theorem saPut (h:SA w db xb sb cb s tb cl A r n cu) (hn:n ≤ 300000) (hcu:cu ≤ 90000000000) (b:ByteArray) (hb:b.size ≤ 300) :
  Calls Tryz.prog 30 #[.pointer (some ⟨xb,0,none⟩),.string b] w fun e w'=>e = .returned (.tuple #[.string ((putPl A b).run r A).1,.int .i64 ((putPl A b).run r A).2.1]) ∧ SaN w w' db xb sb cb s tb ((putPl A b).run r A).2.2 r (n + 1) (cu + n + 20):=by
 refine (bPut_any xb sb s cb tb cl.length (cD cl) A.tg b w h.st h.hG h.sw hb (fun t ht=>h.con300 ((h.con b).symm.trans ht)) (by have:=h.clen;omega) (fun t ht=>by have:=h.con300 ((h.rd b).symm.trans ht);omega) h.good.tok h.good.t8 h.fit (sa_bud hn hcu)).mono ?_
 rintro e w' ⟨k,s',rfl,hg,hx,hw,h0,h1⟩
 rw [h.kpF b,h.put b] at hw
 obtain ⟨c1,c2,c3⟩:=h.clPut b
 obtain ⟨q1,q2⟩:=h.changed (txt:=hxB b) hg hx hw (newC_ok hb) (h.good.new hb) (fun hk=>by
  obtain ⟨t2,a1,a2⟩:=h0 hk
  rw [h.put b,c1] at a2
  exact ⟨t2,a1,a2⟩) h1 c2 c3
 refine ⟨?_,q2⟩
 rcases q1 with ⟨rfl,q1⟩ | ⟨rfl,q1⟩
 ·show _ = Ending.returned (.tuple #[.string ((Pl.run r A ⟨nbN (newC A b) + tgNeed A.tg A.tg,hxB b,0,⟨nbC A.cs (newC A b),A.tg⟩⟩)).1,.int .i64 ((Pl.run r A ⟨nbN (newC A b) + tgNeed A.tg A.tg,hxB b,0,⟨nbC A.cs (newC A b),A.tg⟩⟩)).2.1])
  rw [q1]
  rfl
 ·show _ = Ending.returned (.tuple #[.string ((Pl.run r A ⟨nbN (newC A b) + tgNeed A.tg A.tg,hxB b,0,⟨nbC A.cs (newC A b),A.tg⟩⟩)).1,.int .i64 ((Pl.run r A ⟨nbN (newC A b) + tgNeed A.tg A.tg,hxB b,0,⟨nbC A.cs (newC A b),A.tg⟩⟩)).2.1])
  rw [q1]
  rfl
theorem Pl.run_zero (h:SA w db xb sb cb s tb cl A r n cu) (t:ByteArray) (e:Int) (A':Sto):Pl.run r A ⟨0,t,e,A'⟩ = (t,e,A'):=Pl.run_yes (by have:=h.use;show (szA A:Int) + ((0:Nat):Int) ≤ r;omega)
theorem saPub (h:SA w db xb sb cb s tb cl A r n cu) (hn:n ≤ 300000) (hcu:cu ≤ 90000000000) (m b:ByteArray) (hm:m.size ≤ 20) (htag:isTagB m = true) (hb:b.size ≤ 300) :
  Calls Tryz.prog 25 #[.pointer (some ⟨xb,0,none⟩),.string m,.string b] w fun e w'=>e = .returned (.tuple #[.string ((pubPl A m b).run r A).1,.int .i64 ((pubPl A m b).run r A).2.1]) ∧ SaN w w' db xb sb cb s tb ((pubPl A m b).run r A).2.2 r (n + 1) (cu + n + 20):=by
 unfold pubPl
 cases hmay:mayB A m with
 | false =>
  rw [if_neg (by decide),Pl.run_zero h]
  refine (bPub_many xb sb s cb tb cl.length (cD cl) A.tg m b w h.st h.hG h.sw h.good.tok (by omega) htag hb hmay).mono ?_
  rintro e w' ⟨rfl,hg,hx,hst⟩
  exact ⟨rfl,h.still hg hx hst⟩
 | true =>
  rw [if_pos rfl]
  refine (bPub_any xb sb s cb tb cl.length (cD cl) A.tg m b w h.st h.hG h.sw h.good.tok htag hmay hb (fun t ht=>h.con300 ((h.con b).symm.trans ht)) (by have:=h.clen;omega) (fun t ht=>by have:=h.con300 ((h.rd b).symm.trans ht);omega) hm h.good.t8 (tgNew_len h.good hmay) h.fit (sa_bud hn hcu)).mono ?_
  rintro e w' ⟨k,s',rfl,hg,hx,hw,h0,h1⟩
  rw [h.kpF b,h.puT m b] at hw
  obtain ⟨c1,c2,c3⟩:=h.clPut b
  obtain ⟨q1,q2⟩:=h.changed (txt:=hxB b) hg hx hw (newC_ok hb) (h.good.pub hb hm htag hmay) (fun hk=>by
   obtain ⟨t2,a1,a2⟩:=h0 hk
   rw [h.puT m b,c1] at a2
   exact ⟨t2,a1,a2⟩) h1 c2 c3
  refine ⟨?_,q2⟩
  rcases q1 with ⟨rfl,q1⟩ | ⟨rfl,q1⟩
  ·rw [q1]
   rfl
  ·rw [q1]
   rfl
theorem hx_dig (b:ByteArray):isDigB (hxB b) = true:=dtx_dig _ (dOfB_lt b)
theorem hx_rd (b:ByteArray):rd (hxB b) = dOfB b:=rd_dtx _ (dOfB_len b) (dOfB_lt b)
theorem saTag (h:SA w db xb sb cb s tb cl A r n cu) (hn:n ≤ 300000) (hcu:cu ≤ 90000000000) (m b:ByteArray) (hm:m.size ≤ 20) (htag:isTagB m = true) (hb:b.size ≤ 300) :
  Calls Tryz.prog 36 #[.pointer (some ⟨xb,0,none⟩),.string m,.string (hxB b)] w fun e w'=>((tagPl A m b).run r A).1 = ⟨#[]⟩ ∧ e = .returned (.int .i64 ((tagPl A m b).run r A).2.1) ∧ SaN w w' db xb sb cb s tb ((tagPl A m b).run r A).2.2 r (n + 1) (cu + n + 20):=by
 have hh:=h.has b
 have hu:=unitC_cD cl
 unfold tagPl
 cases hc:conC A b with
 | none =>
  rw [show findK kC (kC b) A.cs = none from hc] at hh
  rw [if_neg (by simp),Pl.run_zero h]
  refine (bTag_none xb sb s cb tb cl.length (cD cl) A.tg m (hxB b) w h.st h.hG h.sw (by omega) htag hu (hx_dig b) (by rw [hx_rd];exact hh)).mono ?_
  rintro e w' ⟨rfl,hg,hx,hst⟩
  exact ⟨rfl,rfl,h.still hg hx hst⟩
 | some c =>
  rw [show findK kC (kC b) A.cs = some c from hc] at hh
  rw [if_pos (by simp)]
  cases hmay:mayB A m with
  | false =>
   rw [if_neg (by decide),Pl.run_zero h]
   refine (bTag_many xb sb s cb tb cl.length (cD cl) A.tg m (hxB b) w h.st h.hG h.sw (by omega) htag h.good.tok hu (hx_dig b) (by rw [hx_rd];exact hh) hmay).mono ?_
   rintro e w' ⟨rfl,hg,hx,hst⟩
   exact ⟨rfl,rfl,h.still hg hx hst⟩
  | true =>
   rw [if_pos rfl]
   refine (bTag_any xb sb s cb tb cl.length (cD cl) A.tg m (hxB b) w h.st h.hG h.sw hm htag h.good.tok hu (hx_dig b) (by rw [hx_rd];exact hh) hmay (fun t ht=>by rw [hx_rd] at ht;exact h.con300 ((h.rd b).symm.trans ht)) h.good.t8 (tgNew_len h.good hmay) h.fit (sa_bud hn hcu)).mono ?_
   rintro e w' ⟨k,s',rfl,hg,hx,hw,h0,h1⟩
   have hta:taT s.ds (rd (hxB b)) m A.tg = tgNew A m b:=by
    unfold taT tgNew
    rw [hx_rd,h.rd b,hc]
    have:=szT_ins (n:=m) (h.good.told2 b)
    rw [hc] at this
    exact this
   rw [hta] at hw h0
   have hgp:=h.good.pub hb hm htag hmay
   have hnw:newC A b = none:=by unfold newC;rw [hc]
   rw [hnw] at hgp
   obtain ⟨q1,q2⟩:=h.changed (nb:=none) (txt:=⟨#[]⟩) (cl':=cl) hg hx hw (fun b hb=>by cases hb) hgp h0 h1 h.ok h.mem
   rcases q1 with ⟨rfl,q1⟩ | ⟨rfl,q1⟩
   ·refine ⟨congrArg Prod.fst q1,?_,q2⟩
    have:=congrArg (fun x=>x.2.1) q1
    simp only at this
    show _ = Ending.returned (.int .i64 (Pl.run r A ⟨nbN none + tgNeed A.tg (tgNew A m b),⟨#[]⟩,0,⟨nbC A.cs none,tgNew A m b⟩⟩).2.1)
    rw [this]
   ·refine ⟨congrArg Prod.fst q1,?_,q2⟩
    have:=congrArg (fun x=>x.2.1) q1
    simp only at this
    show _ = Ending.returned (.int .i64 (Pl.run r A ⟨nbN none + tgNeed A.tg (tgNew A m b),⟨#[]⟩,0,⟨nbC A.cs none,tgNew A m b⟩⟩).2.1)
    rw [this]
theorem saUntag (h:SA w db xb sb cb s tb cl A r n cu) (hn:n ≤ 300000) (hcu:cu ≤ 90000000000) (m:ByteArray) (hm:m.size ≤ 20) (htag:isTagB m = true) :
  Calls Tryz.prog 38 #[.pointer (some ⟨xb,0,none⟩),.string m] w fun e w'=>((untPl A m).run r A).1 = ⟨#[]⟩ ∧ e = .returned (.int .i64 ((untPl A m).run r A).2.1) ∧ SaN w w' db xb sb cb s tb ((untPl A m).run r A).2.2 r (n + 1) (cu + n + 20):=by
 unfold untPl
 cases hf:(findK TE.n m A.tg).isSome with
 | false =>
  rw [if_neg (by decide),Pl.run_zero h]
  refine (bUntag_none xb sb s cb tb cl.length (cD cl) A.tg m w h.st h.hG h.sw h.good.tok (by omega) htag hf).mono ?_
  rintro e w' ⟨rfl,hg,hx,hst⟩
  exact ⟨rfl,rfl,h.still hg hx hst⟩
 | true =>
  rw [if_pos rfl]
  refine (bUntag_any xb sb s cb tb cl.length (cD cl) A.tg m w h.st h.hG h.sw h.good.tok (by omega) htag hf h.good.t8 h.fit (sa_bud hn hcu)).mono ?_
  rintro e w' ⟨k,s',rfl,hg,hx,hw,h0,h1⟩
  obtain ⟨q1,q2⟩:=h.changed (nb:=none) (txt:=⟨#[]⟩) (cl':=cl) hg hx hw (fun b hb=>by cases hb) (h.good.untag m) h0 h1 h.ok h.mem
  rcases q1 with ⟨rfl,q1⟩ | ⟨rfl,q1⟩
  ·refine ⟨congrArg Prod.fst q1,?_,q2⟩
   have:=congrArg (fun x=>x.2.1) q1
   simp only at this
   show _ = Ending.returned (.int .i64 (Pl.run r A ⟨nbN none + tgNeed A.tg (delK TE.n m A.tg),⟨#[]⟩,0,⟨nbC A.cs none,delK TE.n m A.tg⟩⟩).2.1)
   rw [this]
  ·refine ⟨congrArg Prod.fst q1,?_,q2⟩
   have:=congrArg (fun x=>x.2.1) q1
   simp only at this
   show _ = Ending.returned (.int .i64 (Pl.run r A ⟨nbN none + tgNeed A.tg (delK TE.n m A.tg),⟨#[]⟩,0,⟨nbC A.cs none,delK TE.n m A.tg⟩⟩).2.1)
   rw [this]
theorem SA.ran {w':World} {s':PSt} {nc m:Nat} {A':Sto} {cl':List (List Nat)} {l:List Stp} {k:Int} (h:SA w db xb sb cb s tb cl A r n cu) (hg:SGo (sS xb sb cb) s s' w w') (hx:BSt w' xb sb) (hr:Ran s.ds l k m s'.ds) (hl:l.length ≤ n + 20)
  (hst:StW w' sb s' cb tb nc A'.tg.length (cD cl') (tD A'.tg)) (hok:∀ d ∈ cl',DigOk d) (hmem:∀ d,d ∈ cl' ↔ ∃ b ∈ A'.cs,d = dOfB b) (hlen:A'.cs.length ≤ n + 1) (hrs:Rst s'.ds (fA A') r 2000) (hgd:GoodA A') (hu:(szA A':Int) ≤ r):SaN w w' db xb sb cb s tb A' r (n + 1) (cu + n + 20):=by
 have hc:=h.fit.ran hr
 refine ⟨s',tb,cl',hg,.inl rfl,hx,h.hG,hst.tight,h.bdGo hg,hok,hmem,hlen,hrs,hc.c0,?_,hgd,hu,h.r0,h.r1⟩
 have:=hc.c1
 omega
theorem cD_del (cl:List (List Nat)) (d:List Nat):(cD cl).del (dKey d) = cD (delK dK (dK d) cl):=by
 rw [dKey_eq]
 exact mD_del (key:=dK) (val:=fun _=>.agg #[]) (dK d) cl
theorem saDel (h:SA w db xb sb cb s tb cl A r n cu) (hn:n ≤ 300000) (hcu:cu ≤ 90000000000) (b:ByteArray) :
  Calls Tryz.prog 39 #[.pointer (some ⟨xb,0,none⟩),.string (hxB b)] w fun e w'=>((delPl A b).run r A).1 = ⟨#[]⟩ ∧ e = .returned (.int .i64 ((delPl A b).run r A).2.1) ∧ SaN w w' db xb sb cb s tb ((delPl A b).run r A).2.2 r (n + 1) (cu + n + 20):=by
 have hh:=h.has b
 have hu:=unitC_cD cl
 unfold delPl
 cases hc:conC A b with
 | none =>
  rw [show findK kC (kC b) A.cs = none from hc] at hh
  rw [if_neg (by simp),Pl.run_zero h]
  refine (bDel_none xb sb s cb tb cl.length (cD cl) A.tg (hxB b) w h.st h.hG h.sw hu (hx_dig b) (by rw [hx_rd];exact hh)).mono ?_
  rintro e w' ⟨rfl,hg,hx,hst⟩
  exact ⟨rfl,rfl,h.still hg hx hst⟩
 | some c =>
  rw [show findK kC (kC b) A.cs = some c from hc] at hh
  rw [if_pos (by simp)]
  cases ht:tagd (dOfB b) A.tg with
  | true =>
   rw [if_pos rfl,Pl.run_zero h]
   refine (bDel_tagged xb sb s cb tb cl.length (cD cl) A.tg (hxB b) w h.st h.hG h.sw h.good.tok hu (hx_dig b) (by rw [hx_rd];exact hh) (by rw [hx_rd];exact ht)).mono ?_
   rintro e w' ⟨rfl,hg,hx,hst⟩
   exact ⟨rfl,rfl,h.still hg hx hst⟩
  | false =>
   rw [if_neg (by decide),Pl.run_zero h]
   refine (bDel_any xb sb s cb tb cl.length (cD cl) A.tg (hxB b) w h.st h.hG h.sw h.good.tok hu (hx_dig b) (by rw [hx_rd];exact hh) (by rw [hx_rd];exact ht) h.fit (show Bud _ _ _ from ⟨by omega,by omega,by omega⟩)).mono ?_
   rintro e w' ⟨k,s',m,rfl,hg,hx,hr,hcase⟩
   rw [hx_rd] at hr hcase
   obtain ⟨c1,c2⟩:=find_kC_some hc
   obtain ⟨rfl,rfl,hrs⟩:=del_rest (x:=fC c) h.rst (by unfold fA;exact List.mem_append.2 (.inl (List.mem_map_of_mem c1))) (cP_path _) (by
    show Ran s.ds [sRm (kC c),sSd] k m s'.ds
    unfold kC
    rw [c2]
    exact hr)
   have hkc:(fC c).p = kC b:=by show kC c = kC b;unfold kC;rw [c2]
   rw [hkc,fA_del h.good.rise] at hrs
   rcases hcase with ⟨hm,_⟩ | ⟨_,hst⟩
   ·cases hm
   ·rw [cD_del] at hst
    refine ⟨rfl,rfl,h.ran (A':=⟨delK kC (kC b) A.cs,A.tg⟩) hg hx hr (by simp) hst (fun d hd=>h.ok d (delK_mem.1 hd).1) (fun d=>?_) ?_ hrs (h.good.del ht) ?_⟩
    ·rw [delK_mem,h.mem]
     constructor
     ·rintro ⟨⟨x,hx,e⟩,hne⟩
      refine ⟨x,delK_mem.2 ⟨hx,fun e2=>hne ?_⟩,e⟩
      rw [e,kC_inj e2]
     ·rintro ⟨x,hx,e⟩
      obtain ⟨x1,x2⟩:=delK_mem.1 hx
      refine ⟨⟨x,x1,e⟩,fun e2=>x2 ?_⟩
      have:d = dOfB b:=dK_inj (by rw [e];exact dOfB_ok x) (dOfB_ok b) e2
      unfold kC
      rw [← e,this]
    ·have:=delK_len (key:=kC) (kC b) A.cs
     have:=h.len
     show (delK kC (kC b) A.cs).length ≤ n + 1
     omega
    ·have:=szA_del A b
     have:=h.use
     omega
theorem delsD_cD:∀ (ul:List DV) (cl:List (List Nat)),delsD (cD cl) ul = cD (ul.foldl (fun c d=>delK dK (dK d.1) c) cl)
 | [],_=>rfl
 | d :: ul,cl=>by
  show delsD ((cD cl).del (dKey d.1)) ul = _
  rw [cD_del,delsD_cD ul]
  rfl
theorem dels_mem {x:List Nat}:∀ (ul:List DV) (cl:List (List Nat)),x ∈ ul.foldl (fun c d=>delK dK (dK d.1) c) cl ↔ x ∈ cl ∧ ∀ d ∈ ul,dK x ≠ dK d.1
 | [],_=>by simp
 | d :: ul,cl=>by
  rw [List.foldl_cons,dels_mem ul,delK_mem]
  constructor
  ·rintro ⟨⟨h1,h2⟩,h3⟩
   exact ⟨h1,fun e he=>by
    rcases List.mem_cons.1 he with rfl | he
    ·exact h2
    ·exact h3 e he⟩
  ·rintro ⟨h1,h2⟩
   exact ⟨⟨h1,h2 d (by simp)⟩,fun e he=>h2 e (by simp [he])⟩
theorem dl_nodup (h:RiseK kC A.cs):(dlA A).Nodup:=riseK_nodup (dl_rise h)
theorem taggedC_all (h:unT A.tg (dlA A) = []):taggedC A = A.cs:=by
 unfold taggedC
 refine List.filter_eq_self.2 (fun b hb=>?_)
 have h1:dvC b ∉ unT A.tg (dlA A):=by rw [h];simp
 unfold unT at h1
 rw [List.mem_filter] at h1
 cases ht:tagd (dOfB b) A.tg with
 | true=>rfl
 | false =>
  refine absurd ⟨dl_mem.2 ⟨b,hb,dvC_val b⟩,?_⟩ h1
  rw [dvC_val,ht]
  rfl
theorem saPrune (h:SA w db xb sb cb s tb cl A r n cu) (hn:n ≤ 300000) (hcu:cu ≤ 90000000000) :
  Calls Tryz.prog 40 #[.pointer (some ⟨xb,0,none⟩)] w fun e w'=>(pruPl A).run r A = (⟨(Lib.itoa (untN A:Int)).toArray⟩,0,⟨taggedC A,A.tg⟩) ∧ e = .returned (.tuple #[.int .i64 (untN A:Int),.int .i64 0]) ∧ SaN w w' db xb sb cb s tb ((pruPl A).run r A).2.2 r (n + 1) (cu + n + 20):=by
 have hrun:(pruPl A).run r A = (⟨(Lib.itoa (untN A:Int)).toArray⟩,0,⟨taggedC A,A.tg⟩):=Pl.run_zero h _ _ _
 rw [hrun]
 have hdl:(dlA A).length ≤ n:=by unfold dlA;rw [List.length_map];exact h.len
 have hmem:∀ x,x ∈ dlA A ↔ x.1 ∈ cl:=fun x=>by rw [dl_mem,h.mem]
 refine (bPrune_any xb sb s cb tb cl.length A.tg cl (dlA A) w h.st h.hG h.sw h.good.tok h.ok (dl_rise h.good.rise) hmem (by have:=h.clen;omega) (by omega) h.fit (show Bud _ _ _ from ⟨by omega,by omega,by omega⟩)).mono ?_
 rintro e w' ⟨k,s',rfl,hg,hx,hcase⟩
 rcases hcase with ⟨hu,rfl,rfl,hst⟩ | ⟨hu,m,hr,hst⟩
 ·refine ⟨rfl,rfl,?_⟩
  have hA:(⟨taggedC A,A.tg⟩ : Sto) = A:=by rw [taggedC_all hu]
  show SaN w w' db xb sb cb s' tb (⟨taggedC A,A.tg⟩ : Sto) r (n + 1) (cu + n + 20)
  rw [hA]
  exact h.still hg hx hst
 ·have hun:(unT A.tg (dlA A)).length ≤ n:=Nat.le_trans (List.length_filter_le _ _) hdl
  obtain ⟨rfl,rfl,hrs⟩:=prune_rest (ul:=unT A.tg (dlA A)) (t:=⟨#[]⟩) (y:=((⟨#[]⟩ : ByteArray).size:Int)) h.rst (by unfold fA tailF;simp [ff]) (find_pruning A) ((dl_nodup h.good.rise).sublist List.filter_sublist) (fun d hd=>by
   obtain ⟨b,hb,e⟩:=dl_mem.1 (List.mem_filter.1 hd).1
   exact ⟨fC b,by unfold fA;exact List.mem_append.2 (.inl (List.mem_map_of_mem hb)),by show kC b = _;unfold kC;rw [e]⟩) hr
  rw [fA_prune h.good.rise] at hrs
  rw [List.take_of_length_le (by omega),delsD_cD] at hst
  refine ⟨rfl,rfl,h.ran (A':=⟨taggedC A,A.tg⟩) hg hx hr (by simp [prS,epS,rmC];omega) hst (fun d hd=>h.ok d ((dels_mem _ _).1 hd).1) (fun d=>?_) ?_ hrs h.good.prune ?_⟩
  ·rw [dels_mem,h.mem]
   constructor
   ·rintro ⟨⟨x,hx,e⟩,hne⟩
    refine ⟨x,List.mem_filter.2 ⟨hx,?_⟩,e⟩
    cases ht:tagd (dOfB x) A.tg with
    | true=>rfl
    | false =>
     refine absurd ?_ (hne (dvC x) (List.mem_filter.2 ⟨dl_mem.2 ⟨x,hx,dvC_val x⟩,?_⟩))
     ·rw [e,dvC_val]
     ·rw [dvC_val,ht]
      rfl
   ·rintro ⟨x,hx,e⟩
    obtain ⟨x1,x2⟩:=List.mem_filter.1 hx
    refine ⟨⟨x,x1,e⟩,fun u hu2 e2=>?_⟩
    have h3:d = u.1:=dK_inj (by rw [e];exact dOfB_ok x) u.2 e2
    have h4:=(List.mem_filter.1 hu2).2
    rw [← h3,e] at h4
    simp [x2] at h4
  ·have:(taggedC A).length ≤ A.cs.length:=List.length_filter_le _ _
   have:=h.len
   show (taggedC A).length ≤ n + 1
   omega
  ·have:=szA_prune A
   have:=h.use
   omega
end
end Go.Proofs.YtncigfibncmioaaGreatDoor
namespace Go.Proofs.YtncigfibncmioaaGreatDoor
set_option maxHeartbeats 4000000
set_option maxRecDepth 100000
open Go.RowKit
section
variable {w:World} {db xb sb cb:Nat} {s:PSt} {tb:Nat} {cl:List (List Nat)} {A:Sto} {r:Int} {n cu:Nat}
theorem SA.later {w':World} (h:SA w db xb sb cb s tb cl A r n cu) (hb:Below w.heap.size w w'):SA w' db xb sb cb s tb cl A r n cu:=h.same (SGo.of_below hb) ((hb.block _ (lt_heap h.st)).trans h.st) (h.sw.later hb)
theorem SaN.pre {w1 w':World} {A':Sto} {m cv:Nat} (h:SaN w1 w' db xb sb cb s tb A' r m cv) (hb:Below w.heap.size w w1):SaN w w' db xb sb cb s tb A' r m cv:=by
 obtain ⟨s',tb',cl',h1,h2,h3⟩:=h
 exact ⟨s',tb',cl',(SGo.of_below hb).trans h1,h2.imp id (fun h=>Nat.le_trans hb.size h),h3⟩
theorem SaN.post {w1 w':World} {A':Sto} {m cv:Nat} (h:SaN w w1 db xb sb cb s tb A' r m cv) (hb:Below w1.heap.size w1 w'):SaN w w' db xb sb cb s tb A' r m cv:=by
 obtain ⟨s',tb',cl',h1,h2,h3⟩:=h
 exact ⟨s',tb',cl',h1.trans (SGo.of_below hb),h2,h3.later hb⟩
theorem hashK (b:ByteArray) (w:World) (hb:b.size ≤ 300) (hg:Gl w):Calls Tryz.prog 35 #[.string b] w fun e w'=>e = .returned (.string (hxB b)) ∧ Below w.heap.size w w':=hash_any b w (by omega) hg.hk
def dsPl (A:Sto) (K N B:Int):Pl:=match pickN K 8 with
 | 0=>putPl A (conT B)
 | 1=>putPl A (conT B)
 | 2=>tagPl A (nmT N) (conT B)
 | 3=>untPl A (nmT N)
 | 4=>pubPl A (nmT N) (conT B)
 | 5=>pubPl A (nmT N) (conT B)
 | 6=>delPl A (conT B)
 | _=>pruPl A
def i64r (x:Int):Prop := -9223372036854775808 ≤ x ∧ x ≤ 9223372036854775807
theorem does_0 (h:SA w db xb sb cb s tb cl A r n cu) (hn:n ≤ 300000) (hcu:cu ≤ 90000000000) (K N B:Int) (hK:i64r K) (hN:i64r N) (hB:i64r B) (hk:pickN K 8 = 0) :
  Calls Tryz.prog 11 #[.pointer (some ⟨xb,0,none⟩),.agg #[.int .i64 K,.int .i64 N,.int .i64 B]] w fun e w'=>e = .returned (.tuple #[.string ((putPl A (conT B)).run r A).1,.int .i64 ((putPl A (conT B)).run r A).2.1]) ∧ SaN w w' db xb sb cb s tb ((putPl A (conT B)).run r A).2.2 r (n + 1) (cu + n + 20):=by
 have hpk:∀ w,Calls Tryz.prog 21 #[.int .i64 K,.int .i64 8] w fun e w'=>e = .returned (.int .i64 0) ∧ w' = w:=fun w=>by
  have:=pick_any K 8 (by decide) (by decide) hK.1 hK.2 w
  rw [hk] at this
  exact this
 have HP:=hide hpk
 have HCT:=hide (fun w=>content_of B hB.1 hB.2 w)
 have HNM:Hid (∀ w,Calls Tryz.prog 37 #[.int .i64 N] w fun e w'=>e = .returned (.string (nmT N)) ∧ Below w.heap.size w w'):=hide (fun w=>name_any N hN.1 hN.2 w)
 have hbs:=conT_size B
 have hns:=nmT_size N
 have hnt:=nmT_tag N
 generalize conT B = bb at HCT hbs ⊢
 generalize nmT N = nn at HNM hns hnt ⊢
 have HC:=hide (fun (W:World) (hW:SA W db xb sb cb s tb cl A r n cu)=>saPut hW hn hcu bb (by omega))
 generalize (putPl A bb).run r A = X at HC ⊢
 have hbo:Below w.heap.size w (w.alloc (.cells #[.int .i64 K,.int .i64 N,.int .i64 B] 31)):=(Below.refl _ _).alloc (Nat.le_refl _) _
 have hrow:(w.alloc (.cells #[.int .i64 K,.int .i64 N,.int .i64 B] 31)).heap[w.heap.size]? = some (.cells #[.int .i64 K,.int .i64 N,.int .i64 B] 31 (0,0)):=heap_alloc_new _ _
 obtain ⟨W,hW⟩ : ∃ W,W = w.alloc (.cells #[.int .i64 K,.int .i64 N,.int .i64 B] 31):=⟨_,rfl⟩
 rw [← hW] at hbo hrow
 have hs:=h.later hbo
 have c0:W.cell? ⟨w.heap.size,0,none⟩ = some (.int .i64 K):=cell_of_row _ _ 0 _ _ _ hrow
 have c1:W.cell? ⟨w.heap.size,1,none⟩ = some (.int .i64 N):=cell_of_row _ _ 1 _ _ _ hrow
 have c2:W.cell? ⟨w.heap.size,2,none⟩ = some (.int .i64 B):=cell_of_row _ _ 2 _ _ _ hrow
 have HW:=hide hW
 have HBO:=hide hbo
 have HRW:=hide hrow
 have HS:=hide hs
 have HSZ:=hide (show ∀ k,s.own k ∨ sS xb sb cb k → k < w.heap.size from fun k hk=>by
  rcases hk with e | e | e | e
  ·exact h.sw.inn.lt e
  ·rw [e];exact lt_heap h.st
  ·rw [e];exact lt_heap h.sw.blk
  ·rw [e];exact h.sw.cm.lt)
 clear h hW hbo hrow hs hpk hK hN hB hk
 go_enter Tryz.func11,Tryz.ntmps11
 go_upto_region 1 with fail
 rw [← HW.out]
 go_wp2_with fail
 refine (HP.out _).mono ?_
 rintro _ w1 ⟨rfl,hw1⟩
 rw [hw1]
 dsimp only
 clear hw1
 go_wp2_with fail
 refine (HCT.out _).mono ?_
 rintro _ w2 ⟨rfl,hb2⟩
 dsimp only
 have HB2:=hide (HBO.out.trans (hb2.mono HBO.out.size))
 have HC2:=hide (HC.out w2 (HS.out.later hb2))
 clear hb2 c0 c1 c2 HC
 go_wp2_with fail
 refine (HC2.out).mono ?_
 rintro _ w3 ⟨rfl,hsn⟩
 dsimp only
 have HN:=hide (hsn.pre HB2.out)
 clear hsn HC2
 go_wp2_with fail
 refine bodyPost_ret (results_tmp2 rfl _ _ _) rfl ?_
 exact ⟨rfl,HN.out⟩
theorem does_1 (h:SA w db xb sb cb s tb cl A r n cu) (hn:n ≤ 300000) (hcu:cu ≤ 90000000000) (K N B:Int) (hK:i64r K) (hN:i64r N) (hB:i64r B) (hk:pickN K 8 = 1) :
  Calls Tryz.prog 11 #[.pointer (some ⟨xb,0,none⟩),.agg #[.int .i64 K,.int .i64 N,.int .i64 B]] w fun e w'=>e = .returned (.tuple #[.string ((putPl A (conT B)).run r A).1,.int .i64 ((putPl A (conT B)).run r A).2.1]) ∧ SaN w w' db xb sb cb s tb ((putPl A (conT B)).run r A).2.2 r (n + 1) (cu + n + 20):=by
 have hpk:∀ w,Calls Tryz.prog 21 #[.int .i64 K,.int .i64 8] w fun e w'=>e = .returned (.int .i64 1) ∧ w' = w:=fun w=>by
  have:=pick_any K 8 (by decide) (by decide) hK.1 hK.2 w
  rw [hk] at this
  exact this
 have HP:=hide hpk
 have HCT:=hide (fun w=>content_of B hB.1 hB.2 w)
 have HNM:Hid (∀ w,Calls Tryz.prog 37 #[.int .i64 N] w fun e w'=>e = .returned (.string (nmT N)) ∧ Below w.heap.size w w'):=hide (fun w=>name_any N hN.1 hN.2 w)
 have hbs:=conT_size B
 have hns:=nmT_size N
 have hnt:=nmT_tag N
 generalize conT B = bb at HCT hbs ⊢
 generalize nmT N = nn at HNM hns hnt ⊢
 have HC:=hide (fun (W:World) (hW:SA W db xb sb cb s tb cl A r n cu)=>saPut hW hn hcu bb (by omega))
 generalize (putPl A bb).run r A = X at HC ⊢
 have hbo:Below w.heap.size w (w.alloc (.cells #[.int .i64 K,.int .i64 N,.int .i64 B] 31)):=(Below.refl _ _).alloc (Nat.le_refl _) _
 have hrow:(w.alloc (.cells #[.int .i64 K,.int .i64 N,.int .i64 B] 31)).heap[w.heap.size]? = some (.cells #[.int .i64 K,.int .i64 N,.int .i64 B] 31 (0,0)):=heap_alloc_new _ _
 obtain ⟨W,hW⟩ : ∃ W,W = w.alloc (.cells #[.int .i64 K,.int .i64 N,.int .i64 B] 31):=⟨_,rfl⟩
 rw [← hW] at hbo hrow
 have hs:=h.later hbo
 have c0:W.cell? ⟨w.heap.size,0,none⟩ = some (.int .i64 K):=cell_of_row _ _ 0 _ _ _ hrow
 have c1:W.cell? ⟨w.heap.size,1,none⟩ = some (.int .i64 N):=cell_of_row _ _ 1 _ _ _ hrow
 have c2:W.cell? ⟨w.heap.size,2,none⟩ = some (.int .i64 B):=cell_of_row _ _ 2 _ _ _ hrow
 have HW:=hide hW
 have HBO:=hide hbo
 have HRW:=hide hrow
 have HS:=hide hs
 have HSZ:=hide (show ∀ k,s.own k ∨ sS xb sb cb k → k < w.heap.size from fun k hk=>by
  rcases hk with e | e | e | e
  ·exact h.sw.inn.lt e
  ·rw [e];exact lt_heap h.st
  ·rw [e];exact lt_heap h.sw.blk
  ·rw [e];exact h.sw.cm.lt)
 clear h hW hbo hrow hs hpk hK hN hB hk
 go_enter Tryz.func11,Tryz.ntmps11
 go_upto_region 1 with fail
 rw [← HW.out]
 go_wp2_with fail
 refine (HP.out _).mono ?_
 rintro _ w1 ⟨rfl,hw1⟩
 rw [hw1]
 dsimp only
 clear hw1
 go_wp2_with fail
 refine (HCT.out _).mono ?_
 rintro _ w2 ⟨rfl,hb2⟩
 dsimp only
 have HB2:=hide (HBO.out.trans (hb2.mono HBO.out.size))
 have HC2:=hide (HC.out w2 (HS.out.later hb2))
 clear hb2 c0 c1 c2 HC
 go_wp2_with fail
 refine (HC2.out).mono ?_
 rintro _ w3 ⟨rfl,hsn⟩
 dsimp only
 have HN:=hide (hsn.pre HB2.out)
 clear hsn HC2
 go_wp2_with fail
 refine bodyPost_ret (results_tmp2 rfl _ _ _) rfl ?_
 exact ⟨rfl,HN.out⟩
theorem does_2 (h:SA w db xb sb cb s tb cl A r n cu) (hn:n ≤ 300000) (hcu:cu ≤ 90000000000) (K N B:Int) (hK:i64r K) (hN:i64r N) (hB:i64r B) (hk:pickN K 8 = 2) :
  Calls Tryz.prog 11 #[.pointer (some ⟨xb,0,none⟩),.agg #[.int .i64 K,.int .i64 N,.int .i64 B]] w fun e w'=>e = .returned (.tuple #[.string ((tagPl A (nmT N) (conT B)).run r A).1,.int .i64 ((tagPl A (nmT N) (conT B)).run r A).2.1]) ∧ SaN w w' db xb sb cb s tb ((tagPl A (nmT N) (conT B)).run r A).2.2 r (n + 1) (cu + n + 20):=by
 have hpk:∀ w,Calls Tryz.prog 21 #[.int .i64 K,.int .i64 8] w fun e w'=>e = .returned (.int .i64 2) ∧ w' = w:=fun w=>by
  have:=pick_any K 8 (by decide) (by decide) hK.1 hK.2 w
  rw [hk] at this
  exact this
 have HP:=hide hpk
 have HCT:=hide (fun w=>content_of B hB.1 hB.2 w)
 have HNM:Hid (∀ w,Calls Tryz.prog 37 #[.int .i64 N] w fun e w'=>e = .returned (.string (nmT N)) ∧ Below w.heap.size w w'):=hide (fun w=>name_any N hN.1 hN.2 w)
 have hbs:=conT_size B
 have hns:=nmT_size N
 have hnt:=nmT_tag N
 generalize conT B = bb at HCT hbs ⊢
 generalize nmT N = nn at HNM hns hnt ⊢
 have HC:=hide (fun (W:World) (hW:SA W db xb sb cb s tb cl A r n cu)=>saTag hW hn hcu nn bb (by omega) hnt (by omega))
 have HHS:=hide (fun (W:World) (hg:Gl W)=>hashK bb W (by omega) hg)
 generalize (tagPl A nn bb).run r A = X at HC ⊢
 generalize hxB bb = hh at HC HHS
 have hbo:Below w.heap.size w (w.alloc (.cells #[.int .i64 K,.int .i64 N,.int .i64 B] 31)):=(Below.refl _ _).alloc (Nat.le_refl _) _
 have hrow:(w.alloc (.cells #[.int .i64 K,.int .i64 N,.int .i64 B] 31)).heap[w.heap.size]? = some (.cells #[.int .i64 K,.int .i64 N,.int .i64 B] 31 (0,0)):=heap_alloc_new _ _
 obtain ⟨W,hW⟩ : ∃ W,W = w.alloc (.cells #[.int .i64 K,.int .i64 N,.int .i64 B] 31):=⟨_,rfl⟩
 rw [← hW] at hbo hrow
 have hs:=h.later hbo
 have c0:W.cell? ⟨w.heap.size,0,none⟩ = some (.int .i64 K):=cell_of_row _ _ 0 _ _ _ hrow
 have c1:W.cell? ⟨w.heap.size,1,none⟩ = some (.int .i64 N):=cell_of_row _ _ 1 _ _ _ hrow
 have c2:W.cell? ⟨w.heap.size,2,none⟩ = some (.int .i64 B):=cell_of_row _ _ 2 _ _ _ hrow
 have HW:=hide hW
 have HBO:=hide hbo
 have HRW:=hide hrow
 have HS:=hide hs
 have HSZ:=hide (show ∀ k,s.own k ∨ sS xb sb cb k → k < w.heap.size from fun k hk=>by
  rcases hk with e | e | e | e
  ·exact h.sw.inn.lt e
  ·rw [e];exact lt_heap h.st
  ·rw [e];exact lt_heap h.sw.blk
  ·rw [e];exact h.sw.cm.lt)
 clear h hW hbo hrow hs hpk hK hN hB hk
 go_enter Tryz.func11,Tryz.ntmps11
 go_upto_region 1 with fail
 rw [← HW.out]
 go_wp2_with fail
 refine (HP.out _).mono ?_
 rintro _ w1 ⟨rfl,hw1⟩
 rw [hw1]
 dsimp only
 clear hw1
 go_wp2_with fail
 obtain ⟨bx,hbx⟩ : ∃ bx,bx = w.heap.size:=⟨_,rfl⟩
 rw [← hbx] at c1 c2 HRW ⊢
 have HBX:=hide hbx
 have hdr:Below W.heap.size W W.drew:=(Below.refl _ _).drew
 have hS0:W.drew.cell? ⟨bx,1,none⟩ = some (.int .i64 N) ∧ W.drew.cell? ⟨bx,2,none⟩ = some (.int .i64 B):=⟨cell_later hdr c1,cell_later hdr c2⟩
 have HC1:=hide c1
 have HC2:=hide c2
 clear hbx c0 c1 c2
 go_region_held3 (fun w'=>w'.cell? ⟨bx,1,none⟩ = some (.int .i64 N) ∧ w'.cell? ⟨bx,2,none⟩ = some (.int .i64 B)) (first | exact hS0 | exact hS1 | exact hS2 | exact hS3 | exact hS4 | go_keep) ((first
  | (go_at_call 37;refine (HNM.out _).mono ?_;rintro _ w2 ⟨rfl,hb2⟩;have hbn:Below W.heap.size W w2:=hdr.trans hb2;have hS1:w2.cell? ⟨bx,1,none⟩ = some (.int .i64 N) ∧ w2.cell? ⟨bx,2,none⟩ = some (.int .i64 B):=⟨cell_later hbn HC1.out,cell_later hbn HC2.out⟩)
  | (go_at_call 31;refine (HCT.out _).mono ?_;rintro _ w3 ⟨rfl,hb3⟩;have hbc:Below W.heap.size W w3:=hbn.trans (hb3.mono hbn.size);have hS2:w3.cell? ⟨bx,1,none⟩ = some (.int .i64 N) ∧ w3.cell? ⟨bx,2,none⟩ = some (.int .i64 B):=⟨cell_later hbc HC1.out,cell_later hbc HC2.out⟩)
  | (go_at_call 35;refine (HHS.out _ (HS.out.later hbc).sw.gl).mono ?_;rintro _ w4 ⟨rfl,hb4⟩;have hbh:Below W.heap.size W w4:=hbc.trans (hb4.mono hbc.size);have hS3:w4.cell? ⟨bx,1,none⟩ = some (.int .i64 N) ∧ w4.cell? ⟨bx,2,none⟩ = some (.int .i64 B):=⟨cell_later hbh HC1.out,cell_later hbh HC2.out⟩)
  | (go_at_call 36;refine (HC.out _ (HS.out.later hbh)).mono ?_;rintro _ w5 ⟨h1,rfl,hsn⟩;have hsg:=hsn;obtain ⟨s9,tb9,cl9,hg9, -, -⟩:=hsg;have hr9:=(hg9.gr.block bx (Nat.lt_of_lt_of_le (lt_heap HRW.out) hbh.size) (fun e=>by have:=HSZ.out _ e;have:=HBX.out;omega)).trans ((hbh.block _ (lt_heap HRW.out)).trans HRW.out);have hS4:w5.cell? ⟨bx,1,none⟩ = some (.int .i64 N) ∧ w5.cell? ⟨bx,2,none⟩ = some (.int .i64 B):=⟨cell_of_row _ _ 1 _ _ _ hr9,cell_of_row _ _ 2 _ _ _ hr9⟩)))
 have HN:=hide (hsn.pre (HBO.out.trans (hbh.mono HBO.out.size)))
 have H1:=hide h1
 clear hsn h1 hg9 hr9 hS0 hS1 hS2 hS3 hS4 hb2 hb3 hb4 hbn hbc hbh HC hdr
 go_wp2_with fail
 refine bodyPost_ret (results_tmp2 rfl _ _ _) rfl ?_
 exact ⟨by rw [H1.out];rfl,HN.out⟩
theorem does_3 (h:SA w db xb sb cb s tb cl A r n cu) (hn:n ≤ 300000) (hcu:cu ≤ 90000000000) (K N B:Int) (hK:i64r K) (hN:i64r N) (hB:i64r B) (hk:pickN K 8 = 3) :
  Calls Tryz.prog 11 #[.pointer (some ⟨xb,0,none⟩),.agg #[.int .i64 K,.int .i64 N,.int .i64 B]] w fun e w'=>e = .returned (.tuple #[.string ((untPl A (nmT N)).run r A).1,.int .i64 ((untPl A (nmT N)).run r A).2.1]) ∧ SaN w w' db xb sb cb s tb ((untPl A (nmT N)).run r A).2.2 r (n + 1) (cu + n + 20):=by
 have hpk:∀ w,Calls Tryz.prog 21 #[.int .i64 K,.int .i64 8] w fun e w'=>e = .returned (.int .i64 3) ∧ w' = w:=fun w=>by
  have:=pick_any K 8 (by decide) (by decide) hK.1 hK.2 w
  rw [hk] at this
  exact this
 have HP:=hide hpk
 have HCT:=hide (fun w=>content_of B hB.1 hB.2 w)
 have HNM:Hid (∀ w,Calls Tryz.prog 37 #[.int .i64 N] w fun e w'=>e = .returned (.string (nmT N)) ∧ Below w.heap.size w w'):=hide (fun w=>name_any N hN.1 hN.2 w)
 have hbs:=conT_size B
 have hns:=nmT_size N
 have hnt:=nmT_tag N
 generalize conT B = bb at HCT hbs ⊢
 generalize nmT N = nn at HNM hns hnt ⊢
 have HC:=hide (fun (W:World) (hW:SA W db xb sb cb s tb cl A r n cu)=>saUntag hW hn hcu nn (by omega) hnt)
 generalize (untPl A nn).run r A = X at HC ⊢
 have hbo:Below w.heap.size w (w.alloc (.cells #[.int .i64 K,.int .i64 N,.int .i64 B] 31)):=(Below.refl _ _).alloc (Nat.le_refl _) _
 have hrow:(w.alloc (.cells #[.int .i64 K,.int .i64 N,.int .i64 B] 31)).heap[w.heap.size]? = some (.cells #[.int .i64 K,.int .i64 N,.int .i64 B] 31 (0,0)):=heap_alloc_new _ _
 obtain ⟨W,hW⟩ : ∃ W,W = w.alloc (.cells #[.int .i64 K,.int .i64 N,.int .i64 B] 31):=⟨_,rfl⟩
 rw [← hW] at hbo hrow
 have hs:=h.later hbo
 have c0:W.cell? ⟨w.heap.size,0,none⟩ = some (.int .i64 K):=cell_of_row _ _ 0 _ _ _ hrow
 have c1:W.cell? ⟨w.heap.size,1,none⟩ = some (.int .i64 N):=cell_of_row _ _ 1 _ _ _ hrow
 have c2:W.cell? ⟨w.heap.size,2,none⟩ = some (.int .i64 B):=cell_of_row _ _ 2 _ _ _ hrow
 have HW:=hide hW
 have HBO:=hide hbo
 have HRW:=hide hrow
 have HS:=hide hs
 have HSZ:=hide (show ∀ k,s.own k ∨ sS xb sb cb k → k < w.heap.size from fun k hk=>by
  rcases hk with e | e | e | e
  ·exact h.sw.inn.lt e
  ·rw [e];exact lt_heap h.st
  ·rw [e];exact lt_heap h.sw.blk
  ·rw [e];exact h.sw.cm.lt)
 clear h hW hbo hrow hs hpk hK hN hB hk
 go_enter Tryz.func11,Tryz.ntmps11
 go_upto_region 1 with fail
 rw [← HW.out]
 go_wp2_with fail
 refine (HP.out _).mono ?_
 rintro _ w1 ⟨rfl,hw1⟩
 rw [hw1]
 dsimp only
 clear hw1
 go_wp2_with fail
 refine (HNM.out _).mono ?_
 rintro _ w2 ⟨rfl,hb2⟩
 dsimp only
 have HB2:=hide (HBO.out.trans (hb2.mono HBO.out.size))
 have HC2:=hide (HC.out w2 (HS.out.later hb2))
 clear hb2 c0 c1 c2 HC
 go_wp2_with fail
 refine (HC2.out).mono ?_
 rintro _ w3 ⟨h1,rfl,hsn⟩
 dsimp only
 have HN:=hide (hsn.pre HB2.out)
 have H1:=hide h1
 clear hsn HC2 h1
 go_wp2_with fail
 refine bodyPost_ret (results_tmp2 rfl _ _ _) rfl ?_
 exact ⟨by rw [H1.out];rfl,HN.out⟩
theorem does_4 (h:SA w db xb sb cb s tb cl A r n cu) (hn:n ≤ 300000) (hcu:cu ≤ 90000000000) (K N B:Int) (hK:i64r K) (hN:i64r N) (hB:i64r B) (hk:pickN K 8 = 4) :
  Calls Tryz.prog 11 #[.pointer (some ⟨xb,0,none⟩),.agg #[.int .i64 K,.int .i64 N,.int .i64 B]] w fun e w'=>e = .returned (.tuple #[.string ((pubPl A (nmT N) (conT B)).run r A).1,.int .i64 ((pubPl A (nmT N) (conT B)).run r A).2.1]) ∧ SaN w w' db xb sb cb s tb ((pubPl A (nmT N) (conT B)).run r A).2.2 r (n + 1) (cu + n + 20):=by
 have hpk:∀ w,Calls Tryz.prog 21 #[.int .i64 K,.int .i64 8] w fun e w'=>e = .returned (.int .i64 4) ∧ w' = w:=fun w=>by
  have:=pick_any K 8 (by decide) (by decide) hK.1 hK.2 w
  rw [hk] at this
  exact this
 have HP:=hide hpk
 have HCT:=hide (fun w=>content_of B hB.1 hB.2 w)
 have HNM:Hid (∀ w,Calls Tryz.prog 37 #[.int .i64 N] w fun e w'=>e = .returned (.string (nmT N)) ∧ Below w.heap.size w w'):=hide (fun w=>name_any N hN.1 hN.2 w)
 have hbs:=conT_size B
 have hns:=nmT_size N
 have hnt:=nmT_tag N
 generalize conT B = bb at HCT hbs ⊢
 generalize nmT N = nn at HNM hns hnt ⊢
 have HC:=hide (fun (W:World) (hW:SA W db xb sb cb s tb cl A r n cu)=>saPub hW hn hcu nn bb (by omega) hnt (by omega))
 generalize (pubPl A nn bb).run r A = X at HC ⊢
 have hbo:Below w.heap.size w (w.alloc (.cells #[.int .i64 K,.int .i64 N,.int .i64 B] 31)):=(Below.refl _ _).alloc (Nat.le_refl _) _
 have hrow:(w.alloc (.cells #[.int .i64 K,.int .i64 N,.int .i64 B] 31)).heap[w.heap.size]? = some (.cells #[.int .i64 K,.int .i64 N,.int .i64 B] 31 (0,0)):=heap_alloc_new _ _
 obtain ⟨W,hW⟩ : ∃ W,W = w.alloc (.cells #[.int .i64 K,.int .i64 N,.int .i64 B] 31):=⟨_,rfl⟩
 rw [← hW] at hbo hrow
 have hs:=h.later hbo
 have c0:W.cell? ⟨w.heap.size,0,none⟩ = some (.int .i64 K):=cell_of_row _ _ 0 _ _ _ hrow
 have c1:W.cell? ⟨w.heap.size,1,none⟩ = some (.int .i64 N):=cell_of_row _ _ 1 _ _ _ hrow
 have c2:W.cell? ⟨w.heap.size,2,none⟩ = some (.int .i64 B):=cell_of_row _ _ 2 _ _ _ hrow
 have HW:=hide hW
 have HBO:=hide hbo
 have HRW:=hide hrow
 have HS:=hide hs
 have HSZ:=hide (show ∀ k,s.own k ∨ sS xb sb cb k → k < w.heap.size from fun k hk=>by
  rcases hk with e | e | e | e
  ·exact h.sw.inn.lt e
  ·rw [e];exact lt_heap h.st
  ·rw [e];exact lt_heap h.sw.blk
  ·rw [e];exact h.sw.cm.lt)
 clear h hW hbo hrow hs hpk hK hN hB hk
 go_enter Tryz.func11,Tryz.ntmps11
 go_upto_region 1 with fail
 rw [← HW.out]
 go_wp2_with fail
 refine (HP.out _).mono ?_
 rintro _ w1 ⟨rfl,hw1⟩
 rw [hw1]
 dsimp only
 clear hw1
 go_wp2_with fail
 obtain ⟨bx,hbx⟩ : ∃ bx,bx = w.heap.size:=⟨_,rfl⟩
 rw [← hbx] at c1 c2 HRW ⊢
 have HBX:=hide hbx
 have hdr:Below W.heap.size W W.drew:=(Below.refl _ _).drew
 have hS0:W.drew.cell? ⟨bx,1,none⟩ = some (.int .i64 N) ∧ W.drew.cell? ⟨bx,2,none⟩ = some (.int .i64 B):=⟨cell_later hdr c1,cell_later hdr c2⟩
 have HC1:=hide c1
 have HC2:=hide c2
 clear hbx c0 c1 c2
 go_region_held3 (fun w'=>w'.cell? ⟨bx,1,none⟩ = some (.int .i64 N) ∧ w'.cell? ⟨bx,2,none⟩ = some (.int .i64 B)) (first | exact hS0 | exact hS1 | exact hS2 | exact hS3 | exact hS4 | go_keep) ((first
  | (go_at_call 37;refine (HNM.out _).mono ?_;rintro _ w2 ⟨rfl,hb2⟩;have hbn:Below W.heap.size W w2:=hdr.trans hb2;have hS1:w2.cell? ⟨bx,1,none⟩ = some (.int .i64 N) ∧ w2.cell? ⟨bx,2,none⟩ = some (.int .i64 B):=⟨cell_later hbn HC1.out,cell_later hbn HC2.out⟩)
  | (go_at_call 31;refine (HCT.out _).mono ?_;rintro _ w3 ⟨rfl,hb3⟩;have hbc:Below W.heap.size W w3:=hbn.trans (hb3.mono hbn.size);have hS2:w3.cell? ⟨bx,1,none⟩ = some (.int .i64 N) ∧ w3.cell? ⟨bx,2,none⟩ = some (.int .i64 B):=⟨cell_later hbc HC1.out,cell_later hbc HC2.out⟩)
  | (go_at_call 25;refine (HC.out _ (HS.out.later hbc)).mono ?_;rintro _ w5 ⟨rfl,hsn⟩;have hsg:=hsn;obtain ⟨s9,tb9,cl9,hg9, -, -⟩:=hsg;have hr9:=(hg9.gr.block bx (Nat.lt_of_lt_of_le (lt_heap HRW.out) hbc.size) (fun e=>by have:=HSZ.out _ e;have:=HBX.out;omega)).trans ((hbc.block _ (lt_heap HRW.out)).trans HRW.out);have hS3:w5.cell? ⟨bx,1,none⟩ = some (.int .i64 N) ∧ w5.cell? ⟨bx,2,none⟩ = some (.int .i64 B):=⟨cell_of_row _ _ 1 _ _ _ hr9,cell_of_row _ _ 2 _ _ _ hr9⟩)))
 have HN:=hide (hsn.pre (HBO.out.trans (hbc.mono HBO.out.size)))
 clear hsn hg9 hr9 hS0 hS1 hS2 hS3 hb2 hb3 hbn hbc HC hdr
 go_wp2_with fail
 refine bodyPost_ret (results_tmp2 rfl _ _ _) rfl ?_
 exact ⟨rfl,HN.out⟩
theorem does_5 (h:SA w db xb sb cb s tb cl A r n cu) (hn:n ≤ 300000) (hcu:cu ≤ 90000000000) (K N B:Int) (hK:i64r K) (hN:i64r N) (hB:i64r B) (hk:pickN K 8 = 5) :
  Calls Tryz.prog 11 #[.pointer (some ⟨xb,0,none⟩),.agg #[.int .i64 K,.int .i64 N,.int .i64 B]] w fun e w'=>e = .returned (.tuple #[.string ((pubPl A (nmT N) (conT B)).run r A).1,.int .i64 ((pubPl A (nmT N) (conT B)).run r A).2.1]) ∧ SaN w w' db xb sb cb s tb ((pubPl A (nmT N) (conT B)).run r A).2.2 r (n + 1) (cu + n + 20):=by
 have hpk:∀ w,Calls Tryz.prog 21 #[.int .i64 K,.int .i64 8] w fun e w'=>e = .returned (.int .i64 5) ∧ w' = w:=fun w=>by
  have:=pick_any K 8 (by decide) (by decide) hK.1 hK.2 w
  rw [hk] at this
  exact this
 have HP:=hide hpk
 have HCT:=hide (fun w=>content_of B hB.1 hB.2 w)
 have HNM:Hid (∀ w,Calls Tryz.prog 37 #[.int .i64 N] w fun e w'=>e = .returned (.string (nmT N)) ∧ Below w.heap.size w w'):=hide (fun w=>name_any N hN.1 hN.2 w)
 have hbs:=conT_size B
 have hns:=nmT_size N
 have hnt:=nmT_tag N
 generalize conT B = bb at HCT hbs ⊢
 generalize nmT N = nn at HNM hns hnt ⊢
 have HC:=hide (fun (W:World) (hW:SA W db xb sb cb s tb cl A r n cu)=>saPub hW hn hcu nn bb (by omega) hnt (by omega))
 generalize (pubPl A nn bb).run r A = X at HC ⊢
 have hbo:Below w.heap.size w (w.alloc (.cells #[.int .i64 K,.int .i64 N,.int .i64 B] 31)):=(Below.refl _ _).alloc (Nat.le_refl _) _
 have hrow:(w.alloc (.cells #[.int .i64 K,.int .i64 N,.int .i64 B] 31)).heap[w.heap.size]? = some (.cells #[.int .i64 K,.int .i64 N,.int .i64 B] 31 (0,0)):=heap_alloc_new _ _
 obtain ⟨W,hW⟩ : ∃ W,W = w.alloc (.cells #[.int .i64 K,.int .i64 N,.int .i64 B] 31):=⟨_,rfl⟩
 rw [← hW] at hbo hrow
 have hs:=h.later hbo
 have c0:W.cell? ⟨w.heap.size,0,none⟩ = some (.int .i64 K):=cell_of_row _ _ 0 _ _ _ hrow
 have c1:W.cell? ⟨w.heap.size,1,none⟩ = some (.int .i64 N):=cell_of_row _ _ 1 _ _ _ hrow
 have c2:W.cell? ⟨w.heap.size,2,none⟩ = some (.int .i64 B):=cell_of_row _ _ 2 _ _ _ hrow
 have HW:=hide hW
 have HBO:=hide hbo
 have HRW:=hide hrow
 have HS:=hide hs
 have HSZ:=hide (show ∀ k,s.own k ∨ sS xb sb cb k → k < w.heap.size from fun k hk=>by
  rcases hk with e | e | e | e
  ·exact h.sw.inn.lt e
  ·rw [e];exact lt_heap h.st
  ·rw [e];exact lt_heap h.sw.blk
  ·rw [e];exact h.sw.cm.lt)
 clear h hW hbo hrow hs hpk hK hN hB hk
 go_enter Tryz.func11,Tryz.ntmps11
 go_upto_region 1 with fail
 rw [← HW.out]
 go_wp2_with fail
 refine (HP.out _).mono ?_
 rintro _ w1 ⟨rfl,hw1⟩
 rw [hw1]
 dsimp only
 clear hw1
 go_wp2_with fail
 obtain ⟨bx,hbx⟩ : ∃ bx,bx = w.heap.size:=⟨_,rfl⟩
 rw [← hbx] at c1 c2 HRW ⊢
 have HBX:=hide hbx
 have hdr:Below W.heap.size W W.drew:=(Below.refl _ _).drew
 have hS0:W.drew.cell? ⟨bx,1,none⟩ = some (.int .i64 N) ∧ W.drew.cell? ⟨bx,2,none⟩ = some (.int .i64 B):=⟨cell_later hdr c1,cell_later hdr c2⟩
 have HC1:=hide c1
 have HC2:=hide c2
 clear hbx c0 c1 c2
 go_region_held3 (fun w'=>w'.cell? ⟨bx,1,none⟩ = some (.int .i64 N) ∧ w'.cell? ⟨bx,2,none⟩ = some (.int .i64 B)) (first | exact hS0 | exact hS1 | exact hS2 | exact hS3 | exact hS4 | go_keep) ((first
  | (go_at_call 37;refine (HNM.out _).mono ?_;rintro _ w2 ⟨rfl,hb2⟩;have hbn:Below W.heap.size W w2:=hdr.trans hb2;have hS1:w2.cell? ⟨bx,1,none⟩ = some (.int .i64 N) ∧ w2.cell? ⟨bx,2,none⟩ = some (.int .i64 B):=⟨cell_later hbn HC1.out,cell_later hbn HC2.out⟩)
  | (go_at_call 31;refine (HCT.out _).mono ?_;rintro _ w3 ⟨rfl,hb3⟩;have hbc:Below W.heap.size W w3:=hbn.trans (hb3.mono hbn.size);have hS2:w3.cell? ⟨bx,1,none⟩ = some (.int .i64 N) ∧ w3.cell? ⟨bx,2,none⟩ = some (.int .i64 B):=⟨cell_later hbc HC1.out,cell_later hbc HC2.out⟩)
  | (go_at_call 25;refine (HC.out _ (HS.out.later hbc)).mono ?_;rintro _ w5 ⟨rfl,hsn⟩;have hsg:=hsn;obtain ⟨s9,tb9,cl9,hg9, -, -⟩:=hsg;have hr9:=(hg9.gr.block bx (Nat.lt_of_lt_of_le (lt_heap HRW.out) hbc.size) (fun e=>by have:=HSZ.out _ e;have:=HBX.out;omega)).trans ((hbc.block _ (lt_heap HRW.out)).trans HRW.out);have hS3:w5.cell? ⟨bx,1,none⟩ = some (.int .i64 N) ∧ w5.cell? ⟨bx,2,none⟩ = some (.int .i64 B):=⟨cell_of_row _ _ 1 _ _ _ hr9,cell_of_row _ _ 2 _ _ _ hr9⟩)))
 have HN:=hide (hsn.pre (HBO.out.trans (hbc.mono HBO.out.size)))
 clear hsn hg9 hr9 hS0 hS1 hS2 hS3 hb2 hb3 hbn hbc HC hdr
 go_wp2_with fail
 refine bodyPost_ret (results_tmp2 rfl _ _ _) rfl ?_
 exact ⟨rfl,HN.out⟩
theorem does_6 (h:SA w db xb sb cb s tb cl A r n cu) (hn:n ≤ 300000) (hcu:cu ≤ 90000000000) (K N B:Int) (hK:i64r K) (hN:i64r N) (hB:i64r B) (hk:pickN K 8 = 6) :
  Calls Tryz.prog 11 #[.pointer (some ⟨xb,0,none⟩),.agg #[.int .i64 K,.int .i64 N,.int .i64 B]] w fun e w'=>e = .returned (.tuple #[.string ((delPl A (conT B)).run r A).1,.int .i64 ((delPl A (conT B)).run r A).2.1]) ∧ SaN w w' db xb sb cb s tb ((delPl A (conT B)).run r A).2.2 r (n + 1) (cu + n + 20):=by
 have hpk:∀ w,Calls Tryz.prog 21 #[.int .i64 K,.int .i64 8] w fun e w'=>e = .returned (.int .i64 6) ∧ w' = w:=fun w=>by
  have:=pick_any K 8 (by decide) (by decide) hK.1 hK.2 w
  rw [hk] at this
  exact this
 have HP:=hide hpk
 have HCT:=hide (fun w=>content_of B hB.1 hB.2 w)
 have HNM:Hid (∀ w,Calls Tryz.prog 37 #[.int .i64 N] w fun e w'=>e = .returned (.string (nmT N)) ∧ Below w.heap.size w w'):=hide (fun w=>name_any N hN.1 hN.2 w)
 have hbs:=conT_size B
 have hns:=nmT_size N
 have hnt:=nmT_tag N
 generalize conT B = bb at HCT hbs ⊢
 generalize nmT N = nn at HNM hns hnt ⊢
 have HC:=hide (fun (W:World) (hW:SA W db xb sb cb s tb cl A r n cu)=>saDel hW hn hcu bb)
 have HHS:=hide (fun (W:World) (hg:Gl W)=>hashK bb W (by omega) hg)
 generalize (delPl A bb).run r A = X at HC ⊢
 generalize hxB bb = hh at HC HHS
 have hbo:Below w.heap.size w (w.alloc (.cells #[.int .i64 K,.int .i64 N,.int .i64 B] 31)):=(Below.refl _ _).alloc (Nat.le_refl _) _
 have hrow:(w.alloc (.cells #[.int .i64 K,.int .i64 N,.int .i64 B] 31)).heap[w.heap.size]? = some (.cells #[.int .i64 K,.int .i64 N,.int .i64 B] 31 (0,0)):=heap_alloc_new _ _
 obtain ⟨W,hW⟩ : ∃ W,W = w.alloc (.cells #[.int .i64 K,.int .i64 N,.int .i64 B] 31):=⟨_,rfl⟩
 rw [← hW] at hbo hrow
 have hs:=h.later hbo
 have c0:W.cell? ⟨w.heap.size,0,none⟩ = some (.int .i64 K):=cell_of_row _ _ 0 _ _ _ hrow
 have c1:W.cell? ⟨w.heap.size,1,none⟩ = some (.int .i64 N):=cell_of_row _ _ 1 _ _ _ hrow
 have c2:W.cell? ⟨w.heap.size,2,none⟩ = some (.int .i64 B):=cell_of_row _ _ 2 _ _ _ hrow
 have HW:=hide hW
 have HBO:=hide hbo
 have HRW:=hide hrow
 have HS:=hide hs
 have HSZ:=hide (show ∀ k,s.own k ∨ sS xb sb cb k → k < w.heap.size from fun k hk=>by
  rcases hk with e | e | e | e
  ·exact h.sw.inn.lt e
  ·rw [e];exact lt_heap h.st
  ·rw [e];exact lt_heap h.sw.blk
  ·rw [e];exact h.sw.cm.lt)
 clear h hW hbo hrow hs hpk hK hN hB hk
 go_enter Tryz.func11,Tryz.ntmps11
 go_upto_region 1 with fail
 rw [← HW.out]
 go_wp2_with fail
 refine (HP.out _).mono ?_
 rintro _ w1 ⟨rfl,hw1⟩
 rw [hw1]
 dsimp only
 clear hw1
 go_wp2_with fail
 refine (HCT.out _).mono ?_
 rintro _ w2 ⟨rfl,hb2⟩
 dsimp only
 have hs2:=HS.out.later hb2
 have HB2:=hide (HBO.out.trans (hb2.mono HBO.out.size))
 have HH2:=hide (HHS.out w2 hs2.sw.gl)
 have HS2:=hide hs2
 clear hb2 c0 c1 c2 hs2
 go_wp2_with fail
 refine (HH2.out).mono ?_
 rintro _ w4 ⟨rfl,hb4⟩
 dsimp only
 have HB4:=hide (HB2.out.trans (hb4.mono HB2.out.size))
 have HC2:=hide (HC.out w4 (HS2.out.later hb4))
 clear hb4 HC HH2
 go_wp2_with fail
 refine (HC2.out).mono ?_
 rintro _ w3 ⟨h1,rfl,hsn⟩
 dsimp only
 have HN:=hide (hsn.pre HB4.out)
 have H1:=hide h1
 clear hsn HC2 h1
 go_wp2_with fail
 refine bodyPost_ret (results_tmp2 rfl _ _ _) rfl ?_
 exact ⟨by rw [H1.out];rfl,HN.out⟩
theorem does_7 (h:SA w db xb sb cb s tb cl A r n cu) (hn:n ≤ 300000) (hcu:cu ≤ 90000000000) (K N B:Int) (hK:i64r K) (hN:i64r N) (hB:i64r B) (hk:pickN K 8 = 7) :
  Calls Tryz.prog 11 #[.pointer (some ⟨xb,0,none⟩),.agg #[.int .i64 K,.int .i64 N,.int .i64 B]] w fun e w'=>e = .returned (.tuple #[.string ((pruPl A).run r A).1,.int .i64 ((pruPl A).run r A).2.1]) ∧ SaN w w' db xb sb cb s tb ((pruPl A).run r A).2.2 r (n + 1) (cu + n + 20):=by
 have hpk:∀ w,Calls Tryz.prog 21 #[.int .i64 K,.int .i64 8] w fun e w'=>e = .returned (.int .i64 7) ∧ w' = w:=fun w=>by
  have:=pick_any K 8 (by decide) (by decide) hK.1 hK.2 w
  rw [hk] at this
  exact this
 have HP:=hide hpk
 have HCT:=hide (fun w=>content_of B hB.1 hB.2 w)
 have HNM:Hid (∀ w,Calls Tryz.prog 37 #[.int .i64 N] w fun e w'=>e = .returned (.string (nmT N)) ∧ Below w.heap.size w w'):=hide (fun w=>name_any N hN.1 hN.2 w)
 have hbs:=conT_size B
 have hns:=nmT_size N
 have hnt:=nmT_tag N
 generalize conT B = bb at HCT hbs ⊢
 generalize nmT N = nn at HNM hns hnt ⊢
 have hun:untN A ≤ 1000000:=by
  have h1:(unT A.tg (dlA A)).length ≤ (dlA A).length:=List.length_filter_le _ _
  have h2:(dlA A).length = A.cs.length:=List.length_map _
  have:=h.len
  unfold untN
  omega
 have HC:=hide (fun (W:World) (hW:SA W db xb sb cb s tb cl A r n cu)=>saPrune hW hn hcu)
 have HDC:=hide (fun W=>decimalB_any (untN A) hun W)
 generalize hUN:untN A = un at HC HDC hun
 clear hUN
 generalize (pruPl A).run r A = X at HC ⊢
 have hbo:Below w.heap.size w (w.alloc (.cells #[.int .i64 K,.int .i64 N,.int .i64 B] 31)):=(Below.refl _ _).alloc (Nat.le_refl _) _
 have hrow:(w.alloc (.cells #[.int .i64 K,.int .i64 N,.int .i64 B] 31)).heap[w.heap.size]? = some (.cells #[.int .i64 K,.int .i64 N,.int .i64 B] 31 (0,0)):=heap_alloc_new _ _
 obtain ⟨W,hW⟩ : ∃ W,W = w.alloc (.cells #[.int .i64 K,.int .i64 N,.int .i64 B] 31):=⟨_,rfl⟩
 rw [← hW] at hbo hrow
 have hs:=h.later hbo
 have c0:W.cell? ⟨w.heap.size,0,none⟩ = some (.int .i64 K):=cell_of_row _ _ 0 _ _ _ hrow
 have c1:W.cell? ⟨w.heap.size,1,none⟩ = some (.int .i64 N):=cell_of_row _ _ 1 _ _ _ hrow
 have c2:W.cell? ⟨w.heap.size,2,none⟩ = some (.int .i64 B):=cell_of_row _ _ 2 _ _ _ hrow
 have HW:=hide hW
 have HBO:=hide hbo
 have HRW:=hide hrow
 have HS:=hide hs
 have HSZ:=hide (show ∀ k,s.own k ∨ sS xb sb cb k → k < w.heap.size from fun k hk=>by
  rcases hk with e | e | e | e
  ·exact h.sw.inn.lt e
  ·rw [e];exact lt_heap h.st
  ·rw [e];exact lt_heap h.sw.blk
  ·rw [e];exact h.sw.cm.lt)
 clear h hW hbo hrow hs hpk hK hN hB hk
 go_enter Tryz.func11,Tryz.ntmps11
 go_upto_region 1 with fail
 rw [← HW.out]
 go_wp2_with fail
 refine (HP.out _).mono ?_
 rintro _ w1 ⟨rfl,hw1⟩
 rw [hw1]
 dsimp only
 clear hw1
 go_wp2_with fail
 refine (HC.out W HS.out).mono ?_
 rintro _ w2 ⟨hX,rfl,hsn⟩
 dsimp only
 have HN:=hide (hsn.pre HBO.out)
 have HX:=hide hX
 clear hsn hX c0 c1 c2 HC
 go_wp2_with fail
 refine (HDC.out _).mono ?_
 rintro _ w3 ⟨rfl,hb3⟩
 dsimp only
 have HN3:=hide (HN.out.post hb3)
 clear hb3 HDC
 go_wp2_with fail
 refine bodyPost_ret (results_tmp2 rfl _ _ _) rfl ?_
 exact ⟨by rw [HX.out];rfl,HN3.out⟩
theorem does_any (h:SA w db xb sb cb s tb cl A r n cu) (hn:n ≤ 300000) (hcu:cu ≤ 90000000000) (K N B:Int) (hK:i64r K) (hN:i64r N) (hB:i64r B) :
  Calls Tryz.prog 11 #[.pointer (some ⟨xb,0,none⟩),.agg #[.int .i64 K,.int .i64 N,.int .i64 B]] w fun e w'=>e = .returned (.tuple #[.string ((dsPl A K N B).run r A).1,.int .i64 ((dsPl A K N B).run r A).2.1]) ∧ SaN w w' db xb sb cb s tb ((dsPl A K N B).run r A).2.2 r (n + 1) (cu + n + 20):=by
 have h8:=pickN_lt K 8 (by decide)
 unfold dsPl
 match hk:pickN K 8,h8 with
 | 0,_=>exact does_0 h hn hcu K N B hK hN hB hk
 | 1,_=>exact does_1 h hn hcu K N B hK hN hB hk
 | 2,_=>exact does_2 h hn hcu K N B hK hN hB hk
 | 3,_=>exact does_3 h hn hcu K N B hK hN hB hk
 | 4,_=>exact does_4 h hn hcu K N B hK hN hB hk
 | 5,_=>exact does_5 h hn hcu K N B hK hN hB hk
 | 6,_=>exact does_6 h hn hcu K N B hK hN hB hk
 | 7,_=>exact does_7 h hn hcu K N B hK hN hB hk
end
end Go.Proofs.YtncigfibncmioaaGreatDoor
namespace Go.Proofs.YtncigfibncmioaaGreatDoor
open Go.RowKit
def tC (t:TE):List Value:=[.string t.n,.string (dtx t.d),.int .i64 t.z]
def bC (b:ByteArray):List Value:=[.string (hxB b),.int .i64 (b.size:Int)]
theorem told_tg:∀ {l:List TE},(∀ t ∈ l,t.Ok) → ((l.map TE.tg).map Tg.told).flatMap Tg.cells = l.flatMap tC
 | [],_=>rfl
 | t :: l,h=>by
  have ih:=told_tg (l:=l) (fun x hx=>h x (by simp [hx]))
  have ht:=h t (by simp)
  have e:Tg.told t.tg = t.tg:=by
   unfold Tg.told TE.tg
   dsimp only
   rw [rd_dtx t.d ht.len ht.lt]
   rfl
  rw [List.map_cons,List.map_cons,List.flatMap_cons,List.flatMap_cons,ih,e]
  rfl
theorem flat_congr {α β γ:Type} (f:α → β) (g:β → List γ) (k:α → List γ):∀ l:List α,(∀ x ∈ l,g (f x) = k x) → (l.map f).flatMap g = l.flatMap k
 | [],_=>rfl
 | x :: l,h=>by
  rw [List.map_cons,List.flatMap_cons,List.flatMap_cons,h x (by simp),flat_congr f g k l (fun y hy=>h y (by simp [hy]))]
section
variable {w:World} {db xb sb cb:Nat} {s:PSt} {tb:Nat} {cl:List (List Nat)} {A:Sto} {r:Int} {n cu:Nat}
theorem saGet (h:SA w db xb sb cb s tb cl A r n cu) {b c:ByteArray} (hc:conC A b = some c) :
  Calls Tryz.prog 34 #[.pointer (some ⟨xb,0,none⟩),.string (hxB b)] w fun e w'=>e = .returned (.tuple #[.string c,.int .i64 0]) ∧ SGo (sS xb sb cb) s s w w' ∧ SA w' db xb sb cb s tb cl A r n cu:=by
 have hh:=h.has b
 rw [show findK kC (kC b) A.cs = some c from hc] at hh
 refine (bGet_any xb sb s cb tb cl.length (cD cl) A.tg (hxB b) w h.st h.hG h.sw (unitC_cD cl) (hx_dig b) (by rw [hx_rd];exact hh) (fun t ht=>by rw [hx_rd,h.rd b] at ht;have:=h.con300 ht;omega)).mono ?_
 rintro e w' ⟨rfl,hg,hx,hst⟩
 refine ⟨?_,hg,h.same hg hx hst⟩
 rw [hx_rd,h.con b,hc]
 rfl
theorem saTags (h:SA w db xb sb cb s tb cl A r n cu) :
  Calls Tryz.prog 42 #[.pointer (some ⟨xb,0,none⟩)] w fun e w'=>∃ v,e = .returned (.tuple #[v,.int .i64 0]) ∧ w'.ownsRow w.heap.size 83 3 v A.tg.length (A.tg.flatMap tC) ∧ SGo (sS xb sb cb) s s w w' ∧ SA w' db xb sb cb s tb cl A r n cu:=by
 refine (bTags_many xb sb s cb tb cl.length (cD cl) A.tg w h.st h.hG h.sw h.good.tok h.good.t8).mono ?_
 rintro e w' ⟨v,rfl,hrow,hg,hx,hst⟩
 rw [told_tg h.good.tok] at hrow
 exact ⟨v,rfl,hrow,hg,h.same hg hx hst⟩
theorem blC_dv (h:SA w db xb sb cb s tb cl A r n cu) {b:ByteArray} (hb:b ∈ A.cs):blC s.ds (dvC b) = bC b:=by
 have hc:conC A b = some b:=findK_mem h.good.rise hb
 unfold blC bC
 rw [dvC_val,h.rd b,hc]
 rfl
theorem blC_bC (h:SA w db xb sb cb s tb cl A r n cu):(dlA A).flatMap (blC s.ds) = A.cs.flatMap bC:=flat_congr dvC (blC s.ds) bC A.cs (fun _ hb=>blC_dv h hb)
theorem saBlobs (h:SA w db xb sb cb s tb cl A r n cu) (hn:n ≤ 300000) :
  Calls Tryz.prog 32 #[.pointer (some ⟨xb,0,none⟩)] w fun e w'=>∃ v,e = .returned (.tuple #[v,.int .i64 0]) ∧ w'.ownsRow w.heap.size 73 2 v A.cs.length (A.cs.flatMap bC) ∧ SGo (sS xb sb cb) s s w w' ∧ SA w' db xb sb cb s tb cl A r n cu:=by
 have hdl:(dlA A).length = A.cs.length:=List.length_map _
 have hlen:=h.len
 refine (bBlobs_many xb sb s cb tb cl.length A.tg cl (dlA A) w h.st h.hG h.sw h.ok (dl_rise h.good.rise) (fun x=>by rw [dl_mem,h.mem]) (by have:=h.clen;omega) (by omega)).mono ?_
 rintro e w' ⟨v,rfl,hrow,hg,hx,hst⟩
 rw [blC_bC h,hdl] at hrow
 exact ⟨v,rfl,hrow,hg,h.same hg hx hst⟩
theorem SGo.lowN {w':World} {s':PSt} {N:Nat} (hg:SGo (sS xb sb cb) s s' w w') (hN:∀ k,s.own k ∨ sS xb sb cb k → N ≤ k) (hw:N ≤ w.heap.size):Below N w w' :=
 ⟨hg.gr.os,hg.gr.tape,hg.gr.output,hg.gr.size,fun k hk=>hg.gr.block k (by omega) (fun e=>by have:=hN k e;omega)⟩
theorem SA.lt (h:SA w db xb sb cb s tb cl A r n cu):∀ k,fpr s xb sb cb tb k → k < w.heap.size:=fun k hk=>by
 rcases hk with e | e | e
 ·exact h.sw.inn.lt e
 ·rcases e with e | e | e
  ·rw [e];exact lt_heap h.st
  ·rw [e];exact lt_heap h.sw.blk
  ·rw [e];exact h.sw.cm.lt
 ·rw [e];exact h.sw.tm.lt
end
end Go.Proofs.YtncigfibncmioaaGreatDoor
