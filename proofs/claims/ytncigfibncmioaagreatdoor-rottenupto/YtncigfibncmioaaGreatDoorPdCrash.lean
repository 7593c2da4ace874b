/-
  PROVED HERE: what the program's own Rename, SyncDir, Break, Read and Spoil of disks do.
-/
import Derived.Test.YtncigfibncmioaaGreatDoorPdRem
import Derived.Laws.BytesArg
import Derived.Laws.IdiomStrings
import Derived.Laws.Closers25b
import Derived.Deep.CutRange
namespace Go.Proofs.YtncigfibncmioaaGreatDoor
set_option maxHeartbeats 1000000
set_option maxRecDepth 100000
open Go.RowKit
theorem pstep_gen (s:PSt) (nm:ByteArray) (pv:Value) (ps:List ByteArray) (K:Nat) (cap:Array Value) (w:World) (Bad:Int → Prop) (P:PSt → Prop) (h:s.In w) (hs:StrsAt w pv ps) (hl:ps.length ≤ 1000000000) (hp:∀ p ∈ ps,p.size ≤ 9223372036854775807) (hf:Cnt4 s.R)
  (hcf:∀ (args:Array Value) (w:World),(callFunc K args).run Tryz.prog w = .ok (.enter K args) w)
  (hv:anyBad ps = false → Calls Tryz.prog K cap w fun e w1=>(∃ k,Bad k ∧ e = .returned (refV k) ∧ Below w.heap.size w w1) ∨ (e = .returned .nilIface ∧ ∃ s1,PGo s s1 w w1 ∧ s1.R.count = s.R.count ∧ s1.R.left = s.R.left ∧ P s1)) :
  Calls Tryz.prog 166 #[.pointer (some ⟨s.b,0,none⟩),.string nm,pv,.func (.func K) #[] cap] w fun e w'=>∃ v,e = .returned v ∧
   (anyBad ps = true → PRet s w 2 (fun _=>True) v w') ∧ (anyBad ps = false → s.R.left = 0 → PRet s w 0 (fun s1=>s1 = s) v w') ∧
   (anyBad ps = false → s.R.left ≠ 0 → (∃ k,Bad k ∧ stepE w' v k ∧ Below w.heap.size w w') ∨ (v = .nilIface ∧ ∃ s1,PGo s { s1 with R:=s1.R.wrote } w w' ∧ P s1)):=by
 cases hpp:anyBad ps with
 | true =>
  refine (pstep_bad s.b nm pv ps _ w hs hl hp hpp).mono ?_
  rintro e w' ⟨v,rfl,h1,h2⟩
  exact ⟨v,rfl,fun _=>PRet.bad (by decide) h1 h2,(fun h=>by cases h),(fun h=>by cases h)⟩
 | false =>
  by_cases h0:s.R.left = 0
  ·refine (pstep_broken s nm pv ps _ w h hs hl hp hpp h0).mono ?_
   rintro e w' ⟨rfl,rfl⟩
   exact ⟨_,rfl,(fun h=>by cases h),fun _ _=>PRet.ok (PGo.refl h (Below.refl _ _)) rfl,fun _ h1=>absurd h0 h1⟩
  ·refine (pstep_run s nm pv ps K cap w Bad P h hs hl hp hpp h0 hf hcf (hv hpp)).mono ?_
   rintro e w' (⟨k,v,h1,rfl,h2,h3⟩ | ⟨rfl,h1⟩)
   ·exact ⟨v,rfl,(fun h=>by cases h),fun _ h1=>absurd h1 h0,fun _ _=>.inl ⟨k,h1,h2,h3⟩⟩
   ·exact ⟨_,rfl,(fun h=>by cases h),fun _ h1=>absurd h1 h0,fun _ _=>.inr ⟨rfl,h1⟩⟩
theorem anyBad_two (p q:ByteArray):anyBad [p,q] = !(isPathB p && isPathB q):=by
 simp [anyBad]
theorem prenC (s:PSt) (g0 g1 g2:Nat) (p q:ByteArray) (w:World) (h:s.In w) (c0:w.cell? ⟨g0,0,none⟩ = some (.pointer (some ⟨s.b,0,none⟩))) (c1:w.cell? ⟨g1,0,none⟩ = some (.string p)) (c2:w.cell? ⟨g2,0,none⟩ = some (.string q)) (hp:p.size ≤ 9223372036854775807) (hpp:isPathB p = true) (hqq:isPathB q = true) (hft:PFit s.R) :
  Calls Tryz.prog 171 #[.pointer (some ⟨g0,0,none⟩),.pointer (some ⟨g1,0,none⟩),.pointer (some ⟨g2,0,none⟩)] w fun e w1 =>
   (∃ k,(k = 3 ∧ findE p s.R.now = none) ∧ e = .returned (refV k) ∧ Below w.heap.size w w1) ∨ (e = .returned .nilIface ∧ ∃ s1,PGo s s1 w w1 ∧ s1.R.count = s.R.count ∧ s1.R.left = s.R.left ∧ ∃ f,findE p s.R.now = some f ∧ s1.R = (if p = q then s.R else { s.R with now:=applyE s.R.now ⟨p,q,f⟩,chg:=s.R.chg ++ [⟨p,q,f⟩] }) ∧ s1.fs = s.fs ∧ s1.fd = s.fd):=by
 have HF:=hide (pfind_any s.b s.R s.mb s.lb s.cv p w h.is hp)
 rw [hpp] at HF
 simp only [if_true] at HF
 have H:=hide h
 clear h
 cases hfo:findE p s.R.now with
 | none =>
  rw [hfo] at HF
  have key:Calls Tryz.prog 171 #[.pointer (some ⟨g0,0,none⟩),.pointer (some ⟨g1,0,none⟩),.pointer (some ⟨g2,0,none⟩)] w fun e w1=>e = .returned (refV 3) ∧ w1 = w:=by
   dsimp only [refV] at HF ⊢
   go_enter Tryz.func171,Tryz.ntmps171
   go_wp2_with fail
   refine (HF.out).mono ?_
   rintro _ w1 ⟨hw,rfl⟩
   subst hw
   dsimp only
   go_wp2_with fail
   go_ret
   exact ⟨rfl,rfl⟩
  exact key.mono fun e w1 hh=>.inl ⟨3,⟨rfl,rfl⟩,hh.1,by rw [hh.2];exact Below.refl _ _⟩
 | some f =>
  rw [hfo] at HF
  dsimp only at HF
  have hm:f ∈ s.fs:=by
   obtain ⟨e,he,hb⟩:=findE_mem hfo
   rw [← hb];exact H.out.inow e he
  by_cases hpq:p = q
  ·have key:Calls Tryz.prog 171 #[.pointer (some ⟨g0,0,none⟩),.pointer (some ⟨g1,0,none⟩),.pointer (some ⟨g2,0,none⟩)] w fun e w1=>e = .returned .nilIface ∧ w1 = w:=by
    subst hpq
    have e7:(p.toList != p.toList) = false:=by simp
    go_enter Tryz.func171,Tryz.ntmps171
    go_wp2_with fail
    refine (HF.out).mono ?_
    rintro _ w1 ⟨hw,rfl⟩
    subst hw
    dsimp only
    go_wp2_with fail
    go_ret
    exact ⟨rfl,rfl⟩
   exact key.mono fun e w1 hh=>.inr ⟨hh.1,s,PGo.refl H.out (by rw [hh.2];exact Below.refl _ _),rfl,rfl,f,rfl,by rw [if_pos hpq],rfl,rfl⟩
  ·have HS:=hide (pchange_any s.b f s.R s.mb s.lb s.cv p q w H.out.is hft.1 hft.2 (path_small hpp) (path_small hqq))
   have key:Calls Tryz.prog 171 #[.pointer (some ⟨g0,0,none⟩),.pointer (some ⟨g1,0,none⟩),.pointer (some ⟨g2,0,none⟩)] w fun e w1=>e = .returned .nilIface ∧ ∃ cv',PGo s { s with R:={ s.R with now:=applyE s.R.now ⟨p,q,f⟩,chg:=s.R.chg ++ [⟨p,q,f⟩] },cv:=cv' } w w1:=by
    have e6:(p.toList == q.toList) = false:=by rw [beq_eq_false_iff_ne];exact fun e=>hpq ((toList_inj _ _).1 e)
    clear hpq
    go_enter Tryz.func171,Tryz.ntmps171
    go_wp2_with fail
    refine (HF.out).mono ?_
    rintro _ w1 ⟨hw,rfl⟩
    subst hw
    dsimp only
    go_wp2_with fail
    refine (HS.out).mono ?_
    rintro _ w2 ⟨rfl,hg2,cv',hd2,hn2⟩
    dsimp only
    have HGO:=hide (PGo.change H.out hm hg2 hd2 hn2)
    clear hg2 hd2 hn2
    go_wp2_with fail
    go_ret
    exact ⟨rfl,_,HGO.out⟩
   refine key.mono ?_
   rintro e w1 ⟨rfl,cv',hgo⟩
   exact .inr ⟨rfl,_,hgo,rfl,rfl,f,rfl,by rw [if_neg hpq],rfl,rfl⟩
theorem pdRename_fwd (b:Nat) (p q:ByteArray) (w:World) (Q:Value → World → Prop)
  (h:Calls Tryz.prog 166 #[.pointer (some ⟨b,0,none⟩),.string ⟨#[82,101,110,97,109,101]⟩,.slice (some ⟨w.heap.size + 1 + 1 + 1,0,none⟩) 2 2,.func (.func 171) #[] #[.pointer (some ⟨w.heap.size,0,none⟩),.pointer (some ⟨w.heap.size + 1,0,none⟩),.pointer (some ⟨w.heap.size + 1 + 1,0,none⟩)]] ((((w.alloc (.cells #[.pointer (some ⟨b,0,none⟩)] 88)).alloc (.cells #[.string p] 9)).alloc (.cells #[.string q] 9)).alloc (.cells #[.string p,.string q] 9)) fun e w'=>∃ v,e = .returned v ∧ Q v w') :
  Calls Tryz.prog 120 #[.pointer (some ⟨b,0,none⟩),.string p,.string q] w fun e w'=>∃ v,e = .returned v ∧ Q v w':=by
 have HST:=hide h
 clear h
 go_enter Tryz.func120,Tryz.ntmps120
 go_wp2_with fail
 refine (HST.out).mono ?_
 rintro _ w' ⟨v,rfl,h1⟩
 dsimp only
 have H1:=hide h1
 clear h1
 go_wp2_with fail
 go_ret
 exact ⟨_,rfl,H1.out⟩
theorem pdRename (s:PSt) (p q:ByteArray) (w:World) (h:s.In w) (hp:p.size ≤ 9223372036854775807) (hq:q.size ≤ 9223372036854775807) (hf:Cnt4 s.R) (hft:PFit s.R) :
  Calls Tryz.prog 120 #[.pointer (some ⟨s.b,0,none⟩),.string p,.string q] w fun e w'=>∃ v,e = .returned v ∧
   ((isPathB p && isPathB q) = false → PRet s w 2 (fun _=>True) v w') ∧
   ((isPathB p && isPathB q) = true → s.R.left = 0 → PRet s w 0 (fun s1=>s1 = s) v w') ∧
   ((isPathB p && isPathB q) = true → s.R.left ≠ 0 → findE p s.R.now = none → PRet s w 3 (fun _=>True) v w') ∧
   (∀ f,(isPathB p && isPathB q) = true → s.R.left ≠ 0 → findE p s.R.now = some f → PRet s w 0 (fun s1=>s1.R = RDk.wrote (if p = q then s.R else { s.R with now:=applyE s.R.now ⟨p,q,f⟩,chg:=s.R.chg ++ [⟨p,q,f⟩] }) ∧ s1.fs = s.fs ∧ s1.fd = s.fd) v w'):=by
 have hb3:=four_below w (.cells #[.pointer (some ⟨s.b,0,none⟩)] 88) (.cells #[.string p] 9) (.cells #[.string q] 9) (.cells #[.string p,.string q] 9)
 have h3:=h.later hb3
 have hs:StrsAt ((((w.alloc (.cells #[.pointer (some ⟨s.b,0,none⟩)] 88)).alloc (.cells #[.string p] 9)).alloc (.cells #[.string q] 9)).alloc (.cells #[.string p,.string q] 9)) (.slice (some ⟨w.heap.size + 1 + 1 + 1,0,none⟩) 2 2) [p,q]:=by
  refine ⟨_,2,rfl,fun i hi=>⟨_,rfl,?_⟩⟩
  have hi2:i = 0 ∨ i = 1:=by simp at hi;omega
  rcases hi2 with rfl | rfl
  ·exact cell_of_row _ _ 0 _ _ _ (four3 _ _ _ _ _ _)
  ·exact cell_of_row _ _ 1 _ _ _ (four3 _ _ _ _ _ _)
 have hpq:∀ x ∈ [p,q],x.size ≤ 9223372036854775807:=by
  intro x hx
  simp only [List.mem_cons,List.not_mem_nil,or_false] at hx
  rcases hx with rfl | rfl
  ·exact hp
  ·exact hq
 have hst:=(pstep_gen s ⟨#[82,101,110,97,109,101]⟩ _ [p,q] 171 #[.pointer (some ⟨w.heap.size,0,none⟩),.pointer (some ⟨w.heap.size + 1,0,none⟩),.pointer (some ⟨w.heap.size + 1 + 1,0,none⟩)] _ _ _ h3 hs (by simp) hpq hf (Tryz.enter _ _ Tryz.func171 (by kernel_rfl) _ rfl) (fun hpp=>prenC s _ _ _ p q _ h3 (cell_of_row _ _ 0 _ _ _ (four0 _ _ _ _ _ _)) (cell_of_row _ _ 0 _ _ _ (four1 _ _ _ _ _ _)) (cell_of_row _ _ 0 _ _ _ (four2 _ _ _ _ _ _)) hp (by rw [anyBad_two] at hpp;simp at hpp;exact hpp.1) (by rw [anyBad_two] at hpp;simp at hpp;exact hpp.2) hft))
 refine (pdRename_fwd s.b p q w _ hst).mono ?_
 rintro _ w' ⟨v,rfl,h1,h2,h3'⟩
 rw [anyBad_two] at h1 h2 h3'
 refine ⟨_,rfl,fun hb=>(h1 (by rw [hb];rfl)).below h hb3,fun hb h0=>(h2 (by rw [hb];rfl) h0).below h hb3,fun hb h0 hn=>?_,fun f hb h0 hn=>?_⟩
 ·rcases h3' (by rw [hb];rfl) h0 with ⟨k,⟨rfl,_⟩,h4,h5⟩ | ⟨rfl,s1,h4,f,h5,_⟩
  ·exact (PRet.bad (by decide) h4 h5).below h hb3
  ·rw [hn] at h5;cases h5
 ·rcases h3' (by rw [hb];rfl) h0 with ⟨k,⟨rfl,h6⟩,h4,h5⟩ | ⟨rfl,s1,h4,f',h5,h6,h7,h8⟩
  ·rw [hn] at h6;cases h6
  ·rw [hn] at h5
   injection h5 with h5
   subst h5
   exact (PRet.ok h4 ⟨by dsimp only;rw [h6],h7,h8⟩).below h hb3
theorem psdirC (s:PSt) (g0:Nat) (w:World) (h:s.In w) (c0:w.cell? ⟨g0,0,none⟩ = some (.pointer (some ⟨s.b,0,none⟩))) (hl:s.R.safe.length + s.R.chg.length ≤ 100000000) (hcf:ChFit s.R.chg) :
  Calls Tryz.prog 169 #[.pointer (some ⟨g0,0,none⟩)] w fun e w1=>e = .returned .nilIface ∧ PDIs w1 s.b { s.R with safe:=s.R.chg.foldl applyE s.R.safe,chg:=[] } s.mb s.lb (.slice none 0 0) ∧ Gr (fun k=>k = s.b ∨ k = s.lb) w w1:=by
 obtain ⟨o,c,hcv⟩:=own_sl h.is.chg
 have c3:w.cell? ⟨s.b,3,none⟩ = some s.cv:=cell_of_row _ _ 3 _ _ _ h.is.blk
 rw [hcv] at c3
 have HS:=hide (fun (w':World) (hb:Below w.heap.size w w')=>psettle_any s.b s.R s.mb s.lb s.cv s.R.chg.length w' (h.later hb).is (Nat.le_refl _) hl hcf)
 simp only [List.take_length] at HS
 clear h
 generalize s.R.chg.length = n at c3 HS
 go_enter Tryz.func169,Tryz.ntmps169
 go_wp2_with fail
 go_region_with (go_at_call 85;refine (HS.out w.drew ((Below.refl _ _).drew)).mono ?_;rintro _ w6 ⟨rfl,hd6,hg6⟩)
 all_goals
  have HD:=hide hd6
  have HG:=hide hg6
  clear hd6 hg6
  go_wp2_with fail
  go_ret
  exact ⟨rfl,HD.out,gr_below ((Below.refl _ _).drew) HG.out⟩
theorem anyBad_nil:anyBad [] = false:=rfl
theorem pdSyncDir (s:PSt) (w:World) (h:s.In w) (hf:Cnt4 s.R) (hl:s.R.safe.length + s.R.chg.length ≤ 100000000) (hcf:ChFit s.R.chg) (hin:∀ e ∈ s.R.chg.foldl applyE s.R.safe,e.blk ∈ s.fs) :
  Calls Tryz.prog 118 #[.pointer (some ⟨s.b,0,none⟩)] w fun e w'=>∃ v,e = .returned v ∧
   (s.R.left = 0 → PRet s w 0 (fun s1=>s1 = s) v w') ∧
   (s.R.left ≠ 0 → PRet s w 0 (fun s1=>s1.R = RDk.wrote { s.R with safe:=s.R.chg.foldl applyE s.R.safe,chg:=[] } ∧ s1.fs = s.fs ∧ s1.fd = s.fd) v w'):=by
 have hb1:Below w.heap.size w (w.alloc (.cells #[.pointer (some ⟨s.b,0,none⟩)] 88)):=(Below.refl _ _).alloc (Nat.le_refl _) _
 have h1:=h.later hb1
 have hs:StrsAt (w.alloc (.cells #[.pointer (some ⟨s.b,0,none⟩)] 88)) (.slice none 0 0) []:=⟨none,0,rfl,fun i hi=>by simp at hi⟩
 have HST:=hide (pstep_gen s ⟨#[83,121,110,99,68,105,114]⟩ _ [] 169 #[.pointer (some ⟨w.heap.size,0,none⟩)] _ (fun _=>False) (fun s1=>s1.R = { s.R with safe:=s.R.chg.foldl applyE s.R.safe,chg:=[] } ∧ s1.fs = s.fs ∧ s1.fd = s.fd) h1 hs (by simp) (by simp) hf (Tryz.enter _ _ Tryz.func169 (by kernel_rfl) _ rfl) (fun _=>(psdirC s _ _ h1 (cell_of_row _ _ 0 _ _ _ (heap_alloc_new _ _)) hl hcf).mono (by
  rintro e w1 ⟨rfl,hd,hg⟩
  refine .inr ⟨rfl,_,PGo.disk h1 (hg.mono fun k _ e=>?_) hd (.inl rfl) (.inl rfl) (.inr fun k hk=>by cases hk) h1.inow hin (fun c hc=>by cases hc),rfl,rfl,rfl,rfl,rfl⟩
  rcases e with e | e
  ·exact .inl e
  ·exact .inr (.inr (.inl e)))))
 have HB:=hide hb1
 have H:=hide h
 clear hb1 h1 hs h
 go_enter Tryz.func118,Tryz.ntmps118
 go_wp2_with fail
 refine (HST.out).mono ?_
 rintro _ w' ⟨v,rfl,_,h2,h3⟩
 dsimp only
 have H2:=hide h2
 have H3:=hide h3
 clear h2 h3
 go_wp2_with fail
 go_ret
 refine ⟨_,rfl,fun h0=>(H2.out anyBad_nil h0).below H.out HB.out,fun h0=>?_⟩
 rcases H3.out anyBad_nil h0 with ⟨k,h4,_⟩ | ⟨rfl,s1,h4,h6,h7,h8⟩
 ·exact absurd h4 id
 ·exact (PRet.ok h4 ⟨by dsimp only;rw [h6],h7,h8⟩).below H.out HB.out
set_option maxHeartbeats 1000000
set_option maxRecDepth 100000
open Go.RowKit
theorem ba_empty {s:ByteArray} (h:s.size = 0):s = ⟨#[]⟩:=ByteArray.ext (Array.eq_empty_of_size_eq_zero h)
theorem FD.cell {w:World} {f g cap:Nat} {x:ByteArray × Int} (h:FD w f x (.slice (some ⟨g,0,none⟩) x.1.size cap)) {j:Nat} (hj:j < x.1.data.toList.length):w.cell? ⟨g,j,none⟩ = some (.int .u8 ((x.1.data.toList[j].toNat:Nat):Int)):=by
 rcases h.row.2 with ⟨h1,_⟩ | ⟨g',cap',cur,h1,_,hg,_,_,_,htk⟩
 ·cases h1
 ·injection h1 with h1
  injection h1 with h1
  injection h1 with h1
  subst h1
  have hj2:j < x.1.size:=by simpa using hj
  rw [cell_of_row w g _ _ _ _ hg]
  have:(cur.toList.take (x.1.size * 1))[j]? = (Lib.strCells x.1)[j]?:=by rw [htk]
  rw [List.getElem?_take,if_pos (by omega)] at this
  rw [← Array.getElem?_toList,this]
  simp [Lib.strCells,hj2]
theorem FD.text {w:World} {f:Nat} {x:ByteArray × Int} {v:Value} (h:FD w f x v):(convert 136 9 v).run Tryz.prog w = .ok (.string x.1) w:=by
 rcases h.row.2 with ⟨rfl,h0⟩ | ⟨g,cap,cur,hv,_⟩
 ·rw [run_convert_bytes_nil w 136 5 Tryz.underlying136 Tryz.underlying5 0 0 9 Tryz.underlying9,ba_empty h0]
  rfl
 ·subst hv
  have:=run_convert_bytes_back (P:=Tryz.prog) w 136 9 5 ⟨g,0,none⟩ cap x.1.data.toList Tryz.underlying136 Tryz.underlying5 Tryz.underlying9 (fun j hj=>by
   have hadd:(⟨g,0,none⟩ : Addr).add j = ⟨g,j,none⟩:=by unfold Addr.add;split <;> simp_all
   rw [hadd]
   exact h.cell hj)
  have e1:x.1.data.toList.length = x.1.size:=by simp
  rw [e1] at this
  simpa using this
theorem pdRead (s:PSt) (p:ByteArray) (w:World) (h:s.In w) (hp:p.size ≤ 9223372036854775807) :
  Calls Tryz.prog 80 #[.pointer (some ⟨s.b,0,none⟩),.string p] w fun e w'=>∃ v t,e = .returned (.tuple #[.string t,v]) ∧
   (isPathB p = false → PRet s w 2 (fun _=>True) v w' ∧ t = ⟨#[]⟩) ∧
   (isPathB p = true → findE p s.R.now = none → PRet s w 3 (fun _=>True) v w' ∧ t = ⟨#[]⟩) ∧
   (∀ f,isPathB p = true → findE p s.R.now = some f → PRet s w 0 (fun s1=>s1 = s) v w' ∧ t = (s.fd f).1):=by
 have HF:=hide (pfind_any s.b s.R s.mb s.lb s.cv p w h.is hp)
 have H:=hide h
 clear h
 have bad:∀ k:Int,Calls Tryz.prog 108 #[.pointer (some ⟨s.b,0,none⟩),.string p] w (fun e w'=>w' = w ∧ e = .returned (.tuple #[.pointer none,.iface 161 (.int .i64 k)])) → Calls Tryz.prog 80 #[.pointer (some ⟨s.b,0,none⟩),.string p] w fun e w'=>∃ v,e = .returned (.tuple #[.string ⟨#[]⟩,v]) ∧ stepE w' v k ∧ Below w.heap.size w w':=by
  intro k hk
  have HK:=hide hk
  have hfin:stepE (w.alloc (.cells #[.string ⟨#[82,101,97,100]⟩,.iface 161 (.int .i64 k)] 167)) (.iface 165 (.pointer (some ⟨w.heap.size,0,none⟩))) k:=⟨_,_,rfl,heap_alloc_new _ _⟩
  have HFIN:=hide hfin
  clear hfin hk
  go_enter Tryz.func80,Tryz.ntmps80
  go_wp2_with fail
  refine (HK.out).mono ?_
  rintro _ w1 ⟨hw,rfl⟩
  subst hw
  dsimp only
  go_wp2_with fail
  refine bodyPost_ret (results_tmp2 rfl _ _ _) rfl ?_
  exact ⟨_,rfl,HFIN.out,(Below.refl _ _).alloc (Nat.le_refl _) _⟩
 cases hpp:isPathB p with
 | false =>
  rw [hpp] at HF
  refine (bad 2 (by simpa [refV] using HF.out)).mono ?_
  rintro e w' ⟨v,rfl,h1,h2⟩
  exact ⟨v,_,rfl,fun _=>⟨PRet.bad (by decide) h1 h2,rfl⟩,(fun h=>by cases h),(fun _ h=>by cases h)⟩
 | true =>
  rw [hpp] at HF
  simp only [if_true] at HF
  cases hfo:findE p s.R.now with
  | none =>
   rw [hfo] at HF
   refine (bad 3 (by simpa [refV] using HF.out)).mono ?_
   rintro e w' ⟨v,rfl,h1,h2⟩
   exact ⟨v,_,rfl,(fun h=>by cases h),fun _ _=>⟨PRet.bad (by decide) h1 h2,rfl⟩,(fun _ _ h=>by cases h)⟩
  | some f =>
   rw [hfo] at HF
   dsimp only at HF
   have hm:f ∈ s.fs:=by
    obtain ⟨e,he,hb⟩:=findE_mem hfo
    rw [← hb];exact H.out.inow e he
   have hfd:=H.out.fds f hm
   have htx:=hfd.text
   obtain ⟨o,cap,hfv,_,_⟩:=hfd.shape
   have f0:w.cell? ⟨f,0,none⟩ = some (s.fv f):=cell_of_row _ _ 0 _ _ _ hfd.blk
   rw [hfv] at f0 htx
   clear hfd hfv
   have key:Calls Tryz.prog 80 #[.pointer (some ⟨s.b,0,none⟩),.string p] w fun e w'=>e = .returned (.tuple #[.string (s.fd f).1,.nilIface]) ∧ w' = w:=by
    go_enter Tryz.func80,Tryz.ntmps80
    go_wp2_with fail
    refine (HF.out).mono ?_
    rintro _ w1 ⟨hw,rfl⟩
    subst hw
    dsimp only
    go_wp2_with fail
    refine bodyPost_ret (results_tmp2 rfl _ _ _) rfl ?_
    exact ⟨rfl,rfl⟩
   refine key.mono ?_
   rintro e w' ⟨rfl,rfl⟩
   refine ⟨_,_,rfl,(fun h=>by cases h),(fun _ h=>by cases h),fun f' _ h=>?_⟩
   injection h with h
   subst h
   exact ⟨PRet.ok (PGo.refl H.out (Below.refl _ _)) rfl,rfl⟩
set_option maxHeartbeats 2000000
set_option maxRecDepth 100000
open Go.RowKit
def turnB (b:UInt8) (m:Int):UInt8:=UInt8.ofNat (bits BinOp.xor .u8 ((b.toNat:Nat):Int) m).toNat
theorem turnB_nat (b:UInt8) (m:Int):(((turnB b m).toNat:Nat):Int) = bits BinOp.xor .u8 ((b.toNat:Nat):Int) m:=by
 obtain ⟨h1,h2⟩:=bits_within BinOp.xor .u8 ((b.toNat:Nat):Int) m
 have h3:(0:Int) ≤ bits BinOp.xor .u8 ((b.toNat:Nat):Int) m:=h1
 have h4:bits BinOp.xor .u8 ((b.toNat:Nat):Int) m ≤ 255:=h2
 unfold turnB
 rw [UInt8.toNat_ofNat']
 omega
def spoilB (s:ByteArray) (a:Nat) (m:Int):ByteArray:=⟨(s.data.toList.set a (turnB (s.data.toList.getD a 0) m)).toArray⟩
theorem spoilB_size (s:ByteArray) (a:Nat) (m:Int):(spoilB s a m).size = s.size:=by
 show ((s.data.toList.set a _).toArray).size = s.data.size
 simp
theorem strCells_spoil (s:ByteArray) (a:Nat) (m:Int):Lib.strCells (spoilB s a m) = (Lib.strCells s).set a (.int .u8 (((turnB (s.data.toList.getD a 0) m).toNat:Nat):Int)):=by
 unfold Lib.strCells spoilB
 rw [List.toList_toArray,List.map_set]
theorem own_spoil {w:World} {g n cap j:Nat} {xs:List Value} (h:w.ownsRow 0 5 1 (.slice (some ⟨g,0,none⟩) n cap) n xs) (v:Value):(w.setCell ⟨g,j,none⟩ v).ownsRow 0 5 1 (.slice (some ⟨g,0,none⟩) n cap) n (xs.set j v):=by
 refine ⟨by rw [List.length_set];exact h.1,?_⟩
 rcases h.2 with ⟨h1,_⟩ | ⟨g',cap',cur,h1,h2,h3,h4,h5,h6,h7⟩
 ·cases h1
 ·injection h1 with h1 _ h8
  injection h1 with h1
  injection h1 with h1
  subst h1;subst h8
  refine .inr ⟨g,cap,cur.setIfInBounds j v,rfl,h2,row_store v h3,h4,h5,by simpa using h6,?_⟩
  rw [← h7,Array.toList_setIfInBounds,List.take_set]
theorem FD.notFrozen {w:World} {f g cap:Nat} {x:ByteArray × Int} {n:Nat} (h:FD w f x (.slice (some ⟨g,0,none⟩) n cap)) (j:Nat):w.frozen? ⟨g,j,none⟩ = false:=by
 obtain ⟨cur,hc⟩:=own_obj h.row g rfl
 exact frozen_of_row w g j _ _ hc
theorem pspoil_ok (s:PSt) (p:ByteArray) (f:Nat) (n:Nat) (m:Int) (w:World) (h:s.In w) (hf:f ∈ s.fs)
  (hfnd:Calls Tryz.prog 108 #[.pointer (some ⟨s.b,0,none⟩),.string p] w (fun e w'=>w' = w ∧ e = .returned (.tuple #[.pointer (some ⟨f,0,none⟩),.nilIface])))
  (h1:1 ≤ m) (h2:m ≤ 255) (hn:n < (s.fd f).1.size) :
  Calls Tryz.prog 68 #[.pointer (some ⟨s.b,0,none⟩),.string p,.int .i64 (n:Int),.int .i64 m] w fun e w'=>e = .returned .nilIface ∧ PGo s { s with fd:=setNd s.fd f (spoilB (s.fd f).1 n m,(s.fd f).2),fv:=setV s.fv f (s.fv f) } w w':=by
 have hfd:=h.fds f hf
 obtain ⟨o,cap,hfv,hc1,hc2⟩:=hfd.shape
 obtain ⟨g,ho⟩ : ∃ g,o = some ⟨g,0,none⟩:=by
  rcases hfd.row.2 with ⟨h1,h0⟩ | ⟨g,cap',cur,h1,_⟩
  ·omega
  ·rw [hfv] at h1
   injection h1 with h1
   exact ⟨g,h1⟩
 subst ho
 have hfd2:=hfd
 rw [hfv] at hfd2
 have hn2:n < (s.fd f).1.data.toList.length:=by simpa using hn
 have k0:=hfd2.cell hn2
 have f0:w.cell? ⟨f,0,none⟩ = some (.slice (some ⟨g,0,none⟩) (s.fd f).1.size cap):=cell_of_row _ _ 0 _ _ _ hfd2.blk
 have hgf:=hfd2.notFrozen n
 have HF:=hide hfnd
 have e1:decide (m < 1) = false:=by simp;omega
 have e2:decide (255 < m) = false:=by simp;omega
 have e3:decide ((n:Int) < 0) = false:=by simp
 have hbig:(s.fd f).1.size ≤ 9223372036854775807:=by unfold maxLen at hc2;omega
 have hgd:(s.fd f).1.data.toList.getD n 0 = (s.fd f).1.data.toList[n]:=by rw [List.getD_eq_getElem?_getD,List.getElem?_eq_getElem hn2];rfl
 have hfin:PGo s { s with fd:=setNd s.fd f (spoilB (s.fd f).1 n m,(s.fd f).2),fv:=setV s.fv f (s.fv f) } w (w.setCell ⟨g,n,none⟩ (.int .u8 (bits BinOp.xor .u8 (((s.fd f).1.data.toList[n].toNat:Nat):Int) m))):=by
  have hrn:g ≠ f:=fun e=>hfd.rowNe (by rw [hfv,e];rfl)
  refine PGo.file h hf (Gr.of_grownBy (grownBy_set _ _ _ _) (.inr (by rw [hfv];rfl))) ⟨?_,?_⟩ (.inl rfl)
  ·rw [heap_setCell_other _ _ _ _ (by simpa using Ne.symm hrn)]
   exact hfd.blk
  ·dsimp only
   rw [spoilB_size,strCells_spoil,hgd,turnB_nat,hfv]
   exact own_spoil hfd2.row _
 have HFIN:=hide hfin
 clear hfnd hfd hfd2 h hfin hgd hfv
 generalize ((s.fd f).1.data.toList[n].toNat:Nat) = bt at k0 HFIN
 generalize (s.fd f).1.size = sz at f0 hn hbig hc1
 have e4:decide ((sz:Int) ≤ (n:Int)) = false:=by simp;omega
 go_enter Tryz.func68,Tryz.ntmps68
 go_wp2_with fail
 refine (HF.out).mono ?_
 rintro _ w1 ⟨hw,rfl⟩
 subst hw
 dsimp only
 go_wp2_with fail
 go_ret
 exact ⟨rfl,HFIN.out⟩
theorem pspoil_arg (s:PSt) (p:ByteArray) (f:Nat) (a m:Int) (w:World) (h:s.In w) (hf:f ∈ s.fs)
  (hfnd:Calls Tryz.prog 108 #[.pointer (some ⟨s.b,0,none⟩),.string p] w (fun e w'=>w' = w ∧ e = .returned (.tuple #[.pointer (some ⟨f,0,none⟩),.nilIface])))
  (hbad:m < 1 ∨ 255 < m ∨ a < 0 ∨ ((s.fd f).1.size:Int) ≤ a) :
  Calls Tryz.prog 68 #[.pointer (some ⟨s.b,0,none⟩),.string p,.int .i64 a,.int .i64 m] w fun e w'=>∃ v,e = .returned v ∧ stepE w' v 5 ∧ Below w.heap.size w w':=by
 have hfd:=h.fds f hf
 obtain ⟨o,cap,hfv,hc1,hc2⟩:=hfd.shape
 rw [hfv] at hfd
 have f0:w.cell? ⟨f,0,none⟩ = some (.slice o (s.fd f).1.size cap):=cell_of_row _ _ 0 _ _ _ hfd.blk
 have HF:=hide hfnd
 have hfin:stepE (w.alloc (.cells #[.string ⟨#[83,112,111,105,108]⟩,.iface 161 (.int .i64 5)] 167)) (.iface 165 (.pointer (some ⟨w.heap.size,0,none⟩))) 5:=⟨_,_,rfl,heap_alloc_new _ _⟩
 have HFIN:=hide hfin
 clear hfnd hfd h hfin hfv
 generalize (s.fd f).1.size = sz at f0 hbad hc1
 by_cases q1:m < 1
 ·go_enter Tryz.func68,Tryz.ntmps68
  go_wp2_with fail
  refine (HF.out).mono ?_
  rintro _ w1 ⟨hw,rfl⟩
  subst hw
  dsimp only
  go_wp2_with fail
  go_ret
  exact ⟨_,rfl,HFIN.out,(Below.refl _ _).alloc (Nat.le_refl _) _⟩
 ·have e1:decide (m < 1) = false:=decide_eq_false q1
  by_cases q2:255 < m
  ·clear hbad
   go_enter Tryz.func68,Tryz.ntmps68
   go_wp2_with fail
   refine (HF.out).mono ?_
   rintro _ w1 ⟨hw,rfl⟩
   subst hw
   dsimp only
   go_wp2_with fail
   go_ret
   exact ⟨_,rfl,HFIN.out,(Below.refl _ _).alloc (Nat.le_refl _) _⟩
  ·have e2:decide (255 < m) = false:=decide_eq_false q2
   by_cases q3:a < 0
   ·clear hbad
    go_enter Tryz.func68,Tryz.ntmps68
    go_wp2_with fail
    refine (HF.out).mono ?_
    rintro _ w1 ⟨hw,rfl⟩
    subst hw
    dsimp only
    go_wp2_with fail
    go_ret
    exact ⟨_,rfl,HFIN.out,(Below.refl _ _).alloc (Nat.le_refl _) _⟩
   ·have e3:decide (a < 0) = false:=decide_eq_false q3
    have q4:(sz:Int) ≤ a:=by omega
    clear hbad
    go_enter Tryz.func68,Tryz.ntmps68
    go_wp2_with fail
    refine (HF.out).mono ?_
    rintro _ w1 ⟨hw,rfl⟩
    subst hw
    dsimp only
    go_wp2_with fail
    go_ret
    exact ⟨_,rfl,HFIN.out,(Below.refl _ _).alloc (Nat.le_refl _) _⟩
theorem pspoil_bad (b:Nat) (p:ByteArray) (k a m:Int) (w:World) (hk:Calls Tryz.prog 108 #[.pointer (some ⟨b,0,none⟩),.string p] w (fun e w'=>w' = w ∧ e = .returned (.tuple #[.pointer none,.iface 161 (.int .i64 k)]))) :
  Calls Tryz.prog 68 #[.pointer (some ⟨b,0,none⟩),.string p,.int .i64 a,.int .i64 m] w fun e w'=>∃ v,e = .returned v ∧ stepE w' v k ∧ Below w.heap.size w w':=by
 have HK:=hide hk
 have hfin:stepE (w.alloc (.cells #[.string ⟨#[83,112,111,105,108]⟩,.iface 161 (.int .i64 k)] 167)) (.iface 165 (.pointer (some ⟨w.heap.size,0,none⟩))) k:=⟨_,_,rfl,heap_alloc_new _ _⟩
 have HFIN:=hide hfin
 clear hfin hk
 go_enter Tryz.func68,Tryz.ntmps68
 go_wp2_with fail
 refine (HK.out).mono ?_
 rintro _ w1 ⟨hw,rfl⟩
 subst hw
 dsimp only
 go_wp2_with fail
 go_ret
 exact ⟨_,rfl,HFIN.out,(Below.refl _ _).alloc (Nat.le_refl _) _⟩
theorem pdSpoil (s:PSt) (p:ByteArray) (a m:Int) (w:World) (h:s.In w) (hp:p.size ≤ 9223372036854775807) :
  Calls Tryz.prog 68 #[.pointer (some ⟨s.b,0,none⟩),.string p,.int .i64 a,.int .i64 m] w fun e w'=>∃ v,e = .returned v ∧
   (isPathB p = false → PRet s w 2 (fun _=>True) v w') ∧
   (isPathB p = true → findE p s.R.now = none → PRet s w 3 (fun _=>True) v w') ∧
   (∀ f,isPathB p = true → findE p s.R.now = some f → ((m < 1 ∨ 255 < m ∨ a < 0 ∨ ((s.fd f).1.size:Int) ≤ a) → PRet s w 5 (fun _=>True) v w') ∧
    (¬ (m < 1 ∨ 255 < m ∨ a < 0 ∨ ((s.fd f).1.size:Int) ≤ a) → PRet s w 0 (fun s1=>s1.R = s.R ∧ s1.fs = s.fs ∧ s1.fd = setNd s.fd f (spoilB (s.fd f).1 a.toNat m,(s.fd f).2)) v w')):=by
 have HF:=pfind_any s.b s.R s.mb s.lb s.cv p w h.is hp
 cases hpp:isPathB p with
 | false =>
  rw [hpp] at HF
  refine (pspoil_bad s.b p 2 a m w (by simpa [refV] using HF)).mono ?_
  rintro e w' ⟨v,rfl,h1,h2⟩
  exact ⟨v,rfl,fun _=>PRet.bad (by decide) h1 h2,(fun h=>by cases h),(fun _ h=>by cases h)⟩
 | true =>
  rw [hpp] at HF
  simp only [if_true] at HF
  cases hfo:findE p s.R.now with
  | none =>
   rw [hfo] at HF
   refine (pspoil_bad s.b p 3 a m w (by simpa [refV] using HF)).mono ?_
   rintro e w' ⟨v,rfl,h1,h2⟩
   exact ⟨v,rfl,(fun h=>by cases h),fun _ _=>PRet.bad (by decide) h1 h2,(fun _ _ h=>by cases h)⟩
  | some f =>
   rw [hfo] at HF
   dsimp only at HF
   have hm:f ∈ s.fs:=by
    obtain ⟨e,he,hb⟩:=findE_mem hfo
    rw [← hb];exact h.inow e he
   by_cases hbad:m < 1 ∨ 255 < m ∨ a < 0 ∨ ((s.fd f).1.size:Int) ≤ a
   ·refine (pspoil_arg s p f a m w h hm HF hbad).mono ?_
    rintro e w' ⟨v,rfl,h1,h2⟩
    refine ⟨v,rfl,(fun h=>by cases h),(fun _ h=>by cases h),fun f' _ h'=>?_⟩
    injection h' with h'
    subst h'
    exact ⟨fun _=>PRet.bad (by decide) h1 h2,fun h=>absurd hbad h⟩
   ·obtain ⟨n,rfl⟩ : ∃ n:Nat,a = (n:Int):=⟨a.toNat,by omega⟩
    refine (pspoil_ok s p f n m w h hm HF (by omega) (by omega) (by omega)).mono ?_
    rintro e w' ⟨rfl,hgo⟩
    refine ⟨_,rfl,(fun h=>by cases h),(fun _ h=>by cases h),fun f' _ h'=>?_⟩
    injection h' with h'
    subst h'
    exact ⟨fun h=>absurd h hbad,fun _=>PRet.ok hgo ⟨rfl,rfl,rfl⟩⟩
set_option maxHeartbeats 2000000
set_option maxRecDepth 100000
open Go.RowKit
theorem PGo.newFile {s:PSt} {w:World} (h:s.In w) :
  PGo s { s with fs:=w.heap.size :: s.fs,fd:=setNd s.fd w.heap.size (⟨#[]⟩,0),fv:=setV s.fv w.heap.size (.slice none 0 0) } w (w.alloc (.cells #[.slice none 0 0,.int .i64 0] 154)):=by
 have hb:Below w.heap.size w (w.alloc (.cells #[.slice none 0 0,.int .i64 0] 154)):=(Below.refl _ _).alloc (Nat.le_refl _) _
 have h2:=h.later hb
 have hne:∀ f ∈ s.fs,f ≠ w.heap.size:=fun f hf=>Nat.ne_of_lt (lt_of_row (h.fds f hf).blk)
 refine ⟨rfl,⟨h2.is,?_,?_,fun e he=>by simp [h.inow e he],fun e he=>by simp [h.isafe e he],fun e he=>by simp [h.ichg e he]⟩,Gr.of_below hb,?_⟩
 ·intro f hf
  dsimp only at hf ⊢
  rcases List.mem_cons.1 hf with e | hf
  ·subst e
   rw [setNd_same,setV_same]
   exact ⟨heap_alloc_new _ _,World.ownsRow_nil _ _ _ _⟩
  ·rw [setNd_ne _ _ (hne f hf),setV_ne _ _ (hne f hf)]
   exact h2.fds f hf
 ·intro f hf g hg hfg k hk
  dsimp only at hf hg hk ⊢
  rcases List.mem_cons.1 hf with e | hf
  ·subst e
   rw [setV_same] at hk
   cases hk
  ·rw [setV_ne _ _ (hne f hf)] at hk
   rcases List.mem_cons.1 hg with e | hg
   ·subst e
    rw [setV_same]
    intro e
    cases e
   ·rw [setV_ne _ _ (hne g hg)]
    exact h.sep f hf g hg hfg k hk
 ·intro k hk
  rcases hk with e | e | e | e | e | ⟨f,hf,e⟩
  ·exact .inl (.inl e)
  ·exact .inl (.inr (.inl e))
  ·exact .inl (.inr (.inr (.inl e)))
  ·exact .inl (.inr (.inr (.inr (.inl e))))
  ·dsimp only at e
   rcases List.mem_cons.1 e with e | e
   ·exact .inr (by rw [e];exact Nat.le_refl _)
   ·exact .inl (.inr (.inr (.inr (.inr (.inl e)))))
  ·dsimp only at hf e
   rcases List.mem_cons.1 hf with e2 | hf
   ·subst e2
    rw [setV_same] at e
    cases e
   ·rw [setV_ne _ _ (hne f hf)] at e
    exact .inl (.inr (.inr (.inr (.inr (.inr ⟨f,hf,e⟩)))))
theorem wrap64 {x:Int} (h1 : -9223372036854775808 ≤ x) (h2:x ≤ 9223372036854775807):IntKind.i64.wrap x = x:=by
 unfold IntKind.wrap
 simp only [IntKind.bits,IntKind.signed]
 simp
 omega
theorem Tryz.infoU8:(Tryz.prog.info? 5).map (fun i=>(i.zero,i.size,i.bytes)) = some (some (.int .u8 0),1,1):=by kernel_rfl
theorem PGo.append {s:PSt} {w w5:World} (h:s.In w) {f:Nat} (hf:f ∈ s.fs) {x:ByteArray × Int} (hx:s.fd f = x) {n:Nat} (hn:x.1.size = n) {dt:ByteArray} {oa:Option Addr} {cap:Nat}
  (hown:w5.ownsRow 0 5 1 (.slice oa (n + dt.size) cap) (n + dt.size) (Lib.strCells x.1 ++ Lib.strCells dt)) (hg:w.grownBy w5 (s.fv f).ownBlock) (hno:NewOr w (s.fv f) (.slice oa (n + dt.size) cap)) :
  PGo s { s with fd:=setNd s.fd f (x.1 ++ dt,x.2),fv:=setV s.fv f (.slice oa (n + dt.size) cap) } w (w5.setCell ⟨f,0,none⟩ (.slice oa (n + dt.size) cap)):=by
 subst hx
 subst hn
 have hfd:=h.fds f hf
 have hblk:w5.heap[f]? = some (.cells #[s.fv f,.int .i64 (s.fd f).2] 154 (0,0)):=(hg.block f (lt_of_row hfd.blk) (fun e=>hfd.rowNe e.symm)).trans hfd.blk
 refine PGo.file h hf ?_ (FD.set0 hblk rfl (by dsimp only;rw [strCells_app,show ((s.fd f).1 ++ dt).size = (s.fd f).1.size + dt.size by simp];exact hown)) hno
 refine ⟨hg.os,hg.tape,hg.output,by simpa using hg.size,fun k hk hn=>?_⟩
 rw [heap_setCell_other _ _ _ _ (fun e=>hn (.inl e))]
 exact hg.block k hk (fun e=>hn (.inr e.symm))
theorem pappC (s:PSt) (g0 g1 g2:Nat) (p dt:ByteArray) (w:World) (h:s.In w) (q0:w.heap[g0]? = some (.cells #[.string dt] 9 (0,0))) (q1:w.heap[g1]? = some (.cells #[.pointer (some ⟨s.b,0,none⟩)] 88 (0,0))) (q2:w.heap[g2]? = some (.cells #[.string p] 9 (0,0))) (hp:p.size ≤ 9223372036854775807) (hpp:isPathB p = true) (hft:PFit s.R)
  (hu:usedE s.fd s.R.now ≤ 1000000000000) (hr0:0 ≤ s.R.room) (hr1:s.R.room ≤ 9223372036854775807) (hdt:dt.size ≤ 1000000000000) (hsz:∀ f ∈ s.fs,(s.fd f).1.size ≤ 1000000000000) :
  Calls Tryz.prog 228 #[.pointer (some ⟨g0,0,none⟩),.pointer (some ⟨g1,0,none⟩),.pointer (some ⟨g2,0,none⟩)] w fun e w1 =>
   (e = .returned (refV 4) ∧ s.R.room - (usedE s.fd s.R.now:Int) < (dt.size:Int) ∧ Below w.heap.size w w1) ∨
   (e = .returned .nilIface ∧ ¬ s.R.room - (usedE s.fd s.R.now:Int) < (dt.size:Int) ∧ ∃ s1,PGo s s1 w w1 ∧
    ((∃ f,findE p s.R.now = some f ∧ s1.R = s.R ∧ s1.fs = s.fs ∧ s1.fd = setNd s.fd f ((s.fd f).1 ++ dt,(s.fd f).2)) ∨
     (findE p s.R.now = none ∧ ∃ f,w.heap.size ≤ f ∧ s1.R = { s.R with now:=applyE s.R.now ⟨⟨#[]⟩,p,f⟩,chg:=s.R.chg ++ [⟨⟨#[]⟩,p,f⟩] } ∧ s1.fs = f :: s.fs ∧ s1.fd = setNd s.fd f (dt,0)))):=by
 obtain ⟨i0,hi,hz0,hz1,hz2⟩:=info_parts Tryz.infoU8
 have c0:w.cell? ⟨g0,0,none⟩ = some (.string dt):=cell_of_row _ _ 0 _ _ _ q0
 have c1:w.cell? ⟨g1,0,none⟩ = some (.pointer (some ⟨s.b,0,none⟩)):=cell_of_row _ _ 0 _ _ _ q1
 have c2:w.cell? ⟨g2,0,none⟩ = some (.string p):=cell_of_row _ _ 0 _ _ _ q2
 have Q0:=hide q0
 clear q2
 have hl0:=lt_heap q0
 have hl1:=lt_heap q1
 have H:=hide h
 have HU:=hide (fun (w':World) (hb:Below w.heap.size w w')=>pused_any s w' (h.later hb) hu)
 have b0:w.cell? ⟨s.b,0,none⟩ = some (.int .i64 s.R.room):=cell_of_row _ _ 0 _ _ _ h.is.blk
 have hbl:=lt_of_row h.is.blk
 clear h
 obtain ⟨U,hU⟩ : ∃ U:Nat,U = usedE s.fd s.R.now:=⟨_,rfl⟩
 rw [← hU] at hu HU ⊢
 have hw1 : -9223372036854775808 ≤ s.R.room - (U:Int):=by omega
 have hw2:s.R.room - (U:Int) ≤ 9223372036854775807:=by omega
 have HWR:=hide (wrap64 hw1 hw2)
 obtain ⟨BG,hBG⟩ : ∃ BG:Prop,BG = (s.R.room - (U:Int) < (dt.size:Int)):=⟨_,rfl⟩
 rw [← hBG]
 have HBG:=hide hBG
 obtain ⟨fo,hfo⟩ : ∃ fo,fo = findE p s.R.now:=⟨_,rfl⟩
 have HFO:=hide hfo
 clear hU hBG hfo
 go_enter Tryz.func228,Tryz.ntmps228
 go_upto_region 1 with fail
 go_cut [14] from 5 (fun bv wx=>bv = .bool (decide (s.R.room - (U:Int) < (dt.size:Int))) ∧ Below w.heap.size w wx)
 case first =>
  go_region_held3 (fun w'=>w'.cell? ⟨g0,0,none⟩ = some (.string dt) ∧ w'.cell? ⟨g1,0,none⟩ = some (.pointer (some ⟨s.b,0,none⟩)) ∧ w'.cell? ⟨s.b,0,none⟩ = some (.int .i64 s.R.room) ∧ Below w.heap.size w w') (first | exact ⟨c0,c1,b0,(Below.refl w.heap.size w).drew⟩ | exact ⟨cell_later hb6 c0,cell_later hb6 c1,cell_later hb6 b0,(Below.refl w.heap.size w).drew.trans hb6⟩ | go_keep) (first | (go_at_call 63;refine (HU.out w.drew ((Below.refl _ _).drew)).mono ?_;rintro _ w6 ⟨rfl,hb6⟩))
  go_wp2_with fail
  go_meet
  case rel=>exact ⟨by rw [HWR.out],(Below.refl w.heap.size w).drew.trans hb6⟩
 case rest =>
  obtain ⟨rfl,hbc⟩:=hcut
  have k0:=cell_later hbc c0
  have k1:=cell_later hbc c1
  have k2:=cell_later hbc c2
  have hin:=H.out.later hbc
  have kb1:wc.cell? ⟨s.b,1,none⟩ = some (.map (some s.mb)):=cell_of_row _ _ 1 _ _ _ hin.is.blk
  have HBC:=hide hbc
  have HIN:=hide hin
  have hlk:∀ nq,(Instr.lookup 147 (.map (some s.mb)) (.string p) false).run Tryz.prog (wc.drewN nq) = .ok (ptrOf fo) (wc.drewN nq):=fun nq=>by
   rw [HFO.out]
   exact (hin.is.now.later (((Below.refl wc.heap.size wc).drewN nq).block _ hin.is.now.lt)).look (t:=147) Tryz.underlying9 Tryz.underlying147 (Tryz.zeroPF _) p hp
  have hlc0:g0 < wc.heap.size:=Nat.lt_of_lt_of_le hl0 hbc.size
  have hlc1:g1 < wc.heap.size:=Nat.lt_of_lt_of_le hl1 hbc.size
  have hlc2:g2 < wc.heap.size:=World.block_lt_of_cell? wc ⟨g2,0,none⟩ k2
  have QC:=hide ((hbc.block g0 hl0).trans q0)
  clear hbc hin HU q0 q1
  by_cases hbig:s.R.room - (U:Int) < (dt.size:Int)
  ·clear hlk
   have ht:decide (s.R.room - (U:Int) < (dt.size:Int)) = true:=decide_eq_true hbig
   rw [ht]
   have HBIG:=hide hbig
   clear hbig ht
   go_wp2_with fail
   go_ret
   exact .inl ⟨rfl,by rw [HBG.out];exact HBIG.out,HBC.out⟩
  ·have ht:decide (s.R.room - (U:Int) < (dt.size:Int)) = false:=decide_eq_false hbig
   rw [ht]
   have HBIG:=hide hbig
   clear hbig ht
   cases fo with
   | none =>
    dsimp only [ptrOf] at hlk
    go_wp2_with fail
    go_quiet (fail)
    obtain ⟨wq,hwq⟩ : ∃ wq,wq = wc.drewN nq:=⟨_,rfl⟩
    rw [← hwq]
    have hbq:Below wc.heap.size wc wq:=by rw [hwq];exact (Below.refl _ _).drewN nq
    have r0:=cell_later hbq k0
    have r1:=cell_later hbq k1
    have r2:=cell_later hbq k2
    have hlq0:g0 < wq.heap.size:=Nat.lt_of_lt_of_le hlc0 hbq.size
    have hlq1:g1 < wq.heap.size:=Nat.lt_of_lt_of_le hlc1 hbq.size
    have hlq2:g2 < wq.heap.size:=Nat.lt_of_lt_of_le hlc2 hbq.size
    have QQ:=hide ((hbq.block g0 hlc0).trans QC.out)
    have HBQ:=hide (HBC.out.trans (hbq.mono HBC.out.size))
    have hin2:=HIN.out.later hbq
    clear hwq hlk k0 k1 k2 kb1 QC hlc0 hlc1 hlc2
    have hnf:=PGo.newFile hin2
    have hin3:=hnf.inn
    have HS:=hide (pchange_any s.b wq.heap.size s.R s.mb s.lb s.cv ⟨#[]⟩ p _ hin3.is hft.1 hft.2 (by decide) (path_small hpp))
    have q3:(wq.alloc (.cells #[.slice none 0 0,.int .i64 0] 154)).heap[g0]? = some (.cells #[.string dt] 9 (0,0)):=(Below.heap_alloc _ _ g0 hlq0).trans QQ.out
    have Q3:=hide q3
    have HNF:=hide hnf
    have HIN2:=hide hin2
    clear hin2 hnf hin3 q3 hbq
    go_wp2_with fail
    refine (HS.out).mono ?_
    rintro _ w2 ⟨rfl,hg2,cv',hd2,hn2⟩
    dsimp only
    have hch:=PGo.change HNF.out.inn (f:=wq.heap.size) (by simp) hg2 hd2 hn2
    have hall:=HNF.out.trans hch
    obtain ⟨e1,m1,em⟩:=HNF.out.inn.is.now.isMap
    have q4:w2.heap[g0]? = some (.cells #[.string dt] 9 (0,0)):=by
     refine (hg2.block g0 (lt_heap Q3.out) (fun e=>?_)).trans Q3.out
     rcases e with e | e | e
     ·exact type_ne Q3.out HNF.out.inn.is.blk (by decide) e
     ·have:=Q3.out
      rw [e] at this
      rw [em] at this
      cases this
     ·obtain ⟨cur,hc⟩:=own_obj HNF.out.inn.is.chg g0 e
      exact type_ne hc Q3.out (by decide) rfl
    have l0:w2.cell? ⟨g0,0,none⟩ = some (.string dt):=cell_of_row _ _ 0 _ _ _ q4
    have hin4:=hch.inn
    have hfd:=hin4.fds wq.heap.size (by simp)
    dsimp only at hfd
    rw [setNd_same,setV_same] at hfd
    have f0:w2.cell? ⟨wq.heap.size,0,none⟩ = some (.slice none 0 0):=cell_of_row _ _ 0 _ _ _ hfd.blk
    have ff:=fun j=>frozen_of_row w2 wq.heap.size j _ _ hfd.blk
    have HROW:=hide (World.ownsRow_nil w2.drew 0 5 1)
    have HALL:=hide hall
    have HCH:=hide hch
    have HFB:=hide hfd.blk
    have hfl:=lt_of_row hfd.blk
    have hdb:0 + dt.size ≤ 140737488355328:=by omega
    clear hg2 hd2 hn2 hch hall q4 hin4 hfd em
    go_wp2_with fail
    go_region_law (refine step_append_str _ (by rfl) _ _ _ _ (by rfl) 5 i0 Tryz.underlying136 Tryz.underlying9 hi hz0 hz1 hz2 _ 0 _ (by rfl) HROW.out dt (by rfl) hdb ?_;intro oa cap2 w5 hown5 hgrow hno;have sb:w5.heap[wq.heap.size]? = _:=(hgrow.block wq.heap.size hfl (fun e=>by cases e)).trans HFB.out;have s0:w5.cell? ⟨wq.heap.size,0,none⟩ = _:=cell_of_row _ _ 0 _ _ _ sb;have sf:=frozen_of_row w5 wq.heap.size 0 _ _ sb)
    all_goals
     have hap:=PGo.append HCH.out.inn (f:=wq.heap.size) (by simp) (x:=(⟨#[]⟩,0)) (by dsimp only;rw [setNd_same]) (n:=0) rfl hown5 (by dsimp only;rw [setV_same];exact grownBy_trans (grownBy_below ((Below.refl _ _).drew) _) hgrow) (by dsimp only;rw [setV_same];exact hno)
     have hfin:=(PGo.refl H.out HBQ.out).trans (HALL.out.trans hap)
     rw [Nat.zero_add] at hfin
     have HFIN:=hide hfin
     clear hap hfin hown5 hgrow hno sb s0 sf
     go_wp2_with fail
     go_ret
     refine .inr ⟨rfl,by rw [HBG.out];have:=HBIG.out;omega,_,HFIN.out,?_⟩
     refine .inr ⟨HFO.out.symm,wq.heap.size,HBQ.out.size,rfl,rfl,?_⟩
     dsimp only
     rw [setNd_twice,empty_app]
   | some f =>
    dsimp only [ptrOf] at hlk
    go_wp2_with fail
    go_quiet (fail)
    obtain ⟨wq,hwq⟩ : ∃ wq,wq = wc.drewN nq:=⟨_,rfl⟩
    rw [← hwq]
    have hbq:Below wc.heap.size wc wq:=by rw [hwq];exact (Below.refl _ _).drewN nq
    have r0:=cell_later hbq k0
    have r1:=cell_later hbq k1
    have r2:=cell_later hbq k2
    have hlq0:g0 < wq.heap.size:=Nat.lt_of_lt_of_le hlc0 hbq.size
    have hlq1:g1 < wq.heap.size:=Nat.lt_of_lt_of_le hlc1 hbq.size
    have hlq2:g2 < wq.heap.size:=Nat.lt_of_lt_of_le hlc2 hbq.size
    have QQ:=hide ((hbq.block g0 hlc0).trans QC.out)
    have HBQ:=hide (HBC.out.trans (hbq.mono HBC.out.size))
    have hin2:=HIN.out.later hbq
    clear hwq hlk k0 k1 k2 kb1 QC hlc0 hlc1 hlc2
    have hm:f ∈ s.fs:=by
     obtain ⟨e,he,hb⟩:=findE_mem HFO.out.symm
     rw [← hb];exact H.out.inow e he
    have hfd:=hin2.fds f hm
    obtain ⟨o,cap,hfv,hca,hcb⟩:=hfd.shape
    have f0:wq.cell? ⟨f,0,none⟩ = some (s.fv f):=cell_of_row _ _ 0 _ _ _ hfd.blk
    rw [hfv] at f0
    have ff:=fun j=>frozen_of_row wq f j _ _ hfd.blk
    have hrow:=hfd.row
    rw [hfv] at hrow
    have HROW:=hide (ownsRow_later hrow ((Below.refl _ _).drew))
    have HIN2:=hide hin2
    have HFB:=hide hfd.blk
    have hfl:=lt_of_row hfd.blk
    have HNE:=hide hfd.rowNe
    have hdb:(s.fd f).1.size + dt.size ≤ 140737488355328:=by have:=hsz f hm;omega
    have HFV:=hide hfv
    clear hin2 hfd hrow hbq hfv
    generalize hszf:(s.fd f).1.size = sz at f0 HROW hdb hca HFV
    have HSZF:=hide hszf
    clear hszf
    go_wp2_with fail
    go_region_law (refine step_append_str _ (by rfl) _ _ _ _ (by rfl) 5 i0 Tryz.underlying136 Tryz.underlying9 hi hz0 hz1 hz2 _ sz _ (by rfl) HROW.out dt (by rfl) hdb ?_;intro oa cap2 w5 hown5 hgrow hno;have sb:w5.heap[f]? = _:=(hgrow.block f hfl (fun e=>HNE.out (by rw [HFV.out];exact e.symm))).trans HFB.out;have s0:w5.cell? ⟨f,0,none⟩ = _:=cell_of_row _ _ 0 _ _ _ sb;have sf:=frozen_of_row w5 f 0 _ _ sb)
    all_goals
     have hap:=PGo.append HIN2.out hm rfl HSZF.out hown5 (by rw [HFV.out];exact grownBy_trans (grownBy_below ((Below.refl _ _).drew) _) hgrow) (by rw [HFV.out];exact hno)
     have hfin:=(PGo.refl H.out HBQ.out).trans hap
     have HFIN:=hide hfin
     clear hap hfin hown5 hgrow hno sb s0 sf
     go_wp2_with fail
     go_ret
     refine .inr ⟨rfl,by rw [HBG.out];have:=HBIG.out;omega,_,HFIN.out,?_⟩
     exact .inl ⟨f,HFO.out.symm,rfl,rfl,rfl⟩
theorem pdAppend_fwd (b:Nat) (p dt:ByteArray) (w:World) (Q:Value → World → Prop)
  (h:Calls Tryz.prog 166 #[.pointer (some ⟨b,0,none⟩),.string ⟨#[65,112,112,101,110,100]⟩,.slice (some ⟨w.heap.size + 1 + 1 + 1,0,none⟩) 1 1,.func (.func 228) #[] #[.pointer (some ⟨w.heap.size + 1 + 1,0,none⟩),.pointer (some ⟨w.heap.size,0,none⟩),.pointer (some ⟨w.heap.size + 1,0,none⟩)]] ((((w.alloc (.cells #[.pointer (some ⟨b,0,none⟩)] 88)).alloc (.cells #[.string p] 9)).alloc (.cells #[.string dt] 9)).alloc (.cells #[.string p] 9)) fun e w'=>∃ v,e = .returned v ∧ Q v w') :
  Calls Tryz.prog 189 #[.pointer (some ⟨b,0,none⟩),.string p,.string dt] w fun e w'=>∃ v,e = .returned v ∧ Q v w':=by
 have HST:=hide h
 clear h
 go_enter Tryz.func189,Tryz.ntmps189
 go_wp2_with fail
 refine (HST.out).mono ?_
 rintro _ w' ⟨v,rfl,h1⟩
 dsimp only
 have H1:=hide h1
 clear h1
 go_wp2_with fail
 go_ret
 exact ⟨_,rfl,H1.out⟩
theorem pdAppend (s:PSt) (p dt:ByteArray) (w:World) (h:s.In w) (hp:p.size ≤ 9223372036854775807) (hf:Cnt4 s.R) (hft:PFit s.R)
  (hu:usedE s.fd s.R.now ≤ 1000000000000) (hr0:0 ≤ s.R.room) (hr1:s.R.room ≤ 9223372036854775807) (hdt:dt.size ≤ 1000000000000) (hsz:∀ f ∈ s.fs,(s.fd f).1.size ≤ 1000000000000) :
  Calls Tryz.prog 189 #[.pointer (some ⟨s.b,0,none⟩),.string p,.string dt] w fun e w'=>∃ v,e = .returned v ∧
   (isPathB p = false → PRet s w 2 (fun _=>True) v w') ∧
   (isPathB p = true → s.R.left = 0 → PRet s w 0 (fun s1=>s1 = s) v w') ∧
   (isPathB p = true → s.R.left ≠ 0 → s.R.room - (usedE s.fd s.R.now:Int) < (dt.size:Int) → PRet s w 4 (fun _=>True) v w') ∧
   (∀ f,isPathB p = true → s.R.left ≠ 0 → ¬ s.R.room - (usedE s.fd s.R.now:Int) < (dt.size:Int) → findE p s.R.now = some f → PRet s w 0 (fun s1=>s1.R = s.R.wrote ∧ s1.fs = s.fs ∧ s1.fd = setNd s.fd f ((s.fd f).1 ++ dt,(s.fd f).2)) v w') ∧
   (isPathB p = true → s.R.left ≠ 0 → ¬ s.R.room - (usedE s.fd s.R.now:Int) < (dt.size:Int) → findE p s.R.now = none → PRet s w 0 (fun s1=>∃ f,w.heap.size ≤ f ∧ s1.R = RDk.wrote { s.R with now:=applyE s.R.now ⟨⟨#[]⟩,p,f⟩,chg:=s.R.chg ++ [⟨⟨#[]⟩,p,f⟩] } ∧ s1.fs = f :: s.fs ∧ s1.fd = setNd s.fd f (dt,0)) v w'):=by
 have hb3:=four_below w (.cells #[.pointer (some ⟨s.b,0,none⟩)] 88) (.cells #[.string p] 9) (.cells #[.string dt] 9) (.cells #[.string p] 9)
 have h3:=h.later hb3
 have hs:StrsAt ((((w.alloc (.cells #[.pointer (some ⟨s.b,0,none⟩)] 88)).alloc (.cells #[.string p] 9)).alloc (.cells #[.string dt] 9)).alloc (.cells #[.string p] 9)) (.slice (some ⟨w.heap.size + 1 + 1 + 1,0,none⟩) 1 1) [p]:=by
  refine ⟨_,1,rfl,fun i hi=>⟨_,rfl,?_⟩⟩
  have:i = 0:=by simpa using hi
  subst this
  exact cell_of_row _ _ 0 _ _ _ (four3 _ _ _ _ _ _)
 have hst:=pstep_one s ⟨#[65,112,112,101,110,100]⟩ _ p 228 #[.pointer (some ⟨w.heap.size + 1 + 1,0,none⟩),.pointer (some ⟨w.heap.size,0,none⟩),.pointer (some ⟨w.heap.size + 1,0,none⟩)] _ (fun k=>k = 4 ∧ s.R.room - (usedE s.fd s.R.now:Int) < (dt.size:Int))
  (fun s1=>¬ s.R.room - (usedE s.fd s.R.now:Int) < (dt.size:Int) ∧ ((∃ f,findE p s.R.now = some f ∧ s1.R = s.R ∧ s1.fs = s.fs ∧ s1.fd = setNd s.fd f ((s.fd f).1 ++ dt,(s.fd f).2)) ∨
     (findE p s.R.now = none ∧ ∃ f,w.heap.size ≤ f ∧ s1.R = { s.R with now:=applyE s.R.now ⟨⟨#[]⟩,p,f⟩,chg:=s.R.chg ++ [⟨⟨#[]⟩,p,f⟩] } ∧ s1.fs = f :: s.fs ∧ s1.fd = setNd s.fd f (dt,0))))
  h3 hs hp hf (Tryz.enter _ _ Tryz.func228 (by kernel_rfl) _ rfl) (fun hpp=>(pappC s _ _ _ p dt _ h3 (four2 _ _ _ _ _ _) (four0 _ _ _ _ _ _) (four1 _ _ _ _ _ _) hp hpp hft hu hr0 hr1 hdt hsz).mono (by
   rintro e w1 (⟨rfl,h1,h2⟩ | ⟨rfl,h1,s1,hgo,hP⟩)
   ·exact .inl ⟨4,⟨rfl,h1⟩,rfl,h2⟩
   ·refine .inr ⟨rfl,s1,hgo,?_,?_,h1,?_⟩
    ·rcases hP with ⟨f,_,hR,_⟩ | ⟨_,f,_,hR,_⟩ <;> rw [hR]
    ·rcases hP with ⟨f,_,hR,_⟩ | ⟨_,f,_,hR,_⟩ <;> rw [hR]
    ·rcases hP with hP | ⟨hn,f,hf,hP⟩
     ·exact .inl hP
     ·exact .inr ⟨hn,f,Nat.le_trans hb3.size hf,hP⟩))
 refine (pdAppend_fwd s.b p dt w _ hst).mono ?_
 rintro _ w' ⟨v,rfl,h1,h2,h3'⟩
 refine ⟨_,rfl,fun hb=>(h1 hb).below h hb3,fun hb h0=>(h2 hb h0).below h hb3,fun hb h0 hn=>?_,fun f hb h0 hn hfo=>?_,fun hb h0 hn hfo=>?_⟩
 ·rcases h3' hb h0 with ⟨k,⟨rfl,_⟩,h4,h5⟩ | ⟨rfl,s1,h4,h5,_⟩
  ·exact (PRet.bad (by decide) h4 h5).below h hb3
  ·exact absurd hn h5
 ·rcases h3' hb h0 with ⟨k,⟨rfl,h6⟩,h4,h5⟩ | ⟨rfl,s1,h4,_,⟨f',h5,h6,h7,h8⟩ | ⟨h5,_⟩⟩
  ·exact absurd h6 hn
  ·rw [hfo] at h5
   injection h5 with h5
   subst h5
   exact (PRet.ok h4 ⟨by dsimp only;rw [h6],h7,h8⟩).below h hb3
  ·rw [hfo] at h5;cases h5
 ·rcases h3' hb h0 with ⟨k,⟨rfl,h6⟩,h4,h5⟩ | ⟨rfl,s1,h4,_,⟨f',h5,h6,h7,h8⟩ | ⟨_,f,h5,h6,h7,h8⟩⟩
  ·exact absurd h6 hn
  ·rw [hfo] at h5;cases h5
  ·exact (PRet.ok h4 ⟨f,h5,by dsimp only;rw [h6],h7,h8⟩).below h hb3
end Go.Proofs.YtncigfibncmioaaGreatDoor
namespace Go.Proofs.YtncigfibncmioaaGreatDoor
open Go.RowKit
theorem own_str {w:World} {base:Nat} {v:Value} {l:List DE} (h:w.ownsRow base 9 1 v l.length (pathVs l)):∃ o cap,v = .slice o l.length cap ∧ ∀ i,i < l.length → ∃ g,o = some ⟨g,0,none⟩ ∧ w.cell? ⟨g,i,none⟩ = some (.string (l.getD i DE0).path):=by
 rcases h.2 with ⟨rfl,h0⟩ | ⟨g,cap,cur,rfl,hb,hg,hc,hm,hcs,htk⟩
 ·exact ⟨none,0,by rw [h0],fun i hi=>by omega⟩
 ·refine ⟨_,cap,rfl,fun i hi=>⟨g,rfl,?_⟩⟩
  rw [cell_of_row w g _ _ _ _ hg]
  have:(cur.toList.take (l.length * 1))[i]? = (pathVs l)[i]?:=by rw [htk]
  rw [List.getElem?_take,if_pos (by omega)] at this
  rw [← Array.getElem?_toList,this]
  simp [pathVs,List.getD_eq_getElem?_getD,List.getElem?_eq_getElem hi]
theorem PSt.In.notOwn {s:PSt} {w:World} (h:s.In w) {k:Nat} {cur:Array Value} {T:TypeId} {fr:Nat × Nat} (hk:w.heap[k]? = some (.cells cur T fr)) (h1:T ≠ 150) (h2:T ≠ 214) (h3:T ≠ 154) (h4:T ≠ 5):¬ s.own k:=by
 intro ho
 rcases ho with e | e | e | e | e | ⟨f,hf,e⟩
 ·exact type_ne hk h.is.blk h1 e
 ·obtain ⟨e1,c1,m1⟩:=h.is.now.isMap
  rw [e,m1] at hk;cases hk
 ·obtain ⟨e1,c1,m1⟩:=h.is.safe.isMap
  rw [e,m1] at hk;cases hk
 ·obtain ⟨c,hc⟩:=own_obj h.is.chg k e;exact type_ne hc hk (Ne.symm h2) rfl
 ·exact type_ne hk (h.fds k e).blk h3 rfl
 ·obtain ⟨c,hc⟩:=own_obj (h.fds f hf).row k e;exact type_ne hc hk (Ne.symm h4) rfl
end Go.Proofs.YtncigfibncmioaaGreatDoor
