/-
  PROVED HERE: what goOn does on a disk in any of the shapes that a crash leaves.
-/
import Derived.Test.YtncigfibncmioaaGreatDoorRfLaw
import Derived.Test.YtncigfibncmioaaGreatDoorSaAsk
import Derived.Test.YtncigfibncmioaaGreatDoorPdSteps
namespace Go.Proofs.YtncigfibncmioaaGreatDoor
open Go.RowKit
theorem GoC.mono {RO RO':DS→Int→DS→Prop} {s:PSt} {l:List TE} {cl:List (List Nat)} (h:GoC RO s l cl) (hi:∀ k D',RO s.ds k D'→RO' s.ds k D'):GoC RO' s l cl:=fun sb cb tb W hW=>(h sb cb tb W hW).mono (by
 rintro e w' ⟨ev,k,s',a1,a2,a3,a4,a5,a6⟩
 exact ⟨ev,k,s',a1,a2,a3,hi _ _ a4,a5,a6⟩)
theorem ShOut.mono {n m m':Nat} {A:Sto} {r k:Int} {D D':DS} (h:ShOut n A r m D k D') (hm:m≤m'):ShOut n A r m' D k D':=⟨h.k0,h.gd,h.rst,fun hf=>(h.fit hf).mono (by omega) (by omega) (Nat.le_refl _)⟩
theorem ctF_view {D:DS} {F:List FF} (hv:vwL D=F) (d:List Nat):d∈ctF D.R.now ↔ ∃ x∈F,dgB x.p=true∧d=dgV x.p:=by
 subst hv
 unfold ctF
 rw [ctF_in D.R.now [] List.Pairwise.nil (fun x hx=>by cases hx)]
 constructor
 ·rintro (h1|⟨e,he,h1,h2⟩)
  ·cases h1
  ·exact ⟨vwE D.fd e,List.mem_map_of_mem he,h1,h2⟩
 ·rintro ⟨x,hx,h1,h2⟩
  obtain ⟨e,he,rfl⟩:=List.mem_map.1 hx
  exact .inr ⟨e,he,h1,h2⟩
theorem ct_fA {D:DS} {F:List FF} {cs:List ByteArray} {tg:List TE} (hv:vwL D=F) (hF:∀ x,dgB x.p=true→(x∈F ↔ x∈fA ⟨cs,tg⟩)):∀ d,d∈ctF D.R.now ↔ ∃ b∈cs,d=dOfB b:=fun d=>by
 rw [ctF_view hv]
 constructor
 ·rintro ⟨x,hx,h1,h2⟩
  have hm:=(hF x h1).1 hx
  unfold fA at hm
  rcases List.mem_append.1 hm with hm|hm
  ·obtain ⟨b,hb,rfl⟩:=List.mem_map.1 hm
   exact ⟨b,hb,by rw [h2];exact (dg_c (dOfB_ok b)).2⟩
  ·rw [tail_dg hm] at h1
   cases h1
 ·rintro ⟨b,hb,h1⟩
  have hd:dgB (fC b).p=true:=(dg_c (dOfB_ok b)).1
  refine ⟨fC b,(hF _ hd).2 ?_,hd,?_⟩
  ·unfold fA
   exact List.mem_append.2 (.inl (List.mem_map_of_mem hb))
  ·rw [h1]
   exact (dg_c (dOfB_ok b)).2.symm
theorem mem_ins_dg {F:List FF} (hr:RiseK FF.p F) {x y:FF} (hy:dgB y.p=false) (hx:dgB x.p=true):x∈insK FF.p y F ↔ x∈F:=by
 have hne:x.p≠y.p:=fun e=>by rw [e,hy] at hx;cases hx
 constructor
 ·intro h
  rcases insK_mem h with rfl|h
  ·exact absurd rfl hne
  ·exact h
 ·exact fun h=>mem_ins_old hr h hne
theorem p0_dg:dgB p0=false:=by decide +kernel
theorem p1_dg:dgB p1=false:=by decide +kernel
theorem pruning_dg:dgB pruningP=false:=by decide +kernel
theorem journal_dg:dgB journalP=false:=by decide +kernel
theorem ctF_le:∀ (l:List DE) (c:List (List Nat)),(l.foldl (fun c e=>if dgB e.path then insK dK (dgV e.path) c else c) c).length≤c.length+l.length
 | [],c=>Nat.le_refl _
 | e::l,c=>by
  rw [List.foldl_cons]
  have h1:=ctF_le l (if dgB e.path then insK dK (dgV e.path) c else c)
  have h2:(if dgB e.path then insK dK (dgV e.path) c else c).length≤c.length+1:=by
   split
   ·exact insK_len _ _
   ·omega
  rw [List.length_cons]
  omega
theorem ctF_len (l:List DE):(ctF l).length≤l.length:=by
 have:=ctF_le l []
 rw [List.length_nil,Nat.zero_add] at this
 exact this
theorem insK_len_new {α:Type} {key:α→ByteArray} {t:α}:∀ {l:List α},(∀ e∈l,key e≠key t)→(insK key t l).length=l.length+1
 | [],_=>rfl
 | e::l,h=>by
  have h1:=h e (by simp)
  unfold insK
  rw [if_neg h1]
  split
  ·rfl
  ·rw [List.length_cons,insK_len_new (fun x hx=>h x (by simp [hx])),List.length_cons]
theorem prF_len (cs:List ByteArray) (tg:List TE):(prF cs tg).length=cs.length+3:=by
 have h1:delK FF.p journalP (fA ⟨cs,tg⟩)=cs.map fC ++ [ff indexP (idxX tg),ff layoutP layoutT]:=by
  unfold delK fA
  rw [List.filter_append]
  congr 1
  refine List.filter_eq_self.2 fun x hx=>?_
  obtain ⟨b,_,rfl⟩:=List.mem_map.1 hx
  have:¬ (fC b).p=journalP:=kC_journal b
  simp [this]
 unfold prF
 rw [insK_len_new (t:=ff pruningP ⟨#[]⟩) (fun e he=>?_),h1,List.length_append,List.length_map]
 ·rfl
 ·have hm:=(delK_mem.1 he).1
  exact findK_none (find_pruning ⟨cs,tg⟩) e hm
theorem find_ne {F:List FF} (hr:RiseK FF.p F) {x:FF} {p:ByteArray} (hp:p≠x.p):findK FF.p p (insK FF.p x F)=findK FF.p p F:=by rw [findK_ins _ _ hr,if_neg hp]
theorem find_eq {F:List FF} (hr:RiseK FF.p F) (x:FF):findK FF.p x.p (insK FF.p x F)=some x:=by rw [findK_ins _ _ hr,if_pos rfl]
section
variable {n:Nat} {s:PSt} {A:Sto} {F:List FF} {r:Int}
theorem sh_one {D:DS} {t:ByteArray} (g:GoodA A) (hv:vwL D=insK FF.p (ff p0 t) (fA A)):QuI D A.tg:=by
 have hrA:=fA_rise g.rise
 obtain ⟨c,hc⟩:=idx_read g
 have hf:∀ p,p≠p0→findK FF.p p (insK FF.p (ff p0 t) (fA A))=findK FF.p p (fA A):=fun p hp=>find_ne (x:=ff p0 t) hrA hp
 refine ⟨⟨idxX A.tg,c,?_,idxX_size g.tok g.t8,hc⟩,g.tok,g.tr,g.t8,?_,?_,?_⟩
 ·rw [rd_vw hv index_path,hf _ (by decide),find_index]
  rfl
 ·rw [bPath1,rd_vw hv p1_path,hf _ (by decide),find_p1]
  rfl
 ·rw [rd_vw hv (by decide),hf _ (by decide),find_pruning]
  rfl
 ·rw [rd_vw hv (by decide),hf _ (by decide),find_layout]
  rfl
theorem sh_two {D:DS} {t u:ByteArray} (g:GoodA A) (hv:vwL D=insK FF.p (ff p1 u) (insK FF.p (ff p0 t) (fA A))):QuT D A.tg:=by
 have hrA:=fA_rise g.rise
 have r1:=riseK_ins (key:=FF.p) (ff p0 t) hrA
 obtain ⟨c,hc⟩:=idx_read g
 have hf:∀ p,p≠p0→p≠p1→findK FF.p p (insK FF.p (ff p1 u) (insK FF.p (ff p0 t) (fA A)))=findK FF.p p (fA A):=fun p h0 h1=>(find_ne (x:=ff p1 u) r1 h1).trans (find_ne (x:=ff p0 t) hrA h0)
 refine ⟨⟨idxX A.tg,c,?_,idxX_size g.tok g.t8,hc⟩,g.tok,g.tr,g.t8,?_,?_,?_,?_⟩
 ·rw [rd_vw hv index_path,hf _ (by decide) (by decide),find_index]
  rfl
 ·rw [bPath1,rd_vw hv p1_path,show findK FF.p p1 (insK FF.p (ff p1 u) (insK FF.p (ff p0 t) (fA A)))=some (ff p1 u) from find_eq r1 (ff p1 u)]
  rfl
 ·rw [bPath0,rd_vw hv p0_path,find_ne (x:=ff p1 u) (p:=p0) r1 (by show p0≠p1;decide),show findK FF.p p0 (insK FF.p (ff p0 t) (fA A))=some (ff p0 t) from find_eq hrA (ff p0 t)]
  rfl
 ·rw [rd_vw hv (by decide),hf _ (by decide) (by decide),find_pruning]
  rfl
 ·rw [rd_vw hv (by decide),hf _ (by decide) (by decide),find_layout]
  rfl
theorem sh_com {D:DS} {l:List TE} (g:GoodA A) (hv:vwL D=insK FF.p (ff p1 (idxX A.tg)) (fA ⟨A.cs,l⟩)):QuC D A.tg:=by
 have hrA:=fA_rise (A:=⟨A.cs,l⟩) g.rise
 obtain ⟨c,hc⟩:=idx_read g
 have hf:∀ p,p≠p1→findK FF.p p (insK FF.p (ff p1 (idxX A.tg)) (fA ⟨A.cs,l⟩))=findK FF.p p (fA ⟨A.cs,l⟩):=fun p h1=>find_ne (x:=ff p1 (idxX A.tg)) hrA h1
 refine ⟨⟨idxX A.tg,c,?_,idxX_size g.tok g.t8,hc⟩,g.tok,g.tr,g.t8,?_,?_,?_⟩
 ·rw [bPath1,rd_vw hv p1_path,show findK FF.p p1 (insK FF.p (ff p1 (idxX A.tg)) (fA ⟨A.cs,l⟩))=some (ff p1 (idxX A.tg)) from find_eq hrA (ff p1 (idxX A.tg))]
  rfl
 ·rw [bPath0,rd_vw hv p0_path,hf _ (by decide),find_p0]
  rfl
 ·rw [rd_vw hv (by decide),hf _ (by decide),find_pruning]
  rfl
 ·rw [rd_vw hv (by decide),hf _ (by decide),find_layout]
  rfl
theorem sh_pru {D:DS} {cs:List ByteArray} (g:GoodA A) (h1:RiseK kC cs) (hv:vwL D=prF cs A.tg):QuP D A.tg:=by
 have hrA:=prF_rise (tg:=A.tg) h1
 obtain ⟨c,hc⟩:=idx_read g
 have hf:∀ p,p≠pruningP→p≠journalP→findK FF.p p (prF cs A.tg)=findK FF.p p (fA ⟨cs,A.tg⟩):=fun p h0 h1=>by
  unfold prF
  rw [find_ne (x:=ff pruningP ⟨#[]⟩) hrA h0,findK_del,if_neg h1]
 refine ⟨⟨idxX A.tg,c,?_,idxX_size g.tok g.t8,hc⟩,g.tok,g.tr,g.t8,?_,?_,?_⟩
 ·rw [rd_vw hv index_path,hf _ (by decide) (by decide),find_index]
  rfl
 ·rw [bPath1,rd_vw hv p1_path,hf _ (by decide) (by decide),find_p1]
  rfl
 ·rw [rd_vw hv (by decide),show findK FF.p pruningP (prF cs A.tg)=some (ff pruningP ⟨#[]⟩) from find_eq hrA (ff pruningP ⟨#[]⟩)]
  rfl
 ·rw [rd_vw hv (by decide),hf _ (by decide) (by decide),find_layout]
  rfl
theorem Sh.lay {D:DS} (hs:Sh n A F) (g:GoodA A) (hv:vwL D=F):(rdD D layoutP).isSome=true:=by
 cases hs with
 | rest=>rw [rd_vw hv (by decide),find_layout];rfl
 | one t=>exact (sh_one g hv).lay
 | two t u=>exact (sh_two g hv).lay
 | com l=>exact (sh_com g hv).lay
 | pru cs h1 h2 h3=>exact (sh_pru g h1 hv).lay
def NoPr (L:Nat) (F:List FF):Prop:=findK FF.p pruningP F=none∧(∀ x∈F,isPathB x.p=true)∧F.length≤L
theorem path_le {p:ByteArray} (h:isPathB p=true):p.size≤9223372036854775807:=Nat.le_trans (path_size h) (by decide)
theorem view_paths {D:DS} (hv:vwL D=F) (hp:∀ x∈F,isPathB x.p=true):∀ e∈D.R.now,e.path.size≤9223372036854775807:=fun e he=>by
 subst hv
 exact path_le (hp (vwE D.fd e) (List.mem_map_of_mem he))
theorem view_len {D:DS} (hv:vwL D=F):D.R.now.length=F.length:=by
 subst hv
 unfold vwL
 rw [List.length_map]
theorem shpC {C:Nat} (hs:Sh n A F) (hr:Rst (offL s.ds) F r 2000) (g:GoodA A) (hl:A.cs.length≤n) (hn:n≤300000) (hf:DFit s.ds (n+5) C 2000) (hC:C≤90000000000):∃ cl,GoC (ShOut n A r (F.length+3)) s A.tg cl∧(∀ d∈cl,DigOk d)∧∀ d,d∈cl ↔ ∃ b∈A.cs,d=dOfB b:=by
 have hv:vwL s.ds=F:=hr.wh.vw
 have hps:∀ e∈s.R.now,e.path.size≤9223372036854775807:=view_paths hv hs.path
 have hnl:s.R.now.length=F.length:=view_len hv
 have hFl:=hs.len hl
 have hrA:=fA_rise g.rise
 have hbud:Bud (n+5+s.R.now.length+20) (C+s.R.now.length+20) (2000+36):=⟨by omega,by omega,by omega⟩
 cases hs with
 | rest =>
  refine ⟨ctF s.R.now,(goC_rest ?_ hf hbud hps).mono (fun k D' h=>(goR_out (n:=n) (.inl rfl) hr g.rise h).mono (by omega)),ctF_ok,ct_fA (tg:=A.tg) hv (fun x _=>Iff.rfl)⟩
  obtain ⟨c,hc⟩:=idx_read g
  refine ⟨⟨idxX A.tg,c,?_,idxX_size g.tok g.t8,hc⟩,g.tok,g.tr,g.t8,?_,?_,?_⟩
  ·rw [rd_vw hv index_path,find_index]
   rfl
  ·rw [bPath1,rd_vw hv p1_path,find_p1]
   rfl
  ·rw [rd_vw hv (by decide),find_pruning]
   rfl
  ·rw [rd_vw hv (by decide),find_layout]
   rfl
 | one t=>exact ⟨ctF s.R.now,(goC_rest (sh_one g hv) hf hbud hps).mono (fun k D' h=>(goR_out (n:=n) (.inr (.inl ⟨t,rfl⟩)) hr g.rise h).mono (by omega)),ctF_ok,ct_fA (tg:=A.tg) hv (fun x hx=>mem_ins_dg (y:=ff p0 t) hrA p0_dg hx)⟩
 | two t u =>
  have r1:=riseK_ins (key:=FF.p) (ff p0 t) hrA
  exact ⟨ctF s.R.now,(goC_two (sh_two g hv) hf hbud hps).mono (fun k D' h=>(goR_out (n:=n) (.inr (.inr ⟨t,u,rfl⟩)) hr g.rise h).mono (by omega)),ctF_ok,ct_fA (tg:=A.tg) hv (fun x hx=>(mem_ins_dg (y:=ff p1 u) r1 p1_dg hx).trans (mem_ins_dg (y:=ff p0 t) hrA p0_dg hx))⟩
 | com l =>
  have hrB:=fA_rise (A:=⟨A.cs,l⟩) g.rise
  have hgo:=goC_com (s:=s) (sh_com g hv) (fun k D1 h1=>?_) hf (show Bud _ _ _ from ⟨by omega,by omega,by omega⟩)
  ·rw [bPath1] at hgo
   exact ⟨ctF s.R.now,hgo.mono (fun k D' h=>(goX_com (n:=n) hr g.rise h).mono (by omega)),ctF_ok,ct_fA (tg:=l) hv (fun x hx=>mem_ins_dg (y:=ff p1 (idxX A.tg)) hrB p1_dg hx)⟩
  ·rw [bPath1] at h1
   have h2:stR s.ds (sRn p1 indexP) k D1:=h1
   have q1:NoPr (insK FF.p (ff p1 (idxX A.tg)) (fA ⟨A.cs,l⟩)).length (insK FF.p (ff p1 (idxX A.tg)) (fA ⟨A.cs,l⟩)):=⟨by rw [find_ne (x:=ff p1 (idxX A.tg)) (p:=pruningP) hrB (by show pruningP≠p1;decide)];exact find_pruning _,Sh.path (n:=n) (.com l),Nat.le_refl _⟩
   have q2:NoPr (insK FF.p (ff p1 (idxX A.tg)) (fA ⟨A.cs,l⟩)).length (fA A):=⟨find_pruning A,fun x hx=>fA_path2 hx,by
    have h9:(fA A).length=(fA ⟨A.cs,l⟩).length:=by rw [fA_len,fA_len]
    rw [h9,ins_head (x:=ff p1 (idxX A.tg)) (fun _ he=>(p0_less he).2),List.length_cons]
    omega⟩
   obtain ⟨_,hc⟩:=torn_all com_ok.1 com_ok.2 hr.wh (hr.hi q1) ⟨q1,fA A,mv_com g.rise,q2,rfl⟩ (Ran.one h2)
   have hgd:∃ G,vwL D1=G∧NoPr (insK FF.p (ff p1 (idxX A.tg)) (fA ⟨A.cs,l⟩)).length G:=by
    rcases hc with ⟨_,_,G,hw,hp⟩|⟨hw,_,hp⟩
    ·exact ⟨G,hw.vw,hp⟩
    ·exact ⟨_,hw.vw,hp⟩
   obtain ⟨G,hvG,hG1,hG2,hG3⟩:=hgd
   exact ⟨by rw [rd_vw hvG (by decide),hG1];rfl,view_paths hvG hG2,by rw [view_len hvG];show _≤s.R.now.length;omega⟩
 | pru cs h1 h2 h3 =>
  have hcl:=prF_len cs A.tg
  have hpf:prF cs A.tg=insK FF.p (ff pruningP ⟨#[]⟩) (delK FF.p journalP (fA ⟨cs,A.tg⟩)):=rfl
  rw [← hpf] at hv hr hnl hFl ⊢
  have hct:∀ d,d∈ctF s.R.now ↔ ∃ b∈cs,d=dOfB b:=ct_fA (tg:=A.tg) hv (fun x hx=>by
   refine (mem_ins_dg (y:=ff pruningP ⟨#[]⟩) (prF_rise h1) pruning_dg hx).trans ⟨fun h=>(delK_mem.1 h).1,fun h=>delK_mem.2 ⟨h,fun e=>?_⟩⟩
   rw [e,journal_dg] at hx
   cases hx)
  obtain ⟨u1,u2,u3⟩:=unT_all (tg:=A.tg) h1
  have hfA:(⟨cs.filter (fun b=>tagd (dOfB b) A.tg),A.tg⟩ : Sto)=A:=by rw [← h3]
  have hq:=goC_pru (s:=s) (cs.map dvC) (sh_pru g h1 hv) (dl_rise (A:=⟨cs,A.tg⟩) h1) (fun x=>by rw [hct];exact dl_mem (A:=⟨cs,A.tg⟩)) (by rw [List.length_map];omega) (by have:=ctF_len s.R.now;omega) (fun k m D1 hran=>?_) hf (show Bud _ _ _ from ⟨by omega,by omega,by omega⟩) _ (delsD_cD _ _)
  ·refine ⟨_,hq.mono (fun k D' h=>(goX_pru (n:=n) hr h1 h2 h3 h).mono (by omega)),fun d hd=>ctF_ok d ((dels_mem _ _).1 hd).1,fun d=>?_⟩
   rw [dels_mem,hct,h3]
   constructor
   ·rintro ⟨⟨x,hx,e⟩,hne⟩
    refine ⟨x,List.mem_filter.2 ⟨hx,?_⟩,e⟩
    cases ht:tagd (dOfB x) A.tg with
    | true=>rfl
    | false =>
     obtain ⟨u,hu,e2⟩:=u3 x hx ht
     exact absurd (by rw [e,e2]) (hne u hu)
   ·rintro ⟨x,hx,e⟩
    obtain ⟨x1,x2⟩:=List.mem_filter.1 hx
    refine ⟨⟨x,x1,e⟩,fun u hu e2=>?_⟩
    have h4:d=u.1:=dK_inj (by rw [e];exact dOfB_ok x) u.2 e2
    have h5:=(u2 u hu).1
    rw [← h4,e,x2] at h5
    cases h5
  ·obtain ⟨o1,o2⟩:=epS_ok (unT A.tg (cs.map dvC))
   have hP:∀ cs',RiseK kC cs'→cs'.length≤cs.length→(∀ x∈prF cs' A.tg,isPathB x.p=true)∧(prF cs' A.tg).length≤(prF cs A.tg).length:=fun cs' _ hl'=>⟨fun x hx=>by
    rcases insK_mem hx with rfl|hx
    ·show isPathB pruningP=true;decide
    ·exact fA_path2 (delK_mem.1 hx).1,by rw [prF_len,prF_len];omega⟩
   have hch:=chz_prune (P:=fun G=>(∀ x∈G,isPathB x.p=true)∧G.length≤(prF cs A.tg).length) (r:=r) (B:=2000) (tg:=A.tg) (unT A.tg (cs.map dvC)) cs h1 (fun cs' a1 a2 _=>hP cs' a1 a2) ⟨fun x hx=>fA_path2 hx,by
    rw [fA_len,prF_len]
    have:(cs.filter (fun b=>tagd (dOfB b) A.tg)).length≤cs.length:=List.length_filter_le _ _
    exact Nat.add_le_add_right this 3⟩ u1 u2 u3
   obtain ⟨_,hc⟩:=torn_all o1 o2 hr.wh (hr.hi (hP cs h1 (Nat.le_refl _))) hch hran
   have hgd:∃ G,vwL D1=G∧(∀ x∈G,isPathB x.p=true)∧G.length≤(prF cs A.tg).length:=by
    rcases hc with ⟨_,_,G,hw,hp⟩|⟨hw,_,hp⟩
    ·exact ⟨G,hw.vw,hp⟩
    ·exact ⟨_,hw.vw,hp⟩
   obtain ⟨G,hvG,hG1,hG2⟩:=hgd
   exact ⟨view_paths hvG hG1,by rw [view_len hvG];show _≤s.R.now.length;omega⟩
end
theorem dqHeld {w:World} {d:Nat} {s:PSt} {A:Sto} {r:Int} {n cu:Nat} (h:DQ w d s A r n cu) (hn:n≤300000) :
  Calls Tryz.prog 14 #[.pointer (some ⟨d,0,none⟩)] w fun e w'=>e = .returned (.string (hF (fA A)))∧PGo s s w w':=by
 have hvw:s.ds.R.now.map (vwE s.ds.fd)=fA A:=h.rq.vw
 have hmem:∀ e∈s.R.now,vwE s.fd e∈fA A:=fun e he=>by rw [← hvw];exact List.mem_map_of_mem he
 have hlen:s.R.now.length≤1000000:=by
  have:=h.lenN
  have:=h.len
  omega
 refine (held_many s d w h.dk hlen (fun e he=>fA_path (hmem e he)) h.rq.rst.wh.riseN (fun e he=>fA_small h.good (hmem e he))).mono ?_
 rintro e w' ⟨rfl,hg⟩
 refine ⟨?_,hg⟩
 have h2:hT s.fd s.R.now=hF (fA A):=by
  have:=hT_hF s.ds
  rw [show vwL s.ds=fA A from hvw] at this
  exact this
 rw [h2]
structure DH (w:World) (d:Nat) (s:PSt) (n:Nat) (A:Sto) (r:Int) (cu:Nat):Prop where
 dk:DkW w d s
 sh:∃ F,Sh n A F∧Rst (offL s.ds) F r 2000
 l0 : -1≤s.ds.R.left
 l1:s.ds.R.left≤9223372036854775807
 c0:0≤s.ds.R.count
 c1:s.ds.R.count≤(cu:Int)
 len:A.cs.length≤n
 good:GoodA A
 use:(szA A:Int)≤r
 r0:0≤r
 r1:r≤9223372036854775807
structure DM (w:World) (d:Nat) (s:PSt) (n:Nat) (A A':Sto) (r:Int) (cu:Nat):Prop where
 dk:DkW w d s
 gd:Gd (ShP n A A') r 2000 (offL s.ds)
 fit:DFit s.ds (3 * n+100) cu 2000
structure GA (n:Nat) (A:Sto) (r:Int):Prop where
 len:A.cs.length≤n
 good:GoodA A
 use:(szA A:Int)≤r
theorem DFit.exact {D:DS} {L C B:Nat} (h:DFit D L C B):DFit D L D.R.count.toNat B:=⟨h.len,h.c0,by have:=h.c0;omega,h.l0,h.l1,h.r0,h.r1,h.dat,h.chf,h.inv,h.inow,h.isafe,h.ichg,h.rise⟩
theorem DFit.withB {D:DS} {L C B B':Nat} (h:DFit D L C B) (hd:∀ f∈D.fs,FitB B' (D.fd f)):DFit D L C B':=⟨h.len,h.c0,h.c1,h.l0,h.l1,h.r0,h.r1,hd,h.chf,h.inv,h.inow,h.isafe,h.ichg,h.rise⟩
section
variable {w:World} {d:Nat} {s:PSt} {n:Nat} {A A':Sto} {r:Int} {cu:Nat}
theorem DH.fit (h:DH w d s n A r cu):DFit s.ds (n+5) cu 2000:=by
 obtain ⟨F,hs,hr⟩:=h.sh
 exact DFit.ofOff ((hr.fit (C:=cu) h.c0 h.c1 h.r0 h.r1).mono (hs.len h.len) (Nat.le_refl _) (Nat.le_refl _)) h.l0 h.l1
theorem DH.go {w':World} (h:DH w d s n A r cu) (hg:PGo s s w w'):DH w' d s n A r cu:=⟨h.dk.go hg,h.sh,h.l0,h.l1,h.c0,h.c1,h.len,h.good,h.use,h.r0,h.r1⟩
theorem DH.later {w':World} (h:DH w d s n A r cu) (hb:Below w.heap.size w w'):DH w' d s n A r cu:=h.go (PGo.refl h.dk.inn hb)
theorem dmCrash (h:DM w d s n A A' r cu) (hA:GA n A r) (hA':GA n A' r) (hn:n≤300000) (paths:Int) (kv:Value) (ks:List Int) (hk:KAt s.own w kv ks) :
  Calls Tryz.prog 16 #[.pointer (some ⟨d,0,none⟩),.int .i64 paths,kv] w fun e w'=>e = .returned (.int .i64 0)∧∃ s',PGo s s' w w'∧(DH w' d s' n A r cu∨DH w' d s' n A' r cu)∧s'.ds.R.left = -1:=by
 refine (bCrash_inv s d paths kv ks w h.dk hk h.fit (by omega) (by omega)).mono ?_
 rintro e w' ⟨rfl,s',hg,hd⟩
 obtain ⟨G,F',hG,hc,hr⟩:=crash_mid h.gd (nCr paths s.R.chg.length) ks
 rw [← hd] at hr
 have hl:s'.ds.R.left = -1:=hr.wh.left
 have hr':Rst (offL s'.ds) F' r 2000:=by rw [offL_self hl];exact hr
 have hc0:0≤s'.ds.R.count:=by rw [hd];exact h.fit.c0
 have hc1:s'.ds.R.count≤(cu:Int):=by rw [hd];exact h.fit.c1
 have hrm:s'.ds.R.room=r:=hr.wh.room
 have hrm2:s'.ds.R.room=s.ds.R.room:=by rw [hd];rfl
 have hr0:0≤r:=by rw [← hrm,hrm2];exact h.fit.r0
 have hr1:r≤9223372036854775807:=by rw [← hrm,hrm2];exact h.fit.r1
 refine ⟨rfl,s',hg,?_,hl⟩
 rcases hG F' hc with h1|h1
 ·exact .inl ⟨h.dk.go hg,⟨F',h1,hr'⟩,by rw [hl];decide,by rw [hl];decide,hc0,hc1,hA.len,hA.good,hA.use,hr0,hr1⟩
 ·exact .inr ⟨h.dk.go hg,⟨F',h1,hr'⟩,by rw [hl];decide,by rw [hl];decide,hc0,hc1,hA'.len,hA'.good,hA'.use,hr0,hr1⟩
theorem dhOpen (h:DH w d s n A r cu) (hn:n≤300000) (hcu:cu≤90000000000) :
  Calls Tryz.prog 17 #[.pointer (some ⟨d,0,none⟩)] w fun e w'=>∃ s' xb sb cb tb cl,e = .returned (.tuple #[.pointer (some ⟨xb,0,none⟩),.int .i64 0])∧PGo s s' w w'∧DM w' d s' n A A r (cu+n+8)∧(s.ds.R.left = -1→SA w' d xb sb cb s' tb cl A r n (cu+n+8)∧s'.ds.R.count≤s.ds.R.count+((s.R.now.length+3:Nat):Int))∧(w.heap.size≤xb∧w.heap.size≤sb∧w.heap.size≤cb∧w.heap.size≤tb):=by
 obtain ⟨F,hs,hr⟩:=h.sh
 obtain ⟨cl,hgo,hok,hmem⟩:=shpC hs hr h.good h.len hn h.fit hcu
 have hFl:=hs.len h.len
 have hnl:s.ds.R.now.length=F.length:=view_len hr.wh.vw
 have hnl:s.R.now.length=F.length:=hnl
 refine (bOpen_gen s A.tg cl w d h.dk.inn h.dk.gl h.dk.low (hs.lay h.good hr.wh.vw) hgo h.dk.bd).mono ?_
 rintro e w' ⟨k,s',sv,rfl,hg,hout,hst, -⟩
 have hk0:=hout.k0
 subst hk0
 obtain ⟨xb,sb,cb,tb,rfl,hbst,hlb,hlx,hsw⟩:=hst rfl
 have hfit:=hout.fit h.fit
 have hfit2:=hout.fit h.fit.exact
 have hc0:=h.c0
 refine ⟨s',xb,sb,cb,tb,cl,rfl,hg,⟨h.dk.go hg,hout.gd,hfit.mono (by omega) (by omega) (Nat.le_refl _)⟩,fun hl=>⟨⟨hbst,fun e=>by have:=h.dk.gl.lt e;omega,hsw,(h.dk.go hg).bd,hok,hmem,h.len,hout.rst hl,hfit.c0,?_,h.good,h.use,h.r0,h.r1⟩,?_⟩,hlx,hlb.1,hlb.2.1,hlb.2.2⟩
 ·have:=hfit.c1
  omega
 ·have:=hfit2.c1
  omega
end
structure SK (w:World) (db xb sb cb:Nat) (s:PSt) (tb:Nat) (cl:List (List Nat)) (A:Sto) (r:Int) (n cu:Nat):Prop where
 st:BSt w xb sb
 hG:¬ isG xb
 sw:StW w sb s cb tb cl.length A.tg.length (cD cl) (tD A.tg)
 bd:BD w db s.b
 ok:∀ d∈cl,DigOk d
 mem:∀ d,d∈cl ↔ ∃ b∈A.cs,d=dOfB b
 len:A.cs.length≤n
 rst:Rst (offL s.ds) (fA A) r 2000
 l0 : -1≤s.ds.R.left
 l1:s.ds.R.left≤9223372036854775807
 c0:0≤s.ds.R.count
 c1:s.ds.R.count≤(cu:Int)
 good:GoodA A
 use:(szA A:Int)≤r
 r0:0≤r
 r1:r≤9223372036854775807
def TnQ (db xb sb cb:Nat) (s:PSt) (A X:Sto) (r:Int) (n cu:Nat) (W w':World):Prop:=∃ s',SGo (sS xb sb cb) s s' W w'∧DM w' db s' (n+1) A X r (cu+n+20)
theorem wrz_fit {D D':DS} {L C B:Nat} {fl:List (ByteArray × ByteArray)} {k:Int} (hf:DFit D L C B) (h2:fl.length≤2) (hw:WrZ D fl k D'):∃ B',DFit D' (L+20) (C+20) B':=by
 unfold WrZ at hw
 by_cases he:fl = []
 ·rw [if_pos he] at hw
  obtain ⟨_,rfl⟩:=hw
  exact ⟨B,hf.mono (by omega) (by omega) (Nat.le_refl _)⟩
 ·rw [if_neg he] at hw
  obtain ⟨m,D1,hr,h3⟩:=hw
  have f1:=hf.ran hr
  have h8:=biS_two fl h2
  rcases h3 with ⟨_,rfl⟩|⟨_,h3⟩
  ·exact ⟨_,f1.mono (by omega) (by omega) (Nat.le_refl _)⟩
  ·have f2:=f1.ranI h3
   have h9:=tbS_two (min m fl.length) (by omega)
   exact ⟨_,f2.mono (by omega) (by omega) (Nat.le_refl _)⟩
section
variable {w:World} {db xb sb cb:Nat} {s:PSt} {tb:Nat} {cl:List (List Nat)} {A:Sto} {r:Int} {n cu:Nat}
theorem SK.fit (h:SK w db xb sb cb s tb cl A r n cu):DFit s.ds (n+3) cu 2000 :=
 DFit.ofOff ((h.rst.fit (C:=cu) h.c0 h.c1 h.r0 h.r1).mono (by rw [fA_len];have:=h.len;omega) (Nat.le_refl _) (Nat.le_refl _)) h.l0 h.l1
theorem SK.later {w':World} (h:SK w db xb sb cb s tb cl A r n cu) (hb:Below w.heap.size w w'):SK w' db xb sb cb s tb cl A r n cu :=
 ⟨(hb.block _ (lt_heap h.st)).trans h.st,h.hG,h.sw.later hb,(hb.block _ (lt_heap h.bd)).trans h.bd,h.ok,h.mem,h.len,h.rst,h.l0,h.l1,h.c0,h.c1,h.good,h.use,h.r0,h.r1⟩
theorem SK.clen (h:SK w db xb sb cb s tb cl A r n cu):cl.length≤n:=by
 have h1:cl.length≤(A.cs.map dOfB).length:=nodup_len (riseK_nodup (mD_rise h.sw.cm dig_keyed)) (fun x hx=>by
  obtain ⟨b,hb,e⟩:=(h.mem x).1 hx
  exact List.mem_map.2 ⟨b,hb,e.symm⟩)
 rw [List.length_map] at h1
 exact Nat.le_trans h1 h.len
theorem SK.has (h:SK w db xb sb cb s tb cl A r n cu) (b:ByteArray):Maps.has (cD cl) (dKey (dOfB b))=(findK kC (kC b) A.cs).isSome:=by
 rw [cD_has h.ok (dOfB_ok b)]
 cases hf:findK kC (kC b) A.cs with
 | none =>
  refine decide_eq_false (fun hm=>?_)
  obtain ⟨c,hc,e⟩:=(h.mem _).1 hm
  exact findK_none hf c hc (by unfold kC;rw [e])
 | some c =>
  obtain ⟨h1,h2⟩:=find_kC_some hf
  exact decide_eq_true ((h.mem _).2 ⟨c,h1,h2.symm⟩)
theorem SK.con (h:SK w db xb sb cb s tb cl A r n cu) (b:ByteArray):conR s.ds (dOfB b)=conC A b:=con_con (D:=offL s.ds) h.rst.wh (dOfB_ok b)
theorem SK.rd (h:SK w db xb sb cb s tb cl A r n cu) (b:ByteArray):rdD s.ds (cPath (dOfB b))=conC A b:=rd_con (D:=offL s.ds) h.rst.wh (dOfB b)
theorem SK.con300 (h:SK w db xb sb cb s tb cl A r n cu) {b t:ByteArray} (ht:conC A b=some t):t.size≤300:=h.good.sz t (find_kC_some ht).1
theorem SK.kpF (h:SK w db xb sb cb s tb cl A r n cu) (b:ByteArray):kpF s.ds (dOfB b) b=nbF (newC A b):=by
 unfold Go.Proofs.YtncigfibncmioaaGreatDoor.kpF newC
 rw [h.con b]
 cases conC A b with
 | none=>rfl
 | some c=>rfl
theorem SK.kpB (h:SK w db xb sb cb s tb cl A r n cu) (b:ByteArray):kpB s.ds (dOfB b) b=(conC A b).getD b:=by
 unfold Go.Proofs.YtncigfibncmioaaGreatDoor.kpB
 rw [h.con b]
theorem SK.put (h:SK w db xb sb cb s tb cl A r n cu) (b:ByteArray):szT (dOfB b) (Go.Proofs.YtncigfibncmioaaGreatDoor.kpB s.ds (dOfB b) b).size A.tg=A.tg:=by
 rw [h.kpB b]
 exact szT_same (h.good.told2 b)
theorem SK.puT (h:SK w db xb sb cb s tb cl A r n cu) (m b:ByteArray):puT s.ds (dOfB b) m b A.tg=tgNew A m b:=by
 unfold Go.Proofs.YtncigfibncmioaaGreatDoor.puT tgNew
 rw [h.kpB b]
 exact szT_ins (h.good.told2 b)
theorem SK.bdGo {w':World} {s':PSt} (h:SK w db xb sb cb s tb cl A r n cu) (hg:SGo (sS xb sb cb) s s' w w'):BD w' db s'.b:=by
 rw [hg.b]
 refine (hg.gr.block db (lt_heap h.bd) (fun e=>?_)).trans h.bd
 have hbd:=h.bd
 unfold BD at hbd
 rcases e with e|e|e|e
 ·exact h.sw.inn.notOwn hbd (by decide) (by decide) (by decide) (by decide) e
 ·subst e
  have h7:=h.st
  unfold BSt at h7
  rw [hbd] at h7
  injection h7 with h7
  injection h7 with _ h7
  exact absurd h7 (by decide)
 ·subst e
  have h7:=h.sw.blk
  rw [hbd] at h7
  injection h7 with h7
  injection h7 with _ h7
  exact absurd h7 (by decide)
 ·subst e
  obtain ⟨es,clock,h7,_⟩:=h.sw.cm
  rw [hbd] at h7
  cases h7
theorem SK.midst {w':World} {s':PSt} {X:Sto} {C B:Nat} (h:SK w db xb sb cb s tb cl A r n cu) (hg:SGo (sS xb sb cb) s s' w w') (hin:s'.In w'∧Gl w'∧LowS s') (hgd:Gd (ShP (n+1) A X) r 2000 (offL s'.ds)) (hf:DFit s'.ds (3 * n+100) C B) (hC:C≤cu+n+20):TnQ db xb sb cb s A X r n cu w w':=by
 refine ⟨s',hg,⟨hin.1,h.bdGo hg,hin.2.1,hin.2.2⟩,hgd,?_⟩
 obtain ⟨_,F,hw,_⟩:=hgd
 exact (hf.withB (B':=2000) (fun f hf'=>hw.dat f hf')).mono (by omega) hC (Nat.le_refl _)
theorem SK.same {w':World} {nc nt:Nat} {Dc Dt:DataW Value} {t2:Nat} (h:SK w db xb sb cb s tb cl A r n cu) (hg:SGo (sS xb sb cb) s s w w') (hst:StW w' sb s cb t2 nc nt Dc Dt):TnQ db xb sb cb s A A r n cu w w' :=
 h.midst hg ⟨hst.inn,hst.gl,hst.low⟩ ⟨h.rst.hi ShP.rest,_,h.rst.wh,ShP.rest⟩ (h.fit.mono (by omega) (Nat.le_refl _) (Nat.le_refl _)) (by omega)
theorem Pl.run_sto (p:Pl):(p.run r A).2.2=if (szA A:Int)+(p.need:Int)≤r then p.nx else A:=by
 unfold Pl.run
 split<;>rfl
theorem SK.zero (h:SK w db xb sb cb s tb cl A r n cu) (t:ByteArray) (e:Int) (A':Sto):(Pl.run r A ⟨0,t,e,A'⟩).2.2=A':=by
 rw [Pl.run_sto,if_pos (by have:=h.use;show (szA A:Int)+((0:Nat):Int)≤r;omega)]
theorem SK.changed {w':World} {s':PSt} {k:Int} {nb:Option ByteArray} {l':List TE} {txt:ByteArray} {e:Int} (h:SK w db xb sb cb s tb cl A r n cu) (hg:SGo (sS xb sb cb) s s' w w') (hw:WrZ s.ds (chF (nbF nb) A.tg l') k s'.ds)
  (hnb:∀ b,nb=some b→findK kC (kC b) A.cs=none∧b.size≤300) (hgd:GoodA ⟨nbC A.cs nb,l'⟩) (hin:s'.In w'∧Gl w'∧LowS s') :
  TnQ db xb sb cb s A (Pl.run r A ⟨nbN nb+tgNeed A.tg l',txt,e,⟨nbC A.cs nb,l'⟩⟩).2.2 r n cu w w':=by
 rw [Pl.run_sto]
 obtain ⟨B',hf⟩:=wrz_fit h.fit (chF_len (nbF nb) A.tg l' (nbF_len nb)) hw
 exact h.midst hg hin (torn_chg h.rst h.good h.use nb (fun b hb=>(hnb b hb).2) l' hgd.tok hgd.t8 hw) (hf.mono (by omega) (Nat.le_refl _) (Nat.le_refl _)) (by omega)
theorem stw_in {w':World} {s':PSt} {k:Int} {t1 nc nt nc2 nt2:Nat} {Dc Dt Dc2 Dt2:DataW Value} {N:Nat} (h0:k=0→∃ t2,N≤t2∧StW w' sb s' cb t2 nc nt Dc Dt) (h1:k≠0→StW w' sb s' cb t1 nc2 nt2 Dc2 Dt2):s'.In w'∧Gl w'∧LowS s':=by
 by_cases hk:k=0
 ·obtain ⟨t2,_,a⟩:=h0 hk
  exact ⟨a.inn,a.gl,a.low⟩
 ·have a:=h1 hk
  exact ⟨a.inn,a.gl,a.low⟩
theorem tnPut (h:SK w db xb sb cb s tb cl A r n cu) (hn:n≤300000) (hcu:cu≤90000000000) (b:ByteArray) (hb:b.size≤300) :
  Calls Tryz.prog 30 #[.pointer (some ⟨xb,0,none⟩),.string b] w fun e w'=>∃ t k,e = .returned (.tuple #[.string t,.int .i64 k])∧TnQ db xb sb cb s A ((putPl A b).run r A).2.2 r n cu w w':=by
 refine (bPut_any xb sb s cb tb cl.length (cD cl) A.tg b w h.st h.hG h.sw hb (fun t ht=>h.con300 ((h.con b).symm.trans ht)) (by have:=h.clen;omega) (fun t ht=>by have:=h.con300 ((h.rd b).symm.trans ht);omega) h.good.tok h.good.t8 h.fit (sa_bud hn hcu)).mono ?_
 rintro e w' ⟨k,s',rfl,hg,hx,hw,h0,h1⟩
 rw [h.kpF b,h.put b] at hw
 exact ⟨_,k,rfl,h.changed hg hw (newC_ok hb) (h.good.new hb) (stw_in h0 h1)⟩
theorem tnPub (h:SK w db xb sb cb s tb cl A r n cu) (hn:n≤300000) (hcu:cu≤90000000000) (m b:ByteArray) (hm:m.size≤20) (htag:isTagB m=true) (hb:b.size≤300) :
  Calls Tryz.prog 25 #[.pointer (some ⟨xb,0,none⟩),.string m,.string b] w fun e w'=>∃ t k,e = .returned (.tuple #[.string t,.int .i64 k])∧TnQ db xb sb cb s A ((pubPl A m b).run r A).2.2 r n cu w w':=by
 unfold pubPl
 cases hmay:mayB A m with
 | false =>
  rw [if_neg (by decide),h.zero]
  refine (bPub_many xb sb s cb tb cl.length (cD cl) A.tg m b w h.st h.hG h.sw h.good.tok (by omega) htag hb hmay).mono ?_
  rintro e w' ⟨rfl,hg,hx,hst⟩
  exact ⟨_,_,rfl,h.same hg hst⟩
 | true =>
  rw [if_pos rfl]
  refine (bPub_any xb sb s cb tb cl.length (cD cl) A.tg m b w h.st h.hG h.sw h.good.tok htag hmay hb (fun t ht=>h.con300 ((h.con b).symm.trans ht)) (by have:=h.clen;omega) (fun t ht=>by have:=h.con300 ((h.rd b).symm.trans ht);omega) hm h.good.t8 (tgNew_len h.good hmay) h.fit (sa_bud hn hcu)).mono ?_
  rintro e w' ⟨k,s',rfl,hg,hx,hw,h0,h1⟩
  rw [h.kpF b,h.puT m b] at hw
  exact ⟨_,k,rfl,h.changed hg hw (newC_ok hb) (h.good.pub hb hm htag hmay) (stw_in h0 h1)⟩
theorem tnTag (h:SK w db xb sb cb s tb cl A r n cu) (hn:n≤300000) (hcu:cu≤90000000000) (m b:ByteArray) (hm:m.size≤20) (htag:isTagB m=true) (hb:b.size≤300) :
  Calls Tryz.prog 36 #[.pointer (some ⟨xb,0,none⟩),.string m,.string (hxB b)] w fun e w'=>∃ k,e = .returned (.int .i64 k)∧TnQ db xb sb cb s A ((tagPl A m b).run r A).2.2 r n cu w w':=by
 have hh:=h.has b
 have hu:=unitC_cD cl
 unfold tagPl
 cases hc:conC A b with
 | none =>
  rw [show findK kC (kC b) A.cs=none from hc] at hh
  rw [if_neg (by simp),h.zero]
  refine (bTag_none xb sb s cb tb cl.length (cD cl) A.tg m (hxB b) w h.st h.hG h.sw (by omega) htag hu (hx_dig b) (by rw [hx_rd];exact hh)).mono ?_
  rintro e w' ⟨rfl,hg,hx,hst⟩
  exact ⟨_,rfl,h.same hg hst⟩
 | some c =>
  rw [show findK kC (kC b) A.cs=some c from hc] at hh
  rw [if_pos (by simp)]
  cases hmay:mayB A m with
  | false =>
   rw [if_neg (by decide),h.zero]
   refine (bTag_many xb sb s cb tb cl.length (cD cl) A.tg m (hxB b) w h.st h.hG h.sw (by omega) htag h.good.tok hu (hx_dig b) (by rw [hx_rd];exact hh) hmay).mono ?_
   rintro e w' ⟨rfl,hg,hx,hst⟩
   exact ⟨_,rfl,h.same hg hst⟩
  | true =>
   rw [if_pos rfl]
   refine (bTag_any xb sb s cb tb cl.length (cD cl) A.tg m (hxB b) w h.st h.hG h.sw hm htag h.good.tok hu (hx_dig b) (by rw [hx_rd];exact hh) hmay (fun t ht=>by rw [hx_rd] at ht;exact h.con300 ((h.rd b).symm.trans ht)) h.good.t8 (tgNew_len h.good hmay) h.fit (sa_bud hn hcu)).mono ?_
   rintro e w' ⟨k,s',rfl,hg,hx,hw,h0,h1⟩
   have hta:taT s.ds (rd (hxB b)) m A.tg=tgNew A m b:=by
    unfold taT tgNew
    rw [hx_rd,h.rd b,hc]
    have:=szT_ins (n:=m) (h.good.told2 b)
    rw [hc] at this
    exact this
   rw [hta] at hw
   have hgp:=h.good.pub hb hm htag hmay
   have hnw:newC A b=none:=by unfold newC;rw [hc]
   rw [hnw] at hgp
   exact ⟨k,rfl,h.changed (nb:=none) hg hw (fun b hb=>by cases hb) hgp (stw_in h0 h1)⟩
theorem tnUntag (h:SK w db xb sb cb s tb cl A r n cu) (hn:n≤300000) (hcu:cu≤90000000000) (m:ByteArray) (hm:m.size≤20) (htag:isTagB m=true) :
  Calls Tryz.prog 38 #[.pointer (some ⟨xb,0,none⟩),.string m] w fun e w'=>∃ k,e = .returned (.int .i64 k)∧TnQ db xb sb cb s A ((untPl A m).run r A).2.2 r n cu w w':=by
 unfold untPl
 cases hf:(findK TE.n m A.tg).isSome with
 | false =>
  rw [if_neg (by decide),h.zero]
  refine (bUntag_none xb sb s cb tb cl.length (cD cl) A.tg m w h.st h.hG h.sw h.good.tok (by omega) htag hf).mono ?_
  rintro e w' ⟨rfl,hg,hx,hst⟩
  exact ⟨_,rfl,h.same hg hst⟩
 | true =>
  rw [if_pos rfl]
  refine (bUntag_any xb sb s cb tb cl.length (cD cl) A.tg m w h.st h.hG h.sw h.good.tok (by omega) htag hf h.good.t8 h.fit (sa_bud hn hcu)).mono ?_
  rintro e w' ⟨k,s',rfl,hg,hx,hw,h0,h1⟩
  exact ⟨k,rfl,h.changed (nb:=none) hg hw (fun b hb=>by cases hb) (h.good.untag m) (stw_in h0 h1)⟩
theorem tnDel (h:SK w db xb sb cb s tb cl A r n cu) (hn:n≤300000) (hcu:cu≤90000000000) (b:ByteArray) :
  Calls Tryz.prog 39 #[.pointer (some ⟨xb,0,none⟩),.string (hxB b)] w fun e w'=>∃ k,e = .returned (.int .i64 k)∧TnQ db xb sb cb s A ((delPl A b).run r A).2.2 r n cu w w':=by
 have hh:=h.has b
 have hu:=unitC_cD cl
 unfold delPl
 cases hc:conC A b with
 | none =>
  rw [show findK kC (kC b) A.cs=none from hc] at hh
  rw [if_neg (by simp),h.zero]
  refine (bDel_none xb sb s cb tb cl.length (cD cl) A.tg (hxB b) w h.st h.hG h.sw hu (hx_dig b) (by rw [hx_rd];exact hh)).mono ?_
  rintro e w' ⟨rfl,hg,hx,hst⟩
  exact ⟨_,rfl,h.same hg hst⟩
 | some c =>
  rw [show findK kC (kC b) A.cs=some c from hc] at hh
  rw [if_pos (by simp)]
  cases ht:tagd (dOfB b) A.tg with
  | true =>
   rw [if_pos rfl,h.zero]
   refine (bDel_tagged xb sb s cb tb cl.length (cD cl) A.tg (hxB b) w h.st h.hG h.sw h.good.tok hu (hx_dig b) (by rw [hx_rd];exact hh) (by rw [hx_rd];exact ht)).mono ?_
   rintro e w' ⟨rfl,hg,hx,hst⟩
   exact ⟨_,rfl,h.same hg hst⟩
  | false =>
   rw [if_neg (by decide),h.zero]
   refine (bDel_any xb sb s cb tb cl.length (cD cl) A.tg (hxB b) w h.st h.hG h.sw h.good.tok hu (hx_dig b) (by rw [hx_rd];exact hh) (by rw [hx_rd];exact ht) h.fit (show Bud _ _ _ from ⟨by omega,by omega,by omega⟩)).mono ?_
   rintro e w' ⟨k,s',m,rfl,hg,hx,hr,hcase⟩
   rw [hx_rd] at hr
   obtain ⟨c1,c2⟩:=find_kC_some hc
   have hkc:kC c=kC b:=by unfold kC;rw [c2]
   have hin:s'.In w'∧Gl w'∧LowS s':=by
    rcases hcase with ⟨_,_,a⟩|⟨_,a⟩<;>exact ⟨a.inn,a.gl,a.low⟩
   obtain ⟨_,hgd⟩:=torn_del (n:=n+1) h.rst h.good c1 (by
    show Ran s.ds [sRm (kC c),sSd] k m s'.ds
    rw [hkc]
    exact hr)
   rw [hkc] at hgd
   exact ⟨k,rfl,h.midst hg hin hgd ((h.fit.ran hr).mono (show n+3+2≤_ by omega) (Nat.le_refl _) (Nat.le_refl _)) (show cu+2≤_ by omega)⟩
theorem tnPrune (h:SK w db xb sb cb s tb cl A r n cu) (hn:n≤300000) (hcu:cu≤90000000000) :
  Calls Tryz.prog 40 #[.pointer (some ⟨xb,0,none⟩)] w fun e w'=>∃ (m:Nat) (k:Int),m≤1000000∧e = .returned (.tuple #[.int .i64 (m:Int),.int .i64 k])∧TnQ db xb sb cb s A ((pruPl A).run r A).2.2 r n cu w w':=by
 have hrun:((pruPl A).run r A).2.2=⟨taggedC A,A.tg⟩:=h.zero _ _ _
 rw [hrun]
 have hdl:(dlA A).length≤n:=by unfold dlA;rw [List.length_map];exact h.len
 have hmem:∀ x,x∈dlA A ↔ x.1∈cl:=fun x=>by rw [dl_mem,h.mem]
 have hun:(unT A.tg (dlA A)).length≤n:=Nat.le_trans (List.length_filter_le _ _) hdl
 refine (bPrune_any xb sb s cb tb cl.length A.tg cl (dlA A) w h.st h.hG h.sw h.good.tok h.ok (dl_rise h.good.rise) hmem (by have:=h.clen;omega) (by omega) h.fit (show Bud _ _ _ from ⟨by omega,by omega,by omega⟩)).mono ?_
 rintro e w' ⟨k,s',rfl,hg,hx,hcase⟩
 rcases hcase with ⟨hu,rfl,rfl,hst⟩|⟨hu,m,hr,hst⟩
 ·refine ⟨(unT A.tg (dlA A)).length,0,by omega,by rw [if_pos rfl],?_⟩
  have hA:(⟨taggedC A,A.tg⟩ : Sto)=A:=by rw [taggedC_all hu]
  rw [hA]
  exact h.same hg hst
 ·obtain ⟨rfl,hgd⟩:=torn_prune (n:=n+1) h.rst h.good (Nat.le_succ_of_le h.len) hr
  have hl:(prS (unT A.tg (dlA A))).length≤n+3:=by simp [prS,epS,rmC];omega
  exact ⟨(unT A.tg (dlA A)).length,0,by omega,by rw [if_pos rfl],h.midst hg ⟨hst.inn,hst.gl,hst.low⟩ hgd ((h.fit.ran hr).mono (by omega) (Nat.le_refl _) (Nat.le_refl _)) (by omega)⟩
theorem SK.doc (h:SK w db xb sb cb s tb cl A r n cu) (X:Sto):DoC w (fun W=>SK W db xb sb cb s tb cl A r n cu) (fun _ _ W w'=>TnQ db xb sb cb s A X r n cu W w') :=
 ⟨h,fun _ _ hW hb=>hW.later hb,fun _ hW=>hW.sw.gl,fun _ _ _ _ _ hb hq=>by
  obtain ⟨s',h1,h2⟩:=hq
  exact ⟨s',(SGo.of_below hb).trans h1,h2⟩,fun _ _ _ _ _ hq hb=>by
  obtain ⟨s',h1,h2⟩:=hq
  exact ⟨s',h1.trans (SGo.of_below hb),h2.dk.later hb,h2.gd,h2.fit⟩,fun _ _ _ _ hq k h1 h2=>by
  obtain ⟨s',hg,_⟩:=hq
  exact hg.gr.block k h2 (fun e=>by
   rcases e with e|e|e|e
   ·have:=h.sw.inn.lt e;omega
   ·have:=lt_heap h.st;omega
   ·have:=lt_heap h.sw.blk;omega
   ·have:=h.sw.cm.lt;omega)⟩
theorem torn_does (h:SK w db xb sb cb s tb cl A r n cu) (hn:n≤300000) (hcu:cu≤90000000000) (K N B:Int) (hK:i64r K) (hN:i64r N) (hB:i64r B) :
  Calls Tryz.prog 11 #[.pointer (some ⟨xb,0,none⟩),.agg #[.int .i64 K,.int .i64 N,.int .i64 B]] w fun e w'=>∃ t k,e = .returned (.tuple #[.string t,.int .i64 k])∧TnQ db xb sb cb s A ((dsPl A K N B).run r A).2.2 r n cu w w':=by
 have h8:=pickN_lt K 8 (by decide)
 have hbs:=conT_size B
 have hns:=nmT_size N
 have hnt:=nmT_tag N
 unfold dsPl
 match hk:pickN K 8,h8 with
 | 0,_=>exact dsg_put (h.doc _) K N B hK hN hB (.inl hk) (fun W hW=>tnPut hW hn hcu (conT B) (by omega))
 | 1,_=>exact dsg_put (h.doc _) K N B hK hN hB (.inr hk) (fun W hW=>tnPut hW hn hcu (conT B) (by omega))
 | 2,_=>exact dsg_tag (h.doc _) K N B hK hN hB hk (fun W hW=>tnTag hW hn hcu (nmT N) (conT B) (by omega) hnt (by omega))
 | 3,_=>exact dsg_unt (h.doc _) K N B hK hN hB hk (fun W hW=>tnUntag hW hn hcu (nmT N) (by omega) hnt)
 | 4,_=>exact dsg_pub (h.doc _) K N B hK hN hB (.inl hk) (fun W hW=>tnPub hW hn hcu (nmT N) (conT B) (by omega) hnt (by omega))
 | 5,_=>exact dsg_pub (h.doc _) K N B hK hN hB (.inr hk) (fun W hW=>tnPub hW hn hcu (nmT N) (conT B) (by omega) hnt (by omega))
 | 6,_=>exact dsg_del (h.doc _) K N B hK hN hB hk (fun W hW=>tnDel hW hn hcu (conT B))
 | 7,_=>exact dsg_pru (h.doc _) K N B hK hN hB hk (fun W hW=>tnPrune hW hn hcu)
theorem saBreak (h:SA w db xb sb cb s tb cl A r n cu) (k:Nat) (hk:k<40) :
  Calls Tryz.prog 20 #[.pointer (some ⟨db,0,none⟩),.int .i64 (k:Int)] w fun e w'=>e = .returned (.int .i64 0)∧∃ s',PGo s s' w w'∧SK w' db xb sb cb s' tb cl A r n cu:=by
 refine (bBreak_any s db (k:Int) w h.dk (by omega)).mono ?_
 rintro e w' ⟨rfl,s',hg,hd⟩
 have hx:BLk w' xb sb 0:=BLk.sgo (S:=fun _=>False) h.st h.sw (SGo.of_go hg) (fun _ hk=>hk.elim)
 refine ⟨rfl,s',hg,hx,h.hG,h.sw.go hg,(h.dk.go hg).bd,h.ok,h.mem,h.len,?_,?_,?_,?_,?_,h.good,h.use,h.r0,h.r1⟩
 ·have:=h.rst
  rw [← offL_self h.rst.wh.left] at this
  rw [hd];exact this
 ·rw [hd];show (-1:Int)≤(k:Int);omega
 ·rw [hd];show (k:Int)≤_;omega
 ·rw [hd];exact h.c0
 ·rw [hd];exact h.c1
def PlG (A:Sto) (p:Pl):Prop:=GoodA p.nx∧p.nx.cs.length≤A.cs.length+1∧szA p.nx≤szA A+p.need
theorem PlG.same (g:GoodA A) (t:ByteArray) (e:Int):PlG A ⟨0,t,e,A⟩:=⟨g,Nat.le_succ _,Nat.le_refl _⟩
theorem PlG.chg (g:GoodA A) {nb:Option ByteArray} (hnb:∀ b,nb=some b→findK kC (kC b) A.cs=none) {l':List TE} (t:ByteArray) (e:Int) (hg:GoodA ⟨nbC A.cs nb,l'⟩):PlG A ⟨nbN nb+tgNeed A.tg l',t,e,⟨nbC A.cs nb,l'⟩⟩:=⟨hg,nbC_len _ _,szA_next g.rise nb hnb l'⟩
theorem PlG.run {p:Pl} (g:GoodA A) (hl:A.cs.length≤n) (hu:(szA A:Int)≤r) (h:PlG A p):GA (n+1) (p.run r A).2.2 r:=by
 rw [Pl.run_sto]
 split
 ·obtain ⟨h1,h2,h3⟩:=h
  exact ⟨by omega,h1,by omega⟩
 ·exact ⟨by omega,g,hu⟩
theorem ds_good (g:GoodA A) (K N B:Int):PlG A (dsPl A K N B):=by
 have hbs:=conT_size B
 have hns:=nmT_size N
 have hnt:=nmT_tag N
 have hput:PlG A (putPl A (conT B)):=PlG.chg g (fun x hx=>(newC_ok (by omega) x hx).1) _ _ (g.new (by omega))
 have hpub:PlG A (pubPl A (nmT N) (conT B)):=by
  unfold pubPl
  cases hmay:mayB A (nmT N) with
  | false=>exact PlG.same g _ _
  | true=>exact PlG.chg g (fun x hx=>(newC_ok (by omega) x hx).1) _ _ (g.pub (by omega) (by omega) hnt hmay)
 unfold dsPl
 split
 ·exact hput
 ·exact hput
 ·unfold tagPl
  cases hc:conC A (conT B) with
  | none=>exact PlG.same g _ _
  | some c =>
   cases hmay:mayB A (nmT N) with
   | false=>exact PlG.same g _ _
   | true =>
    have hgp:=g.pub (b:=conT B) (by omega) (by omega) hnt hmay
    have hnw:newC A (conT B)=none:=by unfold newC;rw [hc]
    rw [hnw] at hgp
    exact PlG.chg g (nb:=none) (fun x hx=>by cases hx) _ _ hgp
 ·unfold untPl
  cases hf:(findK TE.n (nmT N) A.tg).isSome with
  | false=>exact PlG.same g _ _
  | true=>exact PlG.chg g (nb:=none) (fun x hx=>by cases hx) _ _ (g.untag _)
 ·exact hpub
 ·exact hpub
 ·unfold delPl
  cases hc:conC A (conT B) with
  | none=>exact PlG.same g _ _
  | some c =>
   cases ht:tagd (dOfB (conT B)) A.tg with
   | true=>exact PlG.same g _ _
   | false=>exact ⟨g.del ht,Nat.le_succ_of_le (delK_len _ _),szA_del A _⟩
 ·exact ⟨g.prune,Nat.le_succ_of_le (List.length_filter_le _ _),szA_prune A⟩
end
end Go.Proofs.YtncigfibncmioaaGreatDoor
namespace Go.Proofs.YtncigfibncmioaaGreatDoor
set_option maxHeartbeats 4000000
set_option maxRecDepth 100000
open Go.RowKit
theorem wStepsS (d b:Nat) (Q:Value→World→Prop) (w:World) (hd:BD w d b)
  (h:Calls Tryz.prog 55 #[.pointer (some ⟨b,0,none⟩)] w fun e w'=>∃ v,e = .returned v∧Q v w') :
  Calls Tryz.prog 23 #[.pointer (some ⟨d,0,none⟩)] w fun e w'=>∃ v,e = .returned (.tuple #[v,.int .i64 0])∧Q v w':=by
 have H:=hide h
 have c0:w.cell? ⟨d,0,none⟩=some (.pointer (some ⟨b,0,none⟩)):=cell_of_row _ _ 0 _ _ _ hd
 clear h hd
 go_enter Tryz.func23,Tryz.ntmps23
 go_wp2_with fail
 refine H.out.mono ?_
 rintro _ w1 ⟨v,rfl,hq⟩
 dsimp only
 have HQ:=hide hq
 clear hq H
 go_wp2_with fail
 refine bodyPost_ret (results_tmp2 rfl _ _ _) rfl ?_
 exact ⟨_,rfl,HQ.out⟩
theorem dkSteps {w:World} {d:Nat} {s:PSt} (h:DkW w d s) :
  Calls Tryz.prog 23 #[.pointer (some ⟨d,0,none⟩)] w fun e w'=>e = .returned (.tuple #[.int .i64 s.ds.R.count,.int .i64 0])∧w'=w:=by
 refine (wStepsS d s.b (fun v w'=>v = .int .i64 s.R.count∧w'=w) w h.bd ((psteps_any s.b s.R s.mb s.lb s.cv w h.inn.is).mono fun e w' ⟨h1,h2⟩=>⟨_,h2,rfl,h1⟩)).mono ?_
 rintro _ w1 ⟨v,rfl,rfl,h1⟩
 exact ⟨rfl,h1⟩
theorem two_rows (w:World) (P Q:Obj):∃ W,W=(w.alloc P).alloc Q∧Below w.heap.size w W∧W.heap.size=w.heap.size+2∧W.heap[w.heap.size]? = some P∧W.heap[w.heap.size+1]? = some Q:=by
 refine ⟨_,rfl,((Below.refl _ _).alloc (Nat.le_refl _) _).alloc (by simp) _,by simp,?_,?_⟩
 ·have h1:(w.alloc P).heap[w.heap.size]? = some P:=heap_alloc_new _ _
  exact (((Below.refl (w.alloc P).heap.size (w.alloc P)).alloc (Nat.le_refl _) Q).block _ (by simp)).trans h1
 ·have:=heap_alloc_new (w.alloc P) Q
  rwa [size_alloc] at this
theorem SA.dqx {w:World} {db xb sb cb:Nat} {s:PSt} {tb:Nat} {cl:List (List Nat)} {A:Sto} {r:Int} {n cu:Nat} (h:SA w db xb sb cb s tb cl A r n cu):DQ w db s A r n s.ds.R.count.toNat:=⟨h.dk,h.dq.rq,h.c0,by have:=h.c0;omega,h.len,h.good,h.use,h.r0,h.r1⟩
theorem steady_any (w:World) (oa:Option Addr) (cc:Nat) (l:List StepV) (k9 n9 b9:Int) (fn fp:Int) (kv:Value) (ks:List Int) (hg:Gl w) (hl:StepsAt w.heap.size w oa l) (ok9:i64r k9) (on9:i64r n9) (ob9:i64r b9) (hka:KAt (fun k=>w.heap.size≤k) w kv ks) (hfn : -9223372036854775808≤fn∧fn≤9223372036854775807) (hn:l.length≤262144) :
  Calls Tryz.prog 6 #[.slice oa l.length cc,.agg #[.int .i64 k9,.int .i64 n9,.int .i64 b9],.agg #[.int .i64 fn,.int .i64 fp,kv]] w fun e w'=>e = .returned (.bool true)∧Below w.heap.size w w':=by
 obtain ⟨W,hW,hbW,hsW,hr0,hr1⟩:=two_rows w (.cells #[.int .i64 k9,.int .i64 n9,.int .i64 b9] 31) (.cells #[.int .i64 fn,.int .i64 fp,kv] 50)
 have HBG:=hide (begun_sa W (hg.later hbW))
 have HL:=hide (hl.low hbW.block)
 have HPK:=hide (pick_any fn 40 (by decide) (by decide) hfn.1 hfn.2)
 have hpl:=pickN_lt fn 40 (by decide)
 generalize pickN fn 40=m at HPK hpl
 have HOK:=hide (And.intro ok9 (And.intro on9 ob9))
 obtain ⟨N,hN⟩ : ∃ N,N=w.heap.size:=⟨_,rfl⟩
 rw [← hN] at HL hka hbW hr0 hr1 ⊢
 obtain ⟨M,hM⟩ : ∃ M,M=W.heap.size:=⟨_,rfl⟩
 rw [← hM] at HBG
 have hNM:N+2=M:=by omega
 have HK:=hide (show KAt (fun k=>M≤k) W kv ks from (KAt.low hka hbW).mono (fun k hk=>by omega))
 have HN:=hide hN
 have HM:=hide hM
 have HW:=hide hW
 have HBW:=hide hbW
 have HR0:=hide hr0
 have HR1:=hide hr1
 obtain ⟨q,hq⟩ : ∃ q,q=l.length:=⟨_,rfl⟩
 rw [← hq] at hn ⊢
 have HQ:=hide hq
 clear hg hl hka hN hq hW hbW hsW hr0 hr1 ok9 on9 ob9 hfn hM
 go_enter Tryz.func6,Tryz.ntmps6
 go_upto_region 1 with fail
 rw [← HW.out,← HN.out]
 go_wp2_with fail
 refine (HBG.out).mono ?_
 rintro _ w1 ⟨d,xb,sb,cb,s1,t1,l1,rfl,hb1,hs1,hf1⟩
 dsimp only
 have hM1:M≤w1.heap.size:=by have:=hb1.size;have:=HM.out;omega
 have HB1:=hide hb1
 have HS1:=hide hs1
 have HF1:=hide hf1
 clear hb1 hs1 hf1 HBG
 go_wp2_with fail
 go_loopw [9] (fun iv wr=>∃ (j:Nat),j≤q∧iv = .int .i64 ((j:Nat):Int)∧Below M W wr∧M≤wr.heap.size∧∃ s tb cl A,SA wr d xb sb cb s tb cl A 1099511627776 (j+3) (100+j * 262300)∧∀ k,fpr s xb sb cb tb k→M≤k) (fun iv _=>q - (intOf iv).toNat)
 case atStart=>exact ⟨0,Nat.zero_le _,rfl,HB1.out,hM1,s1,t1,l1,A1,HS1.out.mono (Nat.le_refl _) (by decide),HF1.out⟩
 case round =>
  obtain ⟨j,hj,rfl,hb,hNr,s,tb,cl,A,h1,hf1⟩:=hrel
  have HB:=hide hb
  have H1:=hide h1
  have HF:=hide hf1
  clear h1 hf1 hb HB1 HS1 HF1
  by_cases hlt:j<q
  ·have hjl:j<l.length:=by rw [← HQ.out];exact hlt
   obtain ⟨b,o,rfl,hbN,hrg,hok⟩:=(HL.out.low (HB.out.mono (show N≤M by omega)).block) j hjl
   generalize l.getD j step0=t at hrg hok
   obtain ⟨K,M1,B⟩:=t
   obtain ⟨okK,okM,okB⟩:=hok
   have HD1:=hide (does_any H1.out (by omega) (by omega) K M1 B okK okM okB)
   generalize (dsPl A K M1 B).run 1099511627776 A=X at HD1
   obtain ⟨X1,X2,X3⟩:=X
   dsimp only at HD1
   have hi31:(Tryz.prog.info? 31).map (·.size)=some ([.int .i64 K,.int .i64 M1,.int .i64 B]:List Value).length:=by show _=some 3;kernel_rfl
   have HRR:=hide (show wr.rangeAt b (o+j * 3) [.int .i64 K,.int .i64 M1,.int .i64 B] from hrg)
   have d9:decide (((j:Nat):Int)<((q:Nat):Int))=true:=decide_eq_true (by omega)
   clear hrg hjl
   go_wp2_with (refine wpList_load_mid rfl 31 _ rfl b (o+j * 3) rfl [.int .i64 K,.int .i64 M1,.int .i64 B] _ HRR.out Tryz.underlying31 rfl hi31 ?_)
   refine (HD1.out).mono ?_
   rintro _ w3 ⟨rfl,s3,t3,l3,hg3,ht3,h3⟩
   dsimp only
   have hf3:∀ k,fpr s3 xb sb cb t3 k→M≤k:=fun k hk=>by
    rcases fpr_next hg3 ht3 hk with hk|hk
    ·exact HF.out k hk
    ·omega
   have hb3:Below M wr w3:=hg3.lowN (fun k hk=>HF.out k (hk.elim .inl (fun e=>.inr (.inl e)))) hNr
   have hN3:M≤w3.heap.size:=Nat.le_trans hNr hb3.size
   have HS3:=hide h3
   have HB3:=hide (HB.out.trans hb3)
   have HF3:=hide hf3
   clear hg3 ht3 h3 hf3 hb3 HD1 HRR H1 HF HB
   go_wp2_with fail
   exact ⟨⟨j+1,by omega,by simp,HB3.out,hN3,s3,t3,l3,X3,HS3.out.mono (by omega) (by omega),HF3.out⟩,by simp only [intOf];omega⟩
  ·have d9:decide (((j:Nat):Int)<((q:Nat):Int))=false:=decide_eq_false (by omega)
   have HBR:=hide (saBreak H1.out m hpl)
   have hr1:wr.heap[N+1]? = some (.cells #[.int .i64 fn,.int .i64 fp,kv] 50 (0,0)):=(HB.out.block (N+1) (by omega)).trans HR1.out
   have c0:wr.cell? ⟨N+1,0,none⟩=some (.int .i64 fn):=cell_of_row _ _ 0 _ _ _ hr1
   have hlen:=H1.out.len
   have HGA:=hide (show GA (j+4) A 1099511627776 from ⟨by omega,H1.out.good,H1.out.use⟩)
   have HGX:=hide (PlG.run (n:=j+3) H1.out.good hlen H1.out.use (ds_good H1.out.good k9 n9 b9))
   have HTD:=hide (fun (V:World) (s2:PSt) (h:SK V d xb sb cb s2 tb cl A 1099511627776 (j+3) (100+j * 262300))=>torn_does h (by omega) (by omega) k9 n9 b9 HOK.out.1 HOK.out.2.1 HOK.out.2.2)
   generalize ((dsPl A k9 n9 b9).run 1099511627776 A).2.2=X at HGX HTD
   clear hr1 hlen H1 HOK
   go_wp2_with fail
   refine (HPK.out _).mono ?_
   rintro _ wp ⟨rfl,hwp⟩
   rw [hwp]
   dsimp only
   clear hwp HPK c0
   go_wp2_with fail
   refine (HBR.out).mono ?_
   rintro _ w1 ⟨rfl,s2,hg1,h2⟩
   dsimp only
   have hb1:Below M wr w1:=hg1.low (fun k hk=>HF.out k (.inl hk)) hNr
   have hN1:M≤w1.heap.size:=Nat.le_trans hNr hb1.size
   have HB1:=hide (HB.out.trans hb1)
   have HT2:=hide (HTD.out _ s2 h2)
   have HF2:=hide (show ∀ k,s2.own k∨sS xb sb cb k→M≤k from fun k hk=>by
    rcases hk with e|e
    ·exact hg1.ownN (fun k hk=>HF.out k (.inl hk)) hNr k e
    ·exact HF.out k (.inr (.inl e)))
   have HRW:=hide (show w1.heap[N]? = some (.cells #[.int .i64 k9,.int .i64 n9,.int .i64 b9] 31 (0,0)) from (HB1.out.block N (by omega)).trans HR0.out)
   have hi31:(Tryz.prog.info? 31).map (·.size)=some (#[.int .i64 k9,.int .i64 n9,.int .i64 b9]:Array Value).size:=by show _=some 3;kernel_rfl
   clear hg1 h2 hb1 HBR HTD HB HF
   go_wp2_with (refine wpList_load_row rfl 31 _ rfl N rfl 31 _ _ _ HRW.out Tryz.underlying31 rfl hi31 ?_)
   refine (HT2.out).mono ?_
   rintro _ w2 ⟨tx,kx,rfl,s3,hg2,h3⟩
   dsimp only
   have hb2:Below M w1 w2:=hg2.lowN HF2.out hN1
   have hN2:M≤w2.heap.size:=Nat.le_trans hN1 hb2.size
   have HB2:=hide (HB1.out.trans hb2)
   have ho3:∀ k,s3.own k→M≤k:=fun k hk=>(hg2.own k hk).elim (fun e=>HF2.out k (.inl e)) (fun e=>by omega)
   have HO3:=hide ho3
   have HCR:=hide (dmCrash h3 HGA.out HGX.out (by omega) fp kv ks ((KAt.low HK.out HB2.out).mono ho3))
   have hrf:w2.heap[N+1]? = some (.cells #[.int .i64 fn,.int .i64 fp,kv] 50 (0,0)):=(HB2.out.block (N+1) (by omega)).trans HR1.out
   have e1:w2.cell? ⟨N+1,1,none⟩=some (.int .i64 fp):=cell_of_row _ _ 1 _ _ _ hrf
   have e2:w2.cell? ⟨N+1,2,none⟩=some kv:=cell_of_row _ _ 2 _ _ _ hrf
   clear hg2 h3 hb2 ho3 hrf HT2 HB1 HF2 HRW hi31 HGA HGX
   go_wp2_with fail
   refine (HCR.out).mono ?_
   rintro _ w3 ⟨rfl,s4,hg4,hd4,hl4⟩
   dsimp only
   have hb4:Below M w2 w3:=hg4.low HO3.out hN2
   obtain ⟨A2,hd4⟩ : ∃ A2,DH w3 d s4 (j+3+1) A2 1099511627776 (100+j * 262300+(j+3)+20):=hd4.elim (fun h=>⟨_,h⟩) (fun h=>⟨_,h⟩)
   have HD4:=hide hd4
   have HL4:=hide hl4
   have HO4:=hide (hg4.ownN HO3.out hN2)
   have HB4:=hide (HB2.out.trans hb4)
   have hN4:M≤w3.heap.size:=Nat.le_trans hN2 hb4.size
   have HLS:=hide (bList_any s4 d w3 hd4.dk (Nat.le_trans hd4.fit.nowLen (by omega)))
   have hnl:s4.R.now.length≤j+3+1+5:=hd4.fit.nowLen
   clear hd4 hl4 hg4 hb4 e1 e2 HCR HO3 HB2
   go_wp2_with fail
   refine (HLS.out).mono ?_
   rintro _ w5 ⟨v5,rfl,hrow5,hb5⟩
   dsimp only
   obtain ⟨sa,sc,rfl⟩:=own_sl hrow5
   have HD5:=hide (HD4.out.later hb5)
   have HB5:=hide (HB4.out.trans (hb5.mono hN4))
   have hN5:M≤w5.heap.size:=Nat.le_trans hN4 hb5.size
   have HSP:=hide (dkSteps HD5.out.dk)
   have HOP:=hide (dhOpen HD5.out (by omega) (by omega))
   have hc0:=HD5.out.c0
   have hc1:=HD5.out.c1
   generalize s4.ds.R.count=c0 at HSP HOP hc0 hc1
   generalize s4.R.now.length=nl at hnl HOP ⊢
   clear hrow5 hb5 HLS HD4 HB4
   go_wp2_with fail
   refine (HSP.out).mono ?_
   rintro _ w6 ⟨rfl,hw6⟩
   rw [hw6]
   dsimp only
   clear hw6 HSP
   go_wp2_with fail
   refine (HOP.out).mono ?_
   rintro _ w7 ⟨s7,x7,sb7,cb7,tb7,cl7,rfl,hg7, -,hs7,hnb7⟩
   dsimp only
   obtain ⟨hs7,hct7⟩:=hs7 HL4.out
   have hb7:Below M w5 w7:=hg7.low HO4.out hN5
   have hN7:M≤w7.heap.size:=Nat.le_trans hN5 hb7.size
   have HB7:=hide (HB5.out.trans hb7)
   have HF7:=hide (show ∀ k,fpr s7 x7 sb7 cb7 tb7 k→M≤k from fun k hk=>by
    rcases hk with e|e|e
    ·exact hg7.ownN HO4.out hN5 k e
    ·rcases e with e|e|e<;>omega
    ·omega)
   have HSP:=hide (dkSteps hs7.dk)
   have HHE:=hide (saHeld hs7 (by omega))
   have hd0:=hs7.c0
   have hd1:=hs7.c1
   have HL7:=hide (show s7.ds.R.left = -1 from hs7.rst.wh.left)
   generalize hc7:s7.ds.R.count=c7 at HSP hd0 hd1 hct7
   have HC7:=hide hc7
   generalize hHT:hF (fA A2)=HT at HHE
   have HHT:=hide hHT
   clear hg7 hs7 hb7 hnb7 HOP HB5 HO4 HD5 HL4 hc7 hHT
   go_wp2_with fail
   refine (HSP.out).mono ?_
   rintro _ w8 ⟨rfl,hw8⟩
   rw [hw8]
   dsimp only
   clear hw8 HSP
   go_wp2_with fail
   refine (HHE.out).mono ?_
   rintro _ w9 ⟨rfl,hg9,hs9⟩
   dsimp only
   have hb9:Below M w7 w9:=hg9.lowN (fun k hk=>HF7.out k (hk.elim .inl (fun e=>.inr (.inl e)))) hN7
   have hN9:M≤w9.heap.size:=Nat.le_trans hN7 hb9.size
   have HB9:=hide (HB7.out.trans hb9)
   have hdq:=hs9.dqx
   rw [HC7.out] at hdq
   have HOP:=hide (dqOpen hdq (by omega) (by omega))
   have HO7:=hide (show ∀ k,s7.own k→M≤k from fun k hk=>HF7.out k (.inl hk))
   clear hg9 hs9 hb9 hdq HHE HB7 HF7 HC7
   go_wp2_with fail
   refine (HOP.out).mono ?_
   rintro _ wa ⟨sa9,xa,sba,cba,tba,cla,rfl,hga,hda, -, -⟩
   dsimp only
   have hba:Below M w9 wa:=hga.low HO7.out hN9
   have hNa:M≤wa.heap.size:=Nat.le_trans hN9 hba.size
   have HBa:=hide (HB9.out.trans hba)
   have HOa:=hide (hga.ownN HO7.out hN9)
   have HSP:=hide (dkSteps hda.dk)
   have HHE:=hide (dqHeld hda (by omega))
   rw [HHT.out] at HHE
   have he0:=hda.c0
   have he1:=hda.c1
   generalize sa9.ds.R.count=ca at HSP he0 he1
   clear hga hda hba HOP HB9 HO7 HHT HL7
   go_wp2_with fail
   refine (HSP.out).mono ?_
   rintro _ wb ⟨rfl,hwb⟩
   rw [hwb]
   dsimp only
   clear hwb HSP
   go_wp2_with fail
   refine (HHE.out).mono ?_
   rintro _ wc ⟨rfl,hgc⟩
   dsimp only
   have HBc:=hide (HBa.out.trans (hgc.low HOa.out hNa))
   clear hgc HHE HBa HOa
   go_wp2_with fail
   go_ret
   exact ⟨rfl,HBW.out.trans (HBc.out.mono (show N≤M by omega))⟩
end Go.Proofs.YtncigfibncmioaaGreatDoor
