/-
  PROVED HERE: a store as plain lists, its contents and its tags; what each call leaves of them and of its disk; no walk.
-/
import Derived.Test.YtncigfibncmioaaGreatDoorBmPrune
import Derived.Test.YtncigfibncmioaaGreatDoorBmUntag
import Derived.Test.YtncigfibncmioaaGreatDoorBmTags
import Derived.Test.YtncigfibncmioaaGreatDoorErPub
import Derived.Test.YtncigfibncmioaaGreatDoorStBegin
import Derived.Test.YtncigfibncmioaaGreatDoorReading
import Derived.Test.YtncigfibncmioaaGreatDoorSmPub
import Derived.Test.YtncigfibncmioaaGreatDoorStKeep
import Derived.Test.YtncigfibncmioaaGreatDoorErHeld
import Derived.Test.YtncigfibncmioaaGreatDoorSmUntd
import Derived.Test.YtncigfibncmioaaGreatDoorStGoOn
import Derived.Test.YtncigfibncmioaaGreatDoorSmTag
import Derived.Test.YtncigfibncmioaaGreatDoorRL
import Derived.Test.YtncigfibncmioaaGreatDoorPrintLib
import Derived.Test.YtncigfibncmioaaGreatDoorKDecB
namespace Go.Proofs.YtncigfibncmioaaGreatDoor
open Go.RowKit
theorem dOfB_ok (b:ByteArray):DigOk (dOfB b):=⟨dOfB_len b,dOfB_lt b⟩
def kC (b:ByteArray):ByteArray:=cPath (dOfB b)
structure Sto where
 cs:List ByteArray
 tg:List TE
def fC (b:ByteArray):FF:=ff (kC b) b
def tailF (l:List TE):List FF:=[ff indexP (idxX l),ff journalP ⟨#[]⟩,ff layoutP layoutT]
def fA (A:Sto):List FF:=A.cs.map fC ++ tailF A.tg
def szA (A:Sto):Nat:=sumF (fA A)
structure GoodA (A:Sto):Prop where
 rise:RiseK kC A.cs
 sz:∀ b ∈ A.cs,b.size ≤ 300
 tr:RiseT A.tg
 tok:∀ t ∈ A.tg,t.Ok
 t8:A.tg.length ≤ 8
 tin:∀ t ∈ A.tg,∃ b ∈ A.cs,t.d = dOfB b ∧ t.z = (b.size:Int)
 ttag:∀ t ∈ A.tg,isTagB t.n = true
theorem kC_index (b:ByteArray):kC b ≠ indexP:=less_ne (cP_index _)
theorem kC_journal (b:ByteArray):kC b ≠ journalP:=less_ne (cP_journal _)
theorem kC_layout (b:ByteArray):kC b ≠ layoutP:=less_ne (cP_layout _)
theorem kC_pruning (b:ByteArray):kC b ≠ pruningP:=less_ne (by unfold kC;rw [less_eq,cP_data];rfl)
theorem kC_p0 (b:ByteArray):p0 ≠ kC b:=less_ne (by unfold kC;rw [less_eq,cP_data];rfl)
theorem kC_p1 (b:ByteArray):p1 ≠ kC b:=less_ne (by unfold kC;rw [less_eq,cP_data];rfl)
theorem kC_inj {a b:ByteArray} (h:kC a = kC b):dOfB a = dOfB b:=cP_inj (dOfB_ok a) (dOfB_ok b) h
theorem tailF_rise (l:List TE):RiseK FF.p (tailF l):=by
 have h1:lessB indexP journalP = true:=by rw [less_eq];rfl
 have h2:lessB indexP layoutP = true:=by rw [less_eq];rfl
 have h3:lessB journalP layoutP = true:=by rw [less_eq];rfl
 unfold tailF RiseK
 refine List.pairwise_cons.2 ⟨fun x hx=>?_,List.pairwise_cons.2 ⟨fun x hx=>?_,List.pairwise_cons.2 ⟨fun x hx=>(by cases hx),List.Pairwise.nil⟩⟩⟩
 ·simp only [List.mem_cons,List.not_mem_nil,or_false] at hx
  rcases hx with rfl | rfl
  ·exact h1
  ·exact h2
 ·simp only [List.mem_cons,List.not_mem_nil,or_false] at hx
  subst hx
  exact h3
theorem tail_mem {l:List TE} {x:FF} (h:x ∈ tailF l):x = ff indexP (idxX l) ∨ x = ff journalP ⟨#[]⟩ ∨ x = ff layoutP layoutT:=by
 simpa [tailF] using h
theorem fA_rise {A:Sto} (h:RiseK kC A.cs):RiseK FF.p (fA A):=by
 unfold fA RiseK
 rw [List.pairwise_append]
 refine ⟨?_,tailF_rise _,fun x hx y hy=>?_⟩
 ·rw [List.pairwise_map]
  exact h
 ·obtain ⟨b,_,rfl⟩:=List.mem_map.1 hx
  rcases tail_mem hy with rfl | rfl | rfl
  ·exact cP_index _
  ·exact cP_journal _
  ·exact cP_layout _
theorem findK_app {α:Type} {key:α → ByteArray} (n:ByteArray):∀ l m:List α,findK key n (l ++ m) = (findK key n l).or (findK key n m)
 | [],m=>rfl
 | e :: l,m=>by
  rw [List.cons_append,findK_cons,findK_cons,findK_app n l m]
  by_cases h:key e = n
  ·simp [h]
  ·simp [h]
theorem findK_fC (n:ByteArray):∀ l:List ByteArray,findK FF.p n (l.map fC) = (findK kC n l).map fC
 | []=>rfl
 | b :: l=>by
  rw [List.map_cons,findK_cons,findK_cons,findK_fC n l]
  show (if kC b = n then _ else _) = _
  by_cases h:kC b = n
  ·simp [h]
  ·simp [h]
theorem find_fA (A:Sto) (n:ByteArray):findK FF.p n (fA A) = ((findK kC n A.cs).map fC).or (findK FF.p n (tailF A.tg)):=by
 unfold fA
 rw [findK_app,findK_fC]
theorem find_kC_out {l:List ByteArray} {n:ByteArray} (h:∀ b,kC b ≠ n):findK kC n l = none:=findK_out fun b _=>h b
theorem tail_out {l:List TE} {n:ByteArray} (h1:indexP ≠ n) (h2:journalP ≠ n) (h3:layoutP ≠ n):findK FF.p n (tailF l) = none:=findK_out fun x hx=>by
 rcases tail_mem hx with rfl | rfl | rfl
 ·exact h1
 ·exact h2
 ·exact h3
theorem find_content (A:Sto) (d:List Nat):findK FF.p (cPath d) (fA A) = (findK kC (cPath d) A.cs).map fC:=by
 rw [find_fA,tail_out (Ne.symm (less_ne (cP_index _))) (Ne.symm (less_ne (cP_journal _))) (Ne.symm (less_ne (cP_layout _)))]
 simp
theorem find_p0 (A:Sto):findK FF.p p0 (fA A) = none:=by
 rw [find_fA,find_kC_out (fun b=>Ne.symm (kC_p0 b)),tail_out (by decide) (by decide) (by decide)]
 rfl
theorem find_p1 (A:Sto):findK FF.p p1 (fA A) = none:=by
 rw [find_fA,find_kC_out (fun b=>Ne.symm (kC_p1 b)),tail_out (by decide) (by decide) (by decide)]
 rfl
theorem find_pruning (A:Sto):findK FF.p pruningP (fA A) = none:=by
 rw [find_fA,find_kC_out (fun b=>kC_pruning b),tail_out (by decide) (by decide) (by decide)]
 rfl
theorem fA_ins {A:Sto} (h:RiseK kC A.cs) (b:ByteArray):insK FF.p (fC b) (fA A) = fA ⟨insK kC b A.cs,A.tg⟩:=by
 refine riseK_ext (riseK_ins _ (fA_rise h)) (fA_rise (A:=⟨insK kC b A.cs,A.tg⟩) (riseK_ins b h)) (fun n=>?_)
 rw [findK_ins _ _ (fA_rise h),find_fA,find_fA,findK_ins _ _ h]
 show (if n = kC b then _ else _) = _
 by_cases hn:n = kC b
 ·simp [hn]
 ·simp only [if_neg hn]
theorem fA_tags {A:Sto} (h:RiseK kC A.cs) (l:List TE):insK FF.p (ff indexP (idxX l)) (fA A) = fA ⟨A.cs,l⟩:=by
 refine riseK_ext (riseK_ins _ (fA_rise h)) (fA_rise (A:=⟨A.cs,l⟩) h) (fun n=>?_)
 rw [findK_ins _ _ (fA_rise h),find_fA,find_fA]
 show (if n = indexP then _ else _) = _
 by_cases hn:n = indexP
 ·subst hn
  rw [if_pos rfl,find_kC_out (fun b=>kC_index b)]
  unfold tailF
  rw [findK_cons,if_pos (show (ff indexP (idxX l)).p = indexP from rfl)]
  rfl
 ·rw [if_neg hn]
  unfold tailF
  rw [findK_cons,if_neg (show ¬ (ff indexP (idxX A.tg)).p = n from Ne.symm hn),findK_cons (e:=ff indexP (idxX l)),if_neg (show ¬ (ff indexP (idxX l)).p = n from Ne.symm hn)]
theorem fA_del {A:Sto} (h:RiseK kC A.cs) (b:ByteArray):delK FF.p (kC b) (fA A) = fA ⟨delK kC (kC b) A.cs,A.tg⟩:=by
 refine riseK_ext (riseK_del _ (fA_rise h)) (fA_rise (A:=⟨delK kC (kC b) A.cs,A.tg⟩) (riseK_del _ h)) (fun n=>?_)
 rw [findK_del,find_fA,find_fA,findK_del]
 by_cases hn:n = kC b
 ·subst hn
  simp only [if_true]
  rw [tail_out (Ne.symm (kC_index b)) (Ne.symm (kC_journal b)) (Ne.symm (kC_layout b))]
  rfl
 ·simp only [if_neg hn]
def dvC (b:ByteArray):DV:=⟨dOfB b,dOfB_ok b⟩
theorem sub_val {d:List Nat} (h:DigOk d):(⟨d,h⟩ : DV).1 = d:=rfl
theorem dvC_val (b:ByteArray):(dvC b).1 = dOfB b:=by unfold dvC;exact sub_val _
theorem dv_key (x:DV) {d:List Nat} (h:x.1 = d):DV.key x = dB d:=by subst h;rfl
theorem dvC_key (b:ByteArray):DV.key (dvC b) = dB (dOfB b):=dv_key (dvC b) (dvC_val b)
def dlA (A:Sto):List DV:=A.cs.map dvC
theorem dl_rise {A:Sto} (h:RiseK kC A.cs):RiseK DV.key (dlA A):=by
 unfold dlA RiseK
 rw [List.pairwise_map]
 refine List.Pairwise.imp (fun {a b} hab=>?_) h
 rw [dvC_key,dvC_key,← cP_less (dOfB_ok a) (dOfB_ok b)]
 exact hab
theorem dl_mem {A:Sto} {x:DV}:x ∈ dlA A ↔ ∃ b ∈ A.cs,x.1 = dOfB b:=by
 unfold dlA
 rw [List.mem_map]
 constructor
 ·rintro ⟨b,hb,rfl⟩
  exact ⟨b,hb,dvC_val b⟩
 ·rintro ⟨b,hb,h⟩
  exact ⟨b,hb,Subtype.ext ((dvC_val b).trans h.symm)⟩
def taggedC (A:Sto):List ByteArray:=A.cs.filter fun b=>tagd (dOfB b) A.tg
theorem fA_prune {A:Sto} (h:RiseK kC A.cs):delsF (unT A.tg (dlA A)) (fA A) = fA ⟨taggedC A,A.tg⟩:=by
 have hr2:RiseK kC (taggedC A):=List.Pairwise.sublist List.filter_sublist h
 refine riseK_same (delsF_rise _ (fA_rise h)) (fA_rise (A:=⟨taggedC A,A.tg⟩) hr2) (fun x=>?_)
 rw [delsF_mem]
 unfold fA
 rw [List.mem_append,List.mem_append,List.mem_map,List.mem_map]
 have key:∀ b,(∀ d ∈ unT A.tg (dlA A),kC b ≠ cPath d.1) ∧ b ∈ A.cs ↔ b ∈ taggedC A:=by
  intro b
  unfold taggedC
  rw [List.mem_filter]
  constructor
  ·rintro ⟨h1,h2⟩
   refine ⟨h2,?_⟩
   cases ht:tagd (dOfB b) A.tg with
   | true=>rfl
   | false =>
    refine absurd (by unfold kC;rw [dvC_val]) (h1 (dvC b) ?_)
    unfold unT
    rw [List.mem_filter]
    refine ⟨dl_mem.2 ⟨b,h2,dvC_val b⟩,?_⟩
    rw [dvC_val,ht]
    rfl
  ·rintro ⟨h1,h2⟩
   refine ⟨fun d hd e=>?_,h1⟩
   unfold unT at hd
   rw [List.mem_filter] at hd
   have:dOfB b = d.1:=cP_inj (dOfB_ok b) d.2 e
   rw [← this,h2] at hd
   simp at hd
 have htail:∀ x ∈ tailF A.tg,∀ d:DV,x.p ≠ cPath d.1:=fun x hx d=>by
  rcases tail_mem hx with rfl | rfl | rfl
  ·exact Ne.symm (less_ne (cP_index _))
  ·exact Ne.symm (less_ne (cP_journal _))
  ·exact Ne.symm (less_ne (cP_layout _))
 constructor
 ·rintro ⟨⟨b,hb,rfl⟩ | hx,h2⟩
  ·exact .inl ⟨b,(key b).1 ⟨h2,hb⟩,rfl⟩
  ·exact .inr hx
 ·rintro (⟨b,hb,rfl⟩ | hx)
  ·have h3:=(key b).2 hb
   exact ⟨.inl ⟨b,h3.2,rfl⟩,h3.1⟩
  ·exact ⟨.inr hx,fun d _=>htail x hx d⟩
theorem rd_wh {D:DS} {F:List FF} {r:Int} {B:Nat} (h:Wh D F r B) {p:ByteArray} (hp:isPathB p = true):rdD D p = (findK FF.p p F).map FF.t:=by
 unfold rdD
 rw [if_neg (by rw [hp];decide),h.look p]
 cases findE p D.R.now with
 | none=>rfl
 | some g=>rfl
theorem rd_con {D:DS} {A:Sto} {r:Int} {B:Nat} (h:Wh D (fA A) r B) (d:List Nat):rdD D (cPath d) = findK kC (cPath d) A.cs:=by
 rw [rd_wh h (cP_path d),find_content]
 cases findK kC (cPath d) A.cs with
 | none=>rfl
 | some b=>rfl
theorem con_con {D:DS} {A:Sto} {r:Int} {B:Nat} (h:Wh D (fA A) r B) {d:List Nat} (hd:DigOk d):conR D d = findK kC (cPath d) A.cs:=by
 unfold conR
 rw [rd_con h]
 cases hf:findK kC (cPath d) A.cs with
 | none=>rfl
 | some b =>
  have h1:kC b = cPath d:=(findK_some hf).2
  have h2:dOfB b = d:=cP_inj (dOfB_ok b) hd h1
  simp only [Option.filter]
  rw [if_pos]
  simp only [decide_eq_true_eq]
  exact h2
theorem find_kC_some {l:List ByteArray} {b c:ByteArray} (h:findK kC (kC b) l = some c):c ∈ l ∧ dOfB c = dOfB b:=⟨(findK_some h).1,kC_inj (findK_some h).2⟩
theorem szA_eq (A:Sto):szA A = (A.cs.map ByteArray.size).sum + (idxX A.tg).size + 13:=by
 unfold szA sumF fA
 rw [List.map_append,List.sum_append,List.map_map]
 have h1:((fun x:FF=>x.t.size) ∘ fC) = ByteArray.size:=rfl
 rw [h1]
 have h2:((tailF A.tg).map fun x=>x.t.size).sum = (idxX A.tg).size + 13:=by
  show (idxX A.tg).size + ((⟨#[]⟩ : ByteArray).size + (layoutT.size + 0)) = _
  have h3:(⟨#[]⟩ : ByteArray).size = 0:=rfl
  have h4:layoutT.size = 13:=rfl
  omega
 rw [h2]
 omega
def tgNeed (l l':List TE):Nat:=if l' = l then 0 else (idxX l').size
def nbF:Option ByteArray → List (ByteArray × ByteArray)
 | none=>[]
 | some b=>[(kC b,b)]
def nbC (cs:List ByteArray):Option ByteArray → List ByteArray
 | none=>cs
 | some b=>insK kC b cs
def nbN:Option ByteArray → Nat
 | none=>0
 | some b=>b.size
theorem sum_ins {cs:List ByteArray} (h:RiseK kC cs) {b:ByteArray} (hb:findK kC (kC b) cs = none):((insK kC b cs).map ByteArray.size).sum = (cs.map ByteArray.size).sum + b.size:=by
 rw [sumK_ins ByteArray.size b h,delK_all (findK_none hb)]
 omega
theorem szA_next {A:Sto} (h:RiseK kC A.cs) (nb:Option ByteArray) (hnb:∀ b,nb = some b → findK kC (kC b) A.cs = none) (l':List TE):szA ⟨nbC A.cs nb,l'⟩ ≤ szA A + (nbN nb + tgNeed A.tg l'):=by
 rw [szA_eq,szA_eq]
 have h1:((nbC A.cs nb).map ByteArray.size).sum = (A.cs.map ByteArray.size).sum + nbN nb:=by
  cases nb with
  | none=>rfl
  | some b=>exact sum_ins h (hnb b rfl)
 dsimp only
 rw [h1]
 unfold tgNeed
 by_cases hl:l' = A.tg
 ·rw [if_pos hl,hl]
  omega
 ·rw [if_neg hl]
  omega
theorem index_path:isPathB indexP = true:=by decide
theorem chg_rest {D D':DS} {A:Sto} {r k:Int} (h:Rst D (fA A) r 2000) (g:GoodA A) (hs:(szA A:Int) ≤ r) (nb:Option ByteArray) (hnb:∀ b,nb = some b → findK kC (kC b) A.cs = none ∧ b.size ≤ 300) (l':List TE) (hok:∀ t ∈ l',t.Ok) (h8:l'.length ≤ 8) (hw:WrZ D (chF (nbF nb) A.tg l') k D') :
  ((szA A:Int) + ((nbN nb + tgNeed A.tg l':Nat):Int) ≤ r ∧ k = 0 ∧ Rst D' (fA ⟨nbC A.cs nb,l'⟩) r 2000) ∨ (r < (szA A:Int) + ((nbN nb + tgNeed A.tg l':Nat):Int) ∧ k = 4 ∧ Rst D' (fA A) r 2000):=by
 have hX:=idxX_size hok h8
 have e1:∀ b,isPathB (kC b) = true:=fun b=>cP_path _
 have n0:p0 ≠ indexP:=by decide
 have n1:p1 ≠ indexP:=by decide
 unfold chF at hw
 unfold tgNeed
 have hrs:r < (szA A:Int) → False:=fun h=>by omega
 cases nb with
 | none =>
  by_cases hl:l' = A.tg
  ·rw [if_pos hl] at hw ⊢
   rcases wrz_rest (fl:=[]) h (find_p0 A) (find_p1 A) (by simp) (fun f hf=>by cases hf) hw with ⟨x1,x2,_⟩ | ⟨x1,_⟩
   ·left
    subst hl
    exact ⟨by show (szA A:Int) + ((0 + 0:Nat):Int) ≤ r;omega,x1,x2⟩
   ·exact absurd rfl x1
  ·rw [if_neg hl] at hw ⊢
   rcases wrz_rest (fl:=[(indexP,idxX l')]) h (find_p0 A) (find_p1 A) (by simp) (fun f hf=>by
    simp only [List.mem_singleton] at hf
    subst hf
    exact ⟨index_path,n0,n1,hX⟩) hw with ⟨x1,x2,x3⟩ | ⟨_,x1,x2,x3⟩
   ·left
    have x4:=x3 (by simp)
    have e:totF [(indexP,idxX l')] = (idxX l').size:=by simp [totF]
    rw [e] at x4
    have e2:putF [(indexP,idxX l')] (fA A) = fA ⟨A.cs,l'⟩:=fA_tags g.rise l'
    rw [e2] at x2
    exact ⟨by show (szA A:Int) + ((0 + (idxX l').size:Nat):Int) ≤ r;unfold szA;omega,x1,x2⟩
   ·right
    have e:totF [(indexP,idxX l')] = (idxX l').size:=by simp [totF]
    rw [e] at x1
    exact ⟨by show r < (szA A:Int) + ((0 + (idxX l').size:Nat):Int);unfold szA;omega,x2,x3⟩
 | some b =>
  obtain ⟨hb0,hb3⟩:=hnb b rfl
  by_cases hl:l' = A.tg
  ·rw [if_pos hl] at hw ⊢
   rcases wrz_rest (fl:=[(kC b,b)]) h (find_p0 A) (find_p1 A) (by simp) (fun f hf=>by
    simp only [List.mem_singleton] at hf
    subst hf
    exact ⟨e1 b,kC_p0 b,kC_p1 b,by show b.size ≤ 2000;omega⟩) hw with ⟨x1,x2,x3⟩ | ⟨_,x1,x2,x3⟩
   ·left
    have x4:=x3 (by simp)
    have e:totF [(kC b,b)] = b.size:=by simp [totF]
    rw [e] at x4
    have e2:putF [(kC b,b)] (fA A) = fA ⟨insK kC b A.cs,A.tg⟩:=fA_ins g.rise b
    rw [e2] at x2
    rw [hl]
    exact ⟨by show (szA A:Int) + ((b.size + 0:Nat):Int) ≤ r;unfold szA;omega,x1,x2⟩
   ·right
    have e:totF [(kC b,b)] = b.size:=by simp [totF]
    rw [e] at x1
    exact ⟨by show r < (szA A:Int) + ((b.size + 0:Nat):Int);unfold szA;omega,x2,x3⟩
  ·rw [if_neg hl] at hw ⊢
   rcases wrz_rest (fl:=[(kC b,b),(indexP,idxX l')]) h (find_p0 A) (find_p1 A) (by simp) (fun f hf=>by
    simp only [List.mem_cons,List.not_mem_nil,or_false] at hf
    rcases hf with rfl | rfl
    ·exact ⟨e1 b,kC_p0 b,kC_p1 b,by show b.size ≤ 2000;omega⟩
    ·exact ⟨index_path,n0,n1,hX⟩) hw with ⟨x1,x2,x3⟩ | ⟨_,x1,x2,x3⟩
   ·left
    have x4:=x3 (by simp)
    have e:totF [(kC b,b),(indexP,idxX l')] = b.size + (idxX l').size:=by simp [totF]
    rw [e] at x4
    have e2:putF [(kC b,b),(indexP,idxX l')] (fA A) = fA ⟨insK kC b A.cs,l'⟩:=by
     show insK FF.p (ff indexP (idxX l')) (insK FF.p (fC b) (fA A)) = _
     rw [fA_ins g.rise b]
     exact fA_tags (A:=⟨insK kC b A.cs,A.tg⟩) (riseK_ins b g.rise) l'
    rw [e2] at x2
    exact ⟨by show (szA A:Int) + ((b.size + (idxX l').size:Nat):Int) ≤ r;unfold szA;omega,x1,x2⟩
   ·right
    have e:totF [(kC b,b),(indexP,idxX l')] = b.size + (idxX l').size:=by simp [totF]
    rw [e] at x1
    exact ⟨by show r < (szA A:Int) + ((b.size + (idxX l').size:Nat):Int);unfold szA;omega,x2,x3⟩
theorem szT_same {ds:List Nat} {z:Int}:∀ {l:List TE},(∀ t ∈ l,t.d = ds → t.z = z) → szT ds z l = l
 | [],_=>rfl
 | t :: l,h=>by
  show szE ds z t :: szT ds z l = _
  rw [szT_same (fun x hx=>h x (by simp [hx]))]
  congr 1
  unfold szE
  by_cases hd:t.d = ds
  ·rw [if_pos hd,← h t (by simp) hd]
  ·rw [if_neg hd]
theorem szT_ins {ds:List Nat} {z:Int} {n:ByteArray}:∀ {l:List TE},(∀ t ∈ l,t.d = ds → t.z = z) → szT ds z (insK TE.n ⟨n,ds,0⟩ l) = insK TE.n ⟨n,ds,z⟩ l
 | [],_=>by simp [insK,szT,szE]
 | t :: l,h=>by
  have hl:=szT_same (l:=l) (fun x hx=>h x (by simp [hx]))
  have ht:=szT_same (l:=t :: l) h
  have h1:szE ds z ⟨n,ds,0⟩ = ⟨n,ds,z⟩:=by simp [szE]
  unfold insK
  by_cases he:t.n = n
  ·rw [if_pos (show TE.n t = TE.n ⟨n,ds,0⟩ from he),if_pos (show TE.n t = TE.n ⟨n,ds,z⟩ from he)]
   show szE ds z ⟨n,ds,0⟩ :: szT ds z l = _
   rw [h1,hl]
  ·rw [if_neg (show ¬ TE.n t = TE.n ⟨n,ds,0⟩ from he),if_neg (show ¬ TE.n t = TE.n ⟨n,ds,z⟩ from he)]
   by_cases hb:lessB n t.n = true
   ·rw [if_pos (show lessB (TE.n ⟨n,ds,0⟩) (TE.n t) = true from hb),if_pos (show lessB (TE.n ⟨n,ds,z⟩) (TE.n t) = true from hb)]
    show szE ds z ⟨n,ds,0⟩ :: szT ds z (t :: l) = _
    rw [h1,ht]
   ·rw [if_neg (show ¬ lessB (TE.n ⟨n,ds,0⟩) (TE.n t) = true from hb),if_neg (show ¬ lessB (TE.n ⟨n,ds,z⟩) (TE.n t) = true from hb)]
    show szE ds z t :: szT ds z (insK TE.n ⟨n,ds,0⟩ l) = _
    rw [szT_ins (fun x hx=>h x (by simp [hx]))]
    congr 1
    unfold szE
    by_cases hd:t.d = ds
    ·rw [if_pos hd,← h t (by simp) hd]
    ·rw [if_neg hd]
theorem GoodA.told {A:Sto} (g:GoodA A) {b c:ByteArray} (hc:findK kC (kC b) A.cs = some c):∀ t ∈ A.tg,t.d = dOfB b → t.z = (c.size:Int):=fun t ht hd=>by
 obtain ⟨x,hx,h1,h2⟩:=g.tin t ht
 obtain ⟨h3,h4⟩:=find_kC_some hc
 have:x = c:=riseK_inj g.rise hx h3 (by unfold kC;rw [← h1,hd,h4])
 rw [h2,this]
theorem GoodA.untold {A:Sto} (g:GoodA A) {b:ByteArray} (hc:findK kC (kC b) A.cs = none) {z:Int}:∀ t ∈ A.tg,t.d = dOfB b → t.z = z:=fun t ht hd=>by
 obtain ⟨x,hx,h1,_⟩:=g.tin t ht
 exact absurd (show kC x = kC b by unfold kC;rw [← h1,hd]) (findK_none hc x hx)
theorem GoodA.ins {A:Sto} (g:GoodA A) {b:ByteArray} (hb:b.size ≤ 300) (hc:findK kC (kC b) A.cs = none):GoodA ⟨insK kC b A.cs,A.tg⟩:=by
 have hm:∀ x,x ∈ insK kC b A.cs ↔ x = b ∨ x ∈ A.cs:=fun x=>insK_mem_iff (fun a ha e=>absurd e (findK_none hc a ha)) g.rise
 refine ⟨riseK_ins b g.rise,fun x hx=>?_,g.tr,g.tok,g.t8,fun t ht=>?_,g.ttag⟩
 ·rcases (hm x).1 hx with rfl | hx
  ·exact hb
  ·exact g.sz x hx
 ·obtain ⟨x,hx,h1,h2⟩:=g.tin t ht
  exact ⟨x,(hm x).2 (.inr hx),h1,h2⟩
theorem te_ok {n:ByteArray} {d:List Nat} {z:Int} (h1:n.size ≤ 20) (h2:d.length = 32) (h3:∀ i,d.getD i 0 < 256) (h4:0 ≤ z) (h5:z ≤ 300):TE.Ok ⟨n,d,z⟩:=⟨h1,h2,h3,h4,h5⟩
theorem te_d (n:ByteArray) (d:List Nat) (z:Int):(⟨n,d,z⟩ : TE).d = d:=rfl
theorem te_z (n:ByteArray) (d:List Nat) (z:Int):(⟨n,d,z⟩ : TE).z = z:=rfl
theorem GoodA.tag {A:Sto} (g:GoodA A) {n b:ByteArray} (hb:b ∈ A.cs) (hn:n.size ≤ 20) (htag:isTagB n = true) (h8:(insK TE.n ⟨n,dOfB b,(b.size:Int)⟩ A.tg).length ≤ 8):GoodA ⟨A.cs,insK TE.n ⟨n,dOfB b,(b.size:Int)⟩ A.tg⟩:=by
 have hs:=g.sz b hb
 refine ⟨g.rise,g.sz,riseK_ins _ g.tr,fun t ht=>?_,h8,fun t ht=>?_,fun t ht=>?_⟩
 ·rcases insK_mem ht with rfl | ht
  ·exact te_ok hn (dOfB_len b) (dOfB_lt b) (by omega) (by omega)
  ·exact g.tok t ht
 ·rcases insK_mem ht with rfl | ht
  ·exact ⟨b,hb,te_d _ _ _,te_z _ _ _⟩
  ·exact g.tin t ht
 ·rcases insK_mem ht with rfl | ht
  ·exact htag
  ·exact g.ttag t ht
theorem GoodA.untag {A:Sto} (g:GoodA A) (n:ByteArray):GoodA ⟨A.cs,delK TE.n n A.tg⟩ :=
 ⟨g.rise,g.sz,riseK_del _ g.tr,fun t ht=>g.tok t (delK_mem.1 ht).1,Nat.le_trans (delK_len _ _) g.t8,fun t ht=>g.tin t (delK_mem.1 ht).1,fun t ht=>g.ttag t (delK_mem.1 ht).1⟩
theorem tagd_false {d:List Nat} {l:List TE} (h:tagd d l = false):∀ t ∈ l,t.d ≠ d:=fun t ht e=>by
 unfold tagd at h
 have:=List.any_eq_false.1 h t ht
 simp [e] at this
theorem tagd_mem {d:List Nat} {l:List TE} {t:TE} (ht:t ∈ l) (e:t.d = d):tagd d l = true:=List.any_eq_true.2 ⟨t,ht,by simp [e]⟩
theorem GoodA.del {A:Sto} (g:GoodA A) {b:ByteArray} (hu:tagd (dOfB b) A.tg = false):GoodA ⟨delK kC (kC b) A.cs,A.tg⟩:=by
 refine ⟨riseK_del _ g.rise,fun x hx=>g.sz x (delK_mem.1 hx).1,g.tr,g.tok,g.t8,fun t ht=>?_,g.ttag⟩
 obtain ⟨x,hx,h1,h2⟩:=g.tin t ht
 exact ⟨x,delK_mem.2 ⟨hx,fun e=>tagd_false hu t ht (h1.trans (kC_inj e))⟩,h1,h2⟩
theorem GoodA.prune {A:Sto} (g:GoodA A):GoodA ⟨taggedC A,A.tg⟩:=by
 refine ⟨List.Pairwise.sublist List.filter_sublist g.rise,fun x hx=>g.sz x (List.mem_filter.1 hx).1,g.tr,g.tok,g.t8,fun t ht=>?_,g.ttag⟩
 obtain ⟨x,hx,h1,h2⟩:=g.tin t ht
 exact ⟨x,List.mem_filter.2 ⟨hx,tagd_mem ht h1⟩,h1,h2⟩
theorem sum_filter_le (p:ByteArray → Bool):∀ l:List ByteArray,((l.filter p).map ByteArray.size).sum ≤ (l.map ByteArray.size).sum
 | []=>Nat.le_refl _
 | x :: l=>by
  have:=sum_filter_le p l
  rw [List.filter_cons]
  split
  ·simp only [List.map_cons,List.sum_cons];omega
  ·simp only [List.map_cons,List.sum_cons];omega
theorem szA_del (A:Sto) (b:ByteArray):szA ⟨delK kC (kC b) A.cs,A.tg⟩ ≤ szA A:=by
 rw [szA_eq,szA_eq]
 have:=sum_filter_le (fun e=>!decide (kC e = kC b)) A.cs
 show ((A.cs.filter fun e=>!decide (kC e = kC b)).map ByteArray.size).sum + _ + _ ≤ _
 dsimp only
 omega
theorem szA_prune (A:Sto):szA ⟨taggedC A,A.tg⟩ ≤ szA A:=by
 rw [szA_eq,szA_eq]
 have:=sum_filter_le (fun b=>tagd (dOfB b) A.tg) A.cs
 show ((A.cs.filter fun b=>tagd (dOfB b) A.tg).map ByteArray.size).sum + _ + _ ≤ _
 dsimp only
 omega
structure SA (w:World) (db xb sb cb:Nat) (s:PSt) (tb:Nat) (cl:List (List Nat)) (A:Sto) (r:Int) (n cu:Nat):Prop where
 st:BSt w xb sb
 hG:¬ isG xb
 sw:StW w sb s cb tb cl.length A.tg.length (cD cl) (tD A.tg)
 bd:BD w db s.b
 ok:∀ d ∈ cl,DigOk d
 mem:∀ d,d ∈ cl ↔ ∃ b ∈ A.cs,d = dOfB b
 len:A.cs.length ≤ n
 rst:Rst s.ds (fA A) r 2000
 c0:0 ≤ s.ds.R.count
 c1:s.ds.R.count ≤ (cu:Int)
 good:GoodA A
 use:(szA A:Int) ≤ r
 r0:0 ≤ r
 r1:r ≤ 9223372036854775807
theorem fA_len (A:Sto):(fA A).length = A.cs.length + 3:=by simp [fA,tailF]
theorem SA.fit {w:World} {db xb sb cb:Nat} {s:PSt} {tb:Nat} {cl:List (List Nat)} {A:Sto} {r:Int} {n cu:Nat} (h:SA w db xb sb cb s tb cl A r n cu):DFit s.ds (n + 3) cu 2000 :=
 (h.rst.fit h.c0 h.c1 h.r0 h.r1).mono (by rw [fA_len];have:=h.len;omega) (Nat.le_refl _) (Nat.le_refl _)
theorem sa_bud {n cu:Nat} (hn:n ≤ 300000) (hc:cu ≤ 90000000000):Bud (n + 3 + 100) (cu + 100) (2000 + 40000):=⟨by omega,by omega,by omega⟩
theorem SA.clen {w:World} {db xb sb cb:Nat} {s:PSt} {tb:Nat} {cl:List (List Nat)} {A:Sto} {r:Int} {n cu:Nat} (h:SA w db xb sb cb s tb cl A r n cu):cl.length ≤ n:=by
 have h1:cl.length ≤ (A.cs.map dOfB).length:=nodup_len (riseK_nodup (mD_rise h.sw.cm dig_keyed)) (fun x hx=>by
  obtain ⟨b,hb,e⟩:=(h.mem x).1 hx
  exact List.mem_map.2 ⟨b,hb,e.symm⟩)
 rw [List.length_map] at h1
 exact Nat.le_trans h1 h.len
theorem SA.has {w:World} {db xb sb cb:Nat} {s:PSt} {tb:Nat} {cl:List (List Nat)} {A:Sto} {r:Int} {n cu:Nat} (h:SA w db xb sb cb s tb cl A r n cu) (b:ByteArray):Maps.has (cD cl) (dKey (dOfB b)) = (findK kC (kC b) A.cs).isSome:=by
 rw [cD_has h.ok (dOfB_ok b)]
 cases hf:findK kC (kC b) A.cs with
 | none =>
  refine decide_eq_false (fun hm=>?_)
  obtain ⟨c,hc,e⟩:=(h.mem _).1 hm
  exact findK_none hf c hc (by unfold kC;rw [e])
 | some c =>
  obtain ⟨h1,h2⟩:=find_kC_some hf
  exact decide_eq_true ((h.mem _).2 ⟨c,h1,h2.symm⟩)
theorem SA.notOwn {w:World} {db xb sb cb:Nat} {s:PSt} {tb:Nat} {cl:List (List Nat)} {A:Sto} {r:Int} {n cu:Nat} (h:SA w db xb sb cb s tb cl A r n cu) {k:Nat} {cur:Array Value} {T:TypeId} {fr:Nat × Nat} (hk:w.heap[k]? = some (.cells cur T fr)) (h1:T ≠ 150) (h2:T ≠ 214) (h3:T ≠ 154) (h4:T ≠ 5) (h5:T ≠ 108) (h6:T ≠ 159):¬ (s.own k ∨ sS xb sb cb k):=by
 rintro (e | e | e | e)
 ·exact h.sw.inn.notOwn hk h1 h2 h3 h4 e
 ·subst e
  have h7:=h.st
  unfold BSt at h7
  rw [hk] at h7
  injection h7 with h7
  injection h7 with _ h7
  exact h5 h7
 ·subst e
  have h7:=h.sw.blk
  rw [hk] at h7
  injection h7 with h7
  injection h7 with _ h7
  exact h6 h7
 ·subst e
  obtain ⟨es,clock,h7,_⟩:=h.sw.cm
  rw [hk] at h7
  cases h7
theorem SA.bdGo {w w':World} {db xb sb cb:Nat} {s s':PSt} {tb:Nat} {cl:List (List Nat)} {A:Sto} {r:Int} {n cu:Nat} (h:SA w db xb sb cb s tb cl A r n cu) (hg:SGo (sS xb sb cb) s s' w w'):BD w' db s'.b:=by
 rw [hg.b]
 exact (hg.gr.block db (lt_heap h.bd) (h.notOwn h.bd (by decide) (by decide) (by decide) (by decide) (by decide) (by decide))).trans h.bd
def fpr (s:PSt) (xb sb cb tb:Nat) (k:Nat):Prop:=s.own k ∨ sS xb sb cb k ∨ k = tb
theorem StW.tight {w:World} {sb:Nat} {s:PSt} {cb tb nc nt:Nat} {cl:List (List Nat)} {Dt:DataW Value} (h:StW w sb s cb tb nc nt (cD cl) Dt):StW w sb s cb tb cl.length nt (cD cl) Dt :=
 ⟨h.inn,h.gl,h.low,h.blk,mD_tight h.cm,h.tm,h.ncb,h.ntb,h.gcb,h.gtb,h.gsb,h.ne⟩
def SaN (w w':World) (db xb sb cb:Nat) (s:PSt) (tb:Nat) (A':Sto) (r:Int) (n cu:Nat):Prop:=∃ s' tb' cl',SGo (sS xb sb cb) s s' w w' ∧ (tb' = tb ∨ w.heap.size ≤ tb') ∧ SA w' db xb sb cb s' tb' cl' A' r n cu
theorem SA.mono {w:World} {db xb sb cb:Nat} {s:PSt} {tb:Nat} {cl:List (List Nat)} {A:Sto} {r:Int} {n cu m cv:Nat} (h:SA w db xb sb cb s tb cl A r n cu) (hm:n ≤ m) (hc:cu ≤ cv):SA w db xb sb cb s tb cl A r m cv :=
 ⟨h.st,h.hG,h.sw,h.bd,h.ok,h.mem,Nat.le_trans h.len hm,h.rst,h.c0,by have:=h.c1;omega,h.good,h.use,h.r0,h.r1⟩
theorem SA.same {w w':World} {db xb sb cb:Nat} {s:PSt} {tb:Nat} {cl:List (List Nat)} {A:Sto} {r:Int} {n cu:Nat} (h:SA w db xb sb cb s tb cl A r n cu) (hg:SGo (sS xb sb cb) s s w w') (hx:BSt w' xb sb) (hst:StW w' sb s cb tb cl.length A.tg.length (cD cl) (tD A.tg)):SA w' db xb sb cb s tb cl A r n cu :=
 ⟨hx,h.hG,hst,h.bdGo hg,h.ok,h.mem,h.len,h.rst,h.c0,h.c1,h.good,h.use,h.r0,h.r1⟩
theorem SA.still {w w':World} {db xb sb cb:Nat} {s:PSt} {tb:Nat} {cl:List (List Nat)} {A:Sto} {r:Int} {n cu:Nat} (h:SA w db xb sb cb s tb cl A r n cu) (hg:SGo (sS xb sb cb) s s w w') (hx:BSt w' xb sb) (hst:StW w' sb s cb tb cl.length A.tg.length (cD cl) (tD A.tg)):SaN w w' db xb sb cb s tb A r (n + 1) (cu + n + 20) :=
 ⟨s,tb,cl,hg,.inl rfl,(h.same hg hx hst).mono (Nat.le_succ n) (by omega)⟩
theorem biS_two (fl:List (ByteArray × ByteArray)) (h:fl.length ≤ 2):(wrS fl).length ≤ 8:=by rw [wrS_len,biS_len];omega
theorem tbS_two (n:Nat) (h:n ≤ 2):(tbS n).length ≤ 3:=by
 unfold tbS
 split
 ·decide
 ·rw [List.length_append]
  simp [tbL]
  omega
theorem wrz_count {D D':DS} {L C B:Nat} {fl:List (ByteArray × ByteArray)} {k:Int} (hf:DFit D L C B) (h2:fl.length ≤ 2) (hw:WrZ D fl k D'):0 ≤ D'.R.count ∧ D'.R.count ≤ ((C + 20:Nat):Int):=by
 unfold WrZ at hw
 by_cases he:fl = []
 ·rw [if_pos he] at hw
  obtain ⟨_,rfl⟩:=hw
  have:=hf.c1
  exact ⟨hf.c0,by omega⟩
 ·rw [if_neg he] at hw
  obtain ⟨m,D1,hr,h3⟩:=hw
  have f1:=hf.ran hr
  have h8:=biS_two fl h2
  rcases h3 with ⟨_,rfl⟩ | ⟨_,h3⟩
  ·have:=f1.c1
   exact ⟨f1.c0,by omega⟩
  ·have f2:=f1.ranI h3
   have h9:=tbS_two (min m fl.length) (by omega)
   have:=f2.c1
   exact ⟨f2.c0,by omega⟩
structure Pl where
 need:Nat
 txt:ByteArray
 err:Int
 nx:Sto
def Pl.run (r:Int) (A:Sto) (p:Pl):ByteArray × Int × Sto:=if (szA A:Int) + (p.need:Int) ≤ r then (p.txt,p.err,p.nx) else (⟨#[]⟩,4,A)
theorem Pl.run_yes {r:Int} {A:Sto} {p:Pl} (h:(szA A:Int) + (p.need:Int) ≤ r):p.run r A = (p.txt,p.err,p.nx):=if_pos h
theorem Pl.run_no {r:Int} {A:Sto} {p:Pl} (h:r < (szA A:Int) + (p.need:Int)):p.run r A = (⟨#[]⟩,4,A):=if_neg (by omega)
def hxB (b:ByteArray):ByteArray:=dtx (dOfB b)
def mayB (A:Sto) (n:ByteArray):Bool:=(findK TE.n n A.tg).isSome || decide (A.tg.length < 8)
def conC (A:Sto) (b:ByteArray):Option ByteArray:=findK kC (kC b) A.cs
def newC (A:Sto) (b:ByteArray):Option ByteArray:=match conC A b with | some _=>none | none=>some b
def tgNew (A:Sto) (n b:ByteArray):List TE:=insK TE.n ⟨n,dOfB b,(((conC A b).getD b).size:Int)⟩ A.tg
def putPl (A:Sto) (b:ByteArray):Pl:=⟨nbN (newC A b) + tgNeed A.tg A.tg,hxB b,0,⟨nbC A.cs (newC A b),A.tg⟩⟩
def pubPl (A:Sto) (n b:ByteArray):Pl:=if mayB A n then ⟨nbN (newC A b) + tgNeed A.tg (tgNew A n b),hxB b,0,⟨nbC A.cs (newC A b),tgNew A n b⟩⟩ else ⟨0,⟨#[]⟩,12,A⟩
def tagPl (A:Sto) (n b:ByteArray):Pl:=if (conC A b).isSome then (if mayB A n then ⟨nbN none + tgNeed A.tg (tgNew A n b),⟨#[]⟩,0,⟨A.cs,tgNew A n b⟩⟩ else ⟨0,⟨#[]⟩,12,A⟩) else ⟨0,⟨#[]⟩,10,A⟩
def untPl (A:Sto) (n:ByteArray):Pl:=if (findK TE.n n A.tg).isSome then ⟨nbN none + tgNeed A.tg (delK TE.n n A.tg),⟨#[]⟩,0,⟨A.cs,delK TE.n n A.tg⟩⟩ else ⟨0,⟨#[]⟩,10,A⟩
def delPl (A:Sto) (b:ByteArray):Pl:=if (conC A b).isSome then (if tagd (dOfB b) A.tg then ⟨0,⟨#[]⟩,11,A⟩ else ⟨0,⟨#[]⟩,0,⟨delK kC (kC b) A.cs,A.tg⟩⟩) else ⟨0,⟨#[]⟩,10,A⟩
def untN (A:Sto):Nat:=(unT A.tg (dlA A)).length
def pruPl (A:Sto):Pl:=⟨0,⟨(Lib.itoa (untN A:Int)).toArray⟩,0,⟨taggedC A,A.tg⟩⟩
theorem newC_ok {A:Sto} {b:ByteArray} (hb:b.size ≤ 300):∀ x,newC A b = some x → findK kC (kC x) A.cs = none ∧ x.size ≤ 300:=fun x hx=>by
 unfold newC conC at hx
 cases hf:findK kC (kC b) A.cs with
 | some c=>rw [hf] at hx;cases hx
 | none =>
  rw [hf] at hx
  injection hx with hx
  subst hx
  exact ⟨hf,hb⟩
theorem newC_none {A:Sto} {b y:ByteArray} (hn:newC A b = some y):y = b ∧ findK kC (kC b) A.cs = none:=by
 unfold newC conC at hn
 cases hf:findK kC (kC b) A.cs with
 | some c=>rw [hf] at hn;cases hn
 | none =>
  rw [hf] at hn
  injection hn with hn
  exact ⟨hn.symm,rfl⟩
theorem GoodA.new {A:Sto} (g:GoodA A) {b:ByteArray} (hb:b.size ≤ 300):GoodA ⟨nbC A.cs (newC A b),A.tg⟩:=by
 cases hn:newC A b with
 | none=>exact g
 | some x=>exact g.ins (newC_ok hb x hn).2 (newC_ok hb x hn).1
theorem con_in {A:Sto} (g:GoodA A) (b:ByteArray):((conC A b).getD b) ∈ nbC A.cs (newC A b) ∧ dOfB ((conC A b).getD b) = dOfB b:=by
 unfold newC
 cases hf:conC A b with
 | some c =>
  obtain ⟨h1,h2⟩:=find_kC_some hf
  exact ⟨h1,h2⟩
 | none =>
  refine ⟨?_,rfl⟩
  exact (insK_mem_iff (fun a ha e=>absurd e (findK_none hf a ha)) g.rise).2 (.inl rfl)
theorem tgNew_len {A:Sto} (g:GoodA A) {n:ByteArray} {d:List Nat} {z:Int} (h:mayB A n = true):(insK TE.n ⟨n,d,z⟩ A.tg).length ≤ 8:=by
 unfold mayB at h
 cases hf:findK TE.n n A.tg with
 | some t =>
  obtain ⟨h1,h2⟩:=findK_some hf
  rw [insK_len_old (t:=⟨n,d,z⟩) g.tr ⟨t,h1,h2⟩]
  exact g.t8
 | none =>
  rw [hf] at h
  simp at h
  have:=insK_len (key:=TE.n) ⟨n,d,z⟩ A.tg
  omega
theorem GoodA.pub {A:Sto} (g:GoodA A) {n b:ByteArray} (hb:b.size ≤ 300) (hn:n.size ≤ 20) (htag:isTagB n = true) (h:mayB A n = true):GoodA ⟨nbC A.cs (newC A b),tgNew A n b⟩:=by
 obtain ⟨h1,h2⟩:=con_in g b
 have h3:=(g.new hb).tag (n:=n) h1 hn htag (tgNew_len g h)
 unfold tgNew
 rw [← h2]
 exact h3
theorem GoodA.told2 {A:Sto} (g:GoodA A) (b:ByteArray):∀ t ∈ A.tg,t.d = dOfB b → t.z = (((conC A b).getD b).size:Int):=by
 cases hf:conC A b with
 | some c=>exact g.told hf
 | none=>exact g.untold hf
theorem cPath_app (d:List Nat):cPath d = blobsP ++ dtx d:=by
 unfold cPath dtx
 rw [show blobsP = ⟨blobsL.toArray⟩ from rfl,ba_app]
def hF (F:List FF):ByteArray:=F.foldl (fun out x=>out ++ x.p ++ ⟨#[32]⟩ ++ ⟨(Lib.itoa (x.t.size:Int)).toArray⟩ ++ ⟨#[32]⟩ ++ x.t ++ ⟨#[59]⟩) ⟨#[]⟩
section
variable {w:World} {db xb sb cb:Nat} {s:PSt} {tb:Nat} {cl:List (List Nat)} {A:Sto} {r:Int} {n cu:Nat}
end
end Go.Proofs.YtncigfibncmioaaGreatDoor
