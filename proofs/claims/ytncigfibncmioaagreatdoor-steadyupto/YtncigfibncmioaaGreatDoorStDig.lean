/-
  PROVED HERE: a store's two maps: what they hold, value for value; the store whole on its disk; no walk.
-/
import Derived.Maps.Ext
import Derived.Maps.RangeWalk
import Derived.DeepKeys4
import Derived.Test.YtncigfibncmioaaGreatDoorStGoOn
import Derived.Test.YtncigfibncmioaaGreatDoorStRun
import Derived.Test.YtncigfibncmioaaGreatDoorIdxRd
import Derived.Test.YtncigfibncmioaaGreatDoorBuilt
import Derived.ChangeKeysEq
namespace Go.Proofs.YtncigfibncmioaaGreatDoor
open Go.RowKit
def heldR (v:Value):Option (DataW Value × List MemPlace):=some (.held v,[])
def CM (w:World) (b n:Nat) (D:DataW Value):Prop:=w.ownsMap Tryz.prog 117 heldR b n D
def TM (w:World) (b n:Nat) (D:DataW Value):Prop:=w.ownsMap Tryz.prog 9 heldR b n D
theorem dig_keyed:Maps.Keyed Tryz.prog 117:=Maps.Keyed.of_law (deep_law (P:=Tryz.prog) (m:=2) (by decide) (by kernel_rfl) (by kernel_rfl) (by kernel_rfl))
theorem str_keyed:Maps.Keyed Tryz.prog 9:=Maps.string_keyed Tryz.underlying9
theorem owns_same {w w':World} {k:TypeId} {b n:Nat} {D:DataW Value} (h:w.ownsMap Tryz.prog k heldR b n D) (hb:w'.heap[b]? = w.heap[b]?):w'.ownsMap Tryz.prog k heldR b n D:=by
 obtain ⟨es,clock,h1,F,hs,hD⟩:=h
 exact ⟨es,clock,hb.trans h1,F,hs,hD⟩
structure StW (w:World) (sb:Nat) (s:PSt) (cb tb nc nt:Nat) (Dc Dt:DataW Value):Prop where
 inn:s.In w
 gl:Gl w
 low:LowS s
 blk:w.heap[sb]? = some (.cells #[.pointer (some ⟨s.b,0,none⟩),.map (some cb),.map (some tb)] 159 (0,0))
 cm:CM w cb nc Dc
 tm:TM w tb nt Dt
 ncb:¬ s.own cb
 ntb:¬ s.own tb
 gcb:¬ isG cb
 gtb:¬ isG tb
 gsb:¬ isG sb
 ne:cb≠tb
theorem StW.on {w:World} {sb:Nat} {s:PSt} {cb tb nc nt:Nat} {Dc Dt:DataW Value} (h:StW w sb s cb tb nc nt Dc Dt):On w sb s:=⟨⟨_,_,h.blk⟩,h.inn,h.gl,h.low⟩
theorem StW.go {w w':World} {sb:Nat} {s s':PSt} {cb tb nc nt:Nat} {Dc Dt:DataW Value} (h:StW w sb s cb tb nc nt Dc Dt) (hg:PGo s s' w w'):StW w' sb s' cb tb nc nt Dc Dt:=by
 have ho:=h.on.go hg
 refine ⟨hg.inn,ho.gl,ho.low,?_,owns_same h.cm (hg.gr.block _ h.cm.lt h.ncb),owns_same h.tm (hg.gr.block _ h.tm.lt h.ntb),fun e=>?_,fun e=>?_,h.gcb,h.gtb,h.gsb,h.ne⟩
 ·rw [hg.b]
  exact hg.keeps h.inn h.blk (by decide) (by decide) (by decide) (by decide)
 ·rcases hg.own _ e with e|e
  ·exact h.ncb e
  ·have:=h.cm.lt;omega
 ·rcases hg.own _ e with e|e
  ·exact h.ntb e
  ·have:=h.tm.lt;omega
theorem StW.later {w w':World} {sb:Nat} {s:PSt} {cb tb nc nt:Nat} {Dc Dt:DataW Value} (h:StW w sb s cb tb nc nt Dc Dt) (hb:Below w.heap.size w w'):StW w' sb s cb tb nc nt Dc Dt:=h.go (PGo.refl h.inn hb)
theorem PSt.In.typed {s:PSt} {w:World} (h:s.In w) {k:Nat} (hk:s.own k) {cur:Array Value} {T:TypeId} {fr:Nat × Nat} (hc:w.heap[k]? = some (.cells cur T fr)):T=150∨T=214∨T=154∨T=5:=by
 have hm:∀ {b:Nat} {l:List DE},PM Tryz.prog 9 w b l→k≠b:=by
  rintro b l ⟨es,clock,h1,_⟩ rfl
  rw [hc] at h1
  cases h1
 have hT:∀ {cur':Array Value} {T':TypeId} {fr':Nat × Nat},w.heap[k]? = some (.cells cur' T' fr')→T=T':=by
  intro cur' T' fr' h'
  rw [hc] at h'
  cases h'
  rfl
 rcases hk with rfl|rfl|rfl|e|e|⟨f,hf,e⟩
 ·exact .inl (hT h.is.blk)
 ·exact absurd rfl (hm h.is.now)
 ·exact absurd rfl (hm h.is.safe)
 ·obtain ⟨c,h1⟩:=own_obj h.is.chg k e;exact .inr (.inl (hT h1))
 ·exact .inr (.inr (.inl (hT (h.fds k e).blk)))
 ·obtain ⟨c,h1⟩:=own_obj (h.fds f hf).row k e;exact .inr (.inr (.inr (hT h1)))
theorem StW.setTags {w:World} {sb:Nat} {s:PSt} {cb tb nc nt t2 n2:Nat} {Dc Dt D2:DataW Value} (h:StW w sb s cb tb nc nt Dc Dt) (ht:TM w t2 n2 D2) (ho:¬ s.own t2) (hG:¬ isG t2) (hc:cb≠t2):StW (w.setCell ⟨sb,2,none⟩ (.map (some t2))) sb s cb t2 nc n2 Dc D2:=by
 have hne:∀ {x n:Nat} {k:TypeId} {D:DataW Value},w.ownsMap Tryz.prog k heldR x n D→(w.setCell ⟨sb,2,none⟩ (.map (some t2))).heap[x]? = w.heap[x]?:=by
  rintro x n k D ⟨es,clock,h1,_⟩
  refine heap_setCell_other _ _ _ _ (fun e=>?_)
  have e:x=sb:=e
  subst e
  rw [h.blk] at h1
  cases h1
 refine ⟨h.inn.same (fun k hk=>heap_setCell_other _ _ _ _ (fun e=>?_)),h.gl.same (by simp) (fun k hk=>heap_setCell_other _ _ _ _ (fun e=>?_)),h.low,?_,owns_same h.cm (hne h.cm),owns_same ht (hne ht),h.ncb,ho,h.gcb,hG,h.gsb,hc⟩
 ·have e:k=sb:=e
  subst e
  rcases h.inn.typed hk h.blk with h3|h3|h3|h3<;>exact absurd h3 (by decide)
 ·have e:k=sb:=e
  subst e
  exact h.gsb hk
 ·rw [heap_setCell_same _ sb 2 _ _ _ h.blk]
  rfl
def OpQ (D:DS):Prop:=∃ t c,rdD D indexP=some t∧t.size≤2000∧readS t = .ok [] c∧(∀ e∈D.R.now,dgB e.path=false)∧rdD D (bPath 1)=none∧rdD D pruningP=none∧(rdD D layoutP).isSome=true
def OpR (D:DS) (k:Int) (D':DS):Prop:=(rdD D layoutP=none∧BgR D k D')∨(OpQ D∧GoR D k D')
theorem three_maps (w:World) (b:Nat):∃ W,W=((w.alloc (.map #[] 0)).alloc (.map #[] 0)).alloc (.cells #[.pointer (some ⟨b,0,none⟩),.map (some w.heap.size),.map (some (w.heap.size+1))] 159)∧Below w.heap.size w W∧W.heap.size=w.heap.size+3 ∧
  CM W w.heap.size 0 (.map [])∧TM W (w.heap.size+1) 0 (.map [])∧W.heap[w.heap.size+1+1]? = some (.cells #[.pointer (some ⟨b,0,none⟩),.map (some w.heap.size),.map (some (w.heap.size+1))] 159 (0,0)):=by
 refine ⟨_,rfl,three_below _ _ _ _,by simp,?_,?_,?_⟩
 ·exact ((World.ownsMap_made w _ _ _).alloc _).alloc _
 ·have:=(World.ownsMap_made (w.alloc (.map #[] 0)) Tryz.prog 9 heldR).alloc (.cells #[.pointer (some ⟨b,0,none⟩),.map (some w.heap.size),.map (some (w.heap.size+1))] 159)
  rwa [size_alloc] at this
 ·have:=heap_alloc_new ((w.alloc (.map #[] 0)).alloc (.map #[] 0)) (.cells #[.pointer (some ⟨b,0,none⟩),.map (some w.heap.size),.map (some (w.heap.size+1))] 159)
  rwa [size_alloc,size_alloc] at this
theorem StW.put {W:World} {sb:Nat} {s:PSt} {cb tb nc nt b i:Nat} {Dc Dt:DataW Value} {cur:Array Value} {T:TypeId} {v:Value} (h:StW W sb s cb tb nc nt Dc Dt) (hb:W.heap[b]? = some (.cells cur T (0,0))) (h0:T≠159) (hin:s.In (W.setCell ⟨b,i,none⟩ v)) (hG:¬ isG b) :
  StW (W.setCell ⟨b,i,none⟩ v) sb s cb tb nc nt Dc Dt:=by
 have hne:∀ {x n:Nat} {k:TypeId} {D:DataW Value},W.ownsMap Tryz.prog k heldR x n D→x≠b:=by
  rintro x n k D ⟨es,clock,h1,_⟩ rfl
  rw [hb] at h1
  cases h1
 refine ⟨hin,h.gl.same (by simp) (fun k hk=>heap_setCell_other _ _ _ _ (fun e=>?_)),h.low,(heap_setCell_other _ _ _ _ (by simpa using type_ne h.blk hb (fun e=>h0 e.symm))).trans h.blk,owns_same h.cm (heap_setCell_other _ _ _ _ (hne h.cm)),owns_same h.tm (heap_setCell_other _ _ _ _ (hne h.tm)),h.ncb,h.ntb,h.gcb,h.gtb,h.gsb,h.ne⟩
 have e:k=b:=e
 subst e
 exact hG hk
theorem ErrV.put {W:World} {ev v:Value} {k:Int} {b i:Nat} {cur:Array Value} {T:TypeId} (h:ErrV W ev k) (hb:W.heap[b]? = some (.cells cur T (0,0))) (hT:T≠167):ErrV (W.setCell ⟨b,i,none⟩ v) ev k:=by
 rcases h with h|⟨h0,sv,nm,h1,h2⟩
 ·exact .inl h
 ·exact .inr ⟨h0,sv,nm,h1,(heap_setCell_other _ _ _ _ (by simpa using type_ne h2 hb (fun e=>hT e.symm))).trans h2⟩
theorem errno_ev {w:World} {ev:Value} {k:Int} (h:ErrV w ev k) (hg:w.cell? ⟨0,0,none⟩=some errT):Calls Tryz.prog 51 #[ev] w fun e w'=>e = .returned (.int .i64 k)∧Below w.heap.size w w':=by
 rcases h with ⟨rfl,rfl⟩|⟨_,h⟩
 ·exact errno_nil w
 ·exact errno_step ev k w h hg
theorem two_cells (W:World) (T1 T2:TypeId) (a b:Value):∃ X,X=(W.alloc (.cells #[a] T1)).alloc (.cells #[b] T2)∧Below W.heap.size W X∧X.heap[W.heap.size]? = some (.cells #[a] T1 (0,0))∧X.heap[W.heap.size+1]? = some (.cells #[b] T2 (0,0)):=by
 refine ⟨_,rfl,((Below.refl _ _).alloc (Nat.le_refl _) _).alloc (by rw [size_alloc];omega) _,?_,?_⟩
 ·exact (Below.heap_alloc _ _ _ (by simp)).trans (heap_alloc_new _ _)
 ·have:=heap_alloc_new (W.alloc (.cells #[a] T1)) (.cells #[b] T2)
  rwa [size_alloc] at this
def BSt (w:World) (xb sb:Nat):Prop:=w.heap[xb]? = some (.cells #[.int .i32 0,.int .u32 0,.pointer (some ⟨sb,0,none⟩)] 108 (0,0))
def p0:ByteArray:=⟨#[98,101,115,105,100,101,47,48]⟩
def p1:ByteArray:=⟨#[98,101,115,105,100,101,47,49]⟩
def p2:ByteArray:=⟨#[98,101,115,105,100,101,47,50]⟩
theorem bPath0:bPath 0=p0:=by decide +kernel
theorem bPath1:bPath 1=p1:=by decide +kernel
theorem bPath2:bPath 2=p2:=by decide +kernel
def six:List ByteArray:=[p0,p1,p2,indexP,journalP,layoutP]
theorem six_path {p:ByteArray} (h:p∈six):isPathB p=true:=by
 have:∀ p∈six,isPathB p=true:=by decide +kernel
 exact this p h
def pushD (D:DS) (c:CH):DS:=⟨RDk.wrote { D.R with now:=applyE D.R.now c,chg:=D.R.chg ++ [c] },D.fs,D.fd⟩
def wroteD (D:DS) (f:Nat) (x:ByteArray × Int):DS:=⟨D.R.wrote,D.fs,setNd D.fd f x⟩
def addD (D:DS) (p dt:ByteArray) (f:Nat):DS:=⟨RDk.wrote { D.R with now:=applyE D.R.now ⟨⟨#[]⟩,p,f⟩,chg:=D.R.chg ++ [⟨⟨#[]⟩,p,f⟩] },f::D.fs,setNd D.fd f (dt,0)⟩
theorem pushD_now (D:DS) (c:CH):(pushD D c).R.now=applyE D.R.now c:=rfl
theorem addD_now (D:DS) (p dt:ByteArray) (f:Nat):(addD D p dt f).R.now=applyE D.R.now ⟨⟨#[]⟩,p,f⟩:=rfl
structure Mid (D:DS):Prop where
 lf:LF layoutP D
 six:∀ m,∀ e∈goE D.R.safe (D.R.chg.take m),e.path∈six
 dat:∀ f∈D.fs,FitB 36 (D.fd f)
 rise:Rise D.R.safe
 inv:Inv D.R
theorem afterE_path {l:List DE} {frm too:ByteArray} {nb:Nat} {e:DE} (h:e∈afterE l frm too nb):e∈l∨(e.path=too∧too≠⟨#[]⟩):=by
 unfold afterE at h
 have h1:∀ e,e∈(if frm=⟨#[]⟩ then l else withE frm none l true)→e∈l:=by
  intro e he
  split at he
  ·exact he
  ·rw [withE_done] at he
   exact (List.mem_filter.1 he).1
 revert h
 show e∈(if too=⟨#[]⟩ then (if frm=⟨#[]⟩ then l else withE frm none l true) else withE too (some nb) (if frm=⟨#[]⟩ then l else withE frm none l true) false)→_
 intro h
 by_cases ht:too=⟨#[]⟩
 ·rw [if_pos ht] at h
  exact .inl (h1 e h)
 ·rw [if_neg ht] at h
  rcases withE_path h with h|h
  ·exact .inl (h1 e h.1)
  ·exact .inr ⟨h,ht⟩
theorem six_push {D:DS} (h:∀ m,∀ e∈goE D.R.safe (D.R.chg.take m),e.path∈six) {c:CH} (hc:c.too=⟨#[]⟩∨c.too∈six) (m:Nat):∀ e∈goE D.R.safe ((D.R.chg ++ [c]).take m),e.path∈six:=by
 intro e he
 rcases Nat.lt_or_ge D.R.chg.length m with hm|hm
 ·rw [List.take_of_length_le (by simp;omega),goE_snoc] at he
  rcases afterE_path he with he|⟨he,hn⟩
  ·have:=h D.R.chg.length e
   rw [List.take_length] at this
   exact this he
  ·rw [he]
   exact hc.resolve_left hn
 ·rw [List.take_append_of_le_length hm] at he
  exact h m e he
theorem inv_push {R:RDk} (h:Inv R) (c:CH):Inv { R with now:=applyE R.now c,chg:=R.chg ++ [c] }:=by
 rw [applyE_after h.nowNe c]
 exact h.push c
theorem Mid.push {D:DS} (h:Mid D) {c:CH} (hc:c.too≠layoutP) (hs:c.too=⟨#[]⟩∨c.too∈Go.Proofs.YtncigfibncmioaaGreatDoor.six):Mid (pushD D c) :=
 ⟨fun m=>h.lf.push h.rise (by decide) hc m,fun m=>six_push h.six hs m,h.dat,h.rise,(inv_push h.inv c).wrote⟩
theorem Mid.set {D:DS} (h:Mid D) {f:Nat} {x:ByteArray × Int} (hx:FitB 36 x):Mid (wroteD D f x) :=
 ⟨h.lf,h.six,setNd_fit h.dat (Nat.le_refl _) hx,h.rise,h.inv.wrote⟩
theorem Mid.add {D:DS} (h:Mid D) {p dt:ByteArray} {f:Nat} (hp:p≠layoutP) (hs:p∈Go.Proofs.YtncigfibncmioaaGreatDoor.six) (hd:dt.size≤36):Mid (addD D p dt f):=by
 refine ⟨fun m=>h.lf.push h.rise (by decide) (c:=⟨⟨#[]⟩,p,f⟩) hp m,fun m=>six_push h.six (c:=⟨⟨#[]⟩,p,f⟩) (.inr hs) m,fun g hg=>?_,h.rise,(inv_push h.inv ⟨⟨#[]⟩,p,f⟩).wrote⟩
 show FitB 36 (setNd D.fd f (dt,0) g)
 unfold setNd
 split
 ·exact ⟨hd,Int.le_refl _,by simp⟩
 ·next hn =>
  rcases List.mem_cons.1 hg with e|e
  ·exact absurd e hn
  ·exact h.dat g e
theorem Mid.now {D:DS} (h:Mid D):∀ e∈D.R.now,e.path∈Go.Proofs.YtncigfibncmioaaGreatDoor.six:=by
 intro e he
 rw [h.inv.go] at he
 have:=h.six D.R.chg.length e
 rw [List.take_length] at this
 exact this he
def okS (t:Stp):Bool:=match t.k with|0=>isPathB t.p|1=>isPathB t.p|2=>isPathB t.p|3=>isPathB t.p && isPathB t.q|_=>true
theorem st_zero {D D':DS} {t:Stp} {k:Int} (hs:stR D t k D') (ho:okS t=true) (hl:D.R.left=0):k=0∧D'=D:=by
 obtain ⟨tk,p,q⟩:=t
 unfold stR at hs
 unfold okS at ho
 match tk with
 | 0 =>
  obtain ⟨f,_,he⟩:=hs
  simp only at ho
  simp [apD,ho,hl] at he
  exact he
 | 1=>simp only at ho;simp [syD,ho,hl] at hs;exact hs
 | 2=>simp only at ho;simp [rmD,ho,hl] at hs;exact hs
 | 3=>simp only at ho;simp [rnD,ho,hl] at hs;exact hs
 | n+4=>simp [sdD,hl] at hs;exact hs
theorem ran_zero:∀ {l:List Stp} {D D':DS} {k:Int} {n:Nat},(∀ t∈l,okS t=true)→D.R.left=0→Ran D l k n D'→k=0∧D'=D
 | [],_,_,_,_,_,_,h=>⟨h.1,h.2.2⟩
 | t::l,D,D',k,n,ho,hl,h=>by
  obtain ⟨k1,D1,h1,h2⟩:=h
  obtain ⟨rfl,rfl⟩:=st_zero h1 (ho t (by simp)) hl
  rcases h2 with ⟨h2,_⟩|⟨_,m,_,h3⟩
  ·exact absurd rfl h2
  ·exact ran_zero (fun x hx=>ho x (by simp [hx])) hl h3
theorem st_rm {D D':DS} {k:Int} {p:ByteArray} {g:Nat} (hs:stR D (sRm p) k D') (hp:isPathB p=true) (hl:D.R.left≠0) (hf:findE p D.R.now=some g):k=0∧D'=pushD D ⟨p,⟨#[]⟩,g⟩:=by
 have hs:(k,D')=rmD D p:=hs
 simp [rmD,hp,hl,hf] at hs
 exact hs
theorem st_ap {D D':DS} {k:Int} {p dt:ByteArray} (hs:stR D (sAp p dt) k D') (hp:isPathB p=true) (hl:D.R.left≠0) (hr:(usedE D.fd D.R.now:Int)+(dt.size:Int)≤D.R.room) (hf:findE p D.R.now=none):∃ f,f ∉ D.fs∧k=0∧D'=addD D p dt f:=by
 obtain ⟨f,hfn,hs⟩ : ∃ f,f ∉ D.fs∧(k,D')=apD D p dt f:=hs
 have hr':¬ D.R.room - (usedE D.fd D.R.now:Int)<(dt.size:Int):=by omega
 simp [apD,hp,hl,hr',hf] at hs
 exact ⟨f,hfn,hs.1,hs.2⟩
theorem st_sy {D D':DS} {k:Int} {p:ByteArray} {g:Nat} (hs:stR D (sSy p) k D') (hp:isPathB p=true) (hl:D.R.left≠0) (hf:findE p D.R.now=some g):k=0∧D'=wroteD D g ((D.fd g).1,((D.fd g).1.size:Int)):=by
 have hs:(k,D')=syD D p:=hs
 simp [syD,hp,hl,hf] at hs
 exact hs
theorem st_rn {D D':DS} {k:Int} {p q:ByteArray} {g:Nat} (hs:stR D (sRn p q) k D') (hp:isPathB p=true) (hq:isPathB q=true) (hpq:p≠q) (hl:D.R.left≠0) (hf:findE p D.R.now=some g):k=0∧D'=pushD D ⟨p,q,g⟩:=by
 have hs:(k,D')=rnD D p q:=hs
 simp [rnD,hp,hq,hl,hf,hpq] at hs
 exact hs
theorem st_sd {D D':DS} {k:Int} (hs:stR D sSd k D') (hl:D.R.left≠0):k=0∧D'=⟨RDk.wrote { D.R with safe:=D.R.now,chg:=[] },D.fs,D.fd⟩:=by
 have hs:(k,D')=sdD D:=hs
 simp [sdD,hl] at hs
 exact hs
def Kp (D D':DS):Prop:=D'.R.room=D.R.room∧(D.R.left = -1→D'.R.left = -1)
theorem Kp.refl (D:DS):Kp D D:=⟨rfl,id⟩
theorem Kp.trans {A B C:DS} (h:Kp A B) (k:Kp B C):Kp A C:=⟨k.1.trans h.1,fun e=>k.2 (h.2 e)⟩
theorem wrote_whole {R:RDk} (h:R.left = -1):R.wrote.left = -1:=by
 show (if 0<R.left then R.left - 1 else R.left) = -1
 rw [h]
 rfl
theorem Kp.push (D:DS) (c:CH):Kp D (pushD D c):=⟨rfl,fun h=>wrote_whole h⟩
theorem Kp.set (D:DS) (f:Nat) (x:ByteArray × Int):Kp D (wroteD D f x):=⟨rfl,fun h=>wrote_whole h⟩
theorem Kp.add (D:DS) (p dt:ByteArray) (f:Nat):Kp D (addD D p dt f):=⟨rfl,fun h=>wrote_whole h⟩
theorem find_last {l:List DE} {e:DE} (h:∀ x∈l,x.path≠e.path):findE e.path (l ++ [e])=some e.blk∧applyE (l ++ [e]) ⟨e.path,⟨#[]⟩,e.blk⟩=l:=by
 constructor
 ·induction l with
  | nil=>simp [findE]
  | cons a l ih =>
   show (if a.path=e.path then some a.blk else findE e.path (l ++ [e]))=_
   rw [if_neg (h a (by simp))]
   exact ih (fun x hx=>h x (by simp [hx]))
 ·unfold applyE
  rw [if_pos rfl,withE_done,List.filter_append]
  have h1:l.filter (fun x=>!decide (x.path=e.path))=l:=List.filter_eq_self.2 (fun x hx=>by simp [h x hx])
  show List.filter (fun x=>!decide (x.path=e.path)) l++_=l
  rw [h1]
  simp
theorem less_ne {a b:ByteArray} (h:lessB a b=true):a≠b:=by
 rintro rfl
 unfold lessB at h
 rw [bytesLess_self] at h
 cases h
theorem rise_last {l:List DE} {e:DE} (h:Rise (l ++ [e])):∀ x∈l,x.path≠e.path:=fun x hx=>less_ne ((List.pairwise_append.1 h).2.2 x hx e (by simp))
theorem rm_all:∀ (n:Nat) (l:List DE) {D D1:DS} {k:Int} {m:Nat},l.length=n→D.R.now=l→Mid D→Ran D ((l.map DE.path).reverse.map sRm) k m D1→k=0∧Mid D1∧D1.fs=D.fs∧D1.fd=D.fd∧Kp D D1∧(D1.R.left=0∨D1.R.now = [])
 | 0,l,D,D1,k,m,hn,hnow,hm,hr=>by
  have:l = []:=List.length_eq_zero_iff.1 hn
  subst this
  obtain ⟨rfl,_,rfl⟩:=hr
  exact ⟨rfl,hm,rfl,rfl,Kp.refl _,.inr hnow⟩
 | n+1,l,D,D1,k,m,hn,hnow,hm,hr=>by
  rcases List.eq_nil_or_concat l with rfl|⟨l',e,rfl⟩
  ·cases hn
  ·have hpe:e.path∈six:=hm.now e (by rw [hnow];simp)
   by_cases hl:D.R.left=0
   ·obtain ⟨rfl,rfl⟩:=ran_zero (fun t ht=>by
     simp only [List.mem_map,List.mem_reverse] at ht
     obtain ⟨p,⟨e',he',rfl⟩,rfl⟩:=ht
     exact six_path (hm.now e' (by rw [hnow];exact he'))) hl hr
    exact ⟨rfl,hm,rfl,rfl,Kp.refl _,.inl hl⟩
   ·have hrise:Rise (l' ++ [e]):=by
     have:=go_rise D.R.chg hm.rise
     rw [← hm.inv.go,hnow] at this
     simpa using this
    obtain ⟨f1,f2⟩:=find_last (rise_last hrise)
    simp only [List.concat_eq_append] at hnow hr hn
    rw [List.map_append,List.reverse_append] at hr
    simp only [List.map_cons,List.map_nil,List.reverse_cons,List.reverse_nil,List.nil_append,List.cons_append] at hr
    obtain ⟨k1,D2,h1,h2⟩:=hr
    obtain ⟨rfl,rfl⟩:=st_rm h1 (six_path hpe) hl (by rw [hnow];exact f1)
    rcases h2 with ⟨h2,_⟩|⟨_,m',_,h3⟩
    ·exact absurd rfl h2
    ·have hm2:=hm.push (c:=⟨e.path,⟨#[]⟩,e.blk⟩) (show (⟨#[]⟩ : ByteArray)≠layoutP by decide) (.inl rfl)
     have:=rm_all n l' (by simpa using hn) (D:=pushD D ⟨e.path,⟨#[]⟩,e.blk⟩) (by rw [pushD_now,hnow];exact f2) hm2 h3
     obtain ⟨a,b,c,d,e2,f⟩:=this
     exact ⟨a,b,c,d,(Kp.push _ _).trans e2,f⟩
theorem Ran.alt {D D':DS} {t:Stp} {l:List Stp} {k:Int} {n:Nat} (P:DS→Prop) (h:Ran D (t::l) k n D') (ho:∀ t'∈t::l,okS t'=true) (he:D.R.left≠0→∀ k1 X,stR D t k1 X→k1=0∧P X):(k=0∧D'=D∧D.R.left=0)∨∃ D1 m,P D1∧Ran D1 l k m D':=by
 by_cases hl:D.R.left=0
 ·obtain ⟨h1,h2⟩:=ran_zero ho hl h
  exact .inl ⟨h1,h2,hl⟩
 ·obtain ⟨k1,D1,h1,h2⟩:=h
  obtain ⟨rfl,hP⟩:=he hl k1 D1 h1
  rcases h2 with ⟨h2,_⟩|⟨_,m,_,h3⟩
  ·exact absurd rfl h2
  ·exact .inr ⟨D1,m,hP,h3⟩
def ThreeL (fd:Nat→ByteArray × Int) (l:List DE):Prop:=∃ y x z,l = [⟨indexP,y⟩,⟨journalP,x⟩,⟨layoutP,z⟩]∧fd x=(⟨#[]⟩,0)∧fd y=(emptyT,23)∧fd z=(layoutT,13)
structure Ea (D:DS):Prop where
 each:∀ m,findE layoutP (goE D.R.safe (D.R.chg.take m))=none∨ThreeL D.fd (goE D.R.safe (D.R.chg.take m))
 six:∀ m,∀ e∈goE D.R.safe (D.R.chg.take m),e.path∈six
 dat:∀ f∈D.fs,FitB 36 (D.fd f)
 rise:Rise D.R.safe
 inv:Inv D.R
theorem Mid.ea {D:DS} (h:Mid D):Ea D:=⟨fun m=>.inl (h.lf m),h.six,h.dat,h.rise,h.inv⟩
def Rest3 (D:DS):Prop:=ThreeL D.fd D.R.now∧D.R.safe=D.R.now∧D.R.chg = []
structure S3 (D X:DS) (l:List DE) (x y z:Nat) (sx sy sz:Int):Prop where
 mid:Mid X
 now:X.R.now=l
 fx:X.fd x=(⟨#[]⟩,sx)
 fy:X.fd y=(emptyT,sy)
 fz:X.fd z=(layoutT,sz)
 xy:x≠y
 xz:x≠z
 yz:y≠z
 kp:Kp D X
theorem less_eq (a b:ByteArray):lessB a b=Op.bytesLess a.data.toList b.data.toList:=by
 unfold lessB
 rw [ByteArray.toList_eq,ByteArray.toList_eq]
theorem ap_01 (x y:Nat):applyE [⟨p0,x⟩] ⟨⟨#[]⟩,p1,y⟩ = [⟨p0,x⟩,⟨p1,y⟩]:=by
 have l:lessB p1 p0=false:=by rw [less_eq];decide
 have a1:p0≠p1:=by decide
 have a2:p0≠⟨#[]⟩:=by decide
 have a3:p1≠⟨#[]⟩:=by decide
 simp [applyE,withE,l,a1,a2,a3]
theorem ap_012 (x y z:Nat):applyE [⟨p0,x⟩,⟨p1,y⟩] ⟨⟨#[]⟩,p2,z⟩ = [⟨p0,x⟩,⟨p1,y⟩,⟨p2,z⟩]:=by
 have l:lessB p2 p0=false:=by rw [less_eq];decide
 have l':lessB p2 p1=false:=by rw [less_eq];decide
 have a1:p0≠p2:=by decide
 have a2:p1≠p2:=by decide
 have a3:p0≠⟨#[]⟩:=by decide
 have a4:p1≠⟨#[]⟩:=by decide
 have a5:p2≠⟨#[]⟩:=by decide
 simp [applyE,withE,l,l',a1,a2,a3,a4,a5]
theorem ap_j (x y z:Nat):applyE [⟨p0,x⟩,⟨p1,y⟩,⟨p2,z⟩] ⟨p0,journalP,x⟩ = [⟨p1,y⟩,⟨p2,z⟩,⟨journalP,x⟩]:=by
 have l:lessB journalP p1=false:=by rw [less_eq];decide
 have l':lessB journalP p2=false:=by rw [less_eq];decide
 have a1:p1≠journalP:=by decide
 have a2:p2≠journalP:=by decide
 have a3:p1≠p0:=by decide
 have a4:p2≠p0:=by decide
 have a5:journalP≠⟨#[]⟩:=by decide
 simp [applyE,withE,l,l',a1,a2,a3,a4,a5]
theorem ap_i (x y z:Nat):applyE [⟨p1,y⟩,⟨p2,z⟩,⟨journalP,x⟩] ⟨p1,indexP,y⟩ = [⟨p2,z⟩,⟨indexP,y⟩,⟨journalP,x⟩]:=by
 have l:lessB indexP p2=false:=by rw [less_eq];decide
 have l':lessB indexP journalP=true:=by rw [less_eq];decide
 have a1:p2≠indexP:=by decide
 have a2:journalP≠indexP:=by decide
 have a3:p2≠p1:=by decide
 have a4:journalP≠p1:=by decide
 have a5:indexP≠⟨#[]⟩:=by decide
 simp [applyE,withE,l,l',a1,a2,a3,a4,a5]
theorem ap_l (x y z:Nat):applyE [⟨p2,z⟩,⟨indexP,y⟩,⟨journalP,x⟩] ⟨p2,layoutP,z⟩ = [⟨indexP,y⟩,⟨journalP,x⟩,⟨layoutP,z⟩]:=by
 have l:lessB layoutP indexP=false:=by rw [less_eq];decide
 have l':lessB layoutP journalP=false:=by rw [less_eq];decide
 have a1:indexP≠layoutP:=by decide
 have a2:journalP≠layoutP:=by decide
 have a3:indexP≠p2:=by decide
 have a4:journalP≠p2:=by decide
 have a5:layoutP≠⟨#[]⟩:=by decide
 simp [applyE,withE,l,l',a1,a2,a3,a4,a5]
theorem begin10 {D D':DS} {k:Int} {n:Nat} (hm:Mid D) (hnow:D.R.now = []) (hroom:36≤D.R.room) (h:Ran D [sAp p0 ⟨#[]⟩,sAp p1 emptyT,sAp p2 layoutT,sSy p0,sSy p1,sSy p2,sRn p0 journalP,sRn p1 indexP,sRn p2 layoutP,sSd] k n D') :
  k=0∧Kp D D'∧((Mid D'∧D'.R.left=0)∨(Ea D'∧D'.R.left=0)∨(Ea D'∧Rest3 D')):=by
 have ze:(⟨#[]⟩ : ByteArray).size=0:=rfl
 have zi:emptyT.size=23:=rfl
 have zl:layoutT.size=13:=rfl
 rcases h.alt (fun X=>∃ x,Mid X∧X.R.now = [⟨p0,x⟩]∧X.fd x=(⟨#[]⟩,0)∧x∈X.fs∧Kp D X) (by decide +kernel) (fun hl k1 X hs=>by
  obtain ⟨x,hx,h0,rfl⟩:=st_ap hs (by decide) hl (by rw [hnow,ze];show (0:Int)+0≤_;omega) (by rw [hnow];rfl)
  refine ⟨h0,x,hm.add (by decide) (by simp [six]) (by decide),?_,?_,by simp [addD],Kp.add _ _ _ _⟩
  ·rw [addD_now,hnow]
   rfl
  ·simp [addD,setNd]) with ⟨rfl,rfl,hl⟩|⟨D1,n1,⟨x,m1,now1,fx1,in1,kp1⟩,h⟩
 ·exact ⟨rfl,Kp.refl _,.inl ⟨hm,hl⟩⟩
 rcases h.alt (fun X=>∃ y,Mid X∧X.R.now = [⟨p0,x⟩,⟨p1,y⟩]∧X.fd x=(⟨#[]⟩,0)∧X.fd y=(emptyT,0)∧x≠y∧x∈X.fs∧y∈X.fs∧Kp D X) (by decide +kernel) (fun hl k1 X hs=>by
  obtain ⟨y,hy,h0,rfl⟩:=st_ap hs (by decide) hl (by rw [now1,kp1.1,zi];simp only [usedE,fx1,ze];omega) (by rw [now1];rfl)
  have hne:x≠y:=fun e=>hy (e ▸ in1)
  refine ⟨h0,y,m1.add (by decide) (by simp [six]) (by decide),?_,?_,?_,hne,by simp [addD,in1],by simp [addD],kp1.trans (Kp.add _ _ _ _)⟩
  ·rw [addD_now,now1]
   exact ap_01 x y
  ·simp [addD,setNd,hne,fx1]
  ·simp [addD,setNd]) with ⟨rfl,rfl,hl⟩|⟨D2,n2,⟨y,m2,now2,fx2,fy2,xy,inx2,iny2,kp2⟩,h⟩
 ·exact ⟨rfl,kp1,.inl ⟨m1,hl⟩⟩
 rcases h.alt (fun X=>∃ z,S3 D X [⟨p0,x⟩,⟨p1,y⟩,⟨p2,z⟩] x y z 0 0 0) (by decide +kernel) (fun hl k1 X hs=>by
  obtain ⟨z,hz,h0,rfl⟩:=st_ap hs (by decide) hl (by rw [now2,kp2.1,zl];simp only [usedE,fx2,fy2,ze,zi];omega) (by rw [now2];rfl)
  have hxz:x≠z:=fun e=>hz (e ▸ inx2)
  have hyz:y≠z:=fun e=>hz (e ▸ iny2)
  refine ⟨h0,z,m2.add (by decide) (by simp [six]) (by decide),?_,?_,?_,?_,xy,hxz,hyz,kp2.trans (Kp.add _ _ _ _)⟩
  ·rw [addD_now,now2]
   exact ap_012 x y z
  ·simp [addD,setNd,hxz,fx2]
  ·simp [addD,setNd,hyz,fy2]
  ·simp [addD,setNd]) with ⟨rfl,rfl,hl⟩|⟨D3,n3,⟨z,s3⟩,h⟩
 ·exact ⟨rfl,kp2,.inl ⟨m2,hl⟩⟩
 rcases h.alt (fun X=>S3 D X [⟨p0,x⟩,⟨p1,y⟩,⟨p2,z⟩] x y z 0 0 0) (by decide +kernel) (fun hl k1 X hs=>by
  obtain ⟨h0,rfl⟩:=st_sy (g:=x) hs (by decide) hl (by rw [s3.now];rfl)
  rw [s3.fx]
  exact ⟨h0,s3.mid.set ⟨by decide,by decide,by decide⟩,s3.now,by simp [wroteD,setNd,ze],by simp [wroteD,setNd,Ne.symm s3.xy,s3.fy],by simp [wroteD,setNd,Ne.symm s3.xz,s3.fz],s3.xy,s3.xz,s3.yz,s3.kp.trans (Kp.set _ _ _)⟩) with ⟨rfl,rfl,hl⟩|⟨D4,n4,s4,h⟩
 ·exact ⟨rfl,s3.kp,.inl ⟨s3.mid,hl⟩⟩
 rcases h.alt (fun X=>S3 D X [⟨p0,x⟩,⟨p1,y⟩,⟨p2,z⟩] x y z 0 23 0) (by decide +kernel) (fun hl k1 X hs=>by
  obtain ⟨h0,rfl⟩:=st_sy (g:=y) hs (by decide) hl (by rw [s4.now];rfl)
  rw [s4.fy]
  exact ⟨h0,s4.mid.set ⟨by decide,by decide,by decide⟩,s4.now,by simp [wroteD,setNd,s4.xy,s4.fx],by simp [wroteD,setNd,zi],by simp [wroteD,setNd,Ne.symm s4.yz,s4.fz],s4.xy,s4.xz,s4.yz,s4.kp.trans (Kp.set _ _ _)⟩) with ⟨rfl,rfl,hl⟩|⟨D5,n5,s5,h⟩
 ·exact ⟨rfl,s4.kp,.inl ⟨s4.mid,hl⟩⟩
 rcases h.alt (fun X=>S3 D X [⟨p0,x⟩,⟨p1,y⟩,⟨p2,z⟩] x y z 0 23 13) (by decide +kernel) (fun hl k1 X hs=>by
  obtain ⟨h0,rfl⟩:=st_sy (g:=z) hs (by decide) hl (by rw [s5.now];rfl)
  rw [s5.fz]
  exact ⟨h0,s5.mid.set ⟨by decide,by decide,by decide⟩,s5.now,by simp [wroteD,setNd,s5.xz,s5.fx],by simp [wroteD,setNd,s5.yz,s5.fy],by simp [wroteD,setNd,zl],s5.xy,s5.xz,s5.yz,s5.kp.trans (Kp.set _ _ _)⟩) with ⟨rfl,rfl,hl⟩|⟨D6,n6,s6,h⟩
 ·exact ⟨rfl,s5.kp,.inl ⟨s5.mid,hl⟩⟩
 rcases h.alt (fun X=>S3 D X [⟨p1,y⟩,⟨p2,z⟩,⟨journalP,x⟩] x y z 0 23 13) (by decide +kernel) (fun hl k1 X hs=>by
  obtain ⟨h0,rfl⟩:=st_rn (g:=x) hs (by decide) (by decide) (by decide) hl (by rw [s6.now];rfl)
  exact ⟨h0,s6.mid.push (show journalP≠layoutP by decide) (.inr (by simp [six])),by rw [pushD_now,s6.now];exact ap_j x y z,s6.fx,s6.fy,s6.fz,s6.xy,s6.xz,s6.yz,s6.kp.trans (Kp.push _ _)⟩) with ⟨rfl,rfl,hl⟩|⟨D7,n7,s7,h⟩
 ·exact ⟨rfl,s6.kp,.inl ⟨s6.mid,hl⟩⟩
 rcases h.alt (fun X=>S3 D X [⟨p2,z⟩,⟨indexP,y⟩,⟨journalP,x⟩] x y z 0 23 13) (by decide +kernel) (fun hl k1 X hs=>by
  obtain ⟨h0,rfl⟩:=st_rn (g:=y) hs (by decide) (by decide) (by decide) hl (by rw [s7.now];rfl)
  exact ⟨h0,s7.mid.push (show indexP≠layoutP by decide) (.inr (by simp [six])),by rw [pushD_now,s7.now];exact ap_i x y z,s7.fx,s7.fy,s7.fz,s7.xy,s7.xz,s7.yz,s7.kp.trans (Kp.push _ _)⟩) with ⟨rfl,rfl,hl⟩|⟨D8,n8,s8,h⟩
 ·exact ⟨rfl,s7.kp,.inl ⟨s7.mid,hl⟩⟩
 rcases h.alt (fun X=>X=pushD D8 ⟨p2,layoutP,z⟩) (by decide +kernel) (fun hl k1 X hs=>by
  obtain ⟨h0,rfl⟩:=st_rn (g:=z) hs (by decide) (by decide) (by decide) hl (by rw [s8.now];rfl)
  exact ⟨h0,rfl⟩) with ⟨rfl,rfl,hl⟩|⟨D9,n9,rfl,h⟩
 ·exact ⟨rfl,s8.kp,.inl ⟨s8.mid,hl⟩⟩
 have now9:(pushD D8 ⟨p2,layoutP,z⟩).R.now = [⟨indexP,y⟩,⟨journalP,x⟩,⟨layoutP,z⟩]:=by rw [pushD_now,s8.now];exact ap_l x y z
 have th9:ThreeL (pushD D8 ⟨p2,layoutP,z⟩).fd (pushD D8 ⟨p2,layoutP,z⟩).R.now:=⟨y,x,z,now9,s8.fx,s8.fy,s8.fz⟩
 have inv9:Inv (pushD D8 ⟨p2,layoutP,z⟩).R:=(inv_push s8.mid.inv ⟨p2,layoutP,z⟩).wrote
 have ea9:Ea (pushD D8 ⟨p2,layoutP,z⟩):=by
  refine ⟨fun m=>?_,fun m=>six_push s8.mid.six (c:=⟨p2,layoutP,z⟩) (.inr (by simp [six])) m,s8.mid.dat,s8.mid.rise,inv9⟩
  rcases Nat.lt_or_ge D8.R.chg.length m with hlm|hlm
  ·refine .inr ?_
   have e:(pushD D8 ⟨p2,layoutP,z⟩).R.chg.take m=(pushD D8 ⟨p2,layoutP,z⟩).R.chg:=List.take_of_length_le (by show (D8.R.chg ++ [_]).length≤m;simp;omega)
   rw [e,← inv9.go]
   exact th9
  ·refine .inl ?_
   have e:(pushD D8 ⟨p2,layoutP,z⟩).R.chg.take m=D8.R.chg.take m:=by show (D8.R.chg ++ [_]).take m=_;rw [List.take_append_of_le_length hlm]
   rw [e]
   exact s8.mid.lf m
 rcases h.alt (fun X=>X=⟨RDk.wrote { (pushD D8 ⟨p2,layoutP,z⟩).R with safe:=(pushD D8 ⟨p2,layoutP,z⟩).R.now,chg:=[] },(pushD D8 ⟨p2,layoutP,z⟩).fs,(pushD D8 ⟨p2,layoutP,z⟩).fd⟩) (by decide +kernel) (fun hl k1 X hs=>st_sd hs hl) with ⟨rfl,rfl,hl⟩|⟨D10,n10,rfl,h⟩
 ·exact ⟨rfl,s8.kp.trans (Kp.push _ _),.inr (.inl ⟨ea9,hl⟩)⟩
 obtain ⟨rfl,_,rfl⟩:=h
 refine ⟨rfl,(s8.kp.trans (Kp.push _ _)).trans ⟨rfl,fun e=>wrote_whole e⟩,.inr (.inr ⟨⟨fun m=>.inr ?_,fun m e he=>?_,s8.mid.dat,?_,inv9.sync.wrote⟩,th9,rfl,rfl⟩)⟩
 ·show ThreeL _ (goE _ (List.take m []))
  rw [List.take_nil]
  exact th9
 ·have he:e∈(pushD D8 ⟨p2,layoutP,z⟩).R.now:=by
   have:e∈goE (pushD D8 ⟨p2,layoutP,z⟩).R.now (List.take m []):=he
   rw [List.take_nil] at this
   exact this
  rw [now9] at he
  simp only [List.mem_cons,List.not_mem_nil,or_false] at he
  rcases he with rfl|rfl|rfl<;>simp [six]
 ·show Rise (pushD D8 ⟨p2,layoutP,z⟩).R.now
  rw [inv9.go]
  exact go_rise _ s8.mid.rise
end Go.Proofs.YtncigfibncmioaaGreatDoor
namespace Go.Proofs.YtncigfibncmioaaGreatDoor
set_option maxHeartbeats 2000000
set_option maxRecDepth 100000
open Go.RowKit Go.Shelf
def Tryz.laysW5e_ren:Go.Shelf.Ren:=⟨fun|5=>116|7=>134|n=>n,fun|4=>4|20=>20|23=>157|25=>9|3=>193|n=>n,fun|n=>n⟩
theorem Tryz.laysW5e:Go.Proofs.SlLaysW.n5 Tryz.prog Tryz.laysW5e_ren:={
 mixed:=by kernel_rfl
 f5:=⟨"maps.Clone[map[string]blobs/index.Entry,string,blobs/index.Entry]",by decide,Tryz.func116.trans (congrArg some (by kernel_rfl))⟩
 f7:=Tryz.func134.trans (congrArg some (by kernel_rfl))
 t4:=Tryz.underlying4
 a4:=Tryz.isAgg4
 z4:=Tryz.sizeOf4
 v4:=Tryz.zeroValue4
 t20:=Tryz.underlying20
 a20:=Tryz.isAgg20
 z20:=Tryz.sizeOf20
 v20:=Tryz.zeroValue20
 t23:=Tryz.underlying157
 a23:=Tryz.isAgg157
 z23:=Tryz.sizeOf157
 v23:=Tryz.zeroValue157 }
theorem tclone_any (tb n:Nat) (D:DataW Value) (w:World) (h:TM w tb n D) :
  Calls Tryz.prog 116 #[.map (some tb)] w fun e w'=>e = .returned (.map (some w.heap.size))∧TM w' w.heap.size n D∧Below w.heap.size w w' :=
 (AnyW.maps_Clone_owns Tryz.laysW5e 9 heldR tb n D w h).mono fun _ _ ⟨h1,h2,_,h3⟩=>⟨h1,h2,h3⟩
theorem buildE2_lit (n:ByteArray) (x0 x1 x2 x3 x4 x5 x6 x7 x8 x9 x10 x11 x12 x13 x14 x15 x16 x17 x18 x19 x20 x21 x22 x23 x24 x25 x26 x27 x28 x29 x30 x31:Value) (w:World):(Instr.build 193 #[(0,.string n),(1,.agg #[x0,x1,x2,x3,x4,x5,x6,x7,x8,x9,x10,x11,x12,x13,x14,x15,x16,x17,x18,x19,x20,x21,x22,x23,x24,x25,x26,x27,x28,x29,x30,x31])]).run Tryz.prog w = .ok (.agg #[.string n,x0,x1,x2,x3,x4,x5,x6,x7,x8,x9,x10,x11,x12,x13,x14,x15,x16,x17,x18,x19,x20,x21,x22,x23,x24,x25,x26,x27,x28,x29,x30,x31,.int .i64 0]) w:=by kernel_rfl
theorem buildE2 (n:ByteArray) (ds:List Nat) (h:ds.length=32) (w:World):(Instr.build 193 #[(0,.string n),(1,.agg (cells8 ds))]).run Tryz.prog w = .ok (.agg (ecellsOf n ds 0)) w:=by
 obtain ⟨x0,x1,x2,x3,x4,x5,x6,x7,x8,x9,x10,x11,x12,x13,x14,x15,x16,x17,x18,x19,x20,x21,x22,x23,x24,x25,x26,x27,x28,x29,x30,x31,rfl⟩:=list32 ds h
 exact buildE2_lit n _ _ _ _ _ _ _ _ _ _ _ _ _ _ _ _ _ _ _ _ _ _ _ _ _ _ _ _ _ _ _ _ w
theorem wpList_buildE2 {ops:Array Oper} {Q:Exit→Act→World→Prop} {o:Oper} {rest:List Oper} {a:Act} {w:World} (hgd:o.guard=none) (p0 p1:Operand) (hop:o.op=Op.build 193 #[(0,p0),(1,p1)]) (n:ByteArray) (ds:List Nat) (hl:ds.length=32) (h0:a.eval p0 = .string n) (h1:a.eval p1 = .agg (cells8 ds))
  (hK:wpList Tryz.prog ops Q rest (a.put o.dst (.agg (ecellsOf n ds 0))) w):wpList Tryz.prog ops Q (o::rest) a w:=by
 refine wpList_plain hgd fun K' hK'=>?_
 have hr:=buildE2 n ds hl w
 unfold Oper.wp
 simp [execOp,hop,h0,h1,hr,Result.andThen]
 exact hK' _ _ hK
theorem Below.of_grown {n b:Nat} {w w':World} (hg:w.grownBy w' (some b)) (hb:n≤b) (hn:n≤w.heap.size):Below n w w':=(Below.refl _ _).grown hg hn (fun k e=>by injection e with e;omega)
theorem key_str (n:ByteArray) (h:n.size≤1000000):keyOf Tryz.prog 9 (.string n)=some (.string n.data.toList):=by
 unfold keyOf
 rw [Tryz.underlying9]
 simp only [mapKey,Tryz.underlying9]
 have h:n.size≤maxLen:=by unfold maxLen;omega
 simp [h]
theorem tagsWith_any (sb:Nat) (s:PSt) (cb tb nc nt:Nat) (Dc Dt:DataW Value) (name:ByteArray) (ds:List Nat) (w:World) (h:StW w sb s cb tb nc nt Dc Dt) (hds:ds.length=32) (hnt:nt≤1000) (hn:name.size≤1000000) :
  Calls Tryz.prog 103 #[.pointer (some ⟨sb,0,none⟩),.string name,.agg (cells8 ds)] w fun e w'=>∃ b,e = .returned (.map (some b))∧w.heap.size≤b∧TM w' b (nt+1) (Dt.put (.string name.data.toList) (.held (.agg (ecellsOf name ds 0))))∧Below w.heap.size w w':=by
 have HCL:=hide (tclone_any tb nt Dt)
 have HSC:=hide (fun W=>sclone_any name W (by omega))
 have hbu:=buildE2 name ds hds
 have hbo:Below w.heap.size w (w.alloc (.cells (cells8 ds) 117)):=(Below.refl _ _).alloc (Nat.le_refl _) _
 have c2:=cell_later hbo (cell_of_row _ _ 2 _ _ _ h.blk)
 have hrow:(w.alloc (.cells (cells8 ds) 117)).heap[w.heap.size]? = some (.cells (cells8 ds) 117 (0,0)):=heap_alloc_new _ _
 have htm:=(h.later hbo).tm
 obtain ⟨W,hW⟩ : ∃ W,W=w.alloc (.cells (cells8 ds) 117):=⟨_,rfl⟩
 rw [← hW] at hbo c2 hrow htm
 have HTM:=hide htm
 have HW:=hide hW
 have HBO:=hide hbo
 have HROW:=hide hrow
 clear h hbo htm hW hrow
 go_enter Tryz.func103,Tryz.ntmps103
 go_upto_region 1 with fail
 rw [← HW.out]
 go_wp2_with fail
 refine (HCL.out _ HTM.out).mono ?_
 rintro _ w1 ⟨rfl,htm1,hb1⟩
 dsimp only
 have HTM1:=hide htm1
 have HB1:=hide hb1
 clear htm1 hb1 HCL
 go_wp2_with fail
 refine (HSC.out _).mono ?_
 rintro _ w2 ⟨rfl,hb2⟩
 dsimp only
 have HTM2:=hide (owns_same HTM1.out (hb2.block _ HTM1.out.lt))
 have HR2:=hide ((hb2.block _ (by have:=HB1.out.size;have:=lt_heap HROW.out;omega)).trans ((HB1.out.block _ (lt_heap HROW.out)).trans HROW.out))
 have HB2:=hide (HB1.out.trans (hb2.mono HB1.out.size))
 clear hb2 HSC
 go_wp2_with (first|(refine wpList_load_row rfl 117 _ rfl w.heap.size rfl 117 _ _ _ HR2.out Tryz.underlying117 rfl (size40 _ hds) ?_)|(refine wpList_buildE2 rfl _ _ rfl name ds hds rfl rfl ?_)|(refine wpList_mapUpdate_own _ rfl _ _ _ 157 rfl 9 193 str_keyed Tryz.underlying157 heldR W.heap.size nt Dt rfl HTM2.out (by unfold maxLen;omega) _ _ (.string name.data.toList) rfl rfl (key_str name (by omega)) _ [] rfl ?_;intro w3 hm3 hg3))
 go_ret
 have hz:=HBO.out.size
 have hz2:=HB2.out.size
 exact ⟨_,rfl,hz,hm3,HBO.out.trans ((HB2.out.mono hz).trans (Below.of_grown hg3 hz (by omega)))⟩
end Go.Proofs.YtncigfibncmioaaGreatDoor
namespace Go.Proofs.YtncigfibncmioaaGreatDoor
open Go.RowKit
theorem rmS_all (now:List DE):rmS (fun _=>true) now=(now.map DE.path).reverse.map sRm:=by
 unfold rmS
 rw [List.filter_eq_self.2 (fun _ _=>rfl)]
theorem wrS_begin:wrS beginFl = [sAp p0 ⟨#[]⟩,sAp p1 emptyT,sAp p2 layoutT,sSy p0,sSy p1,sSy p2,sRn p0 journalP,sRn p1 indexP,sRn p2 layoutP,sSd]:=by
 rw [← bPath0,← bPath1,← bPath2]
 rfl
structure Er (D:DS):Prop where
 ea:Ea D
 chg:D.R.chg = []
theorem Er.now {D:DS} (h:Er D):D.R.now=D.R.safe:=by
 have:=h.ea.inv.go
 rw [h.chg] at this
 exact this
theorem Er.or {D:DS} (h:Er D):findE layoutP D.R.now=none∨ThreeL D.fd D.R.now:=by
 have:=h.ea.each 0
 rw [List.take_zero] at this
 rw [h.now]
 exact this
theorem Er.mid {D:DS} (h:Er D) (hn:findE layoutP D.R.now=none):Mid D:=by
 refine ⟨fun m=>?_,h.ea.six,h.ea.dat,h.ea.rise,h.ea.inv⟩
 rw [h.chg,List.take_nil]
 show findE layoutP D.R.safe=none
 rw [← h.now]
 exact hn
theorem begin_pure {D D':DS} {k:Int} (h:Er D) (hn:findE layoutP D.R.now=none) (hr:36≤D.R.room) (hb:BgR D k D'):k=0∧Kp D D'∧Ea D'∧(D.R.left = -1→Rest3 D'):=by
 rcases hb with ⟨h1,_⟩|⟨_,k1,m,D1,h1,h2⟩
 ·omega
 ·rw [rmS_all] at h1
  obtain ⟨rfl,m1,_,_,kp1,hor⟩:=rm_all _ _ rfl rfl (h.mid hn) h1
  rcases h2 with ⟨h2,_⟩|⟨_,m2,D2,h3,h4⟩
  ·exact absurd rfl h2
  ·rw [wrS_begin] at h3
   have key:k=0∧Kp D1 D2∧Ea D2∧(D2.R.left = -1→Rest3 D2):=by
    by_cases hl:D1.R.left=0
    ·obtain ⟨rfl,rfl⟩:=ran_zero (by decide +kernel) hl h3
     exact ⟨rfl,Kp.refl _,m1.ea,fun e=>by rw [hl] at e;cases e⟩
    ·have hn1:D1.R.now = []:=hor.resolve_left hl
     obtain ⟨rfl,kp2,hc⟩:=begin10 m1 hn1 (by rw [kp1.1];exact hr) h3
     rcases hc with ⟨a,b⟩|⟨a,b⟩|⟨a,b⟩
     ·exact ⟨rfl,kp2,a.ea,fun e=>by rw [b] at e;cases e⟩
     ·exact ⟨rfl,kp2,a,fun e=>by rw [b] at e;cases e⟩
     ·exact ⟨rfl,kp2,a,fun _=>b⟩
   obtain ⟨rfl,kp2,e2,r2⟩:=key
   rcases h4 with ⟨_,rfl⟩|⟨h4,_⟩
   ·exact ⟨rfl,kp1.trans kp2,e2,fun e=>r2 ((kp1.trans kp2).2 e)⟩
   ·exact absurd rfl h4
theorem go_pure {D D':DS} {k:Int} (h:Er D) (h3:ThreeL D.fd D.R.now) (hg:GoR D k D'):k=0∧Kp D D'∧Ea D'∧Rest3 D':=by
 obtain ⟨k1,m,D1,h1,h2⟩:=hg
 have hrm:rmS foreignB D.R.now = []:=by
  obtain ⟨y,x,z,e,_⟩:=h3
  rw [e]
  have f1:foreignB indexP=false:=by decide +kernel
  have f2:foreignB journalP=false:=by decide +kernel
  have f3:foreignB layoutP=false:=by decide +kernel
  simp [rmS,f1,f2,f3]
 rw [hrm] at h1
 obtain ⟨rfl,_,e1⟩:=h1
 rw [e1] at h2
 rcases h2 with ⟨h2,_⟩|⟨_,hs⟩
 ·exact absurd rfl h2
 ·by_cases hl:D.R.left=0
  ·obtain ⟨rfl,e2⟩:=st_zero hs rfl hl
   rw [e2]
   exact ⟨rfl,Kp.refl _,h.ea,h3,h.now.symm,h.chg⟩
  ·obtain ⟨rfl,rfl⟩:=st_sd hs hl
   refine ⟨rfl,⟨rfl,fun e=>wrote_whole e⟩,⟨fun m=>.inr ?_,fun m e he=>?_,h.ea.dat,?_,h.ea.inv.sync.wrote⟩,h3,rfl,rfl⟩
   ·show ThreeL _ (goE _ (List.take m []))
    rw [List.take_nil]
    exact h3
   ·have he:e∈goE D.R.now (List.take m []):=he
    rw [List.take_nil] at he
    have he:e∈D.R.now:=he
    have:=h.ea.six 0 e
    rw [List.take_zero] at this
    rw [h.now] at he
    exact this he
   ·show Rise D.R.now
    rw [h.now]
    exact h.ea.rise
theorem rd_lay {D:DS}:rdD D layoutP=none ↔ findE layoutP D.R.now=none:=by
 unfold rdD
 have:¬ isPathB layoutP=false:=by decide
 rw [if_neg this,Option.map_eq_none_iff]
theorem open_pure {D D':DS} {k:Int} (h:Er D) (hr:36≤D.R.room) (hb:OpR D k D'):k=0∧Kp D D'∧Ea D'∧(D.R.left = -1→Rest3 D'):=by
 rcases hb with ⟨h1,h2⟩|⟨⟨t,c,_,_,_,_,_,_,hs⟩,h2⟩
 ·exact begin_pure h (rd_lay.1 h1) hr h2
 ·rcases h.or with hn|h3
  ·rw [rd_lay.2 hn] at hs
   cases hs
  ·obtain ⟨a,b,c,d⟩:=go_pure h h3 h2
   exact ⟨a,b,c,fun _=>d⟩
def crD (D:DS) (n:Nat) (ks:List Int):DS:=⟨{ D.R with now:=goE D.R.safe (D.R.chg.take n),safe:=goE D.R.safe (D.R.chg.take n),chg:=[],left := -1 },D.fs,crashN D.fd (goE D.R.safe (D.R.chg.take n)) ks⟩
end Go.Proofs.YtncigfibncmioaaGreatDoor
namespace Go.Proofs.YtncigfibncmioaaGreatDoor
set_option maxHeartbeats 2000000
set_option maxRecDepth 100000
open Go.RowKit
section
variable {RO:DS→Int→DS→Prop} {nc nt:Nat} {Dc Dt:DataW Value}
def OpC (RO:DS→Int→DS→Prop) (nc nt:Nat) (Dc Dt:DataW Value) (s:PSt) (w:World):Prop:=∀ W,Below w.heap.size w W→Calls Tryz.prog 50 #[.pointer (some ⟨s.b,0,none⟩)] W fun e w'=>∃ k s' sv ev,e = .returned (.tuple #[sv,ev])∧ErrV w' ev k∧PGo s s' W w'∧RO s.ds k s'.ds ∧
 (k=0→∃ sb cb tb,sv = .pointer (some ⟨sb,0,none⟩)∧(W.heap.size≤sb∧W.heap.size≤cb∧W.heap.size≤tb)∧StW w' sb s' cb tb nc nt Dc Dt)∧(k≠0→sv = .pointer none)
structure OpDM (RO:DS→Int→DS→Prop) (nc nt:Nat) (Dc Dt:DataW Value) (s:PSt) (w w':World) (k:Int) (s':PSt) (sv ev:Value):Prop where
 ev:ErrV w' ev k
 go:PGo s s' w w'
 r:RO s.ds k s'.ds
 ok:k=0→∃ sb cb tb,sv = .pointer (some ⟨sb,0,none⟩)∧(w.heap.size≤sb∧w.heap.size≤cb∧w.heap.size≤tb)∧StW w' sb s' cb tb nc nt Dc Dt
 no:k≠0→sv = .pointer none
theorem open1_many (s:PSt) (w W:World) (d gd gf ge:Nat) (h:s.In w) (hgl:Gl w) (hop:OpC RO nc nt Dc Dt s w)
  (hB:Below w.heap.size w W) (hbd:BD w d s.b) (h1:W.heap[gd]? = some (.cells #[.pointer (some ⟨d,0,none⟩)] 23 (0,0))) (h2:W.heap[gf]? = some (.cells #[.pointer none] 92 (0,0))) (h3:W.heap[ge]? = some (.cells #[.nilIface] 94 (0,0))) (l2:w.heap.size≤gf) (l3:w.heap.size≤ge) :
  Calls Tryz.prog 49 #[.pointer (some ⟨gd,0,none⟩),.pointer (some ⟨gf,0,none⟩),.pointer (some ⟨ge,0,none⟩)] W fun e w'=>e = .returned (.tuple #[])∧∃ k s' sv ev,OpDM RO nc nt Dc Dt s w w' k s' sv ev∧w'.heap[gf]? = some (.cells #[sv] 92 (0,0))∧w'.heap[ge]? = some (.cells #[ev] 94 (0,0)) ∧
   ∀ k cur T,W.heap[k]? = some (.cells cur T (0,0))→k≠gf→k≠ge→T≠150→T≠214→T≠154→T≠5→w'.heap[k]? = some (.cells cur T (0,0)):=by
 have hi:=h.later hB
 have HOP:=hide (hop W hB)
 have hbd2:W.heap[d]? = some (.cells #[.pointer (some ⟨s.b,0,none⟩)] 90 (0,0)):=(hB.block d (lt_heap hbd)).trans hbd
 have c0:=cell_of_row _ _ 0 _ _ _ h1
 have c1:=cell_of_row _ _ 0 _ _ _ hbd2
 have H:=hide h
 have HB:=hide hB
 have HGL:=hide hgl
 have HI:=hide hi
 have H2:=hide h2
 have H3:=hide h3
 clear h hgl hop hB hbd h1 h2 h3 hi hbd2
 go_enter Tryz.func49,Tryz.ntmps49
 go_wp2_with fail
 refine (HOP.out).mono ?_
 rintro _ w1 ⟨k,s',sv,ev,rfl,hev,hg,hr,hok,hno⟩
 dsimp only
 obtain ⟨po,rfl⟩ : ∃ po,sv = .pointer po:=by
  by_cases hk:k=0
  ·obtain ⟨sb,cb,tb,rfl, -⟩:=hok hk
   exact ⟨_,rfl⟩
  ·exact ⟨_,hno hk⟩
 have hg2:w1.heap[gf]? = some (.cells #[.pointer none] 92 (0,0)):=hg.keeps HI.out H2.out (by decide) (by decide) (by decide) (by decide)
 have hg3:w1.heap[ge]? = some (.cells #[.nilIface] 94 (0,0)):=hg.keeps HI.out H3.out (by decide) (by decide) (by decide) (by decide)
 have q1:=cell_of_row _ _ 0 _ _ _ hg2
 have q2:=frozen_of_row _ _ 0 _ _ hg2
 have q3:=cell_of_row _ _ 0 _ _ _ hg3
 have q4:=frozen_of_row _ _ 0 _ _ hg3
 have hev2:ev = .nilIface∨∃ ti pp,ev = .iface ti pp:=by
  rcases hev with ⟨-,h⟩|⟨-,a,b,h, -⟩
  ·exact .inl h
  ·exact .inr ⟨_,_,h⟩
 have HG:=hide hg
 have HEV:=hide hev
 have HR:=hide hr
 have HOK:=hide hok
 have HNO:=hide hno
 have G2:=hide hg2
 have G3:=hide hg3
 clear hg hev hr hok hno hg2 hg3
 have hne:ge≠gf:=by simpa using type_ne G3.out G2.out (by decide)
 have G3':(w1.setCell ⟨gf,0,none⟩ (.pointer po)).heap[ge]? = some (.cells #[.nilIface] 94 (0,0)):=(heap_setCell_other _ _ _ _ hne).trans G3.out
 have q5:=cell_of_row _ _ 0 _ _ _ G3'
 have q6:=frozen_of_row _ _ 0 _ _ G3'
 have hfin:∃ k s' sv ev',OpDM RO nc nt Dc Dt s w ((w1.setCell ⟨gf,0,none⟩ (.pointer po)).setCell ⟨ge,0,none⟩ ev) k s' sv ev'∧((w1.setCell ⟨gf,0,none⟩ (.pointer po)).setCell ⟨ge,0,none⟩ ev).heap[gf]? = some (.cells #[sv] 92 (0,0))∧((w1.setCell ⟨gf,0,none⟩ (.pointer po)).setCell ⟨ge,0,none⟩ ev).heap[ge]? = some (.cells #[ev'] 94 (0,0)) ∧
   ∀ k cur T,W.heap[k]? = some (.cells cur T (0,0))→k≠gf→k≠ge→T≠150→T≠214→T≠154→T≠5→((w1.setCell ⟨gf,0,none⟩ (.pointer po)).setCell ⟨ge,0,none⟩ ev).heap[k]? = some (.cells cur T (0,0)):=by
  have g0:=(PGo.refl H.out HB.out).trans HG.out
  have g1:PGo s s' w (w1.setCell ⟨gf,0,none⟩ (.pointer po)):=g0.setNew l2 G2.out (by decide) (by decide) (by decide) (by decide)
  have g2:PGo s s' w ((w1.setCell ⟨gf,0,none⟩ (.pointer po)).setCell ⟨ge,0,none⟩ ev):=g1.setNew l3 G3' (by decide) (by decide) (by decide) (by decide)
  refine ⟨k,s',.pointer po,ev,⟨(HEV.out.put G2.out (by decide)).put G3' (by decide),g2,HR.out,fun hk=>?_,HNO.out⟩,?_,?_,?_⟩
  ·obtain ⟨sb,cb,tb,e,hl,hs⟩:=HOK.out hk
   have hlo:=HB.out.size
   exact ⟨sb,cb,tb,e,by omega,(hs.put G2.out (by decide) g1.inn (fun e=>by have:=HGL.out.lt e;omega)).put G3' (by decide) g2.inn (fun e=>by have:=HGL.out.lt e;omega)⟩
  ·rw [heap_setCell_other _ _ _ _ (fun e=>hne e.symm),heap_setCell_same _ gf 0 _ _ _ G2.out]
   rfl
  ·rw [heap_setCell_same _ ge 0 _ _ _ G3']
   rfl
  ·intro k cur T hk n1 n2 t1 t2 t3 t4
   rw [heap_setCell_other _ _ _ _ n2,heap_setCell_other _ _ _ _ n1]
   exact HG.out.keeps HI.out hk t1 t2 t3 t4
 have HFIN:=hide hfin
 clear hfin
 have G3H:=hide G3'
 clear G3'
 rcases hev2 with rfl|⟨ti,pp,rfl⟩
 ·go_wp2_with fail
  go_end0
  exact ⟨rfl,HFIN.out⟩
 ·go_wp2_with fail
  go_end0
  exact ⟨rfl,HFIN.out⟩
theorem OpDM.put {s s':PSt} {w W:World} {k:Int} {sv ev v:Value} {b i:Nat} {cur:Array Value} {T:TypeId} (h:OpDM RO nc nt Dc Dt s w W k s' sv ev) (hg:Gl w) (hb:W.heap[b]? = some (.cells cur T (0,0))) (hl:w.heap.size≤b) (t0:T≠159) (t1:T≠150) (t2:T≠214) (t3:T≠154) (t4:T≠5) (t5:T≠167):OpDM RO nc nt Dc Dt s w (W.setCell ⟨b,i,none⟩ v) k s' sv ev:=by
 have g1:=h.go.setNew (v:=v) (i:=i) hl hb t1 t2 t3 t4
 refine ⟨h.ev.put hb t5,g1,h.r,fun hk=>?_,h.no⟩
 obtain ⟨sb,cb,tb,e,hl2,hs⟩:=h.ok hk
 exact ⟨sb,cb,tb,e,hl2,hs.put hb t0 g1.inn (fun e=>by have:=hg.lt e;omega)⟩
theorem bOpen_many (s:PSt) (w:World) (d:Nat) (h:s.In w) (hgl:Gl w) (hlow:LowS s) (hop:OpC RO nc nt Dc Dt s w) (hbd:BD w d s.b) :
  Calls Tryz.prog 17 #[.pointer (some ⟨d,0,none⟩)] w fun e w'=>∃ k s' sv,e = .returned (.tuple #[sv,.int .i64 k])∧PGo s s' w w'∧RO s.ds k s'.ds ∧
   (k=0→∃ xb sb cb tb,sv = .pointer (some ⟨xb,0,none⟩)∧BSt w' xb sb∧(w.heap.size≤sb∧w.heap.size≤cb∧w.heap.size≤tb)∧w.heap.size≤xb∧StW w' sb s' cb tb nc nt Dc Dt)∧(k≠0→sv = .pointer none):=by
 have hb3:=three_below w (.cells #[.pointer (some ⟨d,0,none⟩)] 23) (.cells #[.pointer none] 92) (.cells #[.nilIface] 94)
 have k0:=three0 w #[.pointer (some ⟨d,0,none⟩)] 23 (.cells #[.pointer none] 92) (.cells #[.nilIface] 94)
 have k1:=three1 w (.cells #[.pointer (some ⟨d,0,none⟩)] 23) #[.pointer none] 92 (.cells #[.nilIface] 94)
 have k2:=three2 w (.cells #[.pointer (some ⟨d,0,none⟩)] 23) (.cells #[.pointer none] 92) #[.nilIface] 94
 obtain ⟨W,hW⟩ : ∃ W,W=((w.alloc (.cells #[.pointer (some ⟨d,0,none⟩)] 23)).alloc (.cells #[.pointer none] 92)).alloc (.cells #[.nilIface] 94):=⟨_,rfl⟩
 have hmf:∀ (fn:Fn) (first cap:Array Value) (w:World),(Instr.makeFunc fn first cap).run Tryz.prog w = .ok (.func fn first cap) w:=fun _ _ _ _=>rfl
 have c0:(w.alloc (.cells #[.pointer (some ⟨d,0,none⟩)] 23)).cell? ⟨w.heap.size,0,none⟩=some (.pointer (some ⟨d,0,none⟩)):=cell_of_row _ _ 0 _ _ _ (heap_alloc_new _ _)
 rw [← hW] at hb3 k0 k1 k2
 have HW:=hide hW
 have hwz:W.heap.size=w.heap.size+3:=by rw [hW];simp
 obtain ⟨X,hX,hXB,x0,x1⟩:=two_cells W 27 3 (.int .i64 0) (.int .i64 0)
 have hBX:Below w.heap.size w X:=hb3.trans (hXB.mono hb3.size)
 have HRD:=hide (reading_any 49 #[.pointer (some ⟨w.heap.size,0,none⟩),.pointer (some ⟨w.heap.size+1,0,none⟩),.pointer (some ⟨w.heap.size+1+1,0,none⟩)] W
  (fun W1=>(∃ k s' sv ev,OpDM RO nc nt Dc Dt s w W1 k s' sv ev∧W1.heap[w.heap.size+1]? = some (.cells #[sv] 92 (0,0))∧W1.heap[w.heap.size+1+1]? = some (.cells #[ev] 94 (0,0)))∧W1.heap[W.heap.size]? = some (.cells #[.int .i64 0] 27 (0,0))∧W1.heap[W.heap.size+1]? = some (.cells #[.int .i64 0] 3 (0,0))) (fun _ _=>False)
  (enters_of Tryz.func49 (by kernel_rfl) rfl) (by
   rw [← hX]
   refine (open1_many s w X d w.heap.size (w.heap.size+1) (w.heap.size+1+1) h hgl hop hBX hbd ((hXB.block _ (lt_heap k0)).trans k0) ((hXB.block _ (lt_heap k1)).trans k1) ((hXB.block _ (lt_heap k2)).trans k2) (by omega) (by omega)).mono ?_
   rintro _ Y ⟨rfl,k,s',sv,ev,y1,y2,y3,y4⟩
   have z0:=y4 _ _ _ x0 (by omega) (by omega) (by decide) (by decide) (by decide) (by decide)
   have z1:=y4 _ _ _ x1 (by omega) (by omega) (by decide) (by decide) (by decide) (by decide)
   exact ⟨⟨z0,z1⟩,.inl ⟨rfl,⟨k,s',sv,ev,y1,y2,y3⟩,z0,z1⟩⟩))
 have HB3:=hide hb3
 have HGL:=hide hgl
 have HLOW:=hide hlow
 have H:=hide h
 clear hW hX hXB x0 x1 hBX hb3 k0 k1 k2 h hgl hlow hop hbd
 go_enter Tryz.func17,Tryz.ntmps17
 go_wp2_with fail
 rw [← HW.out]
 refine (HRD.out).mono ?_
 rintro e1 w1 he
 obtain ⟨W1,⟨⟨k,s',sv,ev,hop,hgf,hge⟩,hr0,hr1⟩,rfl,rfl⟩ : ∃ W1,((∃ k s' sv ev,OpDM RO nc nt Dc Dt s w W1 k s' sv ev∧W1.heap[w.heap.size+1]? = some (.cells #[sv] 92 (0,0))∧W1.heap[w.heap.size+1+1]? = some (.cells #[ev] 94 (0,0)))∧W1.heap[W.heap.size]? = some (.cells #[.int .i64 0] 27 (0,0))∧W1.heap[W.heap.size+1]? = some (.cells #[.int .i64 0] 3 (0,0)))∧e1 = .returned (.tuple #[.int .i64 0,.int .i64 0])∧w1=(W1.setCell ⟨W.heap.size,0,none⟩ (.int .i64 0)).setCell ⟨W.heap.size+1,0,none⟩ (.int .i64 0):=by
  rcases he with ⟨X,h1,h2,h3⟩|⟨p,X,h1, -⟩
  ·exact ⟨X,h1,h2,h3⟩
  ·exact h1.elim
 dsimp only
 have hn1:W.heap.size+1≠W.heap.size:=by omega
 have hr1':(W1.setCell ⟨W.heap.size,0,none⟩ (.int .i64 0)).heap[W.heap.size+1]? = some (.cells #[.int .i64 0] 3 (0,0)):=(heap_setCell_other _ _ _ _ hn1).trans hr1
 have hlo:=HB3.out.size
 have hop2:=(hop.put (v:=.int .i64 0) (i:=0) HGL.out hr0 (by omega) (by decide) (by decide) (by decide) (by decide) (by decide) (by decide)).put (v:=.int .i64 0) (i:=0) HGL.out hr1' (by omega) (by decide) (by decide) (by decide) (by decide) (by decide) (by decide)
 have hgf2:((W1.setCell ⟨W.heap.size,0,none⟩ (.int .i64 0)).setCell ⟨W.heap.size+1,0,none⟩ (.int .i64 0)).heap[w.heap.size+1]? = some (.cells #[sv] 92 (0,0)):=(heap_setCell_other _ _ _ _ (by simp;omega)).trans ((heap_setCell_other _ _ _ _ (by simp;omega)).trans hgf)
 have hge2:((W1.setCell ⟨W.heap.size,0,none⟩ (.int .i64 0)).setCell ⟨W.heap.size+1,0,none⟩ (.int .i64 0)).heap[w.heap.size+1+1]? = some (.cells #[ev] 94 (0,0)):=(heap_setCell_other _ _ _ _ (by simp;omega)).trans ((heap_setCell_other _ _ _ _ (by simp;omega)).trans hge)
 generalize (W1.setCell ⟨W.heap.size,0,none⟩ (.int .i64 0)).setCell ⟨W.heap.size+1,0,none⟩ (.int .i64 0)=W2 at hop2 hgf2 hge2 ⊢
 have cf:=cell_of_row _ _ 0 _ _ _ hgf2
 have ce:=cell_of_row _ _ 0 _ _ _ hge2
 have HOP:=hide hop2
 have HGF:=hide hgf2
 have HER:=hide (errno_ev hop2.ev (HGL.out.go HLOW.out hop2.go).1.err)
 clear hop hop2 hgf hge hgf2 hge2 hr0 hr1 hr1' HRD he
 go_wp2_with fail
 refine (HER.out).mono ?_
 rintro _ w3 ⟨rfl,hb3⟩
 dsimp only
 have cf3:=cell_later hb3 cf
 have HB4:=hide hb3
 clear hb3 HER cf ce
 by_cases hk:k=0
 ·subst hk
  obtain ⟨sb,cb,tb,rfl,hl,hs⟩:=HOP.out.ok rfl
  have HS:=hide hs
  clear hs
  go_wp2_with fail
  refine bodyPost_ret (results_tmp2 rfl _ _ _) rfl ?_
  have hb5:=HB4.out.alloc HB4.out.size (.cells #[.int .i32 0,.int .u32 0,.pointer (some ⟨sb,0,none⟩)] 108)
  have hz:=HB4.out.size
  have hz2:=HOP.out.go.gr.size
  exact ⟨0,s',_,rfl,HOP.out.go.trans (PGo.refl HOP.out.go.inn hb5),HOP.out.r,fun _=>⟨_,sb,cb,tb,rfl,heap_alloc_new _ _,hl,by omega,HS.out.later hb5⟩,fun hk=>absurd rfl hk⟩
 ·have hnp:=HOP.out.no hk
  subst hnp
  go_wp2_with fail
  refine bodyPost_ret (results_tmp2 rfl _ _ _) rfl ?_
  exact ⟨k,s',_,rfl,HOP.out.go.trans (PGo.refl HOP.out.go.inn HB4.out),HOP.out.r,fun h=>absurd h hk,fun _=>rfl⟩
end
end Go.Proofs.YtncigfibncmioaaGreatDoor
namespace Go.Proofs.YtncigfibncmioaaGreatDoor
open Go.RowKit
theorem lits5 (d n:Nat) (h:n<256):Tryz.prog.keyLits (d+1) 5 [.int .u8 ((n:Nat):Int)]=some [.int .u8 ((n:Nat):Int)]:=by
 have hw:(Lit.int .u8 ((n:Nat):Int)).wf=true:=by
  have h1:IntKind.min .u8=0:=by decide
  have h2:IntKind.max .u8=255:=by decide
  simp [Lit.wf,h1,h2]
  omega
 unfold Program.keyLits
 rw [Tryz.underlying5]
 simp [hw]
theorem drop8 (ds:List Nat) (i:Nat) (hi:i<ds.length):(((cells8 ds).toList.drop (i * 1)).take 1) = [.int .u8 ((ds.getD i 0:Nat):Int)]:=by
 rw [Nat.mul_one]
 have hl:i<(cells8 ds).toList.length:=by rw [Array.length_toList,cells8_size];exact hi
 rw [List.drop_eq_getElem_cons hl,List.take_succ_cons,List.take_zero]
 congr 1
 simp [cells8,hi]
theorem cellsOf5:Tryz.prog.cellsOf 5=1:=by kernel_rfl
theorem mapM_lits (d:Nat) (ds:List Nat) (hlt:∀ i,ds.getD i 0<256):∀ (is:List Nat),(∀ i∈is,i<ds.length)→is.mapM (fun i=>Tryz.prog.keyLits (d+1) 5 (((cells8 ds).toList.drop (i * Tryz.prog.cellsOf 5)).take (Tryz.prog.cellsOf 5)))=some (is.map fun i=>[Lit.int .u8 ((ds.getD i 0:Nat):Int)])
 | [],_=>rfl
 | i::is,h=>by
  rw [List.mapM_cons,cellsOf5,drop8 ds i (h i (by simp)),lits5 d _ (hlt i)]
  have ih:=mapM_lits d ds hlt is (fun j hj=>h j (by simp [hj]))
  rw [cellsOf5] at ih
  rw [ih]
  rfl
theorem flat_lits (ds:List Nat) (h:ds.length=32):((List.range 32).map fun i=>[Lit.int .u8 ((ds.getD i 0:Nat):Int)]).flatten=ds.map fun n=>Lit.int .u8 ((n:Nat):Int):=by
 have:((List.range 32).map fun i=>[Lit.int .u8 ((ds.getD i 0:Nat):Int)]).flatten=(List.range 32).map fun i=>Lit.int .u8 ((ds.getD i 0:Nat):Int):=by
  rw [← List.flatMap_def]
  simp
  rfl
 rw [this]
 apply List.ext_getElem
 ·simp [h]
 ·intro i h1 h2
  simp only [List.length_map] at h2
  simp [h2]
def dKey (ds:List Nat):Lit:=.string (keyBytes (ds.map fun n=>Lit.int .u8 ((n:Nat):Int)))
theorem key_dig (ds:List Nat) (h:ds.length=32) (hlt:∀ i,ds.getD i 0<256):keyOf Tryz.prog 117 (.agg (cells8 ds))=some (dKey ds):=by
 have hu:=Tryz.underlying117
 have hc:Tryz.prog.cellsOf 117=32:=by kernel_rfl
 have hk:Tryz.prog.keyType 117=true:=by kernel_rfl
 have hf:(Value.agg (cells8 ds)).formed Tryz.prog 117=true:=by simp [Value.formed,hu,hc,cells8_size,h]
 have hl:Tryz.prog.keyLits (Tryz.prog.types.size+1) 117 (cells8 ds).toList=some (ds.map fun n=>Lit.int .u8 ((n:Nat):Int)):=by
  rw [show Tryz.prog.types.size=(Tryz.prog.types.size - 1)+1 from by kernel_rfl]
  unfold Program.keyLits
  rw [hu]
  simp only []
  rw [if_pos (by rw [hc,Array.length_toList,cells8_size,h]),mapM_lits _ ds hlt _ (fun i hi=>by rw [h];exact List.mem_range.1 hi)]
  exact congrArg some (flat_lits ds h)
 unfold keyOf
 rw [hu]
 simp only [hk,hf,Bool.and_self,if_true]
 show (Tryz.prog.keyLits _ _ (cells8 ds).toList).map _=_
 rw [hl]
 rfl
theorem lits_inj {a b:List Nat} (h:(a.map fun n=>Lit.int .u8 ((n:Nat):Int))=b.map fun n=>Lit.int .u8 ((n:Nat):Int)):a=b:=by
 induction a generalizing b with
 | nil=>cases b with
  | nil=>rfl
  | cons y b=>cases h
 | cons x a ih=>cases b with
  | nil=>cases h
  | cons y b =>
   simp only [List.map_cons] at h
   injection h with h1 h2
   injection h1 with _ h1
   rw [ih h2,Int.ofNat.inj h1]
theorem eq_dig (d:Nat) (a b:List Nat) (ha:a.length=32) (hb:b.length=32) (ha':∀ i,a.getD i 0<256) (hb':∀ i,b.getD i 0<256) (w:World) :
  (Op.equalIn (d+2) 117 (.agg (cells8 a)) (.agg (cells8 b))).run Tryz.prog w = .ok (decide (a=b)) w:=by
 obtain ⟨i5,hi5⟩:=Option.isSome_iff_exists.1 (show (Tryz.prog.info? 5).isSome=true by kernel_rfl)
 rw [run_equalIn_array w (d+1) (cells8 a) (cells8 b) Tryz.underlying117 hi5]
 obtain ⟨r,hr,hiff⟩:=run_eqItems_plain w d (e:=5) (by kernel_rfl) (cells8 a) (cells8 b) (List.range 32) _ _ (mapM_lits 0 a ha' _ (fun i hi=>by rw [ha];exact List.mem_range.1 hi)) (mapM_lits 0 b hb' _ (fun i hi=>by rw [hb];exact List.mem_range.1 hi))
 rw [flat_lits a ha,flat_lits b hb] at hiff
 have hi2:r=true ↔ a=b:=hiff.trans ⟨lits_inj,fun h=>by rw [h]⟩
 have hd:r=decide (a=b):=by
  cases r with
  | true=>exact (decide_eq_true (hi2.1 rfl)).symm
  | false=>exact (decide_eq_false (fun h=>by cases hi2.2 h)).symm
 rw [← hd]
 exact hr
theorem guard_dig:Tryz.prog.eqGuardType Tryz.prog.depth 117=false:=by kernel_rfl
theorem wpList_eqDig {ops:Array Oper} {Q:Exit→Act→World→Prop} {o:Oper} {rest:List Oper} {c:Act} {w:World} (hgd:o.guard=none) (x y:Operand) (k:TypeId) (hop:o.op=Op.binOp .eql 117 x y k) (a b:List Nat) (ha:a.length=32) (hb:b.length=32) (ha':∀ i,a.getD i 0<256) (hb':∀ i,b.getD i 0<256) (hx:c.eval x = .agg (cells8 a)) (hy:c.eval y = .agg (cells8 b))
  (hK:wpList Tryz.prog ops Q rest (c.put o.dst (.bool (decide (a=b)))) w):wpList Tryz.prog ops Q (o::rest) c w:=by
 refine wpList_plain hgd fun K' hK'=>?_
 have hr:=eq_dig 9998 a b ha hb ha' hb' w
 unfold Oper.wp execOp
 simp only [hop,hx,hy,eqGuard,binOp,Op.equal,Op.maxDepth,Sem.run_bind,Sem.run_pure,run_program,Result.andThen_ok,guard_dig,hr,Bool.not_true,Bool.not_false,Bool.false_eq_true,if_false,if_true]
 exact hK' _ _ hK
end Go.Proofs.YtncigfibncmioaaGreatDoor
