/-
  PROVED HERE: what the program's own List of disks answers: the paths, the lesser first.
-/
import Derived.Test.YtncigfibncmioaaGreatDoorPdSet
import Derived.Test.YtncigfibncmioaaGreatDoorPdIter
set_option maxHeartbeats 2000000
set_option maxRecDepth 100000
namespace Go.Proofs.YtncigfibncmioaaGreatDoor
open Go.RowKit Go.Sort
def pW (l:List DE):List Value:=l.map fun e=>.string e.path
theorem Qkx {l:List DE} (hr:bZ l) {ss:List (List UInt8)} (hp:ss.Perm (strKeys (jd l))):(ss.mergeSort (fun x y=>decide (x<=y))).map encStr=pW l/\ss.length=l.length:=by
 have hk:strKeys (jd l)=l.map fun e=>e.path.data.toList:=by
  show (l.map dE).map (fun p=>strOf p.1)=_;rw [List.map_map];rfl
 have hlt:∀ x y:ByteArray,bJ x y=true->x.data.toList<y.data.toList:=by
  intro x y h;unfold bJ at h;rw [bytesLess_eq,ByteArray.toList_eq,ByteArray.toList_eq] at h;exact of_decide_eq_true h
 refine ⟨?_,?_⟩
 ·rw [mergeSort_of_perm hp,hk];have hs:(l.map fun e=>e.path.data.toList).Pairwise (fun x y=>decide (x<=y)=true):=by
   rw [List.pairwise_map];refine hr.imp ?_;intro x y Cl;have:=hlt _ _ Cl;exact decide_eq_true (List.le_of_lt this)
  rw [List.mergeSort_of_pairwise hs,List.map_map];rfl
 ·rw [hp.length_eq,hk,List.length_map]
theorem Qky (mb:Nat) (l:List DE) (w:World) (h:PM Tryz.prog 9 w mb l) (hl:l.length<=100000000) :
  Calls Tryz.prog 97 #[.map (some mb)] w fun e w'=>∃ v,e = .returned v/\w'.ownsRow w.heap.size 9 1 v l.length (pW l)/\Below w.heap.size w w':=by
 have HK:=aa (callsIn_wide.1 (Tryz.tE (some mb) w));have hsz:Maps.size (jd l)=l.length:=by simp [jd,Maps.size]
 have HS:=aa (callsIn_wide.1 (Tryz.mN mb l.length (jd l) uR w h (by rw [hsz];unfold maxLen;omega) (by rw [hsz];omega)));have HR:=aa (h.rise (Maps.string_keyed Tryz.underlying9));clear h hsz;go_enter Tryz.func97,Tryz.ntmps97;go_wp2_with fail;refine (HK.out).mono ?_;rintro _ w1 ⟨rfl,hw⟩;subst hw;dsimp only;go_wp2_with fail;refine (HS.out).mono ?_;rintro _ w2 ⟨v,ss,rfl,qT,hrow,_,hb⟩;dsimp only;obtain ⟨e1,e2⟩:=Qkx HR.out qT;rw [e1,e2] at hrow;have aV:w2.ownsRow w.heap.size 9 1 v l.length (pW l)/\Below w.heap.size w w2 :=
  ⟨hrow.ez (by rw [size_alloc];omega),((Below.refl _ _).alloc (Nat.le_refl _) _).trans (hb.mono (by rw [size_alloc];omega))⟩
 have bG:=aa aV;clear qT hrow hb e1 e2 aV;go_wp2_with fail;go_ret;exact ⟨_,rfl,bG.out.1,bG.out.2⟩
theorem OE (b:Nat) (R:dz) (mb lb:Nat) (cv:Value) (w:World) (h:bH w b R mb lb cv) (hl:R.now.length<=100000000) :
  Calls Tryz.prog 54 #[.pointer (some ⟨b,0,none⟩)] w fun e w'=>∃ v,e = .returned v/\w'.ownsRow w.heap.size 9 1 v R.now.length (pW R.now)/\Below w.heap.size w w':=by
 have c1:w.cell? ⟨b,1,none⟩=some (.map (some mb)):=cell_of_row _ _ 1 _ _ _ h.blk;have HS:=aa (Qky mb R.now w h.now hl);clear h;go_enter Tryz.func54,Tryz.ntmps54;go_wp2_with fail;refine (HS.out).mono ?_;rintro _ w2 ⟨v,rfl,hrow,hb⟩;dsimp only;have HR:=aa hrow;have HB:=aa hb;clear hrow hb;go_wp2_with fail;go_ret;exact ⟨_,rfl,HR.out,HB.out⟩
open Go.RowKit
structure FD (w:World) (f:Nat) (x:ByteArray × Int) (v:Value):Prop where
 blk:w.heap[f]? = some (.cells #[v,.int .i64 x.2] 154 (0,0))
 row:w.ownsRow 0 5 1 v x.1.size (Lib.strCells x.1)
theorem Qig (s:ByteArray) (m:Nat):Lib.strCells (s.extract 0 m)=(Lib.strCells s).take m:=by
 unfold Lib.strCells;rw [<- List.map_take];congr 1;simp
theorem Qjn (s t:ByteArray):Lib.strCells (s++t)=Lib.strCells s++Lib.strCells t:=by
 unfold Lib.strCells;rw [<- List.map_append];simp
theorem O5 (s:ByteArray) {m:Nat} (hm:m<=s.size):(s.extract 0 m).size=m:=by simp;omega
theorem Qqd {w:World} {e:TypeId} {o:Option Addr} {n m cap:Nat} {xs:List Value} (h:w.ownsRow 0 e 1 (.slice o n cap) n xs) (hm:m<=n):w.ownsRow 0 e 1 (.slice o m cap) m (xs.take m):=by
 have hl:xs.length=n:=by simpa using h.1
 refine ⟨by rw [List.length_take];omega,?_⟩
 rcases h.2 with ⟨h1,h2⟩|⟨g,cp,cur,h1,h2,h3,h4,h5,h6,h7⟩
 ·injection h1 with h1 _ h3
  subst h1;subst h3;have:m=0:=by omega
  subst this;exact .inl ⟨rfl,rfl⟩
 ·injection h1 with h1 _ h8
  subst h1;subst h8;refine .inr ⟨g,cap,cur,rfl,h2,h3,by omega,h5,h6,?_⟩;rw [<- h7,List.take_take];congr 1;omega
theorem FD.shape {w:World} {f:Nat} {x:ByteArray × Int} {v:Value} (h:FD w f x v):∃ o cap,v = .slice o x.1.size cap/\x.1.size<=cap/\cap<=maxLen:=by
 rcases h.row.2 with ⟨rfl,h0⟩|⟨g,cap,cur,rfl,_,_,h4,h5,_⟩
 ·exact ⟨none,0,by rw [h0],by omega,by unfold maxLen;omega⟩
 ·exact ⟨_,cap,rfl,h4,h5⟩
theorem FD.yU {w:World} {f:Nat} {x:ByteArray × Int} {v:Value} (h:FD w f x v):v.ownBlock≠some f:=by
 intro e;obtain ⟨cur,hc⟩:=eO h.row f e;exact ja hc h.blk (by decide) rfl
theorem FD.set {w:World} {f:Nat} {x y:ByteArray × Int} {v v':Value} (h:FD w f x v) (ho:w.ownsRow 0 5 1 v' y.1.size (Lib.strCells y.1)):FD ((w.setCell ⟨f,0,none⟩ v').setCell ⟨f,1,none⟩ (.int .i64 y.2)) f y v':=by
 refine ⟨by rw [heap_setCell_same _ f 1 _ _ _ (heap_setCell_same _ f 0 _ _ _ h.blk)];rfl,jQ ho (fun k hk _=>?_)⟩;have hk2:k≠f:=by
  intro e;rw [e] at hk;obtain ⟨cur,hc⟩:=eO ho f hk;exact ja hc h.blk (by decide) rfl
 rw [heap_setCell_other _ _ _ _ (by simpa using hk2),heap_setCell_other _ _ _ _ (by simpa using hk2)]
theorem FD.Sz {w:World} {f:Nat} {x y:ByteArray × Int} {v v':Value} (h:w.heap[f]? = some (.cells #[v,.int .i64 x.2] 154 (0,0))) (hy:y.2=x.2) (ho:w.ownsRow 0 5 1 v' y.1.size (Lib.strCells y.1)):FD (w.setCell ⟨f,0,none⟩ v') f y v':=by
 refine ⟨by rw [heap_setCell_same _ f 0 _ _ _ h,hy];rfl,jQ ho (fun k hk _=>?_)⟩;have hk2:k≠f:=by
  intro e;rw [e] at hk;obtain ⟨cur,hc⟩:=eO ho f hk;exact ja hc h (by decide) rfl
 exact heap_setCell_other _ _ _ _ (by simpa using hk2)
theorem FD.Tl {w:World} {f:Nat} {x:ByteArray × Int} {v:Value} (h:FD w f x v) (y:Int):FD (w.setCell ⟨f,1,none⟩ (.int .i64 y)) f (x.1,y) v:=by
 refine ⟨by rw [heap_setCell_same _ f 1 _ _ _ h.blk];rfl,jQ h.row (fun k hk _=>heap_setCell_other _ _ _ _ (fun e=>h.yU (by simp only at e;rw [<- e];exact hk)))⟩
theorem Qqe (f:Nat) (x:ByteArray × Int) (v:Value) (n:Nat) (w:World) (h:FD w f x v) (hn:n<=x.1.size) :
  Calls Tryz.prog 88 #[.pointer (some ⟨f,0,none⟩),.int .i64 (n:Int)] w fun e w'=>e = .returned (.tuple #[])/\w.grownBy w' (some f)/\∃ v',FD w' f (x.1.extract 0 n,min x.2 (n:Int)) v'/\v'.ownBlock=v.ownBlock:=by
 obtain ⟨o,cap,rfl,hc1,hc2⟩:=h.shape;have c0:w.cell? ⟨f,0,none⟩=some (.slice o x.1.size cap):=cell_of_row _ _ 0 _ _ _ h.blk;have c1:w.cell? ⟨f,1,none⟩=some (.int .i64 x.2):=cell_of_row _ _ 1 _ _ _ h.blk;have ff:=fun j=>frozen_of_row w f j _ _ h.blk
 have ho:=Qqd h.row hn;rw [<- Qig] at ho;have dh:∀ y:Int,FD ((w.setCell ⟨f,0,none⟩ (.slice o n cap)).setCell ⟨f,1,none⟩ (.int .i64 y)) f (x.1.extract 0 n,y) (.slice o n cap):=fun y=>h.set (y:=(x.1.extract 0 n,y)) (by dsimp only;rw [O5 _ hn];exact ho)
 have HS:=aa dh;have HG:Hid (∀ y:Int,w.grownBy ((w.setCell ⟨f,0,none⟩ (.slice o n cap)).setCell ⟨f,1,none⟩ (.int .i64 y)) (some f)):=fun y=>dF (nE _ _ _ _) (nE _ _ _ _)
 have LP:n<=cap:=by omega
 have LQ:cap<=9223372036854775807:=by unfold maxLen at hc2;omega
 have ux:∀ m,(Value.slice o m cap).ownBlock=(Value.slice o x.1.size cap).ownBlock:=by intro m;cases o<;>rfl
 have Tm:=aa ux;clear h ho dh ux;generalize x.1.size=sz at c0 hc1 hn Tm;go_enter Tryz.func88,Tryz.ntmps88
 cases o with
 | none =>
  go_wp2_with fail
  go_end0
  exact ⟨rfl,HG.out _,_,HS.out _,Tm.out _⟩
 | some a =>
  go_wp2_with fail
  go_end0
  exact ⟨rfl,HG.out _,_,HS.out _,Tm.out _⟩
theorem Z6 (f:Nat) (x:ByteArray × Int) (v:Value) (w:World) (h:FD w f x v) :
  Calls Tryz.prog 89 #[.pointer (some ⟨f,0,none⟩)] w fun e w'=>e = .returned (.tuple #[])/\w.grownBy w' (some f)/\FD w' f (x.1,(x.1.size:Int)) v:=by
 have HF:=aa (h.Tl (x.1.size:Int));obtain ⟨o,cap,rfl,hc1,hc2⟩:=h.shape;have c0:w.cell? ⟨f,0,none⟩=some (.slice o x.1.size cap):=cell_of_row _ _ 0 _ _ _ h.blk;have c1:w.cell? ⟨f,1,none⟩=some (.int .i64 x.2):=cell_of_row _ _ 1 _ _ _ h.blk;have ff:=fun j=>frozen_of_row w f j _ _ h.blk
 clear h;go_enter Tryz.func89,Tryz.ntmps89;go_wp2_with fail
 go_end0
 exact ⟨rfl,nE _ _ _ _,HF.out⟩
theorem Qkw {w w':World} {e:TypeId} {v v':Value} {n:Nat} {xs:List Value} (h:w'.ownsRow w.heap.size e 1 v' n xs):BO w v v':=.inr fun k hk=>(h.lt k hk).1
theorem Qhd {P:Program} (w:World) (t u ty e:TypeId) (i:TypeInfo) (ht:P.underlying t=some (.slice e)) (hu:P.underlying u=some .string) (hi:P.info? e=some i) (hz:i.zero=some (.int .u8 0)) (hsize:i.size=1) (hby:i.bytes=1)
  (v:Value) (n:Nat) (xs:List Value) (hown:w.ownsRow 0 e 1 v n xs) (s:ByteArray) (hbytes:n+s.size<=140737488355328) :
  ∃ o cap w',(Builtin.append_ #[t,u] ty #[v,.string s]).run P w = .ok (.slice o (n+s.size) cap) w'/\w'.ownsRow 0 e 1 (.slice o (n+s.size) cap) (n+s.size) (xs++Lib.strCells s)/\w.grownBy w' v.ownBlock/\BO w v (.slice o (n+s.size) cap):=by
 have h63:n+s.size<=maxLen:=by unfold maxLen;omega
 obtain ⟨v',w',hr,h2,h3,h4⟩:=Lib.run_append_own_string (P:=P) w 0 t u ty e i ht hu hi hz hsize hby v n xs hown s h63 hbytes (Nat.zero_le _);obtain ⟨o,cap,rfl⟩:=jG h2;refine ⟨o,cap,w',hr,h2,h3,?_⟩
 rcases hown.2 with ⟨rfl,rfl⟩|⟨g,cp,cur,rfl,hbg,hg,iZ,hcm,hcs,qJ⟩
 ·have hx:xs = []:=List.eq_nil_of_length_eq_zero (by simpa using hown.1);subst hx;obtain ⟨v2,w2,hr2,k2,_⟩:=Lib.run_append_own_string (P:=P) w w.heap.size t u ty e i ht hu hi hz hsize hby _ 0 [] (World.ownsRow_nil _ _ _ _) s h63 hbytes (Nat.le_refl _);rw [hr] at hr2;injection hr2 with e1 e2
  subst e1;subst e2;exact Qkw k2
 ·by_cases hroom:n+s.size<=cp
  ·have hr2:=Lib.run_append_room_string (P:=P) w t u ty e i ht hu hi hsize g n cp cur hg s hroom (by simp at hcs;omega);rw [hr] at hr2;injection hr2 with e1 e2
   injection e1 with e1
   subst e1;exact .inl rfl
  ·have holds:∀ j u,xs[j]? = some u->w.cell? ((⟨g,0,none⟩ : Addr).add j)=some u:=hown.cells (g:=g) rfl;have hr2:=Lib.run_append_grow_string (P:=P) w t u ty e i (.int .u8 0) ht hu hi hz ⟨g,0,none⟩ n cp xs (by rw [hsize];simpa using hown.1) holds s (by omega) (by omega) (by rw [hby];exact growslice_fits (by omega) (by omega));rw [hr] at hr2;injection hr2 with e1 e2
   injection e1 with e1
   subst e1;refine .inr fun k hk=>?_
   simp only [Value.ownBlock,Option.some.injEq] at hk;omega
theorem Zu {P:Program} (w:World) {ops:Array Oper} {o:Oper} {a:Act} {K:Act->World->Prop} {Q:Exit->Act->World->Prop} {E:Prop} (hgd:o.guard=none) (sl x:Operand) (t u:TypeId)
  (ho:o.op = .call { callee:=.builtin .append,args:=#[sl,x],argTypes:=#[t,u] })
  (e:TypeId) (i:TypeInfo) (ht:P.underlying t=some (.slice e)) (hu:P.underlying u=some .string) (hi:P.info? e=some i) (hz:i.zero=some (.int .u8 0)) (hsize:i.size=1) (hby:i.bytes=1)
  (v:Value) (n:Nat) (xs:List Value) (hs:a.eval sl=v) (hown:w.ownsRow 0 e 1 v n xs) (s:ByteArray) (hx:a.eval x = .string s) (hbytes:n+s.size<=140737488355328)
  (h:∀ oa cap w',w'.ownsRow 0 e 1 (.slice oa (n+s.size) cap) (n+s.size) (xs++Lib.strCells s)->w.grownBy w' v.ownBlock->BO w v (.slice oa (n+s.size) cap)->K (a.put o.dst (.slice oa (n+s.size) cap)) w') :
  if Region.wanted o (yielded ops a.tmps)=true then Oper.wp P o a w K Q else E:=by
 have hw:Region.wanted o (yielded ops a.tmps)=true:=by simp [Region.wanted,hgd]
 rw [if_pos hw];obtain ⟨oa,cap,w',hr,h2,h3,h4⟩:=Qhd (P:=P) w t u o.type e i ht hu hi hz hsize hby v n xs hown s hbytes;unfold Oper.wp execOp;simp only [ho,resolve,invoke,builtin,Sem.run_bind,Sem.run_pure,Result.andThen_ok,List.map_toArray,List.map_cons,List.map_nil,hs,hx,hr];exact h oa cap w' h2 h3 h4
end Go.Proofs.YtncigfibncmioaaGreatDoor
namespace Go.Proofs.YtncigfibncmioaaGreatDoor
open Go.RowKit
structure ai where
 b:Nat
 mb:Nat
 lb:Nat
 cv:Value
 R:dz
 fs:List Nat
 fd:Nat->ByteArray × Int
 fv:Nat->Value
structure ai.In (s:ai) (w:World):Prop where
 is:bH w s.b s.R s.mb s.lb s.cv
 fds:∀ f∈s.fs,FD w f (s.fd f) (s.fv f)
 sep:∀ f∈s.fs,∀ g∈s.fs,f≠g->∀ k,(s.fv f).ownBlock=some k->(s.fv g).ownBlock≠some k
 cK:∀ e∈s.R.now,e.blk∈s.fs
 cH:∀ e∈s.R.safe,e.blk∈s.fs
 er:∀ c∈s.R.aw,c.blk∈s.fs
def ai.own (s:ai) (k:Nat):Prop:=k=s.b∨k=s.mb∨k=s.lb∨s.cv.ownBlock=some k∨k∈s.fs∨∃ f∈s.fs,(s.fv f).ownBlock=some k
theorem FD.same {w w':World} {f:Nat} {x:ByteArray × Int} {v:Value} (h:FD w f x v) (h1:w'.heap[f]? = w.heap[f]?) (h2:∀ k,v.ownBlock=some k->w'.heap[k]? = w.heap[k]?):FD w' f x v:=⟨h1.trans h.blk,jQ h.row (fun k hk _=>h2 k hk)⟩
theorem bH.same {w w':World} {b mb lb:Nat} {R:dz} {cv:Value} (h:bH w b R mb lb cv) (h1:w'.heap[b]? = w.heap[b]?) (h2:w'.heap[mb]? = w.heap[mb]?) (h3:w'.heap[lb]? = w.heap[lb]?) (h4:∀ k,cv.ownBlock=some k->w'.heap[k]? = w.heap[k]?):bH w' b R mb lb cv :=
 ⟨h1.trans h.blk,h.now.later h2,h.safe.later h3,h.apart,jQ h.aw (fun k hk _=>h4 k hk)⟩
theorem ai.In.lt {s:ai} {w:World} (h:s.In w) {k:Nat} (hk:s.own k):k<w.heap.size:=by
 rcases hk with rfl|rfl|rfl|hk|hk|⟨f,hf,hk⟩
 ·exact eB h.is.blk
 ·exact h.is.now.lt
 ·exact h.is.safe.lt
 ·obtain ⟨cur,hc⟩:=eO h.is.aw k hk;exact ax hc
 ·exact eB (h.fds k hk).blk
 ·obtain ⟨cur,hc⟩:=eO (h.fds f hf).row k hk;exact ax hc
theorem ai.In.same {s:ai} {w w':World} (h:s.In w) (hk:∀ k,s.own k->w'.heap[k]? = w.heap[k]?):s.In w':=by
 refine ⟨h.is.same (hk _ (.inl rfl)) (hk _ (.inr (.inl rfl))) (hk _ (.inr (.inr (.inl rfl)))) (fun k e=>hk k (.inr (.inr (.inr (.inl e))))),fun f hf=>?_,h.sep,h.cK,h.cH,h.er⟩;exact (h.fds f hf).same (hk f (.inr (.inr (.inr (.inr (.inl hf)))))) (fun k e=>hk k (.inr (.inr (.inr (.inr (.inr ⟨f,hf,e⟩))))))
theorem ai.In.later {s:ai} {w w':World} (h:s.In w) (hb:Below w.heap.size w w'):s.In w':=h.same fun k hk=>hb.block k (h.lt hk)
structure aC (s s':ai) (w w':World):Prop where
 b:s'.b=s.b
 ay:s'.In w'
 gr:Gr s.own w w'
 own:∀ k,s'.own k->s.own k∨w.heap.size<=k
theorem aC.refl {s:ai} {w w':World} (h:s.In w) (hb:Below w.heap.size w w'):aC s s w w':=⟨rfl,h.later hb,Gr.ae hb,fun _ hk=>.inl hk⟩
theorem aC.trans {s s1 s2:ai} {w w1 w2:World} (h1:aC s s1 w w1) (h2:aC s1 s2 w1 w2):aC s s2 w w2:=by
 refine ⟨h2.b.trans h1.b,h2.ay,⟨h2.gr.os.trans h1.gr.os,h2.gr.tape.trans h1.gr.tape,h2.gr.output.trans h1.gr.output,Nat.le_trans h1.gr.size h2.gr.size,fun k hk hn=>?_⟩,fun k hk=>?_⟩
 ·refine (h2.gr.block k (Nat.lt_of_lt_of_le hk h1.gr.size) (fun hs=>?_)).trans (h1.gr.block k hk hn)
  rcases h1.own k hs with h|h
  ·exact hn h
  ·omega
 ·rcases h2.own k hk with h|h
  ·exact h1.own k h
  ·exact .inr (Nat.le_trans h1.gr.size h)
theorem ai.In.tG {s:ai} {w:World} (h:s.In w) {f:Nat} (hf:f∈s.fs):f≠s.b/\f≠s.mb/\f≠s.lb/\s.cv.ownBlock≠some f/\∀ k,(s.fv f).ownBlock=some k->k≠s.b/\k≠s.mb/\k≠s.lb/\s.cv.ownBlock≠some k/\k ∉ s.fs:=by
 have hb:=(h.fds f hf).blk;obtain ⟨e1,c1,m1⟩:=h.is.now.isMap;obtain ⟨e2,c2,m2⟩:=h.is.safe.isMap;refine ⟨ja hb h.is.blk (by decide),(fun e=>by rw [e,m1] at hb;cases hb),(fun e=>by rw [e,m2] at hb;cases hb),fun e=>?_,fun k hk=>?_⟩
 ·obtain ⟨cur,hc⟩:=eO h.is.aw f e;exact ja hc hb (by decide) rfl
 ·obtain ⟨cur,hc⟩:=eO (h.fds f hf).row k hk;refine ⟨ja hc h.is.blk (by decide),(fun e=>by rw [e,m1] at hc;cases hc),(fun e=>by rw [e,m2] at hc;cases hc),fun e=>?_,fun e=>?_⟩
  ·obtain ⟨Tv,hc2⟩:=eO h.is.aw k e;exact ja hc hc2 (by decide) rfl
  ·exact ja hc (h.fds k e).blk (by decide) rfl
def nO (fv:Nat->Value) (f:Nat) (v:Value):Nat->Value:=fun k=>if k=f then v else fv k
theorem BU (nd:Nat->ByteArray × Int) (f:Nat) (x:ByteArray × Int):cB nd f x f=x:=by simp [cB]
theorem BV (nd:Nat->ByteArray × Int) {f k:Nat} (x:ByteArray × Int) (h:k≠f):cB nd f x k=nd k:=by simp [cB,h]
theorem qL (fv:Nat->Value) (f:Nat) (v:Value):nO fv f v f=v:=by simp [nO]
theorem uP (fv:Nat->Value) {f k:Nat} (v:Value) (h:k≠f):nO fv f v k=fv k:=by simp [nO,h]
theorem aC.file {s:ai} {w w':World} (h:s.In w) {f:Nat} (hf:f∈s.fs) {x:ByteArray × Int} {v:Value} (hg:Gr (fun k=>k=f∨(s.fv f).ownBlock=some k) w w') (hn:FD w' f x v) (hv:BO w (s.fv f) v) :
  aC s { s with fd:=cB s.fd f x,fv:=nO s.fv f v } w w':=by
 obtain ⟨n1,n2,n3,n4,n5⟩:=h.tG hf;have hk:∀ k,k<w.heap.size->k≠f->(s.fv f).ownBlock≠some k->w'.heap[k]? = w.heap[k]?:=fun k hk e1 e2=>hg.block k hk (fun e=>e.elim e1 e2)
 have hrow:∀ k,v.ownBlock=some k->(s.fv f).ownBlock=some k∨w.heap.size<=k:=fun k e=>hv.elim (fun h=>.inl (by rw [<- h];exact e)) (fun h=>.inr (h k e))
 refine ⟨rfl,⟨?_,?_,?_,h.cK,h.cH,h.er⟩,?_,?_⟩
 ·refine h.is.same (hk _ (eB h.is.blk) (Ne.symm n1) (fun e=>(n5 _ e).1 rfl)) (hk _ h.is.now.lt (Ne.symm n2) (fun e=>(n5 _ e).2.1 rfl)) (hk _ h.is.safe.lt (Ne.symm n3) (fun e=>(n5 _ e).2.2.1 rfl)) (fun k e=>?_);obtain ⟨cur,hc⟩:=eO h.is.aw k e;exact hk k (ax hc) (fun e2=>n4 (by rw [<- e2];exact e)) (fun e2=>(n5 _ e2).2.2.2.1 e)
 ·intro g hg2;dsimp only at hg2 ⊢
  by_cases e:g=f
  ·subst e;rw [BU,qL];exact hn
  ·rw [BV _ _ e,uP _ _ e];refine (h.fds g hg2).same (hk g (eB (h.fds g hg2).blk) e (fun e2=>(n5 _ e2).2.2.2.2 hg2)) (fun k ek=>?_);obtain ⟨cur,hc⟩:=eO (h.fds g hg2).row k ek;refine hk k (ax hc) (fun e2=>?_) (h.sep g hg2 f hf e k ek);exact (h.tG hg2).2.2.2.2 k ek |>.2.2.2.2 (by rw [e2];exact hf)
 ·intro g hg2 g' hg3 hne k ek;dsimp only at hg2 hg3 ek ⊢;have hold:∀ y∈s.fs,y≠f->∀ k,(s.fv y).ownBlock=some k->v.ownBlock≠some k:=by
   intro y hy hyf k e1 e2
   rcases hrow k e2 with e3|e3
   ·exact h.sep y hy f hf hyf k e1 e3
   ·obtain ⟨cur,hc⟩:=eO (h.fds y hy).row k e1;have:=ax hc;omega
  by_cases e:g=f
  ·subst e;rw [qL] at ek;rw [uP _ _ (Ne.symm hne)];exact fun e2=>hold g' hg3 (Ne.symm hne) k e2 ek
  ·rw [uP _ _ e] at ek
   by_cases e':g'=f
   ·subst e';rw [qL];exact hold g hg2 e k ek
   ·rw [uP _ _ e'];exact h.sep g hg2 g' hg3 hne k ek
 ·exact hg.mono fun k _ e=>e.elim (fun e=>by rw [e];exact .inr (.inr (.inr (.inr (.inl hf))))) (fun e=>.inr (.inr (.inr (.inr (.inr ⟨f,hf,e⟩)))))
 ·intro k hk2
  rcases hk2 with e|e|e|e|e|⟨g,hg2,e⟩
  ·exact .inl (.inl e)
  ·exact .inl (.inr (.inl e))
  ·exact .inl (.inr (.inr (.inl e)))
  ·exact .inl (.inr (.inr (.inr (.inl e))))
  ·exact .inl (.inr (.inr (.inr (.inr (.inl e)))))
  ·dsimp only at hg2 e
   by_cases e2:g=f
   ·subst e2;rw [qL] at e
    rcases hrow k e with e3|e3
    ·exact .inl (.inr (.inr (.inr (.inr (.inr ⟨g,hg2,e3⟩)))))
    ·exact .inr e3
   ·rw [uP _ _ e2] at e;exact .inl (.inr (.inr (.inr (.inr (.inr ⟨g,hg2,e⟩)))))
theorem aC.disk {s:ai} {w w':World} (h:s.In w) {R':dz} {zg za:Nat} {rU:Value} (hg:Gr (fun k=>k=s.b∨k=s.mb∨k=s.lb∨s.cv.ownBlock=some k) w w') (hd:bH w' s.b R' zg za rU)
  (hm:zg=s.mb∨w.heap.size<=zg) (hl:za=s.lb∨w.heap.size<=za) (hv:BO w s.cv rU) (h1:∀ e∈R'.now,e.blk∈s.fs) (h2:∀ e∈R'.safe,e.blk∈s.fs) (h3:∀ c∈R'.aw,c.blk∈s.fs) :
  aC s { s with R:=R',mb:=zg,lb:=za,cv:=rU } w w':=by
 refine ⟨rfl,⟨hd,?_,h.sep,h1,h2,h3⟩,hg.mono fun k _ e=>?_,?_⟩
 ·intro f hf;obtain ⟨n1,n2,n3,n4,n5⟩:=h.tG hf;refine (h.fds f hf).same (hg.block f (eB (h.fds f hf).blk) (fun e=>?_)) (fun k ek=>?_)
  ·rcases e with e|e|e|e
   ·exact n1 e
   ·exact n2 e
   ·exact n3 e
   ·exact n4 e
  ·obtain ⟨cur,hc⟩:=eO (h.fds f hf).row k ek;obtain ⟨m1,m2,m3,m4,_⟩:=n5 k ek;refine hg.block k (ax hc) (fun e=>?_)
   rcases e with e|e|e|e
   ·exact m1 e
   ·exact m2 e
   ·exact m3 e
   ·exact m4 e
 ·rcases e with e|e|e|e
  ·exact .inl e
  ·exact .inr (.inl e)
  ·exact .inr (.inr (.inl e))
  ·exact .inr (.inr (.inr (.inl e)))
 ·intro k hk2
  rcases hk2 with e|e|e|e|e|e
  ·exact .inl (.inl e)
  ·dsimp only at e
   rcases hm with hm|hm
   ·exact .inl (.inr (.inl (by rw [e,hm])))
   ·exact .inr (by rw [e];exact hm)
  ·dsimp only at e
   rcases hl with hl|hl
   ·exact .inl (.inr (.inr (.inl (by rw [e,hl]))))
   ·exact .inr (by rw [e];exact hl)
  ·dsimp only at e
   rcases hv with hv|hv
   ·exact .inl (.inr (.inr (.inr (.inl (by rw [<- hv];exact e)))))
   ·exact .inr (hv k e)
  ·exact .inl (.inr (.inr (.inr (.inr (.inl e)))))
  ·exact .inl (.inr (.inr (.inr (.inr (.inr e)))))
end Go.Proofs.YtncigfibncmioaaGreatDoor
namespace Go.Proofs.YtncigfibncmioaaGreatDoor
open Go.RowKit
def nS (ps:List ByteArray):Bool:=ps.any fun p=>!aK p
def xc (w:World) (v:Value) (ps:List ByteArray):Prop:=∃ oa c,v = .slice oa ps.length c/\∀ i,i<ps.length->∃ g,oa=some ⟨g,0,none⟩/\w.cell? ⟨g,i,none⟩=some (.string (ps.getD i ⟨#[]⟩))
theorem any_none {ps:List ByteArray} (h:∀ j,j<ps.length->aK (ps.getD j ⟨#[]⟩)=true):nS ps=false:=by
 unfold nS;rw [List.any_eq_false];intro p hp;obtain ⟨i,hi,rfl⟩:=List.getElem_of_mem hp;have:=h i hi;rw [List.getD_eq_getElem?_getD,List.getElem?_eq_getElem hi] at this;simpa using this
theorem any_some {ps:List ByteArray} {k:Nat} (hk:k<ps.length) (h:aK (ps.getD k ⟨#[]⟩)=false):nS ps=true:=by
 unfold nS;rw [List.any_eq_true];refine ⟨ps.getD k ⟨#[]⟩,?_,by rw [h];rfl⟩;rw [List.getD_eq_getElem?_getD,List.getElem?_eq_getElem hk];simp
theorem QmI (v:Value) (ps:List ByteArray) (w:World) (h:xc w v ps) (hl:ps.length<=1000000000) (hp:∀ p∈ps,p.size<=9223372036854775807) :
  Calls Tryz.prog 245 #[v,.func (.func 163) #[] #[]] w fun e w'=>w'=w/\∃ i:Int,e = .returned (.int .i64 i)/\decide (0<=i)=nS ps:=by
 obtain ⟨oa,c,rfl,hr⟩:=h;obtain ⟨n,hn⟩ : ∃ n,n=ps.length:=⟨_,rfl⟩;rw [<- hn] at hr hl ⊢;have HN:=aa hn;have HR:=aa hr;have HI:=aa (fun p (hm:p∈ps)=>Z7 p w (hp p hm));clear hn hr;go_enter Tryz.func245,Tryz.ntmps245;go_wp2_with fail
 go_loopw [8] (fun iv wr=>∃ k:Nat,k<=n/\iv = .int .i64 ((k:Nat):Int)/\wr=w/\∀ j,j<k->aK (ps.getD j ⟨#[]⟩)=true) (fun iv _=>n - (intOf iv).toNat)
 case atStart=>exact ⟨0,Nat.zero_le _,rfl,rfl,fun j hj=>by omega⟩
 case round =>
  obtain ⟨k,hk,rfl,hw,hne⟩:=hrel;subst hw;have F7:=aa hne;clear hne
  by_cases hlt:k<n
  ·obtain ⟨g,rfl,hrg⟩:=HR.out k hlt;have bc:ps.getD k ⟨#[]⟩∈ps:=by
    have hk2:k<ps.length:=by rw [<- HN.out];exact hlt
    rw [List.getD_eq_getElem?_getD,List.getElem?_eq_getElem hk2];simp
   have HC:=aa (HI.out _ bc);obtain ⟨p,vD⟩ : ∃ p,p=ps.getD k ⟨#[]⟩:=⟨_,rfl⟩;rw [<- vD] at hrg HC;have LR:=aa vD;clear bc vD;go_wp2_with fail;refine (HC.out).mono ?_;rintro _ w1 ⟨rfl,hw⟩;subst hw;dsimp only
   cases hb:aK p with
   | true =>
    simp only [Bool.not_true];go_wp2_with fail
    go_roundw
    case rel =>
     refine ⟨k+1,by omega,by go_num,by first|trivial|rfl,fun j hj=>?_⟩
     by_cases e:j=k
     ·subst e;rw [<- LR.out];exact hb
     ·exact F7.out j (by omega)
    case measure=>simp [intOf];omega
   | false =>
    simp only [Bool.not_false];go_wp2_with fail;go_ret;refine ⟨rfl,_,rfl,?_⟩;rw [any_some (k:=k) (by rw [<- HN.out];exact hlt) (by rw [<- LR.out];exact hb)];simp
  ·have e1:decide (((k:Nat):Int)<((n:Nat):Int))=false:=by simp;omega
   go_wp2_with fail;go_ret;refine ⟨rfl,_,rfl,?_⟩;rw [any_none (fun j hj=>F7.out j (by rw [<- HN.out] at hj;omega))];decide
theorem Tw (v:Value) (ps:List ByteArray) (w:World) (h:xc w v ps) (hl:ps.length<=1000000000) (hp:∀ p∈ps,p.size<=9223372036854775807) :
  Calls Tryz.prog 213 #[v,.func (.func 163) #[] #[]] w fun e w'=>w'=w/\e = .returned (.bool (nS ps)):=by
 have HI:=aa (QmI v ps w h hl hp);obtain ⟨oa,c,rfl,_⟩:=h;go_enter Tryz.func213,Tryz.ntmps213;go_wp2_with fail;refine (HI.out).mono ?_;rintro _ w1 ⟨hw,i,rfl,hi⟩;subst hw;dsimp only;have HX:=aa hi;clear hi;go_wp2_with fail;go_ret;refine ⟨rfl,?_⟩;rw [<- HX.out];rfl
theorem bH.qU {w:World} {b mb lb:Nat} {R:dz} {cv:Value} (h:bH w b R mb lb cv) (c:Int):bH (w.setCell ⟨b,4,none⟩ (.int .i64 c)) b { R with count:=c } mb lb cv:=by
 obtain ⟨n1,n2,n3,n4,n5⟩:=h.ne;have dh:∀ k,k≠b->(w.setCell ⟨b,4,none⟩ (.int .i64 c)).heap[k]? = w.heap[k]?:=fun k hk=>heap_setCell_other _ _ _ _ (by simpa using hk)
 exact ⟨by rw [heap_setCell_same _ b 4 _ _ _ h.blk];rfl,h.now.later (dh _ (Ne.symm n4)),h.safe.later (dh _ (Ne.symm n5)),h.apart,jQ h.aw (fun k hk _=>dh k (fun e=>n1 (by rw [<- e];exact hk)))⟩
theorem bH.pC {w:World} {b mb lb:Nat} {R:dz} {cv:Value} (h:bH w b R mb lb cv) (c:Int):bH (w.setCell ⟨b,5,none⟩ (.int .i64 c)) b { R with left:=c } mb lb cv:=by
 obtain ⟨n1,n2,n3,n4,n5⟩:=h.ne;have dh:∀ k,k≠b->(w.setCell ⟨b,5,none⟩ (.int .i64 c)).heap[k]? = w.heap[k]?:=fun k hk=>heap_setCell_other _ _ _ _ (by simpa using hk)
 exact ⟨by rw [heap_setCell_same _ b 5 _ _ _ h.blk];rfl,h.now.later (dh _ (Ne.symm n4)),h.safe.later (dh _ (Ne.symm n5)),h.apart,jQ h.aw (fun k hk _=>dh k (fun e=>n1 (by rw [<- e];exact hk)))⟩
theorem aC.set {s:ai} {w w':World} (h:s.In w) {R':dz} (hg:w.grownBy w' (some s.b)) (hd:bH w' s.b R' s.mb s.lb s.cv) (h1:R'.now=s.R.now) (h2:R'.safe=s.R.safe) (h3:R'.aw=s.R.aw):aC s { s with R:=R' } w w' :=
 aC.disk h (Gr.of_grownBy hg (.inl rfl)) hd (.inl rfl) (.inl rfl) (.inl rfl) (by rw [h1];exact h.cK) (by rw [h2];exact h.cH) (by rw [h3];exact h.er)
theorem Qju (b:Nat) (nm:ByteArray) (pv:Value) (ps:List ByteArray) (Ty:Value) (w:World) (hs:xc w pv ps) (hl:ps.length<=1000000000) (hp:∀ p∈ps,p.size<=9223372036854775807) (hb:nS ps=true) :
  Calls Tryz.prog 166 #[.pointer (some ⟨b,0,none⟩),.string nm,pv,Ty] w fun e w'=>∃ v,e = .returned v/\o7 w' v 2/\Below w.heap.size w w':=by
 have HC:=aa (Tw pv ps w hs hl hp);rw [hb] at HC;obtain ⟨oa,c,rfl,_⟩:=hs;have aV:o7 (w.alloc (.cells #[.string nm,.iface 161 (.int .i64 2)] 167)) (.iface 165 (.pointer (some ⟨w.heap.size,0,none⟩))) 2:=⟨_,nm,rfl,heap_alloc_new _ _⟩;have HF:=aa aV;clear aV;go_enter Tryz.func166,Tryz.ntmps166;go_wp2_with fail;refine (HC.out).mono ?_;rintro _ w1 ⟨hw,rfl⟩;subst hw;dsimp only;go_wp2_with fail;go_ret;exact ⟨_,rfl,HF.out,(Below.refl _ _).alloc (Nat.le_refl _) _⟩
theorem QfK (s:ai) (nm:ByteArray) (pv:Value) (ps:List ByteArray) (Ty:Value) (w:World) (h:s.In w) (hs:xc w pv ps) (hl:ps.length<=1000000000) (hp:∀ p∈ps,p.size<=9223372036854775807) (hb:nS ps=false) (h0:s.R.left=0) :
  Calls Tryz.prog 166 #[.pointer (some ⟨s.b,0,none⟩),.string nm,pv,Ty] w fun e w'=>e = .returned .nilIface/\w'=w:=by
 have HC:=aa (Tw pv ps w hs hl hp);rw [hb] at HC;obtain ⟨oa,c,rfl,_⟩:=hs;have c5:w.cell? ⟨s.b,5,none⟩=some (.int .i64 s.R.left):=cell_of_row _ _ 5 _ _ _ h.is.blk;rw [h0] at c5;clear h;go_enter Tryz.func166,Tryz.ntmps166;go_wp2_with fail;refine (HC.out).mono ?_;rintro _ w1 ⟨hw,rfl⟩;subst hw;dsimp only;go_wp2_with fail;go_ret;exact ⟨rfl,rfl⟩
theorem Qjv (s:ai) (nm:ByteArray) (pv:Value) (ps:List ByteArray) (K:Nat) (cap:Array Value) (w:World) (AG:Int->Prop) (P:ai->Prop) (h:s.In w) (hs:xc w pv ps) (hl:ps.length<=1000000000) (hp:∀ p∈ps,p.size<=9223372036854775807) (hb:nS ps=false) (h0:s.R.left≠0) (hf:kN s.R)
  (oG:∀ (args:Array Value) (w:World),(callFunc K args).run Tryz.prog w = .ok (.enter K args) w)
  (hv:Calls Tryz.prog K cap w fun e w1=>(∃ k,AG k/\e = .returned (eI k)/\Below w.heap.size w w1)∨(e = .returned .nilIface/\∃ s1,aC s s1 w w1/\s1.R.count=s.R.count/\s1.R.left=s.R.left/\P s1)) :
  Calls Tryz.prog 166 #[.pointer (some ⟨s.b,0,none⟩),.string nm,pv,.func (.func K) #[] cap] w fun e w' =>
   (∃ k v,AG k/\e = .returned v/\o7 w' v k/\Below w.heap.size w w')∨(e = .returned .nilIface/\∃ s1,aC s { s1 with R:=s1.R.wrote } w w'/\P s1):=by
 have HC:=aa (Tw pv ps w hs hl hp);rw [hb] at HC;obtain ⟨oa,c,rfl,_⟩:=hs;have c5:w.cell? ⟨s.b,5,none⟩=some (.int .i64 s.R.left):=cell_of_row _ _ 5 _ _ _ h.is.blk;have HV:=aa hv;have HF:=aa hf;have e5:decide (s.R.left=0)=false:=decide_eq_false h0;clear h hv hf;go_enter Tryz.func166,Tryz.ntmps166;go_wp2_with fail;refine (HC.out).mono ?_;rintro _ w1 ⟨hw,rfl⟩;subst hw;dsimp only;go_wp2_with fail;refine (HV.out).mono ?_;rintro _ w2 (⟨k,tu,rfl,hbl⟩|⟨rfl,s1,hgo,Gc,nj,hP⟩)
 ·dsimp only [eI];have aV:o7 (w2.alloc (.cells #[.string nm,.iface 161 (.int .i64 k)] 167)) (.iface 165 (.pointer (some ⟨w2.heap.size,0,none⟩))) k:=⟨_,nm,rfl,heap_alloc_new _ _⟩;have bG:=aa aV;have GF:=aa (hbl.alloc hbl.size (.cells #[.string nm,.iface 161 (.int .i64 k)] 167));have HBK:=aa tu;clear aV hbl tu;go_wp2_with fail;go_ret;exact .inl ⟨k,_,HBK.out,rfl,bG.out,GF.out⟩
 ·dsimp only;have cJ:=hgo.ay;have nw:=hgo.b;have hd:=cJ.is;rw [nw] at hd;have k4:w2.cell? ⟨s.b,4,none⟩=some (.int .i64 s1.R.count):=cell_of_row _ _ 4 _ _ _ hd.blk;have k5:w2.cell? ⟨s.b,5,none⟩=some (.int .i64 s1.R.left):=cell_of_row _ _ 5 _ _ _ hd.blk;have kf:=fun j=>frozen_of_row w2 s.b j _ _ hd.blk
  obtain ⟨q1,q2,q3,q4⟩ : kN s1.R:=by unfold kN;rw [Gc,nj];exact HF.out
  have hl0:s1.R.left≠0:=by rw [nj];exact h0
  by_cases et:s1.R.left = -1
  ·have hR:s1.R.wrote = { s1.R with count:=s1.R.count+1 }:=by
    unfold dz.wrote;rw [if_neg (by omega)]
   have mM:aC s { s1 with R:=s1.R.wrote } w1 (w2.setCell ⟨s.b,4,none⟩ (.int .i64 (s1.R.count+1))):=by
    refine hgo.trans (aC.set cJ (by rw [nw];exact nE _ _ _ _) ?_ rfl rfl rfl);rw [nw,hR];exact hd.qU _
   have cQ:=aa mM;have HP:=aa hP;rw [et] at k5;clear mM hR hgo hP cJ hd hl0 nj Gc;go_wp2_with fail;go_ret;exact .inr ⟨rfl,s1,cQ.out,HP.out⟩
  ·have hR:s1.R.wrote = { s1.R with count:=s1.R.count+1,left:=s1.R.left - 1 }:=by
    unfold dz.wrote;rw [if_pos (by omega)]
   have mM:aC s { s1 with R:=s1.R.wrote } w1 ((w2.setCell ⟨s.b,4,none⟩ (.int .i64 (s1.R.count+1))).setCell ⟨s.b,5,none⟩ (.int .i64 (s1.R.left - 1))):=by
    refine hgo.trans (aC.set cJ (by rw [nw];exact dF (nE _ _ _ _) (nE _ _ _ _)) ?_ rfl rfl rfl);rw [nw,hR];exact (hd.qU _).pC _
   have cQ:=aa mM;have HP:=aa hP;have m5:decide (s1.R.left = -1)=false:=decide_eq_false et;have eR:s1.R.left - 1<=9223372036854775807:=by omega
   have hw2 : -9223372036854775808<=s1.R.left - 1:=by omega
   clear mM hR hgo hP cJ hd hl0 nj Gc;go_wp2_with fail;go_ret;exact .inr ⟨rfl,s1,cQ.out,HP.out⟩
open Go.RowKit
def aU (s:ai) (w:World) (k:Int) (P:ai->Prop) (v:Value) (w':World):Prop :=
 (k≠0->o7 w' v k/\Below w.heap.size w w')/\(k=0->v = .nilIface/\∃ s1,aC s s1 w w'/\P s1)
theorem aU.bad {s:ai} {w w':World} {k:Int} {P:ai->Prop} {v:Value} (hk:k≠0) (h1:o7 w' v k) (h2:Below w.heap.size w w'):aU s w k P v w':=⟨fun _=>⟨h1,h2⟩,fun h=>absurd h hk⟩
theorem aU.ok {s s1:ai} {w w':World} {P:ai->Prop} (h1:aC s s1 w w') (h2:P s1):aU s w 0 P .nilIface w':=⟨fun h=>absurd rfl h,fun _=>⟨rfl,s1,h1,h2⟩⟩
theorem aU.below {s:ai} {w w1 w':World} {k:Int} {P:ai->Prop} {v:Value} (h:aU s w1 k P v w') (hi:s.In w) (hb:Below w.heap.size w w1):aU s w k P v w' :=
 ⟨fun hk=>⟨(h.1 hk).1,hb.trans ((h.1 hk).2.mono hb.size)⟩,fun hk=>⟨(h.2 hk).1,by obtain ⟨s1,h1,h2⟩:=(h.2 hk).2;exact ⟨s1,(aC.refl hi hb).trans h1,h2⟩⟩⟩
theorem WX {s:ai} {w w1:World} {k:Int} {P:ai->Prop} {v:Value} (h:aU s w k P v w1) (hg:w.cell? ⟨0,0,none⟩=some lI) :
  Calls Tryz.prog 51 #[v] w1 fun e2 w2=>e2 = .returned (.int .i64 k)/\(k≠0->Below w.heap.size w w2)/\(k=0->∃ s1,aC s s1 w w2/\P s1):=by
 by_cases hk:k=0
 ·obtain ⟨rfl,s1,hgo,hP⟩:=h.2 hk;refine (Xz w1).mono ?_;rintro e2 w2 ⟨rfl,hb⟩;subst hk;exact ⟨rfl,fun h=>absurd rfl h,fun _=>⟨s1,hgo.trans (aC.refl hgo.ay hb),hP⟩⟩
 ·obtain ⟨hs,hb⟩:=h.1 hk;refine (XA v k w1 hs (cell_later hb hg)).mono ?_;rintro e2 w2 ⟨rfl,hb2⟩;exact ⟨rfl,fun _=>hb.trans (hb2.mono hb.size),fun h=>absurd h hk⟩
theorem IX (w:World) (a:Array Value) (t:TypeId) (o2 o3:Obj):(((w.alloc (.cells a t)).alloc o2).alloc o3).heap[w.heap.size]? = some (.cells a t (0,0)):=by
 rw [Below.heap_alloc _ _ _ (by rw [size_alloc,size_alloc];omega),Below.heap_alloc _ _ _ (by rw [size_alloc];omega)];exact heap_alloc_new _ _
theorem Fa (w:World) (o1:Obj) (a:Array Value) (t:TypeId) (o3:Obj):(((w.alloc o1).alloc (.cells a t)).alloc o3).heap[w.heap.size+1]? = some (.cells a t (0,0)):=by
 rw [Below.heap_alloc _ _ _ (by rw [size_alloc,size_alloc];omega)];have:=heap_alloc_new (w.alloc o1) (.cells a t);rw [size_alloc] at this;exact this
theorem IY (w:World) (o1 o2:Obj) (a:Array Value) (t:TypeId):(((w.alloc o1).alloc o2).alloc (.cells a t)).heap[w.heap.size+1+1]? = some (.cells a t (0,0)):=by
 have:=heap_alloc_new ((w.alloc o1).alloc o2) (.cells a t);rw [size_alloc,size_alloc] at this;exact this
theorem SM (s:ai) (nm:ByteArray) (pv:Value) (p:ByteArray) (K:Nat) (cap:Array Value) (w:World) (AG:Int->Prop) (P:ai->Prop) (h:s.In w) (hs:xc w pv [p]) (hp:p.size<=9223372036854775807) (hf:kN s.R)
  (oG:∀ (args:Array Value) (w:World),(callFunc K args).run Tryz.prog w = .ok (.enter K args) w)
  (hv:aK p=true->Calls Tryz.prog K cap w fun e w1=>(∃ k,AG k/\e = .returned (eI k)/\Below w.heap.size w w1)∨(e = .returned .nilIface/\∃ s1,aC s s1 w w1/\s1.R.count=s.R.count/\s1.R.left=s.R.left/\P s1)) :
  Calls Tryz.prog 166 #[.pointer (some ⟨s.b,0,none⟩),.string nm,pv,.func (.func K) #[] cap] w fun e w'=>∃ v,e = .returned v /\
   (aK p=false->aU s w 2 (fun _=>True) v w')/\(aK p=true->s.R.left=0->aU s w 0 (fun s1=>s1=s) v w') /\
   (aK p=true->s.R.left≠0->(∃ k,AG k/\o7 w' v k/\Below w.heap.size w w')∨(v = .nilIface/\∃ s1,aC s { s1 with R:=s1.R.wrote } w w'/\P s1)):=by
 have hq:∀ q∈[p],q.size<=9223372036854775807:=by intro q hq;simp only [List.mem_singleton] at hq;rw [hq];exact hp
 cases dV:aK p with
 | false =>
  have ha:nS [p]=true:=by simp [nS,dV]
  refine (Qju s.b nm pv [p] _ w hs (by simp) hq ha).mono ?_;rintro e w' ⟨v,rfl,h1,h2⟩;exact ⟨v,rfl,fun _=>aU.bad (by decide) h1 h2,(fun h=>by cases h),(fun h=>by cases h)⟩
 | true =>
  have ha:nS [p]=false:=by simp [nS,dV]
  by_cases h0:s.R.left=0
  ·refine (QfK s nm pv [p] _ w h hs (by simp) hq ha h0).mono ?_;rintro e w' ⟨rfl,rfl⟩;exact ⟨_,rfl,(fun h=>by cases h),fun _ _=>aU.ok (aC.refl h (Below.refl _ _)) rfl,fun _ h1=>absurd h0 h1⟩
  ·refine (Qjv s nm pv [p] K cap w AG P h hs (by simp) hq ha h0 hf oG (hv dV)).mono ?_;rintro e w' (⟨k,v,h1,rfl,h2,h3⟩|⟨rfl,h1⟩)
   ·exact ⟨v,rfl,(fun h=>by cases h),fun _ h1=>absurd h1 h0,fun _ _=>.inl ⟨k,h1,h2,h3⟩⟩
   ·exact ⟨_,rfl,(fun h=>by cases h),fun _ h1=>absurd h1 h0,fun _ _=>.inr ⟨rfl,h1⟩⟩
theorem Tryz.enter (K:Nat) (fn:Func) (h1:Tryz.prog.funcs[K]? = some fn) (h2:(fn.name == "runtime.NumGoroutine")=false) (c:Code) (h3:fn.body=some c) (args:Array Value) (w:World):(callFunc K args).run Tryz.prog w = .ok (.enter K args) w:=enters_of h1 h2 h3 args w
theorem Qum (s:ai) (g0 g1:Nat) (p:ByteArray) (w:World) (h:s.In w) (c0:w.cell? ⟨g0,0,none⟩=some (.pointer (some ⟨s.b,0,none⟩))) (c1:w.cell? ⟨g1,0,none⟩=some (.string p)) (hp:p.size<=9223372036854775807) (dV:aK p=true) :
  Calls Tryz.prog 252 #[.pointer (some ⟨g0,0,none⟩),.pointer (some ⟨g1,0,none⟩)] w fun e w1 =>
   (∃ k,(k=3/\aO p s.R.now=none)/\e = .returned (eI k)/\Below w.heap.size w w1)∨(e = .returned .nilIface/\∃ s1,aC s s1 w w1/\s1.R.count=s.R.count/\s1.R.left=s.R.left/\∃ f,aO p s.R.now=some f/\s1.R=s.R/\s1.fs=s.fs/\s1.fd=cB s.fd f ((s.fd f).1,((s.fd f).1.size:Int))):=by
 have HF:=aa (Pa s.b s.R s.mb s.lb s.cv p w h.is hp);rw [dV] at HF;simp only [if_true] at HF;have H:=aa h;clear h
 cases kY:aO p s.R.now with
 | none =>
  rw [kY] at HF;dsimp only [eI] at HF;go_enter Tryz.func252,Tryz.ntmps252;go_wp2_with fail;refine (HF.out).mono ?_;rintro _ w1 ⟨hw,rfl⟩;subst hw;dsimp only;go_wp2_with fail;go_ret;exact .inl ⟨3,⟨rfl,by first|trivial|rfl⟩,rfl,Below.refl _ _⟩
 | some f =>
  rw [kY] at HF;dsimp only at HF;have hm:f∈s.fs:=by
   obtain ⟨e,he,hb⟩:=DA kY;rw [<- hb];exact H.out.cK e he
  have HS:=aa (Z6 f _ _ w (H.out.fds f hm));go_enter Tryz.func252,Tryz.ntmps252;go_wp2_with fail;refine (HF.out).mono ?_;rintro _ w1 ⟨hw,rfl⟩;subst hw;dsimp only;go_wp2_with fail;refine (HS.out).mono ?_;rintro _ w2 ⟨rfl,hg2,zk⟩;dsimp only;have hgo:=aC.file H.out hm ((Gr.of_grownBy hg2 (.inl rfl)):Gr (fun k=>k=f∨(s.fv f).ownBlock=some k) w1 w2) zk (.inl rfl);have cQ:=aa hgo;clear hgo hg2 zk;go_wp2_with fail;go_ret;exact .inr ⟨rfl,_,cQ.out,rfl,rfl,f,rfl,rfl,rfl,rfl⟩
theorem Qun (s:ai) (p:ByteArray) (w:World) (h:s.In w) (hp:p.size<=9223372036854775807) (hf:kN s.R) :
  Calls Tryz.prog 229 #[.pointer (some ⟨s.b,0,none⟩),.string p] w fun e w'=>∃ v,e = .returned v /\
   (aK p=false->aU s w 2 (fun _=>True) v w') /\
   (aK p=true->s.R.left=0->aU s w 0 (fun s1=>s1=s) v w') /\
   (aK p=true->s.R.left≠0->aO p s.R.now=none->aU s w 3 (fun _=>True) v w') /\
   (∀ f,aK p=true->s.R.left≠0->aO p s.R.now=some f->aU s w 0 (fun s1=>s1.R=s.R.wrote/\s1.fs=s.fs/\s1.fd=cB s.fd f ((s.fd f).1,((s.fd f).1.size:Int))) v w'):=by
 have hb3:=Al w (.cells #[.pointer (some ⟨s.b,0,none⟩)] 88) (.cells #[.string p] 9) (.cells #[.string p] 9);have h3:=h.later hb3;have hs:xc (((w.alloc (.cells #[.pointer (some ⟨s.b,0,none⟩)] 88)).alloc (.cells #[.string p] 9)).alloc (.cells #[.string p] 9)) (.slice (some ⟨w.heap.size+1+1,0,none⟩) 1 1) [p]:=by
  refine ⟨_,1,rfl,fun i hi=>⟨_,rfl,?_⟩⟩;have:i=0:=by simpa using hi
  subst this;exact cell_of_row _ _ 0 _ _ _ (IY _ _ _ _ _)
 have HST:=aa (SM s ⟨#[83,121,110,99]⟩ _ p 252 #[.pointer (some ⟨w.heap.size,0,none⟩),.pointer (some ⟨w.heap.size+1,0,none⟩)] _ _ _ h3 hs hp hf (Tryz.enter _ _ Tryz.func252 (by kernel_rfl) _ rfl) (fun dV=>Qum s _ _ p _ h3 (cell_of_row _ _ 0 _ _ _ (IX _ _ _ _ _)) (cell_of_row _ _ 0 _ _ _ (Fa _ _ _ _ _)) hp dV));have HB:=aa hb3;have H:=aa h;clear hb3 h3 hs h;go_enter Tryz.func229,Tryz.ntmps229;go_wp2_with fail;refine (HST.out).mono ?_;rintro _ w' ⟨v,rfl,h1,h2,h3⟩;dsimp only;have H1:=aa h1;have H2:=aa h2;have H3:=aa h3;clear h1 h2 h3;go_wp2_with fail;go_ret;refine ⟨_,rfl,fun h=>(H1.out h).below H.out HB.out,fun h h0=>(H2.out h h0).below H.out HB.out,fun h h0 hn=>?_,fun f h h0 hn=>?_⟩
 ·rcases H3.out h h0 with ⟨k,⟨rfl,_⟩,h4,h5⟩|⟨rfl,s1,h4,f,h5,_⟩
  ·exact (aU.bad (by decide) h4 h5).below H.out HB.out
  ·rw [hn] at h5;cases h5
 ·rcases H3.out h h0 with ⟨k,⟨rfl,h6⟩,h4,h5⟩|⟨rfl,s1,h4,f',h5,h6,h7,h8⟩
  ·rw [hn] at h6;cases h6
  ·rw [hn] at h5;injection h5 with h5
   subst h5;exact (aU.ok h4 ⟨by dsimp only;rw [h6],h7,h8⟩).below H.out HB.out
open Go.RowKit
def vQ:Value->Option (DataW Unit × List MemPlace)
 | .pointer (some ⟨b,0,none⟩)=>some (.lit (.int .i64 (b:Int)),[])
 | _=>none
theorem ZO {v:Value} {z:DataW Unit × List MemPlace} (h:vQ v=some z):∃ b:Nat,v = .pointer (some ⟨b,0,none⟩):=by
 unfold vQ at h
 split at h
 ·exact ⟨_,rfl⟩
 ·cases h
theorem ZQ (b:Nat):vQ (.pointer (some ⟨b,0,none⟩))=some (.lit (.int .i64 (b:Int)),[]):=rfl
theorem PM.strict {P:Program} {k:TypeId} {w:World} {b:Nat} {l:List DE} (h:PM P k w b l):w.ownsMap P k vQ b l.length (jd l):=by
 obtain ⟨es,clock,hb,F,hs,hD⟩:=h;have hst:∀ x∈es.toList,∀ z,uR x.val=some z->vQ x.val=some z:=by
  intro x hx z hz;obtain ⟨y,hy⟩:=F.reads x hx;have hm:WideElems.rg P k uR x∈l.map dE:=by
   have:WideElems.rg P k uR x∈(es.toList.map (WideElems.rg P k uR)).foldr DataW.insert []:=mem_sorted.2 (List.mem_map.2 ⟨x,hx,rfl⟩);injection hD with hD
   rw [hD];exact this
  rw [WideElems.rg_of hy] at hm;obtain ⟨e,_,he⟩:=List.mem_map.1 hm;obtain ⟨z',hz',KX⟩:=WideElems.rd_val hy;rw [hz] at hz';injection hz' with hz'
  subst hz'
  rcases Qjp hz with ⟨_,e2⟩|⟨b',e1,e2⟩
  ·rw [e2,<- he] at KX
   cases KX
  ·rw [e1,e2];rfl
 obtain ⟨F1,hmap,_⟩:=F.stay hst;exact ⟨es,clock,hb,F1,hs,by rw [hmap];exact hD⟩
theorem ZR {l:List DE} {x:ByteArray} {f:Nat} {d:DataW Unit} (hat:∀ zd,(jd l).atKey (bk x) zd=d) (hd:d = .lit (.int .i64 (f:Int))):aO x l=some f:=by
 have h1:=hat .nil;rw [O3,hd] at h1
 cases hf:aO x l with
 | none=>rw [hf] at h1;cases h1
 | some g =>
  rw [hf] at h1;simp only [vO,DataW.lit.injEq,Lit.int.injEq,true_and] at h1;have:g=f:=by omega
  rw [this]
def rX (fd:Nat->ByteArray × Int) (left:Lit->Bool):List DE->Nat
 | []=>0
 | e::es=>(if left (bk e.path) then 0 else (fd e.blk).1.size)+rX fd left es
theorem QhK (fd:Nat->ByteArray × Int) (left:Lit->Bool):∀ l:List DE,(∀ k,left k=false)->rX fd left l=gH fd l
 | [],_=>rfl
 | e::es,h=>by unfold rX gH;rw [h,QhK fd left es h];simp
theorem Qjz (fd:Nat->ByteArray × Int) (left:Lit->Bool):∀ l:List DE,(∀ e∈l,left (bk e.path)=true)->rX fd left l=0
 | [],_=>rfl
 | e::es,h=>by unfold rX;rw [h e (by simp),Qjz fd left es (fun x hx=>h x (by simp [hx]))];simp
theorem TA (fd:Nat->ByteArray × Int) (left:Lit->Bool):∀ l:List DE,rX fd left l<=gH fd l
 | []=>Nat.le_refl _
 | e::es=>by
  unfold rX gH;have:=TA fd left es
  split<;>omega
theorem QjA (fd:Nat->ByteArray × Int) (left:Lit->Bool) (x:ByteArray):∀ l:List DE,(∀ e∈l,e.path≠x)->rX fd (fun z=>left z && !z.sameKey (bk x)) l=rX fd left l
 | [],_=>rfl
 | e::es,h=>by
  unfold rX;rw [QjA fd left x es (fun y hy=>h y (by simp [hy]))];have:(bk e.path).sameKey (bk x)=false:=by rw [rW];exact decide_eq_false (h e (by simp))
  simp [this]
theorem QhL (fd:Nat->ByteArray × Int) (left:Lit->Bool) (x:ByteArray) (f:Nat) (hx:left (bk x)=true):∀ l:List DE,bZ l->aO x l=some f->rX fd (fun z=>left z && !z.sameKey (bk x)) l=rX fd left l+(fd f).1.size
 | [],_,h=>by cases h
 | e::es,hr,h=>by
  obtain ⟨h1,h2⟩:=List.pairwise_cons.1 hr;unfold aO at h;unfold rX
  by_cases he:e.path=x
  ·rw [if_pos he] at h;injection h with h
   rw [QjA fd left x es (fun y hy hyx=>by have:=h1 y hy;rw [hyx,he,mo] at this;cases this)];have e1:(bk e.path).sameKey (bk x)=true:=by rw [rW];exact decide_eq_true he
   rw [he] at e1;simp only [he,hx,e1,h];simp;omega
  ·rw [if_neg he] at h;rw [QhL fd left x f hx es h2 h];have e1:(bk e.path).sameKey (bk x)=false:=by rw [rW];exact decide_eq_false he
   simp [e1];omega
theorem Lr {l:List DE} {e:DE} (h:e∈l):Maps.has (jd l) (bk e.path)=true:=by
 show (l.map dE).any _=true;rw [List.any_eq_true];exact ⟨dE e,List.mem_map.2 ⟨e,h,rfl⟩,by show (bk e.path).sameKey (bk e.path)=true;rw [rW];simp⟩
theorem Ls {P:Program} {k:TypeId} (hk:P.underlying k=some .string) {key:Value} {kl:Lit} (h:keyOf P k key=some kl):∃ x:ByteArray,key = .string x:=by
 obtain ⟨s,e,_⟩:=WideMaps.string_of_keyOf hk h;exact ⟨s,e⟩
theorem Lt {P:Program} {k:TypeId} (hk:P.underlying k=some .string) {x:ByteArray} {kl:Lit} (h:keyOf P k (.string x)=some kl):kl=bk x:=by
 obtain ⟨s,e,e2,_⟩:=WideMaps.string_of_keyOf hk h;injection e with e
 rw [e2,e];rfl
theorem Qn6 (s:ai) (w:World) (h:s.In w) (hu:gH s.fd s.R.now<=1000000000000) :
  Calls Tryz.prog 63 #[.pointer (some ⟨s.b,0,none⟩)] w fun e w'=>e = .returned (.int .i64 ((gH s.fd s.R.now:Nat):Int))/\Below w.heap.size w w':=by
 have c1:w.cell? ⟨s.b,1,none⟩=some (.map (some s.mb)):=cell_of_row _ _ 1 _ _ _ h.is.blk;have H:=aa h;have HM:=aa h.is.now.strict;have HR:=aa (h.is.now.rise (Maps.string_keyed Tryz.underlying9));have K7:=h.is.now.lt;clear h;go_enter Tryz.func63,Tryz.ntmps63;go_wp2_with (at_range;refine wpList_range_own _ rfl _ 147 rfl 9 152 (Maps.string_keyed Tryz.underlying9) Tryz.underlying147 vQ s.mb s.R.now.length (jd s.R.now) rfl HM.out ?_;intro w0 hrg0 hg0 hs0)
 go_frame
 have GG:=aa hrg0;have rI:Below w.heap.size w w0:=⟨hg0.os,hg0.tape,hg0.output,hg0.size,fun k hk=>hg0.block k hk (by simp)⟩;have ir:=aa rI;clear hrg0 hg0 rI
 go_loopw [3] (fun uv wr=>∃ left cnt,wr.ranges Tryz.prog 9 vQ s.mb w.heap.size s.R.now.length (jd s.R.now) left cnt/\Below w.heap.size w wr/\w.heap.size+1<=wr.heap.size/\uv = .int .i64 ((rX s.fd left s.R.now:Nat):Int)) (fun _ wr=>wr.rangeLeft s.mb w.heap.size)
 case atStart=>exact ⟨_,_,GG.out,ir.out,by omega,by rw [Qjz _ _ _ (fun e he=>Lr he)];rfl⟩
 case round =>
  obtain ⟨left,cnt,hrg,hb,hsz,rfl⟩:=hrel;have hle:=TA s.fd left s.R.now;have HB:=aa hb;have iu:=aa hrg;clear hb;go_wp2_with (at_next;refine wpList_next_ranges _ rfl _ rfl 9 (Maps.string_keyed Tryz.underlying9) vQ Value.string (fun f:Nat=>Value.pointer (some ⟨f,0,none⟩)) (fun key kl hkey=>Ls Tryz.underlying9 hkey) (fun v y hv=>ZO hv) s.mb w.heap.size _ _ _ _ rfl iu.out ?_ ?_)
  ·intro _ hl0;have hval:=QhK s.fd left s.R.now hl0;rw [hval];clear hrg hl0 hval;go_wp2_with fail;go_ret;exact ⟨rfl,HB.out⟩
  ·intro x f kl d ps w1 cnt1 hkey hlk hv hat hrg1 hlt hg1 hs1 hen;have zf:=Lt Tryz.underlying9 hkey;subst zf;rw [ZQ] at hv;injection hv with hv
   injection hv with hd _
   have th:aO x s.R.now=some f:=ZR hat hd.symm;have iO:f∈s.fs:=by
    obtain ⟨e,he,pA⟩:=DA th;rw [<- pA];exact H.out.cK e he
   have hb1:Below w.heap.size w w1:=HB.out.grown hg1 (by omega) (fun k hk=>by injection hk with hk;omega);have b7:=(H.out.later hb1).fds f iO;obtain ⟨o,cap,rV,_,_⟩:=b7.shape;have f0:w1.cell? ⟨f,0,none⟩=some (s.fv f):=cell_of_row _ _ 0 _ _ _ b7.blk;rw [rV] at f0;have hst:=QhL s.fd left x f hlk s.R.now HR.out th;have TB:=TA s.fd (fun z=>left z && !z.sameKey (bk x)) s.R.now;rw [hst] at TB;have HST:=aa hst;have br:=aa hb1;have vS:=aa hrg1;have pB:=aa hlt;have Cm:w.heap.size+1<=w1.heap.size:=by omega
   have qV:((rX s.fd left s.R.now:Nat):Int)+(((s.fd f).1.size:Nat):Int)=((rX s.fd left s.R.now+(s.fd f).1.size:Nat):Int):=by omega
   have TC:=aa qV;clear hrg hkey hlk hat hrg1 hlt hg1 hd th iO hb1 b7 rV hst qV;go_wp2_with fail
   go_roundw
   case rel=>exact ⟨_,cnt1,vS.out,br.out,Cm,by rw [HST.out,TC.out]⟩
   case measure=>rw [vS.out.left_eq,iu.out.left_eq];exact pB.out
open Go.RowKit
def qm (R:dz):Prop:=R.now.length<=100000000/\R.aw.length<=100000000
theorem Dy {p:ByteArray} (h:aK p=true):p.size<=1000000000:=by
 unfold aK at h;simp only [Bool.and_eq_true,decide_eq_true_eq] at h;omega
theorem Ys {l:List DE} {c:CH} {e:DE} (h:e∈cC l c):e∈l∨e.blk=c.blk:=by
 unfold cC at h
 split at h
 ·rcases Fo h with h|⟨b,h,_⟩
  ·exact .inl h
  ·cases h
 ·rcases Fo h with h|⟨b,h,hb⟩
  ·rcases Fo h with h|⟨b,h,_⟩
   ·exact .inl h
   ·cases h
  ·injection h with h
   exact .inr (by rw [hb,h])
theorem aC.change {s:ai} {w w':World} (h:s.In w) {bg too:ByteArray} {f:Nat} {rU:Value} (hf:f∈s.fs) (hg:Gr (fun k=>k=s.b∨k=s.mb∨s.cv.ownBlock=some k) w w')
  (hd:bH w' s.b { s.R with now:=cC s.R.now ⟨bg,too,f⟩,aw:=s.R.aw ++ [⟨bg,too,f⟩] } s.mb s.lb rU) (hv:BO w s.cv rU) :
  aC s { s with R:={ s.R with now:=cC s.R.now ⟨bg,too,f⟩,aw:=s.R.aw ++ [⟨bg,too,f⟩] },cv:=rU } w w':=by
 refine aC.disk h (hg.mono fun k _ e=>?_) hd (.inl rfl) (.inl rfl) hv ?_ h.cH ?_
 ·rcases e with e|e|e
  ·exact .inl e
  ·exact .inr (.inl e)
  ·exact .inr (.inr (.inr e))
 ·intro e he
  rcases Ys he with he|he
  ·exact h.cK e he
  ·rw [he];exact hf
 ·intro c hc
  rcases List.mem_append.1 hc with hc|hc
  ·exact h.er c hc
  ·simp only [List.mem_singleton] at hc;rw [hc];exact hf
theorem Qvx (s:ai) (g0 g1:Nat) (p:ByteArray) (w:World) (h:s.In w) (c0:w.cell? ⟨g0,0,none⟩=some (.pointer (some ⟨s.b,0,none⟩))) (c1:w.cell? ⟨g1,0,none⟩=some (.string p)) (hp:p.size<=9223372036854775807) (dV:aK p=true) (cP:qm s.R) :
  Calls Tryz.prog 167 #[.pointer (some ⟨g0,0,none⟩),.pointer (some ⟨g1,0,none⟩)] w fun e w1 =>
   (∃ k,(k=3/\aO p s.R.now=none)/\e = .returned (eI k)/\Below w.heap.size w w1)∨(e = .returned .nilIface/\∃ s1,aC s s1 w w1/\s1.R.count=s.R.count/\s1.R.left=s.R.left/\∃ f,aO p s.R.now=some f/\s1.R = { s.R with now:=cC s.R.now ⟨p,⟨#[]⟩,f⟩,aw:=s.R.aw ++ [⟨p,⟨#[]⟩,f⟩] }/\s1.fs=s.fs/\s1.fd=s.fd/\s1.mb=s.mb/\s1.lb=s.lb):=by
 have HF:=aa (Pa s.b s.R s.mb s.lb s.cv p w h.is hp);rw [dV] at HF;simp only [if_true] at HF;have H:=aa h;clear h
 cases kY:aO p s.R.now with
 | none =>
  rw [kY] at HF;dsimp only [eI] at HF;go_enter Tryz.func167,Tryz.ntmps167;go_wp2_with fail;refine (HF.out).mono ?_;rintro _ w1 ⟨hw,rfl⟩;subst hw;dsimp only;go_wp2_with fail;go_ret;exact .inl ⟨3,⟨rfl,by first|trivial|rfl⟩,rfl,Below.refl _ _⟩
 | some f =>
  rw [kY] at HF;dsimp only at HF;have hm:f∈s.fs:=by
   obtain ⟨e,he,hb⟩:=DA kY;rw [<- hb];exact H.out.cK e he
  have HS:=aa (SH s.b f s.R s.mb s.lb s.cv p ⟨#[]⟩ w H.out.is cP.1 cP.2 (Dy dV) (by decide));go_enter Tryz.func167,Tryz.ntmps167;go_wp2_with fail;refine (HF.out).mono ?_;rintro _ w1 ⟨hw,rfl⟩;subst hw;dsimp only;go_wp2_with fail;refine (HS.out).mono ?_;rintro _ w2 ⟨rfl,hg2,rU,mJ,vN⟩;dsimp only;have cQ:=aa (aC.change H.out hm hg2 mJ vN);clear hg2 mJ vN;go_wp2_with fail;go_ret
  first
   | exact .inr ⟨rfl,_,cQ.out,rfl,rfl,f,by first|trivial|rfl,rfl,rfl,rfl,rfl,rfl⟩
   | exact ⟨rfl,_,cQ.out,rfl,rfl,rfl,rfl,rfl,rfl,rfl⟩
theorem Yl (s:ai) (p:ByteArray) (w:World) (h:s.In w) (hp:p.size<=9223372036854775807) (hf:kN s.R) (cP:qm s.R) :
  Calls Tryz.prog 117 #[.pointer (some ⟨s.b,0,none⟩),.string p] w fun e w'=>∃ v,e = .returned v /\
   (aK p=false->aU s w 2 (fun _=>True) v w') /\
   (aK p=true->s.R.left=0->aU s w 0 (fun s1=>s1=s) v w') /\
   (aK p=true->s.R.left≠0->aO p s.R.now=none->aU s w 3 (fun _=>True) v w') /\
   (∀ f,aK p=true->s.R.left≠0->aO p s.R.now=some f->aU s w 0 (fun s1=>s1.R=dz.wrote { s.R with now:=cC s.R.now ⟨p,⟨#[]⟩,f⟩,aw:=s.R.aw ++ [⟨p,⟨#[]⟩,f⟩] }/\s1.fs=s.fs/\s1.fd=s.fd/\s1.mb=s.mb/\s1.lb=s.lb) v w'):=by
 have hb3:=Al w (.cells #[.pointer (some ⟨s.b,0,none⟩)] 88) (.cells #[.string p] 9) (.cells #[.string p] 9);have h3:=h.later hb3;have hs:xc (((w.alloc (.cells #[.pointer (some ⟨s.b,0,none⟩)] 88)).alloc (.cells #[.string p] 9)).alloc (.cells #[.string p] 9)) (.slice (some ⟨w.heap.size+1+1,0,none⟩) 1 1) [p]:=by
  refine ⟨_,1,rfl,fun i hi=>⟨_,rfl,?_⟩⟩;have:i=0:=by simpa using hi
  subst this;exact cell_of_row _ _ 0 _ _ _ (IY _ _ _ _ _)
 have HST:=aa (SM s ⟨#[82,101,109,111,118,101]⟩ _ p 167 #[.pointer (some ⟨w.heap.size,0,none⟩),.pointer (some ⟨w.heap.size+1,0,none⟩)] _ _ _ h3 hs hp hf (Tryz.enter _ _ Tryz.func167 (by kernel_rfl) _ rfl) (fun dV=>Qvx s _ _ p _ h3 (cell_of_row _ _ 0 _ _ _ (IX _ _ _ _ _)) (cell_of_row _ _ 0 _ _ _ (Fa _ _ _ _ _)) hp dV cP));have HB:=aa hb3;have H:=aa h;clear hb3 h3 hs h;go_enter Tryz.func117,Tryz.ntmps117;go_wp2_with fail;refine (HST.out).mono ?_;rintro _ w' ⟨v,rfl,h1,h2,h3⟩;dsimp only;have H1:=aa h1;have H2:=aa h2;have H3:=aa h3;clear h1 h2 h3;go_wp2_with fail;go_ret;refine ⟨_,rfl,fun h=>(H1.out h).below H.out HB.out,fun h h0=>(H2.out h h0).below H.out HB.out,fun h h0 hn=>?_,fun f h h0 hn=>?_⟩
 ·rcases H3.out h h0 with ⟨k,⟨rfl,_⟩,h4,h5⟩|⟨rfl,s1,h4,f,h5,_⟩
  ·exact (aU.bad (by decide) h4 h5).below H.out HB.out
  ·rw [hn] at h5;cases h5
 ·rcases H3.out h h0 with ⟨k,⟨rfl,h6⟩,h4,h5⟩|⟨rfl,s1,h4,f',h5,h6,h7,h8,h9,h10⟩
  ·rw [hn] at h6;cases h6
  ·rw [hn] at h5;injection h5 with h5
   subst h5;exact (aU.ok h4 ⟨by dsimp only;rw [h6],h7,h8,h9,h10⟩).below H.out HB.out
theorem aU.imp {s:ai} {w w':World} {k:Int} {P P':ai->Prop} {v:Value} (h:aU s w k P v w') (hP:∀ s1,P s1->P' s1):aU s w k P' v w' :=
 ⟨h.1,fun hk=>by obtain ⟨h1,s1,h2,h3⟩:=h.2 hk;exact ⟨h1,s1,h2,hP s1 h3⟩⟩
theorem Qqh (s:ai) (p:ByteArray) (w:World) (h:s.In w) (hp:p.size<=9223372036854775807) (hf:kN s.R) (cP:qm s.R) :
  Calls Tryz.prog 117 #[.pointer (some ⟨s.b,0,none⟩),.string p] w fun e w'=>∃ v,e = .returned v /\
   (aK p=false->aU s w 2 (fun _=>True) v w') /\
   (aK p=true->s.R.left=0->aU s w 0 (fun s1=>s1=s) v w') /\
   (aK p=true->s.R.left≠0->aO p s.R.now=none->aU s w 3 (fun _=>True) v w') /\
   (∀ f,aK p=true->s.R.left≠0->aO p s.R.now=some f->aU s w 0 (fun s1=>s1.R=dz.wrote { s.R with now:=cC s.R.now ⟨p,⟨#[]⟩,f⟩,aw:=s.R.aw ++ [⟨p,⟨#[]⟩,f⟩] }/\s1.fs=s.fs/\s1.fd=s.fd) v w') :=
 (Yl s p w h hp hf cP).mono fun _ _ ⟨v,h1,h2,h3,h4,h5⟩=>⟨v,h1,h2,h3,h4,fun f a b c=>(h5 f a b c).imp fun _ e=>⟨e.1,e.2.1,e.2.2.1⟩⟩
theorem Zv (w:World) (o1 o2 o3 o4:Obj):Below w.heap.size w ((((w.alloc o1).alloc o2).alloc o3).alloc o4) :=
 (Al w o1 o2 o3).alloc (Al w o1 o2 o3).size o4
theorem Zx (w:World) (a:Array Value) (t:TypeId) (o2 o3 o4:Obj):((((w.alloc (.cells a t)).alloc o2).alloc o3).alloc o4).heap[w.heap.size]? = some (.cells a t (0,0)):=by
 rw [Below.heap_alloc _ _ _ (by simp<;>omega)];exact IX _ _ _ _ _
theorem Zy (w:World) (o1:Obj) (a:Array Value) (t:TypeId) (o3 o4:Obj):((((w.alloc o1).alloc (.cells a t)).alloc o3).alloc o4).heap[w.heap.size+1]? = some (.cells a t (0,0)):=by
 rw [Below.heap_alloc _ _ _ (by simp<;>omega)];exact Fa _ _ _ _ _
theorem Zw (w:World) (o1 o2:Obj) (a:Array Value) (t:TypeId) (o4:Obj):((((w.alloc o1).alloc o2).alloc (.cells a t)).alloc o4).heap[w.heap.size+1+1]? = some (.cells a t (0,0)):=by
 rw [Below.heap_alloc _ _ _ (by simp)];exact IY _ _ _ _ _
theorem SL (w:World) (o1 o2 o3:Obj) (a:Array Value) (t:TypeId):((((w.alloc o1).alloc o2).alloc o3).alloc (.cells a t)).heap[w.heap.size+1+1+1]? = some (.cells a t (0,0)):=by
 have:=heap_alloc_new (((w.alloc o1).alloc o2).alloc o3) (.cells a t);rw [size_alloc,size_alloc,size_alloc] at this;exact this
open Go.RowKit
theorem Qjs (s:ai) (nm:ByteArray) (pv:Value) (ps:List ByteArray) (K:Nat) (cap:Array Value) (w:World) (AG:Int->Prop) (P:ai->Prop) (h:s.In w) (hs:xc w pv ps) (hl:ps.length<=1000000000) (hp:∀ p∈ps,p.size<=9223372036854775807) (hf:kN s.R)
  (oG:∀ (args:Array Value) (w:World),(callFunc K args).run Tryz.prog w = .ok (.enter K args) w)
  (hv:nS ps=false->Calls Tryz.prog K cap w fun e w1=>(∃ k,AG k/\e = .returned (eI k)/\Below w.heap.size w w1)∨(e = .returned .nilIface/\∃ s1,aC s s1 w w1/\s1.R.count=s.R.count/\s1.R.left=s.R.left/\P s1)) :
  Calls Tryz.prog 166 #[.pointer (some ⟨s.b,0,none⟩),.string nm,pv,.func (.func K) #[] cap] w fun e w'=>∃ v,e = .returned v /\
   (nS ps=true->aU s w 2 (fun _=>True) v w')/\(nS ps=false->s.R.left=0->aU s w 0 (fun s1=>s1=s) v w') /\
   (nS ps=false->s.R.left≠0->(∃ k,AG k/\o7 w' v k/\Below w.heap.size w w')∨(v = .nilIface/\∃ s1,aC s { s1 with R:=s1.R.wrote } w w'/\P s1)):=by
 cases dV:nS ps with
 | true =>
  refine (Qju s.b nm pv ps _ w hs hl hp dV).mono ?_;rintro e w' ⟨v,rfl,h1,h2⟩;exact ⟨v,rfl,fun _=>aU.bad (by decide) h1 h2,(fun h=>by cases h),(fun h=>by cases h)⟩
 | false =>
  by_cases h0:s.R.left=0
  ·refine (QfK s nm pv ps _ w h hs hl hp dV h0).mono ?_;rintro e w' ⟨rfl,rfl⟩;exact ⟨_,rfl,(fun h=>by cases h),fun _ _=>aU.ok (aC.refl h (Below.refl _ _)) rfl,fun _ h1=>absurd h0 h1⟩
  ·refine (Qjv s nm pv ps K cap w AG P h hs hl hp dV h0 hf oG (hv dV)).mono ?_;rintro e w' (⟨k,v,h1,rfl,h2,h3⟩|⟨rfl,h1⟩)
   ·exact ⟨v,rfl,(fun h=>by cases h),fun _ h1=>absurd h1 h0,fun _ _=>.inl ⟨k,h1,h2,h3⟩⟩
   ·exact ⟨_,rfl,(fun h=>by cases h),fun _ h1=>absurd h1 h0,fun _ _=>.inr ⟨rfl,h1⟩⟩
theorem Tr (p q:ByteArray):nS [p,q] = !(aK p && aK q):=by
 simp [nS]
theorem Qvy (s:ai) (g0 g1 g2:Nat) (p q:ByteArray) (w:World) (h:s.In w) (c0:w.cell? ⟨g0,0,none⟩=some (.pointer (some ⟨s.b,0,none⟩))) (c1:w.cell? ⟨g1,0,none⟩=some (.string p)) (c2:w.cell? ⟨g2,0,none⟩=some (.string q)) (hp:p.size<=9223372036854775807) (dV:aK p=true) (hqq:aK q=true) (cP:qm s.R) :
  Calls Tryz.prog 171 #[.pointer (some ⟨g0,0,none⟩),.pointer (some ⟨g1,0,none⟩),.pointer (some ⟨g2,0,none⟩)] w fun e w1 =>
   (∃ k,(k=3/\aO p s.R.now=none)/\e = .returned (eI k)/\Below w.heap.size w w1)∨(e = .returned .nilIface/\∃ s1,aC s s1 w w1/\s1.R.count=s.R.count/\s1.R.left=s.R.left/\∃ f,aO p s.R.now=some f/\s1.R=(if p=q then s.R else { s.R with now:=cC s.R.now ⟨p,q,f⟩,aw:=s.R.aw ++ [⟨p,q,f⟩] })/\s1.fs=s.fs/\s1.fd=s.fd):=by
 have HF:=aa (Pa s.b s.R s.mb s.lb s.cv p w h.is hp);rw [dV] at HF;simp only [if_true] at HF;have H:=aa h;clear h
 cases kY:aO p s.R.now with
 | none =>
  rw [kY] at HF;have key:Calls Tryz.prog 171 #[.pointer (some ⟨g0,0,none⟩),.pointer (some ⟨g1,0,none⟩),.pointer (some ⟨g2,0,none⟩)] w fun e w1=>e = .returned (eI 3)/\w1=w:=by
   dsimp only [eI] at HF ⊢;go_enter Tryz.func171,Tryz.ntmps171;go_wp2_with fail;refine (HF.out).mono ?_;rintro _ w1 ⟨hw,rfl⟩;subst hw;dsimp only;go_wp2_with fail;go_ret;exact ⟨rfl,rfl⟩
  exact key.mono fun e w1 hh=>.inl ⟨3,⟨rfl,rfl⟩,hh.1,by rw [hh.2];exact Below.refl _ _⟩
 | some f =>
  rw [kY] at HF;dsimp only at HF;have hm:f∈s.fs:=by
   obtain ⟨e,he,hb⟩:=DA kY;rw [<- hb];exact H.out.cK e he
  by_cases oA:p=q
  ·have key:Calls Tryz.prog 171 #[.pointer (some ⟨g0,0,none⟩),.pointer (some ⟨g1,0,none⟩),.pointer (some ⟨g2,0,none⟩)] w fun e w1=>e = .returned .nilIface/\w1=w:=by
    subst oA;have e7:(p.toList != p.toList)=false:=by simp
    go_enter Tryz.func171,Tryz.ntmps171;go_wp2_with fail;refine (HF.out).mono ?_;rintro _ w1 ⟨hw,rfl⟩;subst hw;dsimp only;go_wp2_with fail;go_ret;exact ⟨rfl,rfl⟩
   exact key.mono fun e w1 hh=>.inr ⟨hh.1,s,aC.refl H.out (by rw [hh.2];exact Below.refl _ _),rfl,rfl,f,rfl,by rw [if_pos oA],rfl,rfl⟩
  ·have HS:=aa (SH s.b f s.R s.mb s.lb s.cv p q w H.out.is cP.1 cP.2 (Dy dV) (Dy hqq));have key:Calls Tryz.prog 171 #[.pointer (some ⟨g0,0,none⟩),.pointer (some ⟨g1,0,none⟩),.pointer (some ⟨g2,0,none⟩)] w fun e w1=>e = .returned .nilIface/\∃ rU,aC s { s with R:={ s.R with now:=cC s.R.now ⟨p,q,f⟩,aw:=s.R.aw ++ [⟨p,q,f⟩] },cv:=rU } w w1:=by
    have e6:(p.toList == q.toList)=false:=by rw [beq_eq_false_iff_ne];exact fun e=>oA ((toList_inj _ _).1 e)
    clear oA;go_enter Tryz.func171,Tryz.ntmps171;go_wp2_with fail;refine (HF.out).mono ?_;rintro _ w1 ⟨hw,rfl⟩;subst hw;dsimp only;go_wp2_with fail;refine (HS.out).mono ?_;rintro _ w2 ⟨rfl,hg2,rU,mJ,vN⟩;dsimp only;have cQ:=aa (aC.change H.out hm hg2 mJ vN);clear hg2 mJ vN;go_wp2_with fail;go_ret;exact ⟨rfl,_,cQ.out⟩
   refine key.mono ?_;rintro e w1 ⟨rfl,rU,hgo⟩;exact .inr ⟨rfl,_,hgo,rfl,rfl,f,rfl,by rw [if_neg oA],rfl,rfl⟩
theorem Qjt (b:Nat) (p q:ByteArray) (w:World) (Q:Value->World->Prop)
  (h:Calls Tryz.prog 166 #[.pointer (some ⟨b,0,none⟩),.string ⟨#[82,101,110,97,109,101]⟩,.slice (some ⟨w.heap.size+1+1+1,0,none⟩) 2 2,.func (.func 171) #[] #[.pointer (some ⟨w.heap.size,0,none⟩),.pointer (some ⟨w.heap.size+1,0,none⟩),.pointer (some ⟨w.heap.size+1+1,0,none⟩)]] ((((w.alloc (.cells #[.pointer (some ⟨b,0,none⟩)] 88)).alloc (.cells #[.string p] 9)).alloc (.cells #[.string q] 9)).alloc (.cells #[.string p,.string q] 9)) fun e w'=>∃ v,e = .returned v/\Q v w') :
  Calls Tryz.prog 120 #[.pointer (some ⟨b,0,none⟩),.string p,.string q] w fun e w'=>∃ v,e = .returned v/\Q v w':=by
 have HST:=aa h;clear h;go_enter Tryz.func120,Tryz.ntmps120;go_wp2_with fail;refine (HST.out).mono ?_;rintro _ w' ⟨v,rfl,h1⟩;dsimp only;have H1:=aa h1;clear h1;go_wp2_with fail;go_ret;exact ⟨_,rfl,H1.out⟩
theorem Qqi (s:ai) (p q:ByteArray) (w:World) (h:s.In w) (hp:p.size<=9223372036854775807) (hq:q.size<=9223372036854775807) (hf:kN s.R) (cP:qm s.R) :
  Calls Tryz.prog 120 #[.pointer (some ⟨s.b,0,none⟩),.string p,.string q] w fun e w'=>∃ v,e = .returned v /\
   ((aK p && aK q)=false->aU s w 2 (fun _=>True) v w') /\
   ((aK p && aK q)=true->s.R.left=0->aU s w 0 (fun s1=>s1=s) v w') /\
   ((aK p && aK q)=true->s.R.left≠0->aO p s.R.now=none->aU s w 3 (fun _=>True) v w') /\
   (∀ f,(aK p && aK q)=true->s.R.left≠0->aO p s.R.now=some f->aU s w 0 (fun s1=>s1.R=dz.wrote (if p=q then s.R else { s.R with now:=cC s.R.now ⟨p,q,f⟩,aw:=s.R.aw ++ [⟨p,q,f⟩] })/\s1.fs=s.fs/\s1.fd=s.fd) v w'):=by
 have hb3:=Zv w (.cells #[.pointer (some ⟨s.b,0,none⟩)] 88) (.cells #[.string p] 9) (.cells #[.string q] 9) (.cells #[.string p,.string q] 9);have h3:=h.later hb3;have hs:xc ((((w.alloc (.cells #[.pointer (some ⟨s.b,0,none⟩)] 88)).alloc (.cells #[.string p] 9)).alloc (.cells #[.string q] 9)).alloc (.cells #[.string p,.string q] 9)) (.slice (some ⟨w.heap.size+1+1+1,0,none⟩) 2 2) [p,q]:=by
  refine ⟨_,2,rfl,fun i hi=>⟨_,rfl,?_⟩⟩;have Aq:i=0∨i=1:=by simp at hi;omega
  rcases Aq with rfl|rfl
  ·exact cell_of_row _ _ 0 _ _ _ (SL _ _ _ _ _ _)
  ·exact cell_of_row _ _ 1 _ _ _ (SL _ _ _ _ _ _)
 have oA:∀ x∈[p,q],x.size<=9223372036854775807:=by
  intro x hx;simp only [List.mem_cons,List.not_mem_nil,or_false] at hx
  rcases hx with rfl|rfl
  ·exact hp
  ·exact hq
 have hst:=(Qjs s ⟨#[82,101,110,97,109,101]⟩ _ [p,q] 171 #[.pointer (some ⟨w.heap.size,0,none⟩),.pointer (some ⟨w.heap.size+1,0,none⟩),.pointer (some ⟨w.heap.size+1+1,0,none⟩)] _ _ _ h3 hs (by simp) oA hf (Tryz.enter _ _ Tryz.func171 (by kernel_rfl) _ rfl) (fun dV=>Qvy s _ _ _ p q _ h3 (cell_of_row _ _ 0 _ _ _ (Zx _ _ _ _ _ _)) (cell_of_row _ _ 0 _ _ _ (Zy _ _ _ _ _ _)) (cell_of_row _ _ 0 _ _ _ (Zw _ _ _ _ _ _)) hp (by rw [Tr] at dV;simp at dV;exact dV.1) (by rw [Tr] at dV;simp at dV;exact dV.2) cP));refine (Qjt s.b p q w _ hst).mono ?_;rintro _ w' ⟨v,rfl,h1,h2,F8⟩;rw [Tr] at h1 h2 F8;refine ⟨_,rfl,fun hb=>(h1 (by rw [hb];rfl)).below h hb3,fun hb h0=>(h2 (by rw [hb];rfl) h0).below h hb3,fun hb h0 hn=>?_,fun f hb h0 hn=>?_⟩
 ·rcases F8 (by rw [hb];rfl) h0 with ⟨k,⟨rfl,_⟩,h4,h5⟩|⟨rfl,s1,h4,f,h5,_⟩
  ·exact (aU.bad (by decide) h4 h5).below h hb3
  ·rw [hn] at h5;cases h5
 ·rcases F8 (by rw [hb];rfl) h0 with ⟨k,⟨rfl,h6⟩,h4,h5⟩|⟨rfl,s1,h4,f',h5,h6,h7,h8⟩
  ·rw [hn] at h6;cases h6
  ·rw [hn] at h5;injection h5 with h5
   subst h5;exact (aU.ok h4 ⟨by dsimp only;rw [h6],h7,h8⟩).below h hb3
theorem Quk (s:ai) (g0:Nat) (w:World) (h:s.In w) (c0:w.cell? ⟨g0,0,none⟩=some (.pointer (some ⟨s.b,0,none⟩))) (hl:s.R.safe.length+s.R.aw.length<=100000000) (oG:kd s.R.aw) :
  Calls Tryz.prog 169 #[.pointer (some ⟨g0,0,none⟩)] w fun e w1=>e = .returned .nilIface/\bH w1 s.b { s.R with safe:=s.R.aw.foldl cC s.R.safe,aw:=[] } s.mb s.lb (.slice none 0 0)/\Gr (fun k=>k=s.b∨k=s.lb) w w1:=by
 obtain ⟨o,c,hcv⟩:=jG h.is.aw;have c3:w.cell? ⟨s.b,3,none⟩=some s.cv:=cell_of_row _ _ 3 _ _ _ h.is.blk;rw [hcv] at c3;have HS:=aa (fun (w':World) (hb:Below w.heap.size w w')=>Z0 s.b s.R s.mb s.lb s.cv s.R.aw.length w' (h.later hb).is (Nat.le_refl _) hl oG);simp only [List.take_length] at HS;clear h;generalize s.R.aw.length=n at c3 HS;go_enter Tryz.func169,Tryz.ntmps169;go_wp2_with fail
 go_region_with (go_at_call 85;refine (HS.out w.drew ((Below.refl _ _).drew)).mono ?_;rintro _ w6 ⟨rfl,hd6,bQ⟩)
 all_goals
  have HD:=aa hd6;have HG:=aa bQ;clear hd6 bQ;go_wp2_with fail;go_ret;exact ⟨rfl,HD.out,QpU ((Below.refl _ _).drew) HG.out⟩
theorem QhF:nS []=false:=rfl
theorem Qn3 (s:ai) (w:World) (h:s.In w) (hf:kN s.R) (hl:s.R.safe.length+s.R.aw.length<=100000000) (oG:kd s.R.aw) (cJ:∀ e∈s.R.aw.foldl cC s.R.safe,e.blk∈s.fs) :
  Calls Tryz.prog 118 #[.pointer (some ⟨s.b,0,none⟩)] w fun e w'=>∃ v,e = .returned v /\
   (s.R.left=0->aU s w 0 (fun s1=>s1=s) v w') /\
   (s.R.left≠0->aU s w 0 (fun s1=>s1.R=dz.wrote { s.R with safe:=s.R.aw.foldl cC s.R.safe,aw:=[] }/\s1.fs=s.fs/\s1.fd=s.fd) v w'):=by
 have hb1:Below w.heap.size w (w.alloc (.cells #[.pointer (some ⟨s.b,0,none⟩)] 88)):=(Below.refl _ _).alloc (Nat.le_refl _) _;have h1:=h.later hb1;have hs:xc (w.alloc (.cells #[.pointer (some ⟨s.b,0,none⟩)] 88)) (.slice none 0 0) []:=⟨none,0,rfl,fun i hi=>by simp at hi⟩;have HST:=aa (Qjs s ⟨#[83,121,110,99,68,105,114]⟩ _ [] 169 #[.pointer (some ⟨w.heap.size,0,none⟩)] _ (fun _=>False) (fun s1=>s1.R = { s.R with safe:=s.R.aw.foldl cC s.R.safe,aw:=[] }/\s1.fs=s.fs/\s1.fd=s.fd) h1 hs (by simp) (by simp) hf (Tryz.enter _ _ Tryz.func169 (by kernel_rfl) _ rfl) (fun _=>(Quk s _ _ h1 (cell_of_row _ _ 0 _ _ _ (heap_alloc_new _ _)) hl oG).mono (by
  rintro e w1 ⟨rfl,hd,hg⟩;refine .inr ⟨rfl,_,aC.disk h1 (hg.mono fun k _ e=>?_) hd (.inl rfl) (.inl rfl) (.inr fun k hk=>by cases hk) h1.cK cJ (fun c hc=>by cases hc),rfl,rfl,rfl,rfl,rfl⟩
  rcases e with e|e
  ·exact .inl e
  ·exact .inr (.inr (.inl e)))))
 have HB:=aa hb1;have H:=aa h;clear hb1 h1 hs h;go_enter Tryz.func118,Tryz.ntmps118;go_wp2_with fail;refine (HST.out).mono ?_;rintro _ w' ⟨v,rfl,_,h2,h3⟩;dsimp only;have H2:=aa h2;have H3:=aa h3;clear h2 h3;go_wp2_with fail;go_ret;refine ⟨_,rfl,fun h0=>(H2.out QhF h0).below H.out HB.out,fun h0=>?_⟩
 rcases H3.out QhF h0 with ⟨k,h4,_⟩|⟨rfl,s1,h4,h6,h7,h8⟩
 ·exact absurd h4 id
 ·exact (aU.ok h4 ⟨by dsimp only;rw [h6],h7,h8⟩).below H.out HB.out
theorem QsF (s:ai) (n:Int) (w:World) (h:s.In w) :
  Calls Tryz.prog 53 #[.pointer (some ⟨s.b,0,none⟩),.int .i64 n] w fun e w'=>∃ v,e = .returned v /\
   (n<0->aU s w 5 (fun _=>True) v w')/\(¬ n<0->aU s w 0 (fun s1=>s1 = { s with R:={ s.R with left:=n } }) v w'):=by
 have H:=aa h;have c5:w.cell? ⟨s.b,5,none⟩=some (.int .i64 s.R.left):=cell_of_row _ _ 5 _ _ _ h.is.blk;have bf:=fun j=>frozen_of_row w s.b j _ _ h.is.blk
 clear h
 by_cases hn:n<0
 ·have key:Calls Tryz.prog 53 #[.pointer (some ⟨s.b,0,none⟩),.int .i64 n] w fun e w'=>∃ v,e = .returned v/\o7 w' v 5/\Below w.heap.size w w':=by
   have aV:o7 (w.alloc (.cells #[.string ⟨#[66,114,101,97,107]⟩,.iface 161 (.int .i64 5)] 167)) (.iface 165 (.pointer (some ⟨w.heap.size,0,none⟩))) 5:=⟨_,_,rfl,heap_alloc_new _ _⟩;have bG:=aa aV;clear aV;go_enter Tryz.func53,Tryz.ntmps53;go_wp2_with fail;go_ret;exact ⟨_,rfl,bG.out,(Below.refl _ _).alloc (Nat.le_refl _) _⟩
  refine key.mono ?_;rintro e w' ⟨v,rfl,h1,h2⟩;exact ⟨v,rfl,fun _=>aU.bad (by decide) h1 h2,fun h=>absurd hn h⟩
 ·have vN:decide (n<0)=false:=decide_eq_false hn;have key:Calls Tryz.prog 53 #[.pointer (some ⟨s.b,0,none⟩),.int .i64 n] w fun e w'=>e = .returned .nilIface/\w'=w.setCell ⟨s.b,5,none⟩ (.int .i64 n):=by
   go_enter Tryz.func53,Tryz.ntmps53;go_wp2_with fail;go_ret;exact ⟨rfl,rfl⟩
  refine key.mono ?_;rintro e w' ⟨rfl,rfl⟩;exact ⟨_,rfl,fun h=>absurd h hn,fun _=>aU.ok (aC.set H.out (nE _ _ _ _) (H.out.is.pC n) rfl rfl rfl) rfl⟩
open Go.RowKit
theorem ZG {s:ByteArray} (h:s.size=0):s=⟨#[]⟩:=ByteArray.ext (Array.eq_empty_of_size_eq_zero h)
theorem FD.cell {w:World} {f g cap:Nat} {x:ByteArray × Int} (h:FD w f x (.slice (some ⟨g,0,none⟩) x.1.size cap)) {j:Nat} (hj:j<x.1.data.toList.length):w.cell? ⟨g,j,none⟩=some (.int .u8 ((x.1.data.toList[j].toNat:Nat):Int)):=by
 rcases h.row.2 with ⟨h1,_⟩|⟨g',cap',cur,h1,_,hg,_,_,_,cN⟩
 ·cases h1
 ·injection h1 with h1
  injection h1 with h1
  injection h1 with h1
  subst h1;have pY:j<x.1.size:=by simpa using hj
  rw [cell_of_row w g _ _ _ _ hg];have:(cur.toList.take (x.1.size * 1))[j]? = (Lib.strCells x.1)[j]?:=by rw [cN]
  rw [List.getElem?_take,if_pos (by omega)] at this;rw [<- Array.getElem?_toList,this];simp [Lib.strCells,pY]
theorem FD.text {w:World} {f:Nat} {x:ByteArray × Int} {v:Value} (h:FD w f x v):(convert 136 9 v).run Tryz.prog w = .ok (.string x.1) w:=by
 rcases h.row.2 with ⟨rfl,h0⟩|⟨g,cap,cur,hv,_⟩
 ·rw [run_convert_bytes_nil w 136 5 Tryz.underlying136 Tryz.underlying5 0 0 9 Tryz.underlying9,ZG h0];rfl
 ·subst hv;have:=run_convert_bytes_back (P:=Tryz.prog) w 136 9 5 ⟨g,0,none⟩ cap x.1.data.toList Tryz.underlying136 Tryz.underlying5 Tryz.underlying9 (fun j hj=>by
   have mz:(⟨g,0,none⟩ : Addr).add j=⟨g,j,none⟩:=by unfold Addr.add;split<;>simp_all
   rw [mz];exact h.cell hj)
  have e1:x.1.data.toList.length=x.1.size:=by simp
  rw [e1] at this;simpa using this
theorem Ym (s:ai) (p:ByteArray) (w:World) (h:s.In w) (hp:p.size<=9223372036854775807) :
  Calls Tryz.prog 80 #[.pointer (some ⟨s.b,0,none⟩),.string p] w fun e w'=>∃ v t,e = .returned (.tuple #[.string t,v]) /\
   (aK p=false->aU s w 2 (fun _=>True) v w'/\t=⟨#[]⟩) /\
   (aK p=true->aO p s.R.now=none->aU s w 3 (fun _=>True) v w'/\t=⟨#[]⟩) /\
   (∀ f,aK p=true->aO p s.R.now=some f->aU s w 0 (fun s1=>s1=s) v w'/\t=(s.fd f).1):=by
 have HF:=aa (Pa s.b s.R s.mb s.lb s.cv p w h.is hp);have H:=aa h;clear h;have bad:∀ k:Int,Calls Tryz.prog 108 #[.pointer (some ⟨s.b,0,none⟩),.string p] w (fun e w'=>w'=w/\e = .returned (.tuple #[.pointer none,.iface 161 (.int .i64 k)]))->Calls Tryz.prog 80 #[.pointer (some ⟨s.b,0,none⟩),.string p] w fun e w'=>∃ v,e = .returned (.tuple #[.string ⟨#[]⟩,v])/\o7 w' v k/\Below w.heap.size w w':=by
  intro k hk;have HK:=aa hk;have aV:o7 (w.alloc (.cells #[.string ⟨#[82,101,97,100]⟩,.iface 161 (.int .i64 k)] 167)) (.iface 165 (.pointer (some ⟨w.heap.size,0,none⟩))) k:=⟨_,_,rfl,heap_alloc_new _ _⟩;have bG:=aa aV;clear aV hk;go_enter Tryz.func80,Tryz.ntmps80;go_wp2_with fail;refine (HK.out).mono ?_;rintro _ w1 ⟨hw,rfl⟩;subst hw;dsimp only;go_wp2_with fail;refine bodyPost_ret (results_tmp2 rfl _ _ _) rfl ?_;exact ⟨_,rfl,bG.out,(Below.refl _ _).alloc (Nat.le_refl _) _⟩
 cases dV:aK p with
 | false =>
  rw [dV] at HF;refine (bad 2 (by simpa [eI] using HF.out)).mono ?_;rintro e w' ⟨v,rfl,h1,h2⟩;exact ⟨v,_,rfl,fun _=>⟨aU.bad (by decide) h1 h2,rfl⟩,(fun h=>by cases h),(fun _ h=>by cases h)⟩
 | true =>
  rw [dV] at HF;simp only [if_true] at HF
  cases kY:aO p s.R.now with
  | none =>
   rw [kY] at HF;refine (bad 3 (by simpa [eI] using HF.out)).mono ?_;rintro e w' ⟨v,rfl,h1,h2⟩;exact ⟨v,_,rfl,(fun h=>by cases h),fun _ _=>⟨aU.bad (by decide) h1 h2,rfl⟩,(fun _ _ h=>by cases h)⟩
  | some f =>
   rw [kY] at HF;dsimp only at HF;have hm:f∈s.fs:=by
    obtain ⟨e,he,hb⟩:=DA kY;rw [<- hb];exact H.out.cK e he
   have b7:=H.out.fds f hm;have htx:=b7.text;obtain ⟨o,cap,rV,_,_⟩:=b7.shape;have f0:w.cell? ⟨f,0,none⟩=some (s.fv f):=cell_of_row _ _ 0 _ _ _ b7.blk;rw [rV] at f0 htx;clear b7 rV;have key:Calls Tryz.prog 80 #[.pointer (some ⟨s.b,0,none⟩),.string p] w fun e w'=>e = .returned (.tuple #[.string (s.fd f).1,.nilIface])/\w'=w:=by
    go_enter Tryz.func80,Tryz.ntmps80;go_wp2_with fail;refine (HF.out).mono ?_;rintro _ w1 ⟨hw,rfl⟩;subst hw;dsimp only;go_wp2_with fail;refine bodyPost_ret (results_tmp2 rfl _ _ _) rfl ?_;exact ⟨rfl,rfl⟩
   refine key.mono ?_;rintro e w' ⟨rfl,rfl⟩;refine ⟨_,_,rfl,(fun h=>by cases h),(fun _ h=>by cases h),fun f' _ h=>?_⟩;injection h with h
   subst h;exact ⟨aU.ok (aC.refl H.out (Below.refl _ _)) rfl,rfl⟩
end Go.Proofs.YtncigfibncmioaaGreatDoor
