/-
  PROVED HERE: what the program's own List of disks answers: the paths, the lesser first.
-/
import Derived.Test.YtncigfibncmioaaGreatDoorPdSet
import Derived.Test.YtncigfibncmioaaGreatDoorPdIter
import Derived.Lib.AppendStr
import Derived.Laws.BytesArg
import Derived.Laws.IdiomStrings
import Derived.Laws.Closers25b
namespace Go.Proofs.YtncigfibncmioaaGreatDoor
set_option maxHeartbeats 1000000
set_option maxRecDepth 100000
open Go.RowKit Go.Sort
def pathVs (l:List DE):List Value:=l.map fun e=>.string e.path
theorem keys_sorted {l:List DE} (hr:Rise l) {ss:List (List UInt8)} (hp:ss.Perm (strKeys (dOf l))):(ss.mergeSort (fun x y=>decide (x≤y))).map encStr=pathVs l∧ss.length=l.length:=by
 have hk:strKeys (dOf l)=l.map fun e=>e.path.data.toList:=by
  show (l.map dE).map (fun p=>strOf p.1)=_
  rw [List.map_map]
  rfl
 have hlt:∀ x y:ByteArray,lessB x y=true→x.data.toList<y.data.toList:=by
  intro x y h
  unfold lessB at h
  rw [bytesLess_eq,ByteArray.toList_eq,ByteArray.toList_eq] at h
  exact of_decide_eq_true h
 refine ⟨?_,?_⟩
 ·rw [mergeSort_of_perm hp,hk]
  have hs:(l.map fun e=>e.path.data.toList).Pairwise (fun x y=>decide (x≤y)=true):=by
   rw [List.pairwise_map]
   refine hr.imp ?_
   intro x y hxy
   have:=hlt _ _ hxy
   exact decide_eq_true (List.le_of_lt this)
  rw [List.mergeSort_of_pairwise hs,List.map_map]
  rfl
 ·rw [hp.length_eq,hk,List.length_map]
theorem psorted_any (mb:Nat) (l:List DE) (w:World) (h:PM Tryz.prog 9 w mb l) (hl:l.length≤100000000) :
  Calls Tryz.prog 97 #[.map (some mb)] w fun e w'=>∃ v,e = .returned v∧w'.ownsRow w.heap.size 9 1 v l.length (pathVs l)∧Below w.heap.size w w':=by
 have HK:=hide (callsIn_wide.1 (Tryz.maps_KeysL (some mb) w))
 have hsz:Maps.size (dOf l)=l.length:=by simp [dOf,Maps.size]
 have HS:=hide (callsIn_wide.1 (Tryz.slices_SortedL mb l.length (dOf l) ptrRd w h (by rw [hsz];unfold maxLen;omega) (by rw [hsz];omega)))
 have HR:=hide (h.rise (Maps.string_keyed Tryz.underlying9))
 clear h hsz
 go_enter Tryz.func97,Tryz.ntmps97
 go_wp2_with fail
 refine (HK.out).mono ?_
 rintro _ w1 ⟨rfl,hw⟩
 subst hw
 dsimp only
 go_wp2_with fail
 refine (HS.out).mono ?_
 rintro _ w2 ⟨v,ss,rfl,hperm,hrow,_,hb⟩
 dsimp only
 obtain ⟨e1,e2⟩:=keys_sorted HR.out hperm
 rw [e1,e2] at hrow
 have hfin:w2.ownsRow w.heap.size 9 1 v l.length (pathVs l)∧Below w.heap.size w w2 :=
  ⟨hrow.mono_base (by rw [size_alloc];omega),((Below.refl _ _).alloc (Nat.le_refl _) _).trans (hb.mono (by rw [size_alloc];omega))⟩
 have HFIN:=hide hfin
 clear hperm hrow hb e1 e2 hfin
 go_wp2_with fail
 go_ret
 exact ⟨_,rfl,HFIN.out.1,HFIN.out.2⟩
theorem plist_any (b:Nat) (R:RDk) (mb lb:Nat) (cv:Value) (w:World) (h:PDIs w b R mb lb cv) (hl:R.now.length≤100000000) :
  Calls Tryz.prog 54 #[.pointer (some ⟨b,0,none⟩)] w fun e w'=>∃ v,e = .returned v∧w'.ownsRow w.heap.size 9 1 v R.now.length (pathVs R.now)∧Below w.heap.size w w':=by
 have c1:w.cell? ⟨b,1,none⟩=some (.map (some mb)):=cell_of_row _ _ 1 _ _ _ h.blk
 have HS:=hide (psorted_any mb R.now w h.now hl)
 clear h
 go_enter Tryz.func54,Tryz.ntmps54
 go_wp2_with fail
 refine (HS.out).mono ?_
 rintro _ w2 ⟨v,rfl,hrow,hb⟩
 dsimp only
 have HR:=hide hrow
 have HB:=hide hb
 clear hrow hb
 go_wp2_with fail
 go_ret
 exact ⟨_,rfl,HR.out,HB.out⟩
set_option maxHeartbeats 1000000
set_option maxRecDepth 100000
open Go.RowKit
structure FD (w:World) (f:Nat) (x:ByteArray × Int) (v:Value):Prop where
 blk:w.heap[f]? = some (.cells #[v,.int .i64 x.2] 154 (0,0))
 row:w.ownsRow 0 5 1 v x.1.size (Lib.strCells x.1)
theorem strCells_take (s:ByteArray) (m:Nat):Lib.strCells (s.extract 0 m)=(Lib.strCells s).take m:=by
 unfold Lib.strCells
 rw [← List.map_take]
 congr 1
 simp
theorem strCells_app (s t:ByteArray):Lib.strCells (s++t)=Lib.strCells s++Lib.strCells t:=by
 unfold Lib.strCells
 rw [← List.map_append]
 simp
theorem size_ext (s:ByteArray) {m:Nat} (hm:m≤s.size):(s.extract 0 m).size=m:=by simp;omega
theorem own_take {w:World} {e:TypeId} {o:Option Addr} {n m cap:Nat} {xs:List Value} (h:w.ownsRow 0 e 1 (.slice o n cap) n xs) (hm:m≤n):w.ownsRow 0 e 1 (.slice o m cap) m (xs.take m):=by
 have hl:xs.length=n:=by simpa using h.1
 refine ⟨by rw [List.length_take];omega,?_⟩
 rcases h.2 with ⟨h1,h2⟩|⟨g,cp,cur,h1,h2,h3,h4,h5,h6,h7⟩
 ·injection h1 with h1 _ h3
  subst h1;subst h3
  have:m=0:=by omega
  subst this
  exact .inl ⟨rfl,rfl⟩
 ·injection h1 with h1 _ h8
  subst h1;subst h8
  refine .inr ⟨g,cap,cur,rfl,h2,h3,by omega,h5,h6,?_⟩
  rw [← h7,List.take_take]
  congr 1
  omega
theorem FD.shape {w:World} {f:Nat} {x:ByteArray × Int} {v:Value} (h:FD w f x v):∃ o cap,v = .slice o x.1.size cap∧x.1.size≤cap∧cap≤maxLen:=by
 rcases h.row.2 with ⟨rfl,h0⟩|⟨g,cap,cur,rfl,_,_,h4,h5,_⟩
 ·exact ⟨none,0,by rw [h0],by omega,by unfold maxLen;omega⟩
 ·exact ⟨_,cap,rfl,h4,h5⟩
theorem FD.rowNe {w:World} {f:Nat} {x:ByteArray × Int} {v:Value} (h:FD w f x v):v.ownBlock≠some f:=by
 intro e
 obtain ⟨cur,hc⟩:=own_obj h.row f e
 exact type_ne hc h.blk (by decide) rfl
theorem FD.set {w:World} {f:Nat} {x y:ByteArray × Int} {v v':Value} (h:FD w f x v) (ho:w.ownsRow 0 5 1 v' y.1.size (Lib.strCells y.1)):FD ((w.setCell ⟨f,0,none⟩ v').setCell ⟨f,1,none⟩ (.int .i64 y.2)) f y v':=by
 refine ⟨by rw [heap_setCell_same _ f 1 _ _ _ (heap_setCell_same _ f 0 _ _ _ h.blk)];rfl,own_same ho (fun k hk _=>?_)⟩
 have hk2:k≠f:=by
  intro e
  rw [e] at hk
  obtain ⟨cur,hc⟩:=own_obj ho f hk
  exact type_ne hc h.blk (by decide) rfl
 rw [heap_setCell_other _ _ _ _ (by simpa using hk2),heap_setCell_other _ _ _ _ (by simpa using hk2)]
theorem FD.set0 {w:World} {f:Nat} {x y:ByteArray × Int} {v v':Value} (h:w.heap[f]? = some (.cells #[v,.int .i64 x.2] 154 (0,0))) (hy:y.2=x.2) (ho:w.ownsRow 0 5 1 v' y.1.size (Lib.strCells y.1)):FD (w.setCell ⟨f,0,none⟩ v') f y v':=by
 refine ⟨by rw [heap_setCell_same _ f 0 _ _ _ h,hy];rfl,own_same ho (fun k hk _=>?_)⟩
 have hk2:k≠f:=by
  intro e
  rw [e] at hk
  obtain ⟨cur,hc⟩:=own_obj ho f hk
  exact type_ne hc h (by decide) rfl
 exact heap_setCell_other _ _ _ _ (by simpa using hk2)
theorem FD.set1 {w:World} {f:Nat} {x:ByteArray × Int} {v:Value} (h:FD w f x v) (y:Int):FD (w.setCell ⟨f,1,none⟩ (.int .i64 y)) f (x.1,y) v:=by
 refine ⟨by rw [heap_setCell_same _ f 1 _ _ _ h.blk];rfl,own_same h.row (fun k hk _=>heap_setCell_other _ _ _ _ (fun e=>h.rowNe (by simp only at e;rw [← e];exact hk)))⟩
theorem pcut_any (f:Nat) (x:ByteArray × Int) (v:Value) (n:Nat) (w:World) (h:FD w f x v) (hn:n≤x.1.size) :
  Calls Tryz.prog 88 #[.pointer (some ⟨f,0,none⟩),.int .i64 (n:Int)] w fun e w'=>e = .returned (.tuple #[])∧w.grownBy w' (some f)∧∃ v',FD w' f (x.1.extract 0 n,min x.2 (n:Int)) v'∧v'.ownBlock=v.ownBlock:=by
 obtain ⟨o,cap,rfl,hc1,hc2⟩:=h.shape
 have c0:w.cell? ⟨f,0,none⟩=some (.slice o x.1.size cap):=cell_of_row _ _ 0 _ _ _ h.blk
 have c1:w.cell? ⟨f,1,none⟩=some (.int .i64 x.2):=cell_of_row _ _ 1 _ _ _ h.blk
 have ff:=fun j=>frozen_of_row w f j _ _ h.blk
 have ho:=own_take h.row hn
 rw [← strCells_take] at ho
 have hset:∀ y:Int,FD ((w.setCell ⟨f,0,none⟩ (.slice o n cap)).setCell ⟨f,1,none⟩ (.int .i64 y)) f (x.1.extract 0 n,y) (.slice o n cap):=fun y=>h.set (y:=(x.1.extract 0 n,y)) (by dsimp only;rw [size_ext _ hn];exact ho)
 have HS:=hide hset
 have HG:Hid (∀ y:Int,w.grownBy ((w.setCell ⟨f,0,none⟩ (.slice o n cap)).setCell ⟨f,1,none⟩ (.int .i64 y)) (some f)):=fun y=>grownBy_trans (grownBy_set _ _ _ _) (grownBy_set _ _ _ _)
 have hncap:n≤cap:=by omega
 have hcap:cap≤9223372036854775807:=by unfold maxLen at hc2;omega
 have hob:∀ m,(Value.slice o m cap).ownBlock=(Value.slice o x.1.size cap).ownBlock:=by intro m;cases o<;>rfl
 have HOB:=hide hob
 clear h ho hset hob
 generalize x.1.size=sz at c0 hc1 hn HOB
 go_enter Tryz.func88,Tryz.ntmps88
 cases o with
 | none =>
  go_wp2_with fail
  go_end0
  exact ⟨rfl,HG.out _,_,HS.out _,HOB.out _⟩
 | some a =>
  go_wp2_with fail
  go_end0
  exact ⟨rfl,HG.out _,_,HS.out _,HOB.out _⟩
theorem psync_file (f:Nat) (x:ByteArray × Int) (v:Value) (w:World) (h:FD w f x v) :
  Calls Tryz.prog 89 #[.pointer (some ⟨f,0,none⟩)] w fun e w'=>e = .returned (.tuple #[])∧w.grownBy w' (some f)∧FD w' f (x.1,(x.1.size:Int)) v:=by
 have HF:=hide (h.set1 (x.1.size:Int))
 obtain ⟨o,cap,rfl,hc1,hc2⟩:=h.shape
 have c0:w.cell? ⟨f,0,none⟩=some (.slice o x.1.size cap):=cell_of_row _ _ 0 _ _ _ h.blk
 have c1:w.cell? ⟨f,1,none⟩=some (.int .i64 x.2):=cell_of_row _ _ 1 _ _ _ h.blk
 have ff:=fun j=>frozen_of_row w f j _ _ h.blk
 clear h
 go_enter Tryz.func89,Tryz.ntmps89
 go_wp2_with fail
 go_end0
 exact ⟨rfl,grownBy_set _ _ _ _,HF.out⟩
theorem own_app_new {w w':World} {e:TypeId} {v v':Value} {n:Nat} {xs:List Value} (h:w'.ownsRow w.heap.size e 1 v' n xs):NewOr w v v':=.inr fun k hk=>(h.lt k hk).1
theorem run_append_str {P:Program} (w:World) (t u ty e:TypeId) (i:TypeInfo) (ht:P.underlying t=some (.slice e)) (hu:P.underlying u=some .string) (hi:P.info? e=some i) (hz:i.zero=some (.int .u8 0)) (hsize:i.size=1) (hby:i.bytes=1)
  (v:Value) (n:Nat) (xs:List Value) (hown:w.ownsRow 0 e 1 v n xs) (s:ByteArray) (hbytes:n+s.size≤140737488355328) :
  ∃ o cap w',(Builtin.append_ #[t,u] ty #[v,.string s]).run P w = .ok (.slice o (n+s.size) cap) w'∧w'.ownsRow 0 e 1 (.slice o (n+s.size) cap) (n+s.size) (xs++Lib.strCells s)∧w.grownBy w' v.ownBlock∧NewOr w v (.slice o (n+s.size) cap):=by
 have h63:n+s.size≤maxLen:=by unfold maxLen;omega
 obtain ⟨v',w',hr,h2,h3,h4⟩:=Lib.run_append_own_string (P:=P) w 0 t u ty e i ht hu hi hz hsize hby v n xs hown s h63 hbytes (Nat.zero_le _)
 obtain ⟨o,cap,rfl⟩:=own_sl h2
 refine ⟨o,cap,w',hr,h2,h3,?_⟩
 rcases hown.2 with ⟨rfl,rfl⟩|⟨g,cp,cur,rfl,hbg,hg,hnc,hcm,hcs,htake⟩
 ·have hx:xs = []:=List.eq_nil_of_length_eq_zero (by simpa using hown.1)
  subst hx
  obtain ⟨v2,w2,hr2,k2,_⟩:=Lib.run_append_own_string (P:=P) w w.heap.size t u ty e i ht hu hi hz hsize hby _ 0 [] (World.ownsRow_nil _ _ _ _) s h63 hbytes (Nat.le_refl _)
  rw [hr] at hr2
  injection hr2 with e1 e2
  subst e1;subst e2
  exact own_app_new k2
 ·by_cases hroom:n+s.size≤cp
  ·have hr2:=Lib.run_append_room_string (P:=P) w t u ty e i ht hu hi hsize g n cp cur hg s hroom (by simp at hcs;omega)
   rw [hr] at hr2
   injection hr2 with e1 e2
   injection e1 with e1
   subst e1
   exact .inl rfl
  ·have holds:∀ j u,xs[j]? = some u→w.cell? ((⟨g,0,none⟩ : Addr).add j)=some u:=hown.cells (g:=g) rfl
   have hr2:=Lib.run_append_grow_string (P:=P) w t u ty e i (.int .u8 0) ht hu hi hz ⟨g,0,none⟩ n cp xs (by rw [hsize];simpa using hown.1) holds s (by omega) (by omega) (by rw [hby];exact growslice_fits (by omega) (by omega))
   rw [hr] at hr2
   injection hr2 with e1 e2
   injection e1 with e1
   subst e1
   refine .inr fun k hk=>?_
   simp only [Value.ownBlock,Option.some.injEq] at hk
   omega
theorem step_append_str {P:Program} (w:World) {ops:Array Oper} {o:Oper} {a:Act} {K:Act→World→Prop} {Q:Exit→Act→World→Prop} {E:Prop} (hgd:o.guard=none) (sl x:Operand) (t u:TypeId)
  (ho:o.op = .call { callee:=.builtin .append,args:=#[sl,x],argTypes:=#[t,u] })
  (e:TypeId) (i:TypeInfo) (ht:P.underlying t=some (.slice e)) (hu:P.underlying u=some .string) (hi:P.info? e=some i) (hz:i.zero=some (.int .u8 0)) (hsize:i.size=1) (hby:i.bytes=1)
  (v:Value) (n:Nat) (xs:List Value) (hs:a.eval sl=v) (hown:w.ownsRow 0 e 1 v n xs) (s:ByteArray) (hx:a.eval x = .string s) (hbytes:n+s.size≤140737488355328)
  (h:∀ oa cap w',w'.ownsRow 0 e 1 (.slice oa (n+s.size) cap) (n+s.size) (xs++Lib.strCells s)→w.grownBy w' v.ownBlock→NewOr w v (.slice oa (n+s.size) cap)→K (a.put o.dst (.slice oa (n+s.size) cap)) w') :
  if Region.wanted o (yielded ops a.tmps)=true then Oper.wp P o a w K Q else E:=by
 have hw:Region.wanted o (yielded ops a.tmps)=true:=by simp [Region.wanted,hgd]
 rw [if_pos hw]
 obtain ⟨oa,cap,w',hr,h2,h3,h4⟩:=run_append_str (P:=P) w t u o.type e i ht hu hi hz hsize hby v n xs hown s hbytes
 unfold Oper.wp execOp
 simp only [ho,resolve,invoke,builtin,Sem.run_bind,Sem.run_pure,Result.andThen_ok,List.map_toArray,List.map_cons,List.map_nil,hs,hx,hr]
 exact h oa cap w' h2 h3 h4
end Go.Proofs.YtncigfibncmioaaGreatDoor
namespace Go.Proofs.YtncigfibncmioaaGreatDoor
open Go.RowKit
structure PSt where
 b:Nat
 mb:Nat
 lb:Nat
 cv:Value
 R:RDk
 fs:List Nat
 fd:Nat→ByteArray × Int
 fv:Nat→Value
structure PSt.In (s:PSt) (w:World):Prop where
 is:PDIs w s.b s.R s.mb s.lb s.cv
 fds:∀ f∈s.fs,FD w f (s.fd f) (s.fv f)
 sep:∀ f∈s.fs,∀ g∈s.fs,f≠g→∀ k,(s.fv f).ownBlock=some k→(s.fv g).ownBlock≠some k
 inow:∀ e∈s.R.now,e.blk∈s.fs
 isafe:∀ e∈s.R.safe,e.blk∈s.fs
 ichg:∀ c∈s.R.chg,c.blk∈s.fs
def PSt.own (s:PSt) (k:Nat):Prop:=k=s.b∨k=s.mb∨k=s.lb∨s.cv.ownBlock=some k∨k∈s.fs∨∃ f∈s.fs,(s.fv f).ownBlock=some k
theorem FD.same {w w':World} {f:Nat} {x:ByteArray × Int} {v:Value} (h:FD w f x v) (h1:w'.heap[f]? = w.heap[f]?) (h2:∀ k,v.ownBlock=some k→w'.heap[k]? = w.heap[k]?):FD w' f x v:=⟨h1.trans h.blk,own_same h.row (fun k hk _=>h2 k hk)⟩
theorem PDIs.same {w w':World} {b mb lb:Nat} {R:RDk} {cv:Value} (h:PDIs w b R mb lb cv) (h1:w'.heap[b]? = w.heap[b]?) (h2:w'.heap[mb]? = w.heap[mb]?) (h3:w'.heap[lb]? = w.heap[lb]?) (h4:∀ k,cv.ownBlock=some k→w'.heap[k]? = w.heap[k]?):PDIs w' b R mb lb cv :=
 ⟨h1.trans h.blk,h.now.later h2,h.safe.later h3,h.apart,own_same h.chg (fun k hk _=>h4 k hk)⟩
theorem PSt.In.lt {s:PSt} {w:World} (h:s.In w) {k:Nat} (hk:s.own k):k<w.heap.size:=by
 rcases hk with rfl|rfl|rfl|hk|hk|⟨f,hf,hk⟩
 ·exact lt_of_row h.is.blk
 ·exact h.is.now.lt
 ·exact h.is.safe.lt
 ·obtain ⟨cur,hc⟩:=own_obj h.is.chg k hk;exact lt_heap hc
 ·exact lt_of_row (h.fds k hk).blk
 ·obtain ⟨cur,hc⟩:=own_obj (h.fds f hf).row k hk;exact lt_heap hc
theorem PSt.In.same {s:PSt} {w w':World} (h:s.In w) (hk:∀ k,s.own k→w'.heap[k]? = w.heap[k]?):s.In w':=by
 refine ⟨h.is.same (hk _ (.inl rfl)) (hk _ (.inr (.inl rfl))) (hk _ (.inr (.inr (.inl rfl)))) (fun k e=>hk k (.inr (.inr (.inr (.inl e))))),fun f hf=>?_,h.sep,h.inow,h.isafe,h.ichg⟩
 exact (h.fds f hf).same (hk f (.inr (.inr (.inr (.inr (.inl hf)))))) (fun k e=>hk k (.inr (.inr (.inr (.inr (.inr ⟨f,hf,e⟩))))))
theorem PSt.In.later {s:PSt} {w w':World} (h:s.In w) (hb:Below w.heap.size w w'):s.In w':=h.same fun k hk=>hb.block k (h.lt hk)
structure PGo (s s':PSt) (w w':World):Prop where
 b:s'.b=s.b
 inn:s'.In w'
 gr:Gr s.own w w'
 own:∀ k,s'.own k→s.own k∨w.heap.size≤k
theorem PGo.refl {s:PSt} {w w':World} (h:s.In w) (hb:Below w.heap.size w w'):PGo s s w w':=⟨rfl,h.later hb,Gr.of_below hb,fun _ hk=>.inl hk⟩
theorem PGo.trans {s s1 s2:PSt} {w w1 w2:World} (h1:PGo s s1 w w1) (h2:PGo s1 s2 w1 w2):PGo s s2 w w2:=by
 refine ⟨h2.b.trans h1.b,h2.inn,⟨h2.gr.os.trans h1.gr.os,h2.gr.tape.trans h1.gr.tape,h2.gr.output.trans h1.gr.output,Nat.le_trans h1.gr.size h2.gr.size,fun k hk hn=>?_⟩,fun k hk=>?_⟩
 ·refine (h2.gr.block k (Nat.lt_of_lt_of_le hk h1.gr.size) (fun hs=>?_)).trans (h1.gr.block k hk hn)
  rcases h1.own k hs with h|h
  ·exact hn h
  ·omega
 ·rcases h2.own k hk with h|h
  ·exact h1.own k h
  ·exact .inr (Nat.le_trans h1.gr.size h)
theorem PSt.In.fileNe {s:PSt} {w:World} (h:s.In w) {f:Nat} (hf:f∈s.fs):f≠s.b∧f≠s.mb∧f≠s.lb∧s.cv.ownBlock≠some f∧∀ k,(s.fv f).ownBlock=some k→k≠s.b∧k≠s.mb∧k≠s.lb∧s.cv.ownBlock≠some k∧k ∉ s.fs:=by
 have hb:=(h.fds f hf).blk
 obtain ⟨e1,c1,m1⟩:=h.is.now.isMap
 obtain ⟨e2,c2,m2⟩:=h.is.safe.isMap
 refine ⟨type_ne hb h.is.blk (by decide),(fun e=>by rw [e,m1] at hb;cases hb),(fun e=>by rw [e,m2] at hb;cases hb),fun e=>?_,fun k hk=>?_⟩
 ·obtain ⟨cur,hc⟩:=own_obj h.is.chg f e;exact type_ne hc hb (by decide) rfl
 ·obtain ⟨cur,hc⟩:=own_obj (h.fds f hf).row k hk
  refine ⟨type_ne hc h.is.blk (by decide),(fun e=>by rw [e,m1] at hc;cases hc),(fun e=>by rw [e,m2] at hc;cases hc),fun e=>?_,fun e=>?_⟩
  ·obtain ⟨cur2,hc2⟩:=own_obj h.is.chg k e;exact type_ne hc hc2 (by decide) rfl
  ·exact type_ne hc (h.fds k e).blk (by decide) rfl
def setV (fv:Nat→Value) (f:Nat) (v:Value):Nat→Value:=fun k=>if k=f then v else fv k
theorem setNd_same (nd:Nat→ByteArray × Int) (f:Nat) (x:ByteArray × Int):setNd nd f x f=x:=by simp [setNd]
theorem setNd_ne (nd:Nat→ByteArray × Int) {f k:Nat} (x:ByteArray × Int) (h:k≠f):setNd nd f x k=nd k:=by simp [setNd,h]
theorem setV_same (fv:Nat→Value) (f:Nat) (v:Value):setV fv f v f=v:=by simp [setV]
theorem setV_ne (fv:Nat→Value) {f k:Nat} (v:Value) (h:k≠f):setV fv f v k=fv k:=by simp [setV,h]
theorem PGo.file {s:PSt} {w w':World} (h:s.In w) {f:Nat} (hf:f∈s.fs) {x:ByteArray × Int} {v:Value} (hg:Gr (fun k=>k=f∨(s.fv f).ownBlock=some k) w w') (hn:FD w' f x v) (hv:NewOr w (s.fv f) v) :
  PGo s { s with fd:=setNd s.fd f x,fv:=setV s.fv f v } w w':=by
 obtain ⟨n1,n2,n3,n4,n5⟩:=h.fileNe hf
 have hk:∀ k,k<w.heap.size→k≠f→(s.fv f).ownBlock≠some k→w'.heap[k]? = w.heap[k]?:=fun k hk e1 e2=>hg.block k hk (fun e=>e.elim e1 e2)
 have hrow:∀ k,v.ownBlock=some k→(s.fv f).ownBlock=some k∨w.heap.size≤k:=fun k e=>hv.elim (fun h=>.inl (by rw [← h];exact e)) (fun h=>.inr (h k e))
 refine ⟨rfl,⟨?_,?_,?_,h.inow,h.isafe,h.ichg⟩,?_,?_⟩
 ·refine h.is.same (hk _ (lt_of_row h.is.blk) (Ne.symm n1) (fun e=>(n5 _ e).1 rfl)) (hk _ h.is.now.lt (Ne.symm n2) (fun e=>(n5 _ e).2.1 rfl)) (hk _ h.is.safe.lt (Ne.symm n3) (fun e=>(n5 _ e).2.2.1 rfl)) (fun k e=>?_)
  obtain ⟨cur,hc⟩:=own_obj h.is.chg k e
  exact hk k (lt_heap hc) (fun e2=>n4 (by rw [← e2];exact e)) (fun e2=>(n5 _ e2).2.2.2.1 e)
 ·intro g hg2
  dsimp only at hg2 ⊢
  by_cases e:g=f
  ·subst e
   rw [setNd_same,setV_same]
   exact hn
  ·rw [setNd_ne _ _ e,setV_ne _ _ e]
   refine (h.fds g hg2).same (hk g (lt_of_row (h.fds g hg2).blk) e (fun e2=>(n5 _ e2).2.2.2.2 hg2)) (fun k ek=>?_)
   obtain ⟨cur,hc⟩:=own_obj (h.fds g hg2).row k ek
   refine hk k (lt_heap hc) (fun e2=>?_) (h.sep g hg2 f hf e k ek)
   exact (h.fileNe hg2).2.2.2.2 k ek |>.2.2.2.2 (by rw [e2];exact hf)
 ·intro g hg2 g' hg3 hne k ek
  dsimp only at hg2 hg3 ek ⊢
  have hold:∀ y∈s.fs,y≠f→∀ k,(s.fv y).ownBlock=some k→v.ownBlock≠some k:=by
   intro y hy hyf k e1 e2
   rcases hrow k e2 with e3|e3
   ·exact h.sep y hy f hf hyf k e1 e3
   ·obtain ⟨cur,hc⟩:=own_obj (h.fds y hy).row k e1
    have:=lt_heap hc
    omega
  by_cases e:g=f
  ·subst e
   rw [setV_same] at ek
   rw [setV_ne _ _ (Ne.symm hne)]
   exact fun e2=>hold g' hg3 (Ne.symm hne) k e2 ek
  ·rw [setV_ne _ _ e] at ek
   by_cases e':g'=f
   ·subst e'
    rw [setV_same]
    exact hold g hg2 e k ek
   ·rw [setV_ne _ _ e']
    exact h.sep g hg2 g' hg3 hne k ek
 ·exact hg.mono fun k _ e=>e.elim (fun e=>by rw [e];exact .inr (.inr (.inr (.inr (.inl hf))))) (fun e=>.inr (.inr (.inr (.inr (.inr ⟨f,hf,e⟩)))))
 ·intro k hk2
  rcases hk2 with e|e|e|e|e|⟨g,hg2,e⟩
  ·exact .inl (.inl e)
  ·exact .inl (.inr (.inl e))
  ·exact .inl (.inr (.inr (.inl e)))
  ·exact .inl (.inr (.inr (.inr (.inl e))))
  ·exact .inl (.inr (.inr (.inr (.inr (.inl e)))))
  ·dsimp only at hg2 e
   by_cases e2:g=f
   ·subst e2
    rw [setV_same] at e
    rcases hrow k e with e3|e3
    ·exact .inl (.inr (.inr (.inr (.inr (.inr ⟨g,hg2,e3⟩)))))
    ·exact .inr e3
   ·rw [setV_ne _ _ e2] at e
    exact .inl (.inr (.inr (.inr (.inr (.inr ⟨g,hg2,e⟩)))))
theorem PGo.disk {s:PSt} {w w':World} (h:s.In w) {R':RDk} {mb' lb':Nat} {cv':Value} (hg:Gr (fun k=>k=s.b∨k=s.mb∨k=s.lb∨s.cv.ownBlock=some k) w w') (hd:PDIs w' s.b R' mb' lb' cv')
  (hm:mb'=s.mb∨w.heap.size≤mb') (hl:lb'=s.lb∨w.heap.size≤lb') (hv:NewOr w s.cv cv') (h1:∀ e∈R'.now,e.blk∈s.fs) (h2:∀ e∈R'.safe,e.blk∈s.fs) (h3:∀ c∈R'.chg,c.blk∈s.fs) :
  PGo s { s with R:=R',mb:=mb',lb:=lb',cv:=cv' } w w':=by
 refine ⟨rfl,⟨hd,?_,h.sep,h1,h2,h3⟩,hg.mono fun k _ e=>?_,?_⟩
 ·intro f hf
  obtain ⟨n1,n2,n3,n4,n5⟩:=h.fileNe hf
  refine (h.fds f hf).same (hg.block f (lt_of_row (h.fds f hf).blk) (fun e=>?_)) (fun k ek=>?_)
  ·rcases e with e|e|e|e
   ·exact n1 e
   ·exact n2 e
   ·exact n3 e
   ·exact n4 e
  ·obtain ⟨cur,hc⟩:=own_obj (h.fds f hf).row k ek
   obtain ⟨m1,m2,m3,m4,_⟩:=n5 k ek
   refine hg.block k (lt_heap hc) (fun e=>?_)
   rcases e with e|e|e|e
   ·exact m1 e
   ·exact m2 e
   ·exact m3 e
   ·exact m4 e
 ·rcases e with e|e|e|e
  ·exact .inl e
  ·exact .inr (.inl e)
  ·exact .inr (.inr (.inl e))
  ·exact .inr (.inr (.inr (.inl e)))
 ·intro k hk2
  rcases hk2 with e|e|e|e|e|e
  ·exact .inl (.inl e)
  ·dsimp only at e
   rcases hm with hm|hm
   ·exact .inl (.inr (.inl (by rw [e,hm])))
   ·exact .inr (by rw [e];exact hm)
  ·dsimp only at e
   rcases hl with hl|hl
   ·exact .inl (.inr (.inr (.inl (by rw [e,hl]))))
   ·exact .inr (by rw [e];exact hl)
  ·dsimp only at e
   rcases hv with hv|hv
   ·exact .inl (.inr (.inr (.inr (.inl (by rw [← hv];exact e)))))
   ·exact .inr (hv k e)
  ·exact .inl (.inr (.inr (.inr (.inr (.inl e)))))
  ·exact .inl (.inr (.inr (.inr (.inr (.inr e)))))
end Go.Proofs.YtncigfibncmioaaGreatDoor
namespace Go.Proofs.YtncigfibncmioaaGreatDoor
set_option maxHeartbeats 2000000
set_option maxRecDepth 100000
open Go.RowKit
def anyBad (ps:List ByteArray):Bool:=ps.any fun p=>!isPathB p
def StrsAt (w:World) (v:Value) (ps:List ByteArray):Prop:=∃ oa c,v = .slice oa ps.length c∧∀ i,i<ps.length→∃ g,oa=some ⟨g,0,none⟩∧w.cell? ⟨g,i,none⟩=some (.string (ps.getD i ⟨#[]⟩))
theorem any_none {ps:List ByteArray} (h:∀ j,j<ps.length→isPathB (ps.getD j ⟨#[]⟩)=true):anyBad ps=false:=by
 unfold anyBad
 rw [List.any_eq_false]
 intro p hp
 obtain ⟨i,hi,rfl⟩:=List.getElem_of_mem hp
 have:=h i hi
 rw [List.getD_eq_getElem?_getD,List.getElem?_eq_getElem hi] at this
 simpa using this
theorem any_some {ps:List ByteArray} {k:Nat} (hk:k<ps.length) (h:isPathB (ps.getD k ⟨#[]⟩)=false):anyBad ps=true:=by
 unfold anyBad
 rw [List.any_eq_true]
 refine ⟨ps.getD k ⟨#[]⟩,?_,by rw [h];rfl⟩
 rw [List.getD_eq_getElem?_getD,List.getElem?_eq_getElem hk]
 simp
theorem indexF_any (v:Value) (ps:List ByteArray) (w:World) (h:StrsAt w v ps) (hl:ps.length≤1000000000) (hp:∀ p∈ps,p.size≤9223372036854775807) :
  Calls Tryz.prog 245 #[v,.func (.func 163) #[] #[]] w fun e w'=>w'=w∧∃ i:Int,e = .returned (.int .i64 i)∧decide (0≤i)=anyBad ps:=by
 obtain ⟨oa,c,rfl,hr⟩:=h
 obtain ⟨n,hn⟩ : ∃ n,n=ps.length:=⟨_,rfl⟩
 rw [← hn] at hr hl ⊢
 have HN:=hide hn
 have HR:=hide hr
 have HI:=hide (fun p (hm:p∈ps)=>isNoPath_any p w (hp p hm))
 clear hn hr
 go_enter Tryz.func245,Tryz.ntmps245
 go_wp2_with fail
 go_loopw [8] (fun iv wr=>∃ k:Nat,k≤n∧iv = .int .i64 ((k:Nat):Int)∧wr=w∧∀ j,j<k→isPathB (ps.getD j ⟨#[]⟩)=true) (fun iv _=>n - (intOf iv).toNat)
 case atStart=>exact ⟨0,Nat.zero_le _,rfl,rfl,fun j hj=>by omega⟩
 case round =>
  obtain ⟨k,hk,rfl,hw,hne⟩:=hrel
  subst hw
  have HNE:=hide hne
  clear hne
  by_cases hlt:k<n
  ·obtain ⟨g,rfl,hrg⟩:=HR.out k hlt
   have hmem:ps.getD k ⟨#[]⟩∈ps:=by
    have hk2:k<ps.length:=by rw [← HN.out];exact hlt
    rw [List.getD_eq_getElem?_getD,List.getElem?_eq_getElem hk2];simp
   have HC:=hide (HI.out _ hmem)
   obtain ⟨p,hpe⟩ : ∃ p,p=ps.getD k ⟨#[]⟩:=⟨_,rfl⟩
   rw [← hpe] at hrg HC
   have HPE:=hide hpe
   clear hmem hpe
   go_wp2_with fail
   refine (HC.out).mono ?_
   rintro _ w1 ⟨rfl,hw⟩
   subst hw
   dsimp only
   cases hb:isPathB p with
   | true =>
    simp only [Bool.not_true]
    go_wp2_with fail
    go_roundw
    case rel =>
     refine ⟨k+1,by omega,by go_num,by first|trivial|rfl,fun j hj=>?_⟩
     by_cases e:j=k
     ·subst e;rw [← HPE.out];exact hb
     ·exact HNE.out j (by omega)
    case measure=>simp [intOf];omega
   | false =>
    simp only [Bool.not_false]
    go_wp2_with fail
    go_ret
    refine ⟨rfl,_,rfl,?_⟩
    rw [any_some (k:=k) (by rw [← HN.out];exact hlt) (by rw [← HPE.out];exact hb)]
    simp
  ·have e1:decide (((k:Nat):Int)<((n:Nat):Int))=false:=by simp;omega
   go_wp2_with fail
   go_ret
   refine ⟨rfl,_,rfl,?_⟩
   rw [any_none (fun j hj=>HNE.out j (by rw [← HN.out] at hj;omega))]
   decide
theorem containsF_any (v:Value) (ps:List ByteArray) (w:World) (h:StrsAt w v ps) (hl:ps.length≤1000000000) (hp:∀ p∈ps,p.size≤9223372036854775807) :
  Calls Tryz.prog 213 #[v,.func (.func 163) #[] #[]] w fun e w'=>w'=w∧e = .returned (.bool (anyBad ps)):=by
 have HI:=hide (indexF_any v ps w h hl hp)
 obtain ⟨oa,c,rfl,_⟩:=h
 go_enter Tryz.func213,Tryz.ntmps213
 go_wp2_with fail
 refine (HI.out).mono ?_
 rintro _ w1 ⟨hw,i,rfl,hi⟩
 subst hw
 dsimp only
 have HX:=hide hi
 clear hi
 go_wp2_with fail
 go_ret
 refine ⟨rfl,?_⟩
 rw [← HX.out]
 rfl
theorem PDIs.setCount {w:World} {b mb lb:Nat} {R:RDk} {cv:Value} (h:PDIs w b R mb lb cv) (c:Int):PDIs (w.setCell ⟨b,4,none⟩ (.int .i64 c)) b { R with count:=c } mb lb cv:=by
 obtain ⟨n1,n2,n3,n4,n5⟩:=h.ne
 have hset:∀ k,k≠b→(w.setCell ⟨b,4,none⟩ (.int .i64 c)).heap[k]? = w.heap[k]?:=fun k hk=>heap_setCell_other _ _ _ _ (by simpa using hk)
 exact ⟨by rw [heap_setCell_same _ b 4 _ _ _ h.blk];rfl,h.now.later (hset _ (Ne.symm n4)),h.safe.later (hset _ (Ne.symm n5)),h.apart,own_same h.chg (fun k hk _=>hset k (fun e=>n1 (by rw [← e];exact hk)))⟩
theorem PDIs.setLeft {w:World} {b mb lb:Nat} {R:RDk} {cv:Value} (h:PDIs w b R mb lb cv) (c:Int):PDIs (w.setCell ⟨b,5,none⟩ (.int .i64 c)) b { R with left:=c } mb lb cv:=by
 obtain ⟨n1,n2,n3,n4,n5⟩:=h.ne
 have hset:∀ k,k≠b→(w.setCell ⟨b,5,none⟩ (.int .i64 c)).heap[k]? = w.heap[k]?:=fun k hk=>heap_setCell_other _ _ _ _ (by simpa using hk)
 exact ⟨by rw [heap_setCell_same _ b 5 _ _ _ h.blk];rfl,h.now.later (hset _ (Ne.symm n4)),h.safe.later (hset _ (Ne.symm n5)),h.apart,own_same h.chg (fun k hk _=>hset k (fun e=>n1 (by rw [← e];exact hk)))⟩
theorem PGo.set {s:PSt} {w w':World} (h:s.In w) {R':RDk} (hg:w.grownBy w' (some s.b)) (hd:PDIs w' s.b R' s.mb s.lb s.cv) (h1:R'.now=s.R.now) (h2:R'.safe=s.R.safe) (h3:R'.chg=s.R.chg):PGo s { s with R:=R' } w w' :=
 PGo.disk h (Gr.of_grownBy hg (.inl rfl)) hd (.inl rfl) (.inl rfl) (.inl rfl) (by rw [h1];exact h.inow) (by rw [h2];exact h.isafe) (by rw [h3];exact h.ichg)
theorem pstep_bad (b:Nat) (nm:ByteArray) (pv:Value) (ps:List ByteArray) (fvv:Value) (w:World) (hs:StrsAt w pv ps) (hl:ps.length≤1000000000) (hp:∀ p∈ps,p.size≤9223372036854775807) (hb:anyBad ps=true) :
  Calls Tryz.prog 166 #[.pointer (some ⟨b,0,none⟩),.string nm,pv,fvv] w fun e w'=>∃ v,e = .returned v∧stepE w' v 2∧Below w.heap.size w w':=by
 have HC:=hide (containsF_any pv ps w hs hl hp)
 rw [hb] at HC
 obtain ⟨oa,c,rfl,_⟩:=hs
 have hfin:stepE (w.alloc (.cells #[.string nm,.iface 161 (.int .i64 2)] 167)) (.iface 165 (.pointer (some ⟨w.heap.size,0,none⟩))) 2:=⟨_,nm,rfl,heap_alloc_new _ _⟩
 have HF:=hide hfin
 clear hfin
 go_enter Tryz.func166,Tryz.ntmps166
 go_wp2_with fail
 refine (HC.out).mono ?_
 rintro _ w1 ⟨hw,rfl⟩
 subst hw
 dsimp only
 go_wp2_with fail
 go_ret
 exact ⟨_,rfl,HF.out,(Below.refl _ _).alloc (Nat.le_refl _) _⟩
theorem pstep_broken (s:PSt) (nm:ByteArray) (pv:Value) (ps:List ByteArray) (fvv:Value) (w:World) (h:s.In w) (hs:StrsAt w pv ps) (hl:ps.length≤1000000000) (hp:∀ p∈ps,p.size≤9223372036854775807) (hb:anyBad ps=false) (h0:s.R.left=0) :
  Calls Tryz.prog 166 #[.pointer (some ⟨s.b,0,none⟩),.string nm,pv,fvv] w fun e w'=>e = .returned .nilIface∧w'=w:=by
 have HC:=hide (containsF_any pv ps w hs hl hp)
 rw [hb] at HC
 obtain ⟨oa,c,rfl,_⟩:=hs
 have c5:w.cell? ⟨s.b,5,none⟩=some (.int .i64 s.R.left):=cell_of_row _ _ 5 _ _ _ h.is.blk
 rw [h0] at c5
 clear h
 go_enter Tryz.func166,Tryz.ntmps166
 go_wp2_with fail
 refine (HC.out).mono ?_
 rintro _ w1 ⟨hw,rfl⟩
 subst hw
 dsimp only
 go_wp2_with fail
 go_ret
 exact ⟨rfl,rfl⟩
theorem pstep_run (s:PSt) (nm:ByteArray) (pv:Value) (ps:List ByteArray) (K:Nat) (cap:Array Value) (w:World) (Bad:Int→Prop) (P:PSt→Prop) (h:s.In w) (hs:StrsAt w pv ps) (hl:ps.length≤1000000000) (hp:∀ p∈ps,p.size≤9223372036854775807) (hb:anyBad ps=false) (h0:s.R.left≠0) (hf:Cnt4 s.R)
  (hcf:∀ (args:Array Value) (w:World),(callFunc K args).run Tryz.prog w = .ok (.enter K args) w)
  (hv:Calls Tryz.prog K cap w fun e w1=>(∃ k,Bad k∧e = .returned (refV k)∧Below w.heap.size w w1)∨(e = .returned .nilIface∧∃ s1,PGo s s1 w w1∧s1.R.count=s.R.count∧s1.R.left=s.R.left∧P s1)) :
  Calls Tryz.prog 166 #[.pointer (some ⟨s.b,0,none⟩),.string nm,pv,.func (.func K) #[] cap] w fun e w' =>
   (∃ k v,Bad k∧e = .returned v∧stepE w' v k∧Below w.heap.size w w')∨(e = .returned .nilIface∧∃ s1,PGo s { s1 with R:=s1.R.wrote } w w'∧P s1):=by
 have HC:=hide (containsF_any pv ps w hs hl hp)
 rw [hb] at HC
 obtain ⟨oa,c,rfl,_⟩:=hs
 have c5:w.cell? ⟨s.b,5,none⟩=some (.int .i64 s.R.left):=cell_of_row _ _ 5 _ _ _ h.is.blk
 have HV:=hide hv
 have HF:=hide hf
 have e5:decide (s.R.left=0)=false:=decide_eq_false h0
 clear h hv hf
 go_enter Tryz.func166,Tryz.ntmps166
 go_wp2_with fail
 refine (HC.out).mono ?_
 rintro _ w1 ⟨hw,rfl⟩
 subst hw
 dsimp only
 go_wp2_with fail
 refine (HV.out).mono ?_
 rintro _ w2 (⟨k,hbk,rfl,hbl⟩|⟨rfl,s1,hgo,hcn,hlf,hP⟩)
 ·dsimp only [refV]
  have hfin:stepE (w2.alloc (.cells #[.string nm,.iface 161 (.int .i64 k)] 167)) (.iface 165 (.pointer (some ⟨w2.heap.size,0,none⟩))) k:=⟨_,nm,rfl,heap_alloc_new _ _⟩
  have HFIN:=hide hfin
  have HBL:=hide (hbl.alloc hbl.size (.cells #[.string nm,.iface 161 (.int .i64 k)] 167))
  have HBK:=hide hbk
  clear hfin hbl hbk
  go_wp2_with fail
  go_ret
  exact .inl ⟨k,_,HBK.out,rfl,HFIN.out,HBL.out⟩
 ·dsimp only
  have hin:=hgo.inn
  have hbb:=hgo.b
  have hd:=hin.is
  rw [hbb] at hd
  have k4:w2.cell? ⟨s.b,4,none⟩=some (.int .i64 s1.R.count):=cell_of_row _ _ 4 _ _ _ hd.blk
  have k5:w2.cell? ⟨s.b,5,none⟩=some (.int .i64 s1.R.left):=cell_of_row _ _ 5 _ _ _ hd.blk
  have kf:=fun j=>frozen_of_row w2 s.b j _ _ hd.blk
  obtain ⟨q1,q2,q3,q4⟩ : Cnt4 s1.R:=by unfold Cnt4;rw [hcn,hlf];exact HF.out
  have hl0:s1.R.left≠0:=by rw [hlf];exact h0
  by_cases hm1:s1.R.left = -1
  ·have hR:s1.R.wrote = { s1.R with count:=s1.R.count+1 }:=by
    unfold RDk.wrote
    rw [if_neg (by omega)]
   have hgo2:PGo s { s1 with R:=s1.R.wrote } w1 (w2.setCell ⟨s.b,4,none⟩ (.int .i64 (s1.R.count+1))):=by
    refine hgo.trans (PGo.set hin (by rw [hbb];exact grownBy_set _ _ _ _) ?_ rfl rfl rfl)
    rw [hbb,hR]
    exact hd.setCount _
   have HGO:=hide hgo2
   have HP:=hide hP
   rw [hm1] at k5
   clear hgo2 hR hgo hP hin hd hl0 hlf hcn
   go_wp2_with fail
   go_ret
   exact .inr ⟨rfl,s1,HGO.out,HP.out⟩
  ·have hR:s1.R.wrote = { s1.R with count:=s1.R.count+1,left:=s1.R.left - 1 }:=by
    unfold RDk.wrote
    rw [if_pos (by omega)]
   have hgo2:PGo s { s1 with R:=s1.R.wrote } w1 ((w2.setCell ⟨s.b,4,none⟩ (.int .i64 (s1.R.count+1))).setCell ⟨s.b,5,none⟩ (.int .i64 (s1.R.left - 1))):=by
    refine hgo.trans (PGo.set hin (by rw [hbb];exact grownBy_trans (grownBy_set _ _ _ _) (grownBy_set _ _ _ _)) ?_ rfl rfl rfl)
    rw [hbb,hR]
    exact (hd.setCount _).setLeft _
   have HGO:=hide hgo2
   have HP:=hide hP
   have m5:decide (s1.R.left = -1)=false:=decide_eq_false hm1
   have hw1:s1.R.left - 1≤9223372036854775807:=by omega
   have hw2 : -9223372036854775808≤s1.R.left - 1:=by omega
   clear hgo2 hR hgo hP hin hd hl0 hlf hcn
   go_wp2_with fail
   go_ret
   exact .inr ⟨rfl,s1,HGO.out,HP.out⟩
set_option maxHeartbeats 1000000
set_option maxRecDepth 100000
open Go.RowKit
def PRet (s:PSt) (w:World) (k:Int) (P:PSt→Prop) (v:Value) (w':World):Prop :=
 (k≠0→stepE w' v k∧Below w.heap.size w w')∧(k=0→v = .nilIface∧∃ s1,PGo s s1 w w'∧P s1)
theorem PRet.bad {s:PSt} {w w':World} {k:Int} {P:PSt→Prop} {v:Value} (hk:k≠0) (h1:stepE w' v k) (h2:Below w.heap.size w w'):PRet s w k P v w':=⟨fun _=>⟨h1,h2⟩,fun h=>absurd h hk⟩
theorem PRet.ok {s s1:PSt} {w w':World} {P:PSt→Prop} (h1:PGo s s1 w w') (h2:P s1):PRet s w 0 P .nilIface w':=⟨fun h=>absurd rfl h,fun _=>⟨rfl,s1,h1,h2⟩⟩
theorem PRet.below {s:PSt} {w w1 w':World} {k:Int} {P:PSt→Prop} {v:Value} (h:PRet s w1 k P v w') (hi:s.In w) (hb:Below w.heap.size w w1):PRet s w k P v w' :=
 ⟨fun hk=>⟨(h.1 hk).1,hb.trans ((h.1 hk).2.mono hb.size)⟩,fun hk=>⟨(h.2 hk).1,by obtain ⟨s1,h1,h2⟩:=(h.2 hk).2;exact ⟨s1,(PGo.refl hi hb).trans h1,h2⟩⟩⟩
theorem errno_ret {s:PSt} {w w1:World} {k:Int} {P:PSt→Prop} {v:Value} (h:PRet s w k P v w1) (hg:w.cell? ⟨0,0,none⟩=some errT) :
  Calls Tryz.prog 51 #[v] w1 fun e2 w2=>e2 = .returned (.int .i64 k)∧(k≠0→Below w.heap.size w w2)∧(k=0→∃ s1,PGo s s1 w w2∧P s1):=by
 by_cases hk:k=0
 ·obtain ⟨rfl,s1,hgo,hP⟩:=h.2 hk
  refine (errno_nil w1).mono ?_
  rintro e2 w2 ⟨rfl,hb⟩
  subst hk
  exact ⟨rfl,fun h=>absurd rfl h,fun _=>⟨s1,hgo.trans (PGo.refl hgo.inn hb),hP⟩⟩
 ·obtain ⟨hs,hb⟩:=h.1 hk
  refine (errno_step v k w1 hs (cell_later hb hg)).mono ?_
  rintro e2 w2 ⟨rfl,hb2⟩
  exact ⟨rfl,fun _=>hb.trans (hb2.mono hb.size),fun h=>absurd h hk⟩
theorem three0 (w:World) (a:Array Value) (t:TypeId) (o2 o3:Obj):(((w.alloc (.cells a t)).alloc o2).alloc o3).heap[w.heap.size]? = some (.cells a t (0,0)):=by
 rw [Below.heap_alloc _ _ _ (by rw [size_alloc,size_alloc];omega),Below.heap_alloc _ _ _ (by rw [size_alloc];omega)]
 exact heap_alloc_new _ _
theorem three1 (w:World) (o1:Obj) (a:Array Value) (t:TypeId) (o3:Obj):(((w.alloc o1).alloc (.cells a t)).alloc o3).heap[w.heap.size+1]? = some (.cells a t (0,0)):=by
 rw [Below.heap_alloc _ _ _ (by rw [size_alloc,size_alloc];omega)]
 have:=heap_alloc_new (w.alloc o1) (.cells a t)
 rw [size_alloc] at this
 exact this
theorem three2 (w:World) (o1 o2:Obj) (a:Array Value) (t:TypeId):(((w.alloc o1).alloc o2).alloc (.cells a t)).heap[w.heap.size+1+1]? = some (.cells a t (0,0)):=by
 have:=heap_alloc_new ((w.alloc o1).alloc o2) (.cells a t)
 rw [size_alloc,size_alloc] at this
 exact this
theorem pstep_one (s:PSt) (nm:ByteArray) (pv:Value) (p:ByteArray) (K:Nat) (cap:Array Value) (w:World) (Bad:Int→Prop) (P:PSt→Prop) (h:s.In w) (hs:StrsAt w pv [p]) (hp:p.size≤9223372036854775807) (hf:Cnt4 s.R)
  (hcf:∀ (args:Array Value) (w:World),(callFunc K args).run Tryz.prog w = .ok (.enter K args) w)
  (hv:isPathB p=true→Calls Tryz.prog K cap w fun e w1=>(∃ k,Bad k∧e = .returned (refV k)∧Below w.heap.size w w1)∨(e = .returned .nilIface∧∃ s1,PGo s s1 w w1∧s1.R.count=s.R.count∧s1.R.left=s.R.left∧P s1)) :
  Calls Tryz.prog 166 #[.pointer (some ⟨s.b,0,none⟩),.string nm,pv,.func (.func K) #[] cap] w fun e w'=>∃ v,e = .returned v ∧
   (isPathB p=false→PRet s w 2 (fun _=>True) v w')∧(isPathB p=true→s.R.left=0→PRet s w 0 (fun s1=>s1=s) v w') ∧
   (isPathB p=true→s.R.left≠0→(∃ k,Bad k∧stepE w' v k∧Below w.heap.size w w')∨(v = .nilIface∧∃ s1,PGo s { s1 with R:=s1.R.wrote } w w'∧P s1)):=by
 have hq:∀ q∈[p],q.size≤9223372036854775807:=by intro q hq;simp only [List.mem_singleton] at hq;rw [hq];exact hp
 cases hpp:isPathB p with
 | false =>
  have ha:anyBad [p]=true:=by simp [anyBad,hpp]
  refine (pstep_bad s.b nm pv [p] _ w hs (by simp) hq ha).mono ?_
  rintro e w' ⟨v,rfl,h1,h2⟩
  exact ⟨v,rfl,fun _=>PRet.bad (by decide) h1 h2,(fun h=>by cases h),(fun h=>by cases h)⟩
 | true =>
  have ha:anyBad [p]=false:=by simp [anyBad,hpp]
  by_cases h0:s.R.left=0
  ·refine (pstep_broken s nm pv [p] _ w h hs (by simp) hq ha h0).mono ?_
   rintro e w' ⟨rfl,rfl⟩
   exact ⟨_,rfl,(fun h=>by cases h),fun _ _=>PRet.ok (PGo.refl h (Below.refl _ _)) rfl,fun _ h1=>absurd h0 h1⟩
  ·refine (pstep_run s nm pv [p] K cap w Bad P h hs (by simp) hq ha h0 hf hcf (hv hpp)).mono ?_
   rintro e w' (⟨k,v,h1,rfl,h2,h3⟩|⟨rfl,h1⟩)
   ·exact ⟨v,rfl,(fun h=>by cases h),fun _ h1=>absurd h1 h0,fun _ _=>.inl ⟨k,h1,h2,h3⟩⟩
   ·exact ⟨_,rfl,(fun h=>by cases h),fun _ h1=>absurd h1 h0,fun _ _=>.inr ⟨rfl,h1⟩⟩
theorem Tryz.enter (K:Nat) (fn:Func) (h1:Tryz.prog.funcs[K]? = some fn) (h2:(fn.name == "runtime.NumGoroutine")=false) (c:Code) (h3:fn.body=some c) (args:Array Value) (w:World):(callFunc K args).run Tryz.prog w = .ok (.enter K args) w:=enters_of h1 h2 h3 args w
theorem psyncC (s:PSt) (g0 g1:Nat) (p:ByteArray) (w:World) (h:s.In w) (c0:w.cell? ⟨g0,0,none⟩=some (.pointer (some ⟨s.b,0,none⟩))) (c1:w.cell? ⟨g1,0,none⟩=some (.string p)) (hp:p.size≤9223372036854775807) (hpp:isPathB p=true) :
  Calls Tryz.prog 252 #[.pointer (some ⟨g0,0,none⟩),.pointer (some ⟨g1,0,none⟩)] w fun e w1 =>
   (∃ k,(k=3∧findE p s.R.now=none)∧e = .returned (refV k)∧Below w.heap.size w w1)∨(e = .returned .nilIface∧∃ s1,PGo s s1 w w1∧s1.R.count=s.R.count∧s1.R.left=s.R.left∧∃ f,findE p s.R.now=some f∧s1.R=s.R∧s1.fs=s.fs∧s1.fd=setNd s.fd f ((s.fd f).1,((s.fd f).1.size:Int))):=by
 have HF:=hide (pfind_any s.b s.R s.mb s.lb s.cv p w h.is hp)
 rw [hpp] at HF
 simp only [if_true] at HF
 have H:=hide h
 clear h
 cases hfo:findE p s.R.now with
 | none =>
  rw [hfo] at HF
  dsimp only [refV] at HF
  go_enter Tryz.func252,Tryz.ntmps252
  go_wp2_with fail
  refine (HF.out).mono ?_
  rintro _ w1 ⟨hw,rfl⟩
  subst hw
  dsimp only
  go_wp2_with fail
  go_ret
  exact .inl ⟨3,⟨rfl,by first|trivial|rfl⟩,rfl,Below.refl _ _⟩
 | some f =>
  rw [hfo] at HF
  dsimp only at HF
  have hm:f∈s.fs:=by
   obtain ⟨e,he,hb⟩:=findE_mem hfo
   rw [← hb];exact H.out.inow e he
  have HS:=hide (psync_file f _ _ w (H.out.fds f hm))
  go_enter Tryz.func252,Tryz.ntmps252
  go_wp2_with fail
  refine (HF.out).mono ?_
  rintro _ w1 ⟨hw,rfl⟩
  subst hw
  dsimp only
  go_wp2_with fail
  refine (HS.out).mono ?_
  rintro _ w2 ⟨rfl,hg2,hfd2⟩
  dsimp only
  have hgo:=PGo.file H.out hm ((Gr.of_grownBy hg2 (.inl rfl)):Gr (fun k=>k=f∨(s.fv f).ownBlock=some k) w1 w2) hfd2 (.inl rfl)
  have HGO:=hide hgo
  clear hgo hg2 hfd2
  go_wp2_with fail
  go_ret
  exact .inr ⟨rfl,_,HGO.out,rfl,rfl,f,rfl,rfl,rfl,rfl⟩
theorem pdSync (s:PSt) (p:ByteArray) (w:World) (h:s.In w) (hp:p.size≤9223372036854775807) (hf:Cnt4 s.R) :
  Calls Tryz.prog 229 #[.pointer (some ⟨s.b,0,none⟩),.string p] w fun e w'=>∃ v,e = .returned v ∧
   (isPathB p=false→PRet s w 2 (fun _=>True) v w') ∧
   (isPathB p=true→s.R.left=0→PRet s w 0 (fun s1=>s1=s) v w') ∧
   (isPathB p=true→s.R.left≠0→findE p s.R.now=none→PRet s w 3 (fun _=>True) v w') ∧
   (∀ f,isPathB p=true→s.R.left≠0→findE p s.R.now=some f→PRet s w 0 (fun s1=>s1.R=s.R.wrote∧s1.fs=s.fs∧s1.fd=setNd s.fd f ((s.fd f).1,((s.fd f).1.size:Int))) v w'):=by
 have hb3:=three_below w (.cells #[.pointer (some ⟨s.b,0,none⟩)] 88) (.cells #[.string p] 9) (.cells #[.string p] 9)
 have h3:=h.later hb3
 have hs:StrsAt (((w.alloc (.cells #[.pointer (some ⟨s.b,0,none⟩)] 88)).alloc (.cells #[.string p] 9)).alloc (.cells #[.string p] 9)) (.slice (some ⟨w.heap.size+1+1,0,none⟩) 1 1) [p]:=by
  refine ⟨_,1,rfl,fun i hi=>⟨_,rfl,?_⟩⟩
  have:i=0:=by simpa using hi
  subst this
  exact cell_of_row _ _ 0 _ _ _ (three2 _ _ _ _ _)
 have HST:=hide (pstep_one s ⟨#[83,121,110,99]⟩ _ p 252 #[.pointer (some ⟨w.heap.size,0,none⟩),.pointer (some ⟨w.heap.size+1,0,none⟩)] _ _ _ h3 hs hp hf (Tryz.enter _ _ Tryz.func252 (by kernel_rfl) _ rfl) (fun hpp=>psyncC s _ _ p _ h3 (cell_of_row _ _ 0 _ _ _ (three0 _ _ _ _ _)) (cell_of_row _ _ 0 _ _ _ (three1 _ _ _ _ _)) hp hpp))
 have HB:=hide hb3
 have H:=hide h
 clear hb3 h3 hs h
 go_enter Tryz.func229,Tryz.ntmps229
 go_wp2_with fail
 refine (HST.out).mono ?_
 rintro _ w' ⟨v,rfl,h1,h2,h3⟩
 dsimp only
 have H1:=hide h1
 have H2:=hide h2
 have H3:=hide h3
 clear h1 h2 h3
 go_wp2_with fail
 go_ret
 refine ⟨_,rfl,fun h=>(H1.out h).below H.out HB.out,fun h h0=>(H2.out h h0).below H.out HB.out,fun h h0 hn=>?_,fun f h h0 hn=>?_⟩
 ·rcases H3.out h h0 with ⟨k,⟨rfl,_⟩,h4,h5⟩|⟨rfl,s1,h4,f,h5,_⟩
  ·exact (PRet.bad (by decide) h4 h5).below H.out HB.out
  ·rw [hn] at h5;cases h5
 ·rcases H3.out h h0 with ⟨k,⟨rfl,h6⟩,h4,h5⟩|⟨rfl,s1,h4,f',h5,h6,h7,h8⟩
  ·rw [hn] at h6;cases h6
  ·rw [hn] at h5
   injection h5 with h5
   subst h5
   exact (PRet.ok h4 ⟨by dsimp only;rw [h6],h7,h8⟩).below H.out HB.out
set_option maxHeartbeats 2000000
set_option maxRecDepth 100000
open Go.RowKit
def ptrRd1:Value→Option (DataW Unit × List MemPlace)
 | .pointer (some ⟨b,0,none⟩)=>some (.lit (.int .i64 (b:Int)),[])
 | _=>none
theorem ptrRd1_inv {v:Value} {z:DataW Unit × List MemPlace} (h:ptrRd1 v=some z):∃ b:Nat,v = .pointer (some ⟨b,0,none⟩):=by
 unfold ptrRd1 at h
 split at h
 ·exact ⟨_,rfl⟩
 ·cases h
theorem ptrRd1_of (b:Nat):ptrRd1 (.pointer (some ⟨b,0,none⟩))=some (.lit (.int .i64 (b:Int)),[]):=rfl
theorem PM.strict {P:Program} {k:TypeId} {w:World} {b:Nat} {l:List DE} (h:PM P k w b l):w.ownsMap P k ptrRd1 b l.length (dOf l):=by
 obtain ⟨es,clock,hb,F,hs,hD⟩:=h
 have hst:∀ x∈es.toList,∀ z,ptrRd x.val=some z→ptrRd1 x.val=some z:=by
  intro x hx z hz
  obtain ⟨y,hy⟩:=F.reads x hx
  have hm:WideElems.rg P k ptrRd x∈l.map dE:=by
   have:WideElems.rg P k ptrRd x∈(es.toList.map (WideElems.rg P k ptrRd)).foldr DataW.insert []:=mem_sorted.2 (List.mem_map.2 ⟨x,hx,rfl⟩)
   injection hD with hD
   rw [hD];exact this
  rw [WideElems.rg_of hy] at hm
  obtain ⟨e,_,he⟩:=List.mem_map.1 hm
  obtain ⟨z',hz',hyz⟩:=WideElems.rd_val hy
  rw [hz] at hz'
  injection hz' with hz'
  subst hz'
  rcases ptrRd_inv hz with ⟨_,e2⟩|⟨b',e1,e2⟩
  ·rw [e2,← he] at hyz
   cases hyz
  ·rw [e1,e2];rfl
 obtain ⟨F1,hmap,_⟩:=F.stay hst
 exact ⟨es,clock,hb,F1,hs,by rw [hmap];exact hD⟩
theorem next_find {l:List DE} {x:ByteArray} {f:Nat} {d:DataW Unit} (hat:∀ zd,(dOf l).atKey (kOf x) zd=d) (hd:d = .lit (.int .i64 (f:Int))):findE x l=some f:=by
 have h1:=hat .nil
 rw [dOf_at,hd] at h1
 cases hf:findE x l with
 | none=>rw [hf] at h1;cases h1
 | some g =>
  rw [hf] at h1
  simp only [ptrD,DataW.lit.injEq,Lit.int.injEq,true_and] at h1
  have:g=f:=by omega
  rw [this]
def usedL (fd:Nat→ByteArray × Int) (left:Lit→Bool):List DE→Nat
 | []=>0
 | e::es=>(if left (kOf e.path) then 0 else (fd e.blk).1.size)+usedL fd left es
theorem usedL_none (fd:Nat→ByteArray × Int) (left:Lit→Bool):∀ l:List DE,(∀ k,left k=false)→usedL fd left l=usedE fd l
 | [],_=>rfl
 | e::es,h=>by unfold usedL usedE;rw [h,usedL_none fd left es h];simp
theorem usedL_all (fd:Nat→ByteArray × Int) (left:Lit→Bool):∀ l:List DE,(∀ e∈l,left (kOf e.path)=true)→usedL fd left l=0
 | [],_=>rfl
 | e::es,h=>by unfold usedL;rw [h e (by simp),usedL_all fd left es (fun x hx=>h x (by simp [hx]))];simp
theorem usedL_le (fd:Nat→ByteArray × Int) (left:Lit→Bool):∀ l:List DE,usedL fd left l≤usedE fd l
 | []=>Nat.le_refl _
 | e::es=>by
  unfold usedL usedE
  have:=usedL_le fd left es
  split<;>omega
theorem usedL_off (fd:Nat→ByteArray × Int) (left:Lit→Bool) (x:ByteArray):∀ l:List DE,(∀ e∈l,e.path≠x)→usedL fd (fun z=>left z && !z.sameKey (kOf x)) l=usedL fd left l
 | [],_=>rfl
 | e::es,h=>by
  unfold usedL
  rw [usedL_off fd left x es (fun y hy=>h y (by simp [hy]))]
  have:(kOf e.path).sameKey (kOf x)=false:=by rw [kOf_same];exact decide_eq_false (h e (by simp))
  simp [this]
theorem usedL_step (fd:Nat→ByteArray × Int) (left:Lit→Bool) (x:ByteArray) (f:Nat) (hx:left (kOf x)=true):∀ l:List DE,Rise l→findE x l=some f→usedL fd (fun z=>left z && !z.sameKey (kOf x)) l=usedL fd left l+(fd f).1.size
 | [],_,h=>by cases h
 | e::es,hr,h=>by
  obtain ⟨h1,h2⟩:=List.pairwise_cons.1 hr
  unfold findE at h
  unfold usedL
  by_cases he:e.path=x
  ·rw [if_pos he] at h
   injection h with h
   rw [usedL_off fd left x es (fun y hy hyx=>by have:=h1 y hy;rw [hyx,he,less_irrefl] at this;cases this)]
   have e1:(kOf e.path).sameKey (kOf x)=true:=by rw [kOf_same];exact decide_eq_true he
   rw [he] at e1
   simp only [he,hx,e1,h]
   simp
   omega
  ·rw [if_neg he] at h
   rw [usedL_step fd left x f hx es h2 h]
   have e1:(kOf e.path).sameKey (kOf x)=false:=by rw [kOf_same];exact decide_eq_false he
   simp [e1]
   omega
theorem has_path {l:List DE} {e:DE} (h:e∈l):Maps.has (dOf l) (kOf e.path)=true:=by
 show (l.map dE).any _=true
 rw [List.any_eq_true]
 exact ⟨dE e,List.mem_map.2 ⟨e,h,rfl⟩,by show (kOf e.path).sameKey (kOf e.path)=true;rw [kOf_same];simp⟩
theorem str_inv {P:Program} {k:TypeId} (hk:P.underlying k=some .string) {key:Value} {kl:Lit} (h:keyOf P k key=some kl):∃ x:ByteArray,key = .string x:=by
 obtain ⟨s,e,_⟩:=WideMaps.string_of_keyOf hk h;exact ⟨s,e⟩
theorem str_key {P:Program} {k:TypeId} (hk:P.underlying k=some .string) {x:ByteArray} {kl:Lit} (h:keyOf P k (.string x)=some kl):kl=kOf x:=by
 obtain ⟨s,e,e2,_⟩:=WideMaps.string_of_keyOf hk h
 injection e with e
 rw [e2,e];rfl
theorem pused_any (s:PSt) (w:World) (h:s.In w) (hu:usedE s.fd s.R.now≤1000000000000) :
  Calls Tryz.prog 63 #[.pointer (some ⟨s.b,0,none⟩)] w fun e w'=>e = .returned (.int .i64 ((usedE s.fd s.R.now:Nat):Int))∧Below w.heap.size w w':=by
 have c1:w.cell? ⟨s.b,1,none⟩=some (.map (some s.mb)):=cell_of_row _ _ 1 _ _ _ h.is.blk
 have H:=hide h
 have HM:=hide h.is.now.strict
 have HR:=hide (h.is.now.rise (Maps.string_keyed Tryz.underlying9))
 have hml:=h.is.now.lt
 clear h
 go_enter Tryz.func63,Tryz.ntmps63
 go_wp2_with (at_range;refine wpList_range_own _ rfl _ 147 rfl 9 152 (Maps.string_keyed Tryz.underlying9) Tryz.underlying147 ptrRd1 s.mb s.R.now.length (dOf s.R.now) rfl HM.out ?_;intro w0 hrg0 hg0 hs0)
 go_frame
 have HRG:=hide hrg0
 have hB0:Below w.heap.size w w0:=⟨hg0.os,hg0.tape,hg0.output,hg0.size,fun k hk=>hg0.block k hk (by simp)⟩
 have HB0:=hide hB0
 clear hrg0 hg0 hB0
 go_loopw [3] (fun uv wr=>∃ left cnt,wr.ranges Tryz.prog 9 ptrRd1 s.mb w.heap.size s.R.now.length (dOf s.R.now) left cnt∧Below w.heap.size w wr∧w.heap.size+1≤wr.heap.size∧uv = .int .i64 ((usedL s.fd left s.R.now:Nat):Int)) (fun _ wr=>wr.rangeLeft s.mb w.heap.size)
 case atStart=>exact ⟨_,_,HRG.out,HB0.out,by omega,by rw [usedL_all _ _ _ (fun e he=>has_path he)];rfl⟩
 case round =>
  obtain ⟨left,cnt,hrg,hb,hsz,rfl⟩:=hrel
  have hle:=usedL_le s.fd left s.R.now
  have HB:=hide hb
  have HRGR:=hide hrg
  clear hb
  go_wp2_with (at_next;refine wpList_next_ranges _ rfl _ rfl 9 (Maps.string_keyed Tryz.underlying9) ptrRd1 Value.string (fun f:Nat=>Value.pointer (some ⟨f,0,none⟩)) (fun key kl hkey=>str_inv Tryz.underlying9 hkey) (fun v y hv=>ptrRd1_inv hv) s.mb w.heap.size _ _ _ _ rfl HRGR.out ?_ ?_)
  ·intro _ hl0
   have hval:=usedL_none s.fd left s.R.now hl0
   rw [hval]
   clear hrg hl0 hval
   go_wp2_with fail
   go_ret
   exact ⟨rfl,HB.out⟩
  ·intro x f kl d ps w1 cnt1 hkey hlk hv hat hrg1 hlt hg1 hs1 hen
   have hkl:=str_key Tryz.underlying9 hkey
   subst hkl
   rw [ptrRd1_of] at hv
   injection hv with hv
   injection hv with hd _
   have hfe:findE x s.R.now=some f:=next_find hat hd.symm
   have hfm:f∈s.fs:=by
    obtain ⟨e,he,hbe⟩:=findE_mem hfe
    rw [← hbe];exact H.out.inow e he
   have hb1:Below w.heap.size w w1:=HB.out.grown hg1 (by omega) (fun k hk=>by injection hk with hk;omega)
   have hfd:=(H.out.later hb1).fds f hfm
   obtain ⟨o,cap,hfv,_,_⟩:=hfd.shape
   have f0:w1.cell? ⟨f,0,none⟩=some (s.fv f):=cell_of_row _ _ 0 _ _ _ hfd.blk
   rw [hfv] at f0
   have hst:=usedL_step s.fd left x f hlk s.R.now HR.out hfe
   have hle1:=usedL_le s.fd (fun z=>left z && !z.sameKey (kOf x)) s.R.now
   rw [hst] at hle1
   have HST:=hide hst
   have HB1:=hide hb1
   have HRG1:=hide hrg1
   have HLT:=hide hlt
   have hsz1:w.heap.size+1≤w1.heap.size:=by omega
   have hsum:((usedL s.fd left s.R.now:Nat):Int)+(((s.fd f).1.size:Nat):Int)=((usedL s.fd left s.R.now+(s.fd f).1.size:Nat):Int):=by omega
   have HSUM:=hide hsum
   clear hrg hkey hlk hat hrg1 hlt hg1 hd hfe hfm hb1 hfd hfv hst hsum
   go_wp2_with fail
   go_roundw
   case rel=>exact ⟨_,cnt1,HRG1.out,HB1.out,hsz1,by rw [HST.out,HSUM.out]⟩
   case measure=>rw [HRG1.out.left_eq,HRGR.out.left_eq];exact HLT.out
set_option maxHeartbeats 1000000
set_option maxRecDepth 100000
open Go.RowKit
def PFit (R:RDk):Prop:=R.now.length≤100000000∧R.chg.length≤100000000
theorem path_small {p:ByteArray} (h:isPathB p=true):p.size≤1000000000:=by
 unfold isPathB at h
 simp only [Bool.and_eq_true,decide_eq_true_eq] at h
 omega
theorem applyE_mem {l:List DE} {c:CH} {e:DE} (h:e∈applyE l c):e∈l∨e.blk=c.blk:=by
 unfold applyE at h
 split at h
 ·rcases withE_mem h with h|⟨b,h,_⟩
  ·exact .inl h
  ·cases h
 ·rcases withE_mem h with h|⟨b,h,hb⟩
  ·rcases withE_mem h with h|⟨b,h,_⟩
   ·exact .inl h
   ·cases h
  ·injection h with h
   exact .inr (by rw [hb,h])
theorem PGo.change {s:PSt} {w w':World} (h:s.In w) {frm too:ByteArray} {f:Nat} {cv':Value} (hf:f∈s.fs) (hg:Gr (fun k=>k=s.b∨k=s.mb∨s.cv.ownBlock=some k) w w')
  (hd:PDIs w' s.b { s.R with now:=applyE s.R.now ⟨frm,too,f⟩,chg:=s.R.chg ++ [⟨frm,too,f⟩] } s.mb s.lb cv') (hv:NewOr w s.cv cv') :
  PGo s { s with R:={ s.R with now:=applyE s.R.now ⟨frm,too,f⟩,chg:=s.R.chg ++ [⟨frm,too,f⟩] },cv:=cv' } w w':=by
 refine PGo.disk h (hg.mono fun k _ e=>?_) hd (.inl rfl) (.inl rfl) hv ?_ h.isafe ?_
 ·rcases e with e|e|e
  ·exact .inl e
  ·exact .inr (.inl e)
  ·exact .inr (.inr (.inr e))
 ·intro e he
  rcases applyE_mem he with he|he
  ·exact h.inow e he
  ·rw [he];exact hf
 ·intro c hc
  rcases List.mem_append.1 hc with hc|hc
  ·exact h.ichg c hc
  ·simp only [List.mem_singleton] at hc
   rw [hc];exact hf
theorem premC (s:PSt) (g0 g1:Nat) (p:ByteArray) (w:World) (h:s.In w) (c0:w.cell? ⟨g0,0,none⟩=some (.pointer (some ⟨s.b,0,none⟩))) (c1:w.cell? ⟨g1,0,none⟩=some (.string p)) (hp:p.size≤9223372036854775807) (hpp:isPathB p=true) (hft:PFit s.R) :
  Calls Tryz.prog 167 #[.pointer (some ⟨g0,0,none⟩),.pointer (some ⟨g1,0,none⟩)] w fun e w1 =>
   (∃ k,(k=3∧findE p s.R.now=none)∧e = .returned (refV k)∧Below w.heap.size w w1)∨(e = .returned .nilIface∧∃ s1,PGo s s1 w w1∧s1.R.count=s.R.count∧s1.R.left=s.R.left∧∃ f,findE p s.R.now=some f∧s1.R = { s.R with now:=applyE s.R.now ⟨p,⟨#[]⟩,f⟩,chg:=s.R.chg ++ [⟨p,⟨#[]⟩,f⟩] }∧s1.fs=s.fs∧s1.fd=s.fd∧s1.mb=s.mb∧s1.lb=s.lb):=by
 have HF:=hide (pfind_any s.b s.R s.mb s.lb s.cv p w h.is hp)
 rw [hpp] at HF
 simp only [if_true] at HF
 have H:=hide h
 clear h
 cases hfo:findE p s.R.now with
 | none =>
  rw [hfo] at HF
  dsimp only [refV] at HF
  go_enter Tryz.func167,Tryz.ntmps167
  go_wp2_with fail
  refine (HF.out).mono ?_
  rintro _ w1 ⟨hw,rfl⟩
  subst hw
  dsimp only
  go_wp2_with fail
  go_ret
  exact .inl ⟨3,⟨rfl,by first|trivial|rfl⟩,rfl,Below.refl _ _⟩
 | some f =>
  rw [hfo] at HF
  dsimp only at HF
  have hm:f∈s.fs:=by
   obtain ⟨e,he,hb⟩:=findE_mem hfo
   rw [← hb];exact H.out.inow e he
  have HS:=hide (pchange_any s.b f s.R s.mb s.lb s.cv p ⟨#[]⟩ w H.out.is hft.1 hft.2 (path_small hpp) (by decide))
  go_enter Tryz.func167,Tryz.ntmps167
  go_wp2_with fail
  refine (HF.out).mono ?_
  rintro _ w1 ⟨hw,rfl⟩
  subst hw
  dsimp only
  go_wp2_with fail
  refine (HS.out).mono ?_
  rintro _ w2 ⟨rfl,hg2,cv',hd2,hn2⟩
  dsimp only
  have HGO:=hide (PGo.change H.out hm hg2 hd2 hn2)
  clear hg2 hd2 hn2
  go_wp2_with fail
  go_ret
  first
   | exact .inr ⟨rfl,_,HGO.out,rfl,rfl,f,by first|trivial|rfl,rfl,rfl,rfl,rfl,rfl⟩
   | exact ⟨rfl,_,HGO.out,rfl,rfl,rfl,rfl,rfl,rfl,rfl⟩
theorem pdRemoveM (s:PSt) (p:ByteArray) (w:World) (h:s.In w) (hp:p.size≤9223372036854775807) (hf:Cnt4 s.R) (hft:PFit s.R) :
  Calls Tryz.prog 117 #[.pointer (some ⟨s.b,0,none⟩),.string p] w fun e w'=>∃ v,e = .returned v ∧
   (isPathB p=false→PRet s w 2 (fun _=>True) v w') ∧
   (isPathB p=true→s.R.left=0→PRet s w 0 (fun s1=>s1=s) v w') ∧
   (isPathB p=true→s.R.left≠0→findE p s.R.now=none→PRet s w 3 (fun _=>True) v w') ∧
   (∀ f,isPathB p=true→s.R.left≠0→findE p s.R.now=some f→PRet s w 0 (fun s1=>s1.R=RDk.wrote { s.R with now:=applyE s.R.now ⟨p,⟨#[]⟩,f⟩,chg:=s.R.chg ++ [⟨p,⟨#[]⟩,f⟩] }∧s1.fs=s.fs∧s1.fd=s.fd∧s1.mb=s.mb∧s1.lb=s.lb) v w'):=by
 have hb3:=three_below w (.cells #[.pointer (some ⟨s.b,0,none⟩)] 88) (.cells #[.string p] 9) (.cells #[.string p] 9)
 have h3:=h.later hb3
 have hs:StrsAt (((w.alloc (.cells #[.pointer (some ⟨s.b,0,none⟩)] 88)).alloc (.cells #[.string p] 9)).alloc (.cells #[.string p] 9)) (.slice (some ⟨w.heap.size+1+1,0,none⟩) 1 1) [p]:=by
  refine ⟨_,1,rfl,fun i hi=>⟨_,rfl,?_⟩⟩
  have:i=0:=by simpa using hi
  subst this
  exact cell_of_row _ _ 0 _ _ _ (three2 _ _ _ _ _)
 have HST:=hide (pstep_one s ⟨#[82,101,109,111,118,101]⟩ _ p 167 #[.pointer (some ⟨w.heap.size,0,none⟩),.pointer (some ⟨w.heap.size+1,0,none⟩)] _ _ _ h3 hs hp hf (Tryz.enter _ _ Tryz.func167 (by kernel_rfl) _ rfl) (fun hpp=>premC s _ _ p _ h3 (cell_of_row _ _ 0 _ _ _ (three0 _ _ _ _ _)) (cell_of_row _ _ 0 _ _ _ (three1 _ _ _ _ _)) hp hpp hft))
 have HB:=hide hb3
 have H:=hide h
 clear hb3 h3 hs h
 go_enter Tryz.func117,Tryz.ntmps117
 go_wp2_with fail
 refine (HST.out).mono ?_
 rintro _ w' ⟨v,rfl,h1,h2,h3⟩
 dsimp only
 have H1:=hide h1
 have H2:=hide h2
 have H3:=hide h3
 clear h1 h2 h3
 go_wp2_with fail
 go_ret
 refine ⟨_,rfl,fun h=>(H1.out h).below H.out HB.out,fun h h0=>(H2.out h h0).below H.out HB.out,fun h h0 hn=>?_,fun f h h0 hn=>?_⟩
 ·rcases H3.out h h0 with ⟨k,⟨rfl,_⟩,h4,h5⟩|⟨rfl,s1,h4,f,h5,_⟩
  ·exact (PRet.bad (by decide) h4 h5).below H.out HB.out
  ·rw [hn] at h5;cases h5
 ·rcases H3.out h h0 with ⟨k,⟨rfl,h6⟩,h4,h5⟩|⟨rfl,s1,h4,f',h5,h6,h7,h8,h9,h10⟩
  ·rw [hn] at h6;cases h6
  ·rw [hn] at h5
   injection h5 with h5
   subst h5
   exact (PRet.ok h4 ⟨by dsimp only;rw [h6],h7,h8,h9,h10⟩).below H.out HB.out
theorem PRet.imp {s:PSt} {w w':World} {k:Int} {P P':PSt→Prop} {v:Value} (h:PRet s w k P v w') (hP:∀ s1,P s1→P' s1):PRet s w k P' v w' :=
 ⟨h.1,fun hk=>by obtain ⟨h1,s1,h2,h3⟩:=h.2 hk;exact ⟨h1,s1,h2,hP s1 h3⟩⟩
theorem pdRemove (s:PSt) (p:ByteArray) (w:World) (h:s.In w) (hp:p.size≤9223372036854775807) (hf:Cnt4 s.R) (hft:PFit s.R) :
  Calls Tryz.prog 117 #[.pointer (some ⟨s.b,0,none⟩),.string p] w fun e w'=>∃ v,e = .returned v ∧
   (isPathB p=false→PRet s w 2 (fun _=>True) v w') ∧
   (isPathB p=true→s.R.left=0→PRet s w 0 (fun s1=>s1=s) v w') ∧
   (isPathB p=true→s.R.left≠0→findE p s.R.now=none→PRet s w 3 (fun _=>True) v w') ∧
   (∀ f,isPathB p=true→s.R.left≠0→findE p s.R.now=some f→PRet s w 0 (fun s1=>s1.R=RDk.wrote { s.R with now:=applyE s.R.now ⟨p,⟨#[]⟩,f⟩,chg:=s.R.chg ++ [⟨p,⟨#[]⟩,f⟩] }∧s1.fs=s.fs∧s1.fd=s.fd) v w') :=
 (pdRemoveM s p w h hp hf hft).mono fun _ _ ⟨v,h1,h2,h3,h4,h5⟩=>⟨v,h1,h2,h3,h4,fun f a b c=>(h5 f a b c).imp fun _ e=>⟨e.1,e.2.1,e.2.2.1⟩⟩
theorem four_below (w:World) (o1 o2 o3 o4:Obj):Below w.heap.size w ((((w.alloc o1).alloc o2).alloc o3).alloc o4) :=
 (three_below w o1 o2 o3).alloc (three_below w o1 o2 o3).size o4
theorem four0 (w:World) (a:Array Value) (t:TypeId) (o2 o3 o4:Obj):((((w.alloc (.cells a t)).alloc o2).alloc o3).alloc o4).heap[w.heap.size]? = some (.cells a t (0,0)):=by
 rw [Below.heap_alloc _ _ _ (by simp<;>omega)];exact three0 _ _ _ _ _
theorem four1 (w:World) (o1:Obj) (a:Array Value) (t:TypeId) (o3 o4:Obj):((((w.alloc o1).alloc (.cells a t)).alloc o3).alloc o4).heap[w.heap.size+1]? = some (.cells a t (0,0)):=by
 rw [Below.heap_alloc _ _ _ (by simp<;>omega)];exact three1 _ _ _ _ _
theorem four2 (w:World) (o1 o2:Obj) (a:Array Value) (t:TypeId) (o4:Obj):((((w.alloc o1).alloc o2).alloc (.cells a t)).alloc o4).heap[w.heap.size+1+1]? = some (.cells a t (0,0)):=by
 rw [Below.heap_alloc _ _ _ (by simp)];exact three2 _ _ _ _ _
theorem four3 (w:World) (o1 o2 o3:Obj) (a:Array Value) (t:TypeId):((((w.alloc o1).alloc o2).alloc o3).alloc (.cells a t)).heap[w.heap.size+1+1+1]? = some (.cells a t (0,0)):=by
 have:=heap_alloc_new (((w.alloc o1).alloc o2).alloc o3) (.cells a t)
 rw [size_alloc,size_alloc,size_alloc] at this
 exact this
set_option maxHeartbeats 1000000
set_option maxRecDepth 100000
open Go.RowKit
theorem pstep_gen (s:PSt) (nm:ByteArray) (pv:Value) (ps:List ByteArray) (K:Nat) (cap:Array Value) (w:World) (Bad:Int→Prop) (P:PSt→Prop) (h:s.In w) (hs:StrsAt w pv ps) (hl:ps.length≤1000000000) (hp:∀ p∈ps,p.size≤9223372036854775807) (hf:Cnt4 s.R)
  (hcf:∀ (args:Array Value) (w:World),(callFunc K args).run Tryz.prog w = .ok (.enter K args) w)
  (hv:anyBad ps=false→Calls Tryz.prog K cap w fun e w1=>(∃ k,Bad k∧e = .returned (refV k)∧Below w.heap.size w w1)∨(e = .returned .nilIface∧∃ s1,PGo s s1 w w1∧s1.R.count=s.R.count∧s1.R.left=s.R.left∧P s1)) :
  Calls Tryz.prog 166 #[.pointer (some ⟨s.b,0,none⟩),.string nm,pv,.func (.func K) #[] cap] w fun e w'=>∃ v,e = .returned v ∧
   (anyBad ps=true→PRet s w 2 (fun _=>True) v w')∧(anyBad ps=false→s.R.left=0→PRet s w 0 (fun s1=>s1=s) v w') ∧
   (anyBad ps=false→s.R.left≠0→(∃ k,Bad k∧stepE w' v k∧Below w.heap.size w w')∨(v = .nilIface∧∃ s1,PGo s { s1 with R:=s1.R.wrote } w w'∧P s1)):=by
 cases hpp:anyBad ps with
 | true =>
  refine (pstep_bad s.b nm pv ps _ w hs hl hp hpp).mono ?_
  rintro e w' ⟨v,rfl,h1,h2⟩
  exact ⟨v,rfl,fun _=>PRet.bad (by decide) h1 h2,(fun h=>by cases h),(fun h=>by cases h)⟩
 | false =>
  by_cases h0:s.R.left=0
  ·refine (pstep_broken s nm pv ps _ w h hs hl hp hpp h0).mono ?_
   rintro e w' ⟨rfl,rfl⟩
   exact ⟨_,rfl,(fun h=>by cases h),fun _ _=>PRet.ok (PGo.refl h (Below.refl _ _)) rfl,fun _ h1=>absurd h0 h1⟩
  ·refine (pstep_run s nm pv ps K cap w Bad P h hs hl hp hpp h0 hf hcf (hv hpp)).mono ?_
   rintro e w' (⟨k,v,h1,rfl,h2,h3⟩|⟨rfl,h1⟩)
   ·exact ⟨v,rfl,(fun h=>by cases h),fun _ h1=>absurd h1 h0,fun _ _=>.inl ⟨k,h1,h2,h3⟩⟩
   ·exact ⟨_,rfl,(fun h=>by cases h),fun _ h1=>absurd h1 h0,fun _ _=>.inr ⟨rfl,h1⟩⟩
theorem anyBad_two (p q:ByteArray):anyBad [p,q] = !(isPathB p && isPathB q):=by
 simp [anyBad]
theorem prenC (s:PSt) (g0 g1 g2:Nat) (p q:ByteArray) (w:World) (h:s.In w) (c0:w.cell? ⟨g0,0,none⟩=some (.pointer (some ⟨s.b,0,none⟩))) (c1:w.cell? ⟨g1,0,none⟩=some (.string p)) (c2:w.cell? ⟨g2,0,none⟩=some (.string q)) (hp:p.size≤9223372036854775807) (hpp:isPathB p=true) (hqq:isPathB q=true) (hft:PFit s.R) :
  Calls Tryz.prog 171 #[.pointer (some ⟨g0,0,none⟩),.pointer (some ⟨g1,0,none⟩),.pointer (some ⟨g2,0,none⟩)] w fun e w1 =>
   (∃ k,(k=3∧findE p s.R.now=none)∧e = .returned (refV k)∧Below w.heap.size w w1)∨(e = .returned .nilIface∧∃ s1,PGo s s1 w w1∧s1.R.count=s.R.count∧s1.R.left=s.R.left∧∃ f,findE p s.R.now=some f∧s1.R=(if p=q then s.R else { s.R with now:=applyE s.R.now ⟨p,q,f⟩,chg:=s.R.chg ++ [⟨p,q,f⟩] })∧s1.fs=s.fs∧s1.fd=s.fd):=by
 have HF:=hide (pfind_any s.b s.R s.mb s.lb s.cv p w h.is hp)
 rw [hpp] at HF
 simp only [if_true] at HF
 have H:=hide h
 clear h
 cases hfo:findE p s.R.now with
 | none =>
  rw [hfo] at HF
  have key:Calls Tryz.prog 171 #[.pointer (some ⟨g0,0,none⟩),.pointer (some ⟨g1,0,none⟩),.pointer (some ⟨g2,0,none⟩)] w fun e w1=>e = .returned (refV 3)∧w1=w:=by
   dsimp only [refV] at HF ⊢
   go_enter Tryz.func171,Tryz.ntmps171
   go_wp2_with fail
   refine (HF.out).mono ?_
   rintro _ w1 ⟨hw,rfl⟩
   subst hw
   dsimp only
   go_wp2_with fail
   go_ret
   exact ⟨rfl,rfl⟩
  exact key.mono fun e w1 hh=>.inl ⟨3,⟨rfl,rfl⟩,hh.1,by rw [hh.2];exact Below.refl _ _⟩
 | some f =>
  rw [hfo] at HF
  dsimp only at HF
  have hm:f∈s.fs:=by
   obtain ⟨e,he,hb⟩:=findE_mem hfo
   rw [← hb];exact H.out.inow e he
  by_cases hpq:p=q
  ·have key:Calls Tryz.prog 171 #[.pointer (some ⟨g0,0,none⟩),.pointer (some ⟨g1,0,none⟩),.pointer (some ⟨g2,0,none⟩)] w fun e w1=>e = .returned .nilIface∧w1=w:=by
    subst hpq
    have e7:(p.toList != p.toList)=false:=by simp
    go_enter Tryz.func171,Tryz.ntmps171
    go_wp2_with fail
    refine (HF.out).mono ?_
    rintro _ w1 ⟨hw,rfl⟩
    subst hw
    dsimp only
    go_wp2_with fail
    go_ret
    exact ⟨rfl,rfl⟩
   exact key.mono fun e w1 hh=>.inr ⟨hh.1,s,PGo.refl H.out (by rw [hh.2];exact Below.refl _ _),rfl,rfl,f,rfl,by rw [if_pos hpq],rfl,rfl⟩
  ·have HS:=hide (pchange_any s.b f s.R s.mb s.lb s.cv p q w H.out.is hft.1 hft.2 (path_small hpp) (path_small hqq))
   have key:Calls Tryz.prog 171 #[.pointer (some ⟨g0,0,none⟩),.pointer (some ⟨g1,0,none⟩),.pointer (some ⟨g2,0,none⟩)] w fun e w1=>e = .returned .nilIface∧∃ cv',PGo s { s with R:={ s.R with now:=applyE s.R.now ⟨p,q,f⟩,chg:=s.R.chg ++ [⟨p,q,f⟩] },cv:=cv' } w w1:=by
    have e6:(p.toList == q.toList)=false:=by rw [beq_eq_false_iff_ne];exact fun e=>hpq ((toList_inj _ _).1 e)
    clear hpq
    go_enter Tryz.func171,Tryz.ntmps171
    go_wp2_with fail
    refine (HF.out).mono ?_
    rintro _ w1 ⟨hw,rfl⟩
    subst hw
    dsimp only
    go_wp2_with fail
    refine (HS.out).mono ?_
    rintro _ w2 ⟨rfl,hg2,cv',hd2,hn2⟩
    dsimp only
    have HGO:=hide (PGo.change H.out hm hg2 hd2 hn2)
    clear hg2 hd2 hn2
    go_wp2_with fail
    go_ret
    exact ⟨rfl,_,HGO.out⟩
   refine key.mono ?_
   rintro e w1 ⟨rfl,cv',hgo⟩
   exact .inr ⟨rfl,_,hgo,rfl,rfl,f,rfl,by rw [if_neg hpq],rfl,rfl⟩
theorem pdRename_fwd (b:Nat) (p q:ByteArray) (w:World) (Q:Value→World→Prop)
  (h:Calls Tryz.prog 166 #[.pointer (some ⟨b,0,none⟩),.string ⟨#[82,101,110,97,109,101]⟩,.slice (some ⟨w.heap.size+1+1+1,0,none⟩) 2 2,.func (.func 171) #[] #[.pointer (some ⟨w.heap.size,0,none⟩),.pointer (some ⟨w.heap.size+1,0,none⟩),.pointer (some ⟨w.heap.size+1+1,0,none⟩)]] ((((w.alloc (.cells #[.pointer (some ⟨b,0,none⟩)] 88)).alloc (.cells #[.string p] 9)).alloc (.cells #[.string q] 9)).alloc (.cells #[.string p,.string q] 9)) fun e w'=>∃ v,e = .returned v∧Q v w') :
  Calls Tryz.prog 120 #[.pointer (some ⟨b,0,none⟩),.string p,.string q] w fun e w'=>∃ v,e = .returned v∧Q v w':=by
 have HST:=hide h
 clear h
 go_enter Tryz.func120,Tryz.ntmps120
 go_wp2_with fail
 refine (HST.out).mono ?_
 rintro _ w' ⟨v,rfl,h1⟩
 dsimp only
 have H1:=hide h1
 clear h1
 go_wp2_with fail
 go_ret
 exact ⟨_,rfl,H1.out⟩
theorem pdRename (s:PSt) (p q:ByteArray) (w:World) (h:s.In w) (hp:p.size≤9223372036854775807) (hq:q.size≤9223372036854775807) (hf:Cnt4 s.R) (hft:PFit s.R) :
  Calls Tryz.prog 120 #[.pointer (some ⟨s.b,0,none⟩),.string p,.string q] w fun e w'=>∃ v,e = .returned v ∧
   ((isPathB p && isPathB q)=false→PRet s w 2 (fun _=>True) v w') ∧
   ((isPathB p && isPathB q)=true→s.R.left=0→PRet s w 0 (fun s1=>s1=s) v w') ∧
   ((isPathB p && isPathB q)=true→s.R.left≠0→findE p s.R.now=none→PRet s w 3 (fun _=>True) v w') ∧
   (∀ f,(isPathB p && isPathB q)=true→s.R.left≠0→findE p s.R.now=some f→PRet s w 0 (fun s1=>s1.R=RDk.wrote (if p=q then s.R else { s.R with now:=applyE s.R.now ⟨p,q,f⟩,chg:=s.R.chg ++ [⟨p,q,f⟩] })∧s1.fs=s.fs∧s1.fd=s.fd) v w'):=by
 have hb3:=four_below w (.cells #[.pointer (some ⟨s.b,0,none⟩)] 88) (.cells #[.string p] 9) (.cells #[.string q] 9) (.cells #[.string p,.string q] 9)
 have h3:=h.later hb3
 have hs:StrsAt ((((w.alloc (.cells #[.pointer (some ⟨s.b,0,none⟩)] 88)).alloc (.cells #[.string p] 9)).alloc (.cells #[.string q] 9)).alloc (.cells #[.string p,.string q] 9)) (.slice (some ⟨w.heap.size+1+1+1,0,none⟩) 2 2) [p,q]:=by
  refine ⟨_,2,rfl,fun i hi=>⟨_,rfl,?_⟩⟩
  have hi2:i=0∨i=1:=by simp at hi;omega
  rcases hi2 with rfl|rfl
  ·exact cell_of_row _ _ 0 _ _ _ (four3 _ _ _ _ _ _)
  ·exact cell_of_row _ _ 1 _ _ _ (four3 _ _ _ _ _ _)
 have hpq:∀ x∈[p,q],x.size≤9223372036854775807:=by
  intro x hx
  simp only [List.mem_cons,List.not_mem_nil,or_false] at hx
  rcases hx with rfl|rfl
  ·exact hp
  ·exact hq
 have hst:=(pstep_gen s ⟨#[82,101,110,97,109,101]⟩ _ [p,q] 171 #[.pointer (some ⟨w.heap.size,0,none⟩),.pointer (some ⟨w.heap.size+1,0,none⟩),.pointer (some ⟨w.heap.size+1+1,0,none⟩)] _ _ _ h3 hs (by simp) hpq hf (Tryz.enter _ _ Tryz.func171 (by kernel_rfl) _ rfl) (fun hpp=>prenC s _ _ _ p q _ h3 (cell_of_row _ _ 0 _ _ _ (four0 _ _ _ _ _ _)) (cell_of_row _ _ 0 _ _ _ (four1 _ _ _ _ _ _)) (cell_of_row _ _ 0 _ _ _ (four2 _ _ _ _ _ _)) hp (by rw [anyBad_two] at hpp;simp at hpp;exact hpp.1) (by rw [anyBad_two] at hpp;simp at hpp;exact hpp.2) hft))
 refine (pdRename_fwd s.b p q w _ hst).mono ?_
 rintro _ w' ⟨v,rfl,h1,h2,h3'⟩
 rw [anyBad_two] at h1 h2 h3'
 refine ⟨_,rfl,fun hb=>(h1 (by rw [hb];rfl)).below h hb3,fun hb h0=>(h2 (by rw [hb];rfl) h0).below h hb3,fun hb h0 hn=>?_,fun f hb h0 hn=>?_⟩
 ·rcases h3' (by rw [hb];rfl) h0 with ⟨k,⟨rfl,_⟩,h4,h5⟩|⟨rfl,s1,h4,f,h5,_⟩
  ·exact (PRet.bad (by decide) h4 h5).below h hb3
  ·rw [hn] at h5;cases h5
 ·rcases h3' (by rw [hb];rfl) h0 with ⟨k,⟨rfl,h6⟩,h4,h5⟩|⟨rfl,s1,h4,f',h5,h6,h7,h8⟩
  ·rw [hn] at h6;cases h6
  ·rw [hn] at h5
   injection h5 with h5
   subst h5
   exact (PRet.ok h4 ⟨by dsimp only;rw [h6],h7,h8⟩).below h hb3
theorem psdirC (s:PSt) (g0:Nat) (w:World) (h:s.In w) (c0:w.cell? ⟨g0,0,none⟩=some (.pointer (some ⟨s.b,0,none⟩))) (hl:s.R.safe.length+s.R.chg.length≤100000000) (hcf:ChFit s.R.chg) :
  Calls Tryz.prog 169 #[.pointer (some ⟨g0,0,none⟩)] w fun e w1=>e = .returned .nilIface∧PDIs w1 s.b { s.R with safe:=s.R.chg.foldl applyE s.R.safe,chg:=[] } s.mb s.lb (.slice none 0 0)∧Gr (fun k=>k=s.b∨k=s.lb) w w1:=by
 obtain ⟨o,c,hcv⟩:=own_sl h.is.chg
 have c3:w.cell? ⟨s.b,3,none⟩=some s.cv:=cell_of_row _ _ 3 _ _ _ h.is.blk
 rw [hcv] at c3
 have HS:=hide (fun (w':World) (hb:Below w.heap.size w w')=>psettle_any s.b s.R s.mb s.lb s.cv s.R.chg.length w' (h.later hb).is (Nat.le_refl _) hl hcf)
 simp only [List.take_length] at HS
 clear h
 generalize s.R.chg.length=n at c3 HS
 go_enter Tryz.func169,Tryz.ntmps169
 go_wp2_with fail
 go_region_with (go_at_call 85;refine (HS.out w.drew ((Below.refl _ _).drew)).mono ?_;rintro _ w6 ⟨rfl,hd6,hg6⟩)
 all_goals
  have HD:=hide hd6
  have HG:=hide hg6
  clear hd6 hg6
  go_wp2_with fail
  go_ret
  exact ⟨rfl,HD.out,gr_below ((Below.refl _ _).drew) HG.out⟩
theorem anyBad_nil:anyBad []=false:=rfl
theorem pdSyncDir (s:PSt) (w:World) (h:s.In w) (hf:Cnt4 s.R) (hl:s.R.safe.length+s.R.chg.length≤100000000) (hcf:ChFit s.R.chg) (hin:∀ e∈s.R.chg.foldl applyE s.R.safe,e.blk∈s.fs) :
  Calls Tryz.prog 118 #[.pointer (some ⟨s.b,0,none⟩)] w fun e w'=>∃ v,e = .returned v ∧
   (s.R.left=0→PRet s w 0 (fun s1=>s1=s) v w') ∧
   (s.R.left≠0→PRet s w 0 (fun s1=>s1.R=RDk.wrote { s.R with safe:=s.R.chg.foldl applyE s.R.safe,chg:=[] }∧s1.fs=s.fs∧s1.fd=s.fd) v w'):=by
 have hb1:Below w.heap.size w (w.alloc (.cells #[.pointer (some ⟨s.b,0,none⟩)] 88)):=(Below.refl _ _).alloc (Nat.le_refl _) _
 have h1:=h.later hb1
 have hs:StrsAt (w.alloc (.cells #[.pointer (some ⟨s.b,0,none⟩)] 88)) (.slice none 0 0) []:=⟨none,0,rfl,fun i hi=>by simp at hi⟩
 have HST:=hide (pstep_gen s ⟨#[83,121,110,99,68,105,114]⟩ _ [] 169 #[.pointer (some ⟨w.heap.size,0,none⟩)] _ (fun _=>False) (fun s1=>s1.R = { s.R with safe:=s.R.chg.foldl applyE s.R.safe,chg:=[] }∧s1.fs=s.fs∧s1.fd=s.fd) h1 hs (by simp) (by simp) hf (Tryz.enter _ _ Tryz.func169 (by kernel_rfl) _ rfl) (fun _=>(psdirC s _ _ h1 (cell_of_row _ _ 0 _ _ _ (heap_alloc_new _ _)) hl hcf).mono (by
  rintro e w1 ⟨rfl,hd,hg⟩
  refine .inr ⟨rfl,_,PGo.disk h1 (hg.mono fun k _ e=>?_) hd (.inl rfl) (.inl rfl) (.inr fun k hk=>by cases hk) h1.inow hin (fun c hc=>by cases hc),rfl,rfl,rfl,rfl,rfl⟩
  rcases e with e|e
  ·exact .inl e
  ·exact .inr (.inr (.inl e)))))
 have HB:=hide hb1
 have H:=hide h
 clear hb1 h1 hs h
 go_enter Tryz.func118,Tryz.ntmps118
 go_wp2_with fail
 refine (HST.out).mono ?_
 rintro _ w' ⟨v,rfl,_,h2,h3⟩
 dsimp only
 have H2:=hide h2
 have H3:=hide h3
 clear h2 h3
 go_wp2_with fail
 go_ret
 refine ⟨_,rfl,fun h0=>(H2.out anyBad_nil h0).below H.out HB.out,fun h0=>?_⟩
 rcases H3.out anyBad_nil h0 with ⟨k,h4,_⟩|⟨rfl,s1,h4,h6,h7,h8⟩
 ·exact absurd h4 id
 ·exact (PRet.ok h4 ⟨by dsimp only;rw [h6],h7,h8⟩).below H.out HB.out
theorem pdBreak (s:PSt) (n:Int) (w:World) (h:s.In w) :
  Calls Tryz.prog 53 #[.pointer (some ⟨s.b,0,none⟩),.int .i64 n] w fun e w'=>∃ v,e = .returned v ∧
   (n<0→PRet s w 5 (fun _=>True) v w')∧(¬ n<0→PRet s w 0 (fun s1=>s1 = { s with R:={ s.R with left:=n } }) v w'):=by
 have H:=hide h
 have c5:w.cell? ⟨s.b,5,none⟩=some (.int .i64 s.R.left):=cell_of_row _ _ 5 _ _ _ h.is.blk
 have bf:=fun j=>frozen_of_row w s.b j _ _ h.is.blk
 clear h
 by_cases hn:n<0
 ·have key:Calls Tryz.prog 53 #[.pointer (some ⟨s.b,0,none⟩),.int .i64 n] w fun e w'=>∃ v,e = .returned v∧stepE w' v 5∧Below w.heap.size w w':=by
   have hfin:stepE (w.alloc (.cells #[.string ⟨#[66,114,101,97,107]⟩,.iface 161 (.int .i64 5)] 167)) (.iface 165 (.pointer (some ⟨w.heap.size,0,none⟩))) 5:=⟨_,_,rfl,heap_alloc_new _ _⟩
   have HFIN:=hide hfin
   clear hfin
   go_enter Tryz.func53,Tryz.ntmps53
   go_wp2_with fail
   go_ret
   exact ⟨_,rfl,HFIN.out,(Below.refl _ _).alloc (Nat.le_refl _) _⟩
  refine key.mono ?_
  rintro e w' ⟨v,rfl,h1,h2⟩
  exact ⟨v,rfl,fun _=>PRet.bad (by decide) h1 h2,fun h=>absurd hn h⟩
 ·have hn2:decide (n<0)=false:=decide_eq_false hn
  have key:Calls Tryz.prog 53 #[.pointer (some ⟨s.b,0,none⟩),.int .i64 n] w fun e w'=>e = .returned .nilIface∧w'=w.setCell ⟨s.b,5,none⟩ (.int .i64 n):=by
   go_enter Tryz.func53,Tryz.ntmps53
   go_wp2_with fail
   go_ret
   exact ⟨rfl,rfl⟩
  refine key.mono ?_
  rintro e w' ⟨rfl,rfl⟩
  exact ⟨_,rfl,fun h=>absurd h hn,fun _=>PRet.ok (PGo.set H.out (grownBy_set _ _ _ _) (H.out.is.setLeft n) rfl rfl rfl) rfl⟩
set_option maxHeartbeats 1000000
set_option maxRecDepth 100000
open Go.RowKit
theorem ba_empty {s:ByteArray} (h:s.size=0):s=⟨#[]⟩:=ByteArray.ext (Array.eq_empty_of_size_eq_zero h)
theorem FD.cell {w:World} {f g cap:Nat} {x:ByteArray × Int} (h:FD w f x (.slice (some ⟨g,0,none⟩) x.1.size cap)) {j:Nat} (hj:j<x.1.data.toList.length):w.cell? ⟨g,j,none⟩=some (.int .u8 ((x.1.data.toList[j].toNat:Nat):Int)):=by
 rcases h.row.2 with ⟨h1,_⟩|⟨g',cap',cur,h1,_,hg,_,_,_,htk⟩
 ·cases h1
 ·injection h1 with h1
  injection h1 with h1
  injection h1 with h1
  subst h1
  have hj2:j<x.1.size:=by simpa using hj
  rw [cell_of_row w g _ _ _ _ hg]
  have:(cur.toList.take (x.1.size * 1))[j]? = (Lib.strCells x.1)[j]?:=by rw [htk]
  rw [List.getElem?_take,if_pos (by omega)] at this
  rw [← Array.getElem?_toList,this]
  simp [Lib.strCells,hj2]
theorem FD.text {w:World} {f:Nat} {x:ByteArray × Int} {v:Value} (h:FD w f x v):(convert 136 9 v).run Tryz.prog w = .ok (.string x.1) w:=by
 rcases h.row.2 with ⟨rfl,h0⟩|⟨g,cap,cur,hv,_⟩
 ·rw [run_convert_bytes_nil w 136 5 Tryz.underlying136 Tryz.underlying5 0 0 9 Tryz.underlying9,ba_empty h0]
  rfl
 ·subst hv
  have:=run_convert_bytes_back (P:=Tryz.prog) w 136 9 5 ⟨g,0,none⟩ cap x.1.data.toList Tryz.underlying136 Tryz.underlying5 Tryz.underlying9 (fun j hj=>by
   have hadd:(⟨g,0,none⟩ : Addr).add j=⟨g,j,none⟩:=by unfold Addr.add;split<;>simp_all
   rw [hadd]
   exact h.cell hj)
  have e1:x.1.data.toList.length=x.1.size:=by simp
  rw [e1] at this
  simpa using this
theorem pdRead (s:PSt) (p:ByteArray) (w:World) (h:s.In w) (hp:p.size≤9223372036854775807) :
  Calls Tryz.prog 80 #[.pointer (some ⟨s.b,0,none⟩),.string p] w fun e w'=>∃ v t,e = .returned (.tuple #[.string t,v]) ∧
   (isPathB p=false→PRet s w 2 (fun _=>True) v w'∧t=⟨#[]⟩) ∧
   (isPathB p=true→findE p s.R.now=none→PRet s w 3 (fun _=>True) v w'∧t=⟨#[]⟩) ∧
   (∀ f,isPathB p=true→findE p s.R.now=some f→PRet s w 0 (fun s1=>s1=s) v w'∧t=(s.fd f).1):=by
 have HF:=hide (pfind_any s.b s.R s.mb s.lb s.cv p w h.is hp)
 have H:=hide h
 clear h
 have bad:∀ k:Int,Calls Tryz.prog 108 #[.pointer (some ⟨s.b,0,none⟩),.string p] w (fun e w'=>w'=w∧e = .returned (.tuple #[.pointer none,.iface 161 (.int .i64 k)]))→Calls Tryz.prog 80 #[.pointer (some ⟨s.b,0,none⟩),.string p] w fun e w'=>∃ v,e = .returned (.tuple #[.string ⟨#[]⟩,v])∧stepE w' v k∧Below w.heap.size w w':=by
  intro k hk
  have HK:=hide hk
  have hfin:stepE (w.alloc (.cells #[.string ⟨#[82,101,97,100]⟩,.iface 161 (.int .i64 k)] 167)) (.iface 165 (.pointer (some ⟨w.heap.size,0,none⟩))) k:=⟨_,_,rfl,heap_alloc_new _ _⟩
  have HFIN:=hide hfin
  clear hfin hk
  go_enter Tryz.func80,Tryz.ntmps80
  go_wp2_with fail
  refine (HK.out).mono ?_
  rintro _ w1 ⟨hw,rfl⟩
  subst hw
  dsimp only
  go_wp2_with fail
  refine bodyPost_ret (results_tmp2 rfl _ _ _) rfl ?_
  exact ⟨_,rfl,HFIN.out,(Below.refl _ _).alloc (Nat.le_refl _) _⟩
 cases hpp:isPathB p with
 | false =>
  rw [hpp] at HF
  refine (bad 2 (by simpa [refV] using HF.out)).mono ?_
  rintro e w' ⟨v,rfl,h1,h2⟩
  exact ⟨v,_,rfl,fun _=>⟨PRet.bad (by decide) h1 h2,rfl⟩,(fun h=>by cases h),(fun _ h=>by cases h)⟩
 | true =>
  rw [hpp] at HF
  simp only [if_true] at HF
  cases hfo:findE p s.R.now with
  | none =>
   rw [hfo] at HF
   refine (bad 3 (by simpa [refV] using HF.out)).mono ?_
   rintro e w' ⟨v,rfl,h1,h2⟩
   exact ⟨v,_,rfl,(fun h=>by cases h),fun _ _=>⟨PRet.bad (by decide) h1 h2,rfl⟩,(fun _ _ h=>by cases h)⟩
  | some f =>
   rw [hfo] at HF
   dsimp only at HF
   have hm:f∈s.fs:=by
    obtain ⟨e,he,hb⟩:=findE_mem hfo
    rw [← hb];exact H.out.inow e he
   have hfd:=H.out.fds f hm
   have htx:=hfd.text
   obtain ⟨o,cap,hfv,_,_⟩:=hfd.shape
   have f0:w.cell? ⟨f,0,none⟩=some (s.fv f):=cell_of_row _ _ 0 _ _ _ hfd.blk
   rw [hfv] at f0 htx
   clear hfd hfv
   have key:Calls Tryz.prog 80 #[.pointer (some ⟨s.b,0,none⟩),.string p] w fun e w'=>e = .returned (.tuple #[.string (s.fd f).1,.nilIface])∧w'=w:=by
    go_enter Tryz.func80,Tryz.ntmps80
    go_wp2_with fail
    refine (HF.out).mono ?_
    rintro _ w1 ⟨hw,rfl⟩
    subst hw
    dsimp only
    go_wp2_with fail
    refine bodyPost_ret (results_tmp2 rfl _ _ _) rfl ?_
    exact ⟨rfl,rfl⟩
   refine key.mono ?_
   rintro e w' ⟨rfl,rfl⟩
   refine ⟨_,_,rfl,(fun h=>by cases h),(fun _ h=>by cases h),fun f' _ h=>?_⟩
   injection h with h
   subst h
   exact ⟨PRet.ok (PGo.refl H.out (Below.refl _ _)) rfl,rfl⟩
end Go.Proofs.YtncigfibncmioaaGreatDoor
